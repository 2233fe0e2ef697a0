import PyProof.Rows.All
import Wide.All
import OpenK.AllK
import Wide.FinOn
import HandS.ForMost
import HandS.IsInst
import HandS.WideBits
import HandS.Style
import HandS.SortInts
import HandS.EndTab
import HandS.NoneIn
import HandS.Walk
import PyProof.LongRange
import PySem.Challenge.RW_farwrap_k02_operations
set_option Elab.async false
set_option linter.all false
set_option maxRecDepth 100000
set_option maxHeartbeats 4000000
namespace Fw
open PySem L2
def rIntC : List V → Hp → VK → Prop := fun xs H Q => (∃ i, xs = [.int i] ∧ Q (.int i) H) ∨ ∃ k, xs = [.bl k] ∧ Q (.int (if k then 1 else 0)) H
def ab (x : Int) : Int := if x < 0 then -x else x
def rIsNn : R2 := fun x y H Q => y = .non ∧ Q (.bl (decide (x = .non))) H
def rAbsC : List V → Hp → VK → Prop := fun xs H Q => ∃ i, xs = [.int i] ∧ Q (.int (if i < 0 then -i else i)) H
def rLenS (K : PySem.W.Frag) : List V → Hp → VK → Prop := fun xs H Q => ∃ p ys, xs = [.ref p] ∧ (SqL K H p ys ∨ SqT K H p ys) ∧ Q (.int ys.length) H
section
variable {X : Cx} {CX : CXT} {k : Nat} {f : Addr} {fd : FuncData} {ps ks : List Str} {sp : Sp} {E : XK} {x : Str} {p pos : Pos} {kws : List Keyword} {tk : TA} {g : List Value → List Value → List Value} {gV : List V → List V → List V}
/-- f(k = v, ..), no positional argument -/
theorem pe_callK0 (F : FnOk X.prog X.w X.K X.mg X.base CX k f fd ps sp) (hr : Room k X.A) (hg : Gl X x) (hm : X.mg x = some (.ref f)) (hk : PySem.W.keepIn X.K (.ref f) = true) (hb : KBinds X.K fd ps ks g gV) (hx : Passes CX X E)
    (hkw : PK X kws tk) (hall : (backToKw pos (keywordEach kws X.env)).all (·.1.isSome) = true := by rfl) (hks : (backToKw pos (keywordEach kws X.env)).filterMap (·.1) = ks := by rfl)
    (hdb : (x == ("__debug__" : Str)) = false := by decide)
    (hpl : ((backTo pos (starEach [] X.env)).any (·.1) || (backToKw pos (keywordEach kws X.env)).any (·.1.isNone)) = false := by rfl) :
    PE X (.Call (.Name x p) [] kws pos) (tCallK sp gV E tNil tk) := by
  refine ⟨fun pins s σ H Q I h => ?_⟩
  refine wpAny_Call_Name_kw (ld_glob I hg hm ?_ hdb)
  refine PySem.W.callWith_KW0 (h₀ := X.base) I.ok.mod.kin hk hall ?_ hpl
  have q : tk σ H fun zs H2 => sp (gV [] zs) H2 Q E := h
  refine thn (hkw.run pos pins s σ H _ I q) fun ws s2 ⟨zs, H2, I2, rz, q2⟩ => ⟨I2.kIn, ?_⟩
  rw [hks]
  exact run_fnk F hr hb hx I2 .nil rz q2
end

section
variable {K : PySem.W.Frag} {C : Addr} {σ : L2.St} {H : Hp} {Q : VK} {D : Ends} {ta tb tc te : TE} {tt tu : TT} {r : R2}
theorem w_c {v : V} (q : Q v H) : tC v σ H Q := q
theorem w_var {i : Nat} {v : V} (h : σ[i]? = some (some v)) (q : Q v H) : tVar i σ H Q := ⟨v, h, q⟩
theorem w_v0 {v : V} {r : L2.St} (q : Q v H) : tVar 0 (some v :: r) H Q := ⟨v, rfl, q⟩
theorem w_n0 {y : Option V} {v : V} {r : L2.St} {Q : L2.St → Hp → Prop} (q : Q (some v :: r) H) : gName 0 v (y :: r) H Q := q
theorem w_v1 {x0 : Option V} {v : V} {r : L2.St} (q : Q v H) : tVar 1 (x0 :: some v :: r) H Q := ⟨v, rfl, q⟩
theorem w_n1 {x0 : Option V} {y : Option V} {v : V} {r : L2.St} {Q : L2.St → Hp → Prop} (q : Q (x0 :: some v :: r) H) : gName 1 v (x0 :: y :: r) H Q := q
theorem w_v2 {x0 x1 : Option V} {v : V} {r : L2.St} (q : Q v H) : tVar 2 (x0 :: x1 :: some v :: r) H Q := ⟨v, rfl, q⟩
theorem w_n2 {x0 x1 : Option V} {y : Option V} {v : V} {r : L2.St} {Q : L2.St → Hp → Prop} (q : Q (x0 :: x1 :: some v :: r) H) : gName 2 v (x0 :: x1 :: y :: r) H Q := q
theorem w_v3 {x0 x1 x2 : Option V} {v : V} {r : L2.St} (q : Q v H) : tVar 3 (x0 :: x1 :: x2 :: some v :: r) H Q := ⟨v, rfl, q⟩
theorem w_n3 {x0 x1 x2 : Option V} {y : Option V} {v : V} {r : L2.St} {Q : L2.St → Hp → Prop} (q : Q (x0 :: x1 :: x2 :: some v :: r) H) : gName 3 v (x0 :: x1 :: x2 :: y :: r) H Q := q
theorem w_v4 {x0 x1 x2 x3 : Option V} {v : V} {r : L2.St} (q : Q v H) : tVar 4 (x0 :: x1 :: x2 :: x3 :: some v :: r) H Q := ⟨v, rfl, q⟩
theorem w_n4 {x0 x1 x2 x3 : Option V} {y : Option V} {v : V} {r : L2.St} {Q : L2.St → Hp → Prop} (q : Q (x0 :: x1 :: x2 :: x3 :: some v :: r) H) : gName 4 v (x0 :: x1 :: x2 :: x3 :: y :: r) H Q := q
theorem w_v5 {x0 x1 x2 x3 x4 : Option V} {v : V} {r : L2.St} (q : Q v H) : tVar 5 (x0 :: x1 :: x2 :: x3 :: x4 :: some v :: r) H Q := ⟨v, rfl, q⟩
theorem w_n5 {x0 x1 x2 x3 x4 : Option V} {y : Option V} {v : V} {r : L2.St} {Q : L2.St → Hp → Prop} (q : Q (x0 :: x1 :: x2 :: x3 :: x4 :: some v :: r) H) : gName 5 v (x0 :: x1 :: x2 :: x3 :: x4 :: y :: r) H Q := q
theorem w_v6 {x0 x1 x2 x3 x4 x5 : Option V} {v : V} {r : L2.St} (q : Q v H) : tVar 6 (x0 :: x1 :: x2 :: x3 :: x4 :: x5 :: some v :: r) H Q := ⟨v, rfl, q⟩
theorem w_n6 {x0 x1 x2 x3 x4 x5 : Option V} {y : Option V} {v : V} {r : L2.St} {Q : L2.St → Hp → Prop} (q : Q (x0 :: x1 :: x2 :: x3 :: x4 :: x5 :: some v :: r) H) : gName 6 v (x0 :: x1 :: x2 :: x3 :: x4 :: x5 :: y :: r) H Q := q
theorem w_v7 {x0 x1 x2 x3 x4 x5 x6 : Option V} {v : V} {r : L2.St} (q : Q v H) : tVar 7 (x0 :: x1 :: x2 :: x3 :: x4 :: x5 :: x6 :: some v :: r) H Q := ⟨v, rfl, q⟩
theorem w_n7 {x0 x1 x2 x3 x4 x5 x6 : Option V} {y : Option V} {v : V} {r : L2.St} {Q : L2.St → Hp → Prop} (q : Q (x0 :: x1 :: x2 :: x3 :: x4 :: x5 :: x6 :: some v :: r) H) : gName 7 v (x0 :: x1 :: x2 :: x3 :: x4 :: x5 :: x6 :: y :: r) H Q := q
theorem w_v8 {x0 x1 x2 x3 x4 x5 x6 x7 : Option V} {v : V} {r : L2.St} (q : Q v H) : tVar 8 (x0 :: x1 :: x2 :: x3 :: x4 :: x5 :: x6 :: x7 :: some v :: r) H Q := ⟨v, rfl, q⟩
theorem w_n8 {x0 x1 x2 x3 x4 x5 x6 x7 : Option V} {y : Option V} {v : V} {r : L2.St} {Q : L2.St → Hp → Prop} (q : Q (x0 :: x1 :: x2 :: x3 :: x4 :: x5 :: x6 :: x7 :: some v :: r) H) : gName 8 v (x0 :: x1 :: x2 :: x3 :: x4 :: x5 :: x6 :: x7 :: y :: r) H Q := q
theorem w_v9 {x0 x1 x2 x3 x4 x5 x6 x7 x8 : Option V} {v : V} {r : L2.St} (q : Q v H) : tVar 9 (x0 :: x1 :: x2 :: x3 :: x4 :: x5 :: x6 :: x7 :: x8 :: some v :: r) H Q := ⟨v, rfl, q⟩
theorem w_n9 {x0 x1 x2 x3 x4 x5 x6 x7 x8 : Option V} {y : Option V} {v : V} {r : L2.St} {Q : L2.St → Hp → Prop} (q : Q (x0 :: x1 :: x2 :: x3 :: x4 :: x5 :: x6 :: x7 :: x8 :: some v :: r) H) : gName 9 v (x0 :: x1 :: x2 :: x3 :: x4 :: x5 :: x6 :: x7 :: x8 :: y :: r) H Q := q
theorem w_v10 {x0 x1 x2 x3 x4 x5 x6 x7 x8 x9 : Option V} {v : V} {r : L2.St} (q : Q v H) : tVar 10 (x0 :: x1 :: x2 :: x3 :: x4 :: x5 :: x6 :: x7 :: x8 :: x9 :: some v :: r) H Q := ⟨v, rfl, q⟩
theorem w_n10 {x0 x1 x2 x3 x4 x5 x6 x7 x8 x9 : Option V} {y : Option V} {v : V} {r : L2.St} {Q : L2.St → Hp → Prop} (q : Q (x0 :: x1 :: x2 :: x3 :: x4 :: x5 :: x6 :: x7 :: x8 :: x9 :: some v :: r) H) : gName 10 v (x0 :: x1 :: x2 :: x3 :: x4 :: x5 :: x6 :: x7 :: x8 :: x9 :: y :: r) H Q := q
theorem w_v11 {x0 x1 x2 x3 x4 x5 x6 x7 x8 x9 x10 : Option V} {v : V} {r : L2.St} (q : Q v H) : tVar 11 (x0 :: x1 :: x2 :: x3 :: x4 :: x5 :: x6 :: x7 :: x8 :: x9 :: x10 :: some v :: r) H Q := ⟨v, rfl, q⟩
theorem w_n11 {x0 x1 x2 x3 x4 x5 x6 x7 x8 x9 x10 : Option V} {y : Option V} {v : V} {r : L2.St} {Q : L2.St → Hp → Prop} (q : Q (x0 :: x1 :: x2 :: x3 :: x4 :: x5 :: x6 :: x7 :: x8 :: x9 :: x10 :: some v :: r) H) : gName 11 v (x0 :: x1 :: x2 :: x3 :: x4 :: x5 :: x6 :: x7 :: x8 :: x9 :: x10 :: y :: r) H Q := q
theorem w_v12 {x0 x1 x2 x3 x4 x5 x6 x7 x8 x9 x10 x11 : Option V} {v : V} {r : L2.St} (q : Q v H) : tVar 12 (x0 :: x1 :: x2 :: x3 :: x4 :: x5 :: x6 :: x7 :: x8 :: x9 :: x10 :: x11 :: some v :: r) H Q := ⟨v, rfl, q⟩
theorem w_n12 {x0 x1 x2 x3 x4 x5 x6 x7 x8 x9 x10 x11 : Option V} {y : Option V} {v : V} {r : L2.St} {Q : L2.St → Hp → Prop} (q : Q (x0 :: x1 :: x2 :: x3 :: x4 :: x5 :: x6 :: x7 :: x8 :: x9 :: x10 :: x11 :: some v :: r) H) : gName 12 v (x0 :: x1 :: x2 :: x3 :: x4 :: x5 :: x6 :: x7 :: x8 :: x9 :: x10 :: x11 :: y :: r) H Q := q
theorem w_v13 {x0 x1 x2 x3 x4 x5 x6 x7 x8 x9 x10 x11 x12 : Option V} {v : V} {r : L2.St} (q : Q v H) : tVar 13 (x0 :: x1 :: x2 :: x3 :: x4 :: x5 :: x6 :: x7 :: x8 :: x9 :: x10 :: x11 :: x12 :: some v :: r) H Q := ⟨v, rfl, q⟩
theorem w_n13 {x0 x1 x2 x3 x4 x5 x6 x7 x8 x9 x10 x11 x12 : Option V} {y : Option V} {v : V} {r : L2.St} {Q : L2.St → Hp → Prop} (q : Q (x0 :: x1 :: x2 :: x3 :: x4 :: x5 :: x6 :: x7 :: x8 :: x9 :: x10 :: x11 :: x12 :: some v :: r) H) : gName 13 v (x0 :: x1 :: x2 :: x3 :: x4 :: x5 :: x6 :: x7 :: x8 :: x9 :: x10 :: x11 :: x12 :: y :: r) H Q := q
theorem w_v14 {x0 x1 x2 x3 x4 x5 x6 x7 x8 x9 x10 x11 x12 x13 : Option V} {v : V} {r : L2.St} (q : Q v H) : tVar 14 (x0 :: x1 :: x2 :: x3 :: x4 :: x5 :: x6 :: x7 :: x8 :: x9 :: x10 :: x11 :: x12 :: x13 :: some v :: r) H Q := ⟨v, rfl, q⟩
theorem w_n14 {x0 x1 x2 x3 x4 x5 x6 x7 x8 x9 x10 x11 x12 x13 : Option V} {y : Option V} {v : V} {r : L2.St} {Q : L2.St → Hp → Prop} (q : Q (x0 :: x1 :: x2 :: x3 :: x4 :: x5 :: x6 :: x7 :: x8 :: x9 :: x10 :: x11 :: x12 :: x13 :: some v :: r) H) : gName 14 v (x0 :: x1 :: x2 :: x3 :: x4 :: x5 :: x6 :: x7 :: x8 :: x9 :: x10 :: x11 :: x12 :: x13 :: y :: r) H Q := q
theorem w_v15 {x0 x1 x2 x3 x4 x5 x6 x7 x8 x9 x10 x11 x12 x13 x14 : Option V} {v : V} {r : L2.St} (q : Q v H) : tVar 15 (x0 :: x1 :: x2 :: x3 :: x4 :: x5 :: x6 :: x7 :: x8 :: x9 :: x10 :: x11 :: x12 :: x13 :: x14 :: some v :: r) H Q := ⟨v, rfl, q⟩
theorem w_n15 {x0 x1 x2 x3 x4 x5 x6 x7 x8 x9 x10 x11 x12 x13 x14 : Option V} {y : Option V} {v : V} {r : L2.St} {Q : L2.St → Hp → Prop} (q : Q (x0 :: x1 :: x2 :: x3 :: x4 :: x5 :: x6 :: x7 :: x8 :: x9 :: x10 :: x11 :: x12 :: x13 :: x14 :: some v :: r) H) : gName 15 v (x0 :: x1 :: x2 :: x3 :: x4 :: x5 :: x6 :: x7 :: x8 :: x9 :: x10 :: x11 :: x12 :: x13 :: x14 :: y :: r) H Q := q
theorem w_v16 {x0 x1 x2 x3 x4 x5 x6 x7 x8 x9 x10 x11 x12 x13 x14 x15 : Option V} {v : V} {r : L2.St} (q : Q v H) : tVar 16 (x0 :: x1 :: x2 :: x3 :: x4 :: x5 :: x6 :: x7 :: x8 :: x9 :: x10 :: x11 :: x12 :: x13 :: x14 :: x15 :: some v :: r) H Q := ⟨v, rfl, q⟩
theorem w_n16 {x0 x1 x2 x3 x4 x5 x6 x7 x8 x9 x10 x11 x12 x13 x14 x15 : Option V} {y : Option V} {v : V} {r : L2.St} {Q : L2.St → Hp → Prop} (q : Q (x0 :: x1 :: x2 :: x3 :: x4 :: x5 :: x6 :: x7 :: x8 :: x9 :: x10 :: x11 :: x12 :: x13 :: x14 :: x15 :: some v :: r) H) : gName 16 v (x0 :: x1 :: x2 :: x3 :: x4 :: x5 :: x6 :: x7 :: x8 :: x9 :: x10 :: x11 :: x12 :: x13 :: x14 :: x15 :: y :: r) H Q := q
theorem w_v17 {x0 x1 x2 x3 x4 x5 x6 x7 x8 x9 x10 x11 x12 x13 x14 x15 x16 : Option V} {v : V} {r : L2.St} (q : Q v H) : tVar 17 (x0 :: x1 :: x2 :: x3 :: x4 :: x5 :: x6 :: x7 :: x8 :: x9 :: x10 :: x11 :: x12 :: x13 :: x14 :: x15 :: x16 :: some v :: r) H Q := ⟨v, rfl, q⟩
theorem w_n17 {x0 x1 x2 x3 x4 x5 x6 x7 x8 x9 x10 x11 x12 x13 x14 x15 x16 : Option V} {y : Option V} {v : V} {r : L2.St} {Q : L2.St → Hp → Prop} (q : Q (x0 :: x1 :: x2 :: x3 :: x4 :: x5 :: x6 :: x7 :: x8 :: x9 :: x10 :: x11 :: x12 :: x13 :: x14 :: x15 :: x16 :: some v :: r) H) : gName 17 v (x0 :: x1 :: x2 :: x3 :: x4 :: x5 :: x6 :: x7 :: x8 :: x9 :: x10 :: x11 :: x12 :: x13 :: x14 :: x15 :: x16 :: y :: r) H Q := q
theorem w_v18 {x0 x1 x2 x3 x4 x5 x6 x7 x8 x9 x10 x11 x12 x13 x14 x15 x16 x17 : Option V} {v : V} {r : L2.St} (q : Q v H) : tVar 18 (x0 :: x1 :: x2 :: x3 :: x4 :: x5 :: x6 :: x7 :: x8 :: x9 :: x10 :: x11 :: x12 :: x13 :: x14 :: x15 :: x16 :: x17 :: some v :: r) H Q := ⟨v, rfl, q⟩
theorem w_n18 {x0 x1 x2 x3 x4 x5 x6 x7 x8 x9 x10 x11 x12 x13 x14 x15 x16 x17 : Option V} {y : Option V} {v : V} {r : L2.St} {Q : L2.St → Hp → Prop} (q : Q (x0 :: x1 :: x2 :: x3 :: x4 :: x5 :: x6 :: x7 :: x8 :: x9 :: x10 :: x11 :: x12 :: x13 :: x14 :: x15 :: x16 :: x17 :: some v :: r) H) : gName 18 v (x0 :: x1 :: x2 :: x3 :: x4 :: x5 :: x6 :: x7 :: x8 :: x9 :: x10 :: x11 :: x12 :: x13 :: x14 :: x15 :: x16 :: x17 :: y :: r) H Q := q
theorem w_v19 {x0 x1 x2 x3 x4 x5 x6 x7 x8 x9 x10 x11 x12 x13 x14 x15 x16 x17 x18 : Option V} {v : V} {r : L2.St} (q : Q v H) : tVar 19 (x0 :: x1 :: x2 :: x3 :: x4 :: x5 :: x6 :: x7 :: x8 :: x9 :: x10 :: x11 :: x12 :: x13 :: x14 :: x15 :: x16 :: x17 :: x18 :: some v :: r) H Q := ⟨v, rfl, q⟩
theorem w_n19 {x0 x1 x2 x3 x4 x5 x6 x7 x8 x9 x10 x11 x12 x13 x14 x15 x16 x17 x18 : Option V} {y : Option V} {v : V} {r : L2.St} {Q : L2.St → Hp → Prop} (q : Q (x0 :: x1 :: x2 :: x3 :: x4 :: x5 :: x6 :: x7 :: x8 :: x9 :: x10 :: x11 :: x12 :: x13 :: x14 :: x15 :: x16 :: x17 :: x18 :: some v :: r) H) : gName 19 v (x0 :: x1 :: x2 :: x3 :: x4 :: x5 :: x6 :: x7 :: x8 :: x9 :: x10 :: x11 :: x12 :: x13 :: x14 :: x15 :: x16 :: x17 :: x18 :: y :: r) H Q := q
theorem w_op (q : ta σ H fun x H1 => tb σ H1 fun y H2 => r x y H2 Q) : tOp r ta tb σ H Q := q
theorem w_un {r : V → Hp → VK → Prop} (q : ta σ H fun x H1 => r x H1 Q) : tUn r ta σ H Q := q
theorem w_chain {r' : R2} (q : ta σ H fun x H1 => tb σ H1 fun y H2 => r x y H2 fun z H3 => ∃ k, z = .bl k ∧ (if k = true then tc σ H3 fun w' H4 => r' y w' H4 Q else Q (.bl false) H3)) : tChain r r' ta tb tc σ H Q := q
theorem w_I {CC : Int → Int → Prop} {g : Int → Int → V} {i j : Int} (c : CC i j) (q : Q (g i j) H) : rI CC g (.int i) (.int j) H Q := ⟨i, j, rfl, rfl, c, q⟩
theorem w_I0 {g : Int → Int → V} {i j : Int} (q : Q (g i j) H) : rI0 g (.int i) (.int j) H Q := ⟨i, j, rfl, rfl, q⟩
theorem w_U {g : Int → V} {i : Int} (q : Q (g i) H) : rU g (.int i) H Q := ⟨i, rfl, q⟩
theorem w_eqI {i j : Int} (q : Q (.bl (decide (i = j))) H) : rEq (.int i) (.int j) H Q := by
  refine ⟨rfl, ?_⟩
  have e : decide (V.int i = V.int j) = decide (i = j) := by
    by_cases h : i = j
    · rw [h]; simp
    · rw [decide_eq_false h, decide_eq_false (fun z => h (V.int.inj z))]
  rw [e]; exact q
theorem w_neI {i j : Int} (q : Q (.bl (!decide (i = j))) H) : rNe (.int i) (.int j) H Q := by
  refine ⟨rfl, ?_⟩
  have e : decide (V.int i = V.int j) = decide (i = j) := by
    by_cases h : i = j
    · rw [h]; simp
    · rw [decide_eq_false h, decide_eq_false (fun z => h (V.int.inj z))]
  rw [e]; exact q
theorem w_eqB {i j : Bool} (q : Q (.bl (decide (i = j))) H) : rEq (.bl i) (.bl j) H Q := by
  refine ⟨rfl, ?_⟩
  have e : decide (V.bl i = V.bl j) = decide (i = j) := by
    by_cases h : i = j
    · rw [h]; simp
    · rw [decide_eq_false h, decide_eq_false (fun z => h (V.bl.inj z))]
  rw [e]; exact q
theorem w_neB {i j : Bool} (q : Q (.bl (!decide (i = j))) H) : rNe (.bl i) (.bl j) H Q := by
  refine ⟨rfl, ?_⟩
  have e : decide (V.bl i = V.bl j) = decide (i = j) := by
    by_cases h : i = j
    · rw [h]; simp
    · rw [decide_eq_false h, decide_eq_false (fun z => h (V.bl.inj z))]
  rw [e]; exact q
theorem w_eqS {i j : Str} (q : Q (.bl (decide (i = j))) H) : rEq (.str i) (.str j) H Q := by
  refine ⟨rfl, ?_⟩
  have e : decide (V.str i = V.str j) = decide (i = j) := by
    by_cases h : i = j
    · rw [h]; simp
    · rw [decide_eq_false h, decide_eq_false (fun z => h (V.str.inj z))]
  rw [e]; exact q
theorem w_test {Q : Bool → Hp → Prop} (q : te σ H fun x H' => ∃ k, x = .bl k ∧ Q k H') : tTest te σ H Q := q
theorem w_B {Q : Bool → Hp → Prop} (q : te σ H fun x H' => ∃ k, x = .bl k ∧ Q k H') : tB te σ H Q := q
theorem w_exb {b : Bool} {P : Bool → Prop} (q : P b) : ∃ k, V.bl b = .bl k ∧ P k := ⟨b, rfl, q⟩
theorem w_exi {i : Int} {P : Int → Prop} (q : P i) : ∃ k, V.int i = .int k ∧ P k := ⟨i, rfl, q⟩
theorem w_exr {a : Addr} {P : Addr → Prop} (q : P a) : ∃ k, V.ref a = .ref k ∧ P k := ⟨a, rfl, q⟩
theorem w_and {Q : Bool → Hp → Prop} (q : tt σ H fun c H1 => if c = true then tu σ H1 Q else Q false H1) : tAnd tt tu σ H Q := q
theorem w_or {Q : Bool → Hp → Prop} (q : tt σ H fun c H1 => if c = true then Q true H1 else tu σ H1 Q) : tOr tt tu σ H Q := q
theorem w_not {Q : Bool → Hp → Prop} (q : tt σ H fun c H1 => Q (!c) H1) : tNot tt σ H Q := q
theorem w_andV (q : ta σ H fun x H1 => ∃ c, x = .bl c ∧ if c = true then tb σ H1 Q else Q (.bl false) H1) : tAndV ta tb σ H Q := q
theorem w_orV (q : ta σ H fun x H1 => ∃ c, x = .bl c ∧ if c = true then Q (.bl true) H1 else tb σ H1 Q) : tOrV ta tb σ H Q := q
theorem w_notV (q : ta σ H fun x H1 => ∃ c, x = .bl c ∧ Q (.bl (!c)) H1) : tNotV ta σ H Q := q
/-- what evaluates to one value, whatever follows -/
theorem w_val (v : V) (hE : ∀ Q : VK, Q v H → te σ H Q) (q : Q v H) : te σ H Q := hE Q q
theorem w_if (q : tt σ H fun c H1 => if c = true then ta σ H1 Q else tb σ H1 Q) : tIf tt ta tb σ H Q := q
theorem w_nil {Q : List V → Hp → Prop} (q : Q [] H) : tNil σ H Q := q
theorem w_cons {tr : TA} {Q : List V → Hp → Prop} (q : ta σ H fun x H1 => tr σ H1 fun xs H2 => Q (x :: xs) H2) : tCons ta tr σ H Q := q
theorem w_call {sp : Sp} {E : XK} {t : TA} (q : t σ H fun vs H1 => sp (vs ++ []) H1 Q E) : tCall sp [] E t σ H Q := q
theorem w_callK {sp : Sp} {gV : List V → List V → List V} {E : XK} {t tk : TA} (q : t σ H fun vs H1 => tk σ H1 fun zs H2 => sp (gV vs zs) H2 Q E) : tCallK sp gV E t tk σ H Q := q
theorem w_make {sp : Sp} {E : XK} {t : TA} (q : t σ H fun vs H1 => ∀ x dx, H1 x = none → H1 dx = none → dx ≠ x → sp (.ref x :: (vs ++ [])) (upd (upd H1 dx (.own x)) x (.ins C dx [])) (fun v H2 => v = .non ∧ Q (.ref x) H2) E) : tMake C sp [] E t σ H Q := q
theorem w_cb {r : List V → Hp → VK → Prop} {t : TA} (q : t σ H fun vs H1 => r vs H1 Q) : tCB r t σ H Q := q
theorem w_int {i : Int} (q : Q (.int i) H) : rIntC [.int i] H Q := .inl ⟨i, rfl, q⟩
theorem w_intB {i : Bool} (q : Q (.int (if i then 1 else 0)) H) : rIntC [.bl i] H Q := .inr ⟨i, rfl, q⟩
theorem w_isNn (q : Q (.bl true) H) : rIsNn .non .non H Q := ⟨rfl, q⟩
theorem w_isNi {i : Int} (q : Q (.bl false) H) : rIsNn (.int i) .non H Q := ⟨rfl, q⟩
theorem w_abs {i : Int} (q : Q (.int (ab i)) H) : rAbsC [.int i] H Q := ⟨i, rfl, q⟩
theorem w_bits {to : TE} (q : to σ H fun x H1 => ∃ i, x = .int i ∧ Q (.int (Builtin.Int.intBits i : Nat)) H1) : tBits to σ H Q := q
theorem w_ixL {p : Addr} {xs : List V} {i : Int} {v : V} (h : H p = some (.lst xs)) (e : atI xs i = some v) (q : Q v H) : rIxL K (.ref p) (.int i) H Q := ⟨p, xs, i, v, rfl, rfl, SqL.of h, e, q⟩
theorem w_ixT {p : Addr} {xs : List V} {i : Int} {v : V} (h : H p = some (.tup xs)) (e : atI xs i = some v) (q : Q v H) : rIxT K (.ref p) (.int i) H Q := ⟨p, xs, i, v, rfl, rfl, SqT.of h, e, q⟩
theorem w_setL {p : Addr} {xs : List V} {i : Int} {v : V} {j : Nat} {Q : Hp → Prop} (h : H p = some (.lst xs)) (e : ixN xs.length i = some j) (q : Q (upd H p (.lst (xs.set j v)))) : rSetL (.ref p) (.int i) v H Q := ⟨p, xs, i, j, rfl, rfl, h, e, q⟩
theorem w_sl {r : V → Option Int → Option Int → Hp → VK → Prop} {tl th : TO} (q : te σ H fun x H1 => tl σ H1 fun l H2 => th σ H2 fun u H3 => r x l u H3 Q) : L2.tSl r te tl th σ H Q := q
theorem w_part {Q : Option Int → Hp → Prop} (q : te σ H fun x H1 => ∃ i, x = .int i ∧ Q (some i) H1) : tPart te σ H Q := q
theorem w_nopart {Q : Option Int → Hp → Prop} (q : Q none H) : tNoPart σ H Q := q
theorem w_slL {a : Addr} {xs : List V} {lo hi : Option Int} (h : SqL K H a xs) (q : ∀ p, H p = none → Q (.ref p) (upd H p (.lst (cutV xs lo hi)))) : rSlL K (.ref a) lo hi H Q := ⟨a, xs, rfl, h, q⟩
theorem w_lst {t : TA} (q : t σ H fun xs H1 => xs.length ≤ sizeLine ∧ ∀ p, H1 p = none → Q (.ref p) (upd H1 p (.lst xs))) : tLst t σ H Q := q
theorem w_tup {t : TA} (q : t σ H fun xs H1 => xs.length ≤ sizeLine ∧ ∀ p, H1 p = none → Q (.ref p) (upd H1 p (.tup xs))) : tTup t σ H Q := q
theorem w_cat {l b : Addr} {xs zs : List V} (h1 : H l = some (.lst xs)) (h2 : H b = some (.lst zs)) (n : xs.length + zs.length ≤ sizeLine) (q : ∀ p, H p = none → Q (.ref p) (upd H p (.lst (xs ++ zs)))) : rCat (.ref l) (.ref b) H Q := ⟨l, b, xs, zs, rfl, rfl, h1, h2, n, q⟩
theorem w_dnewK (q : ∀ d, H d = none → Q (.ref d) (upd H d (.dK []))) : tDNewK σ H Q := q
theorem w_eqNil {p q : Addr} (hp : H p = some (.lst [])) (hq : H q = some (.lst [])) (k : Q (.bl true) H) : rEqD K (.ref p) (.ref q) H Q := ⟨.list [], .list [], .lst (SqL.of hp) .nil, .lst (SqL.of hq) .nil, by decide, by decide, k⟩
theorem w_wipe1 {g : TG} {v : V} {vs : List Nat} {σ' : L2.St} {Q : L2.St → Hp → Prop} (e : wipe σ vs = σ') (q : g v σ' H Q) : g v (wipe σ vs) H Q := by rw [e]; exact q
theorem w_inT {p : Addr} {x : V} {xs : List V} (h : SqT K H p xs) (f1 : flatV x = true) (f2 : xs.all flatV = true) (q : Q (.bl (inV x xs)) H) : rIn K false x (.ref p) H Q := ⟨p, xs, rfl, .inr h, f1, f2, q⟩
theorem w_meth0 {C : Addr} {m : Str} {sp : Sp} {E : XK} (q : ta σ H fun x H1 => ∃ a dx fs, x = .ref a ∧ H1 a = some (.ins C dx fs) ∧ fs.lookup m = none ∧ sp (x :: ([] ++ [])) H1 Q E) : tMeth C m sp [] E ta tNil σ H Q := q
theorem w_par {i j : Nat} {t : TA} (q : t σ H fun vs H1 => ∃ v w, vs = [v, w] ∧ D.nx ((σ.set i (some v)).set j (some w)) H1) : tPar i j t D σ H := q
theorem w_exvw {a c : V} {P : V → V → Prop} (q : P a c) : ∃ v w, [a, c] = [v, w] ∧ P v w := ⟨a, c, rfl, q⟩
theorem w_while {tc : TT} {tb : TS} (W : Nat → L2.St → Hp → Prop) (m0 : Nat) (h0 : W m0 σ H) (hs : ∀ m σ H, W m σ H → tc σ H fun b H1 => if b = true then ∃ N : L2.St → Hp → Prop, (∀ σ' H', N σ' H' → ∃ m', m' < m ∧ W m' σ' H') ∧ tb { D with nx := N, ct := N, bk := D.nx } σ H1 else D.nx σ H1) : tWhile tc tb D σ H := ⟨W, ⟨m0, h0⟩, hs⟩
theorem w_rep {l : Addr} {k : Int} {xs : List V} (h : H l = some (.lst xs)) (k0 : 0 ≤ k) (k1 : k ≤ 1000) (n : xs.length * k.toNat ≤ sizeLine) (q : ∀ p, H p = none → Q (.ref p) (upd H p (.lst (List.replicate k.toNat xs).flatten))) : rRep (.ref l) (.int k) H Q := ⟨l, k, xs, rfl, rfl, h, by omega, by omega, n, q⟩
theorem w_dget {td ty : TE} (q : td σ H fun x H1 => ty σ H1 fun y H2 => ∃ a v, x = .ref a ∧ DGet H2 a y (some v) ∧ Q v H2) : tDGet td ty σ H Q := q
-- statements
theorem w_next (q : D.nx σ H) : tNext D σ H := q
theorem w_seq {t u : TS} (q : t { D with nx := u D } σ H) : tSeq t u D σ H := q
theorem w_drop (q : te σ H fun _ H1 => D.nx σ H1) : tDrop te D σ H := q
theorem w_ret (q : te σ H D.rt) : tRet te D σ H := q
theorem w_retN (q : D.rt .non H) : tRetN D σ H := q
theorem w_ifS {t u : TS} (q : tt σ H fun b H1 => if b = true then t D σ H1 else u D σ H1) : tIfS tt t u D σ H := q
theorem w_asg {g : TG} (q : te σ H fun x H1 => g x σ H1 D.nx) : tAsg te g D σ H := q
theorem w_name {i : Nat} {v : V} {Q : L2.St → Hp → Prop} (q : Q (σ.set i (some v)) H) : gName i v σ H Q := q
theorem w_gnil {Q : L2.St → Hp → Prop} (q : Q σ H) : gNil [] σ H Q := ⟨rfl, q⟩
theorem w_gcons {t : TG} {u : TGs} {v : V} {r : List V} {Q : L2.St → Hp → Prop} (q : t v σ H fun σ' H' => u r σ' H' Q) : gCons t u (v :: r) σ H Q := ⟨v, r, rfl, q⟩
theorem w_gtup {n : Nat} {t : TGs} {a : Addr} {xs : List V} {Q : L2.St → Hp → Prop} (h : H a = some (.tup xs)) (l : xs.length = n) (q : t xs σ H Q) : gTup K n t (.ref a) σ H Q := ⟨a, xs, rfl, SqT.of h, l, q⟩
theorem w_gsub {to ti : TE} {t : TSet} {v : V} {Q : L2.St → Hp → Prop} (q : to σ H fun o H1 => ti σ H1 fun i H2 => t o i v H2 fun H3 => Q σ H3) : gSub to ti t v σ H Q := q
/-- what a for asks of the thing walked -/
def ForW (g : TG) (tb : TS) (D : Ends) (σ : L2.St) (H1 : Hp) (J : It) : Prop := ∃ W : Nat → Nat → L2.St → Hp → Prop, (∃ m, W 0 m σ H1) ∧ ∀ i m σ H, W i m σ H →
    (J.stop i H ∧ D.nx σ H) ∨ (J.go i H ∧ ∃ N : L2.St → Hp → Prop, (∀ σ' H', N σ' H' → ∃ m', m' < m ∧ W (i + 1) m' σ' H') ∧ ∀ x H', J.yld i H x H' → g x σ H' fun σ2 H2 => tb { D with nx := N, ct := N, bk := D.nx } σ2 H2)
theorem w_for {wi : TI} {g : TG} {tb : TS} (q : wi σ H fun J H1 => ForW g tb D σ H1 J) : tFor wi g tb D σ H := q
def LcW (g : TG) (tt : TT) (te : TE) (vs : List Nat) (σ : L2.St) (Q : VK) (H1 : Hp) (J : It) : Prop := ∀ D, H1 D = none → ∃ W : Nat → Nat → Hp → Prop, (∃ m, W 0 m (upd H1 D (.lst []))) ∧ ∀ i m H, W i m H →
  (J.stop i H ∧ Q (.ref D) H) ∨ (J.go i H ∧ ∃ Nx : Hp → Prop, (∀ H', Nx H' → ∃ m', m' < m ∧ W (i + 1) m' H') ∧ ∀ x H', J.yld i H x H' → g x (wipe σ vs) H' fun σ2 H2 => wipe σ2 vs = wipe σ vs ∧ tt σ2 H2 fun b H3 =>
    if b = true then te σ2 H3 fun y H4 => ∃ acc, H4 D = some (.lst acc) ∧ acc.length < sizeLine ∧ Nx (upd H4 D (.lst (acc ++ [y]))) else Nx H3)
theorem w_lc {wi : TI} {g : TG} {vs : List Nat} (q : wi σ H fun J H1 => LcW g tt te vs σ Q H1 J) : tLc wi g tt te vs σ H Q := q
theorem w_yes {Q : Bool → Hp → Prop} (q : Q true H) : tYes σ H Q := q
theorem w_iList {tl : TE} {R : It → Hp → Prop} (q : tl σ H fun x H1 => ∃ a, x = .ref a ∧ (∃ xs, SqL K H1 a xs) ∧ R (Itl K a) H1) : iList K tl σ H R := q
theorem w_fld {f : Str} (q : ta σ H fun x H1 => ∃ a C dx fs v, x = .ref a ∧ H1 a = some (.ins C dx fs) ∧ Cls K C ∧ NoAttr K C f ∧ fs.lookup f = some v ∧ Q v H1) : tFld K ta f σ H Q := q
theorem w_sfld {tv : TE} {f : Str} (q : tv σ H fun y H1 => ta σ H1 fun x H2 => ∃ a C dx fs, x = .ref a ∧ H2 a = some (.ins C dx fs) ∧ Cls K C ∧ NoAttr K C f ∧ fs.length < 1000 ∧ D.nx σ (upd H2 a (.ins C dx (putF f y fs)))) : sFld K ta tv f D σ H := q
theorem w_len {p : Addr} {ys : List V} (h : H p = some (.lst ys)) (q : Q (.int (ys.length : Int)) H) : rLenS K [.ref p] H Q := ⟨p, ys, rfl, .inl (SqL.of h), q⟩
theorem w_all {p : Addr} {bs : List Bool} (h : H p = some (.lst (bs.map V.bl))) (q : Q (.bl (bs.all id)) H) : rAll K [.ref p] H Q := ⟨p, bs, rfl, SqL.of h, q⟩
theorem w_iRng1 {ta : TA} {R : It → Hp → Prop} (q : ta σ H fun vs H1 => ∃ j : Int, vs = [.int j] ∧ -(2 ^ 62) ≤ j ∧ j < 2 ^ 62 ∧ R (Itr 0 j.toNat) H1) : iRng1 ta σ H R := q
-- tests
theorem w_dec {P A B : Prop} [Decidable P] (h1 : P → A) (h2 : ¬ P → B) : if decide P = true then A else B := by
  by_cases h : P
  · rw [decide_eq_true h, if_pos rfl]; exact h1 h
  · rw [decide_eq_false h, if_neg Bool.false_ne_true]; exact h2 h
theorem w_ndec {P A B : Prop} [Decidable P] (h1 : ¬ P → A) (h2 : P → B) : if (!decide P) = true then A else B := by
  by_cases h : P
  · rw [decide_eq_true h]; exact iteF (h2 h)
  · rw [decide_eq_false h]; exact iteT (h1 h)
theorem w_decT {P A B : Prop} [Decidable P] (h : P) (q : A) : if decide P = true then A else B := by rw [decide_eq_true h, if_pos rfl]; exact q
theorem w_decF {P A B : Prop} [Decidable P] (h : ¬ P) (q : B) : if decide P = true then A else B := by rw [decide_eq_false h, if_neg Bool.false_ne_true]; exact q
theorem w_ndecT {P A B : Prop} [Decidable P] (h : P) (q : B) : if (!decide P) = true then A else B := by rw [decide_eq_true h]; exact iteF q
theorem w_ndecF {P A B : Prop} [Decidable P] (h : ¬ P) (q : A) : if (!decide P) = true then A else B := by rw [decide_eq_false h]; exact iteT q
theorem w_bT {b : Bool} {A B : Prop} (h : b = true) (q : A) : if b = true then A else B := by rw [if_pos h]; exact q
theorem w_bF {b : Bool} {A B : Prop} (h : b = false) (q : B) : if b = true then A else B := by rw [h]; exact iteF q
end

theorem map_get {α : Type} {f : α → V} {l : List α} {i : Nat} {x : V} (h : (l.map f)[i]? = some x) : ∃ z, l[i]? = some z ∧ x = f z := by
  rw [List.getElem?_map] at h
  cases e : l[i]? with
  | none => rw [e] at h; cases h
  | some z => rw [e] at h; exact ⟨z, rfl, (Option.some.inj h).symm⟩
theorem get_lt {α : Type} {l : List α} {i : Nat} {x : α} (h : l[i]? = some x) : i < l.length := (List.getElem?_eq_some_iff.mp h).1
theorem tk_more {α : Type} {l : List α} {i : Nat} {x : α} (h : l[i]? = some x) : l.take (i + 1) = l.take i ++ [x] := by
  rw [List.take_add_one, h]; rfl
/-- a new object leaves the others -/
theorem gn {H : Hp} {l q : Addr} {o u : HO} (h : H l = some o) (hn : H q = none) : (L2.upd H q u) l = some o := by
  rw [upd_ne (ne_of_none h hn)]; exact h
theorem cut_map {α : Type} (f : α → V) (ns : List α) (lo hi : Option Int) : ∃ ms : List α, cutV (ns.map f) lo hi = ms.map f ∧ ms.length ≤ ns.length ∧ ∀ m ∈ ms, m ∈ ns := by
  refine ⟨(ns.drop (HT.sIx (ns.map f).length 0 lo)).take (HT.sIx (ns.map f).length (ns.map f).length hi - HT.sIx (ns.map f).length 0 lo), ?_, ?_, fun m hm => List.mem_of_mem_drop (List.mem_of_mem_take hm)⟩
  · unfold cutV; rw [← List.map_drop, ← List.map_take]
  · rw [List.length_take, List.length_drop]; omega
theorem cut_take {α : Type} (f : α → V) (ns : List α) (n : Nat) : cutV (ns.map f) none (some (n : Int)) = (ns.take n).map f := by
  unfold cutV
  rw [HT.sIx_none, HT.sIx_nat, List.drop_zero, Nat.sub_zero, List.length_map, ← List.map_take]
  congr 1
  by_cases h : n ≤ ns.length
  · rw [Nat.min_eq_left h]
  · rw [Nat.min_eq_right (by omega), List.take_length, List.take_of_length_le (by omega)]
theorem sm_mut {H H' : Hp} {D : Addr} {o : HO} (a : Same H H') (h : H D = none) : Same H (L2.upd H' D o) := fun q u e => by
  rw [upd_ne (ne_of_none e h)]; exact a q u e
theorem cpow {j n : Nat} (h : j ≤ 1000000) (e : (n : Int).natAbs < 2 ^ 64) : CPow (n : Int) (j : Int) := ⟨Int.natCast_nonneg _, by omega, e⟩

/-! match over texts -/
structure PMs (X : Cx) (cs : List MatchCase) (t : V → TS) : Prop where
  run : ∀ (pins : List (Addr × Obj)) (s : Shared) (σ : L2.St) (H : Hp) (D : Ends) (v : V) (u : Value) (first : Bool), Inv X pins σ H s → RelV v u → t v D σ H →
    wpAny (model X.prog X.w) X.A (matchCases cs X.env u first) (SP X pins D) X.xe s
def tCaseS (x : Str) (tb : TS) (tr : V → TS) : V → TS := fun v D σ H => ∃ z, v = .str z ∧ if decide (z = x) = true then tb D σ H else tr v D σ H
def tCaseA (tb : TS) : V → TS := fun _ => tb
def tMatch (te : TE) (t : V → TS) : TS := fun D σ H => te σ H fun v H1 => t v D σ H1
section
variable {X : Cx} {body : List Stmt} {rest : List MatchCase} {tb : TS} {tr : V → TS}
theorem pm_nil : PMs X [] (fun _ => tNext) := ⟨fun pins s σ H D v u first I r q => wpAny_matchCases_nil ⟨σ, H, I, q⟩⟩
theorem pm_any {p : Pos} (hb : PSs X body tb) : PMs X (⟨.MatchAs none none p, none, body⟩ :: rest) (tCaseA tb) := by
  refine ⟨fun pins s σ H D v u first I r q => ?_⟩
  refine wpAny_matchCases_cons (wpAny_matchPattern_Capture ?_)
  exact wpAny_assignInOrder_none (hb.run pins s σ H D I q)
theorem pm_str {x : Str} {j : Nat} {p p2 : Pos} (hb : PSs X body tb) (hr : PMs X rest tr) : PMs X (⟨.MatchValue (.Constant (.str x) j p) p2, none, body⟩ :: rest) (tCaseS x tb tr) := by
  refine ⟨fun pins s σ H D v u first I r q => ?_⟩
  obtain ⟨z, rfl, q⟩ := q
  refine wpAny_matchCases_cons (wpAny_matchPattern_Value ?_)
  refine thn ((pe_str (X := X) (x := x) (j := j) (pos := p)).run pins s σ H (fun y H1 => y = .str x ∧ H1 = H) I ⟨rfl, rfl⟩) fun w s1 ⟨y, H1, I1, r1, e1, e2⟩ => ?_
  subst e1 e2
  refine thn (op_eq (X := X) pins s1 σ H1 (.str z) (.str x) u w (fun y H2 => y = .bl (decide (V.str z = V.str x)) ∧ H2 = H1) I1 r r1 ⟨rfl, rfl, rfl⟩) fun c s2 ⟨y, H2, I2, r2, e1, e2⟩ => ?_
  subst e1 e2
  cases r2
  refine wpAny_truthy_bool ?_
  have e : decide (V.str z = V.str x) = decide (z = x) := by
    by_cases h : z = x
    · rw [h]; simp
    · rw [decide_eq_false h, decide_eq_false (fun k => h (V.str.inj k))]
  rw [e]
  by_cases h : z = x
  · rw [decide_eq_true h, if_pos rfl] at q
    rw [decide_eq_true h]
    exact wpAny_assignInOrder_none (hb.run pins s2 σ H2 D I2 q)
  · rw [decide_eq_false h, if_neg Bool.false_ne_true] at q
    rw [decide_eq_false h]
    exact hr.run pins s2 σ H2 D _ u false I2 r q
theorem ps_match {e : Expr} {te : TE} {cs : List MatchCase} {t : V → TS} {pos : Pos} (he : PE X e te) (hc : PMs X cs t) : PS X (.Match e cs pos) (tMatch te t) := by
  refine ⟨fun pins s σ H D I h => wpAny_Match (thn (he.run pins s σ H _ I h) fun u s1 ⟨v, H1, I1, r1, q1⟩ => ?_)⟩
  exact hc.run pins s1 σ H1 D v u true I1 r1 q1
end
section
variable {σ : L2.St} {H : Hp} {D : Ends} {te : TE} {tb : TS} {tr : V → TS}
theorem w_match {t : V → TS} (q : te σ H fun v H1 => t v D σ H1) : tMatch te t D σ H := q
theorem w_caseA {v : V} (q : tb D σ H) : tCaseA tb v D σ H := q
theorem w_caseS {x z : Str} (q : if decide (z = x) = true then tb D σ H else tr (.str z) D σ H) : tCaseS x tb tr (.str z) D σ H := ⟨z, rfl, q⟩
theorem w_caseT {x : Str} (q : tb D σ H) : tCaseS x tb tr (.str x) D σ H := ⟨x, rfl, by rw [decide_eq_true rfl, if_pos rfl]; exact q⟩
theorem w_caseF {x z : Str} (h : z ≠ x) (q : tr (.str z) D σ H) : tCaseS x tb tr (.str z) D σ H := ⟨z, rfl, by rw [decide_eq_false h, if_neg Bool.false_ne_true]; exact q⟩
end
end Fw
namespace Fw
/-! ### steps x -> a * x + c, modulo a power of two -/
theorem gpos (w : Nat) : (0 : Int) < 2 ^ w := Int.pow_pos (by decide)
theorem g2S (w : Nat) : (2 : Int) ^ (w + 1) = 2 * 2 ^ w := by rw [Int.pow_succ, Int.mul_comm]
theorem gmd {S x y : Int} : x % S = y % S ↔ S ∣ x - y := by
  constructor
  · intro h
    exact Int.dvd_of_emod_eq_zero (Int.emod_eq_emod_iff_emod_sub_eq_zero.mp h)
  · intro h
    exact Int.emod_eq_emod_iff_emod_sub_eq_zero.mpr (Int.emod_eq_zero_of_dvd h)
theorem gpp {a b : Nat} (h : a ≤ b) : (2 : Int) ^ a ∣ 2 ^ b := ⟨2 ^ (b - a), by rw [← Int.pow_add]; congr 1; omega⟩
theorem gdv0 {S x : Int} : S ∣ x - x := by rw [Int.sub_self]; exact Int.dvd_zero _
theorem gdvS {S x y : Int} (h : S ∣ x - y) : S ∣ y - x := by
  rw [show y - x = -(x - y) by omega]; exact Int.dvd_neg.mpr h
theorem gdvT {S x y z : Int} (h : S ∣ x - y) (g : S ∣ y - z) : S ∣ x - z := by
  rw [show x - z = (x - y) + (y - z) by omega]; exact Int.dvd_add h g
/-- n steps -/
def gIt (a c : Int) : Nat → Int → Int
  | 0, x => x
  | n + 1, x => a * gIt a c n x + c
theorem gIt_one {a c x : Int} : gIt a c 1 x = a * x + c := rfl
theorem gIt_add (a c : Int) (m : Nat) : ∀ (n : Nat) (x : Int), gIt a c (m + n) x = gIt a c n (gIt a c m x)
  | 0, x => rfl
  | n + 1, x => by
    show a * gIt a c (m + n) x + c = a * gIt a c n (gIt a c m x) + c
    rw [gIt_add a c m n x]
theorem gIt_sub (a c : Int) : ∀ (n : Nat) (x y : Int), gIt a c n x - gIt a c n y = a ^ n * (x - y)
  | 0, x, y => by rw [Int.pow_zero, Int.one_mul]; rfl
  | n + 1, x, y => by
    show a * gIt a c n x + c - (a * gIt a c n y + c) = _
    rw [Int.pow_succ, Int.mul_comm (a ^ n) a, Int.mul_assoc, ← gIt_sub a c n x y, Int.mul_sub]; omega
theorem gIt_cong {S a a' c c' : Int} (ha : S ∣ a - a') (hc : S ∣ c - c') : ∀ (n : Nat) {x y : Int}, S ∣ x - y → S ∣ gIt a c n x - gIt a' c' n y
  | 0, x, y, h => h
  | n + 1, x, y, h => by
    have ih := gIt_cong ha hc n h
    show S ∣ a * gIt a c n x + c - (a' * gIt a' c' n y + c')
    have e : a * gIt a c n x + c - (a' * gIt a' c' n y + c') = a * (gIt a c n x - gIt a' c' n y) + (a - a') * gIt a' c' n y + (c - c') := by
      rw [Int.mul_sub, Int.sub_mul]; omega
    rw [e]
    exact Int.dvd_add (Int.dvd_add (Int.dvd_mul_of_dvd_right ih) (Int.dvd_mul_of_dvd_left ha)) hc
theorem gIt_congx {S a c : Int} (n : Nat) {x y : Int} (h : S ∣ x - y) : S ∣ gIt a c n x - gIt a c n y := gIt_cong gdv0 gdv0 n h
/-- (p, q) leads where n steps do -/
def gRep (S a c p q : Int) (n : Nat) : Prop := ∀ x, S ∣ p * x + q - gIt a c n x
theorem gRep_zero (S a c : Int) : gRep S a c 1 0 0 := fun x => by
  show S ∣ 1 * x + 0 - x
  rw [Int.one_mul, Int.add_zero]; exact gdv0
theorem gRep_one (S a c : Int) : gRep S a c a c 1 := fun x => gdv0
theorem gRep_onem (S a c : Int) : gRep S a c (a % S) (c % S) 1 := fun x => by
  have e1 : S ∣ a % S - a := Int.dvd_emod_sub_self
  have e2 : S ∣ c % S - c := Int.dvd_emod_sub_self
  show S ∣ a % S * x + c % S - (a * x + c)
  rw [show a % S * x + c % S - (a * x + c) = (a % S - a) * x + (c % S - c) by rw [Int.sub_mul]; omega]
  exact Int.dvd_add (Int.dvd_mul_of_dvd_left e1) e2
theorem gRep_comp {S a c p q p' q' : Int} {m n : Nat} (h1 : gRep S a c p q m) (h2 : gRep S a c p' q' n) : gRep S a c (p * p' % S) ((p' * q + q') % S) (m + n) := fun x => by
  have e1 : S ∣ p * p' % S - p * p' := Int.dvd_emod_sub_self
  have e2 : S ∣ (p' * q + q') % S - (p' * q + q') := Int.dvd_emod_sub_self
  have e3 := h2 (p * x + q)
  have e4 := gIt_congx (a := a) (c := c) n (h1 x)
  rw [gIt_add]
  have e : p * p' % S * x + (p' * q + q') % S - gIt a c n (gIt a c m x) = (p * p' % S - p * p') * x + ((p' * q + q') % S - (p' * q + q')) + (p' * (p * x + q) + q' - gIt a c n (p * x + q)) + (gIt a c n (p * x + q) - gIt a c n (gIt a c m x)) := by
    rw [Int.sub_mul, Int.mul_add, ← Int.mul_assoc, Int.mul_comm p' p]; omega
  rw [e]
  exact Int.dvd_add (Int.dvd_add (Int.dvd_add (Int.dvd_mul_of_dvd_left e1) e2) e3) e4
theorem gRep.mod {S a c p q : Int} {n : Nat} (h : gRep S a c p q n) (x : Int) : (p * x + q) % S = gIt a c n x % S := gmd.mpr (h x)
theorem gRep.it {S a c p q : Int} {n : Nat} (h : gRep S a c p q n) : ∀ (k : Nat) (x : Int), S ∣ gIt p q k x - gIt a c (n * k) x
  | 0, x => by rw [Nat.mul_zero]; exact gdv0
  | k + 1, x => by
    rw [Nat.mul_succ, gIt_add a c (n * k) n]
    show S ∣ p * gIt p q k x + q - _
    exact gdvT (h _) (gIt_congx n (h.it k x))
theorem god_pow {a : Int} (ha : a % 2 = 1) : ∀ n : Nat, a ^ n % 2 = 1
  | 0 => by rw [Int.pow_zero]; rfl
  | n + 1 => by rw [Int.pow_succ, Int.mul_emod, god_pow ha n, ha]; rfl
theorem gIt_full {a : Int} (ha : a % 2 = 1) (c : Int) : ∀ (w : Nat) (x : Int), (2 : Int) ^ w ∣ gIt a c (2 ^ w) x - x
  | 0, x => by rw [Int.pow_zero]; exact Int.one_dvd _
  | w + 1, x => by
    have ih := gIt_full ha c w x
    have e : gIt a c (2 ^ (w + 1)) x - x = (a ^ (2 ^ w) + 1) * (gIt a c (2 ^ w) x - x) := by
      rw [show 2 ^ (w + 1) = 2 ^ w + 2 ^ w by rw [Nat.pow_succ]; omega, gIt_add]
      have := gIt_sub a c (2 ^ w) (gIt a c (2 ^ w) x) x
      rw [Int.add_mul, Int.one_mul, ← this]; omega
    rw [e, g2S]
    have := god_pow ha (2 ^ w)
    exact Int.mul_dvd_mul (Int.dvd_of_emod_eq_zero (by omega)) ih
theorem gIt_fullm {a : Int} (ha : a % 2 = 1) (c : Int) (w : Nat) : ∀ (k : Nat) (x : Int), (2 : Int) ^ w ∣ gIt a c (2 ^ w * k) x - x
  | 0, x => gdv0
  | k + 1, x => by
    rw [Nat.mul_succ, gIt_add]
    exact gdvT (gIt_full ha c w _) (gIt_fullm ha c w k x)
theorem gIt_modn {a : Int} (ha : a % 2 = 1) (c : Int) (w : Nat) (m : Nat) (x : Int) : (2 : Int) ^ w ∣ gIt a c m x - gIt a c (m % 2 ^ w) x := by
  have e : m = 2 ^ w * (m / 2 ^ w) + m % 2 ^ w := (Nat.div_add_mod _ _).symm
  have h : gIt a c m x = gIt a c (m % 2 ^ w) (gIt a c (2 ^ w * (m / 2 ^ w)) x) := by
    rw [← gIt_add, ← e]
  rw [h]
  exact gIt_congx _ (gIt_fullm ha c w _ x)
theorem gnat_mod {w m n : Nat} (h : (2 : Int) ^ w ∣ (m : Int) - n) : m % 2 ^ w = n % 2 ^ w := by
  have e := gmd.mpr h
  have c : ((2 ^ w : Nat) : Int) = (2 : Int) ^ w := Int.natCast_pow 2 w
  rw [← c, ← Int.natCast_emod, ← Int.natCast_emod] at e
  exact Int.ofNat_inj.mp e
theorem gIt_modz {a : Int} (ha : a % 2 = 1) (c : Int) {w m n : Nat} (h : (2 : Int) ^ w ∣ (m : Int) - n) (x : Int) : (2 : Int) ^ w ∣ gIt a c m x - gIt a c n x := by
  have e := gnat_mod h
  have h1 := gIt_modn ha c w m x
  have h2 := gIt_modn ha c w n x
  rw [e] at h1
  exact gdvT h1 (gdvS h2)
theorem gpow_even {a : Int} (ha : a % 2 = 0) (w : Nat) : (2 : Int) ^ w ∣ a ^ w := by
  obtain ⟨b, rfl⟩ := Int.dvd_of_emod_eq_zero ha
  rw [Int.mul_pow]; exact Int.dvd_mul_right _ _
theorem gIt_even {a : Int} (ha : a % 2 = 0) (c : Int) {w n : Nat} (h : w ≤ n) (x : Int) : (2 : Int) ^ w ∣ gIt a c n x - gIt a c w x := by
  obtain ⟨k, rfl⟩ : ∃ k, n = k + w := ⟨n - w, by omega⟩
  rw [gIt_add, gIt_sub]
  exact Int.dvd_mul_of_dvd_left (gpow_even ha w)
/-- as many steps as are done for n -/
def gCnt (w : Nat) (a n : Int) : Nat := if a % 2 = 0 then (min n w).toNat else (n % 2 ^ w).toNat
def gAt (w : Nat) (a c x n : Int) : Int := gIt a c (gCnt w a n) x
theorem gAt_odd {w : Nat} {a c x n : Int} (ha : a % 2 = 1) {k : Nat} (h : (2 : Int) ^ w ∣ (k : Int) - n) : (2 : Int) ^ w ∣ gAt w a c x n - gIt a c k x := by
  unfold gAt gCnt
  rw [if_neg (by omega)]
  refine gIt_modz ha c ?_ x
  have h0 := Int.emod_nonneg n (Int.ne_of_gt (gpos w))
  rw [Int.toNat_of_nonneg h0]
  exact gdvT Int.dvd_emod_sub_self (gdvS h)
theorem gAt_nat (w : Nat) (a c x : Int) (n : Nat) : (2 : Int) ^ w ∣ gAt w a c x n - gIt a c n x := by
  rcases Int.emod_two_eq a with ha | ha
  · unfold gAt gCnt
    rw [if_pos ha]
    by_cases h : n ≤ w
    · rw [show (min (n : Int) w).toNat = n by omega]; exact gdv0
    · rw [show (min (n : Int) w).toNat = w by omega]
      exact gdvS (gIt_even ha c (by omega) x)
  · exact gAt_odd ha gdv0
/-- how often 2 divides, w at most -/
def gv : Nat → Int → Nat
  | 0, _ => 0
  | w + 1, n => if n % 2 = 0 then gv w (n / 2) + 1 else 0
theorem gv_le : ∀ (w : Nat) (n : Int), gv w n ≤ w
  | 0, _ => Nat.le_refl _
  | w + 1, n => by
    unfold gv
    have := gv_le w (n / 2)
    split <;> omega
theorem gv_iff : ∀ (w : Nat) (n : Int) (k : Nat), k ≤ gv w n ↔ k ≤ w ∧ (2 : Int) ^ k ∣ n
  | 0, n, k => by
    constructor
    · intro h
      have h : k ≤ 0 := h
      obtain rfl : k = 0 := by omega
      exact ⟨h, by rw [Int.pow_zero]; exact Int.one_dvd _⟩
    · intro h; exact h.1
  | w + 1, n, 0 => ⟨fun _ => ⟨by omega, by rw [Int.pow_zero]; exact Int.one_dvd _⟩, fun _ => by omega⟩
  | w + 1, n, k + 1 => by
    unfold gv
    by_cases h : n % 2 = 0
    · rw [if_pos h]
      have ih := gv_iff w (n / 2) k
      have e : n = 2 * (n / 2) := by omega
      constructor
      · intro hk
        obtain ⟨h1, t, ht⟩ := ih.mp (by omega)
        refine ⟨by omega, t, ?_⟩
        rw [g2S, Int.mul_assoc, ← ht]; exact e
      · rintro ⟨h1, t, ht⟩
        rw [g2S, Int.mul_assoc] at ht
        have := ih.mpr ⟨by omega, t, by omega⟩
        omega
    · rw [if_neg h]
      constructor
      · intro hk; omega
      · rintro ⟨h1, t, ht⟩
        rw [g2S, Int.mul_assoc] at ht
        omega
theorem gv_dvd (w : Nat) (n : Int) : (2 : Int) ^ gv w n ∣ n := ((gv_iff w n _).mp (Nat.le_refl _)).2
theorem gv_full {w : Nat} {n : Int} : (2 : Int) ^ w ∣ n ↔ gv w n = w := by
  have a := gv_le w n
  have b := gv_iff w n w
  constructor
  · intro h
    have := b.mpr ⟨Nat.le_refl _, h⟩
    omega
  · intro h
    exact (b.mp (by omega)).2
theorem gv_cong {w : Nat} {x y : Int} (h : (2 : Int) ^ w ∣ x - y) : gv w x = gv w y := by
  have key : ∀ {x y : Int}, (2 : Int) ^ w ∣ x - y → gv w x ≤ gv w y := fun {x y} h => by
    refine (gv_iff w y _).mpr ⟨gv_le w x, ?_⟩
    have h1 := Int.dvd_trans (gpp (gv_le w x)) h
    have h2 := gv_dvd w x
    rw [show y = x - (x - y) by omega]
    exact Int.dvd_sub h2 h1
  exact Nat.le_antisymm (key h) (key (gdvS h))
theorem gv_val {w j : Nat} {n a : Int} (h : n = 2 ^ j * (2 * a + 1)) (hj : j ≤ w) : gv w n = j := by
  have h1 := (gv_iff w n j).mpr ⟨hj, by rw [h]; exact Int.dvd_mul_right _ _⟩
  refine Nat.le_antisymm (Nat.le_of_not_lt fun c => ?_) h1
  obtain ⟨_, t, ht⟩ := (gv_iff w n (j + 1)).mp c
  have ht' : (2 : Int) ^ j * (2 * a + 1) = 2 ^ j * (2 * t) := by rw [← h, ht, g2S, Int.mul_assoc, Int.mul_left_comm]
  have := Int.eq_of_mul_eq_mul_left (Int.ne_of_gt (gpos j)) ht'
  omega
theorem gv_next (w : Nat) (z : Int) : gv w z = min w (gv (w + 1) z) := by
  have key : ∀ k, k ≤ gv w z ↔ k ≤ min w (gv (w + 1) z) := fun k => by
    rw [gv_iff, Nat.le_min, gv_iff]
    constructor
    · rintro ⟨a, b⟩; exact ⟨a, by omega, b⟩
    · rintro ⟨a, b, c⟩; exact ⟨a, c⟩
  exact Nat.le_antisymm ((key _).mp (Nat.le_refl _)) ((key _).mpr (Nat.le_refl _))
theorem gv_mul : ∀ (w : Nat) (y z : Int), gv w (y * z) = min w (gv w y + gv w z)
  | 0, y, z => by show 0 = min 0 _; omega
  | w + 1, y, z => by
    have nz := gv_next w z
    have ny := gv_next w y
    have lz := gv_le (w + 1) z
    have ly := gv_le (w + 1) y
    rcases Int.emod_two_eq y with hy | hy
    · have e : y * z = 2 * (y / 2 * z) := by rw [← Int.mul_assoc]; congr 1; omega
      have ih := gv_mul w (y / 2) z
      have g1 : gv (w + 1) (y * z) = gv w (y / 2 * z) + 1 := by
        show (if y * z % 2 = 0 then gv w (y * z / 2) + 1 else 0) = _
        rw [if_pos (by omega), show y * z / 2 = y / 2 * z by omega]
      have g2 : gv (w + 1) y = gv w (y / 2) + 1 := by
        show (if y % 2 = 0 then gv w (y / 2) + 1 else 0) = _
        rw [if_pos hy]
      rw [g1, ih, g2]; omega
    · have g0 : gv (w + 1) y = 0 := by
        show (if y % 2 = 0 then gv w (y / 2) + 1 else 0) = _
        rw [if_neg (by omega)]
      rcases Int.emod_two_eq z with hz | hz
      · have e : y * z = 2 * (y * (z / 2)) := by rw [Int.mul_left_comm]; congr 1; omega
        have ih := gv_mul w y (z / 2)
        have g1 : gv (w + 1) (y * z) = gv w (y * (z / 2)) + 1 := by
          show (if y * z % 2 = 0 then gv w (y * z / 2) + 1 else 0) = _
          rw [if_pos (by omega), show y * z / 2 = y * (z / 2) by omega]
        have g2 : gv (w + 1) z = gv w (z / 2) + 1 := by
          show (if z % 2 = 0 then gv w (z / 2) + 1 else 0) = _
          rw [if_pos hz]
        rw [g1, ih, g2]; omega
      · have g1 : gv (w + 1) (y * z) = 0 := by
          show (if y * z % 2 = 0 then gv w (y * z / 2) + 1 else 0) = _
          rw [if_neg (by rw [Int.mul_emod, hy, hz]; decide)]
        have g2 : gv (w + 1) z = 0 := by
          show (if z % 2 = 0 then gv w (z / 2) + 1 else 0) = _
          rw [if_neg (by omega)]
        rw [g1, g0, g2]; omega
theorem gv_pow (w : Nat) (a y : Int) : ∀ k : Nat, gv w (a ^ k * y) = min w (k * gv w a + gv w y)
  | 0 => by
    have := gv_le w y
    rw [Int.pow_zero, Int.one_mul]; omega
  | k + 1 => by
    rw [Int.pow_succ, Int.mul_comm (a ^ k) a, Int.mul_assoc, gv_mul, gv_pow w a y k, Nat.add_mul]; omega
theorem gLead {a : Int} (ha : a % 2 = 0) (c : Int) (w k : Nat) (x : Int) : (2 : Int) ^ w ∣ gIt a c k x - gIt a c w x ↔ w ≤ k * gv w a + gv w (x - gIt a c w x) := by
  have e1 : (2 : Int) ^ w ∣ gIt a c k (gIt a c w x) - gIt a c w x := by
    rw [← gIt_add]; exact gIt_even ha c (by omega) x
  have e2 := gIt_sub a c k x (gIt a c w x)
  have e3 : (2 : Int) ^ w ∣ gIt a c k x - gIt a c w x ↔ (2 : Int) ^ w ∣ a ^ k * (x - gIt a c w x) := by
    rw [← e2]
    exact ⟨fun h => gdvT h (gdvS e1), fun h => gdvT h e1⟩
  rw [e3, gv_full, gv_pow]; omega
/-- the quotient rounded up -/
theorem gceil {l t : Int} (ht : 0 < t) (hl : 0 ≤ l) : ∃ L : Nat, -((-l) / t) = (L : Int) ∧ l ≤ (L : Int) * t ∧ (∀ k : Nat, k < L → (k : Int) * t < l) ∧ (L : Int) ≤ l := by
  have e := Int.mul_ediv_add_emod (-l) t
  have r0 := Int.emod_nonneg (-l) (Int.ne_of_gt ht)
  have r1 := Int.emod_lt_of_pos (-l) ht
  have q0 : (-l) / t ≤ 0 := by
    refine Int.le_of_not_gt fun c => ?_
    have := Int.mul_le_mul_of_nonneg_left (show (1 : Int) ≤ (-l) / t by omega) (Int.le_of_lt ht)
    omega
  obtain ⟨L, hL⟩ := Int.eq_ofNat_of_zero_le (show 0 ≤ -((-l) / t) by omega)
  have eL : (L : Int) * t = l + (-l) % t := by
    have : (-l) / t = -(L : Int) := by omega
    rw [this, Int.mul_neg, Int.mul_comm] at e
    omega
  refine ⟨L, hL, by omega, fun k hk => ?_, ?_⟩
  · have h1 := Int.mul_le_mul_of_nonneg_right (show (k : Int) + 1 ≤ L by omega) (Int.le_of_lt ht)
    rw [Int.add_mul, Int.one_mul] at h1
    omega
  · by_cases c : L = 0
    · omega
    · have h1 := Int.mul_le_mul_of_nonneg_right (show (L : Int) - 1 + 1 ≤ L by omega) (Int.le_of_lt ht)
      have h2 := Int.mul_le_mul_of_nonneg_left (show (1 : Int) ≤ t by omega) (show 0 ≤ (L : Int) - 1 by omega)
      rw [Int.mul_one, Int.sub_mul, Int.one_mul] at h2
      omega
end Fw
local macro_rules | `(tactic| walk_at "rd") => `(tactic| repeat (first
  | (with_reducible show L2.tVar _ _ _ _; first | with_reducible refine Fw.w_v0 ?_ | with_reducible refine Fw.w_v1 ?_ | with_reducible refine Fw.w_v2 ?_ | with_reducible refine Fw.w_v3 ?_ | with_reducible refine Fw.w_v4 ?_ | with_reducible refine Fw.w_v5 ?_ | with_reducible refine Fw.w_v6 ?_ | with_reducible refine Fw.w_v7 ?_ | with_reducible refine Fw.w_v8 ?_ | with_reducible refine Fw.w_v9 ?_ | with_reducible refine Fw.w_v10 ?_ | with_reducible refine Fw.w_v11 ?_ | with_reducible refine Fw.w_v12 ?_ | with_reducible refine Fw.w_v13 ?_ | with_reducible refine Fw.w_v14 ?_ | with_reducible refine Fw.w_v15 ?_ | with_reducible refine Fw.w_v16 ?_ | with_reducible refine Fw.w_v17 ?_ | with_reducible refine Fw.w_v18 ?_ | with_reducible refine Fw.w_v19 ?_ | with_reducible refine Fw.w_var (by with_unfolding_all exact rfl) ?_)
  | with_reducible refine Fw.w_cons ?_
  | with_reducible refine Fw.w_c ?_
  | with_reducible refine Fw.w_op ?_
  | with_reducible refine Fw.w_nil ?_
  | with_reducible refine Fw.w_I0 ?_
  | with_reducible refine Fw.w_seq ?_
  | with_reducible refine Fw.w_asg ?_
  | (with_reducible show L2.gName _ _ (L2.wipe _ _) _ _; dsimp only [L2.wipe, List.set, List.map])
  | (with_reducible show L2.gTup _ _ _ _ (L2.wipe _ _) _ _; dsimp only [L2.wipe, List.set, List.map])
  | (with_reducible show L2.gName _ _ _ _ _; first | with_reducible refine Fw.w_n0 ?_ | with_reducible refine Fw.w_n1 ?_ | with_reducible refine Fw.w_n2 ?_ | with_reducible refine Fw.w_n3 ?_ | with_reducible refine Fw.w_n4 ?_ | with_reducible refine Fw.w_n5 ?_ | with_reducible refine Fw.w_n6 ?_ | with_reducible refine Fw.w_n7 ?_ | with_reducible refine Fw.w_n8 ?_ | with_reducible refine Fw.w_n9 ?_ | with_reducible refine Fw.w_n10 ?_ | with_reducible refine Fw.w_n11 ?_ | with_reducible refine Fw.w_n12 ?_ | with_reducible refine Fw.w_n13 ?_ | with_reducible refine Fw.w_n14 ?_ | with_reducible refine Fw.w_n15 ?_ | with_reducible refine Fw.w_n16 ?_ | with_reducible refine Fw.w_n17 ?_ | with_reducible refine Fw.w_n18 ?_ | with_reducible refine Fw.w_n19 ?_ | with_reducible refine Fw.w_name ?_)
  | with_reducible refine Fw.w_call ?_
  | with_reducible refine Fw.w_exb ?_
  | with_reducible refine Fw.w_test ?_
  | (with_reducible show L2.rI _ _ _ _ _ _; with_reducible refine Fw.w_I (by with_unfolding_all first | exact Or.inl ⟨by decide, by decide⟩ | exact Or.inr ⟨by decide, by decide⟩ | exact ⟨by decide, by decide⟩ | exact ⟨by decide, by decide, by decide⟩ | (show (0 : Int) < _; decide)) ?_)
  | with_reducible refine Fw.w_neI ?_
  | with_reducible refine Fw.w_ifS ?_
  | with_reducible refine Fw.w_next ?_
  | with_reducible refine Fw.w_callK ?_
  | with_reducible refine Fw.w_ret ?_
  | with_reducible refine Fw.w_cb ?_
  | with_reducible refine Fw.w_int ?_
  | (with_reducible show L2.rIxL _ _ _ _ _; with_reducible refine Fw.w_ixL (by first | assumption | exact L2.upd_same) (by with_unfolding_all rfl) ?_)
  | (with_reducible show L2.rIxT _ _ _ _ _; with_reducible refine Fw.w_ixT (by first | assumption | exact L2.upd_same) (by with_unfolding_all rfl) ?_)
  | (with_reducible show L2.rSetL _ _ _ _ _; with_reducible refine Fw.w_setL (by first | assumption | exact L2.upd_same) (by with_unfolding_all rfl) ?_)
  | (with_reducible show L2.gTup _ _ _ _ _ _ _; with_reducible refine Fw.w_gtup (by first | assumption | exact L2.upd_same) rfl ?_)
  | with_reducible refine Fw.w_U ?_
  | with_reducible refine Fw.w_un ?_
  | with_reducible refine Fw.w_eqI ?_
  | with_reducible refine Fw.w_eqB ?_
  | with_reducible refine Fw.w_neB ?_
  | with_reducible refine Fw.w_eqS ?_
  | with_reducible refine Fw.w_exi ?_
  | with_reducible refine Fw.w_exr ?_
  | with_reducible refine Fw.w_B ?_
  | with_reducible refine Fw.w_and ?_
  | with_reducible refine Fw.w_or ?_
  | with_reducible refine Fw.w_not ?_
  | with_reducible refine Fw.w_andV ?_
  | with_reducible refine Fw.w_notV ?_
  | with_reducible refine Fw.w_make ?_
  | with_reducible refine Fw.w_intB ?_
  | with_reducible refine Fw.w_abs ?_
  | with_reducible refine Fw.w_bits ?_
  | with_reducible refine Fw.w_sl ?_
  | with_reducible refine Fw.w_part ?_
  | with_reducible refine Fw.w_nopart ?_
  | with_reducible refine Fw.w_lst ?_
  | with_reducible refine Fw.w_tup ?_
  | with_reducible refine Fw.w_dnewK ?_
  | with_reducible refine Fw.w_dget ?_
  | with_reducible refine Fw.w_isNn ?_
  | with_reducible refine Fw.w_isNi ?_
  | with_reducible refine Fw.w_meth0 ?_
  | with_reducible refine Fw.w_match ?_
  | with_reducible refine Fw.w_caseA ?_
  | with_reducible refine Fw.w_caseT ?_
  | with_reducible refine Fw.w_par ?_
  | (with_reducible refine Fw.w_exvw ?_; try dsimp only [List.set])
  | with_reducible refine Fw.w_drop ?_
  | with_reducible refine Fw.w_retN ?_
  | with_reducible refine Fw.w_gnil ?_
  | with_reducible refine Fw.w_gcons ?_
  | with_reducible refine Fw.w_gsub ?_
  | with_reducible refine Fw.w_for ?_
  | with_reducible refine Fw.w_lc ?_
  | with_reducible refine Fw.w_yes ?_
  | with_reducible refine Fw.w_iList ?_
  | with_reducible refine Fw.w_iRng1 ?_
  | with_reducible refine Fw.w_sfld ?_))
namespace Fw
open PySem L2
def top (i : Nat) : Stmt := PySem.Challenge.pw_farwrap_k02_operations.main.body.getD i (.Pass ⟨0, 0, 0, 0⟩)
abbrev s_is_integer : Stmt := top 6
abbrev s_check_integer : Stmt := top 7
abbrev s_toward_zero : Stmt := top 8
abbrev s_exact_result : Stmt := top 14
abbrev s__bitwise : Stmt := top 15
abbrev s_is_word : Stmt := top 17
abbrev s_check_word : Stmt := top 18
abbrev s_Kind___init__ : Stmt := inClass (top 21) 0
abbrev s_check_kind : Stmt := top 22
abbrev s_check_value : Stmt := top 23
abbrev s_least : Stmt := top 24
abbrev s_greatest : Stmt := top 25
abbrev s_is_value : Stmt := top 26
abbrev s_wrapped : Stmt := top 27
abbrev s__check_operation : Stmt := top 28
abbrev s_operate : Stmt := top 29
abbrev s_overflows : Stmt := top 30
abbrev s__law_source_of : Stmt := top 32
abbrev s__law_next : Stmt := top 33
abbrev s__law_one : Stmt := top 34
abbrev s__law_cell_at : Stmt := top 35
abbrev s__law_power : Stmt := top 36
abbrev s__law_wide : Stmt := top 37
abbrev s__law_placed : Stmt := top 38
abbrev s__law_bits : Stmt := top 39
abbrev s__law_exact : Stmt := top 40
abbrev s__law_values : Stmt := top 41
abbrev s__law_right : Stmt := top 42
abbrev s_law : Stmt := top 43
theorem sc_is_integer : FnScope ["value"] ["value"] (defScope s_is_integer) := ⟨rfl, rfl, rfl, by decide +kernel, rfl, by decide +kernel, by decide +kernel⟩
theorem sc_check_integer : FnScope ["value", "argument"] ["value", "argument"] (defScope s_check_integer) := ⟨rfl, rfl, rfl, by decide +kernel, rfl, by decide +kernel, by decide +kernel⟩
theorem sc_toward_zero : FnScope ["x", "y", "quotient"] ["x", "y"] (defScope s_toward_zero) := ⟨rfl, rfl, rfl, by decide +kernel, rfl, by decide +kernel, by decide +kernel⟩
theorem sc_exact_result : FnScope ["name", "x", "y"] ["name", "x", "y"] (defScope s_exact_result) := ⟨rfl, rfl, rfl, by decide +kernel, rfl, by decide +kernel, by decide +kernel⟩
theorem sc__bitwise : FnScope ["name", "x", "y"] ["name", "x", "y"] (defScope s__bitwise) := ⟨rfl, rfl, rfl, by decide +kernel, rfl, by decide +kernel, by decide +kernel⟩
theorem sc_is_word : FnScope ["value", "words"] ["value", "words"] (defScope s_is_word) := ⟨rfl, rfl, rfl, by decide +kernel, rfl, by decide +kernel, by decide +kernel⟩
theorem sc_check_word : FnScope ["word", "words", "argument"] ["word", "words", "argument"] (defScope s_check_word) := ⟨rfl, rfl, rfl, by decide +kernel, rfl, by decide +kernel, by decide +kernel⟩
theorem sc_Kind___init__ : FnScope ["self", "bits", "is_signed"] ["self", "bits", "is_signed"] (defScope s_Kind___init__) := ⟨rfl, rfl, rfl, by decide +kernel, rfl, by decide +kernel, by decide +kernel⟩
theorem sc_check_kind : FnScope ["kind"] ["kind"] (defScope s_check_kind) := ⟨rfl, rfl, rfl, by decide +kernel, rfl, by decide +kernel, by decide +kernel⟩
theorem sc_check_value : FnScope ["kind", "x", "argument"] ["kind", "x", "argument"] (defScope s_check_value) := ⟨rfl, rfl, rfl, by decide +kernel, rfl, by decide +kernel, by decide +kernel⟩
theorem sc_least : FnScope ["kind"] ["kind"] (defScope s_least) := ⟨rfl, rfl, rfl, by decide +kernel, rfl, by decide +kernel, by decide +kernel⟩
theorem sc_greatest : FnScope ["kind"] ["kind"] (defScope s_greatest) := ⟨rfl, rfl, rfl, by decide +kernel, rfl, by decide +kernel, by decide +kernel⟩
theorem sc_is_value : FnScope ["kind", "x"] ["kind", "x"] (defScope s_is_value) := ⟨rfl, rfl, rfl, by decide +kernel, rfl, by decide +kernel, by decide +kernel⟩
theorem sc_wrapped : FnScope ["kind", "n", "low"] ["kind", "n"] (defScope s_wrapped) := ⟨rfl, rfl, rfl, by decide +kernel, rfl, by decide +kernel, by decide +kernel⟩
theorem sc__check_operation : FnScope ["kind", "names", "name", "x", "y"] ["kind", "names", "name", "x", "y"] (defScope s__check_operation) := ⟨rfl, rfl, rfl, by decide +kernel, rfl, by decide +kernel, by decide +kernel⟩
theorem sc_operate : FnScope ["kind", "name", "x", "y"] ["kind", "name", "x", "y"] (defScope s_operate) := ⟨rfl, rfl, rfl, by decide +kernel, rfl, by decide +kernel, by decide +kernel⟩
theorem sc_overflows : FnScope ["kind", "name", "x", "y"] ["kind", "name", "x", "y"] (defScope s_overflows) := ⟨rfl, rfl, rfl, by decide +kernel, rfl, by decide +kernel, by decide +kernel⟩
theorem sc__law_source_of : FnScope ["_law_cell"] ["_law_cell"] (defScope s__law_source_of) := ⟨rfl, rfl, rfl, by decide +kernel, rfl, by decide +kernel, by decide +kernel⟩
theorem sc__law_next : FnScope ["_law_source", "_law_many", "_law_found", "_law_prime", "_law_number"] ["_law_source", "_law_many"] (defScope s__law_next) := ⟨rfl, rfl, rfl, by decide +kernel, rfl, by decide +kernel, by decide +kernel⟩
theorem sc__law_one : FnScope ["_law_source", "_law_some"] ["_law_source", "_law_some"] (defScope s__law_one) := ⟨rfl, rfl, rfl, by decide +kernel, rfl, by decide +kernel, by decide +kernel⟩
theorem sc__law_cell_at : FnScope ["_law_script", "_law_index"] ["_law_script", "_law_index"] (defScope s__law_cell_at) := ⟨rfl, rfl, rfl, by decide +kernel, rfl, by decide +kernel, by decide +kernel⟩
theorem sc__law_power : FnScope ["_law_n", "_law_found", "_law_k"] ["_law_n"] (defScope s__law_power) := ⟨rfl, rfl, rfl, by decide +kernel, rfl, by decide +kernel, by decide +kernel⟩
theorem sc__law_wide : FnScope ["_law_source", "_law_m", "_law_found", "_law_k"] ["_law_source", "_law_m"] (defScope s__law_wide) := ⟨rfl, rfl, rfl, by decide +kernel, rfl, by decide +kernel, by decide +kernel⟩
theorem sc__law_placed : FnScope ["_law_parts", "_law_n", "_law_bits_here", "_law_is_signed", "_law_many", "_law_rest"] ["_law_parts", "_law_n"] (defScope s__law_placed) := ⟨rfl, rfl, rfl, by decide +kernel, rfl, by decide +kernel, by decide +kernel⟩
theorem sc__law_bits : FnScope ["_law_called", "_law_x_here", "_law_y_here", "_law_bits_here", "_law_found", "_law_one_here", "_law_k", "_law_p", "_law_q", "_law_is_on"] ["_law_called", "_law_x_here", "_law_y_here", "_law_bits_here"] (defScope s__law_bits) := ⟨rfl, rfl, rfl, by decide +kernel, rfl, by decide +kernel, by decide +kernel⟩
theorem sc__law_exact : FnScope ["_law_called", "_law_x_here", "_law_y_here", "_law_bits_here", "_law_whole"] ["_law_called", "_law_x_here", "_law_y_here", "_law_bits_here"] (defScope s__law_exact) := ⟨rfl, rfl, rfl, by decide +kernel, rfl, by decide +kernel, by decide +kernel⟩
theorem sc__law_values : FnScope ["_law_source", "_law_parts", "_law_bits_here", "_law_is_signed", "_law_low", "_law_high", "_law_found", "_law_turn"] ["_law_source", "_law_parts"] (defScope s__law_values) := ⟨rfl, rfl, rfl, by decide +kernel, rfl, by decide +kernel, by decide +kernel⟩
theorem sc__law_right : FnScope ["_law_parts", "_law_x_here", "_law_y_here", "_law_bits_here", "_law_sort_of", "_law_names", "_law_called", "_law_told", "_law_due"] ["_law_parts", "_law_x_here", "_law_y_here"] (defScope s__law_right) := ⟨rfl, rfl, rfl, by decide +kernel, rfl, by decide +kernel, by decide +kernel⟩
theorem sc_law : FnScope ["_law_script", "_law_cell", "_law_source", "_law_turn", "_law_parts", "_law_some", "_law_shifts", "_law_k", "_law_x_here", "_law_y_here"] ["_law_script"] (defScope s_law) := ⟨rfl, rfl, rfl, by decide +kernel, rfl, by decide +kernel, by decide +kernel⟩

/-- a kind's object -/
def kf (w : Nat) (s : Bool) : List (Str × V) := [("bits", .int (w : Int)), ("is_signed", .bl s)]
structure Kd (C : Addr) (H : Hp) (p : Addr) (w : Nat) (s : Bool) : Prop where
  ex : ∃ dx, H p = some (.ins C dx (kf w s))
  w1 : 1 ≤ w
  w2 : w ≤ 128
theorem kf_bits (w : Nat) (s : Bool) : (kf w s).lookup ("bits" : Str) = some (.int (w : Int)) := by unfold kf; simp [List.lookup]
theorem kf_sign (w : Nat) (s : Bool) : (kf w s).lookup ("is_signed" : Str) = some (.bl s) := by
  have e : (("is_signed" : Str) == ("bits" : Str)) = false := by decide +kernel
  unfold kf; simp [List.lookup, e]
/-- the values of a kind, wrapping -/
def loK (w : Nat) (s : Bool) : Int := if s = true then -(2 ^ (w - 1)) else 0
def hiK (w : Nat) (s : Bool) : Int := loK w s + 2 ^ w - 1
def wr (w : Nat) (s : Bool) (n : Int) : Int := loK w s + (n - loK w s) % 2 ^ w
theorem p2 (w : Nat) : (0 : Int) < 2 ^ w := Int.pow_pos (by decide)
theorem p2s {w : Nat} (h : 1 ≤ w) : (2 : Int) ^ w = 2 * 2 ^ (w - 1) := by
  obtain ⟨k, rfl⟩ : ∃ k, w = k + 1 := ⟨w - 1, by omega⟩
  rw [Nat.add_sub_cancel, Int.pow_succ, Int.mul_comm]
theorem wr_lo (w : Nat) (s : Bool) (n : Int) : loK w s ≤ wr w s n := by
  have := Int.emod_nonneg (n - loK w s) (show (2 : Int) ^ w ≠ 0 from Int.ne_of_gt (p2 w))
  unfold wr; omega
theorem wr_hi (w : Nat) (s : Bool) (n : Int) : wr w s n ≤ hiK w s := by
  have := Int.emod_lt_of_pos (n - loK w s) (p2 w)
  unfold wr hiK; omega
theorem wr_id {w : Nat} {s : Bool} {n : Int} (h1 : loK w s ≤ n) (h2 : n ≤ hiK w s) : wr w s n = n := by
  unfold wr
  rw [Int.emod_eq_of_lt (by omega) (by unfold hiK at h2; omega)]
  omega
/-- what the law takes for the same -/
def pl (w : Nat) (s : Bool) (n : Int) : Int := if s = true ∧ 2 ^ (w - 1) ≤ n % 2 ^ w then n % 2 ^ w - 2 ^ w else n % 2 ^ w
theorem pl_wr {w : Nat} (hw : 1 ≤ w) (s : Bool) (n : Int) : pl w s n = wr w s n := by
  have hp := p2 (w - 1)
  have e := p2s hw
  have h0 := Int.emod_nonneg n (show (2 : Int) ^ w ≠ 0 from Int.ne_of_gt (p2 w))
  have h1 := Int.emod_lt_of_pos n (p2 w)
  cases s with
  | false =>
    have hl : loK w false = 0 := by unfold loK; rw [if_neg Bool.false_ne_true]
    unfold pl wr
    rw [if_neg (by intro z; exact Bool.false_ne_true z.1), hl, Int.sub_zero, Int.zero_add]
  | true =>
    have hl : loK w true = -(2 ^ (w - 1)) := by unfold loK; rw [if_pos rfl]
    unfold pl wr
    rw [hl]
    have ed : n % 2 ^ w = n - 2 ^ w * (n / 2 ^ w) := Int.emod_def n _
    by_cases c : 2 ^ (w - 1) ≤ n % 2 ^ w
    · rw [if_pos ⟨rfl, c⟩]
      have q : (n - -(2 ^ (w - 1))) % 2 ^ w = n % 2 ^ w - 2 ^ (w - 1) := by
        have z : n - -(2 ^ (w - 1)) = (n % 2 ^ w - 2 ^ (w - 1)) + 2 ^ w * (n / 2 ^ w + 1) := by
          rw [Int.mul_add, Int.mul_one]; omega
        rw [z, Int.add_mul_emod_self_left, Int.emod_eq_of_lt (by omega) (by omega)]
      rw [q]; omega
    · rw [if_neg (fun z => c z.2)]
      have q : (n - -(2 ^ (w - 1))) % 2 ^ w = n % 2 ^ w + 2 ^ (w - 1) := by
        have z : n - -(2 ^ (w - 1)) = (n % 2 ^ w + 2 ^ (w - 1)) + 2 ^ w * (n / 2 ^ w) := by omega
        rw [z, Int.add_mul_emod_self_left, Int.emod_eq_of_lt (by omega) (by omega)]
      rw [q]; omega
/-- all but p as it was -/
def Kp (p : Addr) (H H' : Hp) : Prop := ∀ q o, q ≠ p → H q = some o → H' q = some o
theorem Kp.refl (p : Addr) (H : Hp) : Kp p H H := fun _ _ _ h => h
theorem Kp.trans {p : Addr} {H H1 H2 : Hp} (a : Kp p H H1) (b : Kp p H1 H2) : Kp p H H2 := fun q o n h => b q o n (a q o n h)
theorem Kp.upd {p : Addr} {H H1 : Hp} {o : HO} (a : Kp p H H1) : Kp p H (upd H1 p o) := fun q u n h => by rw [upd_ne n]; exact a q u n h
theorem Kp.new {p r : Addr} {H H1 : Hp} {o : HO} (a : Kp p H H1) (h : H1 r = none) : Kp p H (L2.upd H1 r o) := fun q u n e => by
  have z := a q u n e
  rw [upd_ne (ne_of_none z h)]; exact z
theorem Kp.of_same {p : Addr} {H H' : Hp} (a : Same H H') : Kp p H H' := fun q o _ h => a q o h
theorem sm_new {H H1 : Hp} {r : Addr} {o : HO} (a : Same H H1) (h : H1 r = none) : Same H (L2.upd H1 r o) := fun q u e => by
  have z := a q u e
  rw [upd_ne (ne_of_none z h)]; exact z
theorem Kp.free {p r : Addr} {H H' : Hp} (a : Kp p H H') (hr : r ≠ p) (h : H' r = none) : H r = none := by
  cases q : H r with
  | none => rfl
  | some o => rw [a r o hr q] at h; cases h
theorem same_free {H H' : Hp} {r : Addr} (a : Same H H') (h : H' r = none) : H r = none := a.free h
/-- a source of draws -/
def SrcAt (H : Hp) (p : Addr) : Prop := ∃ a b c : Int, H p = some (.lst [.int a, .int b, .int c])
theorem SrcAt.same {H H' : Hp} {p : Addr} (h : SrcAt H p) (s : Same H H') : SrcAt H' p := by
  obtain ⟨a, b, c, e⟩ := h
  exact ⟨a, b, c, s _ _ e⟩
theorem kp_mut {p D : Addr} {H H' : Hp} {o : HO} (a : Kp p H H') (h : H D = none) : Kp p H (L2.upd H' D o) := fun q u n e => by
  rw [upd_ne (ne_of_none e h)]; exact a q u n e
theorem SrcAt.mut {H : Hp} {p D : Addr} {o : HO} (h : SrcAt H p) (n : D ≠ p) : SrcAt (L2.upd H D o) p := by
  obtain ⟨a, b, c, e⟩ := h
  exact ⟨a, b, c, by rw [upd_ne (Ne.symm n)]; exact e⟩
theorem SrcAt.ne {H : Hp} {p q : Addr} (h : SrcAt H p) (n : H q = none) : q ≠ p := by
  obtain ⟨a, b, c, e⟩ := h
  exact (ne_of_none e n).symm
theorem b9 {m : Int} (h : m.natAbs < 2 ^ 200) : m.natAbs < 2 ^ 8999 := Nat.lt_trans h (Nat.pow_lt_pow_right (by decide) (by decide))
theorem SrcAt.new {H : Hp} {p r : Addr} {o : HO} (h : SrcAt H p) (n : H r = none) : SrcAt (L2.upd H r o) p := h.same (sm_new (Same.refl H) n)
theorem Kd.same {C : Addr} {H H' : Hp} {p : Addr} {w : Nat} {s : Bool} (h : Kd C H p w s) (e : Same H H') : Kd C H' p w s := by
  obtain ⟨⟨dx, q⟩, a, b⟩ := h
  exact ⟨⟨dx, e _ _ q⟩, a, b⟩
theorem Kd.kp {C : Addr} {H H' : Hp} {p r : Addr} {w : Nat} {s : Bool} (h : Kd C H p w s) (hr : SrcAt H r) (e : Kp r H H') : Kd C H' p w s := by
  obtain ⟨⟨dx, q⟩, a, b⟩ := h
  obtain ⟨_, _, _, z⟩ := hr
  exact ⟨⟨dx, e _ _ (ne_of q z (by intro y; cases y)) q⟩, a, b⟩
/-- how a value that is asked for whether it is an integer looks -/
def IntQ (K : PySem.W.Frag) (H : Hp) (v : V) (b : Bool) : Prop := ∃ t : String, TyX K H v (.type t) ∧ kitB t "int" = some (b || t == "bool") ∧ (b = true ∨ t = "bool" → True) ∧ (∃ c, kitB t "bool" = some c ∧ ((b || t == "bool") && !c) = b)
theorem IntQ.int {K : PySem.W.Frag} {H : Hp} (i : Int) : IntQ K H (.int i) true := ⟨"int", .base (.int i), by decide +kernel, fun _ => trivial, false, by decide +kernel, rfl⟩
theorem IntQ.bl {K : PySem.W.Frag} {H : Hp} (i : Bool) : IntQ K H (.bl i) false := ⟨"bool", .base (.bl i), by decide +kernel, fun _ => trivial, true, by decide +kernel, rfl⟩
theorem IntQ.non {K : PySem.W.Frag} {H : Hp} : IntQ K H .non false := ⟨"NoneType", .base .non, by decide +kernel, fun _ => trivial, false, by decide +kernel, rfl⟩
theorem IntQ.str {K : PySem.W.Frag} {H : Hp} (z : Str) : IntQ K H (.str z) false := ⟨"str", .base (.str z), by decide +kernel, fun _ => trivial, false, by decide +kernel, rfl⟩
theorem IntQ.lst {K : PySem.W.Frag} {H : Hp} {a : Addr} {xs : List V} (h : H a = some (.lst xs)) : IntQ K H (.ref a) false := ⟨"list", .base (.lst h), by decide +kernel, fun _ => trivial, false, by decide +kernel, rfl⟩
theorem IntQ.tup {K : PySem.W.Frag} {H : Hp} {a : Addr} {xs : List V} (h : H a = some (.tup xs)) : IntQ K H (.ref a) false := ⟨"tuple", .base (.tup h), by decide +kernel, fun _ => trivial, false, by decide +kernel, rfl⟩
theorem IntQ.dK {K : PySem.W.Frag} {H : Hp} {a : Addr} {xs : List (Key × V)} (h : H a = some (.dK xs)) : IntQ K H (.ref a) false := ⟨"dict", .base (.dK h), by decide +kernel, fun _ => trivial, false, by decide +kernel, rfl⟩
/-- a row of kinds' parts: a list at D of tuples -/
structure RowAt (H : Hp) (p D : Addr) (rs : List (Addr × Nat × Bool)) : Prop where
  lst : H D = some (.lst (rs.map fun r => V.ref r.1))
  nD : D ≠ p
  tup : ∀ r ∈ rs, H r.1 = some (.tup [.int (r.2.1 : Int), .bl r.2.2]) ∧ r.1 ≠ p ∧ 1 ≤ r.2.1 ∧ r.2.1 ≤ 128
theorem RowAt.kp {H H' : Hp} {p D : Addr} {rs : List (Addr × Nat × Bool)} (h : RowAt H p D rs) (e : Kp p H H') : RowAt H' p D rs :=
  ⟨e _ _ h.nD h.lst, h.nD, fun r hr => ⟨e _ _ (h.tup r hr).2.1 (h.tup r hr).1, (h.tup r hr).2⟩⟩
/-- a list at E of kinds -/
structure KdsAt (C : Addr) (H : Hp) (p E : Addr) (ks : List (Addr × Nat × Bool)) : Prop where
  lst : H E = some (.lst (ks.map fun r => V.ref r.1))
  nE : E ≠ p
  kd : ∀ r ∈ ks, Kd C H r.1 r.2.1 r.2.2 ∧ r.1 ≠ p
theorem KdsAt.kp {C : Addr} {H H' : Hp} {p E : Addr} {ks : List (Addr × Nat × Bool)} (h : KdsAt C H p E ks) (e : Kp p H H') : KdsAt C H' p E ks :=
  ⟨e _ _ h.nE h.lst, h.nE, fun r hr => by
    obtain ⟨⟨⟨dx, q⟩, a, b⟩, n⟩ := h.kd r hr
    exact ⟨⟨⟨dx, e _ _ n q⟩, a, b⟩, n⟩⟩
def wrs (ks : List (Addr × Nat × Bool)) (n : Int) : Int := ks.foldl (fun n k => wr k.2.1 k.2.2 n) n
theorem wrs_eq : ∀ {ks rs : List (Addr × Nat × Bool)} (_ : ks.map (·.2) = rs.map (·.2)) (n : Int), wrs ks n = wrs rs n
  | [], [], _, _ => rfl
  | [], _ :: _, h, _ => by simp at h
  | _ :: _, [], h, _ => by simp at h
  | k :: ks, r :: rs, h, n => by
    rw [List.map_cons, List.map_cons, List.cons.injEq] at h
    show wrs ks (wr k.2.1 k.2.2 n) = wrs rs (wr r.2.1 r.2.2 n)
    rw [h.1]
    exact wrs_eq h.2 _
theorem wrs_more (ks : List (Addr × Nat × Bool)) (r : Addr × Nat × Bool) (n : Int) : wrs (ks ++ [r]) n = wr r.2.1 r.2.2 (wrs ks n) := by
  unfold wrs; rw [List.foldl_append]; rfl
/-! operations -/
inductive Op where
  | add | sub | mul | div | rem | band | bor | bxor | left | right
deriving DecidableEq
def Op.nm : Op → Str
  | .add => "add" | .sub => "subtract" | .mul => "multiply" | .div => "divide" | .rem => "remainder" | .band => "and" | .bor => "or" | .bxor => "xor" | .left => "left" | .right => "right"
def tz (x y : Int) : Int := if decide (x < 0) = decide (y < 0) then ab x / ab y else -(ab x / ab y)
def exO : Op → Int → Int → Int
  | .add, x, y => x + y
  | .sub, x, y => x - y
  | .mul, x, y => x * y
  | .div, x, y => tz x y
  | .rem, x, y => x - y * tz x y
  | .band, x, y => PySem.Builtin.bitAnd x y
  | .bor, x, y => PySem.Builtin.bitOr x y
  | .bxor, x, y => PySem.Builtin.bitXor x y
  | .left, x, y => x * 2 ^ y.toNat
  | .right, x, y => x / 2 ^ y.toNat
theorem ab_abs (x : Int) : ab x = (x.natAbs : Int) := by unfold ab; split <;> omega
theorem ab_nat (x : Int) : (ab x).natAbs = x.natAbs := by unfold ab; split <;> omega
/-- values are small -/
theorem val_bits {w : Nat} {s : Bool} {x : Int} (h1 : loK w s ≤ x) (h2 : x ≤ hiK w s) : x.natAbs < 2 ^ (w + 1) := by
  have hp := p2 w
  have hw : (2 : Int) ^ (w + 1) = 2 * 2 ^ w := by rw [Int.pow_succ, Int.mul_comm]
  have c : ((2 ^ (w + 1) : Nat) : Int) = (2 : Int) ^ (w + 1) := by exact Int.natCast_pow 2 (w + 1)
  have hl : -(2 ^ w) ≤ loK w s ∧ loK w s ≤ 0 := by
    unfold loK
    split
    · have a := p2 (w - 1)
      have b : (2 : Int) ^ (w - 1) ≤ 2 ^ w := by
        rcases w with _ | w
        · exact Int.le_refl _
        · rw [Nat.add_sub_cancel, Int.pow_succ]; have := p2 w; omega
      omega
    · omega
  unfold hiK at h2
  have : (x.natAbs : Int) < ((2 ^ (w + 1) : Nat) : Int) := by rw [c, hw]; omega
  exact Int.ofNat_lt.mp this
theorem lt_130 {x : Int} {w : Nat} (hw : w ≤ 128) (h : x.natAbs < 2 ^ (w + 1)) : x.natAbs < 2 ^ 129 := Nat.lt_of_lt_of_le h (Nat.pow_le_pow_right (by decide) (by omega))
/-! wrapping modulo -/
theorem wr_mod (w : Nat) (s : Bool) (n : Int) : wr w s n % 2 ^ w = n % 2 ^ w := by
  unfold wr
  rw [Int.add_emod, Int.emod_emod_of_dvd _ (Int.dvd_refl _), ← Int.add_emod]
  congr 1; omega
theorem wr_cong {w : Nat} {s : Bool} {a b : Int} (h : a % 2 ^ w = b % 2 ^ w) : wr w s a = wr w s b := by
  unfold wr
  have e : (a - loK w s) % 2 ^ w = (b - loK w s) % 2 ^ w := by rw [Int.sub_emod, h, ← Int.sub_emod]
  rw [e]
theorem wr_val {w : Nat} {s : Bool} {a x : Int} (h1 : loK w s ≤ x) (h2 : x ≤ hiK w s) (h : a % 2 ^ w = x % 2 ^ w) : wr w s a = x := (wr_cong h).trans (wr_id h1 h2)
theorem mod_add {m a b c d : Int} (h : a % m = b % m) (g : c % m = d % m) : (a + c) % m = (b + d) % m := by rw [Int.add_emod, h, g, ← Int.add_emod]
theorem mod_sub {m a b c d : Int} (h : a % m = b % m) (g : c % m = d % m) : (a - c) % m = (b - d) % m := by rw [Int.sub_emod, h, g, ← Int.sub_emod]
theorem mod_mul {m a b c d : Int} (h : a % m = b % m) (g : c % m = d % m) : (a * c) % m = (b * d) % m := by rw [Int.mul_emod, h, g, ← Int.mul_emod]
theorem cong_ex {m a b : Int} (h : a % m = b % m) : ∃ t, a = b + m * t := ⟨a / m - b / m, by
  have e1 := Int.emod_def a m
  have e2 := Int.emod_def b m
  rw [Int.mul_sub]; omega⟩
theorem cong_of {m a b t : Int} (h : a = b + m * t) : a % m = b % m := by rw [h, Int.add_mul_emod_self_left]
theorem p2S (w : Nat) : (2 : Int) ^ (w + 1) = 2 * 2 ^ w := by rw [Int.pow_succ, Int.mul_comm]
theorem cong_half {w : Nat} {a b : Int} (h : a % 2 ^ (w + 1) = b % 2 ^ (w + 1)) : a % 2 = b % 2 ∧ a / 2 % 2 ^ w = b / 2 % 2 ^ w := by
  obtain ⟨t, ht⟩ := cong_ex h
  rw [p2S, Int.mul_assoc] at ht
  have e : a / 2 = b / 2 + 2 ^ w * t := by rw [ht, Int.add_mul_ediv_left _ _ (by decide)]
  exact ⟨by rw [ht, Int.add_mul_emod_self_left], cong_of e⟩
theorem cong_dbl {w : Nat} {a b c : Int} (h : a % 2 ^ w = b % 2 ^ w) : (2 * a + c) % 2 ^ (w + 1) = (2 * b + c) % 2 ^ (w + 1) := by
  obtain ⟨t, ht⟩ := cong_ex h
  refine cong_of (t := t) ?_
  rw [p2S, ht, Int.mul_add, Int.mul_assoc]; omega
/-! bits -/
open PySem.Builtin in
theorem and_cong : ∀ (w : Nat) {a a' : Int} (b : Int), a % 2 ^ w = a' % 2 ^ w → bitAnd a b % 2 ^ w = bitAnd a' b % 2 ^ w
  | 0, a, a', b, _ => by rw [Int.pow_zero, Int.emod_one, Int.emod_one]
  | w + 1, a, a', b, h => by
    obtain ⟨h2, hd⟩ := cong_half h
    rw [PySem.W.kbt_halves a b, PySem.W.kbt_halves a' b, h2]
    exact cong_dbl (and_cong w (b / 2) hd)
open PySem.Builtin in
theorem xor_cong (w : Nat) {a a' : Int} (b : Int) (h : a % 2 ^ w = a' % 2 ^ w) : bitXor a b % 2 ^ w = bitXor a' b % 2 ^ w := by
  rw [PyProof.Rows.bitXor_and, PyProof.Rows.bitXor_and]
  exact mod_sub (mod_add h rfl) (mod_mul rfl (and_cong w b h))
open PySem.Builtin in
theorem xor_halves (x y : Int) : bitXor x y = 2 * bitXor (x / 2) (y / 2) + (x + y) % 2 := by
  rw [PyProof.Rows.bitXor_and, PyProof.Rows.bitXor_and, PySem.W.kbt_halves x y]
  have e1 := Int.emod_def x 2
  have e2 := Int.emod_def y 2
  have := Int.emod_two_eq x
  have := Int.emod_two_eq y
  split <;> omega
open PySem.Builtin in
theorem xor_back : ∀ (w : Nat) (x y : Int), bitXor (bitXor x y) y % 2 ^ w = x % 2 ^ w
  | 0, x, y => by rw [Int.pow_zero, Int.emod_one, Int.emod_one]
  | w + 1, x, y => by
    have e := xor_halves x y
    have h2 : bitXor x y / 2 = bitXor (x / 2) (y / 2) := by omega
    have e3 := xor_halves (bitXor x y) y
    rw [h2] at e3
    have e4 : x = 2 * (x / 2) + x % 2 := by omega
    have e5 : (bitXor x y + y) % 2 = x % 2 := by omega
    rw [e3, e5]
    exact (cong_dbl (xor_back w (x / 2) (y / 2))).trans (congrArg (· % 2 ^ (w + 1)) e4.symm)
/-! division -/
theorem tz_eq {x y : Int} (hy : y ≠ 0) : x - y * tz x y = if x < 0 then -(ab x % ab y) else ab x % ab y := by
  have e := Int.emod_def (ab x) (ab y)
  by_cases hx : x < 0 <;> by_cases hy : y < 0
  · have t : tz x y = ab x / ab y := by unfold tz; rw [decide_eq_true hx, decide_eq_true hy, if_pos rfl]
    have ex : x = -(ab x) := by unfold ab; rw [if_pos hx]; omega
    have ey : y = -(ab y) := by unfold ab; rw [if_pos hy]; omega
    rw [if_pos hx, t, e]
    generalize ab x / ab y = q
    generalize ab x = A at ex
    generalize ab y = B at ey
    rw [ex, ey, Int.neg_mul]; omega
  · have t : tz x y = -(ab x / ab y) := by unfold tz; rw [decide_eq_true hx, decide_eq_false hy, if_neg (by decide)]
    have ex : x = -(ab x) := by unfold ab; rw [if_pos hx]; omega
    have ey : y = ab y := by unfold ab; rw [if_neg hy]
    rw [if_pos hx, t, e]
    generalize ab x / ab y = q
    generalize ab x = A at ex
    generalize ab y = B at ey
    rw [ex, ey, Int.mul_neg]; omega
  · have t : tz x y = -(ab x / ab y) := by unfold tz; rw [decide_eq_false hx, decide_eq_true hy, if_neg (by decide)]
    have ex : x = ab x := by unfold ab; rw [if_neg hx]
    have ey : y = -(ab y) := by unfold ab; rw [if_pos hy]; omega
    rw [if_neg hx, t, e]
    generalize ab x / ab y = q
    generalize ab x = A at ex
    generalize ab y = B at ey
    rw [ex, ey, Int.neg_mul_neg]
  · have t : tz x y = ab x / ab y := by unfold tz; rw [decide_eq_false hx, decide_eq_false hy, if_pos rfl]
    have ex : x = ab x := by unfold ab; rw [if_neg hx]
    have ey : y = ab y := by unfold ab; rw [if_neg hy]
    rw [if_neg hx, t, e]
    generalize ab x / ab y = q
    generalize ab x = A at ex
    generalize ab y = B at ey
    rw [ex, ey]
theorem tz_spec {x y : Int} (hy : y ≠ 0) : (x - y * tz x y).natAbs < y.natAbs ∧ (x - y * tz x y = 0 ∨ (x - y * tz x y < 0 ↔ x < 0)) ∧ (x - y * tz x y).natAbs ≤ x.natAbs := by
  have ea := ab_abs x
  have eb := ab_abs y
  have hb : 0 < ab y := by omega
  have h0 := Int.emod_nonneg (ab x) (Int.ne_of_gt hb)
  have h1 := Int.emod_lt_of_pos (ab x) hb
  have hq : ab x % ab y ≤ ab x := by
    have e := Int.emod_def (ab x) (ab y)
    have a0 : 0 ≤ ab x := by omega
    have := Int.mul_nonneg (Int.le_of_lt hb) (Int.ediv_nonneg a0 (Int.le_of_lt hb))
    omega
  rw [tz_eq hy]
  generalize ab x % ab y = r at *
  split <;> omega
theorem tz_abs {x y : Int} : (tz x y).natAbs ≤ x.natAbs := by
  have ea := ab_abs x
  have eb := ab_abs y
  have a0 : 0 ≤ ab x := by omega
  have q0 := Int.ediv_nonneg a0 (show 0 ≤ ab y by omega)
  have q1 : ab x / ab y ≤ ab x := by
    by_cases h : ab y = 0
    · rw [h, Int.ediv_zero]; exact a0
    · exact Int.ediv_le_self _ a0
  unfold tz
  split <;> omega
/-- the remainder is a value -/
theorem rem_val {w : Nat} {s : Bool} {x y : Int} (hw : 1 ≤ w) (h1 : loK w s ≤ x) (h2 : x ≤ hiK w s) (hy : y ≠ 0) : loK w s ≤ x - y * tz x y ∧ x - y * tz x y ≤ hiK w s := by
  obtain ⟨a, b, c⟩ := tz_spec (x := x) hy
  have hp := p2 (w - 1)
  have e := p2s hw
  have l : loK w s ≤ 0 ∧ 0 ≤ hiK w s := by unfold hiK loK; split <;> omega
  rcases b with b | b
  · rw [b]; exact l
  · omega
/-! inverses -/
theorem inv_uniq {m a b c : Int} (h1 : a * b % m = 1 % m) (h2 : b * c % m = 1 % m) : c % m = a % m := by
  have e1 : a * b * c % m = 1 * c % m := mod_mul h1 rfl
  have e2 : a * (b * c) % m = a * 1 % m := mod_mul rfl h2
  rw [Int.one_mul, Int.mul_assoc] at e1
  rw [Int.mul_one] at e2
  exact e1.symm.trans e2
theorem pdp {a b : Nat} (h : a ≤ b) : (2 : Int) ^ a ∣ 2 ^ b := ⟨2 ^ (b - a), by rw [← Int.pow_add]; congr 1; omega⟩
/-- one step of Newton's -/
theorem newton {w d : Nat} {x y z : Int} (h : (2 : Int) ^ min w d ∣ x * y - 1) (hz : z % 2 ^ w = y * (2 - x * y) % 2 ^ w) : (2 : Int) ^ min w (2 * d) ∣ x * z - 1 := by
  obtain ⟨t, ht⟩ := cong_ex hz
  obtain ⟨u, hu⟩ := h
  have e : x * z - 1 = -((x * y - 1) * (x * y - 1)) + 2 ^ w * (x * t) := by
    rw [ht]
    have q1 : x * (y * (2 - x * y) + 2 ^ w * t) = x * y * (2 - x * y) + 2 ^ w * (x * t) := by
      rw [Int.mul_add, ← Int.mul_assoc x y, Int.mul_left_comm x]
    rw [q1]
    generalize x * y = k
    have q2 : k * (2 - k) = 2 * k - k * k := by rw [Int.mul_sub, Int.mul_comm k 2]
    have q3 : (k - 1) * (k - 1) = k * k - 2 * k + 1 := by rw [Int.sub_mul, Int.mul_sub, Int.mul_one, Int.one_mul]; omega
    rw [q2, q3]; omega
  rw [e]
  refine Int.dvd_add (Int.dvd_neg.mpr ?_) ?_
  · rw [hu]
    have q : (2 : Int) ^ min w d * u * (2 ^ min w d * u) = 2 ^ (min w d + min w d) * (u * u) := by
      rw [Int.pow_add]
      rw [Int.mul_assoc, Int.mul_assoc, Int.mul_left_comm u]
    rw [q]
    exact Int.dvd_trans (pdp (by omega)) (Int.dvd_mul_right _ _)
  · exact Int.dvd_trans (pdp (Nat.min_le_left _ _)) (Int.dvd_mul_right _ _)
/-! how often 2 divides -/
theorem two_ex : ∀ (n : Nat) (x : Int), x.natAbs ≤ n → x ≠ 0 → ∃ (k : Nat) (a : Int), x = 2 ^ k * (2 * a + 1)
  | 0, x, h, hx => absurd (by omega) hx
  | n + 1, x, h, hx => by
    by_cases e : x % 2 = 0
    · obtain ⟨k, a, q⟩ := two_ex n (x / 2) (by omega) (by omega)
      refine ⟨k + 1, a, ?_⟩
      rw [p2S, Int.mul_assoc, ← q]; omega
    · exact ⟨0, x / 2, by rw [Int.pow_zero]; omega⟩
theorem bits_pow (k : Nat) : PySem.Builtin.Int.intBits (2 ^ k) = k + 1 := by
  unfold PySem.Builtin.Int.intBits
  have e : ((2 : Int) ^ k).natAbs = 2 ^ k := by rw [Int.natAbs_pow]; rfl
  have n : ¬ (((2 : Int) ^ k == 0) = true) := by
    have := p2 k
    simp only [beq_iff_eq]; omega
  rw [if_neg n, e, Nat.log2_two_pow]
/-- a value with k twos has fewer than w -/
theorem twos_lt {w k : Nat} {s : Bool} {x a : Int} (h1 : loK w s ≤ x) (h2 : x ≤ hiK w s) (hw : 1 ≤ w) (h : x = 2 ^ k * (2 * a + 1)) : k < w := by
  refine Nat.lt_of_not_le fun hk => ?_
  obtain ⟨j, rfl⟩ : ∃ j, k = w + j := ⟨k - w, by omega⟩
  have e := p2s hw
  have hp := p2 (w - 1)
  have hj := p2 j
  rw [Int.pow_add, Int.mul_assoc] at h
  have hl : -(2 ^ (w - 1)) ≤ loK w s ∧ hiK w s < 2 ^ w := by unfold hiK loK; split <;> omega
  generalize hc : 2 ^ j * (2 * a + 1) = c at h
  have c0 : c ≠ 0 := by
    rw [← hc]
    exact Int.mul_ne_zero (Int.ne_of_gt hj) (by omega)
  have : c ≤ -1 ∨ 1 ≤ c := by omega
  rcases this with q | q
  · have := Int.mul_le_mul_of_nonneg_left q (Int.le_of_lt (p2 w)); omega
  · have := Int.mul_le_mul_of_nonneg_left q (Int.le_of_lt (p2 w)); omega
theorem next_bit (z : Int) (i : Nat) : z % 2 ^ (i + 1) = z % 2 ^ i + 2 ^ i * (z / 2 ^ i % 2) := by
  have hp := p2 i
  have e1 := Int.emod_def z (2 ^ i)
  have e2 := Int.emod_def (z / 2 ^ i) 2
  have m0 := Int.emod_nonneg z (Int.ne_of_gt hp)
  have m1 := Int.emod_lt_of_pos z hp
  have e : z = (z % 2 ^ i + 2 ^ i * (z / 2 ^ i % 2)) + 2 ^ (i + 1) * (z / 2 ^ i / 2) := by
    rw [p2S, e2, e1, Int.mul_sub, Int.mul_comm 2 (2 ^ i), Int.mul_assoc]; omega
  have b : 0 ≤ z % 2 ^ i + 2 ^ i * (z / 2 ^ i % 2) ∧ z % 2 ^ i + 2 ^ i * (z / 2 ^ i % 2) < 2 ^ (i + 1) := by
    rw [p2S]
    rcases Int.emod_two_eq (z / 2 ^ i) with q | q <;> rw [q] <;> omega
  have := congrArg (· % 2 ^ (i + 1)) e
  simp only [Int.add_mul_emod_self_left] at this
  rw [this, Int.emod_eq_of_lt b.1 b.2]
/-- what a bit of the result is -/
def onB : Op → Int → Int → Bool
  | .band, p, q => decide (p * q = 1)
  | .bor, p, q => decide (0 < p + q)
  | _, p, q => !decide (p = q)
def isB (o : Op) : Prop := o = .band ∨ o = .bor ∨ o = .bxor
theorem b_halves {o : Op} (h : isB o) (x y : Int) : exO o x y = 2 * exO o (x / 2) (y / 2) + (if onB o (x % 2) (y % 2) = true then 1 else 0) := by
  have a := Int.emod_two_eq x
  have b := Int.emod_two_eq y
  have hx := Int.emod_def x 2
  have hy := Int.emod_def y 2
  have q := PySem.W.kbt_halves x y
  rcases h with rfl | rfl | rfl
  · show PySem.Builtin.bitAnd x y = 2 * PySem.Builtin.bitAnd (x / 2) (y / 2) + _
    rw [q]
    rcases a with a | a <;> rcases b with b | b <;> rw [a, b] <;> simp [onB]
  · show PySem.Builtin.bitOr x y = 2 * PySem.Builtin.bitOr (x / 2) (y / 2) + _
    rw [PyProof.Rows.bitOr_and, PyProof.Rows.bitOr_and, q]
    rcases a with a | a <;> rcases b with b | b <;> rw [a, b] <;> simp [onB] <;> omega
  · show PySem.Builtin.bitXor x y = 2 * PySem.Builtin.bitXor (x / 2) (y / 2) + _
    rw [PyProof.Rows.bitXor_and, PyProof.Rows.bitXor_and, q]
    rcases a with a | a <;> rcases b with b | b <;> rw [a, b] <;> simp [onB] <;> omega
theorem b_down {o : Op} (h : isB o) : ∀ (i : Nat) (x y : Int), exO o x y / 2 ^ i = exO o (x / 2 ^ i) (y / 2 ^ i)
  | 0, x, y => by rw [Int.pow_zero, Int.ediv_one, Int.ediv_one, Int.ediv_one]
  | i + 1, x, y => by
    have e := b_halves h x y
    have e2 : exO o x y / 2 = exO o (x / 2) (y / 2) := by split at e <;> omega
    rw [p2S, ← Int.ediv_ediv_of_nonneg (by decide), ← Int.ediv_ediv_of_nonneg (by decide), ← Int.ediv_ediv_of_nonneg (by decide), e2]
    exact b_down h i (x / 2) (y / 2)
theorem b_next {o : Op} (h : isB o) (i : Nat) (x y : Int) : exO o x y % 2 ^ (i + 1) = exO o x y % 2 ^ i + 2 ^ i * (if onB o (x / 2 ^ i % 2) (y / 2 ^ i % 2) = true then 1 else 0) := by
  rw [next_bit, b_down h]
  have e := b_halves h (x / 2 ^ i) (y / 2 ^ i)
  have e3 : exO o (x / 2 ^ i) (y / 2 ^ i) % 2 = (if onB o (x / 2 ^ i % 2) (y / 2 ^ i % 2) = true then 1 else 0) := by
    rw [e]; split <;> omega
  rw [e3]
theorem tz_law {x y : Int} (hy : y ≠ 0) : ab x / ab y * (if 0 < x * y then 1 else -1) = tz x y := by
  have h0 : x = 0 → ab x / ab y = 0 := fun h => by rw [h]; exact Int.zero_ediv _
  by_cases hx : x < 0 <;> by_cases hy2 : y < 0
  · rw [if_pos (Int.mul_pos_of_neg_of_neg hx hy2), Int.mul_one]
    unfold tz; rw [decide_eq_true hx, decide_eq_true hy2, if_pos rfl]
  · have : x * y < 0 := Int.mul_neg_of_neg_of_pos hx (by omega)
    rw [if_neg (by omega), Int.mul_neg, Int.mul_one]
    unfold tz; rw [decide_eq_true hx, decide_eq_false hy2, if_neg (by decide)]
  · by_cases z : x = 0
    · rw [h0 z, Int.zero_mul]; unfold tz; rw [h0 z]; split <;> rfl
    · have : x * y < 0 := Int.mul_neg_of_pos_of_neg (by omega) hy2
      rw [if_neg (by omega), Int.mul_neg, Int.mul_one]
      unfold tz; rw [decide_eq_false hx, decide_eq_true hy2, if_neg (by decide)]
  · by_cases z : x = 0
    · rw [h0 z, Int.zero_mul]; unfold tz; rw [h0 z]; split <;> rfl
    · rw [if_pos (Int.mul_pos (by omega) (by omega)), Int.mul_one]
      unfold tz; rw [decide_eq_false hx, decide_eq_false hy2, if_pos rfl]
def p_kb_operate_0_y_x_name_kind {α : Type} (us ws : List α) : List α := match us, ws with | [], [w0, w1, w2, w3] => [w3, w2, w1, w0] | _, _ => []
def p_kb_overflows_0_y_x_name_kind {α : Type} (us ws : List α) : List α := match us, ws with | [], [w0, w1, w2, w3] => [w3, w2, w1, w0] | _, _ => []
structure Txt (K : PySem.W.Frag) (mg : Str → Option Value) where
  C_Kind : Addr
  cl_Kind : Cls K C_Kind
  g_Kind : mg "Kind" = some (.ref C_Kind)
  na_Kind_bits : NoAttr K C_Kind "bits"
  na_Kind_is_signed : NoAttr K C_Kind "is_signed"
  ia_Kind : PySem.W.findIn K (.ref C_Kind) "__class__" = some (some (.builtin "object.__class__"))
  ib_Kind : PySem.W.specialIn K (.builtin "object.__class__") "__get__" = some (some (.builtin "getset_descriptor.__get__"))
  ic_Kind : PySem.W.takesIn K (.builtin "object.__class__") = some true
  id_Kind : PySem.W.mroIn K C_Kind (.type "object") = some true
  f_is_integer : Addr
  fd_is_integer : FuncData
  F_is_integer : Fun K "is_integer" "is_integer" s_is_integer f_is_integer fd_is_integer
  b_is_integer : Binds K fd_is_integer ["value"] []
  g_is_integer : mg "is_integer" = some (.ref f_is_integer)
  k_is_integer : PySem.W.keepIn K (.ref f_is_integer) = true
  f_check_integer : Addr
  fd_check_integer : FuncData
  F_check_integer : Fun K "check_integer" "check_integer" s_check_integer f_check_integer fd_check_integer
  b_check_integer : Binds K fd_check_integer ["value", "argument"] []
  g_check_integer : mg "check_integer" = some (.ref f_check_integer)
  k_check_integer : PySem.W.keepIn K (.ref f_check_integer) = true
  f_toward_zero : Addr
  fd_toward_zero : FuncData
  F_toward_zero : Fun K "toward_zero" "toward_zero" s_toward_zero f_toward_zero fd_toward_zero
  b_toward_zero : Binds K fd_toward_zero ["x", "y"] []
  g_toward_zero : mg "toward_zero" = some (.ref f_toward_zero)
  k_toward_zero : PySem.W.keepIn K (.ref f_toward_zero) = true
  f_exact_result : Addr
  fd_exact_result : FuncData
  F_exact_result : Fun K "exact_result" "exact_result" s_exact_result f_exact_result fd_exact_result
  b_exact_result : Binds K fd_exact_result ["name", "x", "y"] []
  g_exact_result : mg "exact_result" = some (.ref f_exact_result)
  k_exact_result : PySem.W.keepIn K (.ref f_exact_result) = true
  f__bitwise : Addr
  fd__bitwise : FuncData
  F__bitwise : Fun K "_bitwise" "_bitwise" s__bitwise f__bitwise fd__bitwise
  b__bitwise : Binds K fd__bitwise ["name", "x", "y"] []
  g__bitwise : mg "_bitwise" = some (.ref f__bitwise)
  k__bitwise : PySem.W.keepIn K (.ref f__bitwise) = true
  f_is_word : Addr
  fd_is_word : FuncData
  F_is_word : Fun K "is_word" "is_word" s_is_word f_is_word fd_is_word
  b_is_word : Binds K fd_is_word ["value", "words"] []
  g_is_word : mg "is_word" = some (.ref f_is_word)
  k_is_word : PySem.W.keepIn K (.ref f_is_word) = true
  f_check_word : Addr
  fd_check_word : FuncData
  F_check_word : Fun K "check_word" "check_word" s_check_word f_check_word fd_check_word
  b_check_word : Binds K fd_check_word ["word", "words", "argument"] []
  g_check_word : mg "check_word" = some (.ref f_check_word)
  k_check_word : PySem.W.keepIn K (.ref f_check_word) = true
  f_Kind___init__ : Addr
  fd_Kind___init__ : FuncData
  F_Kind___init__ : Fun K "__init__" "Kind.__init__" s_Kind___init__ f_Kind___init__ fd_Kind___init__
  b_Kind___init__ : Binds K fd_Kind___init__ ["self", "bits", "is_signed"] []
  f_check_kind : Addr
  fd_check_kind : FuncData
  F_check_kind : Fun K "check_kind" "check_kind" s_check_kind f_check_kind fd_check_kind
  b_check_kind : Binds K fd_check_kind ["kind"] []
  g_check_kind : mg "check_kind" = some (.ref f_check_kind)
  k_check_kind : PySem.W.keepIn K (.ref f_check_kind) = true
  f_check_value : Addr
  fd_check_value : FuncData
  F_check_value : Fun K "check_value" "check_value" s_check_value f_check_value fd_check_value
  b_check_value : Binds K fd_check_value ["kind", "x", "argument"] []
  g_check_value : mg "check_value" = some (.ref f_check_value)
  k_check_value : PySem.W.keepIn K (.ref f_check_value) = true
  f_least : Addr
  fd_least : FuncData
  F_least : Fun K "least" "least" s_least f_least fd_least
  b_least : Binds K fd_least ["kind"] []
  g_least : mg "least" = some (.ref f_least)
  k_least : PySem.W.keepIn K (.ref f_least) = true
  f_greatest : Addr
  fd_greatest : FuncData
  F_greatest : Fun K "greatest" "greatest" s_greatest f_greatest fd_greatest
  b_greatest : Binds K fd_greatest ["kind"] []
  g_greatest : mg "greatest" = some (.ref f_greatest)
  k_greatest : PySem.W.keepIn K (.ref f_greatest) = true
  f_is_value : Addr
  fd_is_value : FuncData
  F_is_value : Fun K "is_value" "is_value" s_is_value f_is_value fd_is_value
  b_is_value : Binds K fd_is_value ["kind", "x"] []
  g_is_value : mg "is_value" = some (.ref f_is_value)
  k_is_value : PySem.W.keepIn K (.ref f_is_value) = true
  f_wrapped : Addr
  fd_wrapped : FuncData
  F_wrapped : Fun K "wrapped" "wrapped" s_wrapped f_wrapped fd_wrapped
  b_wrapped : Binds K fd_wrapped ["kind", "n"] []
  g_wrapped : mg "wrapped" = some (.ref f_wrapped)
  k_wrapped : PySem.W.keepIn K (.ref f_wrapped) = true
  f__check_operation : Addr
  fd__check_operation : FuncData
  F__check_operation : Fun K "_check_operation" "_check_operation" s__check_operation f__check_operation fd__check_operation
  b__check_operation : Binds K fd__check_operation ["kind", "names", "name", "x", "y"] []
  g__check_operation : mg "_check_operation" = some (.ref f__check_operation)
  k__check_operation : PySem.W.keepIn K (.ref f__check_operation) = true
  f_operate : Addr
  fd_operate : FuncData
  F_operate : Fun K "operate" "operate" s_operate f_operate fd_operate
  b_operate : Binds K fd_operate ["kind", "name", "x", "y"] []
  g_operate : mg "operate" = some (.ref f_operate)
  k_operate : PySem.W.keepIn K (.ref f_operate) = true
  f_overflows : Addr
  fd_overflows : FuncData
  F_overflows : Fun K "overflows" "overflows" s_overflows f_overflows fd_overflows
  b_overflows : Binds K fd_overflows ["kind", "name", "x", "y"] []
  g_overflows : mg "overflows" = some (.ref f_overflows)
  k_overflows : PySem.W.keepIn K (.ref f_overflows) = true
  f__law_source_of : Addr
  fd__law_source_of : FuncData
  F__law_source_of : Fun K "_law_source_of" "_law_source_of" s__law_source_of f__law_source_of fd__law_source_of
  b__law_source_of : Binds K fd__law_source_of ["_law_cell"] []
  g__law_source_of : mg "_law_source_of" = some (.ref f__law_source_of)
  k__law_source_of : PySem.W.keepIn K (.ref f__law_source_of) = true
  f__law_next : Addr
  fd__law_next : FuncData
  F__law_next : Fun K "_law_next" "_law_next" s__law_next f__law_next fd__law_next
  b__law_next : Binds K fd__law_next ["_law_source", "_law_many"] []
  g__law_next : mg "_law_next" = some (.ref f__law_next)
  k__law_next : PySem.W.keepIn K (.ref f__law_next) = true
  f__law_one : Addr
  fd__law_one : FuncData
  F__law_one : Fun K "_law_one" "_law_one" s__law_one f__law_one fd__law_one
  b__law_one : Binds K fd__law_one ["_law_source", "_law_some"] []
  g__law_one : mg "_law_one" = some (.ref f__law_one)
  k__law_one : PySem.W.keepIn K (.ref f__law_one) = true
  f__law_cell_at : Addr
  fd__law_cell_at : FuncData
  F__law_cell_at : Fun K "_law_cell_at" "_law_cell_at" s__law_cell_at f__law_cell_at fd__law_cell_at
  b__law_cell_at : Binds K fd__law_cell_at ["_law_script", "_law_index"] []
  g__law_cell_at : mg "_law_cell_at" = some (.ref f__law_cell_at)
  k__law_cell_at : PySem.W.keepIn K (.ref f__law_cell_at) = true
  f__law_power : Addr
  fd__law_power : FuncData
  F__law_power : Fun K "_law_power" "_law_power" s__law_power f__law_power fd__law_power
  b__law_power : Binds K fd__law_power ["_law_n"] []
  g__law_power : mg "_law_power" = some (.ref f__law_power)
  k__law_power : PySem.W.keepIn K (.ref f__law_power) = true
  f__law_wide : Addr
  fd__law_wide : FuncData
  F__law_wide : Fun K "_law_wide" "_law_wide" s__law_wide f__law_wide fd__law_wide
  b__law_wide : Binds K fd__law_wide ["_law_source", "_law_m"] []
  g__law_wide : mg "_law_wide" = some (.ref f__law_wide)
  k__law_wide : PySem.W.keepIn K (.ref f__law_wide) = true
  f__law_placed : Addr
  fd__law_placed : FuncData
  F__law_placed : Fun K "_law_placed" "_law_placed" s__law_placed f__law_placed fd__law_placed
  b__law_placed : Binds K fd__law_placed ["_law_parts", "_law_n"] []
  g__law_placed : mg "_law_placed" = some (.ref f__law_placed)
  k__law_placed : PySem.W.keepIn K (.ref f__law_placed) = true
  f__law_bits : Addr
  fd__law_bits : FuncData
  F__law_bits : Fun K "_law_bits" "_law_bits" s__law_bits f__law_bits fd__law_bits
  b__law_bits : Binds K fd__law_bits ["_law_called", "_law_x_here", "_law_y_here", "_law_bits_here"] []
  g__law_bits : mg "_law_bits" = some (.ref f__law_bits)
  k__law_bits : PySem.W.keepIn K (.ref f__law_bits) = true
  f__law_exact : Addr
  fd__law_exact : FuncData
  F__law_exact : Fun K "_law_exact" "_law_exact" s__law_exact f__law_exact fd__law_exact
  b__law_exact : Binds K fd__law_exact ["_law_called", "_law_x_here", "_law_y_here", "_law_bits_here"] []
  g__law_exact : mg "_law_exact" = some (.ref f__law_exact)
  k__law_exact : PySem.W.keepIn K (.ref f__law_exact) = true
  f__law_values : Addr
  fd__law_values : FuncData
  F__law_values : Fun K "_law_values" "_law_values" s__law_values f__law_values fd__law_values
  b__law_values : Binds K fd__law_values ["_law_source", "_law_parts"] []
  g__law_values : mg "_law_values" = some (.ref f__law_values)
  k__law_values : PySem.W.keepIn K (.ref f__law_values) = true
  f__law_right : Addr
  fd__law_right : FuncData
  F__law_right : Fun K "_law_right" "_law_right" s__law_right f__law_right fd__law_right
  b__law_right : Binds K fd__law_right ["_law_parts", "_law_x_here", "_law_y_here"] []
  g__law_right : mg "_law_right" = some (.ref f__law_right)
  k__law_right : PySem.W.keepIn K (.ref f__law_right) = true
  f_law : Addr
  fd_law : FuncData
  F_law : Fun K "law" "law" s_law f_law fd_law
  b_law : Binds K fd_law ["_law_script"] []
  g_law : mg "law" = some (.ref f_law)
  k_law : PySem.W.keepIn K (.ref f_law) = true
  mk_Kind : Mk K C_Kind f_Kind___init__
  kb_operate_0_y_x_name_kind : KBinds K fd_operate ["kind", "name", "x", "y"] ["y", "x", "name", "kind"] p_kb_operate_0_y_x_name_kind p_kb_operate_0_y_x_name_kind
  kb_overflows_0_y_x_name_kind : KBinds K fd_overflows ["kind", "name", "x", "y"] ["y", "x", "name", "kind"] p_kb_overflows_0_y_x_name_kind p_kb_overflows_0_y_x_name_kind
  a_OPERATIONS : Addr
  g_OPERATIONS : mg "OPERATIONS" = some (.ref a_OPERATIONS)
  q_OPERATIONS : ∀ H : Hp, SqT K H a_OPERATIONS [.str "add", .str "subtract", .str "multiply", .str "divide", .str "remainder", .str "and", .str "or", .str "xor", .str "left", .str "right"]
  a_OVERFLOWING : Addr
  g_OVERFLOWING : mg "OVERFLOWING" = some (.ref a_OVERFLOWING)
  q_OVERFLOWING : ∀ H : Hp, SqT K H a_OVERFLOWING [.str "add", .str "subtract", .str "multiply", .str "divide", .str "left"]
  a_DIVISIONS : Addr
  g_DIVISIONS : mg "DIVISIONS" = some (.ref a_DIVISIONS)
  q_DIVISIONS : ∀ H : Hp, SqT K H a_DIVISIONS [.str "divide", .str "remainder"]
  a_SHIFTS : Addr
  g_SHIFTS : mg "SHIFTS" = some (.ref a_SHIFTS)
  q_SHIFTS : ∀ H : Hp, SqT K H a_SHIFTS [.str "left", .str "right"]
  t_MOST_BITS : Tok
  g_MOST_BITS : mg "MOST_BITS" = some (.int 128 t_MOST_BITS)
  n_abs : mg "abs" = none
  n_bool : mg "bool" = none
  n_int : mg "int" = none
  n_isinstance : mg "isinstance" = none
  n_len : mg "len" = none
  n_range : mg "range" = none
  n_str : mg "str" = none
  bl_law : ∀ (s : Shared) (v : Value), BindsTo s fd_law ⟨[v], []⟩ [("_law_script", v)]

section
variable {K : PySem.W.Frag} {mg : Str → Option Value} {H : Hp} {Q : VK} {C p : Addr} {wd : Nat} {s : Bool}
theorem w_isi {v : V} {t c : String} {b : Bool} (ty : TyX K H v (.type t)) (e : kitB t c = some b) (q : Q (.bl b) H) : rIsi K [v, .ty c] H Q := ⟨_, _, _, _, b, rfl, .ty c, ty, kit_ty e, q⟩
theorem w_isK (T : Txt K mg) (k : Kd T.C_Kind H p wd s) (q : Q (.bl true) H) : rIsi K [.ref p, .ref T.C_Kind] H Q := by
  obtain ⟨⟨dx, e⟩, _, _⟩ := k
  exact ⟨_, _, _, _, true, rfl, .own _, .base (.ins e T.cl_Kind T.ia_Kind T.ib_Kind T.ic_Kind T.id_Kind), (by unfold PySem.W.kitOne; rw [if_pos (by simp)]), q⟩
theorem w_fb {i : Nat} {σ : L2.St} (T : Txt K mg) (hs : σ[i]? = some (some (.ref p))) (k : Kd T.C_Kind H p wd s) (q : Q (.int (wd : Int)) H) : tFld K (tVar i) "bits" σ H Q := by
  obtain ⟨⟨dx, e⟩, _, _⟩ := k
  exact ⟨_, hs, p, _, dx, _, _, rfl, e, T.cl_Kind, T.na_Kind_bits, kf_bits _ _, q⟩
theorem w_fs {i : Nat} {σ : L2.St} (T : Txt K mg) (hs : σ[i]? = some (some (.ref p))) (k : Kd T.C_Kind H p wd s) (q : Q (.bl s) H) : tFld K (tVar i) "is_signed" σ H Q := by
  obtain ⟨⟨dx, e⟩, _, _⟩ := k
  exact ⟨_, hs, p, _, dx, _, _, rfl, e, T.cl_Kind, T.na_Kind_is_signed, kf_sign _ _, q⟩
end

theorem in_div (o : Op) : inV (.str o.nm) [.str "divide", .str "remainder"] = decide (o = .div ∨ o = .rem) := by cases o <;> decide +kernel
theorem in_shift (o : Op) : inV (.str o.nm) [.str "left", .str "right"] = decide (o = .left ∨ o = .right) := by cases o <;> decide +kernel
theorem in_ops (o : Op) : inV (.str o.nm) [.str "add", .str "subtract", .str "multiply", .str "divide", .str "remainder", .str "and", .str "or", .str "xor", .str "left", .str "right"] = true := by cases o <;> decide +kernel
theorem in_over {o : Op} (h : o = .add ∨ o = .sub ∨ o = .mul ∨ o = .div ∨ o = .left) : inV (.str o.nm) [.str "add", .str "subtract", .str "multiply", .str "divide", .str "left"] = true := by
  rcases h with rfl | rfl | rfl | rfl | rfl <;> decide +kernel
theorem b129 {w : Nat} {s : Bool} {x : Int} (hw : w ≤ 128) (h1 : loK w s ≤ x) (h2 : x ≤ hiK w s) : x.natAbs < 2 ^ 129 := lt_130 hw (val_bits h1 h2)

theorem in_over5 (o : Op) : inV (.str o.nm) [.str "add", .str "subtract", .str "multiply", .str "divide", .str "left"] = decide (o = .add ∨ o = .sub ∨ o = .mul ∨ o = .div ∨ o = .left) := by cases o <;> decide +kernel
theorem rep_b (b : Bool) (xs : List V) : (List.replicate (Int.toNat (if b = true then 1 else 0)) xs).flatten = if b = true then xs else [] := by
  cases b
  · rfl
  · show xs ++ [] = xs
    rw [List.append_nil]
theorem kbinds_of {K : PySem.W.Frag} {x qual : Str} {st : Stmt} {f : Addr} {fd : FuncData} {ps ks : List Str} {g : List Value → List Value → List Value} {gV : List V → List V → List V} (F : Fun K x qual st f fd)
    (h : ∀ (kV doc pm : Value) (an : Option Addr) (cdv ct : Value) (us ws : List Value), (g us ws).length = ps.length → bindArgs (PySem.W.fnOf x qual (defArgs st) (defBody st) (defScope st) .none kV doc pm an cdv ct) ⟨us, ks.zip ws⟩ = pure (ps.zip (g us ws)))
    (hrel : ∀ {vs : List V} {us : List Value} {zs : List V} {ws : List Value}, Vals vs us → Vals zs ws → Vals (gV vs zs) (g us ws)) : KBinds K fd ps ks g gV := by
  obtain ⟨oc, od, kV, doc, pm, an, cdv, ct, osl, rfl, lk, hcd⟩ := F.ex
  exact ⟨fun s us ws _ hl => .of_eq (h kV doc pm an cdv ct us ws hl), hrel⟩
theorem rel_kb_operate_0_y_x_name_kind {vs : List V} {us : List Value} {zs : List V} {ws : List Value} (r : Vals vs us) (rz : Vals zs ws) : Vals (p_kb_operate_0_y_x_name_kind vs zs) (p_kb_operate_0_y_x_name_kind us ws) := by
  cases r with
  | cons _ _ => exact .nil
  | nil =>
    cases rz with
    | nil => exact .nil
    | cons k0 z0 =>
      cases z0 with
      | nil => exact .nil
      | cons k1 z1 =>
        cases z1 with
        | nil => exact .nil
        | cons k2 z2 =>
          cases z2 with
          | nil => exact .nil
          | cons k3 z3 =>
            cases z3 with
            | cons _ _ => exact .nil
            | nil => exact (.cons k3 (.cons k2 (.cons k1 (.cons k0 .nil))))
theorem rel_kb_overflows_0_y_x_name_kind {vs : List V} {us : List Value} {zs : List V} {ws : List Value} (r : Vals vs us) (rz : Vals zs ws) : Vals (p_kb_overflows_0_y_x_name_kind vs zs) (p_kb_overflows_0_y_x_name_kind us ws) := by
  cases r with
  | cons _ _ => exact .nil
  | nil =>
    cases rz with
    | nil => exact .nil
    | cons k0 z0 =>
      cases z0 with
      | nil => exact .nil
      | cons k1 z1 =>
        cases z1 with
        | nil => exact .nil
        | cons k2 z2 =>
          cases z2 with
          | nil => exact .nil
          | cons k3 z3 =>
            cases z3 with
            | cons _ _ => exact .nil
            | nil => exact (.cons k3 (.cons k2 (.cons k1 (.cons k0 .nil))))
def sp_is_integer (K : PySem.W.Frag) (C : Addr) : Sp := fun vs H Q _ => ∃ (v : V) (b : Bool), vs = [v] ∧ IntQ K H v b ∧ Q (.bl b) H
theorem ok_is_integer {P : Program} {w : World} {K : PySem.W.Frag} {mg : Str → Option Value} {base : Heap} (T : Txt K mg) : FnOk P w K mg base CX0 1 T.f_is_integer T.fd_is_integer ["value"] (sp_is_integer K T.C_Kind) := by
  refine T.F_is_integer.ok sc_is_integer (fun vs H Q E h => ?_) (fun cdv A outer s H vs Q E hr h => ?_)
  · obtain ⟨v, b, rfl, _⟩ := h
    rfl
  · obtain ⟨v, b, rfl, h⟩ := h
    refine ⟨_, (pss_one (ps_ret (pe_and (pe_callB (id := "isinstance") (r := rIsi K) call_isi (by rfl) T.n_isinstance (by decide +kernel) (pa_cons (pv 0 (hv := Or.inl rfl)) (pa_cons (pe_bltn (v := .ty "int") (by rfl) T.n_int (by decide +kernel) rfl) pa_nil))) (pe_one (pe_not (pe_callB (id := "isinstance") (r := rIsi K) call_isi (by rfl) T.n_isinstance (by decide +kernel) (pa_cons (pv 0 (hv := Or.inl rfl)) (pa_cons (pe_bltn (v := .ty "bool") (by rfl) T.n_bool (by decide +kernel) rfl) pa_nil)))))))), ?_⟩
    try dsimp only [cxOf, Cx.nox, Cx.wish, Cx.blk]
    rw [show L2.start ["value"] [v] = [some (v)] from rfl]
    obtain ⟨⟨t, ty, e1, -, c, e2, e3⟩, k⟩ := h
    walk_at "rd"
    refine w_isi ty e1 ?_
    walk_at "rd"
    cases hb : (b || t == "bool") with
    | false =>
      rw [hb] at e3
      have e3 : false = b := e3
      refine iteF ?_
      rw [e3]; exact k
    | true =>
      rw [hb] at e3
      refine iteT ?_
      walk_at "rd"
      refine w_isi ty e2 ?_
      walk_at "rd"
      have e4 : (!c) = b := e3
      rw [e4]; exact k
def sp_check_integer (K : PySem.W.Frag) (C : Addr) : Sp := fun vs H Q _ => ∃ (i : Int) (z : Str), vs = [.int i, .str z] ∧ Q .non H
theorem ok_check_integer {P : Program} {w : World} {K : PySem.W.Frag} {mg : Str → Option Value} {base : Heap} (T : Txt K mg) : FnOk P w K mg base CX0 2 T.f_check_integer T.fd_check_integer ["value", "argument"] (sp_check_integer K T.C_Kind) := by
  have G_is_integer := ok_is_integer (P := P) (w := w) (base := base) T
  refine T.F_check_integer.ok sc_check_integer (fun vs H Q E h => ?_) (fun cdv A outer s H vs Q E hr h => ?_)
  · obtain ⟨i, z, rfl, _⟩ := h
    rfl
  · obtain ⟨i, z, rfl, h⟩ := h
    have hr_is_integer : Room 1 _ := hr.mono (by decide)
    refine ⟨_, (pss_one (ps_if (pt_not (pt_val (pe_call G_is_integer hr_is_integer rfl T.g_is_integer T.k_is_integer T.b_is_integer .nil pass0 (pa_cons (pv 0 (hv := Or.inl rfl)) pa_nil)))) (pss_one ps_never) pss_nil)), ?_⟩
    try dsimp only [cxOf, Cx.nox, Cx.wish, Cx.blk]
    rw [show L2.start ["value", "argument"] [.int i, .str z] = [some (.int i), some (.str z)] from rfl]
    walk_at "rd"
    refine ⟨.int i, true, rfl, IntQ.int i, ?_⟩
    walk_at "rd"
    refine iteF ?_
    walk_at "rd"
    exact h
def sp_toward_zero (K : PySem.W.Frag) (C : Addr) : Sp := fun vs H Q _ => ∃ (x y : Int), vs = [.int x, .int y] ∧ y ≠ 0 ∧ y.natAbs < 2 ^ 129 ∧ Q (.int (tz x y)) H
theorem ok_toward_zero {P : Program} {w : World} {K : PySem.W.Frag} {mg : Str → Option Value} {base : Heap} (T : Txt K mg) : FnOk P w K mg base CX0 1 T.f_toward_zero T.fd_toward_zero ["x", "y"] (sp_toward_zero K T.C_Kind) := by
  refine T.F_toward_zero.ok sc_toward_zero (fun vs H Q E h => ?_) (fun cdv A outer s H vs Q E hr h => ?_)
  · obtain ⟨x, y, rfl, _⟩ := h
    rfl
  · obtain ⟨x, y, rfl, h⟩ := h
    refine ⟨_, (pss_cons (ps_set (i := 2) sc_toward_zero.nd rfl (Or.inl rfl) (pe_op op_fdivW (pe_callB (id := "abs") (r := rAbsC) call_abs (by rfl) T.n_abs (by decide +kernel) (pa_cons (pv 0 (hv := Or.inl rfl)) pa_nil)) (pe_callB (id := "abs") (r := rAbsC) call_abs (by rfl) T.n_abs (by decide +kernel) (pa_cons (pv 1 (hv := Or.inl rfl)) pa_nil))))
      (pss_one (ps_ret (pe_ifExp (pt_cmpR op_eq (pe_cmpR op_lt (pv 0 (hv := Or.inl rfl)) pe_int (nomark _)) (pe_cmpR op_lt (pv 1 (hv := Or.inl rfl)) pe_int (nomark _)) (nomark _)) (pv 2 (hv := Or.inl rfl)) (pe_un un_neg (pv 2 (hv := Or.inl rfl))))))), ?_⟩
    try dsimp only [cxOf, Cx.nox, Cx.wish, Cx.blk]
    rw [show L2.start ["x", "y", "quotient"] [.int x, .int y] = [some (.int x), some (.int y), none] from rfl]
    obtain ⟨hy, hb, k⟩ := h
    have e := ab_abs y
    walk_at "rd"
    refine w_I (wide_div (b := 129) (by omega) (by rw [ab_nat]; exact hb) (by decide) (by decide)) ?_
    walk_at "rd"
    refine w_if ?_
    walk_at "rd"
    refine w_dec (fun c => ?_) (fun c => ?_)
    · walk_at "rd"
      unfold tz at k
      rw [if_pos c] at k
      exact k
    · walk_at "rd"
      unfold tz at k
      rw [if_neg c] at k
      exact k
def sp__bitwise (K : PySem.W.Frag) (C : Addr) : Sp := fun vs H Q _ => ∃ (o : Op) (x y : Int), vs = [.str o.nm, .int x, .int y] ∧ (o = .band ∨ o = .bor ∨ o = .bxor) ∧ Q (.int (exO o x y)) H
theorem ok__bitwise {P : Program} {w : World} {K : PySem.W.Frag} {mg : Str → Option Value} {base : Heap} (T : Txt K mg) : FnOk P w K mg base CX0 1 T.f__bitwise T.fd__bitwise ["name", "x", "y"] (sp__bitwise K T.C_Kind) := by
  refine T.F__bitwise.ok sc__bitwise (fun vs H Q E h => ?_) (fun cdv A outer s H vs Q E hr h => ?_)
  · obtain ⟨o, x, y, rfl, _⟩ := h
    rfl
  · obtain ⟨o, x, y, rfl, h⟩ := h
    refine ⟨_, (pss_one (ps_match (pv 0 (hv := Or.inl rfl))
      (pm_str (pss_one (ps_ret (pe_op op_and (pv 1 (hv := Or.inl rfl)) (pv 2 (hv := Or.inl rfl)))))
      (pm_str (pss_one (ps_ret (pe_op op_or (pv 1 (hv := Or.inl rfl)) (pv 2 (hv := Or.inl rfl)))))
      (pm_any (pss_one (ps_ret (pe_op op_xor (pv 1 (hv := Or.inl rfl)) (pv 2 (hv := Or.inl rfl)))))))))), ?_⟩
    try dsimp only [cxOf, Cx.nox, Cx.wish, Cx.blk]
    rw [show L2.start ["name", "x", "y"] [.str o.nm, .int x, .int y] = [some (.str o.nm), some (.int x), some (.int y)] from rfl]
    obtain ⟨ho, k⟩ := h
    walk_at "rd"
    rcases ho with rfl | rfl | rfl
    all_goals
      dsimp only [Op.nm]
      repeat (first | refine w_caseT ?_ | refine w_caseF (by decide +kernel) ?_ | refine w_caseA ?_)
      walk_at "rd"
      exact k
def sp_exact_result (K : PySem.W.Frag) (C : Addr) : Sp := fun vs H Q _ => ∃ (o : Op) (x y : Int), vs = [.str o.nm, .int x, .int y] ∧ x.natAbs < 2 ^ 129 ∧ y.natAbs < 2 ^ 129 ∧ (o = .div ∨ o = .rem → y ≠ 0) ∧ (o = .left ∨ o = .right → 0 ≤ y ∧ y ≤ 128) ∧ Q (.int (exO o x y)) H
theorem ok_exact_result {P : Program} {w : World} {K : PySem.W.Frag} {mg : Str → Option Value} {base : Heap} (T : Txt K mg) : FnOk P w K mg base CX0 2 T.f_exact_result T.fd_exact_result ["name", "x", "y"] (sp_exact_result K T.C_Kind) := by
  have G__bitwise := ok__bitwise (P := P) (w := w) (base := base) T
  have G_toward_zero := ok_toward_zero (P := P) (w := w) (base := base) T
  refine T.F_exact_result.ok sc_exact_result (fun vs H Q E h => ?_) (fun cdv A outer s H vs Q E hr h => ?_)
  · obtain ⟨o, x, y, rfl, _⟩ := h
    rfl
  · obtain ⟨o, x, y, rfl, h⟩ := h
    have hr__bitwise : Room 1 _ := hr.mono (by decide)
    have hr_toward_zero : Room 1 _ := hr.mono (by decide)
    refine ⟨_, (pss_one (ps_match (pv 0 (hv := Or.inl rfl))
      (pm_str (pss_one (ps_ret (pe_op op_add (pv 1 (hv := Or.inl rfl)) (pv 2 (hv := Or.inl rfl)))))
      (pm_str (pss_one (ps_ret (pe_op op_sub (pv 1 (hv := Or.inl rfl)) (pv 2 (hv := Or.inl rfl)))))
      (pm_str (pss_one (ps_ret (pe_op op_mulX (pv 1 (hv := Or.inl rfl)) (pv 2 (hv := Or.inl rfl)))))
      (pm_str (pss_one (ps_ret (pe_call G_toward_zero hr_toward_zero rfl T.g_toward_zero T.k_toward_zero T.b_toward_zero .nil pass0 (pa_cons (pv 1 (hv := Or.inl rfl)) (pa_cons (pv 2 (hv := Or.inl rfl)) pa_nil)))))
      (pm_str (pss_one (ps_ret (pe_op op_sub (pv 1 (hv := Or.inl rfl)) (pe_op op_mulX (pv 2 (hv := Or.inl rfl)) (pe_call G_toward_zero hr_toward_zero rfl T.g_toward_zero T.k_toward_zero T.b_toward_zero .nil pass0 (pa_cons (pv 1 (hv := Or.inl rfl)) (pa_cons (pv 2 (hv := Or.inl rfl)) pa_nil)))))))
      (pm_str (pss_one (ps_ret (pe_op op_shlW (pv 1 (hv := Or.inl rfl)) (pv 2 (hv := Or.inl rfl)))))
      (pm_str (pss_one (ps_ret (pe_op op_shr (pv 1 (hv := Or.inl rfl)) (pv 2 (hv := Or.inl rfl)))))
      (pm_any (pss_one (ps_ret (pe_call G__bitwise hr__bitwise rfl T.g__bitwise T.k__bitwise T.b__bitwise .nil pass0 (pa_cons (pv 0 (hv := Or.inl rfl)) (pa_cons (pv 1 (hv := Or.inl rfl)) (pa_cons (pv 2 (hv := Or.inl rfl)) pa_nil)))))))))))))))), ?_⟩
    try dsimp only [cxOf, Cx.nox, Cx.wish, Cx.blk]
    rw [show L2.start ["name", "x", "y"] [.str o.nm, .int x, .int y] = [some (.str o.nm), some (.int x), some (.int y)] from rfl]
    obtain ⟨hx, hy, hd, hs, k⟩ := h
    walk_at "rd"
    cases o
    all_goals
      dsimp only [Op.nm]
      repeat (first | refine w_caseT ?_ | refine w_caseF (by decide +kernel) ?_ | refine w_caseA ?_)
      walk_at "rd"
    · exact k
    · exact k
    · refine w_I (mulx_ok hx hy (by decide)) ?_
      exact k
    · exact ⟨x, y, rfl, hd (.inl rfl), hy, k⟩
    · refine ⟨x, y, rfl, hd (.inr rfl), hy, ?_⟩
      walk_at "rd"
      refine w_I (mulx_ok hy (Nat.lt_of_le_of_lt tz_abs hx) (by decide)) ?_
      walk_at "rd"
      exact k
    · exact ⟨.band, x, y, rfl, .inl rfl, k⟩
    · exact ⟨.bor, x, y, rfl, .inr (.inl rfl), k⟩
    · exact ⟨.bxor, x, y, rfl, .inr (.inr rfl), k⟩
    · have q := hs (.inl rfl)
      obtain ⟨j, rfl⟩ := Int.eq_ofNat_of_zero_le q.1
      refine w_I (shl_ok hx (by omega)) ?_
      exact k
    · have q := hs (.inr rfl)
      refine w_I q.1 ?_
      exact k
def sp_is_word (K : PySem.W.Frag) (C : Addr) : Sp := fun vs H Q _ => ∃ (z : Str) (t : Addr), vs = [.str z, .ref t] ∧ (∃ its, SqT K H t its ∧ its.all flatV = true ∧ inV (.str z) its = true) ∧ Q (.bl true) H
theorem ok_is_word {P : Program} {w : World} {K : PySem.W.Frag} {mg : Str → Option Value} {base : Heap} (T : Txt K mg) : FnOk P w K mg base CX0 1 T.f_is_word T.fd_is_word ["value", "words"] (sp_is_word K T.C_Kind) := by
  refine T.F_is_word.ok sc_is_word (fun vs H Q E h => ?_) (fun cdv A outer s H vs Q E hr h => ?_)
  · obtain ⟨z, t, rfl, _⟩ := h
    rfl
  · obtain ⟨z, t, rfl, h⟩ := h
    refine ⟨_, (pss_one (ps_ret (pe_and (pe_callB (id := "isinstance") (r := rIsi K) call_isi (by rfl) T.n_isinstance (by decide +kernel) (pa_cons (pv 0 (hv := Or.inl rfl)) (pa_cons (pe_bltn (v := .ty "str") (by rfl) T.n_str (by decide +kernel) rfl) pa_nil))) (pe_one (pe_cmpR op_in_seq (pv 0 (hv := Or.inl rfl)) (pv 1 (hv := Or.inl rfl)) (by rfl)))))), ?_⟩
    try dsimp only [cxOf, Cx.nox, Cx.wish, Cx.blk]
    rw [show L2.start ["value", "words"] [.str z, .ref t] = [some (.str z), some (.ref t)] from rfl]
    obtain ⟨⟨its, ht, hf, hi⟩, k⟩ := h
    walk_at "rd"
    refine w_isi (b := true) (.base (.str _)) (by decide +kernel) ?_
    walk_at "rd"
    refine iteT ?_
    walk_at "rd"
    refine w_inT ht rfl hf ?_
    rw [hi]
    exact k
def sp_check_word (K : PySem.W.Frag) (C : Addr) : Sp := fun vs H Q _ => ∃ (z : Str) (t : Addr) (u : Str), vs = [.str z, .ref t, .str u] ∧ (∃ its, SqT K H t its ∧ its.all flatV = true ∧ inV (.str z) its = true) ∧ Q .non H
theorem ok_check_word {P : Program} {w : World} {K : PySem.W.Frag} {mg : Str → Option Value} {base : Heap} (T : Txt K mg) : FnOk P w K mg base CX0 2 T.f_check_word T.fd_check_word ["word", "words", "argument"] (sp_check_word K T.C_Kind) := by
  have G_is_word := ok_is_word (P := P) (w := w) (base := base) T
  refine T.F_check_word.ok sc_check_word (fun vs H Q E h => ?_) (fun cdv A outer s H vs Q E hr h => ?_)
  · obtain ⟨z, t, u, rfl, _⟩ := h
    rfl
  · obtain ⟨z, t, u, rfl, h⟩ := h
    have hr_is_word : Room 1 _ := hr.mono (by decide)
    refine ⟨_, (pss_one (ps_if (pt_not (pt_val (pe_call G_is_word hr_is_word rfl T.g_is_word T.k_is_word T.b_is_word .nil pass0 (pa_cons (pv 0 (hv := Or.inl rfl)) (pa_cons (pv 1 (hv := Or.inl rfl)) pa_nil))))) (pss_one ps_never) pss_nil)), ?_⟩
    try dsimp only [cxOf, Cx.nox, Cx.wish, Cx.blk]
    rw [show L2.start ["word", "words", "argument"] [.str z, .ref t, .str u] = [some (.str z), some (.ref t), some (.str u)] from rfl]
    obtain ⟨hw, k⟩ := h
    walk_at "rd"
    refine ⟨z, t, rfl, hw, ?_⟩
    walk_at "rd"
    refine iteF ?_
    walk_at "rd"
    exact k
def sp_Kind___init__ (K : PySem.W.Frag) (C : Addr) : Sp := fun vs H Q _ => ∃ (p : Addr) (wd : Nat) (s : Bool), vs = [.ref p, .int (wd : Int), .bl s] ∧ (∃ dx, H p = some (.ins C dx [])) ∧ 1 ≤ wd ∧ wd ≤ 128 ∧ ∀ H', Kd C H' p wd s → Kp p H H' → Q .non H'
theorem ok_Kind___init__ {P : Program} {w : World} {K : PySem.W.Frag} {mg : Str → Option Value} {base : Heap} (T : Txt K mg) : FnOk P w K mg base CX0 2 T.f_Kind___init__ T.fd_Kind___init__ ["self", "bits", "is_signed"] (sp_Kind___init__ K T.C_Kind) := by
  have G_is_integer := ok_is_integer (P := P) (w := w) (base := base) T
  refine T.F_Kind___init__.ok sc_Kind___init__ (fun vs H Q E h => ?_) (fun cdv A outer s H vs Q E hr h => ?_)
  · obtain ⟨p, wd, s, rfl, _⟩ := h
    rfl
  · obtain ⟨p, wd, s, rfl, h⟩ := h
    have hr_is_integer : Room 1 _ := hr.mono (by decide)
    refine ⟨_, (pss_cons (ps_if (pt_not (PW.pt (pw_and (pt_val (pe_call G_is_integer hr_is_integer rfl T.g_is_integer T.k_is_integer T.b_is_integer .nil pass0 (pa_cons (pv 1 (hv := Or.inl rfl)) pa_nil))) (pw_and1 (pt_chain op_le op_le pe_int (pv 1 (hv := Or.inl rfl)) (pe_glob (v := .int 128) rfl T.g_MOST_BITS ⟨_, rfl⟩)))))) (pss_one ps_never) pss_nil)
      (pss_cons (ps_if (pt_not (pt_val (pe_callB (id := "isinstance") (r := rIsi K) call_isi (by rfl) T.n_isinstance (by decide +kernel) (pa_cons (pv 2 (hv := Or.inl rfl)) (pa_cons (pe_bltn (v := .ty "bool") (by rfl) T.n_bool (by decide +kernel) rfl) pa_nil))))) (pss_one ps_never) pss_nil)
      (pss_cons (ps_fld (pv 0 (hv := Or.inl rfl)) (pv 1 (hv := Or.inl rfl)) rfl)
      (pss_one (ps_fld (pv 0 (hv := Or.inl rfl)) (pv 2 (hv := Or.inl rfl)) rfl))))), ?_⟩
    try dsimp only [cxOf, Cx.nox, Cx.wish, Cx.blk]
    rw [show L2.start ["self", "bits", "is_signed"] [.ref p, .int (wd : Int), .bl s] = [some (.ref p), some (.int (wd : Int)), some (.bl s)] from rfl]
    obtain ⟨⟨dx, hp⟩, h1, h2, k⟩ := h
    walk_at "rd"
    refine ⟨_, true, rfl, IntQ.int _, ?_⟩
    walk_at "rd"
    refine iteT ?_
    walk_at "rd"
    refine w_chain ?_
    walk_at "rd"
    refine w_decT (by omega) ?_
    walk_at "rd"
    refine w_bF (by rw [decide_eq_true (show ((wd : Int) ≤ 128) by omega)]; rfl) ?_
    walk_at "rd"
    refine w_isi (b := true) (.base (.bl s)) (by decide +kernel) ?_
    walk_at "rd"
    refine iteF ?_
    walk_at "rd"
    refine ⟨p, _, dx, _, rfl, hp, T.cl_Kind, T.na_Kind_bits, (by show 0 < 1000; decide), ?_⟩
    walk_at "rd"
    refine ⟨p, _, dx, _, rfl, upd_same, T.cl_Kind, T.na_Kind_is_signed, (by show 1 < 1000; decide), ?_⟩
    refine k _ ⟨⟨dx, ?_⟩, h1, h2⟩ ((Kp.refl p H).upd.upd)
    rw [upd_same]
    show some (HO.ins _ _ (if ("bits" : Str) = "is_signed" then [(("bits" : Str), V.bl s)] else (("bits" : Str), V.int (wd : Int)) :: putF "is_signed" (V.bl s) [])) = _
    rw [if_neg (by decide +kernel)]
    rfl
def sp_check_kind (K : PySem.W.Frag) (C : Addr) : Sp := fun vs H Q _ => ∃ (p : Addr), vs = [.ref p] ∧ (∃ wd s, Kd C H p wd s) ∧ Q .non H
theorem ok_check_kind {P : Program} {w : World} {K : PySem.W.Frag} {mg : Str → Option Value} {base : Heap} (T : Txt K mg) : FnOk P w K mg base CX0 1 T.f_check_kind T.fd_check_kind ["kind"] (sp_check_kind K T.C_Kind) := by
  refine T.F_check_kind.ok sc_check_kind (fun vs H Q E h => ?_) (fun cdv A outer s H vs Q E hr h => ?_)
  · obtain ⟨p, rfl, _⟩ := h
    rfl
  · obtain ⟨p, rfl, h⟩ := h
    refine ⟨_, (pss_one (ps_if (pt_not (pt_val (pe_callB (id := "isinstance") (r := rIsi K) call_isi (by rfl) T.n_isinstance (by decide +kernel) (pa_cons (pv 0 (hv := Or.inl rfl)) (pa_cons (pe_glob (v := .ref T.C_Kind) rfl T.g_Kind rfl) pa_nil))))) (pss_one ps_never) pss_nil)), ?_⟩
    try dsimp only [cxOf, Cx.nox, Cx.wish, Cx.blk]
    rw [show L2.start ["kind"] [.ref p] = [some (.ref p)] from rfl]
    obtain ⟨⟨wd, s, hk⟩, k⟩ := h
    walk_at "rd"
    refine w_isK T hk ?_
    walk_at "rd"
    refine iteF ?_
    walk_at "rd"
    exact k
def sp_least (K : PySem.W.Frag) (C : Addr) : Sp := fun vs H Q _ => ∃ (p : Addr) (wd : Nat) (s : Bool), vs = [.ref p] ∧ Kd C H p wd s ∧ Q (.int (loK wd s)) H
theorem ok_least {P : Program} {w : World} {K : PySem.W.Frag} {mg : Str → Option Value} {base : Heap} (T : Txt K mg) : FnOk P w K mg base CX0 2 T.f_least T.fd_least ["kind"] (sp_least K T.C_Kind) := by
  have G_check_kind := ok_check_kind (P := P) (w := w) (base := base) T
  refine T.F_least.ok sc_least (fun vs H Q E h => ?_) (fun cdv A outer s H vs Q E hr h => ?_)
  · obtain ⟨p, wd, s, rfl, _⟩ := h
    rfl
  · obtain ⟨p, wd, s, rfl, h⟩ := h
    have hr_check_kind : Room 1 _ := hr.mono (by decide)
    refine ⟨_, (pss_cons (ps_expr (pe_call G_check_kind hr_check_kind rfl T.g_check_kind T.k_check_kind T.b_check_kind .nil pass0 (pa_cons (pv 0 (hv := Or.inl rfl)) pa_nil)))
      (pss_one (ps_ret (pe_ifExp (pt_val (pe_fld (pv 0 (hv := Or.inl rfl)) rfl)) (pe_un un_neg (pe_op op_shl pe_int (pe_op op_sub (pe_fld (pv 0 (hv := Or.inl rfl)) rfl) pe_int))) pe_int)))), ?_⟩
    try dsimp only [cxOf, Cx.nox, Cx.wish, Cx.blk]
    rw [show L2.start ["kind"] [.ref p] = [some (.ref p)] from rfl]
    obtain ⟨hk, k⟩ := h
    walk_at "rd"
    refine ⟨p, rfl, ⟨wd, s, hk⟩, ?_⟩
    walk_at "rd"
    refine w_if ?_
    walk_at "rd"
    refine w_fs T rfl hk ?_
    walk_at "rd"
    cases s with
    | false =>
      refine iteF ?_
      walk_at "rd"
      have e : loK wd false = 0 := by unfold loK; rw [if_neg Bool.false_ne_true]
      rw [e] at k
      exact k
    | true =>
      refine iteT ?_
      walk_at "rd"
      refine w_fb T rfl hk ?_
      walk_at "rd"
      have h1 := hk.w1
      have h2 := hk.w2
      have e : (wd : Int) - 1 = ((wd - 1 : Nat) : Int) := by omega
      rw [e]
      refine w_I (cpow (n := 1) (by omega) (by decide)) ?_
      walk_at "rd"
      rw [Int.toNat_natCast, Int.one_mul]
      have e : loK wd true = -(2 ^ (wd - 1)) := by unfold loK; rw [if_pos rfl]
      rw [e] at k
      exact k
def sp_greatest (K : PySem.W.Frag) (C : Addr) : Sp := fun vs H Q _ => ∃ (p : Addr) (wd : Nat) (s : Bool), vs = [.ref p] ∧ Kd C H p wd s ∧ Q (.int (hiK wd s)) H
theorem ok_greatest {P : Program} {w : World} {K : PySem.W.Frag} {mg : Str → Option Value} {base : Heap} (T : Txt K mg) : FnOk P w K mg base CX0 3 T.f_greatest T.fd_greatest ["kind"] (sp_greatest K T.C_Kind) := by
  have G_least := ok_least (P := P) (w := w) (base := base) T
  refine T.F_greatest.ok sc_greatest (fun vs H Q E h => ?_) (fun cdv A outer s H vs Q E hr h => ?_)
  · obtain ⟨p, wd, s, rfl, _⟩ := h
    rfl
  · obtain ⟨p, wd, s, rfl, h⟩ := h
    have hr_least : Room 2 _ := hr.mono (by decide)
    refine ⟨_, (pss_one (ps_ret (pe_op op_sub (pe_op op_add (pe_call G_least hr_least rfl T.g_least T.k_least T.b_least .nil pass0 (pa_cons (pv 0 (hv := Or.inl rfl)) pa_nil)) (pe_op op_shl pe_int (pe_fld (pv 0 (hv := Or.inl rfl)) rfl))) pe_int))), ?_⟩
    try dsimp only [cxOf, Cx.nox, Cx.wish, Cx.blk]
    rw [show L2.start ["kind"] [.ref p] = [some (.ref p)] from rfl]
    obtain ⟨hk, k⟩ := h
    have h2 := hk.w2
    walk_at "rd"
    refine ⟨p, wd, s, rfl, hk, ?_⟩
    walk_at "rd"
    refine w_fb T rfl hk ?_
    walk_at "rd"
    refine w_I (cpow (n := 1) (by omega) (by decide)) ?_
    walk_at "rd"
    rw [Int.toNat_natCast, Int.one_mul]
    exact k
def sp_is_value (K : PySem.W.Frag) (C : Addr) : Sp := fun vs H Q _ => ∃ (p : Addr) (v : V) (wd : Nat) (s : Bool), vs = [.ref p, v] ∧ Kd C H p wd s ∧ ((∃ i : Int, v = .int i ∧ Q (.bl (decide (loK wd s ≤ i ∧ i ≤ hiK wd s))) H) ∨ (IntQ K H v false ∧ Q (.bl false) H))
theorem ok_is_value {P : Program} {w : World} {K : PySem.W.Frag} {mg : Str → Option Value} {base : Heap} (T : Txt K mg) : FnOk P w K mg base CX0 4 T.f_is_value T.fd_is_value ["kind", "x"] (sp_is_value K T.C_Kind) := by
  have G_check_kind := ok_check_kind (P := P) (w := w) (base := base) T
  have G_greatest := ok_greatest (P := P) (w := w) (base := base) T
  have G_is_integer := ok_is_integer (P := P) (w := w) (base := base) T
  have G_least := ok_least (P := P) (w := w) (base := base) T
  refine T.F_is_value.ok sc_is_value (fun vs H Q E h => ?_) (fun cdv A outer s H vs Q E hr h => ?_)
  · obtain ⟨p, v, wd, s, rfl, _⟩ := h
    rfl
  · obtain ⟨p, v, wd, s, rfl, h⟩ := h
    have hr_check_kind : Room 1 _ := hr.mono (by decide)
    have hr_greatest : Room 3 _ := hr.mono (by decide)
    have hr_is_integer : Room 1 _ := hr.mono (by decide)
    have hr_least : Room 2 _ := hr.mono (by decide)
    refine ⟨_, (pss_cons (ps_expr (pe_call G_check_kind hr_check_kind rfl T.g_check_kind T.k_check_kind T.b_check_kind .nil pass0 (pa_cons (pv 0 (hv := Or.inl rfl)) pa_nil)))
      (pss_one (ps_ret (pe_and (pe_call G_is_integer hr_is_integer rfl T.g_is_integer T.k_is_integer T.b_is_integer .nil pass0 (pa_cons (pv 1 (hv := Or.inl rfl)) pa_nil)) (pe_one (pe_chain op_le op_le (pe_call G_least hr_least rfl T.g_least T.k_least T.b_least .nil pass0 (pa_cons (pv 0 (hv := Or.inl rfl)) pa_nil)) (pv 1 (hv := Or.inl rfl)) (pe_call G_greatest hr_greatest rfl T.g_greatest T.k_greatest T.b_greatest .nil pass0 (pa_cons (pv 0 (hv := Or.inl rfl)) pa_nil)))))))), ?_⟩
    try dsimp only [cxOf, Cx.nox, Cx.wish, Cx.blk]
    rw [show L2.start ["kind", "x"] [.ref p, v] = [some (.ref p), some (v)] from rfl]
    obtain ⟨hk, k⟩ := h
    walk_at "rd"
    refine ⟨p, rfl, ⟨wd, s, hk⟩, ?_⟩
    walk_at "rd"
    rcases k with ⟨i, rfl, k⟩ | ⟨hi, k⟩
    · refine ⟨_, true, rfl, IntQ.int _, ?_⟩
      walk_at "rd"
      refine iteT ?_
      refine w_chain ?_
      walk_at "rd"
      refine ⟨p, wd, s, rfl, hk, ?_⟩
      walk_at "rd"
      refine w_dec (fun h1 => ?_) (fun h1 => ?_)
      · walk_at "rd"
        refine ⟨p, wd, s, rfl, hk, ?_⟩
        walk_at "rd"
        have e : decide (loK wd s ≤ i ∧ i ≤ hiK wd s) = decide (i ≤ hiK wd s) := by simp [h1]
        rw [e] at k
        exact k
      · have e : decide (loK wd s ≤ i ∧ i ≤ hiK wd s) = false := by simp [h1]
        rw [e] at k
        exact k
    · refine ⟨_, false, rfl, hi, ?_⟩
      walk_at "rd"
      refine iteF ?_
      exact k
def sp_check_value (K : PySem.W.Frag) (C : Addr) : Sp := fun vs H Q _ => ∃ (p : Addr) (i : Int) (z : Str), vs = [.ref p, .int i, .str z] ∧ (∃ wd s, Kd C H p wd s ∧ loK wd s ≤ i ∧ i ≤ hiK wd s) ∧ Q .non H
theorem ok_check_value {P : Program} {w : World} {K : PySem.W.Frag} {mg : Str → Option Value} {base : Heap} (T : Txt K mg) : FnOk P w K mg base CX0 5 T.f_check_value T.fd_check_value ["kind", "x", "argument"] (sp_check_value K T.C_Kind) := by
  have G_is_value := ok_is_value (P := P) (w := w) (base := base) T
  refine T.F_check_value.ok sc_check_value (fun vs H Q E h => ?_) (fun cdv A outer s H vs Q E hr h => ?_)
  · obtain ⟨p, i, z, rfl, _⟩ := h
    rfl
  · obtain ⟨p, i, z, rfl, h⟩ := h
    have hr_is_value : Room 4 _ := hr.mono (by decide)
    refine ⟨_, (pss_one (ps_if (pt_not (pt_val (pe_call G_is_value hr_is_value rfl T.g_is_value T.k_is_value T.b_is_value .nil pass0 (pa_cons (pv 0 (hv := Or.inl rfl)) (pa_cons (pv 1 (hv := Or.inl rfl)) pa_nil))))) (pss_one ps_never) pss_nil)), ?_⟩
    try dsimp only [cxOf, Cx.nox, Cx.wish, Cx.blk]
    rw [show L2.start ["kind", "x", "argument"] [.ref p, .int i, .str z] = [some (.ref p), some (.int i), some (.str z)] from rfl]
    obtain ⟨⟨wd, s, hk, h1, h2⟩, k⟩ := h
    walk_at "rd"
    refine ⟨p, _, wd, s, rfl, hk, .inl ⟨i, rfl, ?_⟩⟩
    walk_at "rd"
    refine w_ndecT ⟨h1, h2⟩ ?_
    walk_at "rd"
    exact k
def sp_wrapped (K : PySem.W.Frag) (C : Addr) : Sp := fun vs H Q _ => ∃ (p : Addr) (i : Int) (wd : Nat) (s : Bool), vs = [.ref p, .int i] ∧ Kd C H p wd s ∧ Q (.int (wr wd s i)) H
theorem ok_wrapped {P : Program} {w : World} {K : PySem.W.Frag} {mg : Str → Option Value} {base : Heap} (T : Txt K mg) : FnOk P w K mg base CX0 3 T.f_wrapped T.fd_wrapped ["kind", "n"] (sp_wrapped K T.C_Kind) := by
  have G_check_integer := ok_check_integer (P := P) (w := w) (base := base) T
  have G_check_kind := ok_check_kind (P := P) (w := w) (base := base) T
  have G_least := ok_least (P := P) (w := w) (base := base) T
  refine T.F_wrapped.ok sc_wrapped (fun vs H Q E h => ?_) (fun cdv A outer s H vs Q E hr h => ?_)
  · obtain ⟨p, i, wd, s, rfl, _⟩ := h
    rfl
  · obtain ⟨p, i, wd, s, rfl, h⟩ := h
    have hr_check_integer : Room 2 _ := hr.mono (by decide)
    have hr_check_kind : Room 1 _ := hr.mono (by decide)
    have hr_least : Room 2 _ := hr.mono (by decide)
    refine ⟨_, (pss_cons (ps_expr (pe_call G_check_kind hr_check_kind rfl T.g_check_kind T.k_check_kind T.b_check_kind .nil pass0 (pa_cons (pv 0 (hv := Or.inl rfl)) pa_nil)))
      (pss_cons (ps_expr (pe_call G_check_integer hr_check_integer rfl T.g_check_integer T.k_check_integer T.b_check_integer .nil pass0 (pa_cons (pv 1 (hv := Or.inl rfl)) (pa_cons pe_str pa_nil))))
      (pss_cons (ps_set (i := 2) sc_wrapped.nd rfl (Or.inl rfl) (pe_call G_least hr_least rfl T.g_least T.k_least T.b_least .nil pass0 (pa_cons (pv 0 (hv := Or.inl rfl)) pa_nil)))
      (pss_one (ps_ret (pe_op op_add (pv 2 (hv := Or.inl rfl)) (pe_op op_mod (pe_op op_sub (pv 1 (hv := Or.inl rfl)) (pv 2 (hv := Or.inl rfl))) (pe_op op_shl pe_int (pe_fld (pv 0 (hv := Or.inl rfl)) rfl))))))))), ?_⟩
    try dsimp only [cxOf, Cx.nox, Cx.wish, Cx.blk]
    rw [show L2.start ["kind", "n", "low"] [.ref p, .int i] = [some (.ref p), some (.int i), none] from rfl]
    obtain ⟨hk, k⟩ := h
    have h2 := hk.w2
    walk_at "rd"
    refine ⟨p, rfl, ⟨wd, s, hk⟩, ?_⟩
    walk_at "rd"
    refine ⟨_, _, rfl, ?_⟩
    walk_at "rd"
    refine ⟨p, wd, s, rfl, hk, ?_⟩
    walk_at "rd"
    refine w_fb T rfl hk ?_
    walk_at "rd"
    refine w_I (cpow (n := 1) (by omega) (by decide)) ?_
    rw [Int.toNat_natCast, Int.one_mul]
    refine w_I (p2 wd) ?_
    walk_at "rd"
    exact k
def sp__check_operation (K : PySem.W.Frag) (C : Addr) : Sp := fun vs H Q _ => ∃ (p a : Addr) (o : Op) (x y : Int), vs = [.ref p, .ref a, .str o.nm, .int x, .int y] ∧ (∃ its, SqT K H a its ∧ its.all flatV = true ∧ inV (.str o.nm) its = true) ∧ (∃ wd s, Kd C H p wd s ∧ (loK wd s ≤ x ∧ x ≤ hiK wd s) ∧ (loK wd s ≤ y ∧ y ≤ hiK wd s) ∧ (o = .div ∨ o = .rem → y ≠ 0) ∧ (o = .left ∨ o = .right → 0 ≤ y ∧ y < wd)) ∧ Q .non H
theorem ok__check_operation {P : Program} {w : World} {K : PySem.W.Frag} {mg : Str → Option Value} {base : Heap} (T : Txt K mg) : FnOk P w K mg base CX0 6 T.f__check_operation T.fd__check_operation ["kind", "names", "name", "x", "y"] (sp__check_operation K T.C_Kind) := by
  have G_check_kind := ok_check_kind (P := P) (w := w) (base := base) T
  have G_check_value := ok_check_value (P := P) (w := w) (base := base) T
  have G_check_word := ok_check_word (P := P) (w := w) (base := base) T
  refine T.F__check_operation.ok sc__check_operation (fun vs H Q E h => ?_) (fun cdv A outer s H vs Q E hr h => ?_)
  · obtain ⟨p, a, o, x, y, rfl, _⟩ := h
    rfl
  · obtain ⟨p, a, o, x, y, rfl, h⟩ := h
    have hr_check_kind : Room 1 _ := hr.mono (by decide)
    have hr_check_value : Room 5 _ := hr.mono (by decide)
    have hr_check_word : Room 2 _ := hr.mono (by decide)
    refine ⟨_, (pss_cons (ps_expr (pe_call G_check_kind hr_check_kind rfl T.g_check_kind T.k_check_kind T.b_check_kind .nil pass0 (pa_cons (pv 0 (hv := Or.inl rfl)) pa_nil)))
      (pss_cons (ps_expr (pe_call G_check_word hr_check_word rfl T.g_check_word T.k_check_word T.b_check_word .nil pass0 (pa_cons (pv 2 (hv := Or.inl rfl)) (pa_cons (pv 1 (hv := Or.inl rfl)) (pa_cons pe_str pa_nil)))))
      (pss_cons (ps_expr (pe_call G_check_value hr_check_value rfl T.g_check_value T.k_check_value T.b_check_value .nil pass0 (pa_cons (pv 0 (hv := Or.inl rfl)) (pa_cons (pv 3 (hv := Or.inl rfl)) (pa_cons pe_str pa_nil)))))
      (pss_cons (ps_expr (pe_call G_check_value hr_check_value rfl T.g_check_value T.k_check_value T.b_check_value .nil pass0 (pa_cons (pv 0 (hv := Or.inl rfl)) (pa_cons (pv 4 (hv := Or.inl rfl)) (pa_cons pe_str pa_nil)))))
      (pss_cons (ps_if (PW.pt (pw_and (pt_cmpR op_in_seq (pv 2 (hv := Or.inl rfl)) (pe_glob (v := .ref T.a_DIVISIONS) rfl T.g_DIVISIONS rfl) (by rfl)) (pw_and1 (pt_cmpR op_eq (pv 4 (hv := Or.inl rfl)) pe_int (nomark _))))) (pss_one ps_never) pss_nil)
      (pss_one (ps_if (PW.pt (pw_and (pt_cmpR op_in_seq (pv 2 (hv := Or.inl rfl)) (pe_glob (v := .ref T.a_SHIFTS) rfl T.g_SHIFTS rfl) (by rfl)) (pw_and1 (pt_not (pt_chain op_le op_lt pe_int (pv 4 (hv := Or.inl rfl)) (pe_fld (pv 0 (hv := Or.inl rfl)) rfl)))))) (pss_one ps_never) pss_nil))))))), ?_⟩
    try dsimp only [cxOf, Cx.nox, Cx.wish, Cx.blk]
    rw [show L2.start ["kind", "names", "name", "x", "y"] [.ref p, .ref a, .str o.nm, .int x, .int y] = [some (.ref p), some (.ref a), some (.str o.nm), some (.int x), some (.int y)] from rfl]
    obtain ⟨⟨its, ha, hf, hi⟩, ⟨wd, s, hk, hx, hy, hd, hs⟩, k⟩ := h
    walk_at "rd"
    refine ⟨p, rfl, ⟨wd, s, hk⟩, ?_⟩
    walk_at "rd"
    refine ⟨_, a, _, rfl, ⟨its, ha, hf, hi⟩, ?_⟩
    walk_at "rd"
    refine ⟨p, x, _, rfl, ⟨wd, s, hk, hx⟩, ?_⟩
    walk_at "rd"
    refine ⟨p, y, _, rfl, ⟨wd, s, hk, hy⟩, ?_⟩
    walk_at "rd"
    refine w_inT (T.q_DIVISIONS _) rfl rfl ?_
    rw [in_div]
    walk_at "rd"
    refine w_dec (fun c => ?_) (fun c => ?_)
    · walk_at "rd"
      refine w_decF (hd c) ?_
      have c2 : ¬ (o = .left ∨ o = .right) := by rcases c with rfl | rfl <;> simp
      walk_at "rd"
      refine w_inT (T.q_SHIFTS _) rfl rfl ?_
      rw [in_shift]
      walk_at "rd"
      refine w_decF c2 ?_
      refine iteF ?_
      walk_at "rd"
      exact k
    · refine iteF ?_
      walk_at "rd"
      refine w_inT (T.q_SHIFTS _) rfl rfl ?_
      rw [in_shift]
      walk_at "rd"
      refine w_dec (fun c2 => ?_) (fun c2 => ?_)
      · walk_at "rd"
        refine w_chain ?_
        walk_at "rd"
        refine w_decT (hs c2).1 ?_
        walk_at "rd"
        refine w_fb T rfl hk ?_
        walk_at "rd"
        refine w_bF (by rw [decide_eq_true (hs c2).2]; rfl) ?_
        walk_at "rd"
        exact k
      · refine iteF ?_
        walk_at "rd"
        exact k
def sp_operate (K : PySem.W.Frag) (C : Addr) : Sp := fun vs H Q _ => ∃ (p : Addr) (o : Op) (x y : Int) (wd : Nat) (s : Bool), vs = [.ref p, .str o.nm, .int x, .int y] ∧ Kd C H p wd s ∧ (loK wd s ≤ x ∧ x ≤ hiK wd s) ∧ (loK wd s ≤ y ∧ y ≤ hiK wd s) ∧ (o = .div ∨ o = .rem → y ≠ 0) ∧ (o = .left ∨ o = .right → 0 ≤ y ∧ y < wd) ∧ Q (.int (wr wd s (exO o x y))) H
theorem ok_operate {P : Program} {w : World} {K : PySem.W.Frag} {mg : Str → Option Value} {base : Heap} (T : Txt K mg) : FnOk P w K mg base CX0 7 T.f_operate T.fd_operate ["kind", "name", "x", "y"] (sp_operate K T.C_Kind) := by
  have G__check_operation := ok__check_operation (P := P) (w := w) (base := base) T
  have G_exact_result := ok_exact_result (P := P) (w := w) (base := base) T
  have G_wrapped := ok_wrapped (P := P) (w := w) (base := base) T
  refine T.F_operate.ok sc_operate (fun vs H Q E h => ?_) (fun cdv A outer s H vs Q E hr h => ?_)
  · obtain ⟨p, o, x, y, wd, s, rfl, _⟩ := h
    rfl
  · obtain ⟨p, o, x, y, wd, s, rfl, h⟩ := h
    have hr__check_operation : Room 6 _ := hr.mono (by decide)
    have hr_exact_result : Room 2 _ := hr.mono (by decide)
    have hr_wrapped : Room 3 _ := hr.mono (by decide)
    refine ⟨_, (pss_cons (ps_expr (pe_call G__check_operation hr__check_operation rfl T.g__check_operation T.k__check_operation T.b__check_operation .nil pass0 (pa_cons (pv 0 (hv := Or.inl rfl)) (pa_cons (pe_glob (v := .ref T.a_OPERATIONS) rfl T.g_OPERATIONS rfl) (pa_cons (pv 1 (hv := Or.inl rfl)) (pa_cons (pv 2 (hv := Or.inl rfl)) (pa_cons (pv 3 (hv := Or.inl rfl)) pa_nil)))))))
      (pss_one (ps_ret (pe_call G_wrapped hr_wrapped rfl T.g_wrapped T.k_wrapped T.b_wrapped .nil pass0 (pa_cons (pv 0 (hv := Or.inl rfl)) (pa_cons (pe_call G_exact_result hr_exact_result rfl T.g_exact_result T.k_exact_result T.b_exact_result .nil pass0 (pa_cons (pv 1 (hv := Or.inl rfl)) (pa_cons (pv 2 (hv := Or.inl rfl)) (pa_cons (pv 3 (hv := Or.inl rfl)) pa_nil)))) pa_nil)))))), ?_⟩
    try dsimp only [cxOf, Cx.nox, Cx.wish, Cx.blk]
    rw [show L2.start ["kind", "name", "x", "y"] [.ref p, .str o.nm, .int x, .int y] = [some (.ref p), some (.str o.nm), some (.int x), some (.int y)] from rfl]
    obtain ⟨hk, hx, hy, hd, hs, k⟩ := h
    walk_at "rd"
    refine ⟨p, _, o, x, y, rfl, ⟨_, T.q_OPERATIONS _, rfl, in_ops o⟩, ⟨wd, s, hk, hx, hy, hd, hs⟩, ?_⟩
    walk_at "rd"
    refine ⟨o, x, y, rfl, b129 hk.w2 hx.1 hx.2, b129 hk.w2 hy.1 hy.2, hd, fun c => ⟨(hs c).1, by have := (hs c).2; have := hk.w2; omega⟩, ?_⟩
    walk_at "rd"
    exact ⟨p, _, wd, s, rfl, hk, k⟩
def sp_overflows (K : PySem.W.Frag) (C : Addr) : Sp := fun vs H Q _ => ∃ (p : Addr) (o : Op) (x y : Int) (wd : Nat) (s : Bool), vs = [.ref p, .str o.nm, .int x, .int y] ∧ Kd C H p wd s ∧ (o = .add ∨ o = .sub ∨ o = .mul ∨ o = .div ∨ o = .left) ∧ (loK wd s ≤ x ∧ x ≤ hiK wd s) ∧ (loK wd s ≤ y ∧ y ≤ hiK wd s) ∧ (o = .div ∨ o = .rem → y ≠ 0) ∧ (o = .left ∨ o = .right → 0 ≤ y ∧ y < wd) ∧ Q (.bl (!decide (loK wd s ≤ exO o x y ∧ exO o x y ≤ hiK wd s))) H
theorem ok_overflows {P : Program} {w : World} {K : PySem.W.Frag} {mg : Str → Option Value} {base : Heap} (T : Txt K mg) : FnOk P w K mg base CX0 7 T.f_overflows T.fd_overflows ["kind", "name", "x", "y"] (sp_overflows K T.C_Kind) := by
  have G__check_operation := ok__check_operation (P := P) (w := w) (base := base) T
  have G_exact_result := ok_exact_result (P := P) (w := w) (base := base) T
  have G_is_value := ok_is_value (P := P) (w := w) (base := base) T
  refine T.F_overflows.ok sc_overflows (fun vs H Q E h => ?_) (fun cdv A outer s H vs Q E hr h => ?_)
  · obtain ⟨p, o, x, y, wd, s, rfl, _⟩ := h
    rfl
  · obtain ⟨p, o, x, y, wd, s, rfl, h⟩ := h
    have hr__check_operation : Room 6 _ := hr.mono (by decide)
    have hr_exact_result : Room 2 _ := hr.mono (by decide)
    have hr_is_value : Room 4 _ := hr.mono (by decide)
    refine ⟨_, (pss_cons (ps_expr (pe_call G__check_operation hr__check_operation rfl T.g__check_operation T.k__check_operation T.b__check_operation .nil pass0 (pa_cons (pv 0 (hv := Or.inl rfl)) (pa_cons (pe_glob (v := .ref T.a_OVERFLOWING) rfl T.g_OVERFLOWING rfl) (pa_cons (pv 1 (hv := Or.inl rfl)) (pa_cons (pv 2 (hv := Or.inl rfl)) (pa_cons (pv 3 (hv := Or.inl rfl)) pa_nil)))))))
      (pss_one (ps_ret (pe_not (pe_call G_is_value hr_is_value rfl T.g_is_value T.k_is_value T.b_is_value .nil pass0 (pa_cons (pv 0 (hv := Or.inl rfl)) (pa_cons (pe_call G_exact_result hr_exact_result rfl T.g_exact_result T.k_exact_result T.b_exact_result .nil pass0 (pa_cons (pv 1 (hv := Or.inl rfl)) (pa_cons (pv 2 (hv := Or.inl rfl)) (pa_cons (pv 3 (hv := Or.inl rfl)) pa_nil)))) pa_nil))))))), ?_⟩
    try dsimp only [cxOf, Cx.nox, Cx.wish, Cx.blk]
    rw [show L2.start ["kind", "name", "x", "y"] [.ref p, .str o.nm, .int x, .int y] = [some (.ref p), some (.str o.nm), some (.int x), some (.int y)] from rfl]
    obtain ⟨hk, ho, hx, hy, hd, hs, k⟩ := h
    walk_at "rd"
    refine ⟨p, _, o, x, y, rfl, ⟨_, T.q_OVERFLOWING _, rfl, in_over ho⟩, ⟨wd, s, hk, hx, hy, hd, hs⟩, ?_⟩
    walk_at "rd"
    refine ⟨o, x, y, rfl, b129 hk.w2 hx.1 hx.2, b129 hk.w2 hy.1 hy.2, hd, fun c => ⟨(hs c).1, by have := (hs c).2; have := hk.w2; omega⟩, ?_⟩
    walk_at "rd"
    refine ⟨p, _, wd, s, rfl, hk, .inl ⟨_, rfl, ?_⟩⟩
    walk_at "rd"
    exact k
def sp__law_source_of (K : PySem.W.Frag) (C : Addr) : Sp := fun vs H Q _ => ∃ (c : Int), vs = [.int c] ∧ ∀ p H', H p = none → Same H H' → SrcAt H' p → Q (.ref p) H'
theorem ok__law_source_of {P : Program} {w : World} {K : PySem.W.Frag} {mg : Str → Option Value} {base : Heap} (T : Txt K mg) : FnOk P w K mg base CX0 1 T.f__law_source_of T.fd__law_source_of ["_law_cell"] (sp__law_source_of K T.C_Kind) := by
  refine T.F__law_source_of.ok sc__law_source_of (fun vs H Q E h => ?_) (fun cdv A outer s H vs Q E hr h => ?_)
  · obtain ⟨c, rfl, _⟩ := h
    rfl
  · obtain ⟨c, rfl, h⟩ := h
    refine ⟨_, (pss_cons (ps_set (i := 0) sc__law_source_of.nd rfl (Or.inl rfl) (pe_ifExp (pt_cmpR op_ge (pv 0 (hv := Or.inl rfl)) pe_int (nomark _)) (pv 0 (hv := Or.inl rfl)) (pe_op op_sub (pe_op op_sub pe_int (pe_op op_mul pe_int (pv 0 (hv := Or.inl rfl)))) pe_int)))
      (pss_one (ps_ret (pe_lst (pa_cons (pe_op op_mul (pv 0 (hv := Or.inl rfl)) (pe_callTy (T := "int") (r := rIntC) call_int1 (by rfl) T.n_int (by decide +kernel) (pa_cons (pe_cmpR op_ge (pv 0 (hv := Or.inl rfl)) (pe_op op_pow pe_int pe_int) (nomark _)) pa_nil))) (pa_cons (pe_op op_mod (pe_callTy (T := "int") (r := rIntC) call_int1 (by rfl) T.n_int (by decide +kernel) (pa_cons (pv 0 (hv := Or.inl rfl)) pa_nil)) pe_int) (pa_cons pe_int pa_nil))))))), ?_⟩
    try dsimp only [cxOf, Cx.nox, Cx.wish, Cx.blk]
    rw [show L2.start ["_law_cell"] [.int c] = [some (.int c)] from rfl]
    walk_at "rd"
    refine w_if ?_
    walk_at "rd"
    refine w_dec (fun _ => ?_) (fun _ => ?_)
    all_goals
      walk_at "rd"
      refine w_I (Or.inr ⟨by split <;> decide, by split <;> decide⟩) ?_
      walk_at "rd"
      refine ⟨by show 3 ≤ sizeLine; decide, fun p hp => ?_⟩
      exact h p _ hp (sm_new (Same.refl H) hp) ⟨_, _, _, upd_same⟩
def sp__law_next (K : PySem.W.Frag) (C : Addr) : Sp := fun vs H Q _ => ∃ (p : Addr) (m : Int), vs = [.ref p, .int m] ∧ SrcAt H p ∧ 0 < m ∧ m.natAbs < 2 ^ 8999 ∧ ∀ v H', 0 ≤ v → v < m → Kp p H H' → SrcAt H' p → Q (.int v) H'
theorem ok__law_next {P : Program} {w : World} {K : PySem.W.Frag} {mg : Str → Option Value} {base : Heap} (T : Txt K mg) : FnOk P w K mg base CX0 1 T.f__law_next T.fd__law_next ["_law_source", "_law_many"] (sp__law_next K T.C_Kind) := by
  refine T.F__law_next.ok sc__law_next (fun vs H Q E h => ?_) (fun cdv A outer s H vs Q E hr h => ?_)
  · obtain ⟨p, m, rfl, _⟩ := h
    rfl
  · obtain ⟨p, m, rfl, h⟩ := h
    refine ⟨_, (pss_cons (ps_if (pt_cmpR op_gt (pe_ix (r := rIxL K) ix_list (pv 0 (hv := Or.inl rfl)) pe_int (fun _ _ => rfl)) pe_int (nomark _)) (pss_cons (ps_set (i := 2) sc__law_next.nd rfl (Or.inl rfl) (pe_op op_mod (pe_callTy (T := "int") (r := rIntC) call_int1 (by rfl) T.n_int (by decide +kernel) (pa_cons (pe_ix (r := rIxL K) ix_list (pv 0 (hv := Or.inl rfl)) pe_int (fun _ _ => rfl)) pa_nil)) (pv 1 (hv := Or.inl rfl))))
      (pss_cons (ps_asg (pe_op op_fdivW (pe_ix (r := rIxL K) ix_list (pv 0 (hv := Or.inl rfl)) pe_int (fun _ _ => rfl)) (pv 1 (hv := Or.inl rfl))) (pg_sub (pv 0 (hv := Or.inl rfl)) pe_int set_list))
      (pss_one (ps_ret (pv 2 (hv := Or.inl rfl)))))) pss_nil)
      (pss_cons (ps_asg (pe_op op_add (pe_ix (r := rIxL K) ix_list (pv 0 (hv := Or.inl rfl)) pe_int (fun _ _ => rfl)) pe_int) (pg_sub (pv 0 (hv := Or.inl rfl)) pe_int set_list))
      (pss_cons (ps_set (i := 3) sc__law_next.nd rfl (Or.inl rfl) pe_int)
      (pss_cons (ps_set (i := 4) sc__law_next.nd rfl (Or.inl rfl) (pe_op op_mod (pe_callTy (T := "int") (r := rIntC) call_int1 (by rfl) T.n_int (by decide +kernel) (pa_cons (pe_op op_add (pe_op op_add (pe_ix (r := rIxL K) ix_list (pv 0 (hv := Or.inl rfl)) pe_int (fun _ _ => rfl)) (pe_op op_mul pe_int (pe_ix (r := rIxL K) ix_list (pv 0 (hv := Or.inl rfl)) pe_int (fun _ _ => rfl)))) pe_int) pa_nil)) (pv 3 (hv := Or.inl rfl))))
      (pss_cons (ps_set (i := 4) sc__law_next.nd rfl (Or.inl rfl) (pe_op op_mod (pe_callTy (T := "int") (r := rIntC) call_int1 (by rfl) T.n_int (by decide +kernel) (pa_cons (pe_op op_mul (pv 4 (hv := Or.inl rfl)) pe_int) pa_nil)) (pv 3 (hv := Or.inl rfl))))
      (pss_cons (ps_set (i := 4) sc__law_next.nd rfl (Or.inl rfl) (pe_op op_mod (pe_callTy (T := "int") (r := rIntC) call_int1 (by rfl) T.n_int (by decide +kernel) (pa_cons (pe_op op_mul (pv 4 (hv := Or.inl rfl)) (pe_op op_add (pe_op op_fdiv (pv 4 (hv := Or.inl rfl)) pe_int) pe_int)) pa_nil)) (pv 3 (hv := Or.inl rfl))))
      (pss_cons (ps_set (i := 4) sc__law_next.nd rfl (Or.inl rfl) (pe_op op_mod (pe_callTy (T := "int") (r := rIntC) call_int1 (by rfl) T.n_int (by decide +kernel) (pa_cons (pe_op op_mul (pv 4 (hv := Or.inl rfl)) (pe_op op_add (pe_op op_fdiv (pv 4 (hv := Or.inl rfl)) pe_int) pe_int)) pa_nil)) pe_int))
      (pss_one (ps_ret (pe_op op_mod (pe_callTy (T := "int") (r := rIntC) call_int1 (by rfl) T.n_int (by decide +kernel) (pa_cons (pe_op op_fdiv (pv 4 (hv := Or.inl rfl)) pe_int) pa_nil)) (pv 1 (hv := Or.inl rfl)))))))))))), ?_⟩
    try dsimp only [cxOf, Cx.nox, Cx.wish, Cx.blk]
    rw [show L2.start ["_law_source", "_law_many", "_law_found", "_law_prime", "_law_number"] [.ref p, .int m] = [some (.ref p), some (.int m), none, none, none] from rfl]
    obtain ⟨⟨a, b, c, hp⟩, h0, hb, k⟩ := h
    have fin : ∀ (x : Int) (H' : Hp), Kp p H H' → SrcAt H' p → Q (.int (x % m)) H' := fun x H' a b => k _ _ (Int.emod_nonneg x (Int.ne_of_gt h0)) (Int.emod_lt_of_pos x h0) a b
    clear k
    walk_at "rd"
    refine w_dec (fun _ => ?_) (fun _ => ?_)
    · walk_at "rd"
      refine w_I h0 ?_
      walk_at "rd"
      refine w_I (wide_div h0 hb (by decide) (by decide)) ?_
      walk_at "rd"
      exact fin _ _ (Kp.refl p H).upd ⟨_, _, _, upd_same⟩
    · walk_at "rd"
      have hp1 : ∀ x : Int, 0 ≤ x % 2147483647 ∧ x % 2147483647 < 2147483647 := fun x => ⟨Int.emod_nonneg x (by decide), Int.emod_lt_of_pos x (by decide)⟩
      refine w_I (CC := CMul) (Or.inl ⟨Int.lt_of_lt_of_le (by decide) (hp1 _).1, Int.lt_trans (hp1 _).2 (by decide)⟩) ?_
      walk_at "rd"
      refine w_I (CC := CMul) (Or.inl ⟨Int.lt_of_lt_of_le (by decide) (hp1 _).1, Int.lt_trans (hp1 _).2 (by decide)⟩) ?_
      walk_at "rd"
      refine w_I h0 ?_
      walk_at "rd"
      exact fin _ _ (Kp.refl p H).upd ⟨_, _, _, upd_same⟩
def sp__law_one (K : PySem.W.Frag) (C : Addr) : Sp := fun vs H Q _ => ∃ (p l : Addr) (ns : List Int), vs = [.ref p, .ref l] ∧ SrcAt H p ∧ H l = some (.lst (ns.map V.int)) ∧ l ≠ p ∧ 0 < ns.length ∧ ns.length ≤ 1000 ∧ ∀ v H', v ∈ ns → Kp p H H' → SrcAt H' p → Q (.int v) H'
theorem ok__law_one {P : Program} {w : World} {K : PySem.W.Frag} {mg : Str → Option Value} {base : Heap} (T : Txt K mg) : FnOk P w K mg base CX0 2 T.f__law_one T.fd__law_one ["_law_source", "_law_some"] (sp__law_one K T.C_Kind) := by
  have G__law_next := ok__law_next (P := P) (w := w) (base := base) T
  refine T.F__law_one.ok sc__law_one (fun vs H Q E h => ?_) (fun cdv A outer s H vs Q E hr h => ?_)
  · obtain ⟨p, l, ns, rfl, _⟩ := h
    rfl
  · obtain ⟨p, l, ns, rfl, h⟩ := h
    have hr__law_next : Room 1 _ := hr.mono (by decide)
    refine ⟨_, (pss_one (ps_ret (pe_ix (r := rIxL K) ix_list (pv 1 (hv := Or.inl rfl)) (pe_call G__law_next hr__law_next rfl T.g__law_next T.k__law_next T.b__law_next .nil pass0 (pa_cons (pv 0 (hv := Or.inl rfl)) (pa_cons (pe_callB (id := "len") (r := rLenS K) call_len_seq (by rfl) T.n_len (by decide +kernel) (pa_cons (pv 1 (hv := Or.inl rfl)) pa_nil)) pa_nil))) (fun _ _ => rfl)))), ?_⟩
    try dsimp only [cxOf, Cx.nox, Cx.wish, Cx.blk]
    rw [show L2.start ["_law_source", "_law_some"] [.ref p, .ref l] = [some (.ref p), some (.ref l)] from rfl]
    obtain ⟨hs, hl, hn, n0, n1, k⟩ := h
    walk_at "rd"
    refine w_len hl ?_
    rw [List.length_map]
    walk_at "rd"
    refine ⟨p, _, rfl, hs, by omega, Nat.lt_trans (show ((ns.length : Nat) : Int).natAbs < 2 ^ 10 by omega) (Nat.pow_lt_pow_right (by decide) (by decide)), fun v H' h1 h2 kp hs' => ?_⟩
    obtain ⟨j, rfl⟩ := Int.eq_ofNat_of_zero_le h1
    have hj : j < ns.length := by omega
    refine w_ixL (kp _ _ hn hl) (atI_nat (v := V.int ns[j]) (by rw [List.getElem?_map, List.getElem?_eq_getElem hj]; rfl)) ?_
    exact k _ _ (List.getElem_mem hj) kp hs'
def sp__law_cell_at (K : PySem.W.Frag) (C : Addr) : Sp := fun vs H Q _ => ∃ (a : Addr) (ns : List Int), vs = [.ref a, .int 0] ∧ SqL K H a (ns.map V.int) ∧ ns.length ≤ 63 ∧ ∀ v H', Same H H' → Q (.int v) H'
theorem ok__law_cell_at {P : Program} {w : World} {K : PySem.W.Frag} {mg : Str → Option Value} {base : Heap} (T : Txt K mg) : FnOk P w K mg base CX0 1 T.f__law_cell_at T.fd__law_cell_at ["_law_script", "_law_index"] (sp__law_cell_at K T.C_Kind) := by
  refine T.F__law_cell_at.ok sc__law_cell_at (fun vs H Q E h => ?_) (fun cdv A outer s H vs Q E hr h => ?_)
  · obtain ⟨a, ns, rfl, _⟩ := h
    rfl
  · obtain ⟨a, ns, rfl, h⟩ := h
    refine ⟨_, (pss_one (ps_ret (pe_ix (r := rIxL K) ix_list (pe_op op_cat (pe_slice sl_list (pv 0 (hv := Or.inl rfl)) (po_some (pv 1 (hv := Or.inl rfl))) (po_some (pe_op op_add (pv 1 (hv := Or.inl rfl)) pe_int))) (pe_lst (pa_cons pe_int pa_nil))) pe_int (fun _ _ => rfl)))), ?_⟩
    try dsimp only [cxOf, Cx.nox, Cx.wish, Cx.blk]
    rw [show L2.start ["_law_script", "_law_index"] [.ref a, .int 0] = [some (.ref a), some (.int 0)] from rfl]
    obtain ⟨hS, n1, k⟩ := h
    walk_at "rd"
    refine w_slL hS (fun p1 h1 => ?_)
    walk_at "rd"
    refine ⟨by show 1 ≤ sizeLine; decide, fun p2 h2 => ?_⟩
    have e1 : (L2.upd (L2.upd H p1 (.lst (cutV (ns.map V.int) (some 0) (some (0 + 1))))) p2 (.lst [V.int 0])) p1 = some (.lst (cutV (ns.map V.int) (some 0) (some (0 + 1)))) := by
      rw [upd_ne (ne_of_none upd_same h2)]; exact upd_same
    have lc : (cutV (ns.map V.int) (some 0) (some (0 + 1))).length ≤ 63 := by
      unfold cutV; rw [List.length_take, List.length_drop, List.length_map]; omega
    refine w_cat e1 upd_same (by show _ + 1 ≤ sizeLine; exact Nat.le_trans (show _ ≤ 64 by omega) (by decide)) (fun p3 h3 => ?_)
    obtain ⟨v, hv⟩ : ∃ v : Int, atI (cutV (ns.map V.int) (some 0) (some (0 + 1)) ++ [V.int 0]) 0 = some (.int v) := by
      cases ns with
      | nil => exact ⟨0, rfl⟩
      | cons n r =>
        refine ⟨n, ?_⟩
        have e : cutV ((n :: r).map V.int) (some 0) (some (0 + 1)) = [V.int n] := by
          unfold cutV
          have q0 : HT.sIx ((n :: r).map V.int).length 0 (some 0) = 0 := (HT.sIx_nat _ _ 0).trans (Nat.zero_min _)
          have q1 : HT.sIx ((n :: r).map V.int).length ((n :: r).map V.int).length (some (0 + 1)) = 1 := (HT.sIx_nat _ _ 1).trans (by rw [List.length_map, List.length_cons]; omega)
          rw [q0, q1]; rfl
        rw [e]; rfl
    walk_at "rd"
    refine w_ixL upd_same hv ?_
    exact k _ _ (sm_new (sm_new (sm_new (Same.refl H) h1) h2) h3)
def sp__law_power (K : PySem.W.Frag) (C : Addr) : Sp := fun vs H Q _ => ∃ (n : Nat), vs = [.int (n : Int)] ∧ n ≤ 100000 ∧ Q (.int (2 ^ n)) H
theorem ok__law_power {P : Program} {w : World} {K : PySem.W.Frag} {mg : Str → Option Value} {base : Heap} (T : Txt K mg) : FnOk P w K mg base CX0 1 T.f__law_power T.fd__law_power ["_law_n"] (sp__law_power K T.C_Kind) := by
  refine T.F__law_power.ok sc__law_power (fun vs H Q E h => ?_) (fun cdv A outer s H vs Q E hr h => ?_)
  · obtain ⟨n, rfl, _⟩ := h
    rfl
  · obtain ⟨n, rfl, h⟩ := h
    refine ⟨_, (pss_cons (ps_set (i := 1) sc__law_power.nd rfl (Or.inl rfl) pe_int)
      (pss_cons (ps_for PassesOwn.never rfl (pi_range1 (by rfl) T.n_range (pa_cons (pv 0 (hv := Or.inl rfl)) pa_nil)) (pg_name (i := 2) sc__law_power.nd rfl (Or.inl rfl))
        (pss_one (ps_set (i := 1) sc__law_power.nd rfl (Or.inl rfl) (pe_op op_mul pe_int (pv 1 (hv := Or.inl rfl))))))
      (pss_one (ps_ret (pv 1 (hv := Or.inl rfl)))))), ?_⟩
    try dsimp only [cxOf, Cx.nox, Cx.wish, Cx.blk]
    rw [show L2.start ["_law_n", "_law_found", "_law_k"] [.int (n : Int)] = [some (.int (n : Int)), none, none] from rfl]
    obtain ⟨hn, k⟩ := h
    walk_at "rd"
    refine ⟨_, rfl, by omega, by omega, for_range (lo := 0) (n := n) (fun i σ H' => ∃ v : Option V, σ = [some (.int (n : Int)), some (.int (2 ^ i)), v] ∧ H' = H) ⟨none, rfl, rfl⟩ ?_ ?_⟩
    · rintro i σ H' hi ⟨v, rfl, rfl⟩
      walk_at "rd"
      refine ⟨some (.int (0 + (i : Int))), ?_, rfl⟩
      rw [Int.pow_succ, Int.mul_comm]
      all_goals rfl
    · rintro σ H' ⟨v, rfl, rfl⟩
      walk_at "rd"
      exact k
def sp__law_wide (K : PySem.W.Frag) (C : Addr) : Sp := fun vs H Q _ => ∃ (p : Addr) (m : Int), vs = [.ref p, .int m] ∧ SrcAt H p ∧ 0 < m ∧ m.natAbs < 2 ^ 8999 ∧ ∀ v H', 0 ≤ v → v < m → Kp p H H' → SrcAt H' p → Q (.int v) H'
theorem ok__law_wide {P : Program} {w : World} {K : PySem.W.Frag} {mg : Str → Option Value} {base : Heap} (T : Txt K mg) : FnOk P w K mg base CX0 2 T.f__law_wide T.fd__law_wide ["_law_source", "_law_m"] (sp__law_wide K T.C_Kind) := by
  have G__law_next := ok__law_next (P := P) (w := w) (base := base) T
  refine T.F__law_wide.ok sc__law_wide (fun vs H Q E h => ?_) (fun cdv A outer s H vs Q E hr h => ?_)
  · obtain ⟨p, m, rfl, _⟩ := h
    rfl
  · obtain ⟨p, m, rfl, h⟩ := h
    have hr__law_next : Room 1 _ := hr.mono (by decide)
    refine ⟨_, (pss_cons (ps_set (i := 2) sc__law_wide.nd rfl (Or.inl rfl) (pe_call G__law_next hr__law_next rfl T.g__law_next T.k__law_next T.b__law_next .nil pass0 (pa_cons (pv 0 (hv := Or.inl rfl)) (pa_cons (pv 1 (hv := Or.inl rfl)) pa_nil))))
      (pss_cons (ps_for PassesOwn.never rfl (pi_range1 (by rfl) T.n_range (pa_cons (pe_op op_fdiv (pe_bits (pv 1 (hv := Or.inl rfl))) pe_int) pa_nil)) (pg_name (i := 3) sc__law_wide.nd rfl (Or.inl rfl))
        (pss_one (ps_set (i := 2) sc__law_wide.nd rfl (Or.inl rfl) (pe_op op_add (pe_op op_mul (pv 2 (hv := Or.inl rfl)) pe_int) (pe_call G__law_next hr__law_next rfl T.g__law_next T.k__law_next T.b__law_next .nil pass0 (pa_cons (pv 0 (hv := Or.inl rfl)) (pa_cons pe_int pa_nil)))))))
      (pss_one (ps_ret (pe_op op_mod (pe_callTy (T := "int") (r := rIntC) call_int1 (by rfl) T.n_int (by decide +kernel) (pa_cons (pv 2 (hv := Or.inl rfl)) pa_nil)) (pv 1 (hv := Or.inl rfl))))))), ?_⟩
    try dsimp only [cxOf, Cx.nox, Cx.wish, Cx.blk]
    rw [show L2.start ["_law_source", "_law_m", "_law_found", "_law_k"] [.ref p, .int m] = [some (.ref p), some (.int m), none, none] from rfl]
    obtain ⟨hs, h0, hb, k⟩ := h
    have bb := PyProof.Rows.intBits_le hb
    walk_at "rd"
    refine ⟨p, m, rfl, hs, h0, hb, fun v1 H1 _ _ kp1 hs1 => ?_⟩
    walk_at "rd"
    refine ⟨_, rfl, by omega, by omega, for_range (lo := 0) (n := ((Builtin.Int.intBits m : Int) / 30).toNat) (fun i σ H' => ∃ (f : Int) (v : Option V), σ = [some (.ref p), some (.int m), some (.int f), v] ∧ Kp p H H' ∧ SrcAt H' p) ⟨_, none, rfl, kp1, hs1⟩ ?_ ?_⟩
    · rintro i σ H' hi ⟨f, v, rfl, kp, hs'⟩
      walk_at "rd"
      refine ⟨p, _, rfl, hs', by decide, Nat.lt_trans (show (2147483648 : Int).natAbs < 2 ^ 32 by decide) (Nat.pow_lt_pow_right (by decide) (by decide)), fun v1 H1 _ _ kp1 hs1 => ?_⟩
      walk_at "rd"
      exact ⟨_, _, rfl, kp.trans kp1, hs1⟩
    · rintro σ H' ⟨f, v, rfl, kp, hs'⟩
      walk_at "rd"
      refine w_I h0 ?_
      walk_at "rd"
      exact k _ _ (Int.emod_nonneg _ (Int.ne_of_gt h0)) (Int.emod_lt_of_pos _ h0) kp hs'
def sp__law_placed (K : PySem.W.Frag) (C : Addr) : Sp := fun vs H Q _ => ∃ (t : Addr) (n : Int) (wd : Nat) (s : Bool), vs = [.ref t, .int n] ∧ H t = some (.tup [.int (wd : Int), .bl s]) ∧ 1 ≤ wd ∧ wd ≤ 128 ∧ Q (.int (wr wd s n)) H
theorem ok__law_placed {P : Program} {w : World} {K : PySem.W.Frag} {mg : Str → Option Value} {base : Heap} (T : Txt K mg) : FnOk P w K mg base CX0 2 T.f__law_placed T.fd__law_placed ["_law_parts", "_law_n"] (sp__law_placed K T.C_Kind) := by
  have G__law_power := ok__law_power (P := P) (w := w) (base := base) T
  refine T.F__law_placed.ok sc__law_placed (fun vs H Q E h => ?_) (fun cdv A outer s H vs Q E hr h => ?_)
  · obtain ⟨t, n, wd, s, rfl, _⟩ := h
    rfl
  · obtain ⟨t, n, wd, s, rfl, h⟩ := h
    have hr__law_power : Room 1 _ := hr.mono (by decide)
    refine ⟨_, (pss_cons (ps_asg (pv 0 (hv := Or.inl rfl)) (pg_tup rfl (pgs_cons (pg_name (i := 2) sc__law_placed.nd rfl (Or.inl rfl)) (pgs_cons (pg_name (i := 3) sc__law_placed.nd rfl (Or.inl rfl)) pgs_nil))))
      (pss_cons (ps_set (i := 4) sc__law_placed.nd rfl (Or.inl rfl) (pe_call G__law_power hr__law_power rfl T.g__law_power T.k__law_power T.b__law_power .nil pass0 (pa_cons (pv 2 (hv := Or.inl rfl)) pa_nil)))
      (pss_cons (ps_set (i := 5) sc__law_placed.nd rfl (Or.inl rfl) (pe_op op_mod (pe_callTy (T := "int") (r := rIntC) call_int1 (by rfl) T.n_int (by decide +kernel) (pa_cons (pv 1 (hv := Or.inl rfl)) pa_nil)) (pv 4 (hv := Or.inl rfl))))
      (pss_one (ps_ret (pe_ifExp (PW.pt (pw_and (pt_val (pv 3 (hv := Or.inl rfl))) (pw_and1 (pt_cmpR op_ge (pv 5 (hv := Or.inl rfl)) (pe_call G__law_power hr__law_power rfl T.g__law_power T.k__law_power T.b__law_power .nil pass0 (pa_cons (pe_op op_sub (pv 2 (hv := Or.inl rfl)) pe_int) pa_nil)) (nomark _))))) (pe_op op_sub (pv 5 (hv := Or.inl rfl)) (pv 4 (hv := Or.inl rfl))) (pv 5 (hv := Or.inl rfl)))))))), ?_⟩
    try dsimp only [cxOf, Cx.nox, Cx.wish, Cx.blk]
    rw [show L2.start ["_law_parts", "_law_n", "_law_bits_here", "_law_is_signed", "_law_many", "_law_rest"] [.ref t, .int n] = [some (.ref t), some (.int n), none, none, none, none] from rfl]
    obtain ⟨ht, w1, w2, k⟩ := h
    rw [← pl_wr w1] at k
    walk_at "rd"
    refine ⟨wd, rfl, by omega, ?_⟩
    walk_at "rd"
    refine w_I (p2 wd) ?_
    walk_at "rd"
    refine w_if ?_
    walk_at "rd"
    cases s with
    | false =>
      refine iteF ?_
      walk_at "rd"
      refine iteF ?_
      walk_at "rd"
      unfold pl at k
      rw [if_neg (by intro z; exact Bool.false_ne_true z.1)] at k
      exact k
    | true =>
      refine iteT ?_
      walk_at "rd"
      have e : (wd : Int) - 1 = ((wd - 1 : Nat) : Int) := by omega
      rw [e]
      refine ⟨wd - 1, rfl, by omega, ?_⟩
      walk_at "rd"
      refine w_dec (fun c => ?_) (fun c => ?_)
      · walk_at "rd"
        unfold pl at k
        rw [if_pos ⟨rfl, c⟩] at k
        exact k
      · walk_at "rd"
        unfold pl at k
        rw [if_neg (fun z => c z.2)] at k
        exact k
def sp__law_bits (K : PySem.W.Frag) (C : Addr) : Sp := fun vs H Q _ => ∃ (o : Op) (x y : Int) (wd : Nat), vs = [.str o.nm, .int x, .int y, .int (wd : Int)] ∧ isB o ∧ wd ≤ 128 ∧ ∀ H', Same H H' → Q (.int (exO o x y % 2 ^ wd)) H'
theorem ok__law_bits {P : Program} {w : World} {K : PySem.W.Frag} {mg : Str → Option Value} {base : Heap} (T : Txt K mg) : FnOk P w K mg base CX0 1 T.f__law_bits T.fd__law_bits ["_law_called", "_law_x_here", "_law_y_here", "_law_bits_here"] (sp__law_bits K T.C_Kind) := by
  refine T.F__law_bits.ok sc__law_bits (fun vs H Q E h => ?_) (fun cdv A outer s H vs Q E hr h => ?_)
  · obtain ⟨o, x, y, wd, rfl, _⟩ := h
    rfl
  · obtain ⟨o, x, y, wd, rfl, h⟩ := h
    refine ⟨_, (pss_cons (ps_asg (pe_tup (pa_cons pe_int (pa_cons pe_int pa_nil))) (pg_tup rfl (pgs_cons (pg_name (i := 4) sc__law_bits.nd rfl (Or.inl rfl)) (pgs_cons (pg_name (i := 5) sc__law_bits.nd rfl (Or.inl rfl)) pgs_nil))))
      (pss_cons (ps_for PassesOwn.never rfl (pi_range1 (by rfl) T.n_range (pa_cons (pv 3 (hv := Or.inl rfl)) pa_nil)) (pg_name (i := 6) sc__law_bits.nd rfl (Or.inl rfl))
        (pss_cons (ps_par rfl sc__law_bits.nd (i := 7) (j := 8) rfl rfl (by decide) rfl rfl (pa_cons (pe_op op_mod (pe_callTy (T := "int") (r := rIntC) call_int1 (by rfl) T.n_int (by decide +kernel) (pa_cons (pe_op op_fdivW (pv 1 (hv := Or.inl rfl)) (pv 5 (hv := Or.inl rfl))) pa_nil)) pe_int) (pa_cons (pe_op op_mod (pe_callTy (T := "int") (r := rIntC) call_int1 (by rfl) T.n_int (by decide +kernel) (pa_cons (pe_op op_fdivW (pv 2 (hv := Or.inl rfl)) (pv 5 (hv := Or.inl rfl))) pa_nil)) pe_int) pa_nil)) (by rfl))
      (pss_cons (ps_set (i := 9) sc__law_bits.nd rfl (Or.inl rfl) (pe_ifExp (pt_cmpR op_eq (pv 0 (hv := Or.inl rfl)) pe_str (nomark _)) (pe_cmpR op_eq (pe_op op_mul (pv 7 (hv := Or.inl rfl)) (pv 8 (hv := Or.inl rfl))) pe_int (nomark _)) (pe_ifExp (pt_cmpR op_eq (pv 0 (hv := Or.inl rfl)) pe_str (nomark _)) (pe_cmpR op_gt (pe_op op_add (pv 7 (hv := Or.inl rfl)) (pv 8 (hv := Or.inl rfl))) pe_int (nomark _)) (pe_cmpR op_ne (pv 7 (hv := Or.inl rfl)) (pv 8 (hv := Or.inl rfl)) (nomark _)))))
      (pss_one (ps_par rfl sc__law_bits.nd (i := 4) (j := 5) rfl rfl (by decide) rfl rfl (pa_cons (pe_op op_add (pv 4 (hv := Or.inl rfl)) (pe_op op_mul (pv 5 (hv := Or.inl rfl)) (pe_callTy (T := "int") (r := rIntC) call_int1 (by rfl) T.n_int (by decide +kernel) (pa_cons (pv 9 (hv := Or.inl rfl)) pa_nil)))) (pa_cons (pe_op op_mul pe_int (pv 5 (hv := Or.inl rfl))) pa_nil)) (by rfl))))))
      (pss_one (ps_ret (pv 4 (hv := Or.inl rfl)))))), ?_⟩
    try dsimp only [cxOf, Cx.nox, Cx.wish, Cx.blk]
    rw [show L2.start ["_law_called", "_law_x_here", "_law_y_here", "_law_bits_here", "_law_found", "_law_one_here", "_law_k", "_law_p", "_law_q", "_law_is_on"] [.str o.nm, .int x, .int y, .int (wd : Int)] = [some (.str o.nm), some (.int x), some (.int y), some (.int (wd : Int)), none, none, none, none, none, none] from rfl]
    obtain ⟨ho, w2, k⟩ := h
    walk_at "rd"
    refine ⟨by show 2 ≤ sizeLine; decide, fun q0 hq0 => ?_⟩
    walk_at "rd"
    refine ⟨_, rfl, by omega, by omega, for_range (lo := 0) (n := wd) (fun i σ H' => ∃ (v6 v7 v8 v9 : Option V), σ = [some (.str o.nm), some (.int x), some (.int y), some (.int (wd : Int)), some (.int (exO o x y % 2 ^ i)), some (.int (2 ^ i)), v6, v7, v8, v9] ∧ Same H H')
      ⟨none, none, none, none, ?_, sm_new (Same.refl H) hq0⟩ ?_ ?_⟩
    · rw [Int.pow_zero, Int.emod_one]
    · rintro i σ H' hi ⟨v6, v7, v8, v9, rfl, sH⟩
      have hp := p2 i
      have hb : ((2 : Int) ^ i).natAbs < 2 ^ 129 := by rw [Int.natAbs_pow]; exact Nat.pow_lt_pow_right (by decide) (by omega)
      have a := Int.emod_two_eq (x / 2 ^ i)
      have b := Int.emod_two_eq (y / 2 ^ i)
      walk_at "rd"
      refine w_I (wide_div hp hb (by decide) (by decide)) ?_
      walk_at "rd"
      refine w_I (wide_div hp hb (by decide) (by decide)) ?_
      walk_at "rd"
      refine w_val (.bl (onB o (x / 2 ^ i % 2) (y / 2 ^ i % 2))) (fun Q q => ?_) ?_
      · refine w_if ?_
        walk_at "rd"
        rcases ho with rfl | rfl | rfl
        · refine w_decT rfl ?_
          walk_at "rd"
          refine w_I (CC := CMul) (Or.inl ⟨by omega, by omega⟩) ?_
          walk_at "rd"
          exact q
        · refine w_decF (by decide +kernel) ?_
          refine w_if ?_
          walk_at "rd"
          refine w_decT rfl ?_
          walk_at "rd"
          exact q
        · refine w_decF (by decide +kernel) ?_
          refine w_if ?_
          walk_at "rd"
          refine w_decF (by decide +kernel) ?_
          walk_at "rd"
          exact q
    
      walk_at "rd"
      refine w_I (Or.inr ⟨by split <;> decide, by split <;> decide⟩) ?_
      walk_at "rd"
      rw [← b_next ho, ← p2S]
      exact ⟨_, _, _, _, rfl, sH⟩
    · rintro σ H' ⟨v6, v7, v8, v9, rfl, sH⟩
      walk_at "rd"
      exact k _ sH
def sp__law_exact (K : PySem.W.Frag) (C : Addr) : Sp := fun vs H Q _ => ∃ (o : Op) (x y : Int) (wd : Nat), vs = [.str o.nm, .int x, .int y, .int (wd : Int)] ∧ x.natAbs < 2 ^ 129 ∧ y.natAbs < 2 ^ 129 ∧ wd ≤ 128 ∧ (o = .div ∨ o = .rem → y ≠ 0) ∧ (o = .left ∨ o = .right → 0 ≤ y ∧ y ≤ 128) ∧ ∀ e H', Same H H' → (isB o → e = exO o x y % 2 ^ wd) → (¬ isB o → e = exO o x y) → Q (.int e) H'
theorem ok__law_exact {P : Program} {w : World} {K : PySem.W.Frag} {mg : Str → Option Value} {base : Heap} (T : Txt K mg) : FnOk P w K mg base CX0 2 T.f__law_exact T.fd__law_exact ["_law_called", "_law_x_here", "_law_y_here", "_law_bits_here"] (sp__law_exact K T.C_Kind) := by
  have G__law_bits := ok__law_bits (P := P) (w := w) (base := base) T
  have G__law_power := ok__law_power (P := P) (w := w) (base := base) T
  refine T.F__law_exact.ok sc__law_exact (fun vs H Q E h => ?_) (fun cdv A outer s H vs Q E hr h => ?_)
  · obtain ⟨o, x, y, wd, rfl, _⟩ := h
    rfl
  · obtain ⟨o, x, y, wd, rfl, h⟩ := h
    have hu := hu_of hr
    have hr__law_bits : Room 1 _ := hr.mono (by decide)
    have hr__law_power : Room 1 _ := hr.mono (by decide)
    refine ⟨_, (pss_cons (ps_if (pt_cmpR op_in_seq (pv 0 (hv := Or.inl rfl)) (pe_tup (pa_cons pe_str (pa_cons pe_str (pa_cons pe_str pa_nil)))) (by rfl)) (pss_one (ps_ret (pe_dget hu (pe_disp (pps_cons pe_str (pe_op op_add (pv 1 (hv := Or.inl rfl)) (pv 2 (hv := Or.inl rfl))) (pps_cons pe_str (pe_op op_sub (pv 1 (hv := Or.inl rfl)) (pv 2 (hv := Or.inl rfl))) (pps_cons pe_str (pe_op op_mulX (pv 1 (hv := Or.inl rfl)) (pv 2 (hv := Or.inl rfl))) pps_nil))) (by rfl) (by rfl) (fun z => by cases z) (by decide)) (pv 0 (hv := Or.inl rfl)) (fun _ _ => rfl)))) pss_nil)
      (pss_cons (ps_if (pt_cmpR op_in_seq (pv 0 (hv := Or.inl rfl)) (pe_tup (pa_cons pe_str (pa_cons pe_str pa_nil))) (by rfl)) (pss_cons (ps_set (i := 4) sc__law_exact.nd rfl (Or.inl rfl) (pe_op op_mul (pe_op op_fdivW (pe_callB (id := "abs") (r := rAbsC) call_abs (by rfl) T.n_abs (by decide +kernel) (pa_cons (pv 1 (hv := Or.inl rfl)) pa_nil)) (pe_callB (id := "abs") (r := rAbsC) call_abs (by rfl) T.n_abs (by decide +kernel) (pa_cons (pv 2 (hv := Or.inl rfl)) pa_nil))) (pe_ifExp (pt_cmpR op_gt (pe_op op_mulX (pv 1 (hv := Or.inl rfl)) (pv 2 (hv := Or.inl rfl))) pe_int (nomark _)) pe_int (pe_un un_neg pe_int))))
      (pss_one (ps_ret (pe_ifExp (pt_cmpR op_eq (pv 0 (hv := Or.inl rfl)) pe_str (nomark _)) (pv 4 (hv := Or.inl rfl)) (pe_op op_sub (pv 1 (hv := Or.inl rfl)) (pe_op op_mulX (pv 2 (hv := Or.inl rfl)) (pv 4 (hv := Or.inl rfl)))))))) pss_nil)
      (pss_cons (ps_if (pt_cmpR op_eq (pv 0 (hv := Or.inl rfl)) pe_str (nomark _)) (pss_one (ps_ret (pe_op op_mulX (pv 1 (hv := Or.inl rfl)) (pe_call G__law_power hr__law_power rfl T.g__law_power T.k__law_power T.b__law_power .nil pass0 (pa_cons (pv 2 (hv := Or.inl rfl)) pa_nil))))) pss_nil)
      (pss_one (ps_ret (pe_ifExp (pt_cmpR op_eq (pv 0 (hv := Or.inl rfl)) pe_str (nomark _)) (pe_op op_fdivW (pv 1 (hv := Or.inl rfl)) (pe_call G__law_power hr__law_power rfl T.g__law_power T.k__law_power T.b__law_power .nil pass0 (pa_cons (pv 2 (hv := Or.inl rfl)) pa_nil))) (pe_call G__law_bits hr__law_bits rfl T.g__law_bits T.k__law_bits T.b__law_bits .nil pass0 (pa_cons (pv 0 (hv := Or.inl rfl)) (pa_cons (pv 1 (hv := Or.inl rfl)) (pa_cons (pv 2 (hv := Or.inl rfl)) (pa_cons (pv 3 (hv := Or.inl rfl)) pa_nil))))))))))), ?_⟩
    try dsimp only [cxOf, Cx.nox, Cx.wish, Cx.blk]
    rw [show L2.start ["_law_called", "_law_x_here", "_law_y_here", "_law_bits_here", "_law_whole"] [.str o.nm, .int x, .int y, .int (wd : Int)] = [some (.str o.nm), some (.int x), some (.int y), some (.int (wd : Int)), none] from rfl]
    obtain ⟨hx, hy, w2, hd, hs, k⟩ := h
    have big : ∀ {n : Nat}, n ≤ 128 → ((2 : Int) ^ n).natAbs < 2 ^ 129 := fun {n} h => by rw [Int.natAbs_pow]; exact Nat.pow_lt_pow_right (by decide) (by omega)
    walk_at "rd"
    refine ⟨by show 3 ≤ sizeLine; decide, fun q1 hq1 => ?_⟩
    refine w_inT (SqT.of upd_same) rfl rfl ?_
    walk_at "rd"
    have s1 : Same H (L2.upd H q1 (.tup [.str "add", .str "subtract", .str "multiply"])) := sm_new (Same.refl H) hq1
    by_cases c1 : o = .add ∨ o = .sub ∨ o = .mul
    · refine w_bT (by rcases c1 with rfl | rfl | rfl <;> decide +kernel) ?_
      walk_at "rd"
      intro p hp
      dsimp only [tPairs]
      walk_at "rd"
      refine w_I (mulx_ok hx hy (by decide)) ?_
      try dsimp only [tPairs]
      walk_at "rd"
      refine ⟨upd_same, [(Sum.inr "add", .int (x + y)), (Sum.inr "subtract", .int (x - y)), (Sum.inr "multiply", .int (x * y))], rfl, by simp, ?_⟩
      walk_at "rd"
      have s2 := sm_mut (o := .dK (mergeK [] [(Sum.inr "add", .int (x + y)), (Sum.inr "subtract", .int (x - y)), (Sum.inr "multiply", .int (x * y))])) (sm_new (o := .dK []) s1 hp) (s1.free hp)
      refine ⟨p, .int (exO o x y), rfl, ?_, k _ _ s2 ?_ (fun _ => rfl)⟩
      · have e : valV (mergeK [] [(Sum.inr "add", .int (x + y)), (Sum.inr "subtract", .int (x - y)), (Sum.inr "multiply", .int (x * y))]) (Sum.inr o.nm) = some (.int (exO o x y)) := by
          rcases c1 with rfl | rfl | rfl <;> rfl
        rw [← e]
        exact DGet.k (k := Sum.inr o.nm) upd_same
      · intro h
        rcases c1 with rfl | rfl | rfl <;> rcases h with h | h | h <;> cases h
    refine w_bF (by cases o <;> first | decide +kernel | (exact absurd c1 (by simp))) ?_
    walk_at "rd"
    refine ⟨by show 2 ≤ sizeLine; decide, fun q2 hq2 => ?_⟩
    refine w_inT (SqT.of upd_same) rfl rfl ?_
    rw [in_div]
    walk_at "rd"
    have s2 : Same H (L2.upd (L2.upd H q1 (.tup [.str "add", .str "subtract", .str "multiply"])) q2 (.tup [.str "divide", .str "remainder"])) := sm_new s1 hq2
    generalize (L2.upd (L2.upd H q1 (.tup [.str "add", .str "subtract", .str "multiply"])) q2 (.tup [.str "divide", .str "remainder"])) = H2 at *
    refine w_dec (fun c2 => ?_) (fun c2 => ?_)
    · have y0 := hd c2
      have ey := ab_abs y
      have nb : ¬ isB o := fun h => by rcases c2 with rfl | rfl <;> rcases h with h | h | h <;> cases h
      walk_at "rd"
      refine w_I (wide_div (b := 129) (by omega) (by rw [ab_nat]; exact hy) (by decide) (by decide)) ?_
      walk_at "rd"
      refine w_val (.int (if 0 < x * y then 1 else -1)) (fun Q q => ?_) ?_
      · refine w_if ?_
        walk_at "rd"
        refine w_I (mulx_ok hx hy (by decide)) ?_
        walk_at "rd"
        refine w_dec (fun c => ?_) (fun c => ?_)
        · walk_at "rd"
          rw [if_pos c] at q; exact q
        · walk_at "rd"
          rw [if_neg c] at q; exact q
      refine w_I (Or.inr ⟨by split <;> decide, by split <;> decide⟩) ?_
      rw [tz_law y0]
      walk_at "rd"
      refine w_if ?_
      walk_at "rd"
      rcases c2 with rfl | rfl
      · refine w_decT rfl ?_
        walk_at "rd"
        exact k _ _ s2 (fun h => absurd h nb) (fun _ => rfl)
      · refine w_decF (by decide +kernel) ?_
        walk_at "rd"
        refine w_I (mulx_ok hy (Nat.lt_of_le_of_lt tz_abs hx) (by decide)) ?_
        walk_at "rd"
        exact k _ _ s2 (fun h => absurd h nb) (fun _ => rfl)
    walk_at "rd"
    by_cases c3 : o = .left
    · subst c3
      have q := hs (.inl rfl)
      obtain ⟨j, rfl⟩ := Int.eq_ofNat_of_zero_le q.1
      refine w_decT rfl ?_
      walk_at "rd"
      refine ⟨j, rfl, by omega, ?_⟩
      refine w_I (mulx_ok hx (big (by omega)) (by decide)) ?_
      refine k _ _ s2 (fun h => by rcases h with h | h | h <;> cases h) (fun _ => ?_)
      show x * 2 ^ j = x * 2 ^ ((j : Int)).toNat
      rw [Int.toNat_natCast]
    refine w_decF (by cases o <;> first | decide +kernel | (exact absurd rfl c3)) ?_
    walk_at "rd"
    refine w_if ?_
    walk_at "rd"
    by_cases c4 : o = .right
    · subst c4
      have q := hs (.inr rfl)
      obtain ⟨j, rfl⟩ := Int.eq_ofNat_of_zero_le q.1
      refine w_decT rfl ?_
      walk_at "rd"
      refine ⟨j, rfl, by omega, ?_⟩
      refine w_I (wide_div (p2 j) (big (by omega)) (by decide) (by decide)) ?_
      refine k _ _ s2 (fun h => by rcases h with h | h | h <;> cases h) (fun _ => ?_)
      show x / 2 ^ j = x / 2 ^ ((j : Int)).toNat
      rw [Int.toNat_natCast]
    refine w_decF (by cases o <;> first | decide +kernel | (exact absurd rfl c4)) ?_
    walk_at "rd"
    have ib : isB o := by
      unfold isB
      cases o <;> simp at c1 c2 c3 c4 ⊢
    refine ⟨o, x, y, wd, rfl, ib, w2, fun H3 s3 => ?_⟩
    exact k _ _ (s2.trans s3) (fun _ => rfl) (fun h => absurd ib h)
def sp__law_values (K : PySem.W.Frag) (C : Addr) : Sp := fun vs H Q _ => ∃ (p t : Addr) (wd : Nat) (s : Bool), vs = [.ref p, .ref t] ∧ SrcAt H p ∧ H t = some (.tup [.int (wd : Int), .bl s]) ∧ t ≠ p ∧ 1 ≤ wd ∧ wd ≤ 128 ∧ ∀ (q : Addr) H' (xs : List Int), H q = none → Kp p H H' → SrcAt H' p → H' q = some (.lst (xs.map V.int)) → (∀ x ∈ xs, loK wd s ≤ x ∧ x ≤ hiK wd s) → xs.length ≤ 20 → Q (.ref q) H'
theorem ok__law_values {P : Program} {w : World} {K : PySem.W.Frag} {mg : Str → Option Value} {base : Heap} (T : Txt K mg) : FnOk P w K mg base CX0 3 T.f__law_values T.fd__law_values ["_law_source", "_law_parts"] (sp__law_values K T.C_Kind) := by
  have G__law_placed := ok__law_placed (P := P) (w := w) (base := base) T
  have G__law_power := ok__law_power (P := P) (w := w) (base := base) T
  have G__law_wide := ok__law_wide (P := P) (w := w) (base := base) T
  refine T.F__law_values.ok sc__law_values (fun vs H Q E h => ?_) (fun cdv A outer s H vs Q E hr h => ?_)
  · obtain ⟨p, t, wd, s, rfl, _⟩ := h
    rfl
  · obtain ⟨p, t, wd, s, rfl, h⟩ := h
    have hr__law_placed : Room 2 _ := hr.mono (by decide)
    have hr__law_power : Room 1 _ := hr.mono (by decide)
    have hr__law_wide : Room 2 _ := hr.mono (by decide)
    refine ⟨_, (pss_cons (ps_asg (pv 1 (hv := Or.inr (Or.inl rfl))) (pg_tup rfl (pgs_cons (pg_name (i := 2) sc__law_values.nd rfl (Or.inr rfl)) (pgs_cons (pg_name (i := 3) sc__law_values.nd rfl (Or.inl rfl)) pgs_nil))))
      (pss_cons (ps_set (i := 4) sc__law_values.nd rfl (Or.inl rfl) (pe_ifExp (pt_val (pv 3 (hv := Or.inl rfl))) (pe_op op_sub pe_int (pe_call G__law_power hr__law_power rfl T.g__law_power T.k__law_power T.b__law_power .nil pass0 (pa_cons (pe_op op_sub (pv 2 (hv := Or.inr (Or.inl rfl))) pe_int) pa_nil))) pe_int))
      (pss_cons (ps_set (i := 5) sc__law_values.nd rfl (Or.inl rfl) (pe_op op_sub (pe_op op_add (pv 4 (hv := Or.inl rfl)) (pe_call G__law_power hr__law_power rfl T.g__law_power T.k__law_power T.b__law_power .nil pass0 (pa_cons (pv 2 (hv := Or.inr (Or.inl rfl))) pa_nil))) pe_int))
      (pss_cons (ps_set (i := 6) sc__law_values.nd rfl (Or.inl rfl) (pe_lst (pa_cons (pv 4 (hv := Or.inl rfl)) (pa_cons (pv 5 (hv := Or.inl rfl)) (pa_cons (pe_call G__law_placed hr__law_placed rfl T.g__law_placed T.k__law_placed T.b__law_placed .nil pass0 (pa_cons (pv 1 (hv := Or.inr (Or.inl rfl))) (pa_cons pe_int pa_nil))) (pa_cons (pe_call G__law_placed hr__law_placed rfl T.g__law_placed T.k__law_placed T.b__law_placed .nil pass0 (pa_cons (pv 1 (hv := Or.inr (Or.inl rfl))) (pa_cons (pe_un un_neg pe_int) pa_nil))) (pa_cons (pe_call G__law_placed hr__law_placed rfl T.g__law_placed T.k__law_placed T.b__law_placed .nil pass0 (pa_cons (pv 1 (hv := Or.inr (Or.inl rfl))) (pa_cons pe_int pa_nil))) pa_nil)))))))
      (pss_cons (ps_set (i := 6) sc__law_values.nd rfl (Or.inl rfl) (pe_op op_cat (pv 6 (hv := Or.inl rfl)) (pe_lst (pa_cons (pe_call G__law_placed hr__law_placed rfl T.g__law_placed T.k__law_placed T.b__law_placed .nil pass0 (pa_cons (pv 1 (hv := Or.inr (Or.inl rfl))) (pa_cons (pe_op op_add (pv 4 (hv := Or.inl rfl)) pe_int) pa_nil))) pa_nil))))
      (pss_one (ps_ret (pe_op op_cat (pv 6 (hv := Or.inl rfl)) (pe_lc (own := [("_law_turn", 7)]) (g := gName 7) (tt := tYes) (by rfl) sc__law_values.nd (pi_range1 (by rfl) T.n_range (pa_cons pe_int pa_nil)) (blkOk_by (own := [("_law_turn", 7)]) (N := ["_law_source", "_law_parts", "_law_bits_here", "_law_is_signed", "_law_low", "_law_high", "_law_found", "_law_turn"]) (sc := defScope s__law_values) (by decide +kernel)) (fun _ _ _ _ _ => (pg_name (i := 7) sc__law_values.nd rfl (Or.inl rfl))) (fun _ _ _ _ _ => pts_nil) (fun _ _ _ _ _ => (pe_call G__law_placed hr__law_placed rfl T.g__law_placed T.k__law_placed T.b__law_placed .nil pass0 (pa_cons (pv 1 (hv := Or.inr (Or.inl rfl))) (pa_cons (pe_call G__law_wide hr__law_wide rfl T.g__law_wide T.k__law_wide T.b__law_wide .nil pass0 (pa_cons (pv 0 (hv := Or.inr (Or.inl rfl))) (pa_cons (pe_call G__law_power hr__law_power rfl T.g__law_power T.k__law_power T.b__law_power .nil pass0 (pa_cons (pv 2 (hv := Or.inr (Or.inl rfl))) pa_nil)) pa_nil))) pa_nil))))))))))))), ?_⟩
    try dsimp only [cxOf, Cx.nox, Cx.wish, Cx.blk]
    rw [show L2.start ["_law_source", "_law_parts", "_law_bits_here", "_law_is_signed", "_law_low", "_law_high", "_law_found", "_law_turn"] [.ref p, .ref t] = [some (.ref p), some (.ref t), none, none, none, none, none, none] from rfl]
    obtain ⟨hs, ht, nt, w1, w2, k⟩ := h
    walk_at "rd"
    refine w_val (.int (loK wd s)) (fun Q q => ?_) ?_
    · refine w_if ?_
      walk_at "rd"
      cases s with
      | false => refine iteF ?_; walk_at "rd"; exact q
      | true =>
        refine iteT ?_
        walk_at "rd"
        have e : (wd : Int) - 1 = ((wd - 1 : Nat) : Int) := by omega
        rw [e]
        refine ⟨wd - 1, rfl, by omega, ?_⟩
        walk_at "rd"
        rw [Int.zero_sub]
        exact q
    walk_at "rd"
    refine ⟨wd, rfl, by omega, ?_⟩
    walk_at "rd"
    rw [show loK wd s + 2 ^ wd - 1 = hiK wd s from rfl]
    refine ⟨t, _, wd, s, rfl, ht, w1, w2, ?_⟩
    walk_at "rd"
    refine ⟨t, _, wd, s, rfl, ht, w1, w2, ?_⟩
    walk_at "rd"
    refine ⟨t, _, wd, s, rfl, ht, w1, w2, ?_⟩
    walk_at "rd"
    refine ⟨by show 5 ≤ sizeLine; decide, fun q1 h1 => ?_⟩
    walk_at "rd"
    refine ⟨t, _, wd, s, rfl, gn ht h1, w1, w2, ?_⟩
    walk_at "rd"
    refine ⟨by show 1 ≤ sizeLine; decide, fun q2 h2 => ?_⟩
    refine w_cat (gn upd_same h2) upd_same (by show 5 + 1 ≤ sizeLine; decide) (fun q3 h3 => ?_)
    have s3 := sm_new (o := .lst ([V.int (loK wd s), .int (hiK wd s), .int (wr wd s 0), .int (wr wd s (-1)), .int (wr wd s 1)] ++ [.int (wr wd s (loK wd s + 1))])) (sm_new (o := .lst [.int (wr wd s (loK wd s + 1))]) (sm_new (o := .lst [V.int (loK wd s), .int (hiK wd s), .int (wr wd s 0), .int (wr wd s (-1)), .int (wr wd s 1)]) (Same.refl H) h1) h2) h3
    walk_at "rd"
    have hs3 := hs.same s3
    have ht3 := s3 _ _ ht
    have n3 := (hs.same (sm_new (o := .lst [.int (wr wd s (loK wd s + 1))]) (sm_new (o := .lst [V.int (loK wd s), .int (hiK wd s), .int (wr wd s 0), .int (wr wd s (-1)), .int (wr wd s 1)]) (Same.refl H) h1) h2)).ne h3
    have hl3 := (rfl : some (HO.lst ([V.int (loK wd s), .int (hiK wd s), .int (wr wd s 0), .int (wr wd s (-1)), .int (wr wd s 1)] ++ [.int (wr wd s (loK wd s + 1))])) = some (.lst (([loK wd s, hiK wd s, wr wd s 0, wr wd s (-1), wr wd s 1, wr wd s (loK wd s + 1)] : List Int).map V.int)))
    have hl4 : (L2.upd (L2.upd (L2.upd H q1 (.lst [V.int (loK wd s), .int (hiK wd s), .int (wr wd s 0), .int (wr wd s (-1)), .int (wr wd s 1)])) q2 (.lst [.int (wr wd s (loK wd s + 1))])) q3 (.lst ([V.int (loK wd s), .int (hiK wd s), .int (wr wd s 0), .int (wr wd s (-1)), .int (wr wd s 1)] ++ [.int (wr wd s (loK wd s + 1))]))) q3 = some (.lst (([loK wd s, hiK wd s, wr wd s 0, wr wd s (-1), wr wd s 1, wr wd s (loK wd s + 1)] : List Int).map V.int)) := Eq.trans upd_same hl3
    generalize (L2.upd (L2.upd (L2.upd H q1 (.lst [V.int (loK wd s), .int (hiK wd s), .int (wr wd s 0), .int (wr wd s (-1)), .int (wr wd s 1)])) q2 (.lst [.int (wr wd s (loK wd s + 1))])) q3 (.lst ([V.int (loK wd s), .int (hiK wd s), .int (wr wd s 0), .int (wr wd s (-1)), .int (wr wd s 1)] ++ [.int (wr wd s (loK wd s + 1))]))) = H3 at *
    have hv : ∀ x ∈ ([loK wd s, hiK wd s, wr wd s 0, wr wd s (-1), wr wd s 1, wr wd s (loK wd s + 1)] : List Int), loK wd s ≤ x ∧ x ≤ hiK wd s := fun x hx => by
      have hp := p2 wd
      have hlh : loK wd s ≤ hiK wd s := by unfold hiK; omega
      simp only [List.mem_cons, List.not_mem_nil, or_false] at hx
      rcases hx with rfl | rfl | rfl | rfl | rfl | rfl
      · exact ⟨Int.le_refl _, hlh⟩
      · exact ⟨hlh, Int.le_refl _⟩
      all_goals exact ⟨wr_lo _ _ _, wr_hi _ _ _⟩
    have kl : ([loK wd s, hiK wd s, wr wd s 0, wr wd s (-1), wr wd s 1, wr wd s (loK wd s + 1)] : List Int).length = 6 := rfl
    generalize ([loK wd s, hiK wd s, wr wd s 0, wr wd s (-1), wr wd s 1, wr wd s (loK wd s + 1)] : List Int) = ys at hv kl hl4
    have hm : (2 ^ wd : Int).natAbs < 2 ^ 200 := by
      rw [Int.natAbs_pow]; exact Nat.pow_lt_pow_right (by decide) (by omega)
    refine ⟨3, rfl, by decide, by decide, fun D hD => lc_range (lo := 0) (n := 3) (fun i H' => (∃ xs : List Int, H' D = some (.lst (xs.map V.int)) ∧ xs.length = i ∧ ∀ x ∈ xs, loK wd s ≤ x ∧ x ≤ hiK wd s) ∧ Kp p H3 H' ∧ SrcAt H' p ∧ H' q3 = some (.lst (ys.map V.int)))
      ⟨⟨[], upd_same, rfl, fun x hx => by cases hx⟩, (Kp.refl p H3).new hD, hs3.new hD, gn hl4 hD⟩ ?_ ?_⟩
    · rintro i H' hi ⟨⟨xs, hl, hn, hvx⟩, kp, hs', hq3⟩
      have nD : D ≠ p := hs3.ne hD
      have n3D : q3 ≠ D := ne_of_none hl4 hD
      walk_at "rd"
      refine ⟨rfl, ?_⟩
      walk_at "rd"
      refine iteT ?_
      walk_at "rd"
      refine ⟨wd, rfl, by omega, ?_⟩
      walk_at "rd"
      refine ⟨p, 2 ^ wd, rfl, hs', p2 wd, b9 hm, fun z H8 _ _ kp8 hs8 => ?_⟩
      walk_at "rd"
      refine ⟨t, z, wd, s, rfl, kp8 _ _ nt (kp _ _ nt ht3), w1, w2, ?_⟩
      refine ⟨_, kp8 _ _ nD hl, (by rw [List.length_map]; exact small1000 (by omega)), ⟨xs ++ [wr wd s z], Eq.trans upd_same (by rw [List.map_append]; rfl), by rw [List.length_append, hn]; rfl, fun x hx => ?_⟩, kp_mut (kp.trans kp8) hD, hs8.mut nD, by rw [upd_ne n3D]; exact kp8 _ _ n3 hq3⟩
      rcases List.mem_append.mp hx with h | h
      · exact hvx x h
      · rw [List.mem_singleton.mp h]; exact ⟨wr_lo _ _ _, wr_hi _ _ _⟩
    rintro H8 ⟨⟨xs, hl, hn, hvx⟩, kp, hs', hq3⟩
    refine w_cat hq3 hl (by rw [List.length_map, List.length_map, hn, kl]; decide) (fun r hr => ?_)
    have kpH : Kp p H H8 := (Kp.of_same s3).trans kp
    refine k r _ (ys ++ xs) (kpH.free (hs'.ne hr) hr) (kpH.new hr) (hs'.new hr) (Eq.trans upd_same (by rw [List.map_append])) (fun x hx => ?_) (by rw [List.length_append, hn, kl]; decide)
    rcases List.mem_append.mp hx with h | h
    · exact hv x h
    · exact hvx x h

/-- the operations that the law asks for a pair of values -/
def opsOf (wd : Nat) (y : Int) : List Op := [.add, .sub, .mul, .band, .bor, .bxor] ++ (if (!decide (y = 0)) = true then [.div, .rem] else []) ++ (if decide (0 ≤ y ∧ y < (wd : Int)) = true then [.left, .right] else [])
theorem opsOf_len (wd : Nat) (y : Int) : (opsOf wd y).length ≤ 10 := by
  unfold opsOf
  split <;> split <;> simp
theorem opsOf_ok {wd : Nat} {y : Int} {o : Op} (h : o ∈ opsOf wd y) : (o = .div ∨ o = .rem → y ≠ 0) ∧ (o = .left ∨ o = .right → 0 ≤ y ∧ y < wd) := by
  unfold opsOf at h
  constructor
  · intro c e
    rw [if_neg (by simp [e])] at h
    rcases c with rfl | rfl <;> (split at h <;> simp at h)
  · intro c
    by_cases q : 0 ≤ y ∧ y < (wd : Int)
    · exact q
    · rw [decide_eq_false q, if_neg Bool.false_ne_true] at h
      rcases c with rfl | rfl <;> (split at h <;> simp at h)
theorem opsOf_map (wd : Nat) (y : Int) : ([.str "add", .str "subtract", .str "multiply", .str "and", .str "or", .str "xor"] ++ (if (!decide (y = 0)) = true then [V.str "divide", .str "remainder"] else [])) ++ (if decide (0 ≤ y ∧ y < (wd : Int)) = true then [V.str "left", .str "right"] else []) = (opsOf wd y).map fun o => V.str o.nm := by
  unfold opsOf
  split <;> split <;> rfl
theorem nb_of {o : Op} (h : o = .add ∨ o = .sub ∨ o = .mul ∨ o = .div ∨ o = .left) : ¬ isB o := by
  rcases h with rfl | rfl | rfl | rfl | rfl <;> (intro z; rcases z with z | z | z <;> cases z)
theorem ov_eq (w : Nat) (s : Bool) (e : Int) : (!decide (loK w s ≤ e ∧ e ≤ hiK w s)) = (!decide (wr w s e = e)) := by
  by_cases h : loK w s ≤ e ∧ e ≤ hiK w s
  · rw [decide_eq_true h, decide_eq_true (wr_id h.1 h.2)]
  · rw [decide_eq_false h, decide_eq_false (fun z => h (by have a := wr_lo w s e; have b := wr_hi w s e; omega))]
def sp__law_right (K : PySem.W.Frag) (C : Addr) : Sp := fun vs H Q _ => ∃ (t : Addr) (x y : Int) (wd : Nat) (s : Bool), vs = [.ref t, .int x, .int y] ∧ H t = some (.tup [.int (wd : Int), .bl s]) ∧ 1 ≤ wd ∧ wd ≤ 128 ∧ (loK wd s ≤ x ∧ x ≤ hiK wd s) ∧ (loK wd s ≤ y ∧ y ≤ hiK wd s) ∧ ∀ H', Same H H' → Q (.bl true) H'
theorem ok__law_right {P : Program} {w : World} {K : PySem.W.Frag} {mg : Str → Option Value} {base : Heap} (T : Txt K mg) : FnOk P w K mg base CX0 8 T.f__law_right T.fd__law_right ["_law_parts", "_law_x_here", "_law_y_here"] (sp__law_right K T.C_Kind) := by
  have G_Kind___init__ := ok_Kind___init__ (P := P) (w := w) (base := base) T
  have G__law_exact := ok__law_exact (P := P) (w := w) (base := base) T
  have G__law_placed := ok__law_placed (P := P) (w := w) (base := base) T
  have G_operate := ok_operate (P := P) (w := w) (base := base) T
  have G_overflows := ok_overflows (P := P) (w := w) (base := base) T
  refine T.F__law_right.ok sc__law_right (fun vs H Q E h => ?_) (fun cdv A outer s H vs Q E hr h => ?_)
  · obtain ⟨t, x, y, wd, s, rfl, _⟩ := h
    rfl
  · obtain ⟨t, x, y, wd, s, rfl, h⟩ := h
    have hr_Kind___init__ : Room 3 _ := hr.mono (by decide)
    have hr__law_exact : Room 2 _ := hr.mono (by decide)
    have hr__law_placed : Room 2 _ := hr.mono (by decide)
    have hr_operate : Room 7 _ := hr.mono (by decide)
    have hr_overflows : Room 7 _ := hr.mono (by decide)
    refine ⟨_, (pss_cons (ps_par rfl sc__law_right.nd (i := 3) (j := 4) rfl rfl (by decide) rfl rfl (pa_cons (pe_ix (r := rIxT K) ix_tup (pv 0 (hv := Or.inl rfl)) pe_int (fun _ _ => rfl)) (pa_cons (pe_make T.mk_Kind G_Kind___init__ hr_Kind___init__ rfl T.g_Kind T.b_Kind___init__ .nil pass0 (pa_cons (pe_ix (r := rIxT K) ix_tup (pv 0 (hv := Or.inl rfl)) pe_int (fun _ _ => rfl)) (pa_cons (pe_ix (r := rIxT K) ix_tup (pv 0 (hv := Or.inl rfl)) pe_int (fun _ _ => rfl)) pa_nil))) pa_nil)) (by rfl))
      (pss_cons (ps_set (i := 5) sc__law_right.nd rfl (Or.inl rfl) (pe_op op_cat (pe_lst (pa_cons pe_str (pa_cons pe_str (pa_cons pe_str (pa_cons pe_str (pa_cons pe_str (pa_cons pe_str pa_nil))))))) (pe_op op_rep (pe_lst (pa_cons pe_str (pa_cons pe_str pa_nil))) (pe_callTy (T := "int") (r := rIntC) call_int1 (by rfl) T.n_int (by decide +kernel) (pa_cons (pe_cmpR op_ne (pv 2 (hv := Or.inl rfl)) pe_int (nomark _)) pa_nil)))))
      (pss_cons (ps_set (i := 5) sc__law_right.nd rfl (Or.inl rfl) (pe_op op_cat (pv 5 (hv := Or.inl rfl)) (pe_op op_rep (pe_lst (pa_cons pe_str (pa_cons pe_str pa_nil))) (pe_callTy (T := "int") (r := rIntC) call_int1 (by rfl) T.n_int (by decide +kernel) (pa_cons (pe_chain op_le op_lt pe_int (pv 2 (hv := Or.inl rfl)) (pv 3 (hv := Or.inl rfl))) pa_nil)))))
      (pss_cons (ps_for PassesOwn.never rfl (pi_list (pv 5 (hv := Or.inl rfl))) (pg_name (i := 6) sc__law_right.nd rfl (Or.inl rfl))
        (pss_cons (ps_set (i := 7) sc__law_right.nd rfl (Or.inl rfl) (pe_call G__law_exact hr__law_exact rfl T.g__law_exact T.k__law_exact T.b__law_exact .nil pass0 (pa_cons (pv 6 (hv := Or.inl rfl)) (pa_cons (pv 1 (hv := Or.inl rfl)) (pa_cons (pv 2 (hv := Or.inl rfl)) (pa_cons (pv 3 (hv := Or.inl rfl)) pa_nil))))))
      (pss_cons (ps_set (i := 8) sc__law_right.nd rfl (Or.inl rfl) (pe_call G__law_placed hr__law_placed rfl T.g__law_placed T.k__law_placed T.b__law_placed .nil pass0 (pa_cons (pv 0 (hv := Or.inl rfl)) (pa_cons (pv 7 (hv := Or.inl rfl)) pa_nil))))
      (pss_cons (ps_if (pt_cmpR op_ne (pe_call G_operate hr_operate rfl T.g_operate T.k_operate T.b_operate .nil pass0 (pa_cons (pv 4 (hv := Or.inl rfl)) (pa_cons (pv 6 (hv := Or.inl rfl)) (pa_cons (pv 1 (hv := Or.inl rfl)) (pa_cons (pv 2 (hv := Or.inl rfl)) pa_nil))))) (pv 8 (hv := Or.inl rfl)) (nomark _)) (pss_one (ps_ret pe_bl)) pss_nil)
      (pss_cons (ps_if (pt_cmpR op_ne (pe_callK0 G_operate hr_operate rfl T.g_operate T.k_operate T.kb_operate_0_y_x_name_kind pass0 (pk_cons (pv 2 (hv := Or.inl rfl)) (pk_cons (pv 1 (hv := Or.inl rfl)) (pk_cons (pv 6 (hv := Or.inl rfl)) (pk_cons (pv 4 (hv := Or.inl rfl)) pk_nil))))) (pv 8 (hv := Or.inl rfl)) (nomark _)) (pss_one (ps_ret pe_bl)) pss_nil)
      (pss_one (ps_if (pt_cmpR op_in_seq (pv 6 (hv := Or.inl rfl)) (pe_tup (pa_cons pe_str (pa_cons pe_str (pa_cons pe_str (pa_cons pe_str (pa_cons pe_str pa_nil)))))) (by rfl)) (pss_cons (ps_if (pt_cmpR op_ne (pe_call G_overflows hr_overflows rfl T.g_overflows T.k_overflows T.b_overflows .nil pass0 (pa_cons (pv 4 (hv := Or.inl rfl)) (pa_cons (pv 6 (hv := Or.inl rfl)) (pa_cons (pv 1 (hv := Or.inl rfl)) (pa_cons (pv 2 (hv := Or.inl rfl)) pa_nil))))) (pe_cmpR op_ne (pv 8 (hv := Or.inl rfl)) (pv 7 (hv := Or.inl rfl)) (nomark _)) (nomark _)) (pss_one (ps_ret pe_bl)) pss_nil)
      (pss_one (ps_if (pt_cmpR op_ne (pe_callK0 G_overflows hr_overflows rfl T.g_overflows T.k_overflows T.kb_overflows_0_y_x_name_kind pass0 (pk_cons (pv 2 (hv := Or.inl rfl)) (pk_cons (pv 1 (hv := Or.inl rfl)) (pk_cons (pv 6 (hv := Or.inl rfl)) (pk_cons (pv 4 (hv := Or.inl rfl)) pk_nil))))) (pe_cmpR op_ne (pv 8 (hv := Or.inl rfl)) (pv 7 (hv := Or.inl rfl)) (nomark _)) (nomark _)) (pss_one (ps_ret pe_bl)) pss_nil))) pss_nil)))))))
      (pss_one (ps_ret pe_bl)))))), ?_⟩
    try dsimp only [cxOf, Cx.nox, Cx.wish, Cx.blk]
    rw [show L2.start ["_law_parts", "_law_x_here", "_law_y_here", "_law_bits_here", "_law_sort_of", "_law_names", "_law_called", "_law_told", "_law_due"] [.ref t, .int x, .int y] = [some (.ref t), some (.int x), some (.int y), none, none, none, none, none, none] from rfl]
    obtain ⟨ht, w1, w2, hx, hy, k⟩ := h
    walk_at "rd"
    intro kx dx nx ndx nex
    refine ⟨kx, wd, s, rfl, ⟨dx, upd_same⟩, w1, w2, fun H1 hk kp1 => ⟨rfl, ?_⟩⟩
    have s1 : Same H H1 := fun b o e => kp1 b o (ne_of_none e nx) (by rw [upd_ne (ne_of_none e nx), upd_ne (ne_of_none e ndx)]; exact e)
    clear kp1 nx ndx nex
    walk_at "rd"
    refine ⟨by show 6 ≤ sizeLine; decide, fun q1 h1 => ?_⟩
    walk_at "rd"
    refine ⟨by show 2 ≤ sizeLine; decide, fun q2 h2 => ?_⟩
    walk_at "rd"
    refine w_rep upd_same (by split <;> decide) (by split <;> decide) (by split <;> decide) (fun q3 h3 => ?_)
    rw [rep_b]
    refine w_cat (gn (gn upd_same h2) h3) upd_same (by split <;> decide) (fun q4 h4 => ?_)
    walk_at "rd"
    refine ⟨by show 2 ≤ sizeLine; decide, fun q5 h5 => ?_⟩
    walk_at "rd"
    refine w_val (.bl (decide (0 ≤ y ∧ y < (wd : Int)))) (fun Q q => ?_) ?_
    · refine w_chain ?_
      walk_at "rd"
      refine w_dec (fun c => ?_) (fun c => ?_)
      · walk_at "rd"
        have e : decide (0 ≤ y ∧ y < (wd : Int)) = decide (y < (wd : Int)) := by simp [c]
        rw [e] at q; exact q
      · have e : decide (0 ≤ y ∧ y < (wd : Int)) = false := by simp [c]
        rw [e] at q; exact q
    walk_at "rd"
    refine w_rep upd_same (by split <;> decide) (by split <;> decide) (by split <;> decide) (fun q6 h6 => ?_)
    rw [rep_b]
    refine w_cat (gn (gn upd_same h5) h6) upd_same (by split <;> split <;> decide) (fun q7 h7 => ?_)
    rw [opsOf_map]
    have s7 := (((((s1.trans (sm_new (o := .lst [.str "add", .str "subtract", .str "multiply", .str "and", .str "or", .str "xor"]) (Same.refl _) h1)).trans (sm_new (Same.refl _) h2)).trans (sm_new (Same.refl _) h3)).trans (sm_new (Same.refl _) h4)).trans (sm_new (Same.refl _) h5)).trans (sm_new (Same.refl _) h6) |>.trans (sm_new (o := .lst ((opsOf wd y).map fun o => V.str o.nm)) (Same.refl _) h7)
    have hk7 := hk.same (((((((sm_new (o := .lst [.str "add", .str "subtract", .str "multiply", .str "and", .str "or", .str "xor"]) (Same.refl _) h1)).trans (sm_new (Same.refl _) h2)).trans (sm_new (Same.refl _) h3)).trans (sm_new (Same.refl _) h4)).trans (sm_new (Same.refl _) h5)).trans (sm_new (Same.refl _) h6) |>.trans (sm_new (o := .lst ((opsOf wd y).map fun o => V.str o.nm)) (Same.refl _) h7))
    walk_at "rd"
    refine ⟨⟨_, SqL.of upd_same⟩, for_list (K := K) (a := q7) (xs := (opsOf wd y).map fun o => V.str o.nm) (fun i σ H' => (∃ v6 v7 v8 : Option V, σ = [some (.ref t), some (.int x), some (.int y), some (.int (wd : Int)), some (.ref kx), some (.ref q7), v6, v7, v8]) ∧ Same H H' ∧ Kd T.C_Kind H' kx wd s ∧ H' q7 = some (.lst ((opsOf wd y).map fun o => V.str o.nm)))
      ⟨⟨none, none, none, rfl⟩, s7, hk7, upd_same⟩ (fun i σ H' _ q => SqL.of q.2.2.2) ?_ ?_⟩
    · rintro i z σ H2 hi ⟨⟨v6, v7, v8, rfl⟩, s2, hk2, hq2⟩
      obtain ⟨o, hoi, rfl⟩ := map_get hi
      obtain ⟨od, os⟩ := opsOf_ok (List.mem_of_getElem? hoi)
      clear hi hoi
      walk_at "rd"
      refine ⟨o, x, y, wd, rfl, b129 w2 hx.1 hx.2, b129 w2 hy.1 hy.2, w2, od, fun c => ⟨(os c).1, by have := (os c).2; omega⟩, fun e H3 s3 eb en => ?_⟩
      have ee : wr wd s (exO o x y) = wr wd s e := by
        by_cases b : isB o
        · rw [eb b]; exact wr_cong (Int.emod_emod_of_dvd _ (Int.dvd_refl _)).symm
        · rw [en b]
      have hk3 := hk2.same s3
      walk_at "rd"
      refine ⟨t, e, wd, s, rfl, s3 _ _ (s2 _ _ ht), w1, w2, ?_⟩
      walk_at "rd"
      refine ⟨kx, o, x, y, wd, s, rfl, hk3, hx, hy, od, os, ?_⟩
      walk_at "rd"
      refine w_ndecT ee ?_
      walk_at "rd"
      refine ⟨kx, o, x, y, wd, s, rfl, hk3, hx, hy, od, os, ?_⟩
      walk_at "rd"
      refine w_ndecT ee ?_
      walk_at "rd"
      refine ⟨by show 5 ≤ sizeLine; decide, fun q8 h8 => ?_⟩
      refine w_inT (SqT.of upd_same) rfl rfl ?_
      rw [in_over5]
      walk_at "rd"
      have s4 := sm_new (o := .tup [.str "add", .str "subtract", .str "multiply", .str "divide", .str "left"]) (Same.refl H3) h8
      have hk4 := hk3.same s4
      refine w_dec (fun c => ?_) (fun c => ?_)
      · have e5 := en (nb_of c)
        have e6 : (!decide (loK wd s ≤ exO o x y ∧ exO o x y ≤ hiK wd s)) = (!decide (wr wd s e = e)) := by rw [e5]; exact ov_eq _ _ _
        walk_at "rd"
        refine ⟨kx, o, x, y, wd, s, rfl, hk4, c, hx, hy, od, os, ?_⟩
        walk_at "rd"
        refine w_ndecT e6 ?_
        walk_at "rd"
        refine ⟨kx, o, x, y, wd, s, rfl, hk4, c, hx, hy, od, os, ?_⟩
        walk_at "rd"
        refine w_ndecT e6 ?_
        walk_at "rd"
        exact ⟨⟨_, _, _, rfl⟩, (s2.trans s3).trans s4, hk4, s4 _ _ (s3 _ _ hq2)⟩
      · walk_at "rd"
        exact ⟨⟨_, _, _, rfl⟩, (s2.trans s3).trans s4, hk4, s4 _ _ (s3 _ _ hq2)⟩
    · rintro σ H2 ⟨⟨v6, v7, v8, rfl⟩, s2, hk2, hq2⟩
      walk_at "rd"
      exact k _ s2

theorem Kd.kpn {C : Addr} {H H' : Hp} {p r : Addr} {w : Nat} {s : Bool} (h : Kd C H p w s) (hr : p ≠ r) (e : Kp r H H') : Kd C H' p w s := by
  obtain ⟨⟨dx, q⟩, a, b⟩ := h
  exact ⟨⟨dx, e _ _ hr q⟩, a, b⟩
def sp_law (K : PySem.W.Frag) (C : Addr) : Sp := fun vs H Q _ => ∃ (a : Addr) (ns : List Int), vs = [.ref a] ∧ SqL K H a (ns.map V.int) ∧ ns.length ≤ 63 ∧ ∀ H', Q (.bl true) H'
theorem ok_law {P : Program} {w : World} {K : PySem.W.Frag} {mg : Str → Option Value} {base : Heap} (T : Txt K mg) : FnOk P w K mg base CX0 9 T.f_law T.fd_law ["_law_script"] (sp_law K T.C_Kind) := by
  have G_Kind___init__ := ok_Kind___init__ (P := P) (w := w) (base := base) T
  have G__law_cell_at := ok__law_cell_at (P := P) (w := w) (base := base) T
  have G__law_next := ok__law_next (P := P) (w := w) (base := base) T
  have G__law_one := ok__law_one (P := P) (w := w) (base := base) T
  have G__law_placed := ok__law_placed (P := P) (w := w) (base := base) T
  have G__law_right := ok__law_right (P := P) (w := w) (base := base) T
  have G__law_source_of := ok__law_source_of (P := P) (w := w) (base := base) T
  have G__law_values := ok__law_values (P := P) (w := w) (base := base) T
  have G_operate := ok_operate (P := P) (w := w) (base := base) T
  refine T.F_law.ok sc_law (fun vs H Q E h => ?_) (fun cdv A outer s H vs Q E hr h => ?_)
  · obtain ⟨a, ns, rfl, _⟩ := h
    rfl
  · obtain ⟨a, ns, rfl, h⟩ := h
    have hr_Kind___init__ : Room 3 _ := hr.mono (by decide)
    have hr__law_cell_at : Room 1 _ := hr.mono (by decide)
    have hr__law_next : Room 1 _ := hr.mono (by decide)
    have hr__law_one : Room 2 _ := hr.mono (by decide)
    have hr__law_placed : Room 2 _ := hr.mono (by decide)
    have hr__law_right : Room 8 _ := hr.mono (by decide)
    have hr__law_source_of : Room 1 _ := hr.mono (by decide)
    have hr__law_values : Room 3 _ := hr.mono (by decide)
    have hr_operate : Room 7 _ := hr.mono (by decide)
    refine ⟨_, (pss_cons (ps_for PassesOwn.never rfl (pi_list (pe_op op_cat (pe_lst (pa_cons (pe_call G__law_cell_at hr__law_cell_at rfl T.g__law_cell_at T.k__law_cell_at T.b__law_cell_at .nil pass0 (pa_cons (pv 0 (hv := Or.inl rfl)) (pa_cons pe_int pa_nil))) pa_nil)) (pe_slice sl_list (pv 0 (hv := Or.inl rfl)) (po_some pe_int) (po_some pe_int)))) (pg_name (i := 1) sc_law.nd rfl (Or.inl rfl))
        (pss_cons (ps_set (i := 2) sc_law.nd rfl (Or.inr rfl) (pe_call G__law_source_of hr__law_source_of rfl T.g__law_source_of T.k__law_source_of T.b__law_source_of .nil pass0 (pa_cons (pv 1 (hv := Or.inl rfl)) pa_nil)))
      (pss_one (ps_for PassesOwn.never rfl (pi_range1 (by rfl) T.n_range (pa_cons pe_int pa_nil)) (pg_name (i := 3) sc_law.nd rfl (Or.inl rfl))
        (pss_cons (ps_set (i := 4) sc_law.nd rfl (Or.inr rfl) (pe_tup (pa_cons (pe_op op_add pe_int (pe_call G__law_next hr__law_next rfl T.g__law_next T.k__law_next T.b__law_next .nil pass0 (pa_cons (pv 2 (hv := Or.inr (Or.inl rfl))) (pa_cons (pe_call G__law_one hr__law_one rfl T.g__law_one T.k__law_one T.b__law_one .nil pass0 (pa_cons (pv 2 (hv := Or.inr (Or.inl rfl))) (pa_cons (pe_lst (pa_cons pe_int (pa_cons pe_int (pa_cons pe_int (pa_cons pe_int pa_nil))))) pa_nil))) pa_nil)))) (pa_cons (pe_cmpR op_eq (pe_call G__law_next hr__law_next rfl T.g__law_next T.k__law_next T.b__law_next .nil pass0 (pa_cons (pv 2 (hv := Or.inr (Or.inl rfl))) (pa_cons pe_int pa_nil))) pe_int (nomark _)) pa_nil))))
      (pss_cons (ps_set (i := 5) sc_law.nd rfl (Or.inl rfl) (pe_call G__law_values hr__law_values rfl T.g__law_values T.k__law_values T.b__law_values .nil pass0 (pa_cons (pv 2 (hv := Or.inr (Or.inl rfl))) (pa_cons (pv 4 (hv := Or.inr (Or.inl rfl))) pa_nil))))
      (pss_cons (ps_setLc (i := 6) (own := [("_law_k", 7)]) (g := gName 7) (tt := tYes) rfl sc_law.nd rfl rfl (sw_true rfl rfl rfl (by decide +kernel)) (pi_range1 (by rfl) T.n_range (pa_cons pe_int pa_nil)) (blkOk_by (own := [("_law_k", 7)]) (N := ["_law_script", "_law_cell", "_law_source", "_law_turn", "_law_parts", "_law_some", "_law_shifts", "_law_k", "_law_x_here", "_law_y_here"]) (sc := defScope s_law) (by decide +kernel)) (fun _ _ _ _ _ => (pg_name (i := 7) sc_law.nd rfl (Or.inl rfl))) (fun _ _ _ _ _ => pts_nil) (fun _ _ _ _ _ => (pe_call G__law_next hr__law_next rfl T.g__law_next T.k__law_next T.b__law_next .nil pass0 (pa_cons (pv 2 (hv := Or.inr (Or.inl rfl))) (pa_cons (pe_ix (r := rIxT K) ix_tup (pv 4 (hv := Or.inr (Or.inl rfl))) pe_int (fun _ _ => rfl)) pa_nil)))))
      (pss_one (ps_for PassesOwn.never rfl (pi_list (pv 5 (hv := Or.inl rfl))) (pg_name (i := 8) sc_law.nd rfl (Or.inl rfl))
        (pss_one (ps_for PassesOwn.never rfl (pi_list (pe_op op_cat (pv 5 (hv := Or.inl rfl)) (pe_lc (own := [("_law_k", 7)]) (g := gName 7) (by rfl) sc_law.nd (pi_list (pv 6 (hv := Or.inl rfl))) (blkOk_by (own := [("_law_k", 7)]) (N := ["_law_script", "_law_cell", "_law_source", "_law_turn", "_law_parts", "_law_some", "_law_shifts", "_law_k", "_law_x_here", "_law_y_here"]) (sc := defScope s_law) (by decide +kernel)) (fun _ _ _ _ _ => (pg_name (i := 7) sc_law.nd rfl (Or.inl rfl))) (fun _ _ _ _ _ => pts_one (pt_cmpR op_eq (pv 7 (hv := Or.inl rfl)) (pe_call G__law_placed hr__law_placed rfl T.g__law_placed T.k__law_placed T.b__law_placed .nil pass0 (pa_cons (pv 4 (hv := Or.inr (Or.inl rfl))) (pa_cons (pv 7 (hv := Or.inl rfl)) pa_nil))) (nomark _))) (fun _ _ _ _ _ => (pv 7 (hv := Or.inl rfl)))))) (pg_name (i := 9) sc_law.nd rfl (Or.inl rfl))
        (pss_one (ps_if (pt_not (pt_val (pe_call G__law_right hr__law_right rfl T.g__law_right T.k__law_right T.b__law_right .nil pass0 (pa_cons (pv 4 (hv := Or.inr (Or.inl rfl))) (pa_cons (pv 8 (hv := Or.inl rfl)) (pa_cons (pv 9 (hv := Or.inl rfl)) pa_nil)))))) (pss_one (ps_ret pe_bl)) pss_nil)))))))))))))
      (pss_cons (ps_if (pt_not (pt_cmpR op_eq (pe_call G_operate hr_operate rfl T.g_operate T.k_operate T.b_operate .nil pass0 (pa_cons (pe_make T.mk_Kind G_Kind___init__ hr_Kind___init__ rfl T.g_Kind T.b_Kind___init__ .nil pass0 (pa_cons pe_int (pa_cons pe_bl pa_nil))) (pa_cons pe_str (pa_cons (pe_un un_neg pe_int) (pa_cons (pe_un un_neg pe_int) pa_nil))))) (pe_un un_neg pe_int) (nomark _))) (pss_one (ps_ret pe_bl)) pss_nil)
      (pss_one (ps_ret (pe_cmpR op_eq (pe_call G_operate hr_operate rfl T.g_operate T.k_operate T.b_operate .nil pass0 (pa_cons (pe_make T.mk_Kind G_Kind___init__ hr_Kind___init__ rfl T.g_Kind T.b_Kind___init__ .nil pass0 (pa_cons pe_int (pa_cons pe_bl pa_nil))) (pa_cons pe_str (pa_cons (pe_un un_neg pe_int) (pa_cons (pe_un un_neg pe_int) pa_nil))))) (pe_un un_neg pe_int) (nomark _)))))), ?_⟩
    try dsimp only [cxOf, Cx.nox, Cx.wish, Cx.blk]
    rw [show L2.start ["_law_script", "_law_cell", "_law_source", "_law_turn", "_law_parts", "_law_some", "_law_shifts", "_law_k", "_law_x_here", "_law_y_here"] [.ref a] = [some (.ref a), none, none, none, none, none, none, none, none, none] from rfl]
    obtain ⟨hS, n63, k⟩ := h
    walk_at "rd"
    refine ⟨a, ns, rfl, hS, n63, fun c0 H1 s1 => ?_⟩
    walk_at "rd"
    refine ⟨by show 1 ≤ sizeLine; decide, fun q1 hq1 => ?_⟩
    walk_at "rd"
    obtain ⟨ms, em, lm, _⟩ := cut_map V.int ns (some 1) (some 3)
    refine w_slL ((sm_new s1 hq1).seq hS) (fun q2 hq2 => ?_)
    rw [em]
    refine w_cat (gn upd_same hq2) upd_same (by rw [List.length_map]; exact Nat.le_trans (show 1 + ms.length ≤ 64 by omega) (by decide)) (fun q3 hq3 => ?_)
    walk_at "rd"
    refine ⟨⟨_, SqL.of upd_same⟩, for_list (K := K) (a := q3) (xs := (c0 :: ms).map V.int) (fun i σ H' => (∃ v1 v2 v3 v4 v5 v6 v7 v8 v9 : Option V, σ = [some (.ref a), v1, v2, v3, v4, v5, v6, v7, v8, v9]) ∧ H' q3 = some (.lst ((c0 :: ms).map V.int)))
      ⟨⟨_, _, _, _, _, _, _, _, _, rfl⟩, upd_same⟩ (fun i σ H' _ p => SqL.of p.2) ?_ (fun σ H' ⟨⟨_, _, _, _, _, _, _, _, _, e⟩, _⟩ => ?_)⟩
    rotate_left
    · subst e
      walk_at "rd"
      intro kx dx nx ndx nex
      refine ⟨kx, 8, true, rfl, ⟨dx, upd_same⟩, by decide, by decide, fun H7 hk7 kp7 => ⟨rfl, ?_⟩⟩
      walk_at "rd"
      refine ⟨kx, .div, -128, -1, 8, true, rfl, hk7, by decide, by decide, fun _ => by decide, fun h => by simp at h, ?_⟩
      rw [show wr 8 true (exO .div (-128) (-1)) = -128 from by decide]
      walk_at "rd"
      refine w_ndecT rfl ?_
      walk_at "rd"
      intro ky dy ny ndy ney
      refine ⟨ky, 1, true, rfl, ⟨dy, upd_same⟩, by decide, by decide, fun H8 hk8 kp8 => ⟨rfl, ?_⟩⟩
      walk_at "rd"
      refine ⟨ky, .mul, -1, -1, 1, true, rfl, hk8, by decide, by decide, fun h => by simp at h, fun h => by simp at h, ?_⟩
      rw [show wr 1 true (exO .mul (-1) (-1)) = -1 from by decide]
      walk_at "rd"
      exact k _
    rintro i x σ H' hi ⟨⟨v1, v2, v3, v4, v5, v6, v7, v8, v9, rfl⟩, hx⟩
    obtain ⟨c, _, rfl⟩ := map_get hi
    clear hi em hq1 hq2 hq3 s1 hS
    walk_at "rd"
    refine ⟨c, rfl, fun p H2 hp s2 hs2 => ?_⟩
    have npq : q3 ≠ p := ne_of_none hx hp
    have hx2 := s2 _ _ hx
    clear hx s2 hp
    walk_at "rd"
    refine ⟨2, rfl, by decide, by decide, for_range (lo := 0) (n := 2) (fun i σ H' => (∃ v3 v4 v5 v6 v7 v8 v9 : Option V, σ = [some (.ref a), some (.int c), some (.ref p), v3, v4, v5, v6, v7, v8, v9]) ∧ SrcAt H' p ∧ H' q3 = some (.lst ((c0 :: ms).map V.int)))
      ⟨⟨_, _, _, _, _, _, _, rfl⟩, hs2, hx2⟩ ?_ (fun σ H' ⟨⟨_, _, _, _, _, _, _, e⟩, _, z⟩ => ⟨⟨_, _, _, _, _, _, _, _, _, e⟩, z⟩)⟩
    clear hs2 hx2
    rintro j σ H3 hj ⟨⟨v3, v4, v5, v6, v7, v8, v9, rfl⟩, hs3, hx3⟩
    walk_at "rd"
    refine ⟨by show 4 ≤ sizeLine; decide, fun q hq => ?_⟩
    walk_at "rd"
    refine ⟨p, q, [3, 8, 40, 128], rfl, hs3.new hq, upd_same, hs3.ne hq, by decide, by decide, fun v H4 hv kp4 hs4 => ?_⟩
    have v0 : 0 < v ∧ v ≤ 128 := by
      simp only [List.mem_cons, List.not_mem_nil, or_false] at hv
      omega
    walk_at "rd"
    refine ⟨p, v, rfl, hs4, v0.1, b9 (Nat.lt_of_lt_of_le (show v.natAbs < 2 ^ 8 by omega) (Nat.pow_le_pow_right (by decide) (by decide))), fun d H5 d0 d1 kp5 hs5 => ?_⟩
    walk_at "rd"
    obtain ⟨wd, ew⟩ : ∃ wd : Nat, 1 + d = (wd : Int) := ⟨(1 + d).toNat, by omega⟩
    have w1 : 1 ≤ wd := by omega
    have w2 : wd ≤ 128 := by omega
    rw [ew]
    refine ⟨p, 2, rfl, hs5, by decide, b9 (by decide), fun e H6 _ _ kp6 hs6 => ?_⟩
    have hx6 := kp6 _ _ npq (kp5 _ _ npq (kp4 _ _ npq (gn hx3 hq)))
    clear hs3 hx3 hq kp4 hs4 kp5 hs5 kp6 hv v0 ew d0 d1
    walk_at "rd"
    generalize decide (e = 1) = s
    refine ⟨by show 2 ≤ sizeLine; decide, fun t ht => ?_⟩
    have nt := hs6.ne ht
    have hs7 := hs6.new (o := .tup [.int (wd : Int), .bl s]) ht
    have hx7 := gn (u := .tup [.int (wd : Int), .bl s]) hx6 ht
    have ht7 : (L2.upd H6 t (.tup [.int (wd : Int), .bl s])) t = some (.tup [.int (wd : Int), .bl s]) := upd_same
    generalize (L2.upd H6 t (.tup [.int (wd : Int), .bl s])) = H7 at *
    clear hs6 hx6 ht
    walk_at "rd"
    refine ⟨p, t, wd, s, rfl, hs7, ht7, nt, w1, w2, fun l H8 xs hl0 kp8 hs8 hl8 hv8 n8 => ?_⟩
    have nl : l ≠ p := fun z => by
      obtain ⟨_, _, _, e⟩ := hs7
      rw [z, e] at hl0; cases hl0
    have ht8 := kp8 _ _ nt ht7
    have hx8 := kp8 _ _ npq hx7
    clear hs7 ht7 hx7 kp8 hl0
    walk_at "rd"
    refine ⟨2, rfl, by decide, by decide, fun D hD => lc_range (lo := 0) (n := 2) (fun i H' => (∃ ys : List Int, H' D = some (.lst (ys.map V.int)) ∧ ys.length = i) ∧ Kp p H8 H' ∧ SrcAt H' p)
      ⟨⟨[], upd_same, rfl⟩, (Kp.refl p H8).new hD, hs8.new hD⟩ ?_ ?_⟩
    · rintro i H' hi ⟨⟨ys, hl, hn⟩, kp, hs⟩
      have nD : D ≠ p := hs8.ne hD
      have ht' := kp _ _ nt ht8
      walk_at "rd"
      refine ⟨rfl, ?_⟩
      walk_at "rd"
      refine iteT ?_
      walk_at "rd"
      refine ⟨p, (wd : Int), rfl, hs, by omega, b9 (Nat.lt_of_lt_of_le (show (wd : Int).natAbs < 2 ^ 8 by omega) (Nat.pow_le_pow_right (by decide) (by decide))), fun z H9 _ _ kp9 hs9 => ?_⟩
      exact ⟨_, kp9 _ _ nD hl, (by rw [List.length_map]; exact small1000 (by omega)), ⟨ys ++ [z], Eq.trans upd_same (by rw [List.map_append]; rfl), by rw [List.length_append, hn]; rfl⟩, kp_mut (kp.trans kp9) hD, hs9.mut nD⟩
    rintro H9 ⟨⟨ys, hy9, ny⟩, kp, hs9⟩
    have nD : D ≠ p := hs8.ne hD
    have ht9 := kp _ _ nt ht8
    have hx9 := kp _ _ npq hx8
    have hl9 := kp _ _ nl hl8
    clear hD hs8 ht8 hx8 hl8 kp
    walk_at "rd"
    refine ⟨⟨_, SqL.of hl9⟩, for_list (K := K) (a := l) (xs := xs.map V.int) (fun i σ H' => (∃ v3 v7 v8 v9 : Option V, σ = [some (.ref a), some (.int c), some (.ref p), v3, some (.ref t), some (.ref l), some (.ref D), v7, v8, v9]) ∧ Same H9 H')
      ⟨⟨_, _, _, _, rfl⟩, Same.refl _⟩ (fun i σ H' _ q => q.2.seq (SqL.of hl9)) ?_ (fun σ H' ⟨⟨_, _, _, _, e⟩, s⟩ => ⟨⟨_, _, _, _, _, _, _, e⟩, hs9.same s, s _ _ hx9⟩)⟩
    rintro i y σ H' hi ⟨⟨v3, v7, v8, v9, rfl⟩, s'⟩
    obtain ⟨x, hxi, rfl⟩ := map_get hi
    have xv := hv8 x (List.mem_of_getElem? hxi)
    clear hi hxi
    walk_at "rd"
    refine ⟨⟨_, SqL.of (s' _ _ hy9)⟩, fun E hE => lc_list (K := K) (a := D) (xs := ys.map V.int) (fun i H2 => (∃ zs : List Int, H2 E = some (.lst (zs.map V.int)) ∧ zs.length ≤ i ∧ ∀ z ∈ zs, loK wd s ≤ z ∧ z ≤ hiK wd s) ∧ Same H' H2)
      ⟨⟨[], upd_same, Nat.le_refl _, fun x hx => by cases hx⟩, sm_new (Same.refl _) hE⟩ (fun i H2 _ q => (s'.trans q.2).seq (SqL.of hy9)) ?_ ?_⟩
    · rintro i z H2 hi ⟨⟨zs, hz, nz, vz⟩, s2⟩
      have il := get_lt hi
      rw [List.length_map] at il
      obtain ⟨u, _, rfl⟩ := map_get hi
      walk_at "rd"
      refine ⟨rfl, ?_⟩
      walk_at "rd"
      refine ⟨t, u, wd, s, rfl, s2 _ _ (s' _ _ ht9), w1, w2, ?_⟩
      walk_at "rd"
      refine w_dec (fun e => ?_) (fun e => ?_)
      · walk_at "rd"
        refine ⟨_, hz, (by rw [List.length_map]; exact small1000 (by omega)), ⟨zs ++ [u], Eq.trans upd_same (by rw [List.map_append]; rfl), by rw [List.length_append]; show zs.length + 1 ≤ i + 1; omega, fun x hx => ?_⟩, sm_mut s2 hE⟩
        rcases List.mem_append.mp hx with h | h
        · exact vz x h
        · rw [List.mem_singleton.mp h, e]; exact ⟨wr_lo _ _ _, wr_hi _ _ _⟩
      · exact ⟨⟨zs, hz, by omega, vz⟩, s2⟩
    rintro H2 ⟨⟨zs, hz, nz, vz⟩, s2⟩
    rw [List.length_map] at nz
    refine w_cat (s2 _ _ (s' _ _ hl9)) hz (by rw [List.length_map, List.length_map]; exact Nat.le_trans (show xs.length + zs.length ≤ 40 by omega) (by decide)) (fun r hr => ?_)
    rw [← List.map_append]
    have vr : ∀ z ∈ xs ++ zs, loK wd s ≤ z ∧ z ≤ hiK wd s := fun x hx => by
      rcases List.mem_append.mp hx with h | h
      · exact hv8 x h
      · exact vz x h
    have s3 := s'.trans (sm_new (o := .lst ((xs ++ zs).map V.int)) s2 hr)
    have hr3 : (L2.upd H2 r (.lst ((xs ++ zs).map V.int))) r = some (.lst ((xs ++ zs).map V.int)) := upd_same
    generalize (L2.upd H2 r (.lst ((xs ++ zs).map V.int))) = H3 at *
    generalize xs ++ zs = rs at vr hr3
    walk_at "rd"
    refine ⟨⟨_, SqL.of hr3⟩, for_list (K := K) (a := r) (xs := rs.map V.int) (fun i σ H4 => (∃ v9 : Option V, σ = [some (.ref a), some (.int c), some (.ref p), v3, some (.ref t), some (.ref l), some (.ref D), v7, some (.int x), v9]) ∧ Same H3 H4)
      ⟨⟨_, rfl⟩, Same.refl _⟩ (fun i σ H' _ q => q.2.seq (SqL.of hr3)) ?_ (fun σ H4 ⟨⟨_, e⟩, s4⟩ => ⟨⟨_, _, _, _, e⟩, s3.trans s4⟩)⟩
    rintro i z σ H4 hi ⟨⟨v9, rfl⟩, s4⟩
    obtain ⟨y, hyi, rfl⟩ := map_get hi
    have yv := vr y (List.mem_of_getElem? hyi)
    walk_at "rd"
    refine ⟨t, x, y, wd, s, rfl, s4 _ _ (s3 _ _ ht9), w1, w2, xv, yv, fun H5 s5 => ?_⟩
    walk_at "rd"
    refine iteF ?_
    walk_at "rd"
    exact ⟨⟨_, rfl⟩, s4.trans s5⟩
theorem mk_txt {K : PySem.W.Frag} {h : Heap} {mg : Str → Option Value} {C_Kind f_is_integer f_check_integer f_toward_zero f_exact_result f__bitwise f_is_word f_check_word f_Kind___init__ f_check_kind f_check_value f_least f_greatest f_is_value f_wrapped f__check_operation f_operate f_overflows f__law_source_of f__law_next f__law_one f__law_cell_at f__law_power f__law_wide f__law_placed f__law_bits f__law_exact f__law_values f__law_right f_law a_OPERATIONS a_OVERFLOWING a_DIVISIONS a_SHIFTS : Addr} (X : K.In h) (G : h.Ns mainGlobals mg)
    {od_is_integer an_is_integer od_check_integer an_check_integer od_toward_zero an_toward_zero od_exact_result an_exact_result od__bitwise an__bitwise od_is_word an_is_word od_check_word an_check_word od_Kind___init__ an_Kind___init__ od_check_kind an_check_kind od_check_value an_check_value od_least an_least od_greatest an_greatest od_is_value an_is_value od_wrapped an_wrapped od__check_operation an__check_operation od_operate an_operate od_overflows an_overflows od__law_source_of an__law_source_of od__law_next an__law_next od__law_one an__law_one od__law_cell_at an__law_cell_at od__law_power an__law_power od__law_wide an__law_wide od__law_placed an__law_placed od__law_bits an__law_bits od__law_exact an__law_exact od__law_values an__law_values od__law_right an__law_right od_law an_law dd_OPERATIONS dd_OVERFLOWING dd_DIVISIONS dd_SHIFTS : Option Addr} {sl_is_integer sl_check_integer sl_toward_zero sl_exact_result sl__bitwise sl_is_word sl_check_word sl_Kind___init__ sl_check_kind sl_check_value sl_least sl_greatest sl_is_value sl_wrapped sl__check_operation sl_operate sl_overflows sl__law_source_of sl__law_next sl__law_one sl__law_cell_at sl__law_power sl__law_wide sl__law_placed sl__law_bits sl__law_exact sl__law_values sl__law_right sl_law sl_OPERATIONS sl_OVERFLOWING sl_DIVISIONS sl_SHIFTS : Array (Option Value)} {oc_is_integer kV_is_integer dc_is_integer pm_is_integer cd_is_integer ct_is_integer oc_check_integer kV_check_integer dc_check_integer pm_check_integer cd_check_integer ct_check_integer oc_toward_zero kV_toward_zero dc_toward_zero pm_toward_zero cd_toward_zero ct_toward_zero oc_exact_result kV_exact_result dc_exact_result pm_exact_result cd_exact_result ct_exact_result oc__bitwise kV__bitwise dc__bitwise pm__bitwise cd__bitwise ct__bitwise oc_is_word kV_is_word dc_is_word pm_is_word cd_is_word ct_is_word oc_check_word kV_check_word dc_check_word pm_check_word cd_check_word ct_check_word oc_Kind___init__ kV_Kind___init__ dc_Kind___init__ pm_Kind___init__ cd_Kind___init__ ct_Kind___init__ oc_check_kind kV_check_kind dc_check_kind pm_check_kind cd_check_kind ct_check_kind oc_check_value kV_check_value dc_check_value pm_check_value cd_check_value ct_check_value oc_least kV_least dc_least pm_least cd_least ct_least oc_greatest kV_greatest dc_greatest pm_greatest cd_greatest ct_greatest oc_is_value kV_is_value dc_is_value pm_is_value cd_is_value ct_is_value oc_wrapped kV_wrapped dc_wrapped pm_wrapped cd_wrapped ct_wrapped oc__check_operation kV__check_operation dc__check_operation pm__check_operation cd__check_operation ct__check_operation oc_operate kV_operate dc_operate pm_operate cd_operate ct_operate oc_overflows kV_overflows dc_overflows pm_overflows cd_overflows ct_overflows oc__law_source_of kV__law_source_of dc__law_source_of pm__law_source_of cd__law_source_of ct__law_source_of oc__law_next kV__law_next dc__law_next pm__law_next cd__law_next ct__law_next oc__law_one kV__law_one dc__law_one pm__law_one cd__law_one ct__law_one oc__law_cell_at kV__law_cell_at dc__law_cell_at pm__law_cell_at cd__law_cell_at ct__law_cell_at oc__law_power kV__law_power dc__law_power pm__law_power cd__law_power ct__law_power oc__law_wide kV__law_wide dc__law_wide pm__law_wide cd__law_wide ct__law_wide oc__law_placed kV__law_placed dc__law_placed pm__law_placed cd__law_placed ct__law_placed oc__law_bits kV__law_bits dc__law_bits pm__law_bits cd__law_bits ct__law_bits oc__law_exact kV__law_exact dc__law_exact pm__law_exact cd__law_exact ct__law_exact oc__law_values kV__law_values dc__law_values pm__law_values cd__law_values ct__law_values oc__law_right kV__law_right dc__law_right pm__law_right cd__law_right ct__law_right oc_law kV_law dc_law pm_law cd_law ct_law : Value} {t_MOST_BITS : Tok} {its_OPERATIONS its_OVERFLOWING its_DIVISIONS its_SHIFTS : Array Value} {n_OPERATIONS n_OVERFLOWING n_DIVISIONS n_SHIFTS : Nat}
    (aC_Kind : PySem.W.nsIn K mainGlobals "Kind" = some (some (.ref C_Kind)))
    (a_Kind___init__ : PySem.W.findIn K (.ref C_Kind) "__init__" = some (some (.ref f_Kind___init__)))
    (i_Kind___init__ : PySem.W.isFn K (.ref f_Kind___init__) = true)
    (pg_Kind : PySem.W.plainGet K C_Kind Str.empty = true)
    (hd_Kind : PySem.W.hasDictIn K C_Kind = true)
    (po_Kind : PySem.W.plainOver K C_Kind = true)
    (sa_Kind : PySem.W.findIn K (.ref C_Kind) "__setattr__" = some (some (.builtin "object.__setattr__")))
    (mkk_Kind : PySem.W.makesIn K C_Kind = true)
    (kc_Kind : PySem.W.keepIn K (.ref C_Kind) = true)
    (na_Kind_bits : PySem.W.findIn K (.ref C_Kind) "bits" = some none)
    (na_Kind_is_signed : PySem.W.findIn K (.ref C_Kind) "is_signed" = some none)
    (ia_Kind : PySem.W.findIn K (.ref C_Kind) "__class__" = some (some (.builtin "object.__class__")))
    (ib_Kind : PySem.W.specialIn K (.builtin "object.__class__") "__get__" = some (some (.builtin "getset_descriptor.__get__")))
    (ic_Kind : PySem.W.takesIn K (.builtin "object.__class__") = some true)
    (id_Kind : PySem.W.mroIn K C_Kind (.type "object") = some true)
    (a_is_integer : PySem.W.nsIn K mainGlobals "is_integer" = some (some (.ref f_is_integer)))
    (l_is_integer : K.lookup f_is_integer = some ⟨oc_is_integer, od_is_integer, .func (PySem.W.fnOf "is_integer" "is_integer" (defArgs s_is_integer) (defBody s_is_integer) (defScope s_is_integer) .none kV_is_integer dc_is_integer pm_is_integer an_is_integer cd_is_integer ct_is_integer), sl_is_integer⟩)
    (c_is_integer : PySem.W.codeIn K cd_is_integer "is_integer" = true)
    (k_is_integer : PySem.W.keepIn K (.ref f_is_integer) = true)
    (a_check_integer : PySem.W.nsIn K mainGlobals "check_integer" = some (some (.ref f_check_integer)))
    (l_check_integer : K.lookup f_check_integer = some ⟨oc_check_integer, od_check_integer, .func (PySem.W.fnOf "check_integer" "check_integer" (defArgs s_check_integer) (defBody s_check_integer) (defScope s_check_integer) .none kV_check_integer dc_check_integer pm_check_integer an_check_integer cd_check_integer ct_check_integer), sl_check_integer⟩)
    (c_check_integer : PySem.W.codeIn K cd_check_integer "check_integer" = true)
    (k_check_integer : PySem.W.keepIn K (.ref f_check_integer) = true)
    (a_toward_zero : PySem.W.nsIn K mainGlobals "toward_zero" = some (some (.ref f_toward_zero)))
    (l_toward_zero : K.lookup f_toward_zero = some ⟨oc_toward_zero, od_toward_zero, .func (PySem.W.fnOf "toward_zero" "toward_zero" (defArgs s_toward_zero) (defBody s_toward_zero) (defScope s_toward_zero) .none kV_toward_zero dc_toward_zero pm_toward_zero an_toward_zero cd_toward_zero ct_toward_zero), sl_toward_zero⟩)
    (c_toward_zero : PySem.W.codeIn K cd_toward_zero "toward_zero" = true)
    (k_toward_zero : PySem.W.keepIn K (.ref f_toward_zero) = true)
    (a_exact_result : PySem.W.nsIn K mainGlobals "exact_result" = some (some (.ref f_exact_result)))
    (l_exact_result : K.lookup f_exact_result = some ⟨oc_exact_result, od_exact_result, .func (PySem.W.fnOf "exact_result" "exact_result" (defArgs s_exact_result) (defBody s_exact_result) (defScope s_exact_result) .none kV_exact_result dc_exact_result pm_exact_result an_exact_result cd_exact_result ct_exact_result), sl_exact_result⟩)
    (c_exact_result : PySem.W.codeIn K cd_exact_result "exact_result" = true)
    (k_exact_result : PySem.W.keepIn K (.ref f_exact_result) = true)
    (a__bitwise : PySem.W.nsIn K mainGlobals "_bitwise" = some (some (.ref f__bitwise)))
    (l__bitwise : K.lookup f__bitwise = some ⟨oc__bitwise, od__bitwise, .func (PySem.W.fnOf "_bitwise" "_bitwise" (defArgs s__bitwise) (defBody s__bitwise) (defScope s__bitwise) .none kV__bitwise dc__bitwise pm__bitwise an__bitwise cd__bitwise ct__bitwise), sl__bitwise⟩)
    (c__bitwise : PySem.W.codeIn K cd__bitwise "_bitwise" = true)
    (k__bitwise : PySem.W.keepIn K (.ref f__bitwise) = true)
    (a_is_word : PySem.W.nsIn K mainGlobals "is_word" = some (some (.ref f_is_word)))
    (l_is_word : K.lookup f_is_word = some ⟨oc_is_word, od_is_word, .func (PySem.W.fnOf "is_word" "is_word" (defArgs s_is_word) (defBody s_is_word) (defScope s_is_word) .none kV_is_word dc_is_word pm_is_word an_is_word cd_is_word ct_is_word), sl_is_word⟩)
    (c_is_word : PySem.W.codeIn K cd_is_word "is_word" = true)
    (k_is_word : PySem.W.keepIn K (.ref f_is_word) = true)
    (a_check_word : PySem.W.nsIn K mainGlobals "check_word" = some (some (.ref f_check_word)))
    (l_check_word : K.lookup f_check_word = some ⟨oc_check_word, od_check_word, .func (PySem.W.fnOf "check_word" "check_word" (defArgs s_check_word) (defBody s_check_word) (defScope s_check_word) .none kV_check_word dc_check_word pm_check_word an_check_word cd_check_word ct_check_word), sl_check_word⟩)
    (c_check_word : PySem.W.codeIn K cd_check_word "check_word" = true)
    (k_check_word : PySem.W.keepIn K (.ref f_check_word) = true)
    (l_Kind___init__ : K.lookup f_Kind___init__ = some ⟨oc_Kind___init__, od_Kind___init__, .func (PySem.W.fnOf "__init__" "Kind.__init__" (defArgs s_Kind___init__) (defBody s_Kind___init__) (defScope s_Kind___init__) .none kV_Kind___init__ dc_Kind___init__ pm_Kind___init__ an_Kind___init__ cd_Kind___init__ ct_Kind___init__), sl_Kind___init__⟩)
    (c_Kind___init__ : PySem.W.codeIn K cd_Kind___init__ "Kind.__init__" = true)
    (k_Kind___init__ : PySem.W.keepIn K (.ref f_Kind___init__) = true)
    (a_check_kind : PySem.W.nsIn K mainGlobals "check_kind" = some (some (.ref f_check_kind)))
    (l_check_kind : K.lookup f_check_kind = some ⟨oc_check_kind, od_check_kind, .func (PySem.W.fnOf "check_kind" "check_kind" (defArgs s_check_kind) (defBody s_check_kind) (defScope s_check_kind) .none kV_check_kind dc_check_kind pm_check_kind an_check_kind cd_check_kind ct_check_kind), sl_check_kind⟩)
    (c_check_kind : PySem.W.codeIn K cd_check_kind "check_kind" = true)
    (k_check_kind : PySem.W.keepIn K (.ref f_check_kind) = true)
    (a_check_value : PySem.W.nsIn K mainGlobals "check_value" = some (some (.ref f_check_value)))
    (l_check_value : K.lookup f_check_value = some ⟨oc_check_value, od_check_value, .func (PySem.W.fnOf "check_value" "check_value" (defArgs s_check_value) (defBody s_check_value) (defScope s_check_value) .none kV_check_value dc_check_value pm_check_value an_check_value cd_check_value ct_check_value), sl_check_value⟩)
    (c_check_value : PySem.W.codeIn K cd_check_value "check_value" = true)
    (k_check_value : PySem.W.keepIn K (.ref f_check_value) = true)
    (a_least : PySem.W.nsIn K mainGlobals "least" = some (some (.ref f_least)))
    (l_least : K.lookup f_least = some ⟨oc_least, od_least, .func (PySem.W.fnOf "least" "least" (defArgs s_least) (defBody s_least) (defScope s_least) .none kV_least dc_least pm_least an_least cd_least ct_least), sl_least⟩)
    (c_least : PySem.W.codeIn K cd_least "least" = true)
    (k_least : PySem.W.keepIn K (.ref f_least) = true)
    (a_greatest : PySem.W.nsIn K mainGlobals "greatest" = some (some (.ref f_greatest)))
    (l_greatest : K.lookup f_greatest = some ⟨oc_greatest, od_greatest, .func (PySem.W.fnOf "greatest" "greatest" (defArgs s_greatest) (defBody s_greatest) (defScope s_greatest) .none kV_greatest dc_greatest pm_greatest an_greatest cd_greatest ct_greatest), sl_greatest⟩)
    (c_greatest : PySem.W.codeIn K cd_greatest "greatest" = true)
    (k_greatest : PySem.W.keepIn K (.ref f_greatest) = true)
    (a_is_value : PySem.W.nsIn K mainGlobals "is_value" = some (some (.ref f_is_value)))
    (l_is_value : K.lookup f_is_value = some ⟨oc_is_value, od_is_value, .func (PySem.W.fnOf "is_value" "is_value" (defArgs s_is_value) (defBody s_is_value) (defScope s_is_value) .none kV_is_value dc_is_value pm_is_value an_is_value cd_is_value ct_is_value), sl_is_value⟩)
    (c_is_value : PySem.W.codeIn K cd_is_value "is_value" = true)
    (k_is_value : PySem.W.keepIn K (.ref f_is_value) = true)
    (a_wrapped : PySem.W.nsIn K mainGlobals "wrapped" = some (some (.ref f_wrapped)))
    (l_wrapped : K.lookup f_wrapped = some ⟨oc_wrapped, od_wrapped, .func (PySem.W.fnOf "wrapped" "wrapped" (defArgs s_wrapped) (defBody s_wrapped) (defScope s_wrapped) .none kV_wrapped dc_wrapped pm_wrapped an_wrapped cd_wrapped ct_wrapped), sl_wrapped⟩)
    (c_wrapped : PySem.W.codeIn K cd_wrapped "wrapped" = true)
    (k_wrapped : PySem.W.keepIn K (.ref f_wrapped) = true)
    (a__check_operation : PySem.W.nsIn K mainGlobals "_check_operation" = some (some (.ref f__check_operation)))
    (l__check_operation : K.lookup f__check_operation = some ⟨oc__check_operation, od__check_operation, .func (PySem.W.fnOf "_check_operation" "_check_operation" (defArgs s__check_operation) (defBody s__check_operation) (defScope s__check_operation) .none kV__check_operation dc__check_operation pm__check_operation an__check_operation cd__check_operation ct__check_operation), sl__check_operation⟩)
    (c__check_operation : PySem.W.codeIn K cd__check_operation "_check_operation" = true)
    (k__check_operation : PySem.W.keepIn K (.ref f__check_operation) = true)
    (a_operate : PySem.W.nsIn K mainGlobals "operate" = some (some (.ref f_operate)))
    (l_operate : K.lookup f_operate = some ⟨oc_operate, od_operate, .func (PySem.W.fnOf "operate" "operate" (defArgs s_operate) (defBody s_operate) (defScope s_operate) .none kV_operate dc_operate pm_operate an_operate cd_operate ct_operate), sl_operate⟩)
    (c_operate : PySem.W.codeIn K cd_operate "operate" = true)
    (k_operate : PySem.W.keepIn K (.ref f_operate) = true)
    (a_overflows : PySem.W.nsIn K mainGlobals "overflows" = some (some (.ref f_overflows)))
    (l_overflows : K.lookup f_overflows = some ⟨oc_overflows, od_overflows, .func (PySem.W.fnOf "overflows" "overflows" (defArgs s_overflows) (defBody s_overflows) (defScope s_overflows) .none kV_overflows dc_overflows pm_overflows an_overflows cd_overflows ct_overflows), sl_overflows⟩)
    (c_overflows : PySem.W.codeIn K cd_overflows "overflows" = true)
    (k_overflows : PySem.W.keepIn K (.ref f_overflows) = true)
    (a__law_source_of : PySem.W.nsIn K mainGlobals "_law_source_of" = some (some (.ref f__law_source_of)))
    (l__law_source_of : K.lookup f__law_source_of = some ⟨oc__law_source_of, od__law_source_of, .func (PySem.W.fnOf "_law_source_of" "_law_source_of" (defArgs s__law_source_of) (defBody s__law_source_of) (defScope s__law_source_of) .none kV__law_source_of dc__law_source_of pm__law_source_of an__law_source_of cd__law_source_of ct__law_source_of), sl__law_source_of⟩)
    (c__law_source_of : PySem.W.codeIn K cd__law_source_of "_law_source_of" = true)
    (k__law_source_of : PySem.W.keepIn K (.ref f__law_source_of) = true)
    (a__law_next : PySem.W.nsIn K mainGlobals "_law_next" = some (some (.ref f__law_next)))
    (l__law_next : K.lookup f__law_next = some ⟨oc__law_next, od__law_next, .func (PySem.W.fnOf "_law_next" "_law_next" (defArgs s__law_next) (defBody s__law_next) (defScope s__law_next) .none kV__law_next dc__law_next pm__law_next an__law_next cd__law_next ct__law_next), sl__law_next⟩)
    (c__law_next : PySem.W.codeIn K cd__law_next "_law_next" = true)
    (k__law_next : PySem.W.keepIn K (.ref f__law_next) = true)
    (a__law_one : PySem.W.nsIn K mainGlobals "_law_one" = some (some (.ref f__law_one)))
    (l__law_one : K.lookup f__law_one = some ⟨oc__law_one, od__law_one, .func (PySem.W.fnOf "_law_one" "_law_one" (defArgs s__law_one) (defBody s__law_one) (defScope s__law_one) .none kV__law_one dc__law_one pm__law_one an__law_one cd__law_one ct__law_one), sl__law_one⟩)
    (c__law_one : PySem.W.codeIn K cd__law_one "_law_one" = true)
    (k__law_one : PySem.W.keepIn K (.ref f__law_one) = true)
    (a__law_cell_at : PySem.W.nsIn K mainGlobals "_law_cell_at" = some (some (.ref f__law_cell_at)))
    (l__law_cell_at : K.lookup f__law_cell_at = some ⟨oc__law_cell_at, od__law_cell_at, .func (PySem.W.fnOf "_law_cell_at" "_law_cell_at" (defArgs s__law_cell_at) (defBody s__law_cell_at) (defScope s__law_cell_at) .none kV__law_cell_at dc__law_cell_at pm__law_cell_at an__law_cell_at cd__law_cell_at ct__law_cell_at), sl__law_cell_at⟩)
    (c__law_cell_at : PySem.W.codeIn K cd__law_cell_at "_law_cell_at" = true)
    (k__law_cell_at : PySem.W.keepIn K (.ref f__law_cell_at) = true)
    (a__law_power : PySem.W.nsIn K mainGlobals "_law_power" = some (some (.ref f__law_power)))
    (l__law_power : K.lookup f__law_power = some ⟨oc__law_power, od__law_power, .func (PySem.W.fnOf "_law_power" "_law_power" (defArgs s__law_power) (defBody s__law_power) (defScope s__law_power) .none kV__law_power dc__law_power pm__law_power an__law_power cd__law_power ct__law_power), sl__law_power⟩)
    (c__law_power : PySem.W.codeIn K cd__law_power "_law_power" = true)
    (k__law_power : PySem.W.keepIn K (.ref f__law_power) = true)
    (a__law_wide : PySem.W.nsIn K mainGlobals "_law_wide" = some (some (.ref f__law_wide)))
    (l__law_wide : K.lookup f__law_wide = some ⟨oc__law_wide, od__law_wide, .func (PySem.W.fnOf "_law_wide" "_law_wide" (defArgs s__law_wide) (defBody s__law_wide) (defScope s__law_wide) .none kV__law_wide dc__law_wide pm__law_wide an__law_wide cd__law_wide ct__law_wide), sl__law_wide⟩)
    (c__law_wide : PySem.W.codeIn K cd__law_wide "_law_wide" = true)
    (k__law_wide : PySem.W.keepIn K (.ref f__law_wide) = true)
    (a__law_placed : PySem.W.nsIn K mainGlobals "_law_placed" = some (some (.ref f__law_placed)))
    (l__law_placed : K.lookup f__law_placed = some ⟨oc__law_placed, od__law_placed, .func (PySem.W.fnOf "_law_placed" "_law_placed" (defArgs s__law_placed) (defBody s__law_placed) (defScope s__law_placed) .none kV__law_placed dc__law_placed pm__law_placed an__law_placed cd__law_placed ct__law_placed), sl__law_placed⟩)
    (c__law_placed : PySem.W.codeIn K cd__law_placed "_law_placed" = true)
    (k__law_placed : PySem.W.keepIn K (.ref f__law_placed) = true)
    (a__law_bits : PySem.W.nsIn K mainGlobals "_law_bits" = some (some (.ref f__law_bits)))
    (l__law_bits : K.lookup f__law_bits = some ⟨oc__law_bits, od__law_bits, .func (PySem.W.fnOf "_law_bits" "_law_bits" (defArgs s__law_bits) (defBody s__law_bits) (defScope s__law_bits) .none kV__law_bits dc__law_bits pm__law_bits an__law_bits cd__law_bits ct__law_bits), sl__law_bits⟩)
    (c__law_bits : PySem.W.codeIn K cd__law_bits "_law_bits" = true)
    (k__law_bits : PySem.W.keepIn K (.ref f__law_bits) = true)
    (a__law_exact : PySem.W.nsIn K mainGlobals "_law_exact" = some (some (.ref f__law_exact)))
    (l__law_exact : K.lookup f__law_exact = some ⟨oc__law_exact, od__law_exact, .func (PySem.W.fnOf "_law_exact" "_law_exact" (defArgs s__law_exact) (defBody s__law_exact) (defScope s__law_exact) .none kV__law_exact dc__law_exact pm__law_exact an__law_exact cd__law_exact ct__law_exact), sl__law_exact⟩)
    (c__law_exact : PySem.W.codeIn K cd__law_exact "_law_exact" = true)
    (k__law_exact : PySem.W.keepIn K (.ref f__law_exact) = true)
    (a__law_values : PySem.W.nsIn K mainGlobals "_law_values" = some (some (.ref f__law_values)))
    (l__law_values : K.lookup f__law_values = some ⟨oc__law_values, od__law_values, .func (PySem.W.fnOf "_law_values" "_law_values" (defArgs s__law_values) (defBody s__law_values) (defScope s__law_values) .none kV__law_values dc__law_values pm__law_values an__law_values cd__law_values ct__law_values), sl__law_values⟩)
    (c__law_values : PySem.W.codeIn K cd__law_values "_law_values" = true)
    (k__law_values : PySem.W.keepIn K (.ref f__law_values) = true)
    (a__law_right : PySem.W.nsIn K mainGlobals "_law_right" = some (some (.ref f__law_right)))
    (l__law_right : K.lookup f__law_right = some ⟨oc__law_right, od__law_right, .func (PySem.W.fnOf "_law_right" "_law_right" (defArgs s__law_right) (defBody s__law_right) (defScope s__law_right) .none kV__law_right dc__law_right pm__law_right an__law_right cd__law_right ct__law_right), sl__law_right⟩)
    (c__law_right : PySem.W.codeIn K cd__law_right "_law_right" = true)
    (k__law_right : PySem.W.keepIn K (.ref f__law_right) = true)
    (a_law : PySem.W.nsIn K mainGlobals "law" = some (some (.ref f_law)))
    (l_law : K.lookup f_law = some ⟨oc_law, od_law, .func (PySem.W.fnOf "law" "law" (defArgs s_law) (defBody s_law) (defScope s_law) .none kV_law dc_law pm_law an_law cd_law ct_law), sl_law⟩)
    (c_law : PySem.W.codeIn K cd_law "law" = true)
    (k_law : PySem.W.keepIn K (.ref f_law) = true)
    (v_OPERATIONS : PySem.W.nsIn K mainGlobals "OPERATIONS" = some (some (.ref a_OPERATIONS)))
    (lt_OPERATIONS : K.lookup a_OPERATIONS = some ⟨.type "tuple", dd_OPERATIONS, .seq its_OPERATIONS n_OPERATIONS, sl_OPERATIONS⟩)
    (sz_OPERATIONS : its_OPERATIONS.size ≤ sizeLine)
    (vt_OPERATIONS : Vals [.str "add", .str "subtract", .str "multiply", .str "divide", .str "remainder", .str "and", .str "or", .str "xor", .str "left", .str "right"] its_OPERATIONS.toList)
    (v_OVERFLOWING : PySem.W.nsIn K mainGlobals "OVERFLOWING" = some (some (.ref a_OVERFLOWING)))
    (lt_OVERFLOWING : K.lookup a_OVERFLOWING = some ⟨.type "tuple", dd_OVERFLOWING, .seq its_OVERFLOWING n_OVERFLOWING, sl_OVERFLOWING⟩)
    (sz_OVERFLOWING : its_OVERFLOWING.size ≤ sizeLine)
    (vt_OVERFLOWING : Vals [.str "add", .str "subtract", .str "multiply", .str "divide", .str "left"] its_OVERFLOWING.toList)
    (v_DIVISIONS : PySem.W.nsIn K mainGlobals "DIVISIONS" = some (some (.ref a_DIVISIONS)))
    (lt_DIVISIONS : K.lookup a_DIVISIONS = some ⟨.type "tuple", dd_DIVISIONS, .seq its_DIVISIONS n_DIVISIONS, sl_DIVISIONS⟩)
    (sz_DIVISIONS : its_DIVISIONS.size ≤ sizeLine)
    (vt_DIVISIONS : Vals [.str "divide", .str "remainder"] its_DIVISIONS.toList)
    (v_SHIFTS : PySem.W.nsIn K mainGlobals "SHIFTS" = some (some (.ref a_SHIFTS)))
    (lt_SHIFTS : K.lookup a_SHIFTS = some ⟨.type "tuple", dd_SHIFTS, .seq its_SHIFTS n_SHIFTS, sl_SHIFTS⟩)
    (sz_SHIFTS : its_SHIFTS.size ≤ sizeLine)
    (vt_SHIFTS : Vals [.str "left", .str "right"] its_SHIFTS.toList)
    (v_MOST_BITS : PySem.W.nsIn K mainGlobals "MOST_BITS" = some (some (.int 128 t_MOST_BITS)))
    (z_abs : PySem.W.nsIn K mainGlobals "abs" = some none)
    (z_bool : PySem.W.nsIn K mainGlobals "bool" = some none)
    (z_int : PySem.W.nsIn K mainGlobals "int" = some none)
    (z_isinstance : PySem.W.nsIn K mainGlobals "isinstance" = some none)
    (z_len : PySem.W.nsIn K mainGlobals "len" = some none)
    (z_range : PySem.W.nsIn K mainGlobals "range" = some none)
    (z_str : PySem.W.nsIn K mainGlobals "str" = some none)
    : Nonempty (Txt K mg) := by
  have F_is_integer := fun_mk (st := s_is_integer) l_is_integer c_is_integer k_is_integer
  have b_is_integer := F_is_integer.binds (ps := ["value"]) fun _ _ _ _ _ _ us hl => match us, hl with | [_], _ => rfl
  have F_check_integer := fun_mk (st := s_check_integer) l_check_integer c_check_integer k_check_integer
  have b_check_integer := F_check_integer.binds (ps := ["value", "argument"]) fun _ _ _ _ _ _ us hl => match us, hl with | [_, _], _ => rfl
  have F_toward_zero := fun_mk (st := s_toward_zero) l_toward_zero c_toward_zero k_toward_zero
  have b_toward_zero := F_toward_zero.binds (ps := ["x", "y"]) fun _ _ _ _ _ _ us hl => match us, hl with | [_, _], _ => rfl
  have F_exact_result := fun_mk (st := s_exact_result) l_exact_result c_exact_result k_exact_result
  have b_exact_result := F_exact_result.binds (ps := ["name", "x", "y"]) fun _ _ _ _ _ _ us hl => match us, hl with | [_, _, _], _ => rfl
  have F__bitwise := fun_mk (st := s__bitwise) l__bitwise c__bitwise k__bitwise
  have b__bitwise := F__bitwise.binds (ps := ["name", "x", "y"]) fun _ _ _ _ _ _ us hl => match us, hl with | [_, _, _], _ => rfl
  have F_is_word := fun_mk (st := s_is_word) l_is_word c_is_word k_is_word
  have b_is_word := F_is_word.binds (ps := ["value", "words"]) fun _ _ _ _ _ _ us hl => match us, hl with | [_, _], _ => rfl
  have F_check_word := fun_mk (st := s_check_word) l_check_word c_check_word k_check_word
  have b_check_word := F_check_word.binds (ps := ["word", "words", "argument"]) fun _ _ _ _ _ _ us hl => match us, hl with | [_, _, _], _ => rfl
  have F_Kind___init__ := fun_mk (st := s_Kind___init__) l_Kind___init__ c_Kind___init__ k_Kind___init__
  have b_Kind___init__ := F_Kind___init__.binds (ps := ["self", "bits", "is_signed"]) fun _ _ _ _ _ _ us hl => match us, hl with | [_, _, _], _ => rfl
  have F_check_kind := fun_mk (st := s_check_kind) l_check_kind c_check_kind k_check_kind
  have b_check_kind := F_check_kind.binds (ps := ["kind"]) fun _ _ _ _ _ _ us hl => match us, hl with | [_], _ => rfl
  have F_check_value := fun_mk (st := s_check_value) l_check_value c_check_value k_check_value
  have b_check_value := F_check_value.binds (ps := ["kind", "x", "argument"]) fun _ _ _ _ _ _ us hl => match us, hl with | [_, _, _], _ => rfl
  have F_least := fun_mk (st := s_least) l_least c_least k_least
  have b_least := F_least.binds (ps := ["kind"]) fun _ _ _ _ _ _ us hl => match us, hl with | [_], _ => rfl
  have F_greatest := fun_mk (st := s_greatest) l_greatest c_greatest k_greatest
  have b_greatest := F_greatest.binds (ps := ["kind"]) fun _ _ _ _ _ _ us hl => match us, hl with | [_], _ => rfl
  have F_is_value := fun_mk (st := s_is_value) l_is_value c_is_value k_is_value
  have b_is_value := F_is_value.binds (ps := ["kind", "x"]) fun _ _ _ _ _ _ us hl => match us, hl with | [_, _], _ => rfl
  have F_wrapped := fun_mk (st := s_wrapped) l_wrapped c_wrapped k_wrapped
  have b_wrapped := F_wrapped.binds (ps := ["kind", "n"]) fun _ _ _ _ _ _ us hl => match us, hl with | [_, _], _ => rfl
  have F__check_operation := fun_mk (st := s__check_operation) l__check_operation c__check_operation k__check_operation
  have b__check_operation := F__check_operation.binds (ps := ["kind", "names", "name", "x", "y"]) fun _ _ _ _ _ _ us hl => match us, hl with | [_, _, _, _, _], _ => rfl
  have F_operate := fun_mk (st := s_operate) l_operate c_operate k_operate
  have b_operate := F_operate.binds (ps := ["kind", "name", "x", "y"]) fun _ _ _ _ _ _ us hl => match us, hl with | [_, _, _, _], _ => rfl
  have F_overflows := fun_mk (st := s_overflows) l_overflows c_overflows k_overflows
  have b_overflows := F_overflows.binds (ps := ["kind", "name", "x", "y"]) fun _ _ _ _ _ _ us hl => match us, hl with | [_, _, _, _], _ => rfl
  have F__law_source_of := fun_mk (st := s__law_source_of) l__law_source_of c__law_source_of k__law_source_of
  have b__law_source_of := F__law_source_of.binds (ps := ["_law_cell"]) fun _ _ _ _ _ _ us hl => match us, hl with | [_], _ => rfl
  have F__law_next := fun_mk (st := s__law_next) l__law_next c__law_next k__law_next
  have b__law_next := F__law_next.binds (ps := ["_law_source", "_law_many"]) fun _ _ _ _ _ _ us hl => match us, hl with | [_, _], _ => rfl
  have F__law_one := fun_mk (st := s__law_one) l__law_one c__law_one k__law_one
  have b__law_one := F__law_one.binds (ps := ["_law_source", "_law_some"]) fun _ _ _ _ _ _ us hl => match us, hl with | [_, _], _ => rfl
  have F__law_cell_at := fun_mk (st := s__law_cell_at) l__law_cell_at c__law_cell_at k__law_cell_at
  have b__law_cell_at := F__law_cell_at.binds (ps := ["_law_script", "_law_index"]) fun _ _ _ _ _ _ us hl => match us, hl with | [_, _], _ => rfl
  have F__law_power := fun_mk (st := s__law_power) l__law_power c__law_power k__law_power
  have b__law_power := F__law_power.binds (ps := ["_law_n"]) fun _ _ _ _ _ _ us hl => match us, hl with | [_], _ => rfl
  have F__law_wide := fun_mk (st := s__law_wide) l__law_wide c__law_wide k__law_wide
  have b__law_wide := F__law_wide.binds (ps := ["_law_source", "_law_m"]) fun _ _ _ _ _ _ us hl => match us, hl with | [_, _], _ => rfl
  have F__law_placed := fun_mk (st := s__law_placed) l__law_placed c__law_placed k__law_placed
  have b__law_placed := F__law_placed.binds (ps := ["_law_parts", "_law_n"]) fun _ _ _ _ _ _ us hl => match us, hl with | [_, _], _ => rfl
  have F__law_bits := fun_mk (st := s__law_bits) l__law_bits c__law_bits k__law_bits
  have b__law_bits := F__law_bits.binds (ps := ["_law_called", "_law_x_here", "_law_y_here", "_law_bits_here"]) fun _ _ _ _ _ _ us hl => match us, hl with | [_, _, _, _], _ => rfl
  have F__law_exact := fun_mk (st := s__law_exact) l__law_exact c__law_exact k__law_exact
  have b__law_exact := F__law_exact.binds (ps := ["_law_called", "_law_x_here", "_law_y_here", "_law_bits_here"]) fun _ _ _ _ _ _ us hl => match us, hl with | [_, _, _, _], _ => rfl
  have F__law_values := fun_mk (st := s__law_values) l__law_values c__law_values k__law_values
  have b__law_values := F__law_values.binds (ps := ["_law_source", "_law_parts"]) fun _ _ _ _ _ _ us hl => match us, hl with | [_, _], _ => rfl
  have F__law_right := fun_mk (st := s__law_right) l__law_right c__law_right k__law_right
  have b__law_right := F__law_right.binds (ps := ["_law_parts", "_law_x_here", "_law_y_here"]) fun _ _ _ _ _ _ us hl => match us, hl with | [_, _, _], _ => rfl
  have F_law := fun_mk (st := s_law) l_law c_law k_law
  have b_law := F_law.binds (ps := ["_law_script"]) fun _ _ _ _ _ _ us hl => match us, hl with | [_], _ => rfl
  exact ⟨{
    C_Kind := C_Kind
    cl_Kind := ⟨pg_Kind, hd_Kind, po_Kind, sa_Kind⟩
    g_Kind := PySem.W.mg_of X G aC_Kind
    na_Kind_bits := na_Kind_bits
    na_Kind_is_signed := na_Kind_is_signed
    ia_Kind := ia_Kind
    ib_Kind := ib_Kind
    ic_Kind := ic_Kind
    id_Kind := id_Kind
    mk_Kind := ⟨mkk_Kind, a_Kind___init__, i_Kind___init__, kc_Kind⟩
    f_is_integer := f_is_integer
    fd_is_integer := _
    F_is_integer := F_is_integer
    b_is_integer := b_is_integer
    g_is_integer := PySem.W.mg_of X G a_is_integer
    k_is_integer := k_is_integer
    f_check_integer := f_check_integer
    fd_check_integer := _
    F_check_integer := F_check_integer
    b_check_integer := b_check_integer
    g_check_integer := PySem.W.mg_of X G a_check_integer
    k_check_integer := k_check_integer
    f_toward_zero := f_toward_zero
    fd_toward_zero := _
    F_toward_zero := F_toward_zero
    b_toward_zero := b_toward_zero
    g_toward_zero := PySem.W.mg_of X G a_toward_zero
    k_toward_zero := k_toward_zero
    f_exact_result := f_exact_result
    fd_exact_result := _
    F_exact_result := F_exact_result
    b_exact_result := b_exact_result
    g_exact_result := PySem.W.mg_of X G a_exact_result
    k_exact_result := k_exact_result
    f__bitwise := f__bitwise
    fd__bitwise := _
    F__bitwise := F__bitwise
    b__bitwise := b__bitwise
    g__bitwise := PySem.W.mg_of X G a__bitwise
    k__bitwise := k__bitwise
    f_is_word := f_is_word
    fd_is_word := _
    F_is_word := F_is_word
    b_is_word := b_is_word
    g_is_word := PySem.W.mg_of X G a_is_word
    k_is_word := k_is_word
    f_check_word := f_check_word
    fd_check_word := _
    F_check_word := F_check_word
    b_check_word := b_check_word
    g_check_word := PySem.W.mg_of X G a_check_word
    k_check_word := k_check_word
    f_Kind___init__ := f_Kind___init__
    fd_Kind___init__ := _
    F_Kind___init__ := F_Kind___init__
    b_Kind___init__ := b_Kind___init__
    f_check_kind := f_check_kind
    fd_check_kind := _
    F_check_kind := F_check_kind
    b_check_kind := b_check_kind
    g_check_kind := PySem.W.mg_of X G a_check_kind
    k_check_kind := k_check_kind
    f_check_value := f_check_value
    fd_check_value := _
    F_check_value := F_check_value
    b_check_value := b_check_value
    g_check_value := PySem.W.mg_of X G a_check_value
    k_check_value := k_check_value
    f_least := f_least
    fd_least := _
    F_least := F_least
    b_least := b_least
    g_least := PySem.W.mg_of X G a_least
    k_least := k_least
    f_greatest := f_greatest
    fd_greatest := _
    F_greatest := F_greatest
    b_greatest := b_greatest
    g_greatest := PySem.W.mg_of X G a_greatest
    k_greatest := k_greatest
    f_is_value := f_is_value
    fd_is_value := _
    F_is_value := F_is_value
    b_is_value := b_is_value
    g_is_value := PySem.W.mg_of X G a_is_value
    k_is_value := k_is_value
    f_wrapped := f_wrapped
    fd_wrapped := _
    F_wrapped := F_wrapped
    b_wrapped := b_wrapped
    g_wrapped := PySem.W.mg_of X G a_wrapped
    k_wrapped := k_wrapped
    f__check_operation := f__check_operation
    fd__check_operation := _
    F__check_operation := F__check_operation
    b__check_operation := b__check_operation
    g__check_operation := PySem.W.mg_of X G a__check_operation
    k__check_operation := k__check_operation
    f_operate := f_operate
    fd_operate := _
    F_operate := F_operate
    b_operate := b_operate
    g_operate := PySem.W.mg_of X G a_operate
    k_operate := k_operate
    f_overflows := f_overflows
    fd_overflows := _
    F_overflows := F_overflows
    b_overflows := b_overflows
    g_overflows := PySem.W.mg_of X G a_overflows
    k_overflows := k_overflows
    f__law_source_of := f__law_source_of
    fd__law_source_of := _
    F__law_source_of := F__law_source_of
    b__law_source_of := b__law_source_of
    g__law_source_of := PySem.W.mg_of X G a__law_source_of
    k__law_source_of := k__law_source_of
    f__law_next := f__law_next
    fd__law_next := _
    F__law_next := F__law_next
    b__law_next := b__law_next
    g__law_next := PySem.W.mg_of X G a__law_next
    k__law_next := k__law_next
    f__law_one := f__law_one
    fd__law_one := _
    F__law_one := F__law_one
    b__law_one := b__law_one
    g__law_one := PySem.W.mg_of X G a__law_one
    k__law_one := k__law_one
    f__law_cell_at := f__law_cell_at
    fd__law_cell_at := _
    F__law_cell_at := F__law_cell_at
    b__law_cell_at := b__law_cell_at
    g__law_cell_at := PySem.W.mg_of X G a__law_cell_at
    k__law_cell_at := k__law_cell_at
    f__law_power := f__law_power
    fd__law_power := _
    F__law_power := F__law_power
    b__law_power := b__law_power
    g__law_power := PySem.W.mg_of X G a__law_power
    k__law_power := k__law_power
    f__law_wide := f__law_wide
    fd__law_wide := _
    F__law_wide := F__law_wide
    b__law_wide := b__law_wide
    g__law_wide := PySem.W.mg_of X G a__law_wide
    k__law_wide := k__law_wide
    f__law_placed := f__law_placed
    fd__law_placed := _
    F__law_placed := F__law_placed
    b__law_placed := b__law_placed
    g__law_placed := PySem.W.mg_of X G a__law_placed
    k__law_placed := k__law_placed
    f__law_bits := f__law_bits
    fd__law_bits := _
    F__law_bits := F__law_bits
    b__law_bits := b__law_bits
    g__law_bits := PySem.W.mg_of X G a__law_bits
    k__law_bits := k__law_bits
    f__law_exact := f__law_exact
    fd__law_exact := _
    F__law_exact := F__law_exact
    b__law_exact := b__law_exact
    g__law_exact := PySem.W.mg_of X G a__law_exact
    k__law_exact := k__law_exact
    f__law_values := f__law_values
    fd__law_values := _
    F__law_values := F__law_values
    b__law_values := b__law_values
    g__law_values := PySem.W.mg_of X G a__law_values
    k__law_values := k__law_values
    f__law_right := f__law_right
    fd__law_right := _
    F__law_right := F__law_right
    b__law_right := b__law_right
    g__law_right := PySem.W.mg_of X G a__law_right
    k__law_right := k__law_right
    f_law := f_law
    fd_law := _
    F_law := F_law
    b_law := b_law
    g_law := PySem.W.mg_of X G a_law
    k_law := k_law
    a_OPERATIONS := a_OPERATIONS
    g_OPERATIONS := PySem.W.mg_of X G v_OPERATIONS
    q_OPERATIONS := fun H => .inr ⟨_, _, _, lt_OPERATIONS, rfl, rfl, sz_OPERATIONS, vt_OPERATIONS⟩
    a_OVERFLOWING := a_OVERFLOWING
    g_OVERFLOWING := PySem.W.mg_of X G v_OVERFLOWING
    q_OVERFLOWING := fun H => .inr ⟨_, _, _, lt_OVERFLOWING, rfl, rfl, sz_OVERFLOWING, vt_OVERFLOWING⟩
    a_DIVISIONS := a_DIVISIONS
    g_DIVISIONS := PySem.W.mg_of X G v_DIVISIONS
    q_DIVISIONS := fun H => .inr ⟨_, _, _, lt_DIVISIONS, rfl, rfl, sz_DIVISIONS, vt_DIVISIONS⟩
    a_SHIFTS := a_SHIFTS
    g_SHIFTS := PySem.W.mg_of X G v_SHIFTS
    q_SHIFTS := fun H => .inr ⟨_, _, _, lt_SHIFTS, rfl, rfl, sz_SHIFTS, vt_SHIFTS⟩
    t_MOST_BITS := t_MOST_BITS
    g_MOST_BITS := PySem.W.mg_of X G v_MOST_BITS
    n_abs := PySem.W.mg_none_of X G z_abs
    n_bool := PySem.W.mg_none_of X G z_bool
    n_int := PySem.W.mg_none_of X G z_int
    n_isinstance := PySem.W.mg_none_of X G z_isinstance
    n_len := PySem.W.mg_none_of X G z_len
    n_range := PySem.W.mg_none_of X G z_range
    n_str := PySem.W.mg_none_of X G z_str
    kb_operate_0_y_x_name_kind := kbinds_of F_operate (fun _ _ _ _ _ _ us ws hl => match us, ws, hl with | [], [_, _, _, _], _ => rfl) rel_kb_operate_0_y_x_name_kind
    kb_overflows_0_y_x_name_kind := kbinds_of F_overflows (fun _ _ _ _ _ _ us ws hl => match us, ws, hl with | [], [_, _, _, _], _ => rfl) rel_kb_overflows_0_y_x_name_kind
    bl_law := fun s v => .of_eq rfl }⟩
theorem walk {l : PySem.W.OpenLaw} {q : Program} {loose : List Str} {XP : (Str → Option Value) → Heap → Prop} {YP : World → Heap → Prop} {d : DefRec} {K : Params → PySem.W.Frag} (hn : l.most = some 63) (hdf : d.params.defaults = []) (hnm : d.name = "law")
    (hY : ∀ (w : World) (h : Heap), YP w h → (K w.params).In h)
    (F : ∀ (w : World) (mg : Str → Option Value) (h : Heap), (K w.params).In h → h.Ns mainGlobals mg → Nonempty (Txt (K w.params) mg)) :
    PySem.W.WalkO q loose XP YP l.row.toRowW d [] (fun f vs => PySem.call f vs) :=
  L2.walk_of (n := 63) (k := 9) (x := "_law_script") (CX := fun _ => CX0) (sp := fun w => sp_law (K w.params) 0) hn (by decide) hdf ⟨rfl, by decide, by decide⟩ hY
    (fun w mg fa h KX G hm => by
      obtain ⟨T⟩ := F w mg h KX G
      have e : T.f_law = fa := by
        have q := T.g_law.symm.trans (hnm ▸ hm)
        cases q; rfl
      subst e
      exact ⟨T.fd_law, T.bl_law, fun base _ _ => ok_law T⟩)
    (fun _ _ a ns hl _ hS => ⟨a, ns, rfl, hS, hl, fun _ => rfl⟩) fun _ _ _ _ _ z => z
end Fw
open PySem PySem.W PyProof.Rows
set_option maxRecDepth 100000 in
set_option maxHeartbeats 0 in
theorem PySem.Challenge.cw_farwrap_k02_operations_holds : PySem.Challenge.rw_farwrap_k02_operations.Holds := by
  w_on; o_law; k_head; (case hw => w_witness2)
  k_fill
  refine Fw.walk (l := PySem.Challenge.rw_farwrap_k02_operations) rfl rfl rfl (fun w h Y => PySem.W.kIn_of Y) ?F
  case F =>
    intro w mg h KX G
    refine' Fw.mk_txt KX G ?aC_Kind ?a_Kind___init__ ?i_Kind___init__ ?pg_Kind ?hd_Kind ?po_Kind ?sa_Kind ?mkk_Kind ?kc_Kind ?na_Kind_bits ?na_Kind_is_signed ?ia_Kind ?ib_Kind ?ic_Kind ?id_Kind ?a_is_integer ?l_is_integer ?c_is_integer ?k_is_integer ?a_check_integer ?l_check_integer ?c_check_integer ?k_check_integer ?a_toward_zero ?l_toward_zero ?c_toward_zero ?k_toward_zero ?a_exact_result ?l_exact_result ?c_exact_result ?k_exact_result ?a__bitwise ?l__bitwise ?c__bitwise ?k__bitwise ?a_is_word ?l_is_word ?c_is_word ?k_is_word ?a_check_word ?l_check_word ?c_check_word ?k_check_word ?l_Kind___init__ ?c_Kind___init__ ?k_Kind___init__ ?a_check_kind ?l_check_kind ?c_check_kind ?k_check_kind ?a_check_value ?l_check_value ?c_check_value ?k_check_value ?a_least ?l_least ?c_least ?k_least ?a_greatest ?l_greatest ?c_greatest ?k_greatest ?a_is_value ?l_is_value ?c_is_value ?k_is_value ?a_wrapped ?l_wrapped ?c_wrapped ?k_wrapped ?a__check_operation ?l__check_operation ?c__check_operation ?k__check_operation ?a_operate ?l_operate ?c_operate ?k_operate ?a_overflows ?l_overflows ?c_overflows ?k_overflows ?a__law_source_of ?l__law_source_of ?c__law_source_of ?k__law_source_of ?a__law_next ?l__law_next ?c__law_next ?k__law_next ?a__law_one ?l__law_one ?c__law_one ?k__law_one ?a__law_cell_at ?l__law_cell_at ?c__law_cell_at ?k__law_cell_at ?a__law_power ?l__law_power ?c__law_power ?k__law_power ?a__law_wide ?l__law_wide ?c__law_wide ?k__law_wide ?a__law_placed ?l__law_placed ?c__law_placed ?k__law_placed ?a__law_bits ?l__law_bits ?c__law_bits ?k__law_bits ?a__law_exact ?l__law_exact ?c__law_exact ?k__law_exact ?a__law_values ?l__law_values ?c__law_values ?k__law_values ?a__law_right ?l__law_right ?c__law_right ?k__law_right ?a_law ?l_law ?c_law ?k_law ?v_OPERATIONS ?lt_OPERATIONS ?sz_OPERATIONS ?vt_OPERATIONS ?v_OVERFLOWING ?lt_OVERFLOWING ?sz_OVERFLOWING ?vt_OVERFLOWING ?v_DIVISIONS ?lt_DIVISIONS ?sz_DIVISIONS ?vt_DIVISIONS ?v_SHIFTS ?lt_SHIFTS ?sz_SHIFTS ?vt_SHIFTS ?v_MOST_BITS ?z_abs ?z_bool ?z_int ?z_isinstance ?z_len ?z_range ?z_str
    (case aC_Kind => k_is)
    (case a_Kind___init__ => k_is)
    (case i_Kind___init__ => k_is)
    (case pg_Kind => k_is)
    (case hd_Kind => k_is)
    (case po_Kind => k_is)
    (case sa_Kind => k_is)
    (case mkk_Kind => k_is)
    (case kc_Kind => k_is)
    (case na_Kind_bits => k_is)
    (case na_Kind_is_signed => k_is)
    (case ia_Kind => k_is)
    (case ib_Kind => k_is)
    (case ic_Kind => k_is)
    (case id_Kind => k_is)
    (case a_is_integer => k_is)
    (case l_is_integer => k_is)
    (case c_is_integer => k_is)
    (case k_is_integer => k_is)
    (case a_check_integer => k_is)
    (case l_check_integer => k_is)
    (case c_check_integer => k_is)
    (case k_check_integer => k_is)
    (case a_toward_zero => k_is)
    (case l_toward_zero => k_is)
    (case c_toward_zero => k_is)
    (case k_toward_zero => k_is)
    (case a_exact_result => k_is)
    (case l_exact_result => k_is)
    (case c_exact_result => k_is)
    (case k_exact_result => k_is)
    (case a__bitwise => k_is)
    (case l__bitwise => k_is)
    (case c__bitwise => k_is)
    (case k__bitwise => k_is)
    (case a_is_word => k_is)
    (case l_is_word => k_is)
    (case c_is_word => k_is)
    (case k_is_word => k_is)
    (case a_check_word => k_is)
    (case l_check_word => k_is)
    (case c_check_word => k_is)
    (case k_check_word => k_is)
    (case l_Kind___init__ => k_is)
    (case c_Kind___init__ => k_is)
    (case k_Kind___init__ => k_is)
    (case a_check_kind => k_is)
    (case l_check_kind => k_is)
    (case c_check_kind => k_is)
    (case k_check_kind => k_is)
    (case a_check_value => k_is)
    (case l_check_value => k_is)
    (case c_check_value => k_is)
    (case k_check_value => k_is)
    (case a_least => k_is)
    (case l_least => k_is)
    (case c_least => k_is)
    (case k_least => k_is)
    (case a_greatest => k_is)
    (case l_greatest => k_is)
    (case c_greatest => k_is)
    (case k_greatest => k_is)
    (case a_is_value => k_is)
    (case l_is_value => k_is)
    (case c_is_value => k_is)
    (case k_is_value => k_is)
    (case a_wrapped => k_is)
    (case l_wrapped => k_is)
    (case c_wrapped => k_is)
    (case k_wrapped => k_is)
    (case a__check_operation => k_is)
    (case l__check_operation => k_is)
    (case c__check_operation => k_is)
    (case k__check_operation => k_is)
    (case a_operate => k_is)
    (case l_operate => k_is)
    (case c_operate => k_is)
    (case k_operate => k_is)
    (case a_overflows => k_is)
    (case l_overflows => k_is)
    (case c_overflows => k_is)
    (case k_overflows => k_is)
    (case a__law_source_of => k_is)
    (case l__law_source_of => k_is)
    (case c__law_source_of => k_is)
    (case k__law_source_of => k_is)
    (case a__law_next => k_is)
    (case l__law_next => k_is)
    (case c__law_next => k_is)
    (case k__law_next => k_is)
    (case a__law_one => k_is)
    (case l__law_one => k_is)
    (case c__law_one => k_is)
    (case k__law_one => k_is)
    (case a__law_cell_at => k_is)
    (case l__law_cell_at => k_is)
    (case c__law_cell_at => k_is)
    (case k__law_cell_at => k_is)
    (case a__law_power => k_is)
    (case l__law_power => k_is)
    (case c__law_power => k_is)
    (case k__law_power => k_is)
    (case a__law_wide => k_is)
    (case l__law_wide => k_is)
    (case c__law_wide => k_is)
    (case k__law_wide => k_is)
    (case a__law_placed => k_is)
    (case l__law_placed => k_is)
    (case c__law_placed => k_is)
    (case k__law_placed => k_is)
    (case a__law_bits => k_is)
    (case l__law_bits => k_is)
    (case c__law_bits => k_is)
    (case k__law_bits => k_is)
    (case a__law_exact => k_is)
    (case l__law_exact => k_is)
    (case c__law_exact => k_is)
    (case k__law_exact => k_is)
    (case a__law_values => k_is)
    (case l__law_values => k_is)
    (case c__law_values => k_is)
    (case k__law_values => k_is)
    (case a__law_right => k_is)
    (case l__law_right => k_is)
    (case c__law_right => k_is)
    (case k__law_right => k_is)
    (case a_law => k_is)
    (case l_law => k_is)
    (case c_law => k_is)
    (case k_law => k_is)
    (case v_OPERATIONS => k_is)
    (case lt_OPERATIONS => k_is)
    (case sz_OPERATIONS => exact (by decide))
    (case vt_OPERATIONS => exact (.cons ⟨_, rfl⟩ (.cons ⟨_, rfl⟩ (.cons ⟨_, rfl⟩ (.cons ⟨_, rfl⟩ (.cons ⟨_, rfl⟩ (.cons ⟨_, rfl⟩ (.cons ⟨_, rfl⟩ (.cons ⟨_, rfl⟩ (.cons ⟨_, rfl⟩ (.cons ⟨_, rfl⟩ .nil)))))))))))
    (case v_OVERFLOWING => k_is)
    (case lt_OVERFLOWING => k_is)
    (case sz_OVERFLOWING => exact (by decide))
    (case vt_OVERFLOWING => exact (.cons ⟨_, rfl⟩ (.cons ⟨_, rfl⟩ (.cons ⟨_, rfl⟩ (.cons ⟨_, rfl⟩ (.cons ⟨_, rfl⟩ .nil))))))
    (case v_DIVISIONS => k_is)
    (case lt_DIVISIONS => k_is)
    (case sz_DIVISIONS => exact (by decide))
    (case vt_DIVISIONS => exact (.cons ⟨_, rfl⟩ (.cons ⟨_, rfl⟩ .nil)))
    (case v_SHIFTS => k_is)
    (case lt_SHIFTS => k_is)
    (case sz_SHIFTS => exact (by decide))
    (case vt_SHIFTS => exact (.cons ⟨_, rfl⟩ (.cons ⟨_, rfl⟩ .nil)))
    (case v_MOST_BITS => k_is)
    (case z_abs => k_is)
    (case z_bool => k_is)
    (case z_int => k_is)
    (case z_isinstance => k_is)
    (case z_len => k_is)
    (case z_range => k_is)
    (case z_str => k_is)
