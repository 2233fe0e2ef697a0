import PyProof.Rows.All
import Wide.All
import OpenK.AllK
import Wide.FinOn
import HandS.ForMost
import HandS.IsInst
import HandS.WideBits
import PySem.Challenge.RW_farwrap_k01_kinds_and_casts
set_option Elab.async false
set_option linter.all false
set_option maxRecDepth 100000
set_option maxHeartbeats 4000000
namespace Fw
open PySem L2
def rIntC : List V → Hp → VK → Prop := fun xs H Q => (∃ i, xs = [.int i] ∧ Q (.int i) H) ∨ ∃ k, xs = [.bl k] ∧ Q (.int (if k then 1 else 0)) H
def rAbsC : List V → Hp → VK → Prop := fun xs H Q => ∃ i, xs = [.int i] ∧ Q (.int (if i < 0 then -i else i)) H
def rLenS (K : PySem.W.Frag) : List V → Hp → VK → Prop := fun xs H Q => ∃ p ys, xs = [.ref p] ∧ (SqL K H p ys ∨ SqT K H p ys) ∧ Q (.int ys.length) H
section
variable {X : Cx} {CX : CXT} {k : Nat} {f : Addr} {fd : FuncData} {ps ks : List Str} {sp : Sp} {E : XK} {x : Str} {p pos : Pos} {kws : List Keyword} {tk : TA} {g : List Value → List Value → List Value} {gV : List V → List V → List V}
/-- f(k = v, ..), no positional argument -/
theorem pe_callK0 (F : FnOk X.prog X.w X.K X.mg X.base CX k f fd ps sp) (hr : Room k X.A) (hg : Gl X x) (hm : X.mg x = some (.ref f)) (hk : PySem.W.keepIn X.K (.ref f) = true) (hb : KBinds X.K fd ps ks g gV) (hx : Passes CX X E)
    (hkw : PK X kws tk) (hall : (backToKw pos (keywordEach kws X.env)).all (·.1.isSome) = true := by rfl) (hks : (backToKw pos (keywordEach kws X.env)).filterMap (·.1) = ks := by rfl)
    (hdb : (x == ("__debug__" : Str)) = false := by decide)
    (hpl : ((backTo pos (starEach [] X.env)).any (·.1) || (backToKw pos (keywordEach kws X.env)).any (·.1.isNone)) = false := by rfl) :
    PE X (.Call (.Name x p) [] kws pos) (tCallK sp gV E tNil tk) := by
  refine ⟨fun pins s σ H Q I h => ?_⟩
  refine wpAny_Call_Name_kw (ld_glob I hg hm ?_ hdb)
  refine PySem.W.callWith_KW0 (h₀ := X.base) I.ok.mod.kin hk hall ?_ hpl
  have q : tk σ H fun zs H2 => sp (gV [] zs) H2 Q E := h
  refine thn (hkw.run pos pins s σ H _ I q) fun ws s2 ⟨zs, H2, I2, rz, q2⟩ => ⟨I2.kIn, ?_⟩
  rw [hks]
  exact run_fnk F hr hb hx I2 .nil rz q2
end

section
variable {K : PySem.W.Frag} {C : Addr} {σ : L2.St} {H : Hp} {Q : VK} {D : Ends} {ta tb tc te : TE} {tt tu : TT} {r : R2}
theorem w_c {v : V} (q : Q v H) : tC v σ H Q := q
theorem w_var {i : Nat} {v : V} (h : σ[i]? = some (some v)) (q : Q v H) : tVar i σ H Q := ⟨v, h, q⟩
theorem w_v0 {v : V} {r : L2.St} (q : Q v H) : tVar 0 (some v :: r) H Q := ⟨v, rfl, q⟩
theorem w_n0 {y : Option V} {v : V} {r : L2.St} {Q : L2.St → Hp → Prop} (q : Q (some v :: r) H) : gName 0 v (y :: r) H Q := q
theorem w_v1 {x0 : Option V} {v : V} {r : L2.St} (q : Q v H) : tVar 1 (x0 :: some v :: r) H Q := ⟨v, rfl, q⟩
theorem w_n1 {x0 : Option V} {y : Option V} {v : V} {r : L2.St} {Q : L2.St → Hp → Prop} (q : Q (x0 :: some v :: r) H) : gName 1 v (x0 :: y :: r) H Q := q
theorem w_v2 {x0 x1 : Option V} {v : V} {r : L2.St} (q : Q v H) : tVar 2 (x0 :: x1 :: some v :: r) H Q := ⟨v, rfl, q⟩
theorem w_n2 {x0 x1 : Option V} {y : Option V} {v : V} {r : L2.St} {Q : L2.St → Hp → Prop} (q : Q (x0 :: x1 :: some v :: r) H) : gName 2 v (x0 :: x1 :: y :: r) H Q := q
theorem w_v3 {x0 x1 x2 : Option V} {v : V} {r : L2.St} (q : Q v H) : tVar 3 (x0 :: x1 :: x2 :: some v :: r) H Q := ⟨v, rfl, q⟩
theorem w_n3 {x0 x1 x2 : Option V} {y : Option V} {v : V} {r : L2.St} {Q : L2.St → Hp → Prop} (q : Q (x0 :: x1 :: x2 :: some v :: r) H) : gName 3 v (x0 :: x1 :: x2 :: y :: r) H Q := q
theorem w_v4 {x0 x1 x2 x3 : Option V} {v : V} {r : L2.St} (q : Q v H) : tVar 4 (x0 :: x1 :: x2 :: x3 :: some v :: r) H Q := ⟨v, rfl, q⟩
theorem w_n4 {x0 x1 x2 x3 : Option V} {y : Option V} {v : V} {r : L2.St} {Q : L2.St → Hp → Prop} (q : Q (x0 :: x1 :: x2 :: x3 :: some v :: r) H) : gName 4 v (x0 :: x1 :: x2 :: x3 :: y :: r) H Q := q
theorem w_v5 {x0 x1 x2 x3 x4 : Option V} {v : V} {r : L2.St} (q : Q v H) : tVar 5 (x0 :: x1 :: x2 :: x3 :: x4 :: some v :: r) H Q := ⟨v, rfl, q⟩
theorem w_n5 {x0 x1 x2 x3 x4 : Option V} {y : Option V} {v : V} {r : L2.St} {Q : L2.St → Hp → Prop} (q : Q (x0 :: x1 :: x2 :: x3 :: x4 :: some v :: r) H) : gName 5 v (x0 :: x1 :: x2 :: x3 :: x4 :: y :: r) H Q := q
theorem w_v6 {x0 x1 x2 x3 x4 x5 : Option V} {v : V} {r : L2.St} (q : Q v H) : tVar 6 (x0 :: x1 :: x2 :: x3 :: x4 :: x5 :: some v :: r) H Q := ⟨v, rfl, q⟩
theorem w_n6 {x0 x1 x2 x3 x4 x5 : Option V} {y : Option V} {v : V} {r : L2.St} {Q : L2.St → Hp → Prop} (q : Q (x0 :: x1 :: x2 :: x3 :: x4 :: x5 :: some v :: r) H) : gName 6 v (x0 :: x1 :: x2 :: x3 :: x4 :: x5 :: y :: r) H Q := q
theorem w_v7 {x0 x1 x2 x3 x4 x5 x6 : Option V} {v : V} {r : L2.St} (q : Q v H) : tVar 7 (x0 :: x1 :: x2 :: x3 :: x4 :: x5 :: x6 :: some v :: r) H Q := ⟨v, rfl, q⟩
theorem w_n7 {x0 x1 x2 x3 x4 x5 x6 : Option V} {y : Option V} {v : V} {r : L2.St} {Q : L2.St → Hp → Prop} (q : Q (x0 :: x1 :: x2 :: x3 :: x4 :: x5 :: x6 :: some v :: r) H) : gName 7 v (x0 :: x1 :: x2 :: x3 :: x4 :: x5 :: x6 :: y :: r) H Q := q
theorem w_v8 {x0 x1 x2 x3 x4 x5 x6 x7 : Option V} {v : V} {r : L2.St} (q : Q v H) : tVar 8 (x0 :: x1 :: x2 :: x3 :: x4 :: x5 :: x6 :: x7 :: some v :: r) H Q := ⟨v, rfl, q⟩
theorem w_n8 {x0 x1 x2 x3 x4 x5 x6 x7 : Option V} {y : Option V} {v : V} {r : L2.St} {Q : L2.St → Hp → Prop} (q : Q (x0 :: x1 :: x2 :: x3 :: x4 :: x5 :: x6 :: x7 :: some v :: r) H) : gName 8 v (x0 :: x1 :: x2 :: x3 :: x4 :: x5 :: x6 :: x7 :: y :: r) H Q := q
theorem w_v9 {x0 x1 x2 x3 x4 x5 x6 x7 x8 : Option V} {v : V} {r : L2.St} (q : Q v H) : tVar 9 (x0 :: x1 :: x2 :: x3 :: x4 :: x5 :: x6 :: x7 :: x8 :: some v :: r) H Q := ⟨v, rfl, q⟩
theorem w_n9 {x0 x1 x2 x3 x4 x5 x6 x7 x8 : Option V} {y : Option V} {v : V} {r : L2.St} {Q : L2.St → Hp → Prop} (q : Q (x0 :: x1 :: x2 :: x3 :: x4 :: x5 :: x6 :: x7 :: x8 :: some v :: r) H) : gName 9 v (x0 :: x1 :: x2 :: x3 :: x4 :: x5 :: x6 :: x7 :: x8 :: y :: r) H Q := q
theorem w_v10 {x0 x1 x2 x3 x4 x5 x6 x7 x8 x9 : Option V} {v : V} {r : L2.St} (q : Q v H) : tVar 10 (x0 :: x1 :: x2 :: x3 :: x4 :: x5 :: x6 :: x7 :: x8 :: x9 :: some v :: r) H Q := ⟨v, rfl, q⟩
theorem w_n10 {x0 x1 x2 x3 x4 x5 x6 x7 x8 x9 : Option V} {y : Option V} {v : V} {r : L2.St} {Q : L2.St → Hp → Prop} (q : Q (x0 :: x1 :: x2 :: x3 :: x4 :: x5 :: x6 :: x7 :: x8 :: x9 :: some v :: r) H) : gName 10 v (x0 :: x1 :: x2 :: x3 :: x4 :: x5 :: x6 :: x7 :: x8 :: x9 :: y :: r) H Q := q
theorem w_v11 {x0 x1 x2 x3 x4 x5 x6 x7 x8 x9 x10 : Option V} {v : V} {r : L2.St} (q : Q v H) : tVar 11 (x0 :: x1 :: x2 :: x3 :: x4 :: x5 :: x6 :: x7 :: x8 :: x9 :: x10 :: some v :: r) H Q := ⟨v, rfl, q⟩
theorem w_n11 {x0 x1 x2 x3 x4 x5 x6 x7 x8 x9 x10 : Option V} {y : Option V} {v : V} {r : L2.St} {Q : L2.St → Hp → Prop} (q : Q (x0 :: x1 :: x2 :: x3 :: x4 :: x5 :: x6 :: x7 :: x8 :: x9 :: x10 :: some v :: r) H) : gName 11 v (x0 :: x1 :: x2 :: x3 :: x4 :: x5 :: x6 :: x7 :: x8 :: x9 :: x10 :: y :: r) H Q := q
theorem w_v12 {x0 x1 x2 x3 x4 x5 x6 x7 x8 x9 x10 x11 : Option V} {v : V} {r : L2.St} (q : Q v H) : tVar 12 (x0 :: x1 :: x2 :: x3 :: x4 :: x5 :: x6 :: x7 :: x8 :: x9 :: x10 :: x11 :: some v :: r) H Q := ⟨v, rfl, q⟩
theorem w_n12 {x0 x1 x2 x3 x4 x5 x6 x7 x8 x9 x10 x11 : Option V} {y : Option V} {v : V} {r : L2.St} {Q : L2.St → Hp → Prop} (q : Q (x0 :: x1 :: x2 :: x3 :: x4 :: x5 :: x6 :: x7 :: x8 :: x9 :: x10 :: x11 :: some v :: r) H) : gName 12 v (x0 :: x1 :: x2 :: x3 :: x4 :: x5 :: x6 :: x7 :: x8 :: x9 :: x10 :: x11 :: y :: r) H Q := q
theorem w_v13 {x0 x1 x2 x3 x4 x5 x6 x7 x8 x9 x10 x11 x12 : Option V} {v : V} {r : L2.St} (q : Q v H) : tVar 13 (x0 :: x1 :: x2 :: x3 :: x4 :: x5 :: x6 :: x7 :: x8 :: x9 :: x10 :: x11 :: x12 :: some v :: r) H Q := ⟨v, rfl, q⟩
theorem w_n13 {x0 x1 x2 x3 x4 x5 x6 x7 x8 x9 x10 x11 x12 : Option V} {y : Option V} {v : V} {r : L2.St} {Q : L2.St → Hp → Prop} (q : Q (x0 :: x1 :: x2 :: x3 :: x4 :: x5 :: x6 :: x7 :: x8 :: x9 :: x10 :: x11 :: x12 :: some v :: r) H) : gName 13 v (x0 :: x1 :: x2 :: x3 :: x4 :: x5 :: x6 :: x7 :: x8 :: x9 :: x10 :: x11 :: x12 :: y :: r) H Q := q
theorem w_v14 {x0 x1 x2 x3 x4 x5 x6 x7 x8 x9 x10 x11 x12 x13 : Option V} {v : V} {r : L2.St} (q : Q v H) : tVar 14 (x0 :: x1 :: x2 :: x3 :: x4 :: x5 :: x6 :: x7 :: x8 :: x9 :: x10 :: x11 :: x12 :: x13 :: some v :: r) H Q := ⟨v, rfl, q⟩
theorem w_n14 {x0 x1 x2 x3 x4 x5 x6 x7 x8 x9 x10 x11 x12 x13 : Option V} {y : Option V} {v : V} {r : L2.St} {Q : L2.St → Hp → Prop} (q : Q (x0 :: x1 :: x2 :: x3 :: x4 :: x5 :: x6 :: x7 :: x8 :: x9 :: x10 :: x11 :: x12 :: x13 :: some v :: r) H) : gName 14 v (x0 :: x1 :: x2 :: x3 :: x4 :: x5 :: x6 :: x7 :: x8 :: x9 :: x10 :: x11 :: x12 :: x13 :: y :: r) H Q := q
theorem w_v15 {x0 x1 x2 x3 x4 x5 x6 x7 x8 x9 x10 x11 x12 x13 x14 : Option V} {v : V} {r : L2.St} (q : Q v H) : tVar 15 (x0 :: x1 :: x2 :: x3 :: x4 :: x5 :: x6 :: x7 :: x8 :: x9 :: x10 :: x11 :: x12 :: x13 :: x14 :: some v :: r) H Q := ⟨v, rfl, q⟩
theorem w_n15 {x0 x1 x2 x3 x4 x5 x6 x7 x8 x9 x10 x11 x12 x13 x14 : Option V} {y : Option V} {v : V} {r : L2.St} {Q : L2.St → Hp → Prop} (q : Q (x0 :: x1 :: x2 :: x3 :: x4 :: x5 :: x6 :: x7 :: x8 :: x9 :: x10 :: x11 :: x12 :: x13 :: x14 :: some v :: r) H) : gName 15 v (x0 :: x1 :: x2 :: x3 :: x4 :: x5 :: x6 :: x7 :: x8 :: x9 :: x10 :: x11 :: x12 :: x13 :: x14 :: y :: r) H Q := q
theorem w_v16 {x0 x1 x2 x3 x4 x5 x6 x7 x8 x9 x10 x11 x12 x13 x14 x15 : Option V} {v : V} {r : L2.St} (q : Q v H) : tVar 16 (x0 :: x1 :: x2 :: x3 :: x4 :: x5 :: x6 :: x7 :: x8 :: x9 :: x10 :: x11 :: x12 :: x13 :: x14 :: x15 :: some v :: r) H Q := ⟨v, rfl, q⟩
theorem w_n16 {x0 x1 x2 x3 x4 x5 x6 x7 x8 x9 x10 x11 x12 x13 x14 x15 : Option V} {y : Option V} {v : V} {r : L2.St} {Q : L2.St → Hp → Prop} (q : Q (x0 :: x1 :: x2 :: x3 :: x4 :: x5 :: x6 :: x7 :: x8 :: x9 :: x10 :: x11 :: x12 :: x13 :: x14 :: x15 :: some v :: r) H) : gName 16 v (x0 :: x1 :: x2 :: x3 :: x4 :: x5 :: x6 :: x7 :: x8 :: x9 :: x10 :: x11 :: x12 :: x13 :: x14 :: x15 :: y :: r) H Q := q
theorem w_v17 {x0 x1 x2 x3 x4 x5 x6 x7 x8 x9 x10 x11 x12 x13 x14 x15 x16 : Option V} {v : V} {r : L2.St} (q : Q v H) : tVar 17 (x0 :: x1 :: x2 :: x3 :: x4 :: x5 :: x6 :: x7 :: x8 :: x9 :: x10 :: x11 :: x12 :: x13 :: x14 :: x15 :: x16 :: some v :: r) H Q := ⟨v, rfl, q⟩
theorem w_n17 {x0 x1 x2 x3 x4 x5 x6 x7 x8 x9 x10 x11 x12 x13 x14 x15 x16 : Option V} {y : Option V} {v : V} {r : L2.St} {Q : L2.St → Hp → Prop} (q : Q (x0 :: x1 :: x2 :: x3 :: x4 :: x5 :: x6 :: x7 :: x8 :: x9 :: x10 :: x11 :: x12 :: x13 :: x14 :: x15 :: x16 :: some v :: r) H) : gName 17 v (x0 :: x1 :: x2 :: x3 :: x4 :: x5 :: x6 :: x7 :: x8 :: x9 :: x10 :: x11 :: x12 :: x13 :: x14 :: x15 :: x16 :: y :: r) H Q := q
theorem w_v18 {x0 x1 x2 x3 x4 x5 x6 x7 x8 x9 x10 x11 x12 x13 x14 x15 x16 x17 : Option V} {v : V} {r : L2.St} (q : Q v H) : tVar 18 (x0 :: x1 :: x2 :: x3 :: x4 :: x5 :: x6 :: x7 :: x8 :: x9 :: x10 :: x11 :: x12 :: x13 :: x14 :: x15 :: x16 :: x17 :: some v :: r) H Q := ⟨v, rfl, q⟩
theorem w_n18 {x0 x1 x2 x3 x4 x5 x6 x7 x8 x9 x10 x11 x12 x13 x14 x15 x16 x17 : Option V} {y : Option V} {v : V} {r : L2.St} {Q : L2.St → Hp → Prop} (q : Q (x0 :: x1 :: x2 :: x3 :: x4 :: x5 :: x6 :: x7 :: x8 :: x9 :: x10 :: x11 :: x12 :: x13 :: x14 :: x15 :: x16 :: x17 :: some v :: r) H) : gName 18 v (x0 :: x1 :: x2 :: x3 :: x4 :: x5 :: x6 :: x7 :: x8 :: x9 :: x10 :: x11 :: x12 :: x13 :: x14 :: x15 :: x16 :: x17 :: y :: r) H Q := q
theorem w_v19 {x0 x1 x2 x3 x4 x5 x6 x7 x8 x9 x10 x11 x12 x13 x14 x15 x16 x17 x18 : Option V} {v : V} {r : L2.St} (q : Q v H) : tVar 19 (x0 :: x1 :: x2 :: x3 :: x4 :: x5 :: x6 :: x7 :: x8 :: x9 :: x10 :: x11 :: x12 :: x13 :: x14 :: x15 :: x16 :: x17 :: x18 :: some v :: r) H Q := ⟨v, rfl, q⟩
theorem w_n19 {x0 x1 x2 x3 x4 x5 x6 x7 x8 x9 x10 x11 x12 x13 x14 x15 x16 x17 x18 : Option V} {y : Option V} {v : V} {r : L2.St} {Q : L2.St → Hp → Prop} (q : Q (x0 :: x1 :: x2 :: x3 :: x4 :: x5 :: x6 :: x7 :: x8 :: x9 :: x10 :: x11 :: x12 :: x13 :: x14 :: x15 :: x16 :: x17 :: x18 :: some v :: r) H) : gName 19 v (x0 :: x1 :: x2 :: x3 :: x4 :: x5 :: x6 :: x7 :: x8 :: x9 :: x10 :: x11 :: x12 :: x13 :: x14 :: x15 :: x16 :: x17 :: x18 :: y :: r) H Q := q
theorem w_op (q : ta σ H fun x H1 => tb σ H1 fun y H2 => r x y H2 Q) : tOp r ta tb σ H Q := q
theorem w_un {r : V → Hp → VK → Prop} (q : ta σ H fun x H1 => r x H1 Q) : tUn r ta σ H Q := q
theorem w_chain {r' : R2} (q : ta σ H fun x H1 => tb σ H1 fun y H2 => r x y H2 fun z H3 => ∃ k, z = .bl k ∧ (if k = true then tc σ H3 fun w' H4 => r' y w' H4 Q else Q (.bl false) H3)) : tChain r r' ta tb tc σ H Q := q
theorem w_I {CC : Int → Int → Prop} {g : Int → Int → V} {i j : Int} (c : CC i j) (q : Q (g i j) H) : rI CC g (.int i) (.int j) H Q := ⟨i, j, rfl, rfl, c, q⟩
theorem w_I0 {g : Int → Int → V} {i j : Int} (q : Q (g i j) H) : rI0 g (.int i) (.int j) H Q := ⟨i, j, rfl, rfl, q⟩
theorem w_U {g : Int → V} {i : Int} (q : Q (g i) H) : rU g (.int i) H Q := ⟨i, rfl, q⟩
theorem w_eqI {i j : Int} (q : Q (.bl (decide (i = j))) H) : rEq (.int i) (.int j) H Q := by
  refine ⟨rfl, ?_⟩
  have e : decide (V.int i = V.int j) = decide (i = j) := by
    by_cases h : i = j
    · rw [h]; simp
    · rw [decide_eq_false h, decide_eq_false (fun z => h (V.int.inj z))]
  rw [e]; exact q
theorem w_neI {i j : Int} (q : Q (.bl (!decide (i = j))) H) : rNe (.int i) (.int j) H Q := by
  refine ⟨rfl, ?_⟩
  have e : decide (V.int i = V.int j) = decide (i = j) := by
    by_cases h : i = j
    · rw [h]; simp
    · rw [decide_eq_false h, decide_eq_false (fun z => h (V.int.inj z))]
  rw [e]; exact q
theorem w_eqB {i j : Bool} (q : Q (.bl (decide (i = j))) H) : rEq (.bl i) (.bl j) H Q := by
  refine ⟨rfl, ?_⟩
  have e : decide (V.bl i = V.bl j) = decide (i = j) := by
    by_cases h : i = j
    · rw [h]; simp
    · rw [decide_eq_false h, decide_eq_false (fun z => h (V.bl.inj z))]
  rw [e]; exact q
theorem w_neB {i j : Bool} (q : Q (.bl (!decide (i = j))) H) : rNe (.bl i) (.bl j) H Q := by
  refine ⟨rfl, ?_⟩
  have e : decide (V.bl i = V.bl j) = decide (i = j) := by
    by_cases h : i = j
    · rw [h]; simp
    · rw [decide_eq_false h, decide_eq_false (fun z => h (V.bl.inj z))]
  rw [e]; exact q
theorem w_eqS {i j : Str} (q : Q (.bl (decide (i = j))) H) : rEq (.str i) (.str j) H Q := by
  refine ⟨rfl, ?_⟩
  have e : decide (V.str i = V.str j) = decide (i = j) := by
    by_cases h : i = j
    · rw [h]; simp
    · rw [decide_eq_false h, decide_eq_false (fun z => h (V.str.inj z))]
  rw [e]; exact q
theorem w_test {Q : Bool → Hp → Prop} (q : te σ H fun x H' => ∃ k, x = .bl k ∧ Q k H') : tTest te σ H Q := q
theorem w_B {Q : Bool → Hp → Prop} (q : te σ H fun x H' => ∃ k, x = .bl k ∧ Q k H') : tB te σ H Q := q
theorem w_exb {b : Bool} {P : Bool → Prop} (q : P b) : ∃ k, V.bl b = .bl k ∧ P k := ⟨b, rfl, q⟩
theorem w_exi {i : Int} {P : Int → Prop} (q : P i) : ∃ k, V.int i = .int k ∧ P k := ⟨i, rfl, q⟩
theorem w_exr {a : Addr} {P : Addr → Prop} (q : P a) : ∃ k, V.ref a = .ref k ∧ P k := ⟨a, rfl, q⟩
theorem w_and {Q : Bool → Hp → Prop} (q : tt σ H fun c H1 => if c = true then tu σ H1 Q else Q false H1) : tAnd tt tu σ H Q := q
theorem w_or {Q : Bool → Hp → Prop} (q : tt σ H fun c H1 => if c = true then Q true H1 else tu σ H1 Q) : tOr tt tu σ H Q := q
theorem w_not {Q : Bool → Hp → Prop} (q : tt σ H fun c H1 => Q (!c) H1) : tNot tt σ H Q := q
theorem w_andV (q : ta σ H fun x H1 => ∃ c, x = .bl c ∧ if c = true then tb σ H1 Q else Q (.bl false) H1) : tAndV ta tb σ H Q := q
theorem w_orV (q : ta σ H fun x H1 => ∃ c, x = .bl c ∧ if c = true then Q (.bl true) H1 else tb σ H1 Q) : tOrV ta tb σ H Q := q
theorem w_notV (q : ta σ H fun x H1 => ∃ c, x = .bl c ∧ Q (.bl (!c)) H1) : tNotV ta σ H Q := q
/-- what evaluates to one value, whatever follows -/
theorem w_val (v : V) (hE : ∀ Q : VK, Q v H → te σ H Q) (q : Q v H) : te σ H Q := hE Q q
theorem w_if (q : tt σ H fun c H1 => if c = true then ta σ H1 Q else tb σ H1 Q) : tIf tt ta tb σ H Q := q
theorem w_nil {Q : List V → Hp → Prop} (q : Q [] H) : tNil σ H Q := q
theorem w_cons {tr : TA} {Q : List V → Hp → Prop} (q : ta σ H fun x H1 => tr σ H1 fun xs H2 => Q (x :: xs) H2) : tCons ta tr σ H Q := q
theorem w_call {sp : Sp} {E : XK} {t : TA} (q : t σ H fun vs H1 => sp (vs ++ []) H1 Q E) : tCall sp [] E t σ H Q := q
theorem w_callK {sp : Sp} {gV : List V → List V → List V} {E : XK} {t tk : TA} (q : t σ H fun vs H1 => tk σ H1 fun zs H2 => sp (gV vs zs) H2 Q E) : tCallK sp gV E t tk σ H Q := q
theorem w_make {sp : Sp} {E : XK} {t : TA} (q : t σ H fun vs H1 => ∀ x dx, H1 x = none → H1 dx = none → dx ≠ x → sp (.ref x :: (vs ++ [])) (upd (upd H1 dx (.own x)) x (.ins C dx [])) (fun v H2 => v = .non ∧ Q (.ref x) H2) E) : tMake C sp [] E t σ H Q := q
theorem w_cb {r : List V → Hp → VK → Prop} {t : TA} (q : t σ H fun vs H1 => r vs H1 Q) : tCB r t σ H Q := q
theorem w_int {i : Int} (q : Q (.int i) H) : rIntC [.int i] H Q := .inl ⟨i, rfl, q⟩
theorem w_intB {i : Bool} (q : Q (.int (if i then 1 else 0)) H) : rIntC [.bl i] H Q := .inr ⟨i, rfl, q⟩
theorem w_abs {i : Int} (q : Q (.int (if i < 0 then -i else i)) H) : rAbsC [.int i] H Q := ⟨i, rfl, q⟩
theorem w_bits {to : TE} (q : to σ H fun x H1 => ∃ i, x = .int i ∧ Q (.int (Builtin.Int.intBits i : Nat)) H1) : tBits to σ H Q := q
theorem w_ixL {p : Addr} {xs : List V} {i : Int} {v : V} (h : H p = some (.lst xs)) (e : atI xs i = some v) (q : Q v H) : rIxL K (.ref p) (.int i) H Q := ⟨p, xs, i, v, rfl, rfl, SqL.of h, e, q⟩
theorem w_ixT {p : Addr} {xs : List V} {i : Int} {v : V} (h : H p = some (.tup xs)) (e : atI xs i = some v) (q : Q v H) : rIxT K (.ref p) (.int i) H Q := ⟨p, xs, i, v, rfl, rfl, SqT.of h, e, q⟩
theorem w_setL {p : Addr} {xs : List V} {i : Int} {v : V} {j : Nat} {Q : Hp → Prop} (h : H p = some (.lst xs)) (e : ixN xs.length i = some j) (q : Q (upd H p (.lst (xs.set j v)))) : rSetL (.ref p) (.int i) v H Q := ⟨p, xs, i, j, rfl, rfl, h, e, q⟩
theorem w_sl {r : V → Option Int → Option Int → Hp → VK → Prop} {tl th : TO} (q : te σ H fun x H1 => tl σ H1 fun l H2 => th σ H2 fun u H3 => r x l u H3 Q) : L2.tSl r te tl th σ H Q := q
theorem w_part {Q : Option Int → Hp → Prop} (q : te σ H fun x H1 => ∃ i, x = .int i ∧ Q (some i) H1) : tPart te σ H Q := q
theorem w_nopart {Q : Option Int → Hp → Prop} (q : Q none H) : tNoPart σ H Q := q
theorem w_slL {a : Addr} {xs : List V} {lo hi : Option Int} (h : SqL K H a xs) (q : ∀ p, H p = none → Q (.ref p) (upd H p (.lst (cutV xs lo hi)))) : rSlL K (.ref a) lo hi H Q := ⟨a, xs, rfl, h, q⟩
theorem w_lst {t : TA} (q : t σ H fun xs H1 => xs.length ≤ sizeLine ∧ ∀ p, H1 p = none → Q (.ref p) (upd H1 p (.lst xs))) : tLst t σ H Q := q
theorem w_tup {t : TA} (q : t σ H fun xs H1 => xs.length ≤ sizeLine ∧ ∀ p, H1 p = none → Q (.ref p) (upd H1 p (.tup xs))) : tTup t σ H Q := q
theorem w_cat {l b : Addr} {xs zs : List V} (h1 : H l = some (.lst xs)) (h2 : H b = some (.lst zs)) (n : xs.length + zs.length ≤ sizeLine) (q : ∀ p, H p = none → Q (.ref p) (upd H p (.lst (xs ++ zs)))) : rCat (.ref l) (.ref b) H Q := ⟨l, b, xs, zs, rfl, rfl, h1, h2, n, q⟩
theorem w_dnewK (q : ∀ d, H d = none → Q (.ref d) (upd H d (.dK []))) : tDNewK σ H Q := q
theorem w_eqNil {p q : Addr} (hp : H p = some (.lst [])) (hq : H q = some (.lst [])) (k : Q (.bl true) H) : rEqD K (.ref p) (.ref q) H Q := ⟨.list [], .list [], .lst (SqL.of hp) .nil, .lst (SqL.of hq) .nil, by decide, by decide, k⟩
theorem w_wipe1 {g : TG} {v : V} {vs : List Nat} {σ' : L2.St} {Q : L2.St → Hp → Prop} (e : wipe σ vs = σ') (q : g v σ' H Q) : g v (wipe σ vs) H Q := by rw [e]; exact q
-- statements
theorem w_next (q : D.nx σ H) : tNext D σ H := q
theorem w_seq {t u : TS} (q : t { D with nx := u D } σ H) : tSeq t u D σ H := q
theorem w_drop (q : te σ H fun _ H1 => D.nx σ H1) : tDrop te D σ H := q
theorem w_ret (q : te σ H D.rt) : tRet te D σ H := q
theorem w_retN (q : D.rt .non H) : tRetN D σ H := q
theorem w_ifS {t u : TS} (q : tt σ H fun b H1 => if b = true then t D σ H1 else u D σ H1) : tIfS tt t u D σ H := q
theorem w_asg {g : TG} (q : te σ H fun x H1 => g x σ H1 D.nx) : tAsg te g D σ H := q
theorem w_name {i : Nat} {v : V} {Q : L2.St → Hp → Prop} (q : Q (σ.set i (some v)) H) : gName i v σ H Q := q
theorem w_gnil {Q : L2.St → Hp → Prop} (q : Q σ H) : gNil [] σ H Q := ⟨rfl, q⟩
theorem w_gcons {t : TG} {u : TGs} {v : V} {r : List V} {Q : L2.St → Hp → Prop} (q : t v σ H fun σ' H' => u r σ' H' Q) : gCons t u (v :: r) σ H Q := ⟨v, r, rfl, q⟩
theorem w_gtup {n : Nat} {t : TGs} {a : Addr} {xs : List V} {Q : L2.St → Hp → Prop} (h : H a = some (.tup xs)) (l : xs.length = n) (q : t xs σ H Q) : gTup K n t (.ref a) σ H Q := ⟨a, xs, rfl, SqT.of h, l, q⟩
theorem w_gsub {to ti : TE} {t : TSet} {v : V} {Q : L2.St → Hp → Prop} (q : to σ H fun o H1 => ti σ H1 fun i H2 => t o i v H2 fun H3 => Q σ H3) : gSub to ti t v σ H Q := q
/-- what a for asks of the thing walked -/
def ForW (g : TG) (tb : TS) (D : Ends) (σ : L2.St) (H1 : Hp) (J : It) : Prop := ∃ W : Nat → Nat → L2.St → Hp → Prop, (∃ m, W 0 m σ H1) ∧ ∀ i m σ H, W i m σ H →
    (J.stop i H ∧ D.nx σ H) ∨ (J.go i H ∧ ∃ N : L2.St → Hp → Prop, (∀ σ' H', N σ' H' → ∃ m', m' < m ∧ W (i + 1) m' σ' H') ∧ ∀ x H', J.yld i H x H' → g x σ H' fun σ2 H2 => tb { D with nx := N, ct := N, bk := D.nx } σ2 H2)
theorem w_for {wi : TI} {g : TG} {tb : TS} (q : wi σ H fun J H1 => ForW g tb D σ H1 J) : tFor wi g tb D σ H := q
def LcW (g : TG) (tt : TT) (te : TE) (vs : List Nat) (σ : L2.St) (Q : VK) (H1 : Hp) (J : It) : Prop := ∀ D, H1 D = none → ∃ W : Nat → Nat → Hp → Prop, (∃ m, W 0 m (upd H1 D (.lst []))) ∧ ∀ i m H, W i m H →
  (J.stop i H ∧ Q (.ref D) H) ∨ (J.go i H ∧ ∃ Nx : Hp → Prop, (∀ H', Nx H' → ∃ m', m' < m ∧ W (i + 1) m' H') ∧ ∀ x H', J.yld i H x H' → g x (wipe σ vs) H' fun σ2 H2 => wipe σ2 vs = wipe σ vs ∧ tt σ2 H2 fun b H3 =>
    if b = true then te σ2 H3 fun y H4 => ∃ acc, H4 D = some (.lst acc) ∧ acc.length < sizeLine ∧ Nx (upd H4 D (.lst (acc ++ [y]))) else Nx H3)
theorem w_lc {wi : TI} {g : TG} {vs : List Nat} (q : wi σ H fun J H1 => LcW g tt te vs σ Q H1 J) : tLc wi g tt te vs σ H Q := q
theorem w_yes {Q : Bool → Hp → Prop} (q : Q true H) : tYes σ H Q := q
theorem w_iList {tl : TE} {R : It → Hp → Prop} (q : tl σ H fun x H1 => ∃ a, x = .ref a ∧ (∃ xs, SqL K H1 a xs) ∧ R (Itl K a) H1) : iList K tl σ H R := q
theorem w_fld {f : Str} (q : ta σ H fun x H1 => ∃ a C dx fs v, x = .ref a ∧ H1 a = some (.ins C dx fs) ∧ Cls K C ∧ NoAttr K C f ∧ fs.lookup f = some v ∧ Q v H1) : tFld K ta f σ H Q := q
theorem w_sfld {tv : TE} {f : Str} (q : tv σ H fun y H1 => ta σ H1 fun x H2 => ∃ a C dx fs, x = .ref a ∧ H2 a = some (.ins C dx fs) ∧ Cls K C ∧ NoAttr K C f ∧ fs.length < 1000 ∧ D.nx σ (upd H2 a (.ins C dx (putF f y fs)))) : sFld K ta tv f D σ H := q
theorem w_len {p : Addr} {ys : List V} (h : H p = some (.lst ys)) (q : Q (.int (ys.length : Int)) H) : rLenS K [.ref p] H Q := ⟨p, ys, rfl, .inl (SqL.of h), q⟩
theorem w_all {p : Addr} {bs : List Bool} (h : H p = some (.lst (bs.map V.bl))) (q : Q (.bl (bs.all id)) H) : rAll K [.ref p] H Q := ⟨p, bs, rfl, SqL.of h, q⟩
theorem w_iRng1 {ta : TA} {R : It → Hp → Prop} (q : ta σ H fun vs H1 => ∃ j : Int, vs = [.int j] ∧ -(2 ^ 62) ≤ j ∧ j < 2 ^ 62 ∧ R (Itr 0 j.toNat) H1) : iRng1 ta σ H R := q
-- tests
theorem w_dec {P A B : Prop} [Decidable P] (h1 : P → A) (h2 : ¬ P → B) : if decide P = true then A else B := by
  by_cases h : P
  · rw [decide_eq_true h, if_pos rfl]; exact h1 h
  · rw [decide_eq_false h, if_neg Bool.false_ne_true]; exact h2 h
theorem w_ndec {P A B : Prop} [Decidable P] (h1 : ¬ P → A) (h2 : P → B) : if (!decide P) = true then A else B := by
  by_cases h : P
  · rw [decide_eq_true h]; exact iteF (h2 h)
  · rw [decide_eq_false h]; exact iteT (h1 h)
theorem w_decT {P A B : Prop} [Decidable P] (h : P) (q : A) : if decide P = true then A else B := by rw [decide_eq_true h, if_pos rfl]; exact q
theorem w_decF {P A B : Prop} [Decidable P] (h : ¬ P) (q : B) : if decide P = true then A else B := by rw [decide_eq_false h, if_neg Bool.false_ne_true]; exact q
theorem w_ndecT {P A B : Prop} [Decidable P] (h : P) (q : B) : if (!decide P) = true then A else B := by rw [decide_eq_true h]; exact iteF q
theorem w_ndecF {P A B : Prop} [Decidable P] (h : ¬ P) (q : A) : if (!decide P) = true then A else B := by rw [decide_eq_false h]; exact iteT q
theorem w_bT {b : Bool} {A B : Prop} (h : b = true) (q : A) : if b = true then A else B := by rw [if_pos h]; exact q
theorem w_bF {b : Bool} {A B : Prop} (h : b = false) (q : B) : if b = true then A else B := by rw [h]; exact iteF q
end

theorem map_get {α : Type} {f : α → V} {l : List α} {i : Nat} {x : V} (h : (l.map f)[i]? = some x) : ∃ z, l[i]? = some z ∧ x = f z := by
  rw [List.getElem?_map] at h
  cases e : l[i]? with
  | none => rw [e] at h; cases h
  | some z => rw [e] at h; exact ⟨z, rfl, (Option.some.inj h).symm⟩
theorem get_lt {α : Type} {l : List α} {i : Nat} {x : α} (h : l[i]? = some x) : i < l.length := (List.getElem?_eq_some_iff.mp h).1
theorem tk_more {α : Type} {l : List α} {i : Nat} {x : α} (h : l[i]? = some x) : l.take (i + 1) = l.take i ++ [x] := by
  rw [List.take_add_one, h]; rfl
/-- a new object leaves the others -/
theorem gn {H : Hp} {l q : Addr} {o u : HO} (h : H l = some o) (hn : H q = none) : (L2.upd H q u) l = some o := by
  rw [upd_ne (ne_of_none h hn)]; exact h
theorem cut_map {α : Type} (f : α → V) (ns : List α) (lo hi : Option Int) : ∃ ms : List α, cutV (ns.map f) lo hi = ms.map f ∧ ms.length ≤ ns.length ∧ ∀ m ∈ ms, m ∈ ns := by
  refine ⟨(ns.drop (HT.sIx (ns.map f).length 0 lo)).take (HT.sIx (ns.map f).length (ns.map f).length hi - HT.sIx (ns.map f).length 0 lo), ?_, ?_, fun m hm => List.mem_of_mem_drop (List.mem_of_mem_take hm)⟩
  · unfold cutV; rw [← List.map_drop, ← List.map_take]
  · rw [List.length_take, List.length_drop]; omega
theorem cut_take {α : Type} (f : α → V) (ns : List α) (n : Nat) : cutV (ns.map f) none (some (n : Int)) = (ns.take n).map f := by
  unfold cutV
  rw [HT.sIx_none, HT.sIx_nat, List.drop_zero, Nat.sub_zero, List.length_map, ← List.map_take]
  congr 1
  by_cases h : n ≤ ns.length
  · rw [Nat.min_eq_left h]
  · rw [Nat.min_eq_right (by omega), List.take_length, List.take_of_length_le (by omega)]
theorem sm_mut {H H' : Hp} {D : Addr} {o : HO} (a : Same H H') (h : H D = none) : Same H (L2.upd H' D o) := fun q u e => by
  rw [upd_ne (ne_of_none e h)]; exact a q u e
theorem cpow {j n : Nat} (h : j ≤ 1000000) (e : (n : Int).natAbs < 2 ^ 64) : CPow (n : Int) (j : Int) := ⟨Int.natCast_nonneg _, by omega, e⟩

/-! match over texts -/
structure PMs (X : Cx) (cs : List MatchCase) (t : V → TS) : Prop where
  run : ∀ (pins : List (Addr × Obj)) (s : Shared) (σ : L2.St) (H : Hp) (D : Ends) (v : V) (u : Value) (first : Bool), Inv X pins σ H s → RelV v u → t v D σ H →
    wpAny (model X.prog X.w) X.A (matchCases cs X.env u first) (SP X pins D) X.xe s
def tCaseS (x : Str) (tb : TS) (tr : V → TS) : V → TS := fun v D σ H => ∃ z, v = .str z ∧ if decide (z = x) = true then tb D σ H else tr v D σ H
def tCaseA (tb : TS) : V → TS := fun _ => tb
def tMatch (te : TE) (t : V → TS) : TS := fun D σ H => te σ H fun v H1 => t v D σ H1
section
variable {X : Cx} {body : List Stmt} {rest : List MatchCase} {tb : TS} {tr : V → TS}
theorem pm_nil : PMs X [] (fun _ => tNext) := ⟨fun pins s σ H D v u first I r q => wpAny_matchCases_nil ⟨σ, H, I, q⟩⟩
theorem pm_any {p : Pos} (hb : PSs X body tb) : PMs X (⟨.MatchAs none none p, none, body⟩ :: rest) (tCaseA tb) := by
  refine ⟨fun pins s σ H D v u first I r q => ?_⟩
  refine wpAny_matchCases_cons (wpAny_matchPattern_Capture ?_)
  exact wpAny_assignInOrder_none (hb.run pins s σ H D I q)
theorem pm_str {x : Str} {j : Nat} {p p2 : Pos} (hb : PSs X body tb) (hr : PMs X rest tr) : PMs X (⟨.MatchValue (.Constant (.str x) j p) p2, none, body⟩ :: rest) (tCaseS x tb tr) := by
  refine ⟨fun pins s σ H D v u first I r q => ?_⟩
  obtain ⟨z, rfl, q⟩ := q
  refine wpAny_matchCases_cons (wpAny_matchPattern_Value ?_)
  refine thn ((pe_str (X := X) (x := x) (j := j) (pos := p)).run pins s σ H (fun y H1 => y = .str x ∧ H1 = H) I ⟨rfl, rfl⟩) fun w s1 ⟨y, H1, I1, r1, e1, e2⟩ => ?_
  subst e1 e2
  refine thn (op_eq (X := X) pins s1 σ H1 (.str z) (.str x) u w (fun y H2 => y = .bl (decide (V.str z = V.str x)) ∧ H2 = H1) I1 r r1 ⟨rfl, rfl, rfl⟩) fun c s2 ⟨y, H2, I2, r2, e1, e2⟩ => ?_
  subst e1 e2
  cases r2
  refine wpAny_truthy_bool ?_
  have e : decide (V.str z = V.str x) = decide (z = x) := by
    by_cases h : z = x
    · rw [h]; simp
    · rw [decide_eq_false h, decide_eq_false (fun k => h (V.str.inj k))]
  rw [e]
  by_cases h : z = x
  · rw [decide_eq_true h, if_pos rfl] at q
    rw [decide_eq_true h]
    exact wpAny_assignInOrder_none (hb.run pins s2 σ H2 D I2 q)
  · rw [decide_eq_false h, if_neg Bool.false_ne_true] at q
    rw [decide_eq_false h]
    exact hr.run pins s2 σ H2 D _ u false I2 r q
theorem ps_match {e : Expr} {te : TE} {cs : List MatchCase} {t : V → TS} {pos : Pos} (he : PE X e te) (hc : PMs X cs t) : PS X (.Match e cs pos) (tMatch te t) := by
  refine ⟨fun pins s σ H D I h => wpAny_Match (thn (he.run pins s σ H _ I h) fun u s1 ⟨v, H1, I1, r1, q1⟩ => ?_)⟩
  exact hc.run pins s1 σ H1 D v u true I1 r1 q1
end
section
variable {σ : L2.St} {H : Hp} {D : Ends} {te : TE} {tb : TS} {tr : V → TS}
theorem w_match {t : V → TS} (q : te σ H fun v H1 => t v D σ H1) : tMatch te t D σ H := q
theorem w_caseA {v : V} (q : tb D σ H) : tCaseA tb v D σ H := q
theorem w_caseS {x z : Str} (q : if decide (z = x) = true then tb D σ H else tr (.str z) D σ H) : tCaseS x tb tr (.str z) D σ H := ⟨z, rfl, q⟩
theorem w_caseT {x : Str} (q : tb D σ H) : tCaseS x tb tr (.str x) D σ H := ⟨x, rfl, by rw [decide_eq_true rfl, if_pos rfl]; exact q⟩
theorem w_caseF {x z : Str} (h : z ≠ x) (q : tr (.str z) D σ H) : tCaseS x tb tr (.str z) D σ H := ⟨z, rfl, by rw [decide_eq_false h, if_neg Bool.false_ne_true]; exact q⟩
end
end Fw
local macro_rules | `(tactic| walk_at "rd") => `(tactic| repeat (first
  | (with_reducible show L2.tVar _ _ _ _; first | with_reducible refine Fw.w_v0 ?_ | with_reducible refine Fw.w_v1 ?_ | with_reducible refine Fw.w_v2 ?_ | with_reducible refine Fw.w_v3 ?_ | with_reducible refine Fw.w_v4 ?_ | with_reducible refine Fw.w_v5 ?_ | with_reducible refine Fw.w_v6 ?_ | with_reducible refine Fw.w_v7 ?_ | with_reducible refine Fw.w_v8 ?_ | with_reducible refine Fw.w_v9 ?_ | with_reducible refine Fw.w_v10 ?_ | with_reducible refine Fw.w_v11 ?_ | with_reducible refine Fw.w_v12 ?_ | with_reducible refine Fw.w_v13 ?_ | with_reducible refine Fw.w_v14 ?_ | with_reducible refine Fw.w_v15 ?_ | with_reducible refine Fw.w_v16 ?_ | with_reducible refine Fw.w_v17 ?_ | with_reducible refine Fw.w_v18 ?_ | with_reducible refine Fw.w_v19 ?_ | with_reducible refine Fw.w_var (by with_unfolding_all exact rfl) ?_)
  | with_reducible refine Fw.w_cons ?_
  | with_reducible refine Fw.w_c ?_
  | with_reducible refine Fw.w_op ?_
  | with_reducible refine Fw.w_nil ?_
  | with_reducible refine Fw.w_I0 ?_
  | with_reducible refine Fw.w_seq ?_
  | with_reducible refine Fw.w_asg ?_
  | (with_reducible show L2.gName _ _ (L2.wipe _ _) _ _; dsimp only [L2.wipe, List.set, List.map])
  | (with_reducible show L2.gTup _ _ _ _ (L2.wipe _ _) _ _; dsimp only [L2.wipe, List.set, List.map])
  | (with_reducible show L2.gName _ _ _ _ _; first | with_reducible refine Fw.w_n0 ?_ | with_reducible refine Fw.w_n1 ?_ | with_reducible refine Fw.w_n2 ?_ | with_reducible refine Fw.w_n3 ?_ | with_reducible refine Fw.w_n4 ?_ | with_reducible refine Fw.w_n5 ?_ | with_reducible refine Fw.w_n6 ?_ | with_reducible refine Fw.w_n7 ?_ | with_reducible refine Fw.w_n8 ?_ | with_reducible refine Fw.w_n9 ?_ | with_reducible refine Fw.w_n10 ?_ | with_reducible refine Fw.w_n11 ?_ | with_reducible refine Fw.w_n12 ?_ | with_reducible refine Fw.w_n13 ?_ | with_reducible refine Fw.w_n14 ?_ | with_reducible refine Fw.w_n15 ?_ | with_reducible refine Fw.w_n16 ?_ | with_reducible refine Fw.w_n17 ?_ | with_reducible refine Fw.w_n18 ?_ | with_reducible refine Fw.w_n19 ?_ | with_reducible refine Fw.w_name ?_)
  | with_reducible refine Fw.w_call ?_
  | with_reducible refine Fw.w_exb ?_
  | with_reducible refine Fw.w_test ?_
  | (with_reducible show L2.rI _ _ _ _ _ _; with_reducible refine Fw.w_I (by with_unfolding_all first | exact Or.inl ⟨by decide, by decide⟩ | exact Or.inr ⟨by decide, by decide⟩ | exact ⟨by decide, by decide⟩ | exact ⟨by decide, by decide, by decide⟩ | (show (0 : Int) < _; decide)) ?_)
  | with_reducible refine Fw.w_neI ?_
  | with_reducible refine Fw.w_ifS ?_
  | with_reducible refine Fw.w_next ?_
  | with_reducible refine Fw.w_callK ?_
  | with_reducible refine Fw.w_ret ?_
  | with_reducible refine Fw.w_cb ?_
  | with_reducible refine Fw.w_int ?_
  | (with_reducible show L2.rIxL _ _ _ _ _; with_reducible refine Fw.w_ixL (by first | assumption | exact L2.upd_same) (by with_unfolding_all rfl) ?_)
  | (with_reducible show L2.rIxT _ _ _ _ _; with_reducible refine Fw.w_ixT (by first | assumption | exact L2.upd_same) (by with_unfolding_all rfl) ?_)
  | (with_reducible show L2.rSetL _ _ _ _ _; with_reducible refine Fw.w_setL (by first | assumption | exact L2.upd_same) (by with_unfolding_all rfl) ?_)
  | (with_reducible show L2.gTup _ _ _ _ _ _ _; with_reducible refine Fw.w_gtup (by first | assumption | exact L2.upd_same) rfl ?_)
  | with_reducible refine Fw.w_U ?_
  | with_reducible refine Fw.w_un ?_
  | with_reducible refine Fw.w_eqI ?_
  | with_reducible refine Fw.w_eqB ?_
  | with_reducible refine Fw.w_neB ?_
  | with_reducible refine Fw.w_eqS ?_
  | with_reducible refine Fw.w_exi ?_
  | with_reducible refine Fw.w_exr ?_
  | with_reducible refine Fw.w_B ?_
  | with_reducible refine Fw.w_and ?_
  | with_reducible refine Fw.w_or ?_
  | with_reducible refine Fw.w_not ?_
  | with_reducible refine Fw.w_andV ?_
  | with_reducible refine Fw.w_orV ?_
  | with_reducible refine Fw.w_notV ?_
  | with_reducible refine Fw.w_make ?_
  | with_reducible refine Fw.w_intB ?_
  | with_reducible refine Fw.w_abs ?_
  | with_reducible refine Fw.w_bits ?_
  | with_reducible refine Fw.w_sl ?_
  | with_reducible refine Fw.w_part ?_
  | with_reducible refine Fw.w_nopart ?_
  | with_reducible refine Fw.w_lst ?_
  | with_reducible refine Fw.w_tup ?_
  | with_reducible refine Fw.w_dnewK ?_
  | with_reducible refine Fw.w_drop ?_
  | with_reducible refine Fw.w_retN ?_
  | with_reducible refine Fw.w_gnil ?_
  | with_reducible refine Fw.w_gcons ?_
  | with_reducible refine Fw.w_gsub ?_
  | with_reducible refine Fw.w_for ?_
  | with_reducible refine Fw.w_lc ?_
  | with_reducible refine Fw.w_yes ?_
  | with_reducible refine Fw.w_iList ?_
  | with_reducible refine Fw.w_iRng1 ?_
  | with_reducible refine Fw.w_sfld ?_))
namespace Fw
open PySem L2
def top (i : Nat) : Stmt := PySem.Challenge.pw_farwrap_k01_kinds_and_casts.main.body.getD i (.Pass ⟨0, 0, 0, 0⟩)
abbrev s_is_integer : Stmt := top 6
abbrev s_check_integer : Stmt := top 7
abbrev s_Kind___init__ : Stmt := inClass (top 11) 0
abbrev s_check_kind : Stmt := top 12
abbrev s_check_row : Stmt := top 13
abbrev s_least : Stmt := top 14
abbrev s_greatest : Stmt := top 15
abbrev s_is_value : Stmt := top 16
abbrev s_wrapped : Stmt := top 17
abbrev s_cast : Stmt := top 18
abbrev s__law_source_of : Stmt := top 20
abbrev s__law_next : Stmt := top 21
abbrev s__law_one : Stmt := top 22
abbrev s__law_cell_at : Stmt := top 23
abbrev s__law_power : Stmt := top 24
abbrev s__law_wide : Stmt := top 25
abbrev s__law_placed : Stmt := top 26
abbrev s__law_integers : Stmt := top 27
abbrev s__law_right : Stmt := top 28
abbrev s_law : Stmt := top 29
theorem sc_is_integer : FnScope ["value"] ["value"] (defScope s_is_integer) := ⟨rfl, rfl, rfl, by decide +kernel, rfl, by decide +kernel, by decide +kernel⟩
theorem sc_check_integer : FnScope ["value", "argument"] ["value", "argument"] (defScope s_check_integer) := ⟨rfl, rfl, rfl, by decide +kernel, rfl, by decide +kernel, by decide +kernel⟩
theorem sc_Kind___init__ : FnScope ["self", "bits", "is_signed"] ["self", "bits", "is_signed"] (defScope s_Kind___init__) := ⟨rfl, rfl, rfl, by decide +kernel, rfl, by decide +kernel, by decide +kernel⟩
theorem sc_check_kind : FnScope ["kind"] ["kind"] (defScope s_check_kind) := ⟨rfl, rfl, rfl, by decide +kernel, rfl, by decide +kernel, by decide +kernel⟩
theorem sc_check_row : FnScope ["kinds", "argument", "kind"] ["kinds", "argument"] (defScope s_check_row) := ⟨rfl, rfl, rfl, by decide +kernel, rfl, by decide +kernel, by decide +kernel⟩
theorem sc_least : FnScope ["kind"] ["kind"] (defScope s_least) := ⟨rfl, rfl, rfl, by decide +kernel, rfl, by decide +kernel, by decide +kernel⟩
theorem sc_greatest : FnScope ["kind"] ["kind"] (defScope s_greatest) := ⟨rfl, rfl, rfl, by decide +kernel, rfl, by decide +kernel, by decide +kernel⟩
theorem sc_is_value : FnScope ["kind", "x"] ["kind", "x"] (defScope s_is_value) := ⟨rfl, rfl, rfl, by decide +kernel, rfl, by decide +kernel, by decide +kernel⟩
theorem sc_wrapped : FnScope ["kind", "n", "low"] ["kind", "n"] (defScope s_wrapped) := ⟨rfl, rfl, rfl, by decide +kernel, rfl, by decide +kernel, by decide +kernel⟩
theorem sc_cast : FnScope ["kinds", "n", "kind"] ["kinds", "n"] (defScope s_cast) := ⟨rfl, rfl, rfl, by decide +kernel, rfl, by decide +kernel, by decide +kernel⟩
theorem sc__law_source_of : FnScope ["_law_cell"] ["_law_cell"] (defScope s__law_source_of) := ⟨rfl, rfl, rfl, by decide +kernel, rfl, by decide +kernel, by decide +kernel⟩
theorem sc__law_next : FnScope ["_law_source", "_law_many", "_law_found", "_law_prime", "_law_number"] ["_law_source", "_law_many"] (defScope s__law_next) := ⟨rfl, rfl, rfl, by decide +kernel, rfl, by decide +kernel, by decide +kernel⟩
theorem sc__law_one : FnScope ["_law_source", "_law_some"] ["_law_source", "_law_some"] (defScope s__law_one) := ⟨rfl, rfl, rfl, by decide +kernel, rfl, by decide +kernel, by decide +kernel⟩
theorem sc__law_cell_at : FnScope ["_law_script", "_law_index"] ["_law_script", "_law_index"] (defScope s__law_cell_at) := ⟨rfl, rfl, rfl, by decide +kernel, rfl, by decide +kernel, by decide +kernel⟩
theorem sc__law_power : FnScope ["_law_n_here", "_law_found", "_law_k"] ["_law_n_here"] (defScope s__law_power) := ⟨rfl, rfl, rfl, by decide +kernel, rfl, by decide +kernel, by decide +kernel⟩
theorem sc__law_wide : FnScope ["_law_source", "_law_m", "_law_found", "_law_k"] ["_law_source", "_law_m"] (defScope s__law_wide) := ⟨rfl, rfl, rfl, by decide +kernel, rfl, by decide +kernel, by decide +kernel⟩
theorem sc__law_placed : FnScope ["_law_parts", "_law_n_here", "_law_bits", "_law_is_signed", "_law_many", "_law_rest"] ["_law_parts", "_law_n_here"] (defScope s__law_placed) := ⟨rfl, rfl, rfl, by decide +kernel, rfl, by decide +kernel, by decide +kernel⟩
theorem sc__law_integers : FnScope ["_law_source", "_law_bits", "_law_found", "_law_k", "_law_turn"] ["_law_source", "_law_bits"] (defScope s__law_integers) := ⟨rfl, rfl, rfl, by decide +kernel, rfl, by decide +kernel, by decide +kernel⟩
theorem sc__law_right : FnScope ["_law_parts", "_law_some", "_law_bits", "_law_is_signed", "_law_sort_of", "_law_low", "_law_high", "_law_n_here", "_law_due", "_law_odd"] ["_law_parts", "_law_some"] (defScope s__law_right) := ⟨rfl, rfl, rfl, by decide +kernel, rfl, by decide +kernel, by decide +kernel⟩
theorem sc_law : FnScope ["_law_script", "_law_cell", "_law_source", "_law_row", "_law_k", "_law_parts", "_law_some", "_law_many", "_law_kinds_here", "_law_bits", "_law_is_signed", "_law_n_here", "_law_due", "_law_one_here"] ["_law_script"] (defScope s_law) := ⟨rfl, rfl, rfl, by decide +kernel, rfl, by decide +kernel, by decide +kernel⟩

/-- a kind's object -/
def kf (w : Nat) (s : Bool) : List (Str × V) := [("bits", .int (w : Int)), ("is_signed", .bl s)]
structure Kd (C : Addr) (H : Hp) (p : Addr) (w : Nat) (s : Bool) : Prop where
  ex : ∃ dx, H p = some (.ins C dx (kf w s))
  w1 : 1 ≤ w
  w2 : w ≤ 128
theorem kf_bits (w : Nat) (s : Bool) : (kf w s).lookup ("bits" : Str) = some (.int (w : Int)) := by unfold kf; simp [List.lookup]
theorem kf_sign (w : Nat) (s : Bool) : (kf w s).lookup ("is_signed" : Str) = some (.bl s) := by
  have e : (("is_signed" : Str) == ("bits" : Str)) = false := by decide +kernel
  unfold kf; simp [List.lookup, e]
/-- the values of a kind, wrapping -/
def loK (w : Nat) (s : Bool) : Int := if s = true then -(2 ^ (w - 1)) else 0
def hiK (w : Nat) (s : Bool) : Int := loK w s + 2 ^ w - 1
def wr (w : Nat) (s : Bool) (n : Int) : Int := loK w s + (n - loK w s) % 2 ^ w
theorem p2 (w : Nat) : (0 : Int) < 2 ^ w := Int.pow_pos (by decide)
theorem p2s {w : Nat} (h : 1 ≤ w) : (2 : Int) ^ w = 2 * 2 ^ (w - 1) := by
  obtain ⟨k, rfl⟩ : ∃ k, w = k + 1 := ⟨w - 1, by omega⟩
  rw [Nat.add_sub_cancel, Int.pow_succ, Int.mul_comm]
theorem wr_lo (w : Nat) (s : Bool) (n : Int) : loK w s ≤ wr w s n := by
  have := Int.emod_nonneg (n - loK w s) (show (2 : Int) ^ w ≠ 0 from Int.ne_of_gt (p2 w))
  unfold wr; omega
theorem wr_hi (w : Nat) (s : Bool) (n : Int) : wr w s n ≤ hiK w s := by
  have := Int.emod_lt_of_pos (n - loK w s) (p2 w)
  unfold wr hiK; omega
theorem wr_id {w : Nat} {s : Bool} {n : Int} (h1 : loK w s ≤ n) (h2 : n ≤ hiK w s) : wr w s n = n := by
  unfold wr
  rw [Int.emod_eq_of_lt (by omega) (by unfold hiK at h2; omega)]
  omega
/-- what the law takes for the same -/
def pl (w : Nat) (s : Bool) (n : Int) : Int := if s = true ∧ 2 ^ (w - 1) ≤ n % 2 ^ w then n % 2 ^ w - 2 ^ w else n % 2 ^ w
theorem pl_wr {w : Nat} (hw : 1 ≤ w) (s : Bool) (n : Int) : pl w s n = wr w s n := by
  have hp := p2 (w - 1)
  have e := p2s hw
  have h0 := Int.emod_nonneg n (show (2 : Int) ^ w ≠ 0 from Int.ne_of_gt (p2 w))
  have h1 := Int.emod_lt_of_pos n (p2 w)
  cases s with
  | false =>
    have hl : loK w false = 0 := by unfold loK; rw [if_neg Bool.false_ne_true]
    unfold pl wr
    rw [if_neg (by intro z; exact Bool.false_ne_true z.1), hl, Int.sub_zero, Int.zero_add]
  | true =>
    have hl : loK w true = -(2 ^ (w - 1)) := by unfold loK; rw [if_pos rfl]
    unfold pl wr
    rw [hl]
    have ed : n % 2 ^ w = n - 2 ^ w * (n / 2 ^ w) := Int.emod_def n _
    by_cases c : 2 ^ (w - 1) ≤ n % 2 ^ w
    · rw [if_pos ⟨rfl, c⟩]
      have q : (n - -(2 ^ (w - 1))) % 2 ^ w = n % 2 ^ w - 2 ^ (w - 1) := by
        have z : n - -(2 ^ (w - 1)) = (n % 2 ^ w - 2 ^ (w - 1)) + 2 ^ w * (n / 2 ^ w + 1) := by
          rw [Int.mul_add, Int.mul_one]; omega
        rw [z, Int.add_mul_emod_self_left, Int.emod_eq_of_lt (by omega) (by omega)]
      rw [q]; omega
    · rw [if_neg (fun z => c z.2)]
      have q : (n - -(2 ^ (w - 1))) % 2 ^ w = n % 2 ^ w + 2 ^ (w - 1) := by
        have z : n - -(2 ^ (w - 1)) = (n % 2 ^ w + 2 ^ (w - 1)) + 2 ^ w * (n / 2 ^ w) := by omega
        rw [z, Int.add_mul_emod_self_left, Int.emod_eq_of_lt (by omega) (by omega)]
      rw [q]; omega
/-- all but p as it was -/
def Kp (p : Addr) (H H' : Hp) : Prop := ∀ q o, q ≠ p → H q = some o → H' q = some o
theorem Kp.refl (p : Addr) (H : Hp) : Kp p H H := fun _ _ _ h => h
theorem Kp.trans {p : Addr} {H H1 H2 : Hp} (a : Kp p H H1) (b : Kp p H1 H2) : Kp p H H2 := fun q o n h => b q o n (a q o n h)
theorem Kp.upd {p : Addr} {H H1 : Hp} {o : HO} (a : Kp p H H1) : Kp p H (upd H1 p o) := fun q u n h => by rw [upd_ne n]; exact a q u n h
theorem Kp.new {p r : Addr} {H H1 : Hp} {o : HO} (a : Kp p H H1) (h : H1 r = none) : Kp p H (L2.upd H1 r o) := fun q u n e => by
  have z := a q u n e
  rw [upd_ne (ne_of_none z h)]; exact z
theorem Kp.of_same {p : Addr} {H H' : Hp} (a : Same H H') : Kp p H H' := fun q o _ h => a q o h
theorem sm_new {H H1 : Hp} {r : Addr} {o : HO} (a : Same H H1) (h : H1 r = none) : Same H (L2.upd H1 r o) := fun q u e => by
  have z := a q u e
  rw [upd_ne (ne_of_none z h)]; exact z
theorem Kp.free {p r : Addr} {H H' : Hp} (a : Kp p H H') (hr : r ≠ p) (h : H' r = none) : H r = none := by
  cases q : H r with
  | none => rfl
  | some o => rw [a r o hr q] at h; cases h
theorem same_free {H H' : Hp} {r : Addr} (a : Same H H') (h : H' r = none) : H r = none := a.free h
/-- a source of draws -/
def SrcAt (H : Hp) (p : Addr) : Prop := ∃ a b c : Int, H p = some (.lst [.int a, .int b, .int c])
theorem SrcAt.same {H H' : Hp} {p : Addr} (h : SrcAt H p) (s : Same H H') : SrcAt H' p := by
  obtain ⟨a, b, c, e⟩ := h
  exact ⟨a, b, c, s _ _ e⟩
theorem kp_mut {p D : Addr} {H H' : Hp} {o : HO} (a : Kp p H H') (h : H D = none) : Kp p H (L2.upd H' D o) := fun q u n e => by
  rw [upd_ne (ne_of_none e h)]; exact a q u n e
theorem SrcAt.mut {H : Hp} {p D : Addr} {o : HO} (h : SrcAt H p) (n : D ≠ p) : SrcAt (L2.upd H D o) p := by
  obtain ⟨a, b, c, e⟩ := h
  exact ⟨a, b, c, by rw [upd_ne (Ne.symm n)]; exact e⟩
theorem SrcAt.ne {H : Hp} {p q : Addr} (h : SrcAt H p) (n : H q = none) : q ≠ p := by
  obtain ⟨a, b, c, e⟩ := h
  exact (ne_of_none e n).symm
theorem b9 {m : Int} (h : m.natAbs < 2 ^ 200) : m.natAbs < 2 ^ 8999 := Nat.lt_trans h (Nat.pow_lt_pow_right (by decide) (by decide))
theorem SrcAt.new {H : Hp} {p r : Addr} {o : HO} (h : SrcAt H p) (n : H r = none) : SrcAt (L2.upd H r o) p := h.same (sm_new (Same.refl H) n)
theorem Kd.same {C : Addr} {H H' : Hp} {p : Addr} {w : Nat} {s : Bool} (h : Kd C H p w s) (e : Same H H') : Kd C H' p w s := by
  obtain ⟨⟨dx, q⟩, a, b⟩ := h
  exact ⟨⟨dx, e _ _ q⟩, a, b⟩
theorem Kd.kp {C : Addr} {H H' : Hp} {p r : Addr} {w : Nat} {s : Bool} (h : Kd C H p w s) (hr : SrcAt H r) (e : Kp r H H') : Kd C H' p w s := by
  obtain ⟨⟨dx, q⟩, a, b⟩ := h
  obtain ⟨_, _, _, z⟩ := hr
  exact ⟨⟨dx, e _ _ (ne_of q z (by intro y; cases y)) q⟩, a, b⟩
/-- how a value that is asked for whether it is an integer looks -/
def IntQ (K : PySem.W.Frag) (H : Hp) (v : V) (b : Bool) : Prop := ∃ t : String, TyX K H v (.type t) ∧ kitB t "int" = some (b || t == "bool") ∧ (b = true ∨ t = "bool" → True) ∧ (∃ c, kitB t "bool" = some c ∧ ((b || t == "bool") && !c) = b)
theorem IntQ.int {K : PySem.W.Frag} {H : Hp} (i : Int) : IntQ K H (.int i) true := ⟨"int", .base (.int i), by decide +kernel, fun _ => trivial, false, by decide +kernel, rfl⟩
theorem IntQ.bl {K : PySem.W.Frag} {H : Hp} (i : Bool) : IntQ K H (.bl i) false := ⟨"bool", .base (.bl i), by decide +kernel, fun _ => trivial, true, by decide +kernel, rfl⟩
theorem IntQ.non {K : PySem.W.Frag} {H : Hp} : IntQ K H .non false := ⟨"NoneType", .base .non, by decide +kernel, fun _ => trivial, false, by decide +kernel, rfl⟩
theorem IntQ.str {K : PySem.W.Frag} {H : Hp} (z : Str) : IntQ K H (.str z) false := ⟨"str", .base (.str z), by decide +kernel, fun _ => trivial, false, by decide +kernel, rfl⟩
theorem IntQ.lst {K : PySem.W.Frag} {H : Hp} {a : Addr} {xs : List V} (h : H a = some (.lst xs)) : IntQ K H (.ref a) false := ⟨"list", .base (.lst h), by decide +kernel, fun _ => trivial, false, by decide +kernel, rfl⟩
theorem IntQ.tup {K : PySem.W.Frag} {H : Hp} {a : Addr} {xs : List V} (h : H a = some (.tup xs)) : IntQ K H (.ref a) false := ⟨"tuple", .base (.tup h), by decide +kernel, fun _ => trivial, false, by decide +kernel, rfl⟩
theorem IntQ.dK {K : PySem.W.Frag} {H : Hp} {a : Addr} {xs : List (Key × V)} (h : H a = some (.dK xs)) : IntQ K H (.ref a) false := ⟨"dict", .base (.dK h), by decide +kernel, fun _ => trivial, false, by decide +kernel, rfl⟩
/-- a row of kinds' parts: a list at D of tuples -/
structure RowAt (H : Hp) (p D : Addr) (rs : List (Addr × Nat × Bool)) : Prop where
  lst : H D = some (.lst (rs.map fun r => V.ref r.1))
  nD : D ≠ p
  tup : ∀ r ∈ rs, H r.1 = some (.tup [.int (r.2.1 : Int), .bl r.2.2]) ∧ r.1 ≠ p ∧ 1 ≤ r.2.1 ∧ r.2.1 ≤ 128
theorem RowAt.kp {H H' : Hp} {p D : Addr} {rs : List (Addr × Nat × Bool)} (h : RowAt H p D rs) (e : Kp p H H') : RowAt H' p D rs :=
  ⟨e _ _ h.nD h.lst, h.nD, fun r hr => ⟨e _ _ (h.tup r hr).2.1 (h.tup r hr).1, (h.tup r hr).2⟩⟩
/-- a list at E of kinds -/
structure KdsAt (C : Addr) (H : Hp) (p E : Addr) (ks : List (Addr × Nat × Bool)) : Prop where
  lst : H E = some (.lst (ks.map fun r => V.ref r.1))
  nE : E ≠ p
  kd : ∀ r ∈ ks, Kd C H r.1 r.2.1 r.2.2 ∧ r.1 ≠ p
theorem KdsAt.kp {C : Addr} {H H' : Hp} {p E : Addr} {ks : List (Addr × Nat × Bool)} (h : KdsAt C H p E ks) (e : Kp p H H') : KdsAt C H' p E ks :=
  ⟨e _ _ h.nE h.lst, h.nE, fun r hr => by
    obtain ⟨⟨⟨dx, q⟩, a, b⟩, n⟩ := h.kd r hr
    exact ⟨⟨⟨dx, e _ _ n q⟩, a, b⟩, n⟩⟩
def wrs (ks : List (Addr × Nat × Bool)) (n : Int) : Int := ks.foldl (fun n k => wr k.2.1 k.2.2 n) n
theorem wrs_eq : ∀ {ks rs : List (Addr × Nat × Bool)} (_ : ks.map (·.2) = rs.map (·.2)) (n : Int), wrs ks n = wrs rs n
  | [], [], _, _ => rfl
  | [], _ :: _, h, _ => by simp at h
  | _ :: _, [], h, _ => by simp at h
  | k :: ks, r :: rs, h, n => by
    rw [List.map_cons, List.map_cons, List.cons.injEq] at h
    show wrs ks (wr k.2.1 k.2.2 n) = wrs rs (wr r.2.1 r.2.2 n)
    rw [h.1]
    exact wrs_eq h.2 _
theorem wrs_more (ks : List (Addr × Nat × Bool)) (r : Addr × Nat × Bool) (n : Int) : wrs (ks ++ [r]) n = wr r.2.1 r.2.2 (wrs ks n) := by
  unfold wrs; rw [List.foldl_append]; rfl
def p_kb_least_0_kind {α : Type} (us ws : List α) : List α := match us, ws with | [], [w0] => [w0] | _, _ => []
def p_kb_greatest_0_kind {α : Type} (us ws : List α) : List α := match us, ws with | [], [w0] => [w0] | _, _ => []
def p_kb_wrapped_0_n_kind {α : Type} (us ws : List α) : List α := match us, ws with | [], [w0, w1] => [w1, w0] | _, _ => []
def p_kb_is_value_0_x_kind {α : Type} (us ws : List α) : List α := match us, ws with | [], [w0, w1] => [w1, w0] | _, _ => []
def p_kb_cast_0_n_kinds {α : Type} (us ws : List α) : List α := match us, ws with | [], [w0, w1] => [w1, w0] | _, _ => []
structure Txt (K : PySem.W.Frag) (mg : Str → Option Value) where
  C_Kind : Addr
  cl_Kind : Cls K C_Kind
  g_Kind : mg "Kind" = some (.ref C_Kind)
  na_Kind_bits : NoAttr K C_Kind "bits"
  na_Kind_is_signed : NoAttr K C_Kind "is_signed"
  ia_Kind : PySem.W.findIn K (.ref C_Kind) "__class__" = some (some (.builtin "object.__class__"))
  ib_Kind : PySem.W.specialIn K (.builtin "object.__class__") "__get__" = some (some (.builtin "getset_descriptor.__get__"))
  ic_Kind : PySem.W.takesIn K (.builtin "object.__class__") = some true
  id_Kind : PySem.W.mroIn K C_Kind (.type "object") = some true
  f_is_integer : Addr
  fd_is_integer : FuncData
  F_is_integer : Fun K "is_integer" "is_integer" s_is_integer f_is_integer fd_is_integer
  b_is_integer : Binds K fd_is_integer ["value"] []
  g_is_integer : mg "is_integer" = some (.ref f_is_integer)
  k_is_integer : PySem.W.keepIn K (.ref f_is_integer) = true
  f_check_integer : Addr
  fd_check_integer : FuncData
  F_check_integer : Fun K "check_integer" "check_integer" s_check_integer f_check_integer fd_check_integer
  b_check_integer : Binds K fd_check_integer ["value", "argument"] []
  g_check_integer : mg "check_integer" = some (.ref f_check_integer)
  k_check_integer : PySem.W.keepIn K (.ref f_check_integer) = true
  f_Kind___init__ : Addr
  fd_Kind___init__ : FuncData
  F_Kind___init__ : Fun K "__init__" "Kind.__init__" s_Kind___init__ f_Kind___init__ fd_Kind___init__
  b_Kind___init__ : Binds K fd_Kind___init__ ["self", "bits", "is_signed"] []
  f_check_kind : Addr
  fd_check_kind : FuncData
  F_check_kind : Fun K "check_kind" "check_kind" s_check_kind f_check_kind fd_check_kind
  b_check_kind : Binds K fd_check_kind ["kind"] []
  g_check_kind : mg "check_kind" = some (.ref f_check_kind)
  k_check_kind : PySem.W.keepIn K (.ref f_check_kind) = true
  f_check_row : Addr
  fd_check_row : FuncData
  F_check_row : Fun K "check_row" "check_row" s_check_row f_check_row fd_check_row
  b_check_row : Binds K fd_check_row ["kinds", "argument"] []
  g_check_row : mg "check_row" = some (.ref f_check_row)
  k_check_row : PySem.W.keepIn K (.ref f_check_row) = true
  f_least : Addr
  fd_least : FuncData
  F_least : Fun K "least" "least" s_least f_least fd_least
  b_least : Binds K fd_least ["kind"] []
  g_least : mg "least" = some (.ref f_least)
  k_least : PySem.W.keepIn K (.ref f_least) = true
  f_greatest : Addr
  fd_greatest : FuncData
  F_greatest : Fun K "greatest" "greatest" s_greatest f_greatest fd_greatest
  b_greatest : Binds K fd_greatest ["kind"] []
  g_greatest : mg "greatest" = some (.ref f_greatest)
  k_greatest : PySem.W.keepIn K (.ref f_greatest) = true
  f_is_value : Addr
  fd_is_value : FuncData
  F_is_value : Fun K "is_value" "is_value" s_is_value f_is_value fd_is_value
  b_is_value : Binds K fd_is_value ["kind", "x"] []
  g_is_value : mg "is_value" = some (.ref f_is_value)
  k_is_value : PySem.W.keepIn K (.ref f_is_value) = true
  f_wrapped : Addr
  fd_wrapped : FuncData
  F_wrapped : Fun K "wrapped" "wrapped" s_wrapped f_wrapped fd_wrapped
  b_wrapped : Binds K fd_wrapped ["kind", "n"] []
  g_wrapped : mg "wrapped" = some (.ref f_wrapped)
  k_wrapped : PySem.W.keepIn K (.ref f_wrapped) = true
  f_cast : Addr
  fd_cast : FuncData
  F_cast : Fun K "cast" "cast" s_cast f_cast fd_cast
  b_cast : Binds K fd_cast ["kinds", "n"] []
  g_cast : mg "cast" = some (.ref f_cast)
  k_cast : PySem.W.keepIn K (.ref f_cast) = true
  f__law_source_of : Addr
  fd__law_source_of : FuncData
  F__law_source_of : Fun K "_law_source_of" "_law_source_of" s__law_source_of f__law_source_of fd__law_source_of
  b__law_source_of : Binds K fd__law_source_of ["_law_cell"] []
  g__law_source_of : mg "_law_source_of" = some (.ref f__law_source_of)
  k__law_source_of : PySem.W.keepIn K (.ref f__law_source_of) = true
  f__law_next : Addr
  fd__law_next : FuncData
  F__law_next : Fun K "_law_next" "_law_next" s__law_next f__law_next fd__law_next
  b__law_next : Binds K fd__law_next ["_law_source", "_law_many"] []
  g__law_next : mg "_law_next" = some (.ref f__law_next)
  k__law_next : PySem.W.keepIn K (.ref f__law_next) = true
  f__law_one : Addr
  fd__law_one : FuncData
  F__law_one : Fun K "_law_one" "_law_one" s__law_one f__law_one fd__law_one
  b__law_one : Binds K fd__law_one ["_law_source", "_law_some"] []
  g__law_one : mg "_law_one" = some (.ref f__law_one)
  k__law_one : PySem.W.keepIn K (.ref f__law_one) = true
  f__law_cell_at : Addr
  fd__law_cell_at : FuncData
  F__law_cell_at : Fun K "_law_cell_at" "_law_cell_at" s__law_cell_at f__law_cell_at fd__law_cell_at
  b__law_cell_at : Binds K fd__law_cell_at ["_law_script", "_law_index"] []
  g__law_cell_at : mg "_law_cell_at" = some (.ref f__law_cell_at)
  k__law_cell_at : PySem.W.keepIn K (.ref f__law_cell_at) = true
  f__law_power : Addr
  fd__law_power : FuncData
  F__law_power : Fun K "_law_power" "_law_power" s__law_power f__law_power fd__law_power
  b__law_power : Binds K fd__law_power ["_law_n_here"] []
  g__law_power : mg "_law_power" = some (.ref f__law_power)
  k__law_power : PySem.W.keepIn K (.ref f__law_power) = true
  f__law_wide : Addr
  fd__law_wide : FuncData
  F__law_wide : Fun K "_law_wide" "_law_wide" s__law_wide f__law_wide fd__law_wide
  b__law_wide : Binds K fd__law_wide ["_law_source", "_law_m"] []
  g__law_wide : mg "_law_wide" = some (.ref f__law_wide)
  k__law_wide : PySem.W.keepIn K (.ref f__law_wide) = true
  f__law_placed : Addr
  fd__law_placed : FuncData
  F__law_placed : Fun K "_law_placed" "_law_placed" s__law_placed f__law_placed fd__law_placed
  b__law_placed : Binds K fd__law_placed ["_law_parts", "_law_n_here"] []
  g__law_placed : mg "_law_placed" = some (.ref f__law_placed)
  k__law_placed : PySem.W.keepIn K (.ref f__law_placed) = true
  f__law_integers : Addr
  fd__law_integers : FuncData
  F__law_integers : Fun K "_law_integers" "_law_integers" s__law_integers f__law_integers fd__law_integers
  b__law_integers : Binds K fd__law_integers ["_law_source", "_law_bits"] []
  g__law_integers : mg "_law_integers" = some (.ref f__law_integers)
  k__law_integers : PySem.W.keepIn K (.ref f__law_integers) = true
  f__law_right : Addr
  fd__law_right : FuncData
  F__law_right : Fun K "_law_right" "_law_right" s__law_right f__law_right fd__law_right
  b__law_right : Binds K fd__law_right ["_law_parts", "_law_some"] []
  g__law_right : mg "_law_right" = some (.ref f__law_right)
  k__law_right : PySem.W.keepIn K (.ref f__law_right) = true
  f_law : Addr
  fd_law : FuncData
  F_law : Fun K "law" "law" s_law f_law fd_law
  b_law : Binds K fd_law ["_law_script"] []
  g_law : mg "law" = some (.ref f_law)
  k_law : PySem.W.keepIn K (.ref f_law) = true
  mk_Kind : Mk K C_Kind f_Kind___init__
  kb_least_0_kind : KBinds K fd_least ["kind"] ["kind"] p_kb_least_0_kind p_kb_least_0_kind
  kb_greatest_0_kind : KBinds K fd_greatest ["kind"] ["kind"] p_kb_greatest_0_kind p_kb_greatest_0_kind
  kb_wrapped_0_n_kind : KBinds K fd_wrapped ["kind", "n"] ["n", "kind"] p_kb_wrapped_0_n_kind p_kb_wrapped_0_n_kind
  kb_is_value_0_x_kind : KBinds K fd_is_value ["kind", "x"] ["x", "kind"] p_kb_is_value_0_x_kind p_kb_is_value_0_x_kind
  kb_cast_0_n_kinds : KBinds K fd_cast ["kinds", "n"] ["n", "kinds"] p_kb_cast_0_n_kinds p_kb_cast_0_n_kinds
  t_MOST_BITS : Tok
  g_MOST_BITS : mg "MOST_BITS" = some (.int 128 t_MOST_BITS)
  t_LONGEST_ROW : Tok
  g_LONGEST_ROW : mg "LONGEST_ROW" = some (.int 20 t_LONGEST_ROW)
  n_all : mg "all" = none
  n_bool : mg "bool" = none
  n_int : mg "int" = none
  n_isinstance : mg "isinstance" = none
  n_len : mg "len" = none
  n_list : mg "list" = none
  n_range : mg "range" = none
  bl_law : ∀ (s : Shared) (v : Value), BindsTo s fd_law ⟨[v], []⟩ [("_law_script", v)]

section
variable {K : PySem.W.Frag} {mg : Str → Option Value} {H : Hp} {Q : VK} {C p : Addr} {wd : Nat} {s : Bool}
theorem w_isi {v : V} {t c : String} {b : Bool} (ty : TyX K H v (.type t)) (e : kitB t c = some b) (q : Q (.bl b) H) : rIsi K [v, .ty c] H Q := ⟨_, _, _, _, b, rfl, .ty c, ty, kit_ty e, q⟩
theorem w_isK (T : Txt K mg) (k : Kd T.C_Kind H p wd s) (q : Q (.bl true) H) : rIsi K [.ref p, .ref T.C_Kind] H Q := by
  obtain ⟨⟨dx, e⟩, _, _⟩ := k
  exact ⟨_, _, _, _, true, rfl, .own _, .base (.ins e T.cl_Kind T.ia_Kind T.ib_Kind T.ic_Kind T.id_Kind), (by unfold PySem.W.kitOne; rw [if_pos (by simp)]), q⟩
theorem w_fb {i : Nat} {σ : L2.St} (T : Txt K mg) (hs : σ[i]? = some (some (.ref p))) (k : Kd T.C_Kind H p wd s) (q : Q (.int (wd : Int)) H) : tFld K (tVar i) "bits" σ H Q := by
  obtain ⟨⟨dx, e⟩, _, _⟩ := k
  exact ⟨_, hs, p, _, dx, _, _, rfl, e, T.cl_Kind, T.na_Kind_bits, kf_bits _ _, q⟩
theorem w_fs {i : Nat} {σ : L2.St} (T : Txt K mg) (hs : σ[i]? = some (some (.ref p))) (k : Kd T.C_Kind H p wd s) (q : Q (.bl s) H) : tFld K (tVar i) "is_signed" σ H Q := by
  obtain ⟨⟨dx, e⟩, _, _⟩ := k
  exact ⟨_, hs, p, _, dx, _, _, rfl, e, T.cl_Kind, T.na_Kind_is_signed, kf_sign _ _, q⟩
end
theorem kbinds_of {K : PySem.W.Frag} {x qual : Str} {st : Stmt} {f : Addr} {fd : FuncData} {ps ks : List Str} {g : List Value → List Value → List Value} {gV : List V → List V → List V} (F : Fun K x qual st f fd)
    (h : ∀ (kV doc pm : Value) (an : Option Addr) (cdv ct : Value) (us ws : List Value), (g us ws).length = ps.length → bindArgs (PySem.W.fnOf x qual (defArgs st) (defBody st) (defScope st) .none kV doc pm an cdv ct) ⟨us, ks.zip ws⟩ = pure (ps.zip (g us ws)))
    (hrel : ∀ {vs : List V} {us : List Value} {zs : List V} {ws : List Value}, Vals vs us → Vals zs ws → Vals (gV vs zs) (g us ws)) : KBinds K fd ps ks g gV := by
  obtain ⟨oc, od, kV, doc, pm, an, cdv, ct, osl, rfl, lk, hcd⟩ := F.ex
  exact ⟨fun s us ws _ hl => .of_eq (h kV doc pm an cdv ct us ws hl), hrel⟩
theorem rel_kb_least_0_kind {vs : List V} {us : List Value} {zs : List V} {ws : List Value} (r : Vals vs us) (rz : Vals zs ws) : Vals (p_kb_least_0_kind vs zs) (p_kb_least_0_kind us ws) := by
  cases r with
  | cons _ _ => exact .nil
  | nil =>
    cases rz with
    | nil => exact .nil
    | cons k0 z0 =>
      cases z0 with
      | cons _ _ => exact .nil
      | nil => exact (.cons k0 .nil)
theorem rel_kb_greatest_0_kind {vs : List V} {us : List Value} {zs : List V} {ws : List Value} (r : Vals vs us) (rz : Vals zs ws) : Vals (p_kb_greatest_0_kind vs zs) (p_kb_greatest_0_kind us ws) := by
  cases r with
  | cons _ _ => exact .nil
  | nil =>
    cases rz with
    | nil => exact .nil
    | cons k0 z0 =>
      cases z0 with
      | cons _ _ => exact .nil
      | nil => exact (.cons k0 .nil)
theorem rel_kb_wrapped_0_n_kind {vs : List V} {us : List Value} {zs : List V} {ws : List Value} (r : Vals vs us) (rz : Vals zs ws) : Vals (p_kb_wrapped_0_n_kind vs zs) (p_kb_wrapped_0_n_kind us ws) := by
  cases r with
  | cons _ _ => exact .nil
  | nil =>
    cases rz with
    | nil => exact .nil
    | cons k0 z0 =>
      cases z0 with
      | nil => exact .nil
      | cons k1 z1 =>
        cases z1 with
        | cons _ _ => exact .nil
        | nil => exact (.cons k1 (.cons k0 .nil))
theorem rel_kb_is_value_0_x_kind {vs : List V} {us : List Value} {zs : List V} {ws : List Value} (r : Vals vs us) (rz : Vals zs ws) : Vals (p_kb_is_value_0_x_kind vs zs) (p_kb_is_value_0_x_kind us ws) := by
  cases r with
  | cons _ _ => exact .nil
  | nil =>
    cases rz with
    | nil => exact .nil
    | cons k0 z0 =>
      cases z0 with
      | nil => exact .nil
      | cons k1 z1 =>
        cases z1 with
        | cons _ _ => exact .nil
        | nil => exact (.cons k1 (.cons k0 .nil))
theorem rel_kb_cast_0_n_kinds {vs : List V} {us : List Value} {zs : List V} {ws : List Value} (r : Vals vs us) (rz : Vals zs ws) : Vals (p_kb_cast_0_n_kinds vs zs) (p_kb_cast_0_n_kinds us ws) := by
  cases r with
  | cons _ _ => exact .nil
  | nil =>
    cases rz with
    | nil => exact .nil
    | cons k0 z0 =>
      cases z0 with
      | nil => exact .nil
      | cons k1 z1 =>
        cases z1 with
        | cons _ _ => exact .nil
        | nil => exact (.cons k1 (.cons k0 .nil))
def sp_is_integer (K : PySem.W.Frag) (C : Addr) : Sp := fun vs H Q _ => ∃ (v : V) (b : Bool), vs = [v] ∧ IntQ K H v b ∧ Q (.bl b) H
theorem ok_is_integer {P : Program} {w : World} {K : PySem.W.Frag} {mg : Str → Option Value} {base : Heap} (T : Txt K mg) : FnOk P w K mg base CX0 1 T.f_is_integer T.fd_is_integer ["value"] (sp_is_integer K T.C_Kind) := by
  refine T.F_is_integer.ok sc_is_integer (fun vs H Q E h => ?_) (fun cdv A outer s H vs Q E hr h => ?_)
  · obtain ⟨v, b, rfl, _⟩ := h
    rfl
  · obtain ⟨v, b, rfl, h⟩ := h
    refine ⟨_, (pss_one (ps_ret (pe_and (pe_callB (id := "isinstance") (r := rIsi K) call_isi (by rfl) T.n_isinstance (by decide +kernel) (pa_cons (pv 0 (hv := Or.inl rfl)) (pa_cons (pe_bltn (v := .ty "int") (by rfl) T.n_int (by decide +kernel) rfl) pa_nil))) (pe_one (pe_not (pe_callB (id := "isinstance") (r := rIsi K) call_isi (by rfl) T.n_isinstance (by decide +kernel) (pa_cons (pv 0 (hv := Or.inl rfl)) (pa_cons (pe_bltn (v := .ty "bool") (by rfl) T.n_bool (by decide +kernel) rfl) pa_nil)))))))), ?_⟩
    try dsimp only [cxOf, Cx.nox, Cx.wish, Cx.blk]
    rw [show L2.start ["value"] [v] = [some (v)] from rfl]
    obtain ⟨⟨t, ty, e1, -, c, e2, e3⟩, k⟩ := h
    walk_at "rd"
    refine w_isi ty e1 ?_
    walk_at "rd"
    cases hb : (b || t == "bool") with
    | false =>
      rw [hb] at e3
      have e3 : false = b := e3
      refine iteF ?_
      rw [e3]; exact k
    | true =>
      rw [hb] at e3
      refine iteT ?_
      walk_at "rd"
      refine w_isi ty e2 ?_
      walk_at "rd"
      have e4 : (!c) = b := e3
      rw [e4]; exact k
def sp_check_integer (K : PySem.W.Frag) (C : Addr) : Sp := fun vs H Q _ => ∃ (i : Int) (z : Str), vs = [.int i, .str z] ∧ Q .non H
theorem ok_check_integer {P : Program} {w : World} {K : PySem.W.Frag} {mg : Str → Option Value} {base : Heap} (T : Txt K mg) : FnOk P w K mg base CX0 2 T.f_check_integer T.fd_check_integer ["value", "argument"] (sp_check_integer K T.C_Kind) := by
  have G_is_integer := ok_is_integer (P := P) (w := w) (base := base) T
  refine T.F_check_integer.ok sc_check_integer (fun vs H Q E h => ?_) (fun cdv A outer s H vs Q E hr h => ?_)
  · obtain ⟨i, z, rfl, _⟩ := h
    rfl
  · obtain ⟨i, z, rfl, h⟩ := h
    have hr_is_integer : Room 1 _ := hr.mono (by decide)
    refine ⟨_, (pss_one (ps_if (pt_not (pt_val (pe_call G_is_integer hr_is_integer rfl T.g_is_integer T.k_is_integer T.b_is_integer .nil pass0 (pa_cons (pv 0 (hv := Or.inl rfl)) pa_nil)))) (pss_one ps_never) pss_nil)), ?_⟩
    try dsimp only [cxOf, Cx.nox, Cx.wish, Cx.blk]
    rw [show L2.start ["value", "argument"] [.int i, .str z] = [some (.int i), some (.str z)] from rfl]
    walk_at "rd"
    refine ⟨.int i, true, rfl, IntQ.int i, ?_⟩
    walk_at "rd"
    refine iteF ?_
    walk_at "rd"
    exact h
def sp_Kind___init__ (K : PySem.W.Frag) (C : Addr) : Sp := fun vs H Q _ => ∃ (p : Addr) (wd : Nat) (s : Bool), vs = [.ref p, .int (wd : Int), .bl s] ∧ (∃ dx, H p = some (.ins C dx [])) ∧ 1 ≤ wd ∧ wd ≤ 128 ∧ ∀ H', Kd C H' p wd s → Kp p H H' → Q .non H'
theorem ok_Kind___init__ {P : Program} {w : World} {K : PySem.W.Frag} {mg : Str → Option Value} {base : Heap} (T : Txt K mg) : FnOk P w K mg base CX0 2 T.f_Kind___init__ T.fd_Kind___init__ ["self", "bits", "is_signed"] (sp_Kind___init__ K T.C_Kind) := by
  have G_is_integer := ok_is_integer (P := P) (w := w) (base := base) T
  refine T.F_Kind___init__.ok sc_Kind___init__ (fun vs H Q E h => ?_) (fun cdv A outer s H vs Q E hr h => ?_)
  · obtain ⟨p, wd, s, rfl, _⟩ := h
    rfl
  · obtain ⟨p, wd, s, rfl, h⟩ := h
    have hr_is_integer : Room 1 _ := hr.mono (by decide)
    refine ⟨_, (pss_cons (ps_if (pt_not (PW.pt (pw_and (pt_val (pe_call G_is_integer hr_is_integer rfl T.g_is_integer T.k_is_integer T.b_is_integer .nil pass0 (pa_cons (pv 1 (hv := Or.inl rfl)) pa_nil))) (pw_and1 (pt_chain op_le op_le pe_int (pv 1 (hv := Or.inl rfl)) (pe_glob (v := .int 128) rfl T.g_MOST_BITS ⟨_, rfl⟩)))))) (pss_one ps_never) pss_nil)
      (pss_cons (ps_if (pt_not (pt_val (pe_callB (id := "isinstance") (r := rIsi K) call_isi (by rfl) T.n_isinstance (by decide +kernel) (pa_cons (pv 2 (hv := Or.inl rfl)) (pa_cons (pe_bltn (v := .ty "bool") (by rfl) T.n_bool (by decide +kernel) rfl) pa_nil))))) (pss_one ps_never) pss_nil)
      (pss_cons (ps_fld (pv 0 (hv := Or.inl rfl)) (pv 1 (hv := Or.inl rfl)) rfl)
      (pss_one (ps_fld (pv 0 (hv := Or.inl rfl)) (pv 2 (hv := Or.inl rfl)) rfl))))), ?_⟩
    try dsimp only [cxOf, Cx.nox, Cx.wish, Cx.blk]
    rw [show L2.start ["self", "bits", "is_signed"] [.ref p, .int (wd : Int), .bl s] = [some (.ref p), some (.int (wd : Int)), some (.bl s)] from rfl]
    obtain ⟨⟨dx, hp⟩, h1, h2, k⟩ := h
    walk_at "rd"
    refine ⟨_, true, rfl, IntQ.int _, ?_⟩
    walk_at "rd"
    refine iteT ?_
    walk_at "rd"
    refine w_chain ?_
    walk_at "rd"
    refine w_decT (by omega) ?_
    walk_at "rd"
    refine w_bF (by rw [decide_eq_true (show ((wd : Int) ≤ 128) by omega)]; rfl) ?_
    walk_at "rd"
    refine w_isi (b := true) (.base (.bl s)) (by decide +kernel) ?_
    walk_at "rd"
    refine iteF ?_
    walk_at "rd"
    refine ⟨p, _, dx, _, rfl, hp, T.cl_Kind, T.na_Kind_bits, (by show 0 < 1000; decide), ?_⟩
    walk_at "rd"
    refine ⟨p, _, dx, _, rfl, upd_same, T.cl_Kind, T.na_Kind_is_signed, (by show 1 < 1000; decide), ?_⟩
    refine k _ ⟨⟨dx, ?_⟩, h1, h2⟩ ((Kp.refl p H).upd.upd)
    rw [upd_same]
    show some (HO.ins _ _ (if ("bits" : Str) = "is_signed" then [(("bits" : Str), V.bl s)] else (("bits" : Str), V.int (wd : Int)) :: putF "is_signed" (V.bl s) [])) = _
    rw [if_neg (by decide +kernel)]
    rfl
def sp_check_kind (K : PySem.W.Frag) (C : Addr) : Sp := fun vs H Q _ => ∃ (p : Addr), vs = [.ref p] ∧ (∃ wd s, Kd C H p wd s) ∧ Q .non H
theorem ok_check_kind {P : Program} {w : World} {K : PySem.W.Frag} {mg : Str → Option Value} {base : Heap} (T : Txt K mg) : FnOk P w K mg base CX0 1 T.f_check_kind T.fd_check_kind ["kind"] (sp_check_kind K T.C_Kind) := by
  refine T.F_check_kind.ok sc_check_kind (fun vs H Q E h => ?_) (fun cdv A outer s H vs Q E hr h => ?_)
  · obtain ⟨p, rfl, _⟩ := h
    rfl
  · obtain ⟨p, rfl, h⟩ := h
    refine ⟨_, (pss_one (ps_if (pt_not (pt_val (pe_callB (id := "isinstance") (r := rIsi K) call_isi (by rfl) T.n_isinstance (by decide +kernel) (pa_cons (pv 0 (hv := Or.inl rfl)) (pa_cons (pe_glob (v := .ref T.C_Kind) rfl T.g_Kind rfl) pa_nil))))) (pss_one ps_never) pss_nil)), ?_⟩
    try dsimp only [cxOf, Cx.nox, Cx.wish, Cx.blk]
    rw [show L2.start ["kind"] [.ref p] = [some (.ref p)] from rfl]
    obtain ⟨⟨wd, s, hk⟩, k⟩ := h
    walk_at "rd"
    refine w_isK T hk ?_
    walk_at "rd"
    refine iteF ?_
    walk_at "rd"
    exact k
def sp_check_row (K : PySem.W.Frag) (C : Addr) : Sp := fun vs H Q _ => ∃ (l : Addr) (z : Str), vs = [.ref l, .str z] ∧ (∃ ks : List Addr, H l = some (.lst (ks.map V.ref)) ∧ (∀ p ∈ ks, ∃ wd s, Kd C H p wd s) ∧ 1 ≤ ks.length ∧ ks.length ≤ 20) ∧ ∀ H', Same H H' → Q .non H'
theorem ok_check_row {P : Program} {w : World} {K : PySem.W.Frag} {mg : Str → Option Value} {base : Heap} (T : Txt K mg) : FnOk P w K mg base CX0 1 T.f_check_row T.fd_check_row ["kinds", "argument"] (sp_check_row K T.C_Kind) := by
  refine T.F_check_row.ok sc_check_row (fun vs H Q E h => ?_) (fun cdv A outer s H vs Q E hr h => ?_)
  · obtain ⟨l, z, rfl, _⟩ := h
    rfl
  · obtain ⟨l, z, rfl, h⟩ := h
    refine ⟨_, (pss_cons (ps_if (pt_not (PW.pt (pw_and (pt_val (pe_callB (id := "isinstance") (r := rIsi K) call_isi (by rfl) T.n_isinstance (by decide +kernel) (pa_cons (pv 0 (hv := Or.inl rfl)) (pa_cons (pe_bltn (v := .ty "list") (by rfl) T.n_list (by decide +kernel) rfl) pa_nil)))) (pw_and1 (pt_chain op_le op_le pe_int (pe_callB (id := "len") (r := rLenS K) call_len_seq (by rfl) T.n_len (by decide +kernel) (pa_cons (pv 0 (hv := Or.inl rfl)) pa_nil)) (pe_glob (v := .int 20) rfl T.g_LONGEST_ROW ⟨_, rfl⟩)))))) (pss_one ps_never) pss_nil)
      (pss_one (ps_if (pt_not (pt_val (pe_callB (id := "all") (r := rAll K) (cr_all rfl) (by rfl) T.n_all (by decide +kernel) (pa_cons (pe_lc (own := [("kind", 2)]) (g := gName 2) (tt := tYes) (by rfl) sc_check_row.nd (pi_list (pv 0 (hv := Or.inl rfl))) (blkOk_by (own := [("kind", 2)]) (N := ["kinds", "argument", "kind"]) (sc := defScope s_check_row) (by decide +kernel)) (fun _ _ _ _ _ => (pg_name (i := 2) sc_check_row.nd rfl (Or.inl rfl))) (fun _ _ _ _ _ => pts_nil) (fun _ _ _ _ _ => (pe_callB (id := "isinstance") (r := rIsi K) call_isi (by rfl) T.n_isinstance (by decide +kernel) (pa_cons (pv 2 (hv := Or.inl rfl)) (pa_cons (pe_glob (v := .ref T.C_Kind) rfl T.g_Kind rfl) pa_nil))))) pa_nil)))) (pss_one ps_never) pss_nil))), ?_⟩
    try dsimp only [cxOf, Cx.nox, Cx.wish, Cx.blk]
    rw [show L2.start ["kinds", "argument", "kind"] [.ref l, .str z] = [some (.ref l), some (.str z), none] from rfl]
    obtain ⟨⟨ks, hl, hk, n1, n2⟩, k⟩ := h
    walk_at "rd"
    refine w_isi (b := true) (.base (.lst hl)) (by decide +kernel) ?_
    walk_at "rd"
    refine iteT ?_
    walk_at "rd"
    refine w_chain ?_
    walk_at "rd"
    refine w_len hl ?_
    rw [List.length_map]
    walk_at "rd"
    refine w_decT (by omega) ?_
    walk_at "rd"
    refine w_bF (by rw [decide_eq_true (show ((ks.length : Int) ≤ 20) by omega)]; rfl) ?_
    walk_at "rd"
    refine ⟨⟨_, SqL.of hl⟩, fun D hD => lc_list (K := K) (a := l) (xs := ks.map V.ref) (fun i H' => Same H H' ∧ H' D = some (.lst ((List.replicate i true).map V.bl))) ⟨sm_new (Same.refl H) hD, upd_same⟩ (fun i H' _ p => p.1.seq (SqL.of hl)) ?_ ?_⟩
    · rintro i x H' hi ⟨s1, hd⟩
      obtain ⟨p, hp, rfl⟩ : ∃ p, ks[i]? = some p ∧ x = V.ref p := by
        rw [List.getElem?_map] at hi
        cases e : ks[i]? with
        | none => rw [e] at hi; cases hi
        | some z => rw [e] at hi; exact ⟨z, rfl, (Option.some.inj hi).symm⟩
      obtain ⟨wd, s, q⟩ := hk p (List.mem_of_getElem? hp)
      have il : i < ks.length := (List.getElem?_eq_some_iff.mp hp).1
      walk_at "rd"
      refine ⟨rfl, ?_⟩
      walk_at "rd"
      refine iteT ?_
      walk_at "rd"
      refine w_isK T (q.same s1) ?_
      refine ⟨_, hd, (by rw [List.length_map, List.length_replicate]; exact small1000 (by omega)), sm_mut s1 hD, ?_⟩
      rw [upd_same, List.replicate_succ', List.map_append]
      rfl
    · rintro H' ⟨s1, hd⟩
      walk_at "rd"
      refine w_all hd ?_
      walk_at "rd"
      refine w_bF (by simp) ?_
      walk_at "rd"
      exact k _ s1
def sp_least (K : PySem.W.Frag) (C : Addr) : Sp := fun vs H Q _ => ∃ (p : Addr) (wd : Nat) (s : Bool), vs = [.ref p] ∧ Kd C H p wd s ∧ Q (.int (loK wd s)) H
theorem ok_least {P : Program} {w : World} {K : PySem.W.Frag} {mg : Str → Option Value} {base : Heap} (T : Txt K mg) : FnOk P w K mg base CX0 2 T.f_least T.fd_least ["kind"] (sp_least K T.C_Kind) := by
  have G_check_kind := ok_check_kind (P := P) (w := w) (base := base) T
  refine T.F_least.ok sc_least (fun vs H Q E h => ?_) (fun cdv A outer s H vs Q E hr h => ?_)
  · obtain ⟨p, wd, s, rfl, _⟩ := h
    rfl
  · obtain ⟨p, wd, s, rfl, h⟩ := h
    have hr_check_kind : Room 1 _ := hr.mono (by decide)
    refine ⟨_, (pss_cons (ps_expr (pe_call G_check_kind hr_check_kind rfl T.g_check_kind T.k_check_kind T.b_check_kind .nil pass0 (pa_cons (pv 0 (hv := Or.inl rfl)) pa_nil)))
      (pss_one (ps_ret (pe_ifExp (pt_val (pe_fld (pv 0 (hv := Or.inl rfl)) rfl)) (pe_un un_neg (pe_op op_shl pe_int (pe_op op_sub (pe_fld (pv 0 (hv := Or.inl rfl)) rfl) pe_int))) pe_int)))), ?_⟩
    try dsimp only [cxOf, Cx.nox, Cx.wish, Cx.blk]
    rw [show L2.start ["kind"] [.ref p] = [some (.ref p)] from rfl]
    obtain ⟨hk, k⟩ := h
    walk_at "rd"
    refine ⟨p, rfl, ⟨wd, s, hk⟩, ?_⟩
    walk_at "rd"
    refine w_if ?_
    walk_at "rd"
    refine w_fs T rfl hk ?_
    walk_at "rd"
    cases s with
    | false =>
      refine iteF ?_
      walk_at "rd"
      have e : loK wd false = 0 := by unfold loK; rw [if_neg Bool.false_ne_true]
      rw [e] at k
      exact k
    | true =>
      refine iteT ?_
      walk_at "rd"
      refine w_fb T rfl hk ?_
      walk_at "rd"
      have h1 := hk.w1
      have h2 := hk.w2
      have e : (wd : Int) - 1 = ((wd - 1 : Nat) : Int) := by omega
      rw [e]
      refine w_I (cpow (n := 1) (by omega) (by decide)) ?_
      walk_at "rd"
      rw [Int.toNat_natCast, Int.one_mul]
      have e : loK wd true = -(2 ^ (wd - 1)) := by unfold loK; rw [if_pos rfl]
      rw [e] at k
      exact k
def sp_greatest (K : PySem.W.Frag) (C : Addr) : Sp := fun vs H Q _ => ∃ (p : Addr) (wd : Nat) (s : Bool), vs = [.ref p] ∧ Kd C H p wd s ∧ Q (.int (hiK wd s)) H
theorem ok_greatest {P : Program} {w : World} {K : PySem.W.Frag} {mg : Str → Option Value} {base : Heap} (T : Txt K mg) : FnOk P w K mg base CX0 3 T.f_greatest T.fd_greatest ["kind"] (sp_greatest K T.C_Kind) := by
  have G_least := ok_least (P := P) (w := w) (base := base) T
  refine T.F_greatest.ok sc_greatest (fun vs H Q E h => ?_) (fun cdv A outer s H vs Q E hr h => ?_)
  · obtain ⟨p, wd, s, rfl, _⟩ := h
    rfl
  · obtain ⟨p, wd, s, rfl, h⟩ := h
    have hr_least : Room 2 _ := hr.mono (by decide)
    refine ⟨_, (pss_one (ps_ret (pe_op op_sub (pe_op op_add (pe_call G_least hr_least rfl T.g_least T.k_least T.b_least .nil pass0 (pa_cons (pv 0 (hv := Or.inl rfl)) pa_nil)) (pe_op op_shl pe_int (pe_fld (pv 0 (hv := Or.inl rfl)) rfl))) pe_int))), ?_⟩
    try dsimp only [cxOf, Cx.nox, Cx.wish, Cx.blk]
    rw [show L2.start ["kind"] [.ref p] = [some (.ref p)] from rfl]
    obtain ⟨hk, k⟩ := h
    have h2 := hk.w2
    walk_at "rd"
    refine ⟨p, wd, s, rfl, hk, ?_⟩
    walk_at "rd"
    refine w_fb T rfl hk ?_
    walk_at "rd"
    refine w_I (cpow (n := 1) (by omega) (by decide)) ?_
    walk_at "rd"
    rw [Int.toNat_natCast, Int.one_mul]
    exact k
def sp_is_value (K : PySem.W.Frag) (C : Addr) : Sp := fun vs H Q _ => ∃ (p : Addr) (v : V) (wd : Nat) (s : Bool), vs = [.ref p, v] ∧ Kd C H p wd s ∧ ((∃ i : Int, v = .int i ∧ Q (.bl (decide (loK wd s ≤ i ∧ i ≤ hiK wd s))) H) ∨ (IntQ K H v false ∧ Q (.bl false) H))
theorem ok_is_value {P : Program} {w : World} {K : PySem.W.Frag} {mg : Str → Option Value} {base : Heap} (T : Txt K mg) : FnOk P w K mg base CX0 4 T.f_is_value T.fd_is_value ["kind", "x"] (sp_is_value K T.C_Kind) := by
  have G_check_kind := ok_check_kind (P := P) (w := w) (base := base) T
  have G_greatest := ok_greatest (P := P) (w := w) (base := base) T
  have G_is_integer := ok_is_integer (P := P) (w := w) (base := base) T
  have G_least := ok_least (P := P) (w := w) (base := base) T
  refine T.F_is_value.ok sc_is_value (fun vs H Q E h => ?_) (fun cdv A outer s H vs Q E hr h => ?_)
  · obtain ⟨p, v, wd, s, rfl, _⟩ := h
    rfl
  · obtain ⟨p, v, wd, s, rfl, h⟩ := h
    have hr_check_kind : Room 1 _ := hr.mono (by decide)
    have hr_greatest : Room 3 _ := hr.mono (by decide)
    have hr_is_integer : Room 1 _ := hr.mono (by decide)
    have hr_least : Room 2 _ := hr.mono (by decide)
    refine ⟨_, (pss_cons (ps_expr (pe_call G_check_kind hr_check_kind rfl T.g_check_kind T.k_check_kind T.b_check_kind .nil pass0 (pa_cons (pv 0 (hv := Or.inl rfl)) pa_nil)))
      (pss_one (ps_ret (pe_and (pe_call G_is_integer hr_is_integer rfl T.g_is_integer T.k_is_integer T.b_is_integer .nil pass0 (pa_cons (pv 1 (hv := Or.inl rfl)) pa_nil)) (pe_one (pe_chain op_le op_le (pe_call G_least hr_least rfl T.g_least T.k_least T.b_least .nil pass0 (pa_cons (pv 0 (hv := Or.inl rfl)) pa_nil)) (pv 1 (hv := Or.inl rfl)) (pe_call G_greatest hr_greatest rfl T.g_greatest T.k_greatest T.b_greatest .nil pass0 (pa_cons (pv 0 (hv := Or.inl rfl)) pa_nil)))))))), ?_⟩
    try dsimp only [cxOf, Cx.nox, Cx.wish, Cx.blk]
    rw [show L2.start ["kind", "x"] [.ref p, v] = [some (.ref p), some (v)] from rfl]
    obtain ⟨hk, k⟩ := h
    walk_at "rd"
    refine ⟨p, rfl, ⟨wd, s, hk⟩, ?_⟩
    walk_at "rd"
    rcases k with ⟨i, rfl, k⟩ | ⟨hi, k⟩
    · refine ⟨_, true, rfl, IntQ.int _, ?_⟩
      walk_at "rd"
      refine iteT ?_
      refine w_chain ?_
      walk_at "rd"
      refine ⟨p, wd, s, rfl, hk, ?_⟩
      walk_at "rd"
      refine w_dec (fun h1 => ?_) (fun h1 => ?_)
      · walk_at "rd"
        refine ⟨p, wd, s, rfl, hk, ?_⟩
        walk_at "rd"
        have e : decide (loK wd s ≤ i ∧ i ≤ hiK wd s) = decide (i ≤ hiK wd s) := by simp [h1]
        rw [e] at k
        exact k
      · have e : decide (loK wd s ≤ i ∧ i ≤ hiK wd s) = false := by simp [h1]
        rw [e] at k
        exact k
    · refine ⟨_, false, rfl, hi, ?_⟩
      walk_at "rd"
      refine iteF ?_
      exact k
def sp_wrapped (K : PySem.W.Frag) (C : Addr) : Sp := fun vs H Q _ => ∃ (p : Addr) (i : Int) (wd : Nat) (s : Bool), vs = [.ref p, .int i] ∧ Kd C H p wd s ∧ Q (.int (wr wd s i)) H
theorem ok_wrapped {P : Program} {w : World} {K : PySem.W.Frag} {mg : Str → Option Value} {base : Heap} (T : Txt K mg) : FnOk P w K mg base CX0 3 T.f_wrapped T.fd_wrapped ["kind", "n"] (sp_wrapped K T.C_Kind) := by
  have G_check_integer := ok_check_integer (P := P) (w := w) (base := base) T
  have G_check_kind := ok_check_kind (P := P) (w := w) (base := base) T
  have G_least := ok_least (P := P) (w := w) (base := base) T
  refine T.F_wrapped.ok sc_wrapped (fun vs H Q E h => ?_) (fun cdv A outer s H vs Q E hr h => ?_)
  · obtain ⟨p, i, wd, s, rfl, _⟩ := h
    rfl
  · obtain ⟨p, i, wd, s, rfl, h⟩ := h
    have hr_check_integer : Room 2 _ := hr.mono (by decide)
    have hr_check_kind : Room 1 _ := hr.mono (by decide)
    have hr_least : Room 2 _ := hr.mono (by decide)
    refine ⟨_, (pss_cons (ps_expr (pe_call G_check_kind hr_check_kind rfl T.g_check_kind T.k_check_kind T.b_check_kind .nil pass0 (pa_cons (pv 0 (hv := Or.inl rfl)) pa_nil)))
      (pss_cons (ps_expr (pe_call G_check_integer hr_check_integer rfl T.g_check_integer T.k_check_integer T.b_check_integer .nil pass0 (pa_cons (pv 1 (hv := Or.inl rfl)) (pa_cons pe_str pa_nil))))
      (pss_cons (ps_set (i := 2) sc_wrapped.nd rfl (Or.inl rfl) (pe_call G_least hr_least rfl T.g_least T.k_least T.b_least .nil pass0 (pa_cons (pv 0 (hv := Or.inl rfl)) pa_nil)))
      (pss_one (ps_ret (pe_op op_add (pv 2 (hv := Or.inl rfl)) (pe_op op_mod (pe_op op_sub (pv 1 (hv := Or.inl rfl)) (pv 2 (hv := Or.inl rfl))) (pe_op op_shl pe_int (pe_fld (pv 0 (hv := Or.inl rfl)) rfl))))))))), ?_⟩
    try dsimp only [cxOf, Cx.nox, Cx.wish, Cx.blk]
    rw [show L2.start ["kind", "n", "low"] [.ref p, .int i] = [some (.ref p), some (.int i), none] from rfl]
    obtain ⟨hk, k⟩ := h
    have h2 := hk.w2
    walk_at "rd"
    refine ⟨p, rfl, ⟨wd, s, hk⟩, ?_⟩
    walk_at "rd"
    refine ⟨_, _, rfl, ?_⟩
    walk_at "rd"
    refine ⟨p, wd, s, rfl, hk, ?_⟩
    walk_at "rd"
    refine w_fb T rfl hk ?_
    walk_at "rd"
    refine w_I (cpow (n := 1) (by omega) (by decide)) ?_
    rw [Int.toNat_natCast, Int.one_mul]
    refine w_I (p2 wd) ?_
    walk_at "rd"
    exact k
def sp_cast (K : PySem.W.Frag) (C : Addr) : Sp := fun vs H Q _ => ∃ (l : Addr) (n : Int) (ks : List (Addr × Nat × Bool)), vs = [.ref l, .int n] ∧ H l = some (.lst (ks.map fun k => V.ref k.1)) ∧ (∀ k ∈ ks, Kd C H k.1 k.2.1 k.2.2) ∧ 1 ≤ ks.length ∧ ks.length ≤ 20 ∧ ∀ H', Same H H' → Q (.int (ks.foldl (fun n k => wr k.2.1 k.2.2 n) n)) H'
theorem ok_cast {P : Program} {w : World} {K : PySem.W.Frag} {mg : Str → Option Value} {base : Heap} (T : Txt K mg) : FnOk P w K mg base CX0 4 T.f_cast T.fd_cast ["kinds", "n"] (sp_cast K T.C_Kind) := by
  have G_check_integer := ok_check_integer (P := P) (w := w) (base := base) T
  have G_check_row := ok_check_row (P := P) (w := w) (base := base) T
  have G_wrapped := ok_wrapped (P := P) (w := w) (base := base) T
  refine T.F_cast.ok sc_cast (fun vs H Q E h => ?_) (fun cdv A outer s H vs Q E hr h => ?_)
  · obtain ⟨l, n, ks, rfl, _⟩ := h
    rfl
  · obtain ⟨l, n, ks, rfl, h⟩ := h
    have hr_check_integer : Room 2 _ := hr.mono (by decide)
    have hr_check_row : Room 1 _ := hr.mono (by decide)
    have hr_wrapped : Room 3 _ := hr.mono (by decide)
    refine ⟨_, (pss_cons (ps_expr (pe_call G_check_row hr_check_row rfl T.g_check_row T.k_check_row T.b_check_row .nil pass0 (pa_cons (pv 0 (hv := Or.inl rfl)) (pa_cons pe_str pa_nil))))
      (pss_cons (ps_expr (pe_call G_check_integer hr_check_integer rfl T.g_check_integer T.k_check_integer T.b_check_integer .nil pass0 (pa_cons (pv 1 (hv := Or.inl rfl)) (pa_cons pe_str pa_nil))))
      (pss_cons (ps_for PassesOwn.never rfl (pi_list (pv 0 (hv := Or.inl rfl))) (pg_name (i := 2) sc_cast.nd rfl (Or.inl rfl))
        (pss_one (ps_set (i := 1) sc_cast.nd rfl (Or.inl rfl) (pe_call G_wrapped hr_wrapped rfl T.g_wrapped T.k_wrapped T.b_wrapped .nil pass0 (pa_cons (pv 2 (hv := Or.inl rfl)) (pa_cons (pv 1 (hv := Or.inl rfl)) pa_nil))))))
      (pss_one (ps_ret (pv 1 (hv := Or.inl rfl))))))), ?_⟩
    try dsimp only [cxOf, Cx.nox, Cx.wish, Cx.blk]
    rw [show L2.start ["kinds", "n", "kind"] [.ref l, .int n] = [some (.ref l), some (.int n), none] from rfl]
    obtain ⟨hl, hk, n1, n2, k⟩ := h
    walk_at "rd"
    refine ⟨l, _, rfl, ⟨ks.map (·.1), (by rw [List.map_map]; exact hl), fun p hp => ?_, (by rw [List.length_map]; exact n1), (by rw [List.length_map]; exact n2)⟩, fun H1 s1 => ?_⟩
    · obtain ⟨k, hk1, rfl⟩ := List.mem_map.mp hp
      exact ⟨_, _, hk k hk1⟩
    walk_at "rd"
    refine ⟨_, _, rfl, ?_⟩
    walk_at "rd"
    refine ⟨⟨_, SqL.of (s1 _ _ hl)⟩, for_list (K := K) (a := l) (xs := ks.map fun k => V.ref k.1) (fun i σ H' => ∃ v : Option V, σ = [some (.ref l), some (.int ((ks.take i).foldl (fun n k => wr k.2.1 k.2.2 n) n)), v] ∧ Same H H')
      ⟨none, rfl, s1⟩ (fun i σ H' _ ⟨_, _, s5⟩ => s5.seq (SqL.of hl)) ?_ ?_⟩
    · rintro i y σ H' hi ⟨v, rfl, s5⟩
      obtain ⟨z, hz, rfl⟩ := map_get hi
      walk_at "rd"
      refine ⟨z.1, _, z.2.1, z.2.2, rfl, (hk z (List.mem_of_getElem? hz)).same s5, ?_⟩
      walk_at "rd"
      refine ⟨some (.ref z.1), ?_, s5⟩
      rw [tk_more hz, List.foldl_append]
      all_goals rfl
    · rintro σ H' ⟨v, rfl, s5⟩
      walk_at "rd"
      rw [List.length_map, List.take_length]
      exact k _ s5
def sp__law_source_of (K : PySem.W.Frag) (C : Addr) : Sp := fun vs H Q _ => ∃ (c : Int), vs = [.int c] ∧ ∀ p H', H p = none → Same H H' → SrcAt H' p → Q (.ref p) H'
theorem ok__law_source_of {P : Program} {w : World} {K : PySem.W.Frag} {mg : Str → Option Value} {base : Heap} (T : Txt K mg) : FnOk P w K mg base CX0 1 T.f__law_source_of T.fd__law_source_of ["_law_cell"] (sp__law_source_of K T.C_Kind) := by
  refine T.F__law_source_of.ok sc__law_source_of (fun vs H Q E h => ?_) (fun cdv A outer s H vs Q E hr h => ?_)
  · obtain ⟨c, rfl, _⟩ := h
    rfl
  · obtain ⟨c, rfl, h⟩ := h
    refine ⟨_, (pss_cons (ps_set (i := 0) sc__law_source_of.nd rfl (Or.inl rfl) (pe_ifExp (pt_cmpR op_ge (pv 0 (hv := Or.inl rfl)) pe_int (nomark _)) (pv 0 (hv := Or.inl rfl)) (pe_op op_sub (pe_op op_sub pe_int (pe_op op_mul pe_int (pv 0 (hv := Or.inl rfl)))) pe_int)))
      (pss_one (ps_ret (pe_lst (pa_cons (pe_op op_mul (pv 0 (hv := Or.inl rfl)) (pe_callTy (T := "int") (r := rIntC) call_int1 (by rfl) T.n_int (by decide +kernel) (pa_cons (pe_cmpR op_ge (pv 0 (hv := Or.inl rfl)) (pe_op op_pow pe_int pe_int) (nomark _)) pa_nil))) (pa_cons (pe_op op_mod (pe_callTy (T := "int") (r := rIntC) call_int1 (by rfl) T.n_int (by decide +kernel) (pa_cons (pv 0 (hv := Or.inl rfl)) pa_nil)) pe_int) (pa_cons pe_int pa_nil))))))), ?_⟩
    try dsimp only [cxOf, Cx.nox, Cx.wish, Cx.blk]
    rw [show L2.start ["_law_cell"] [.int c] = [some (.int c)] from rfl]
    walk_at "rd"
    refine w_if ?_
    walk_at "rd"
    refine w_dec (fun _ => ?_) (fun _ => ?_)
    all_goals
      walk_at "rd"
      refine w_I (Or.inr ⟨by split <;> decide, by split <;> decide⟩) ?_
      walk_at "rd"
      refine ⟨by show 3 ≤ sizeLine; decide, fun p hp => ?_⟩
      exact h p _ hp (sm_new (Same.refl H) hp) ⟨_, _, _, upd_same⟩
def sp__law_next (K : PySem.W.Frag) (C : Addr) : Sp := fun vs H Q _ => ∃ (p : Addr) (m : Int), vs = [.ref p, .int m] ∧ SrcAt H p ∧ 0 < m ∧ m.natAbs < 2 ^ 8999 ∧ ∀ v H', 0 ≤ v → v < m → Kp p H H' → SrcAt H' p → Q (.int v) H'
theorem ok__law_next {P : Program} {w : World} {K : PySem.W.Frag} {mg : Str → Option Value} {base : Heap} (T : Txt K mg) : FnOk P w K mg base CX0 1 T.f__law_next T.fd__law_next ["_law_source", "_law_many"] (sp__law_next K T.C_Kind) := by
  refine T.F__law_next.ok sc__law_next (fun vs H Q E h => ?_) (fun cdv A outer s H vs Q E hr h => ?_)
  · obtain ⟨p, m, rfl, _⟩ := h
    rfl
  · obtain ⟨p, m, rfl, h⟩ := h
    refine ⟨_, (pss_cons (ps_if (pt_cmpR op_gt (pe_ix (r := rIxL K) ix_list (pv 0 (hv := Or.inl rfl)) pe_int (fun _ _ => rfl)) pe_int (nomark _)) (pss_cons (ps_set (i := 2) sc__law_next.nd rfl (Or.inl rfl) (pe_op op_mod (pe_callTy (T := "int") (r := rIntC) call_int1 (by rfl) T.n_int (by decide +kernel) (pa_cons (pe_ix (r := rIxL K) ix_list (pv 0 (hv := Or.inl rfl)) pe_int (fun _ _ => rfl)) pa_nil)) (pv 1 (hv := Or.inl rfl))))
      (pss_cons (ps_asg (pe_op op_fdivW (pe_ix (r := rIxL K) ix_list (pv 0 (hv := Or.inl rfl)) pe_int (fun _ _ => rfl)) (pv 1 (hv := Or.inl rfl))) (pg_sub (pv 0 (hv := Or.inl rfl)) pe_int set_list))
      (pss_one (ps_ret (pv 2 (hv := Or.inl rfl)))))) pss_nil)
      (pss_cons (ps_asg (pe_op op_add (pe_ix (r := rIxL K) ix_list (pv 0 (hv := Or.inl rfl)) pe_int (fun _ _ => rfl)) pe_int) (pg_sub (pv 0 (hv := Or.inl rfl)) pe_int set_list))
      (pss_cons (ps_set (i := 3) sc__law_next.nd rfl (Or.inl rfl) pe_int)
      (pss_cons (ps_set (i := 4) sc__law_next.nd rfl (Or.inl rfl) (pe_op op_mod (pe_callTy (T := "int") (r := rIntC) call_int1 (by rfl) T.n_int (by decide +kernel) (pa_cons (pe_op op_add (pe_op op_add (pe_ix (r := rIxL K) ix_list (pv 0 (hv := Or.inl rfl)) pe_int (fun _ _ => rfl)) (pe_op op_mul pe_int (pe_ix (r := rIxL K) ix_list (pv 0 (hv := Or.inl rfl)) pe_int (fun _ _ => rfl)))) pe_int) pa_nil)) (pv 3 (hv := Or.inl rfl))))
      (pss_cons (ps_set (i := 4) sc__law_next.nd rfl (Or.inl rfl) (pe_op op_mod (pe_callTy (T := "int") (r := rIntC) call_int1 (by rfl) T.n_int (by decide +kernel) (pa_cons (pe_op op_mul (pv 4 (hv := Or.inl rfl)) pe_int) pa_nil)) (pv 3 (hv := Or.inl rfl))))
      (pss_cons (ps_set (i := 4) sc__law_next.nd rfl (Or.inl rfl) (pe_op op_mod (pe_callTy (T := "int") (r := rIntC) call_int1 (by rfl) T.n_int (by decide +kernel) (pa_cons (pe_op op_mul (pv 4 (hv := Or.inl rfl)) (pe_op op_add (pe_op op_fdiv (pv 4 (hv := Or.inl rfl)) pe_int) pe_int)) pa_nil)) (pv 3 (hv := Or.inl rfl))))
      (pss_cons (ps_set (i := 4) sc__law_next.nd rfl (Or.inl rfl) (pe_op op_mod (pe_callTy (T := "int") (r := rIntC) call_int1 (by rfl) T.n_int (by decide +kernel) (pa_cons (pe_op op_mul (pv 4 (hv := Or.inl rfl)) (pe_op op_add (pe_op op_fdiv (pv 4 (hv := Or.inl rfl)) pe_int) pe_int)) pa_nil)) pe_int))
      (pss_one (ps_ret (pe_op op_mod (pe_callTy (T := "int") (r := rIntC) call_int1 (by rfl) T.n_int (by decide +kernel) (pa_cons (pe_op op_fdiv (pv 4 (hv := Or.inl rfl)) pe_int) pa_nil)) (pv 1 (hv := Or.inl rfl)))))))))))), ?_⟩
    try dsimp only [cxOf, Cx.nox, Cx.wish, Cx.blk]
    rw [show L2.start ["_law_source", "_law_many", "_law_found", "_law_prime", "_law_number"] [.ref p, .int m] = [some (.ref p), some (.int m), none, none, none] from rfl]
    obtain ⟨⟨a, b, c, hp⟩, h0, hb, k⟩ := h
    have fin : ∀ (x : Int) (H' : Hp), Kp p H H' → SrcAt H' p → Q (.int (x % m)) H' := fun x H' a b => k _ _ (Int.emod_nonneg x (Int.ne_of_gt h0)) (Int.emod_lt_of_pos x h0) a b
    clear k
    walk_at "rd"
    refine w_dec (fun _ => ?_) (fun _ => ?_)
    · walk_at "rd"
      refine w_I h0 ?_
      walk_at "rd"
      refine w_I (wide_div h0 hb (by decide) (by decide)) ?_
      walk_at "rd"
      exact fin _ _ (Kp.refl p H).upd ⟨_, _, _, upd_same⟩
    · walk_at "rd"
      have hp1 : ∀ x : Int, 0 ≤ x % 2147483647 ∧ x % 2147483647 < 2147483647 := fun x => ⟨Int.emod_nonneg x (by decide), Int.emod_lt_of_pos x (by decide)⟩
      refine w_I (CC := CMul) (Or.inl ⟨Int.lt_of_lt_of_le (by decide) (hp1 _).1, Int.lt_trans (hp1 _).2 (by decide)⟩) ?_
      walk_at "rd"
      refine w_I (CC := CMul) (Or.inl ⟨Int.lt_of_lt_of_le (by decide) (hp1 _).1, Int.lt_trans (hp1 _).2 (by decide)⟩) ?_
      walk_at "rd"
      refine w_I h0 ?_
      walk_at "rd"
      exact fin _ _ (Kp.refl p H).upd ⟨_, _, _, upd_same⟩
def sp__law_one (K : PySem.W.Frag) (C : Addr) : Sp := fun vs H Q _ => ∃ (p l : Addr) (ns : List Int), vs = [.ref p, .ref l] ∧ SrcAt H p ∧ H l = some (.lst (ns.map V.int)) ∧ l ≠ p ∧ 0 < ns.length ∧ ns.length ≤ 1000 ∧ ∀ v H', v ∈ ns → Kp p H H' → SrcAt H' p → Q (.int v) H'
theorem ok__law_one {P : Program} {w : World} {K : PySem.W.Frag} {mg : Str → Option Value} {base : Heap} (T : Txt K mg) : FnOk P w K mg base CX0 2 T.f__law_one T.fd__law_one ["_law_source", "_law_some"] (sp__law_one K T.C_Kind) := by
  have G__law_next := ok__law_next (P := P) (w := w) (base := base) T
  refine T.F__law_one.ok sc__law_one (fun vs H Q E h => ?_) (fun cdv A outer s H vs Q E hr h => ?_)
  · obtain ⟨p, l, ns, rfl, _⟩ := h
    rfl
  · obtain ⟨p, l, ns, rfl, h⟩ := h
    have hr__law_next : Room 1 _ := hr.mono (by decide)
    refine ⟨_, (pss_one (ps_ret (pe_ix (r := rIxL K) ix_list (pv 1 (hv := Or.inl rfl)) (pe_call G__law_next hr__law_next rfl T.g__law_next T.k__law_next T.b__law_next .nil pass0 (pa_cons (pv 0 (hv := Or.inl rfl)) (pa_cons (pe_callB (id := "len") (r := rLenS K) call_len_seq (by rfl) T.n_len (by decide +kernel) (pa_cons (pv 1 (hv := Or.inl rfl)) pa_nil)) pa_nil))) (fun _ _ => rfl)))), ?_⟩
    try dsimp only [cxOf, Cx.nox, Cx.wish, Cx.blk]
    rw [show L2.start ["_law_source", "_law_some"] [.ref p, .ref l] = [some (.ref p), some (.ref l)] from rfl]
    obtain ⟨hs, hl, hn, n0, n1, k⟩ := h
    walk_at "rd"
    refine w_len hl ?_
    rw [List.length_map]
    walk_at "rd"
    refine ⟨p, _, rfl, hs, by omega, Nat.lt_trans (show ((ns.length : Nat) : Int).natAbs < 2 ^ 10 by omega) (Nat.pow_lt_pow_right (by decide) (by decide)), fun v H' h1 h2 kp hs' => ?_⟩
    obtain ⟨j, rfl⟩ := Int.eq_ofNat_of_zero_le h1
    have hj : j < ns.length := by omega
    refine w_ixL (kp _ _ hn hl) (atI_nat (v := V.int ns[j]) (by rw [List.getElem?_map, List.getElem?_eq_getElem hj]; rfl)) ?_
    exact k _ _ (List.getElem_mem hj) kp hs'
def sp__law_cell_at (K : PySem.W.Frag) (C : Addr) : Sp := fun vs H Q _ => ∃ (a : Addr) (ns : List Int), vs = [.ref a, .int 0] ∧ SqL K H a (ns.map V.int) ∧ ns.length ≤ 63 ∧ ∀ v H', Same H H' → Q (.int v) H'
theorem ok__law_cell_at {P : Program} {w : World} {K : PySem.W.Frag} {mg : Str → Option Value} {base : Heap} (T : Txt K mg) : FnOk P w K mg base CX0 1 T.f__law_cell_at T.fd__law_cell_at ["_law_script", "_law_index"] (sp__law_cell_at K T.C_Kind) := by
  refine T.F__law_cell_at.ok sc__law_cell_at (fun vs H Q E h => ?_) (fun cdv A outer s H vs Q E hr h => ?_)
  · obtain ⟨a, ns, rfl, _⟩ := h
    rfl
  · obtain ⟨a, ns, rfl, h⟩ := h
    refine ⟨_, (pss_one (ps_ret (pe_ix (r := rIxL K) ix_list (pe_op op_cat (pe_slice sl_list (pv 0 (hv := Or.inl rfl)) (po_some (pv 1 (hv := Or.inl rfl))) (po_some (pe_op op_add (pv 1 (hv := Or.inl rfl)) pe_int))) (pe_lst (pa_cons pe_int pa_nil))) pe_int (fun _ _ => rfl)))), ?_⟩
    try dsimp only [cxOf, Cx.nox, Cx.wish, Cx.blk]
    rw [show L2.start ["_law_script", "_law_index"] [.ref a, .int 0] = [some (.ref a), some (.int 0)] from rfl]
    obtain ⟨hS, n1, k⟩ := h
    walk_at "rd"
    refine w_slL hS (fun p1 h1 => ?_)
    walk_at "rd"
    refine ⟨by show 1 ≤ sizeLine; decide, fun p2 h2 => ?_⟩
    have e1 : (L2.upd (L2.upd H p1 (.lst (cutV (ns.map V.int) (some 0) (some (0 + 1))))) p2 (.lst [V.int 0])) p1 = some (.lst (cutV (ns.map V.int) (some 0) (some (0 + 1)))) := by
      rw [upd_ne (ne_of_none upd_same h2)]; exact upd_same
    have lc : (cutV (ns.map V.int) (some 0) (some (0 + 1))).length ≤ 63 := by
      unfold cutV; rw [List.length_take, List.length_drop, List.length_map]; omega
    refine w_cat e1 upd_same (by show _ + 1 ≤ sizeLine; exact Nat.le_trans (show _ ≤ 64 by omega) (by decide)) (fun p3 h3 => ?_)
    obtain ⟨v, hv⟩ : ∃ v : Int, atI (cutV (ns.map V.int) (some 0) (some (0 + 1)) ++ [V.int 0]) 0 = some (.int v) := by
      cases ns with
      | nil => exact ⟨0, rfl⟩
      | cons n r =>
        refine ⟨n, ?_⟩
        have e : cutV ((n :: r).map V.int) (some 0) (some (0 + 1)) = [V.int n] := by
          unfold cutV
          have q0 : HT.sIx ((n :: r).map V.int).length 0 (some 0) = 0 := (HT.sIx_nat _ _ 0).trans (Nat.zero_min _)
          have q1 : HT.sIx ((n :: r).map V.int).length ((n :: r).map V.int).length (some (0 + 1)) = 1 := (HT.sIx_nat _ _ 1).trans (by rw [List.length_map, List.length_cons]; omega)
          rw [q0, q1]; rfl
        rw [e]; rfl
    walk_at "rd"
    refine w_ixL upd_same hv ?_
    exact k _ _ (sm_new (sm_new (sm_new (Same.refl H) h1) h2) h3)
def sp__law_power (K : PySem.W.Frag) (C : Addr) : Sp := fun vs H Q _ => ∃ (n : Nat), vs = [.int (n : Int)] ∧ n ≤ 100000 ∧ Q (.int (2 ^ n)) H
theorem ok__law_power {P : Program} {w : World} {K : PySem.W.Frag} {mg : Str → Option Value} {base : Heap} (T : Txt K mg) : FnOk P w K mg base CX0 1 T.f__law_power T.fd__law_power ["_law_n_here"] (sp__law_power K T.C_Kind) := by
  refine T.F__law_power.ok sc__law_power (fun vs H Q E h => ?_) (fun cdv A outer s H vs Q E hr h => ?_)
  · obtain ⟨n, rfl, _⟩ := h
    rfl
  · obtain ⟨n, rfl, h⟩ := h
    refine ⟨_, (pss_cons (ps_set (i := 1) sc__law_power.nd rfl (Or.inl rfl) pe_int)
      (pss_cons (ps_for PassesOwn.never rfl (pi_range1 (by rfl) T.n_range (pa_cons (pv 0 (hv := Or.inl rfl)) pa_nil)) (pg_name (i := 2) sc__law_power.nd rfl (Or.inl rfl))
        (pss_one (ps_set (i := 1) sc__law_power.nd rfl (Or.inl rfl) (pe_op op_mul pe_int (pv 1 (hv := Or.inl rfl))))))
      (pss_one (ps_ret (pv 1 (hv := Or.inl rfl)))))), ?_⟩
    try dsimp only [cxOf, Cx.nox, Cx.wish, Cx.blk]
    rw [show L2.start ["_law_n_here", "_law_found", "_law_k"] [.int (n : Int)] = [some (.int (n : Int)), none, none] from rfl]
    obtain ⟨hn, k⟩ := h
    walk_at "rd"
    refine ⟨_, rfl, by omega, by omega, for_range (lo := 0) (n := n) (fun i σ H' => ∃ v : Option V, σ = [some (.int (n : Int)), some (.int (2 ^ i)), v] ∧ H' = H) ⟨none, rfl, rfl⟩ ?_ ?_⟩
    · rintro i σ H' hi ⟨v, rfl, rfl⟩
      walk_at "rd"
      refine ⟨some (.int (0 + (i : Int))), ?_, rfl⟩
      rw [Int.pow_succ, Int.mul_comm]
      all_goals rfl
    · rintro σ H' ⟨v, rfl, rfl⟩
      walk_at "rd"
      exact k
def sp__law_wide (K : PySem.W.Frag) (C : Addr) : Sp := fun vs H Q _ => ∃ (p : Addr) (m : Int), vs = [.ref p, .int m] ∧ SrcAt H p ∧ 0 < m ∧ m.natAbs < 2 ^ 8999 ∧ ∀ v H', 0 ≤ v → v < m → Kp p H H' → SrcAt H' p → Q (.int v) H'
theorem ok__law_wide {P : Program} {w : World} {K : PySem.W.Frag} {mg : Str → Option Value} {base : Heap} (T : Txt K mg) : FnOk P w K mg base CX0 2 T.f__law_wide T.fd__law_wide ["_law_source", "_law_m"] (sp__law_wide K T.C_Kind) := by
  have G__law_next := ok__law_next (P := P) (w := w) (base := base) T
  refine T.F__law_wide.ok sc__law_wide (fun vs H Q E h => ?_) (fun cdv A outer s H vs Q E hr h => ?_)
  · obtain ⟨p, m, rfl, _⟩ := h
    rfl
  · obtain ⟨p, m, rfl, h⟩ := h
    have hr__law_next : Room 1 _ := hr.mono (by decide)
    refine ⟨_, (pss_cons (ps_set (i := 2) sc__law_wide.nd rfl (Or.inl rfl) (pe_call G__law_next hr__law_next rfl T.g__law_next T.k__law_next T.b__law_next .nil pass0 (pa_cons (pv 0 (hv := Or.inl rfl)) (pa_cons (pv 1 (hv := Or.inl rfl)) pa_nil))))
      (pss_cons (ps_for PassesOwn.never rfl (pi_range1 (by rfl) T.n_range (pa_cons (pe_op op_fdiv (pe_bits (pv 1 (hv := Or.inl rfl))) pe_int) pa_nil)) (pg_name (i := 3) sc__law_wide.nd rfl (Or.inl rfl))
        (pss_one (ps_set (i := 2) sc__law_wide.nd rfl (Or.inl rfl) (pe_op op_add (pe_op op_mul (pv 2 (hv := Or.inl rfl)) pe_int) (pe_call G__law_next hr__law_next rfl T.g__law_next T.k__law_next T.b__law_next .nil pass0 (pa_cons (pv 0 (hv := Or.inl rfl)) (pa_cons pe_int pa_nil)))))))
      (pss_one (ps_ret (pe_op op_mod (pe_callTy (T := "int") (r := rIntC) call_int1 (by rfl) T.n_int (by decide +kernel) (pa_cons (pv 2 (hv := Or.inl rfl)) pa_nil)) (pv 1 (hv := Or.inl rfl))))))), ?_⟩
    try dsimp only [cxOf, Cx.nox, Cx.wish, Cx.blk]
    rw [show L2.start ["_law_source", "_law_m", "_law_found", "_law_k"] [.ref p, .int m] = [some (.ref p), some (.int m), none, none] from rfl]
    obtain ⟨hs, h0, hb, k⟩ := h
    have bb := PyProof.Rows.intBits_le hb
    walk_at "rd"
    refine ⟨p, m, rfl, hs, h0, hb, fun v1 H1 _ _ kp1 hs1 => ?_⟩
    walk_at "rd"
    refine ⟨_, rfl, by omega, by omega, for_range (lo := 0) (n := ((Builtin.Int.intBits m : Int) / 30).toNat) (fun i σ H' => ∃ (f : Int) (v : Option V), σ = [some (.ref p), some (.int m), some (.int f), v] ∧ Kp p H H' ∧ SrcAt H' p) ⟨_, none, rfl, kp1, hs1⟩ ?_ ?_⟩
    · rintro i σ H' hi ⟨f, v, rfl, kp, hs'⟩
      walk_at "rd"
      refine ⟨p, _, rfl, hs', by decide, Nat.lt_trans (show (2147483648 : Int).natAbs < 2 ^ 32 by decide) (Nat.pow_lt_pow_right (by decide) (by decide)), fun v1 H1 _ _ kp1 hs1 => ?_⟩
      walk_at "rd"
      exact ⟨_, _, rfl, kp.trans kp1, hs1⟩
    · rintro σ H' ⟨f, v, rfl, kp, hs'⟩
      walk_at "rd"
      refine w_I h0 ?_
      walk_at "rd"
      exact k _ _ (Int.emod_nonneg _ (Int.ne_of_gt h0)) (Int.emod_lt_of_pos _ h0) kp hs'
def sp__law_placed (K : PySem.W.Frag) (C : Addr) : Sp := fun vs H Q _ => ∃ (t : Addr) (n : Int) (wd : Nat) (s : Bool), vs = [.ref t, .int n] ∧ H t = some (.tup [.int (wd : Int), .bl s]) ∧ 1 ≤ wd ∧ wd ≤ 128 ∧ Q (.int (wr wd s n)) H
theorem ok__law_placed {P : Program} {w : World} {K : PySem.W.Frag} {mg : Str → Option Value} {base : Heap} (T : Txt K mg) : FnOk P w K mg base CX0 2 T.f__law_placed T.fd__law_placed ["_law_parts", "_law_n_here"] (sp__law_placed K T.C_Kind) := by
  have G__law_power := ok__law_power (P := P) (w := w) (base := base) T
  refine T.F__law_placed.ok sc__law_placed (fun vs H Q E h => ?_) (fun cdv A outer s H vs Q E hr h => ?_)
  · obtain ⟨t, n, wd, s, rfl, _⟩ := h
    rfl
  · obtain ⟨t, n, wd, s, rfl, h⟩ := h
    have hr__law_power : Room 1 _ := hr.mono (by decide)
    refine ⟨_, (pss_cons (ps_asg (pv 0 (hv := Or.inl rfl)) (pg_tup rfl (pgs_cons (pg_name (i := 2) sc__law_placed.nd rfl (Or.inl rfl)) (pgs_cons (pg_name (i := 3) sc__law_placed.nd rfl (Or.inl rfl)) pgs_nil))))
      (pss_cons (ps_set (i := 4) sc__law_placed.nd rfl (Or.inl rfl) (pe_call G__law_power hr__law_power rfl T.g__law_power T.k__law_power T.b__law_power .nil pass0 (pa_cons (pv 2 (hv := Or.inl rfl)) pa_nil)))
      (pss_cons (ps_set (i := 5) sc__law_placed.nd rfl (Or.inl rfl) (pe_op op_mod (pe_callTy (T := "int") (r := rIntC) call_int1 (by rfl) T.n_int (by decide +kernel) (pa_cons (pv 1 (hv := Or.inl rfl)) pa_nil)) (pv 4 (hv := Or.inl rfl))))
      (pss_one (ps_ret (pe_ifExp (PW.pt (pw_and (pt_val (pv 3 (hv := Or.inl rfl))) (pw_and1 (pt_cmpR op_ge (pv 5 (hv := Or.inl rfl)) (pe_call G__law_power hr__law_power rfl T.g__law_power T.k__law_power T.b__law_power .nil pass0 (pa_cons (pe_op op_sub (pv 2 (hv := Or.inl rfl)) pe_int) pa_nil)) (nomark _))))) (pe_op op_sub (pv 5 (hv := Or.inl rfl)) (pv 4 (hv := Or.inl rfl))) (pv 5 (hv := Or.inl rfl)))))))), ?_⟩
    try dsimp only [cxOf, Cx.nox, Cx.wish, Cx.blk]
    rw [show L2.start ["_law_parts", "_law_n_here", "_law_bits", "_law_is_signed", "_law_many", "_law_rest"] [.ref t, .int n] = [some (.ref t), some (.int n), none, none, none, none] from rfl]
    obtain ⟨ht, w1, w2, k⟩ := h
    rw [← pl_wr w1] at k
    walk_at "rd"
    refine ⟨wd, rfl, by omega, ?_⟩
    walk_at "rd"
    refine w_I (p2 wd) ?_
    walk_at "rd"
    refine w_if ?_
    walk_at "rd"
    cases s with
    | false =>
      refine iteF ?_
      walk_at "rd"
      refine iteF ?_
      walk_at "rd"
      unfold pl at k
      rw [if_neg (by intro z; exact Bool.false_ne_true z.1)] at k
      exact k
    | true =>
      refine iteT ?_
      walk_at "rd"
      have e : (wd : Int) - 1 = ((wd - 1 : Nat) : Int) := by omega
      rw [e]
      refine ⟨wd - 1, rfl, by omega, ?_⟩
      walk_at "rd"
      refine w_dec (fun c => ?_) (fun c => ?_)
      · walk_at "rd"
        unfold pl at k
        rw [if_pos ⟨rfl, c⟩] at k
        exact k
      · walk_at "rd"
        unfold pl at k
        rw [if_neg (fun z => c z.2)] at k
        exact k
def sp__law_integers (K : PySem.W.Frag) (C : Addr) : Sp := fun vs H Q _ => ∃ (p : Addr) (wd : Nat), vs = [.ref p, .int (wd : Int)] ∧ SrcAt H p ∧ 1 ≤ wd ∧ wd ≤ 128 ∧ ∀ (q : Addr) H' (ns : List Int), H q = none → Kp p H H' → SrcAt H' p → H' q = some (.lst (ns.map V.int)) → ns.length ≤ 100 → Q (.ref q) H'
theorem ok__law_integers {P : Program} {w : World} {K : PySem.W.Frag} {mg : Str → Option Value} {base : Heap} (T : Txt K mg) : FnOk P w K mg base CX0 3 T.f__law_integers T.fd__law_integers ["_law_source", "_law_bits"] (sp__law_integers K T.C_Kind) := by
  have G__law_next := ok__law_next (P := P) (w := w) (base := base) T
  have G__law_power := ok__law_power (P := P) (w := w) (base := base) T
  have G__law_wide := ok__law_wide (P := P) (w := w) (base := base) T
  refine T.F__law_integers.ok sc__law_integers (fun vs H Q E h => ?_) (fun cdv A outer s H vs Q E hr h => ?_)
  · obtain ⟨p, wd, rfl, _⟩ := h
    rfl
  · obtain ⟨p, wd, rfl, h⟩ := h
    have hr__law_next : Room 1 _ := hr.mono (by decide)
    have hr__law_power : Room 1 _ := hr.mono (by decide)
    have hr__law_wide : Room 2 _ := hr.mono (by decide)
    refine ⟨_, (pss_cons (ps_set (i := 2) sc__law_integers.nd rfl (Or.inl rfl) (pe_lst (pa_cons pe_int (pa_cons pe_int (pa_cons (pe_un un_neg pe_int) (pa_cons (pe_op op_pow pe_int pe_int) (pa_cons (pe_un un_neg (pe_op op_pow pe_int pe_int)) (pa_cons (pe_op op_add (pe_call G__law_power hr__law_power rfl T.g__law_power T.k__law_power T.b__law_power .nil pass0 (pa_cons pe_int pa_nil)) (pe_call G__law_next hr__law_next rfl T.g__law_next T.k__law_next T.b__law_next .nil pass0 (pa_cons (pv 0 (hv := Or.inr (Or.inl rfl))) (pa_cons pe_int pa_nil)))) (pa_cons (pe_op op_sub pe_int (pe_call G__law_power hr__law_power rfl T.g__law_power T.k__law_power T.b__law_power .nil pass0 (pa_cons pe_int pa_nil))) pa_nil)))))))))
      (pss_cons (ps_for PassesOwn.never rfl (pi_list (pe_lst (pa_cons (pe_op op_sub (pv 1 (hv := Or.inl rfl)) pe_int) (pa_cons (pv 1 (hv := Or.inl rfl)) (pa_cons (pe_op op_add (pv 1 (hv := Or.inl rfl)) pe_int) (pa_cons (pe_call G__law_next hr__law_next rfl T.g__law_next T.k__law_next T.b__law_next .nil pass0 (pa_cons (pv 0 (hv := Or.inr (Or.inl rfl))) (pa_cons pe_int pa_nil))) pa_nil)))))) (pg_name (i := 3) sc__law_integers.nd rfl (Or.inl rfl))
        (pss_cons (ps_set (i := 2) sc__law_integers.nd rfl (Or.inl rfl) (pe_op op_cat (pv 2 (hv := Or.inl rfl)) (pe_lst (pa_cons (pe_call G__law_power hr__law_power rfl T.g__law_power T.k__law_power T.b__law_power .nil pass0 (pa_cons (pv 3 (hv := Or.inl rfl)) pa_nil)) (pa_cons (pe_op op_sub (pe_call G__law_power hr__law_power rfl T.g__law_power T.k__law_power T.b__law_power .nil pass0 (pa_cons (pv 3 (hv := Or.inl rfl)) pa_nil)) pe_int) (pa_cons (pe_op op_sub pe_int (pe_call G__law_power hr__law_power rfl T.g__law_power T.k__law_power T.b__law_power .nil pass0 (pa_cons (pv 3 (hv := Or.inl rfl)) pa_nil))) (pa_cons (pe_op op_sub pe_int (pe_call G__law_power hr__law_power rfl T.g__law_power T.k__law_power T.b__law_power .nil pass0 (pa_cons (pv 3 (hv := Or.inl rfl)) pa_nil))) pa_nil)))))))
      (pss_one (ps_set (i := 2) sc__law_integers.nd rfl (Or.inl rfl) (pe_op op_cat (pv 2 (hv := Or.inl rfl)) (pe_lst (pa_cons (pe_op op_sub (pe_op op_sub pe_int (pe_call G__law_power hr__law_power rfl T.g__law_power T.k__law_power T.b__law_power .nil pass0 (pa_cons (pv 3 (hv := Or.inl rfl)) pa_nil))) pe_int) pa_nil)))))))
      (pss_one (ps_ret (pe_op op_cat (pv 2 (hv := Or.inl rfl)) (pe_lc (own := [("_law_turn", 4)]) (g := gName 4) (tt := tYes) (by rfl) sc__law_integers.nd (pi_range1 (by rfl) T.n_range (pa_cons pe_int pa_nil)) (blkOk_by (own := [("_law_turn", 4)]) (N := ["_law_source", "_law_bits", "_law_found", "_law_k", "_law_turn"]) (sc := defScope s__law_integers) (by decide +kernel)) (fun _ _ _ _ _ => (pg_name (i := 4) sc__law_integers.nd rfl (Or.inl rfl))) (fun _ _ _ _ _ => pts_nil) (fun _ _ _ _ _ => (pe_op op_sub (pe_call G__law_wide hr__law_wide rfl T.g__law_wide T.k__law_wide T.b__law_wide .nil pass0 (pa_cons (pv 0 (hv := Or.inr (Or.inl rfl))) (pa_cons (pe_op op_pow pe_int pe_int) pa_nil))) (pe_call G__law_wide hr__law_wide rfl T.g__law_wide T.k__law_wide T.b__law_wide .nil pass0 (pa_cons (pv 0 (hv := Or.inr (Or.inl rfl))) (pa_cons (pe_op op_pow pe_int pe_int) pa_nil))))))))))), ?_⟩
    try dsimp only [cxOf, Cx.nox, Cx.wish, Cx.blk]
    rw [show L2.start ["_law_source", "_law_bits", "_law_found", "_law_k", "_law_turn"] [.ref p, .int (wd : Int)] = [some (.ref p), some (.int (wd : Int)), none, none, none] from rfl]
    obtain ⟨hs, w1, w2, k⟩ := h
    walk_at "rd"
    refine ⟨3300, rfl, by decide, ?_⟩
    walk_at "rd"
    refine ⟨p, 999, rfl, hs, by decide, b9 (by decide), fun v1 H1 _ _ kp1 hs1 => ?_⟩
    walk_at "rd"
    refine ⟨3300, rfl, by decide, ?_⟩
    walk_at "rd"
    refine ⟨by show 7 ≤ sizeLine; decide, fun q0 hq0 => ?_⟩
    walk_at "rd"
    refine ⟨p, 130, rfl, hs1.new hq0, by decide, b9 (by decide), fun d H2 d0 d1 kp2 hs2 => ?_⟩
    walk_at "rd"
    refine ⟨by show 4 ≤ sizeLine; decide, fun q1 hq1 => ?_⟩
    walk_at "rd"
    obtain ⟨dn, rfl⟩ := Int.eq_ofNat_of_zero_le d0
    have kp3 : Kp p H H2 := (kp1.new hq0).trans kp2
    refine ⟨⟨_, SqL.of upd_same⟩, for_list (K := K) (a := q1) (xs := [.int ((wd : Int) - 1), .int (wd : Int), .int ((wd : Int) + 1), .int (dn : Int)])
      (fun i σ H' => ∃ (l : Addr) (ns : List Int) (v : Option V), σ = [some (.ref p), some (.int (wd : Int)), some (.ref l), v, none] ∧ H' l = some (.lst (ns.map V.int)) ∧ l ≠ p ∧ ns.length ≤ 7 + 5 * i ∧ Kp p H H' ∧ SrcAt H' p ∧
        H' q1 = some (.lst [.int ((wd : Int) - 1), .int (wd : Int), .int ((wd : Int) + 1), .int (dn : Int)]))
      ⟨q0, [_, _, _, _, _, _, _], none, rfl, gn (kp2 _ _ (hs1.ne hq0) upd_same) hq1, hs1.ne hq0, Nat.le_refl _, kp3.new hq1, hs2.new hq1, upd_same⟩
      (fun i σ H' _ ⟨_, _, _, _, _, _, _, _, _, q⟩ => SqL.of q) ?_ ?_⟩
    · rintro i x σ H' hi ⟨l, ns, v, rfl, hl, nlp, n1, kp, hs', hx⟩
      have il := get_lt hi
      obtain ⟨kn, rfl, kb⟩ : ∃ kn : Nat, x = V.int (kn : Int) ∧ kn ≤ 130 := by
        rcases i with _ | _ | _ | _ | i
        · exact ⟨wd - 1, by
            have e : (wd : Int) - 1 = ((wd - 1 : Nat) : Int) := by omega
            rw [← e]; exact (Option.some.inj hi).symm, by omega⟩
        · exact ⟨wd, (Option.some.inj hi).symm, by omega⟩
        · exact ⟨wd + 1, (Option.some.inj hi).symm, by omega⟩
        · exact ⟨dn, (Option.some.inj hi).symm, by omega⟩
        · cases hi
      clear hi
      walk_at "rd"
      refine ⟨kn, rfl, by omega, ?_⟩
      walk_at "rd"
      refine ⟨kn, rfl, by omega, ?_⟩
      walk_at "rd"
      refine ⟨kn, rfl, by omega, ?_⟩
      walk_at "rd"
      refine ⟨kn, rfl, by omega, ?_⟩
      walk_at "rd"
      refine ⟨by show 4 ≤ sizeLine; decide, fun q2 hq2 => ?_⟩
      refine w_cat (gn hl hq2) upd_same (by rw [List.length_map]; exact Nat.le_trans (show ns.length + 4 ≤ 40 by have := il; simp at this; omega) (by decide)) (fun q3 hq3 => ?_)
      walk_at "rd"
      refine ⟨kn, rfl, by omega, ?_⟩
      walk_at "rd"
      refine ⟨by show 1 ≤ sizeLine; decide, fun q4 hq4 => ?_⟩
      refine w_cat (gn upd_same hq4) upd_same (by rw [List.length_append, List.length_map]; exact Nat.le_trans (show ns.length + 4 + 1 ≤ 40 by have := il; simp at this; omega) (by decide)) (fun q5 hq5 => ?_)
      walk_at "rd"
      refine ⟨q5, ns ++ [2 ^ kn, 2 ^ kn - 1, 0 - 2 ^ kn, 1 - 2 ^ kn] ++ [0 - 2 ^ kn - 1], _, rfl, Eq.trans upd_same ?_, ((((hs'.new hq2).new hq3).new hq4).ne hq5), ?_, (((kp.new hq2).new hq3).new hq4).new hq5, (((hs'.new hq2).new hq3).new hq4).new hq5, gn (gn (gn (gn hx hq2) hq3) hq4) hq5⟩
      · rw [List.map_append, List.map_append]; rfl
      · rw [List.length_append, List.length_append]; show ns.length + 4 + 1 ≤ _; omega
    · rintro σ H' ⟨l, ns, v, rfl, hl, nlp, n1, kp, hs', hx⟩
      walk_at "rd"
      refine ⟨6, rfl, by decide, by decide, fun D hD => lc_range (lo := 0) (n := 6) (fun i H2 => ∃ ms : List Int, H2 D = some (.lst (ms.map V.int)) ∧ ms.length = i ∧ Kp p H H2 ∧ SrcAt H2 p ∧ H2 l = some (.lst (ns.map V.int))) ⟨[], upd_same, rfl, kp.new hD, hs'.new hD, gn hl hD⟩ ?_ ?_⟩
      · rintro i H2 hi ⟨ms, hm, ml, kp2, hs2, hl2⟩
        have nD : D ≠ p := hs'.ne hD
        have nl : l ≠ D := ne_of_none hl hD
        walk_at "rd"
        refine ⟨rfl, ?_⟩
        walk_at "rd"
        refine iteT ?_
        walk_at "rd"
        refine ⟨p, _, rfl, hs2, by decide, b9 (by decide), fun v1 H3 _ _ kp3 hs3 => ?_⟩
        walk_at "rd"
        refine ⟨p, _, rfl, hs3, by decide, b9 (by decide), fun v2 H4 _ _ kp4 hs4 => ?_⟩
        walk_at "rd"
        refine ⟨_, kp4 _ _ nD (kp3 _ _ nD hm), (by rw [List.length_map]; exact small1000 (by omega)), ms ++ [v1 - v2], Eq.trans upd_same ?_, ?_, kp_mut ((kp2.trans kp3).trans kp4) (kp.free nD hD), hs4.mut nD, ?_⟩
        · rw [List.map_append]; rfl
        · rw [List.length_append, ml]; rfl
        · rw [upd_ne nl]; exact kp4 _ _ nlp (kp3 _ _ nlp hl2)
      · rintro H2 ⟨ms, hm, ml, kp2, hs2, hl2⟩
        refine w_cat hl2 hm (by rw [List.length_map, List.length_map]; exact Nat.le_trans (show ns.length + ms.length ≤ 40 by simp at n1; omega) (by decide)) (fun r hr => ?_)
        refine k r _ (ns ++ ms) (kp2.free (hs2.ne hr) hr) (kp2.new hr) (hs2.new hr) (Eq.trans upd_same (by rw [List.map_append])) ?_
        rw [List.length_append]; simp at n1; omega
def sp__law_right (K : PySem.W.Frag) (C : Addr) : Sp := fun vs H Q _ => ∃ (t l : Addr) (wd : Nat) (s : Bool) (ns : List Int), vs = [.ref t, .ref l] ∧ H t = some (.tup [.int (wd : Int), .bl s]) ∧ H l = some (.lst (ns.map V.int)) ∧ 1 ≤ wd ∧ wd ≤ 128 ∧ ∀ H', Same H H' → Q (.bl true) H'
theorem ok__law_right {P : Program} {w : World} {K : PySem.W.Frag} {mg : Str → Option Value} {base : Heap} (T : Txt K mg) : FnOk P w K mg base CX0 5 T.f__law_right T.fd__law_right ["_law_parts", "_law_some"] (sp__law_right K T.C_Kind) := by
  have G_Kind___init__ := ok_Kind___init__ (P := P) (w := w) (base := base) T
  have G__law_placed := ok__law_placed (P := P) (w := w) (base := base) T
  have G__law_power := ok__law_power (P := P) (w := w) (base := base) T
  have G_cast := ok_cast (P := P) (w := w) (base := base) T
  have G_greatest := ok_greatest (P := P) (w := w) (base := base) T
  have G_is_value := ok_is_value (P := P) (w := w) (base := base) T
  have G_least := ok_least (P := P) (w := w) (base := base) T
  have G_wrapped := ok_wrapped (P := P) (w := w) (base := base) T
  refine T.F__law_right.ok sc__law_right (fun vs H Q E h => ?_) (fun cdv A outer s H vs Q E hr h => ?_)
  · obtain ⟨t, l, wd, s, ns, rfl, _⟩ := h
    rfl
  · obtain ⟨t, l, wd, s, ns, rfl, h⟩ := h
    have hr_Kind___init__ : Room 3 _ := hr.mono (by decide)
    have hr__law_placed : Room 2 _ := hr.mono (by decide)
    have hr__law_power : Room 1 _ := hr.mono (by decide)
    have hr_cast : Room 4 _ := hr.mono (by decide)
    have hr_greatest : Room 3 _ := hr.mono (by decide)
    have hr_is_value : Room 4 _ := hr.mono (by decide)
    have hr_least : Room 2 _ := hr.mono (by decide)
    have hr_wrapped : Room 3 _ := hr.mono (by decide)
    refine ⟨_, (pss_cons (ps_asg (pv 0 (hv := Or.inl rfl)) (pg_tup rfl (pgs_cons (pg_name (i := 2) sc__law_right.nd rfl (Or.inl rfl)) (pgs_cons (pg_name (i := 3) sc__law_right.nd rfl (Or.inl rfl)) pgs_nil))))
      (pss_cons (ps_set (i := 4) sc__law_right.nd rfl (Or.inr rfl) (pe_make T.mk_Kind G_Kind___init__ hr_Kind___init__ rfl T.g_Kind T.b_Kind___init__ .nil pass0 (pa_cons (pv 2 (hv := Or.inl rfl)) (pa_cons (pv 3 (hv := Or.inl rfl)) pa_nil))))
      (pss_cons (ps_set (i := 5) sc__law_right.nd rfl (Or.inl rfl) (pe_ifExp (pt_val (pv 3 (hv := Or.inl rfl))) (pe_op op_sub pe_int (pe_call G__law_power hr__law_power rfl T.g__law_power T.k__law_power T.b__law_power .nil pass0 (pa_cons (pe_op op_sub (pv 2 (hv := Or.inl rfl)) pe_int) pa_nil))) pe_int))
      (pss_cons (ps_set (i := 6) sc__law_right.nd rfl (Or.inl rfl) (pe_op op_sub (pe_op op_add (pv 5 (hv := Or.inl rfl)) (pe_call G__law_power hr__law_power rfl T.g__law_power T.k__law_power T.b__law_power .nil pass0 (pa_cons (pv 2 (hv := Or.inl rfl)) pa_nil))) pe_int))
      (pss_cons (ps_if (pt_cmpR op_ne (pe_call G_least hr_least rfl T.g_least T.k_least T.b_least .nil pass0 (pa_cons (pv 4 (hv := Or.inr (Or.inl rfl))) pa_nil)) (pv 5 (hv := Or.inl rfl)) (nomark _)) (pss_one (ps_ret pe_bl)) pss_nil)
      (pss_cons (ps_if (pt_cmpR op_ne (pe_call G_greatest hr_greatest rfl T.g_greatest T.k_greatest T.b_greatest .nil pass0 (pa_cons (pv 4 (hv := Or.inr (Or.inl rfl))) pa_nil)) (pv 6 (hv := Or.inl rfl)) (nomark _)) (pss_one (ps_ret pe_bl)) pss_nil)
      (pss_cons (ps_if (pt_cmpR op_ne (pe_callK0 G_least hr_least rfl T.g_least T.k_least T.kb_least_0_kind pass0 (pk_cons (pv 4 (hv := Or.inr (Or.inl rfl))) pk_nil)) (pv 5 (hv := Or.inl rfl)) (nomark _)) (pss_one (ps_ret pe_bl)) pss_nil)
      (pss_cons (ps_if (pt_cmpR op_ne (pe_callK0 G_greatest hr_greatest rfl T.g_greatest T.k_greatest T.kb_greatest_0_kind pass0 (pk_cons (pv 4 (hv := Or.inr (Or.inl rfl))) pk_nil)) (pv 6 (hv := Or.inl rfl)) (nomark _)) (pss_one (ps_ret pe_bl)) pss_nil)
      (pss_cons (ps_for PassesOwn.never rfl (pi_list (pv 1 (hv := Or.inl rfl))) (pg_name (i := 7) sc__law_right.nd rfl (Or.inl rfl))
        (pss_cons (ps_set (i := 8) sc__law_right.nd rfl (Or.inl rfl) (pe_call G__law_placed hr__law_placed rfl T.g__law_placed T.k__law_placed T.b__law_placed .nil pass0 (pa_cons (pv 0 (hv := Or.inl rfl)) (pa_cons (pv 7 (hv := Or.inl rfl)) pa_nil))))
      (pss_cons (ps_if (pt_cmpR op_ne (pe_call G_wrapped hr_wrapped rfl T.g_wrapped T.k_wrapped T.b_wrapped .nil pass0 (pa_cons (pv 4 (hv := Or.inr (Or.inl rfl))) (pa_cons (pv 7 (hv := Or.inl rfl)) pa_nil))) (pv 8 (hv := Or.inl rfl)) (nomark _)) (pss_one (ps_ret pe_bl)) pss_nil)
      (pss_cons (ps_if (pt_cmpR op_ne (pe_callK0 G_wrapped hr_wrapped rfl T.g_wrapped T.k_wrapped T.kb_wrapped_0_n_kind pass0 (pk_cons (pv 7 (hv := Or.inl rfl)) (pk_cons (pv 4 (hv := Or.inr (Or.inl rfl))) pk_nil))) (pv 8 (hv := Or.inl rfl)) (nomark _)) (pss_one (ps_ret pe_bl)) pss_nil)
      (pss_cons (ps_if (pt_cmpR op_ne (pe_call G_cast hr_cast rfl T.g_cast T.k_cast T.b_cast .nil pass0 (pa_cons (pe_lst (pa_cons (pv 4 (hv := Or.inr (Or.inl rfl))) pa_nil)) (pa_cons (pv 7 (hv := Or.inl rfl)) pa_nil))) (pv 8 (hv := Or.inl rfl)) (nomark _)) (pss_one (ps_ret pe_bl)) pss_nil)
      (pss_cons (ps_if (pt_cmpR op_ne (pe_call G_is_value hr_is_value rfl T.g_is_value T.k_is_value T.b_is_value .nil pass0 (pa_cons (pv 4 (hv := Or.inr (Or.inl rfl))) (pa_cons (pv 7 (hv := Or.inl rfl)) pa_nil))) (pe_chain op_le op_le (pv 5 (hv := Or.inl rfl)) (pv 7 (hv := Or.inl rfl)) (pv 6 (hv := Or.inl rfl))) (nomark _)) (pss_one (ps_ret pe_bl)) pss_nil)
      (pss_cons (ps_if (pt_cmpR op_ne (pe_callK0 G_is_value hr_is_value rfl T.g_is_value T.k_is_value T.kb_is_value_0_x_kind pass0 (pk_cons (pv 7 (hv := Or.inl rfl)) (pk_cons (pv 4 (hv := Or.inr (Or.inl rfl))) pk_nil))) (pe_chain op_le op_le (pv 5 (hv := Or.inl rfl)) (pv 7 (hv := Or.inl rfl)) (pv 6 (hv := Or.inl rfl))) (nomark _)) (pss_one (ps_ret pe_bl)) pss_nil)
      (pss_one (ps_if (PW.pt (pw_or (pt_not (pt_val (pe_call G_is_value hr_is_value rfl T.g_is_value T.k_is_value T.b_is_value .nil pass0 (pa_cons (pv 4 (hv := Or.inr (Or.inl rfl))) (pa_cons (pv 8 (hv := Or.inl rfl)) pa_nil))))) (pw_or1 (pt_cmpR op_ne (pe_call G_wrapped hr_wrapped rfl T.g_wrapped T.k_wrapped T.b_wrapped .nil pass0 (pa_cons (pv 4 (hv := Or.inr (Or.inl rfl))) (pa_cons (pv 8 (hv := Or.inl rfl)) pa_nil))) (pv 8 (hv := Or.inl rfl)) (nomark _))))) (pss_one (ps_ret pe_bl)) pss_nil)))))))))
      (pss_one (ps_ret (pe_cmpR (op_eqD hr.units) (pe_lc (own := [("_law_odd", 9)]) (g := gName 9) (by rfl) sc__law_right.nd (pi_list (pe_lst (pa_cons pe_non (pa_cons pe_bl (pa_cons pe_str (pa_cons (pe_lst (pa_cons pe_int pa_nil)) (pa_cons (pe_tup (pa_cons pe_int pa_nil)) (pa_cons pe_dnewK pa_nil)))))))) (blkOk_by (own := [("_law_odd", 9)]) (N := ["_law_parts", "_law_some", "_law_bits", "_law_is_signed", "_law_sort_of", "_law_low", "_law_high", "_law_n_here", "_law_due", "_law_odd"]) (sc := defScope s__law_right) (by decide +kernel)) (fun _ _ _ _ _ => (pg_name (i := 9) sc__law_right.nd rfl (Or.inl rfl))) (fun _ _ _ _ _ => pts_one (pt_val (pe_call G_is_value hr_is_value rfl T.g_is_value T.k_is_value T.b_is_value .nil pass0 (pa_cons (pv 4 (hv := Or.inr (Or.inl rfl))) (pa_cons (pv 9 (hv := Or.inl rfl)) pa_nil))))) (fun _ _ _ _ _ => (pv 9 (hv := Or.inl rfl)))) (pe_lst pa_nil) (nomark _))))))))))))), ?_⟩
    try dsimp only [cxOf, Cx.nox, Cx.wish, Cx.blk]
    rw [show L2.start ["_law_parts", "_law_some", "_law_bits", "_law_is_signed", "_law_sort_of", "_law_low", "_law_high", "_law_n_here", "_law_due", "_law_odd"] [.ref t, .ref l] = [some (.ref t), some (.ref l), none, none, none, none, none, none, none, none] from rfl]
    obtain ⟨ht, hl, w1, w2, k⟩ := h
    walk_at "rd"
    intro kx dx nx ndx nex
    refine ⟨kx, wd, s, rfl, ⟨dx, upd_same⟩, w1, w2, fun H1 hk kp1 => ⟨rfl, ?_⟩⟩
    have s1 : Same H H1 := fun b o e => kp1 b o (ne_of_none e nx) (by rw [upd_ne (ne_of_none e nx), upd_ne (ne_of_none e ndx)]; exact e)
    walk_at "rd"
    refine w_val (.int (loK wd s)) (fun Q q => ?_) ?_
    · refine w_if ?_
      walk_at "rd"
      cases s with
      | false => refine iteF ?_; walk_at "rd"; exact q
      | true =>
        refine iteT ?_
        walk_at "rd"
        have e : (wd : Int) - 1 = ((wd - 1 : Nat) : Int) := by omega
        rw [e]
        refine ⟨wd - 1, rfl, by omega, ?_⟩
        walk_at "rd"
        rw [Int.zero_sub]
        exact q
    walk_at "rd"
    refine ⟨wd, rfl, by omega, ?_⟩
    walk_at "rd"
    refine ⟨kx, wd, s, rfl, hk, ?_⟩
    walk_at "rd"
    refine w_ndecT rfl ?_
    walk_at "rd"
    refine ⟨kx, wd, s, rfl, hk, ?_⟩
    walk_at "rd"
    refine w_ndecT rfl ?_
    walk_at "rd"
    refine ⟨kx, wd, s, rfl, hk, ?_⟩
    walk_at "rd"
    refine w_ndecT rfl ?_
    walk_at "rd"
    refine ⟨kx, wd, s, rfl, hk, ?_⟩
    walk_at "rd"
    refine w_ndecT rfl ?_
    walk_at "rd"
    refine ⟨⟨_, SqL.of (s1 _ _ hl)⟩, for_list (K := K) (a := l) (xs := ns.map V.int) (fun i σ H' => ∃ v7 v8 : Option V, σ = [some (.ref t), some (.ref l), some (.int (wd : Int)), some (.bl s), some (.ref kx), some (.int (loK wd s)), some (.int (hiK wd s)), v7, v8, none] ∧ Same H H' ∧ Kd T.C_Kind H' kx wd s)
      ⟨none, none, rfl, s1, hk⟩ (fun i σ H' _ ⟨_, _, _, s5, _⟩ => s5.seq (SqL.of hl)) ?_ ?_⟩
    · rintro i y σ H' hi ⟨v7, v8, rfl, s5, hk5⟩
      obtain ⟨n, hn, rfl⟩ := map_get hi
      walk_at "rd"
      refine ⟨t, n, wd, s, rfl, s5 _ _ ht, w1, w2, ?_⟩
      walk_at "rd"
      refine ⟨kx, n, wd, s, rfl, hk5, ?_⟩
      walk_at "rd"
      refine w_ndecT rfl ?_
      walk_at "rd"
      refine ⟨kx, n, wd, s, rfl, hk5, ?_⟩
      walk_at "rd"
      refine w_ndecT rfl ?_
      walk_at "rd"
      refine ⟨by show 1 ≤ sizeLine; decide, fun q hq => ?_⟩
      walk_at "rd"
      have hk6 : Kd T.C_Kind (L2.upd H' q (.lst [V.ref kx])) kx wd s := hk5.same (sm_new (Same.refl H') hq)
      refine ⟨q, n, [(kx, wd, s)], rfl, upd_same, ?_, by simp, by simp, fun H7 s7 => ?_⟩
      · intro k hk
        cases List.mem_singleton.mp hk
        exact hk6
      have hk7 := hk6.same s7
      have s8 : Same H H7 := (sm_new s5 hq).trans s7
      walk_at "rd"
      refine w_ndecT rfl ?_
      walk_at "rd"
      refine ⟨kx, _, wd, s, rfl, hk7, .inl ⟨n, rfl, ?_⟩⟩
      walk_at "rd"
      refine w_val (.bl (decide (loK wd s ≤ n ∧ n ≤ hiK wd s))) (fun Q q => ?_) ?_
      · refine w_chain ?_
        walk_at "rd"
        refine w_dec (fun h1 => ?_) (fun h1 => ?_)
        · walk_at "rd"
          have e : decide (loK wd s ≤ n ∧ n ≤ hiK wd s) = decide (n ≤ hiK wd s) := by simp [h1]
          rw [e] at q
          exact q
        · have e : decide (loK wd s ≤ n ∧ n ≤ hiK wd s) = false := by simp [h1]
          rw [e] at q
          exact q
      walk_at "rd"
      refine w_ndecT rfl ?_
      walk_at "rd"
      refine ⟨kx, _, wd, s, rfl, hk7, .inl ⟨n, rfl, ?_⟩⟩
      walk_at "rd"
      refine w_val (.bl (decide (loK wd s ≤ n ∧ n ≤ hiK wd s))) (fun Q q => ?_) ?_
      · refine w_chain ?_
        walk_at "rd"
        refine w_dec (fun h1 => ?_) (fun h1 => ?_)
        · walk_at "rd"
          have e : decide (loK wd s ≤ n ∧ n ≤ hiK wd s) = decide (n ≤ hiK wd s) := by simp [h1]
          rw [e] at q
          exact q
        · have e : decide (loK wd s ≤ n ∧ n ≤ hiK wd s) = false := by simp [h1]
          rw [e] at q
          exact q
      walk_at "rd"
      refine w_ndecT rfl ?_
      walk_at "rd"
      refine ⟨kx, _, wd, s, rfl, hk7, .inl ⟨_, rfl, ?_⟩⟩
      walk_at "rd"
      refine w_ndecT ⟨wr_lo _ _ _, wr_hi _ _ _⟩ ?_
      walk_at "rd"
      refine ⟨kx, _, wd, s, rfl, hk7, ?_⟩
      walk_at "rd"
      refine w_ndecT (wr_id (wr_lo _ _ _) (wr_hi _ _ _)) ?_
      walk_at "rd"
      exact ⟨_, _, rfl, s8, hk7⟩
    · rintro σ H' ⟨v7, v8, rfl, s5, hk5⟩
      walk_at "rd"
      refine ⟨by show 1 ≤ sizeLine; decide, fun a1 h1 => ?_⟩
      walk_at "rd"
      refine ⟨by show 1 ≤ sizeLine; decide, fun a2 h2 => ?_⟩
      walk_at "rd"
      intro a3 h3
      walk_at "rd"
      refine ⟨by show 6 ≤ sizeLine; decide, fun a4 h4 => ?_⟩
      walk_at "rd"
      refine ⟨⟨_, SqL.of upd_same⟩, fun D hD => lc_list (K := K) (a := a4) (xs := [.non, .bl true, .str "1", .ref a1, .ref a2, .ref a3])
        (fun i H2 => H2 D = some (.lst []) ∧ Same (L2.upd (L2.upd (L2.upd (L2.upd H' a1 (.lst [V.int 1])) a2 (.tup [V.int 1])) a3 (.dK [])) a4 (.lst [.non, .bl true, .str "1", .ref a1, .ref a2, .ref a3])) H2)
        ⟨upd_same, sm_new (Same.refl _) hD⟩ (fun i H2 _ p => p.2.seq (SqL.of upd_same)) ?_ ?_⟩
      · rintro i x H2 hi ⟨hd, s2⟩
        have hk6 : Kd T.C_Kind H2 kx wd s := hk5.same ((sm_new (sm_new (sm_new (sm_new (Same.refl H') h1) h2) h3) h4).trans s2)
        have z : IntQ K H2 x false := by
          rcases i with _ | _ | _ | _ | _ | _ | i
          · cases hi; exact IntQ.non
          · cases hi; exact IntQ.bl _
          · cases hi; exact IntQ.str _
          · cases hi; exact IntQ.lst (s2 _ _ (gn (gn (gn upd_same h2) h3) h4))
          · cases hi; exact IntQ.tup (s2 _ _ (gn (gn upd_same h3) h4))
          · cases hi; exact IntQ.dK (s2 _ _ (gn upd_same h4))
          · cases hi
        walk_at "rd"
        refine ⟨rfl, ?_⟩
        show tB _ _ _ _
        walk_at "rd"
        refine ⟨kx, x, wd, s, rfl, hk6, .inr ⟨z, ?_⟩⟩
        walk_at "rd"
        refine iteF ?_
        exact ⟨hd, s2⟩
      · rintro H2 ⟨hd, s2⟩
        walk_at "rd"
        refine ⟨Nat.zero_le _, fun e he => ?_⟩
        refine w_eqNil (gn hd he) upd_same ?_
        exact k _ (sm_new ((sm_new (sm_new (sm_new (sm_new s5 h1) h2) h3) h4).trans s2) he)
def sp_law (K : PySem.W.Frag) (C : Addr) : Sp := fun vs H Q _ => ∃ (a : Addr) (ns : List Int), vs = [.ref a] ∧ SqL K H a (ns.map V.int) ∧ ns.length ≤ 63 ∧ ∀ H', Q (.bl true) H'
theorem ok_law {P : Program} {w : World} {K : PySem.W.Frag} {mg : Str → Option Value} {base : Heap} (T : Txt K mg) : FnOk P w K mg base CX0 6 T.f_law T.fd_law ["_law_script"] (sp_law K T.C_Kind) := by
  have G_Kind___init__ := ok_Kind___init__ (P := P) (w := w) (base := base) T
  have G__law_cell_at := ok__law_cell_at (P := P) (w := w) (base := base) T
  have G__law_integers := ok__law_integers (P := P) (w := w) (base := base) T
  have G__law_next := ok__law_next (P := P) (w := w) (base := base) T
  have G__law_one := ok__law_one (P := P) (w := w) (base := base) T
  have G__law_placed := ok__law_placed (P := P) (w := w) (base := base) T
  have G__law_right := ok__law_right (P := P) (w := w) (base := base) T
  have G__law_source_of := ok__law_source_of (P := P) (w := w) (base := base) T
  have G_cast := ok_cast (P := P) (w := w) (base := base) T
  refine T.F_law.ok sc_law (fun vs H Q E h => ?_) (fun cdv A outer s H vs Q E hr h => ?_)
  · obtain ⟨a, ns, rfl, _⟩ := h
    rfl
  · obtain ⟨a, ns, rfl, h⟩ := h
    have hr_Kind___init__ : Room 3 _ := hr.mono (by decide)
    have hr__law_cell_at : Room 1 _ := hr.mono (by decide)
    have hr__law_integers : Room 3 _ := hr.mono (by decide)
    have hr__law_next : Room 1 _ := hr.mono (by decide)
    have hr__law_one : Room 2 _ := hr.mono (by decide)
    have hr__law_placed : Room 2 _ := hr.mono (by decide)
    have hr__law_right : Room 5 _ := hr.mono (by decide)
    have hr__law_source_of : Room 1 _ := hr.mono (by decide)
    have hr_cast : Room 4 _ := hr.mono (by decide)
    refine ⟨_, (pss_cons (ps_for PassesOwn.never rfl (pi_list (pe_op op_cat (pe_lst (pa_cons (pe_call G__law_cell_at hr__law_cell_at rfl T.g__law_cell_at T.k__law_cell_at T.b__law_cell_at .nil pass0 (pa_cons (pv 0 (hv := Or.inl rfl)) (pa_cons pe_int pa_nil))) pa_nil)) (pe_slice sl_list (pv 0 (hv := Or.inl rfl)) (po_some pe_int) (po_some pe_int)))) (pg_name (i := 1) sc_law.nd rfl (Or.inl rfl))
        (pss_cons (ps_set (i := 2) sc_law.nd rfl (Or.inr rfl) (pe_call G__law_source_of hr__law_source_of rfl T.g__law_source_of T.k__law_source_of T.b__law_source_of .nil pass0 (pa_cons (pv 1 (hv := Or.inl rfl)) pa_nil)))
      (pss_cons (ps_setLc (i := 3) (own := [("_law_k", 4)]) (g := gName 4) (tt := tYes) rfl sc_law.nd rfl rfl (sw_true rfl rfl rfl (by decide +kernel)) (pi_range1 (by rfl) T.n_range (pa_cons pe_int pa_nil)) (blkOk_by (own := [("_law_k", 4)]) (N := ["_law_script", "_law_cell", "_law_source", "_law_row", "_law_k", "_law_parts", "_law_some", "_law_many", "_law_kinds_here", "_law_bits", "_law_is_signed", "_law_n_here", "_law_due", "_law_one_here"]) (sc := defScope s_law) (by decide +kernel)) (fun _ _ _ _ _ => (pg_name (i := 4) sc_law.nd rfl (Or.inl rfl))) (fun _ _ _ _ _ => pts_nil) (fun _ _ _ _ _ => (pe_tup (pa_cons (pe_op op_add pe_int (pe_call G__law_next hr__law_next rfl T.g__law_next T.k__law_next T.b__law_next .nil pass0 (pa_cons (pv 2 (hv := Or.inr (Or.inl rfl))) (pa_cons (pe_call G__law_one hr__law_one rfl T.g__law_one T.k__law_one T.b__law_one .nil pass0 (pa_cons (pv 2 (hv := Or.inr (Or.inl rfl))) (pa_cons (pe_lst (pa_cons pe_int (pa_cons pe_int pa_nil))) pa_nil))) pa_nil)))) (pa_cons (pe_cmpR op_eq (pe_call G__law_next hr__law_next rfl T.g__law_next T.k__law_next T.b__law_next .nil pass0 (pa_cons (pv 2 (hv := Or.inr (Or.inl rfl))) (pa_cons pe_int pa_nil))) pe_int (nomark _)) pa_nil)))))
      (pss_one (ps_for PassesOwn.never rfl (pi_list (pe_slice sl_list (pv 3 (hv := Or.inl rfl)) po_none (po_some pe_int))) (pg_name (i := 5) sc_law.nd rfl (Or.inl rfl))
        (pss_cons (ps_set (i := 6) sc_law.nd rfl (Or.inl rfl) (pe_call G__law_integers hr__law_integers rfl T.g__law_integers T.k__law_integers T.b__law_integers .nil pass0 (pa_cons (pv 2 (hv := Or.inr (Or.inl rfl))) (pa_cons (pe_ix (r := rIxT K) ix_tup (pv 5 (hv := Or.inl rfl)) pe_int (fun _ _ => rfl)) pa_nil))))
      (pss_cons (ps_if (pt_not (pt_val (pe_call G__law_right hr__law_right rfl T.g__law_right T.k__law_right T.b__law_right .nil pass0 (pa_cons (pv 5 (hv := Or.inl rfl)) (pa_cons (pv 6 (hv := Or.inl rfl)) pa_nil))))) (pss_one (ps_ret pe_bl)) pss_nil)
      (pss_cons (ps_set (i := 7) sc_law.nd rfl (Or.inl rfl) (pe_op op_add pe_int (pe_call G__law_next hr__law_next rfl T.g__law_next T.k__law_next T.b__law_next .nil pass0 (pa_cons (pv 2 (hv := Or.inr (Or.inl rfl))) (pa_cons pe_int pa_nil)))))
      (pss_cons (ps_setLc (i := 8) (own := [("_law_bits", 9), ("_law_is_signed", 10)]) (g := gTup K 2 (gCons (gName 9) (gCons (gName 10) gNil))) (tt := tYes) rfl sc_law.nd rfl rfl (sw_true rfl rfl rfl (by decide +kernel)) (pi_list (pe_slice sl_list (pv 3 (hv := Or.inl rfl)) po_none (po_some (pv 7 (hv := Or.inl rfl))))) (blkOk_by (own := [("_law_bits", 9), ("_law_is_signed", 10)]) (N := ["_law_script", "_law_cell", "_law_source", "_law_row", "_law_k", "_law_parts", "_law_some", "_law_many", "_law_kinds_here", "_law_bits", "_law_is_signed", "_law_n_here", "_law_due", "_law_one_here"]) (sc := defScope s_law) (by decide +kernel)) (fun _ _ _ _ _ => (pg_tup rfl (pgs_cons (pg_name (i := 9) sc_law.nd rfl (Or.inl rfl)) (pgs_cons (pg_name (i := 10) sc_law.nd rfl (Or.inl rfl)) pgs_nil)))) (fun _ _ _ _ _ => pts_nil) (fun _ _ _ _ _ => (pe_make T.mk_Kind G_Kind___init__ hr_Kind___init__ rfl T.g_Kind T.b_Kind___init__ .nil pass0 (pa_cons (pv 9 (hv := Or.inl rfl)) (pa_cons (pv 10 (hv := Or.inl rfl)) pa_nil)))))
      (pss_one (ps_for PassesOwn.never rfl (pi_list (pv 6 (hv := Or.inl rfl))) (pg_name (i := 11) sc_law.nd rfl (Or.inl rfl))
        (pss_cons (ps_set (i := 12) sc_law.nd rfl (Or.inl rfl) (pv 11 (hv := Or.inl rfl)))
      (pss_cons (ps_for PassesOwn.never rfl (pi_list (pe_slice sl_list (pv 3 (hv := Or.inl rfl)) po_none (po_some (pv 7 (hv := Or.inl rfl))))) (pg_name (i := 13) sc_law.nd rfl (Or.inl rfl))
        (pss_one (ps_set (i := 12) sc_law.nd rfl (Or.inl rfl) (pe_call G__law_placed hr__law_placed rfl T.g__law_placed T.k__law_placed T.b__law_placed .nil pass0 (pa_cons (pv 13 (hv := Or.inl rfl)) (pa_cons (pv 12 (hv := Or.inl rfl)) pa_nil))))))
      (pss_one (ps_if (PW.pt (pw_or (pt_cmpR op_ne (pe_call G_cast hr_cast rfl T.g_cast T.k_cast T.b_cast .nil pass0 (pa_cons (pv 8 (hv := Or.inl rfl)) (pa_cons (pv 11 (hv := Or.inl rfl)) pa_nil))) (pv 12 (hv := Or.inl rfl)) (nomark _)) (pw_or1 (pt_cmpR op_ne (pe_callK0 G_cast hr_cast rfl T.g_cast T.k_cast T.kb_cast_0_n_kinds pass0 (pk_cons (pv 11 (hv := Or.inl rfl)) (pk_cons (pv 8 (hv := Or.inl rfl)) pk_nil))) (pv 12 (hv := Or.inl rfl)) (nomark _))))) (pss_one (ps_ret pe_bl)) pss_nil)))))))))))))))
      (pss_one (ps_ret pe_bl))), ?_⟩
    try dsimp only [cxOf, Cx.nox, Cx.wish, Cx.blk]
    rw [show L2.start ["_law_script", "_law_cell", "_law_source", "_law_row", "_law_k", "_law_parts", "_law_some", "_law_many", "_law_kinds_here", "_law_bits", "_law_is_signed", "_law_n_here", "_law_due", "_law_one_here"] [.ref a] = [some (.ref a), none, none, none, none, none, none, none, none, none, none, none, none, none] from rfl]
    obtain ⟨hS, n63, k⟩ := h
    walk_at "rd"
    refine ⟨a, ns, rfl, hS, n63, fun c0 H1 s1 => ?_⟩
    walk_at "rd"
    refine ⟨by show 1 ≤ sizeLine; decide, fun q1 hq1 => ?_⟩
    walk_at "rd"
    obtain ⟨ms, em, lm, _⟩ := cut_map V.int ns (some 1) (some 3)
    refine w_slL ((sm_new s1 hq1).seq hS) (fun q2 hq2 => ?_)
    rw [em]
    refine w_cat (gn upd_same hq2) upd_same (by rw [List.length_map]; exact Nat.le_trans (show 1 + ms.length ≤ 64 by omega) (by decide)) (fun q3 hq3 => ?_)
    walk_at "rd"
    refine ⟨⟨_, SqL.of upd_same⟩, for_list (K := K) (a := q3) (xs := (c0 :: ms).map V.int) (fun i σ H' => (∃ v1 v2 v3 v4 v5 v6 v7 v8 v9 v10 v11 v12 v13 : Option V, σ = [some (.ref a), v1, v2, v3, v4, v5, v6, v7, v8, v9, v10, v11, v12, v13]) ∧ H' q3 = some (.lst ((c0 :: ms).map V.int)))
      ⟨⟨_, _, _, _, _, _, _, _, _, _, _, _, _, rfl⟩, upd_same⟩ (fun i σ H' _ p => SqL.of p.2) ?_ (fun σ H' _ => by walk_at "rd"; exact k _)⟩
    rintro i x H0 H' hi ⟨⟨v1, v2, v3, v4, v5, v6, v7, v8, v9, v10, v11, v12, v13, rfl⟩, hx⟩
    obtain ⟨c, _, rfl⟩ := map_get hi
    clear hi em hq1 hq2 hq3 s1 hS
    walk_at "rd"
    refine ⟨c, rfl, fun p H2 hp s2 hs2 => ?_⟩
    walk_at "rd"
    refine ⟨20, rfl, by decide, by decide, fun D hD => lc_range (lo := 0) (n := 20) (fun i H3 => (∃ rs : List (Addr × Nat × Bool), RowAt H3 p D rs ∧ rs.length = i) ∧ Kp p H2 H3 ∧ SrcAt H3 p)
      ⟨⟨[], ⟨upd_same, hs2.ne hD, fun r hr => by cases hr⟩, rfl⟩, (Kp.refl p H2).new hD, hs2.new hD⟩ ?_ ?_⟩
    · rintro j H3 hj ⟨⟨rs, R, lr⟩, kp3, hs3⟩
      walk_at "rd"
      refine ⟨rfl, ?_⟩
      walk_at "rd"
      refine iteT ?_
      walk_at "rd"
      refine ⟨by show 2 ≤ sizeLine; decide, fun q hq => ?_⟩
      walk_at "rd"
      refine ⟨p, q, [4, 128], rfl, hs3.new hq, upd_same, hs3.ne hq, by decide, by decide, fun v H4 hv kp4 hs4 => ?_⟩
      have v0 : 0 < v ∧ v ≤ 128 := by
        rcases List.mem_cons.mp hv with e | e
        · omega
        · have := List.mem_singleton.mp e; omega
      walk_at "rd"
      refine ⟨p, v, rfl, hs4, v0.1, b9 (Nat.lt_of_lt_of_le (show v.natAbs < 2 ^ 8 by omega) (Nat.pow_le_pow_right (by decide) (by decide))), fun d H5 d0 d1 kp5 hs5 => ?_⟩
      walk_at "rd"
      refine ⟨p, 2, rfl, hs5, by decide, b9 (by decide), fun e H6 _ _ kp6 hs6 => ?_⟩
      walk_at "rd"
      refine ⟨by show 2 ≤ sizeLine; decide, fun t ht => ?_⟩
      have kpR : Kp p H3 H6 := (((Kp.refl p H3).new hq).trans kp4).trans (kp5.trans kp6)
      have R6 := R.kp kpR
      have kp7 := (kp3.trans kpR).new (o := .tup [.int (1 + d), .bl (decide (e = 1))]) ht
      have nt := hs6.ne ht
      have eD : (1 + d) = (((1 + d).toNat : Nat) : Int) := by omega
      have Dt : D ≠ t := ne_of_none R6.lst ht
      refine ⟨_, gn R6.lst ht, (by rw [List.length_map]; exact small1000 (by omega)), ⟨rs ++ [(t, (1 + d).toNat, decide (e = 1))], ⟨Eq.trans upd_same (by rw [List.map_append]; rfl), R.nD, fun r hr => ?_⟩, by rw [List.length_append, lr]; rfl⟩, kp_mut kp7 hD, (hs6.new ht).mut R.nD⟩
      rcases List.mem_append.mp hr with h | h
      · have z := R6.tup r h
        have nD : r.1 ≠ D := ne_of z.1 R6.lst (by intro y; cases y)
        exact ⟨by rw [upd_ne nD]; exact gn z.1 ht, z.2⟩
      · have z := List.mem_singleton.mp h
        subst z
        refine ⟨?_, nt, by show 1 ≤ (1 + d).toNat; omega, by show (1 + d).toNat ≤ 128; omega⟩
        show (L2.upd (L2.upd H6 t _) D _) t = some (.tup [.int (((1 + d).toNat : Nat) : Int), _])
        rw [upd_ne Dt.symm, upd_same, ← eD]
    rintro H3 ⟨⟨rs, R, lr⟩, kp3, hs3⟩
    have npq : q3 ≠ p := ne_of_none hx hp
    have hx3 : H3 q3 = some (.lst ((c0 :: ms).map V.int)) := kp3 _ _ npq (s2 _ _ hx)
    clear hx s2 hs2 hD hp kp3
    walk_at "rd"
    have e4 := cut_take (fun r : Addr × Nat × Bool => V.ref r.1) rs 4
    refine w_slL (SqL.of R.lst) (fun q4 hq4 => ?_)
    rw [show (some (4 : Int)) = some ((4 : Nat) : Int) from rfl, e4]
    clear e4
    walk_at "rd"
    have R0 := R.kp ((Kp.refl p H3).new (o := .lst ((rs.take 4).map fun r => V.ref r.1)) hq4)
    refine ⟨⟨_, SqL.of upd_same⟩, for_list (K := K) (a := q4) (xs := (rs.take 4).map fun r => V.ref r.1) (fun i σ H' => (∃ v4 v5 v6 v7 v8 v9 v10 v11 v12 v13 : Option V, σ = [some (.ref a), some (.int c), some (.ref p), some (.ref D), v4, v5, v6, v7, v8, v9, v10, v11, v12, v13]) ∧
        SrcAt H' p ∧ RowAt H' p D rs ∧ H' q3 = some (.lst ((c0 :: ms).map V.int)) ∧ q4 ≠ p ∧ H' q4 = some (.lst ((rs.take 4).map fun r => V.ref r.1)))
      ⟨⟨_, _, _, _, _, _, _, _, _, _, rfl⟩, hs3.new hq4, R0, gn hx3 hq4, hs3.ne hq4, upd_same⟩ (fun i σ H' _ p => SqL.of p.2.2.2.2.2) ?_ (fun σ H' h5 => ?_)⟩
    rotate_left
    · obtain ⟨⟨v4, v5, v6, v7, v8, v9, v10, v11, v12, v13, rfl⟩, _, _, h5, _⟩ := h5
      exact ⟨⟨_, _, _, _, _, _, _, _, _, _, _, _, _, rfl⟩, h5⟩
    clear hx3 R0 R hs3 hq4
    rintro i x H3 H' hi ⟨⟨v4, v5, v6, v7, v8, v9, v10, v11, v12, v13, rfl⟩, hs3, R, hx3, nq4, hq4⟩
    obtain ⟨r, hr, rfl⟩ := map_get hi
    have rm : r ∈ rs := List.mem_of_mem_take (List.mem_of_getElem? hr)
    obtain ⟨ht, nt, w1, w2⟩ := R.tup r rm
    clear hi hr
    walk_at "rd"
    refine ⟨p, r.2.1, rfl, hs3, w1, w2, fun l H5 zs hl0 kp5 hs5 hl5 n5 => ?_⟩
    have nl : l ≠ p := fun z => by
      obtain ⟨_, _, _, e⟩ := hs3
      rw [z, e] at hl0; cases hl0
    have R5 := R.kp kp5
    walk_at "rd"
    refine ⟨r.1, l, r.2.1, r.2.2, zs, rfl, (R5.tup r rm).1, hl5, w1, w2, fun H6 s6 => ?_⟩
    have R6 := R5.kp (Kp.of_same s6)
    walk_at "rd"
    refine w_bF rfl ?_
    walk_at "rd"
    refine ⟨p, 20, rfl, hs5.same s6, by decide, b9 (by decide), fun d H7 d0 d1 kp7 hs7 => ?_⟩
    have R7 := R6.kp kp7
    have hl7 : H7 l = some (.lst (zs.map V.int)) := kp7 _ _ nl (s6 _ _ hl5)
    have hq7 := kp7 _ _ nq4 (s6 _ _ (kp5 _ _ nq4 hq4))
    have hx7 := kp7 _ _ npq (s6 _ _ (kp5 _ _ npq hx3))
    walk_at "rd"
    obtain ⟨mn, em⟩ : ∃ mn : Nat, 1 + d = (mn : Int) := ⟨(1 + d).toNat, by omega⟩
    have m1 : 1 ≤ mn := by omega
    have m2 : mn ≤ 20 := by omega
    rw [em]
    have e4 := cut_take (fun r : Addr × Nat × Bool => V.ref r.1) rs mn
    refine w_slL (SqL.of R7.lst) (fun q5 hq5 => ?_)
    rw [e4]
    clear hs5 R5 R6 hl5 hs3 ht hl0 kp5 kp7 s6 em d0 d1 hx3 hq4
    walk_at "rd"
    have tl : (rs.take mn).length = mn := by rw [List.length_take]; omega
    have tm : ∀ z ∈ rs.take mn, z ∈ rs := fun z hz => List.mem_of_mem_take hz
    generalize erm : rs.take mn = rm at tl tm
    refine ⟨⟨_, SqL.of upd_same⟩, fun E hE => lc_list (K := K) (a := q5) (xs := rm.map fun r => V.ref r.1) (fun i H8 => ∃ ks : List (Addr × Nat × Bool), KdsAt T.C_Kind H8 p E ks ∧ ks.length = i ∧ ks.map (·.2) = (rm.take i).map (·.2) ∧
        Same (L2.upd H7 q5 (.lst (rm.map fun r => V.ref r.1))) H8)
      ⟨[], ⟨upd_same, (hs7.new hq5).ne hE, fun r hr => by cases hr⟩, rfl, rfl, sm_new (Same.refl _) hE⟩ (fun i H' _ ⟨_, _, _, _, q⟩ => q.seq (SqL.of upd_same)) ?_ ?_⟩
    · rintro j x H8 hj ⟨ks, KA, kl, ke, s8⟩
      obtain ⟨z, hz, rfl⟩ := map_get hj
      have zm := tm z (List.mem_of_getElem? hz)
      have jl := get_lt hz
      have hs8 := (hs7.new hq5).same s8
      obtain ⟨zt, _, z1, z2⟩ := (R7.kp ((Kp.refl p H7).new hq5)).tup z zm
      have zt8 := s8 _ _ zt
      walk_at "rd"
      refine ⟨rfl, ?_⟩
      walk_at "rd"
      refine iteT ?_
      walk_at "rd"
      intro kx dx nx ndx nex
      refine ⟨kx, z.2.1, z.2.2, rfl, ⟨dx, upd_same⟩, z1, z2, fun H9 hk9 kp9 => ⟨rfl, ?_⟩⟩
      have s9 : Same H8 H9 := fun b o e => kp9 b o (ne_of_none e nx) (by rw [upd_ne (ne_of_none e nx), upd_ne (ne_of_none e ndx)]; exact e)
      have nxE : kx ≠ E := (ne_of_none KA.lst nx).symm
      have KA9 := KA.kp (Kp.of_same s9)
      refine ⟨_, KA9.lst, (by rw [List.length_map]; exact small1000 (by omega)), ks ++ [(kx, z.2)], ⟨Eq.trans upd_same (by rw [List.map_append]; rfl), KA.nE, fun r hr => ?_⟩, by rw [List.length_append, kl]; rfl, ?_, sm_mut (s8.trans s9) hE⟩
      · rcases List.mem_append.mp hr with h | h
        · obtain ⟨⟨⟨dy, e⟩, a1, a2⟩, nn⟩ := KA9.kd r h
          exact ⟨⟨⟨dy, by rw [upd_ne (ne_of e KA9.lst (by intro y; cases y))]; exact e⟩, a1, a2⟩, nn⟩
        · have e := List.mem_singleton.mp h
          subst e
          obtain ⟨⟨dy, e⟩, a1, a2⟩ := hk9
          exact ⟨⟨⟨dy, by rw [upd_ne nxE]; exact e⟩, a1, a2⟩, hs8.ne nx⟩
      · rw [List.map_append, ke, tk_more hz, List.map_append]; rfl
    rintro H8 ⟨ks, KA, kl, ke, s8⟩
    rw [List.length_map, List.take_length] at ke
    rw [List.length_map] at kl
    have s78 : Same H7 H8 := (sm_new (Same.refl H7) hq5).trans s8
    have R8 := R7.kp (Kp.of_same s78)
    have hs8 := hs7.same s78
    have hl8 := s78 _ _ hl7
    have hq8 := s78 _ _ hq7
    have hx8 := s78 _ _ hx7
    clear R7 hs7 hl7 hq7 hx7 hE hq5 s8 s78 e4 R
    walk_at "rd"
    refine ⟨⟨_, SqL.of hl8⟩, for_list (K := K) (a := l) (xs := zs.map V.int) (fun i σ H' => (∃ v11 v12 v13 : Option V, σ = [some (.ref a), some (.int c), some (.ref p), some (.ref D), v4, some (.ref r.1), some (.ref l), some (.int (mn : Int)), some (.ref E), v9, v10, v11, v12, v13]) ∧ Same H8 H')
      ⟨⟨_, _, _, rfl⟩, Same.refl _⟩ (fun i σ H' _ q => q.2.seq (SqL.of hl8)) ?_ ?_⟩
    rotate_left
    · rintro σ H' ⟨⟨v11, v12, v13, rfl⟩, s9⟩
      exact ⟨⟨_, _, _, _, _, _, _, _, _, _, rfl⟩, hs8.same s9, R8.kp (Kp.of_same s9), s9 _ _ hx8, nq4, s9 _ _ hq8⟩
    rintro j x σ9 H9 hj ⟨⟨v11, v12, v13, rfl⟩, s9⟩
    obtain ⟨n, _, rfl⟩ := map_get hj
    walk_at "rd"
    have e4 := cut_take (fun r : Addr × Nat × Bool => V.ref r.1) rs mn
    have R9 := R8.kp (Kp.of_same s9)
    refine w_slL (SqL.of R9.lst) (fun q6 hq6 => ?_)
    rw [e4, erm]
    walk_at "rd"
    refine ⟨⟨_, SqL.of upd_same⟩, for_list (K := K) (a := q6) (xs := rm.map fun r => V.ref r.1) (fun i σ H' => (∃ v13 : Option V, σ = [some (.ref a), some (.int c), some (.ref p), some (.ref D), v4, some (.ref r.1), some (.ref l), some (.int (mn : Int)), some (.ref E), v9, v10, some (.int n), some (.int (wrs (rm.take i) n)), v13]) ∧ H' = L2.upd H9 q6 (.lst (rm.map fun r => V.ref r.1)))
      ⟨⟨_, rfl⟩, rfl⟩ (fun i σ H' _ q => by rw [q.2]; exact SqL.of upd_same) ?_ ?_⟩
    · rintro i y σ H' hi ⟨⟨v13, rfl⟩, rfl⟩
      obtain ⟨z, hz, rfl⟩ := map_get hi
      obtain ⟨zt, _, z1, z2⟩ := (R9.kp ((Kp.refl p H9).new hq6)).tup z (tm z (List.mem_of_getElem? hz))
      walk_at "rd"
      refine ⟨z.1, _, z.2.1, z.2.2, rfl, zt, z1, z2, ?_⟩
      walk_at "rd"
      refine ⟨⟨some (.ref z.1), ?_⟩, rfl⟩
      rw [tk_more hz, wrs_more]
      all_goals rfl
    · rintro σ H' ⟨⟨v13, rfl⟩, rfl⟩
      rw [List.length_map, List.take_length]
      have s10 : Same H8 (L2.upd H9 q6 (.lst (rm.map fun r => V.ref r.1))) := sm_new s9 hq6
      have KA10 := KA.kp (Kp.of_same s10)
      have ew : wrs ks n = wrs rm n := wrs_eq ke n
      walk_at "rd"
      refine ⟨E, n, ks, rfl, KA10.lst, fun z hz => (KA10.kd z hz).1, by omega, by omega, fun H11 s11 => ?_⟩
      walk_at "rd"
      refine w_ndecT ew ?_
      walk_at "rd"
      have KA11 := KA10.kp (Kp.of_same s11)
      refine ⟨E, n, ks, rfl, KA11.lst, fun z hz => (KA11.kd z hz).1, by omega, by omega, fun H12 s12 => ?_⟩
      walk_at "rd"
      refine w_ndecT ew ?_
      walk_at "rd"
      exact ⟨⟨_, _, _, rfl⟩, s10.trans (s11.trans s12)⟩
theorem mk_txt {K : PySem.W.Frag} {h : Heap} {mg : Str → Option Value} {C_Kind f_is_integer f_check_integer f_Kind___init__ f_check_kind f_check_row f_least f_greatest f_is_value f_wrapped f_cast f__law_source_of f__law_next f__law_one f__law_cell_at f__law_power f__law_wide f__law_placed f__law_integers f__law_right f_law : Addr} (X : K.In h) (G : h.Ns mainGlobals mg)
    {od_is_integer an_is_integer od_check_integer an_check_integer od_Kind___init__ an_Kind___init__ od_check_kind an_check_kind od_check_row an_check_row od_least an_least od_greatest an_greatest od_is_value an_is_value od_wrapped an_wrapped od_cast an_cast od__law_source_of an__law_source_of od__law_next an__law_next od__law_one an__law_one od__law_cell_at an__law_cell_at od__law_power an__law_power od__law_wide an__law_wide od__law_placed an__law_placed od__law_integers an__law_integers od__law_right an__law_right od_law an_law : Option Addr} {sl_is_integer sl_check_integer sl_Kind___init__ sl_check_kind sl_check_row sl_least sl_greatest sl_is_value sl_wrapped sl_cast sl__law_source_of sl__law_next sl__law_one sl__law_cell_at sl__law_power sl__law_wide sl__law_placed sl__law_integers sl__law_right sl_law : Array (Option Value)} {oc_is_integer kV_is_integer dc_is_integer pm_is_integer cd_is_integer ct_is_integer oc_check_integer kV_check_integer dc_check_integer pm_check_integer cd_check_integer ct_check_integer oc_Kind___init__ kV_Kind___init__ dc_Kind___init__ pm_Kind___init__ cd_Kind___init__ ct_Kind___init__ oc_check_kind kV_check_kind dc_check_kind pm_check_kind cd_check_kind ct_check_kind oc_check_row kV_check_row dc_check_row pm_check_row cd_check_row ct_check_row oc_least kV_least dc_least pm_least cd_least ct_least oc_greatest kV_greatest dc_greatest pm_greatest cd_greatest ct_greatest oc_is_value kV_is_value dc_is_value pm_is_value cd_is_value ct_is_value oc_wrapped kV_wrapped dc_wrapped pm_wrapped cd_wrapped ct_wrapped oc_cast kV_cast dc_cast pm_cast cd_cast ct_cast oc__law_source_of kV__law_source_of dc__law_source_of pm__law_source_of cd__law_source_of ct__law_source_of oc__law_next kV__law_next dc__law_next pm__law_next cd__law_next ct__law_next oc__law_one kV__law_one dc__law_one pm__law_one cd__law_one ct__law_one oc__law_cell_at kV__law_cell_at dc__law_cell_at pm__law_cell_at cd__law_cell_at ct__law_cell_at oc__law_power kV__law_power dc__law_power pm__law_power cd__law_power ct__law_power oc__law_wide kV__law_wide dc__law_wide pm__law_wide cd__law_wide ct__law_wide oc__law_placed kV__law_placed dc__law_placed pm__law_placed cd__law_placed ct__law_placed oc__law_integers kV__law_integers dc__law_integers pm__law_integers cd__law_integers ct__law_integers oc__law_right kV__law_right dc__law_right pm__law_right cd__law_right ct__law_right oc_law kV_law dc_law pm_law cd_law ct_law : Value} {t_MOST_BITS t_LONGEST_ROW : Tok}
    (aC_Kind : PySem.W.nsIn K mainGlobals "Kind" = some (some (.ref C_Kind)))
    (a_Kind___init__ : PySem.W.findIn K (.ref C_Kind) "__init__" = some (some (.ref f_Kind___init__)))
    (i_Kind___init__ : PySem.W.isFn K (.ref f_Kind___init__) = true)
    (pg_Kind : PySem.W.plainGet K C_Kind Str.empty = true)
    (hd_Kind : PySem.W.hasDictIn K C_Kind = true)
    (po_Kind : PySem.W.plainOver K C_Kind = true)
    (sa_Kind : PySem.W.findIn K (.ref C_Kind) "__setattr__" = some (some (.builtin "object.__setattr__")))
    (mkk_Kind : PySem.W.makesIn K C_Kind = true)
    (kc_Kind : PySem.W.keepIn K (.ref C_Kind) = true)
    (na_Kind_bits : PySem.W.findIn K (.ref C_Kind) "bits" = some none)
    (na_Kind_is_signed : PySem.W.findIn K (.ref C_Kind) "is_signed" = some none)
    (ia_Kind : PySem.W.findIn K (.ref C_Kind) "__class__" = some (some (.builtin "object.__class__")))
    (ib_Kind : PySem.W.specialIn K (.builtin "object.__class__") "__get__" = some (some (.builtin "getset_descriptor.__get__")))
    (ic_Kind : PySem.W.takesIn K (.builtin "object.__class__") = some true)
    (id_Kind : PySem.W.mroIn K C_Kind (.type "object") = some true)
    (a_is_integer : PySem.W.nsIn K mainGlobals "is_integer" = some (some (.ref f_is_integer)))
    (l_is_integer : K.lookup f_is_integer = some ⟨oc_is_integer, od_is_integer, .func (PySem.W.fnOf "is_integer" "is_integer" (defArgs s_is_integer) (defBody s_is_integer) (defScope s_is_integer) .none kV_is_integer dc_is_integer pm_is_integer an_is_integer cd_is_integer ct_is_integer), sl_is_integer⟩)
    (c_is_integer : PySem.W.codeIn K cd_is_integer "is_integer" = true)
    (k_is_integer : PySem.W.keepIn K (.ref f_is_integer) = true)
    (a_check_integer : PySem.W.nsIn K mainGlobals "check_integer" = some (some (.ref f_check_integer)))
    (l_check_integer : K.lookup f_check_integer = some ⟨oc_check_integer, od_check_integer, .func (PySem.W.fnOf "check_integer" "check_integer" (defArgs s_check_integer) (defBody s_check_integer) (defScope s_check_integer) .none kV_check_integer dc_check_integer pm_check_integer an_check_integer cd_check_integer ct_check_integer), sl_check_integer⟩)
    (c_check_integer : PySem.W.codeIn K cd_check_integer "check_integer" = true)
    (k_check_integer : PySem.W.keepIn K (.ref f_check_integer) = true)
    (l_Kind___init__ : K.lookup f_Kind___init__ = some ⟨oc_Kind___init__, od_Kind___init__, .func (PySem.W.fnOf "__init__" "Kind.__init__" (defArgs s_Kind___init__) (defBody s_Kind___init__) (defScope s_Kind___init__) .none kV_Kind___init__ dc_Kind___init__ pm_Kind___init__ an_Kind___init__ cd_Kind___init__ ct_Kind___init__), sl_Kind___init__⟩)
    (c_Kind___init__ : PySem.W.codeIn K cd_Kind___init__ "Kind.__init__" = true)
    (k_Kind___init__ : PySem.W.keepIn K (.ref f_Kind___init__) = true)
    (a_check_kind : PySem.W.nsIn K mainGlobals "check_kind" = some (some (.ref f_check_kind)))
    (l_check_kind : K.lookup f_check_kind = some ⟨oc_check_kind, od_check_kind, .func (PySem.W.fnOf "check_kind" "check_kind" (defArgs s_check_kind) (defBody s_check_kind) (defScope s_check_kind) .none kV_check_kind dc_check_kind pm_check_kind an_check_kind cd_check_kind ct_check_kind), sl_check_kind⟩)
    (c_check_kind : PySem.W.codeIn K cd_check_kind "check_kind" = true)
    (k_check_kind : PySem.W.keepIn K (.ref f_check_kind) = true)
    (a_check_row : PySem.W.nsIn K mainGlobals "check_row" = some (some (.ref f_check_row)))
    (l_check_row : K.lookup f_check_row = some ⟨oc_check_row, od_check_row, .func (PySem.W.fnOf "check_row" "check_row" (defArgs s_check_row) (defBody s_check_row) (defScope s_check_row) .none kV_check_row dc_check_row pm_check_row an_check_row cd_check_row ct_check_row), sl_check_row⟩)
    (c_check_row : PySem.W.codeIn K cd_check_row "check_row" = true)
    (k_check_row : PySem.W.keepIn K (.ref f_check_row) = true)
    (a_least : PySem.W.nsIn K mainGlobals "least" = some (some (.ref f_least)))
    (l_least : K.lookup f_least = some ⟨oc_least, od_least, .func (PySem.W.fnOf "least" "least" (defArgs s_least) (defBody s_least) (defScope s_least) .none kV_least dc_least pm_least an_least cd_least ct_least), sl_least⟩)
    (c_least : PySem.W.codeIn K cd_least "least" = true)
    (k_least : PySem.W.keepIn K (.ref f_least) = true)
    (a_greatest : PySem.W.nsIn K mainGlobals "greatest" = some (some (.ref f_greatest)))
    (l_greatest : K.lookup f_greatest = some ⟨oc_greatest, od_greatest, .func (PySem.W.fnOf "greatest" "greatest" (defArgs s_greatest) (defBody s_greatest) (defScope s_greatest) .none kV_greatest dc_greatest pm_greatest an_greatest cd_greatest ct_greatest), sl_greatest⟩)
    (c_greatest : PySem.W.codeIn K cd_greatest "greatest" = true)
    (k_greatest : PySem.W.keepIn K (.ref f_greatest) = true)
    (a_is_value : PySem.W.nsIn K mainGlobals "is_value" = some (some (.ref f_is_value)))
    (l_is_value : K.lookup f_is_value = some ⟨oc_is_value, od_is_value, .func (PySem.W.fnOf "is_value" "is_value" (defArgs s_is_value) (defBody s_is_value) (defScope s_is_value) .none kV_is_value dc_is_value pm_is_value an_is_value cd_is_value ct_is_value), sl_is_value⟩)
    (c_is_value : PySem.W.codeIn K cd_is_value "is_value" = true)
    (k_is_value : PySem.W.keepIn K (.ref f_is_value) = true)
    (a_wrapped : PySem.W.nsIn K mainGlobals "wrapped" = some (some (.ref f_wrapped)))
    (l_wrapped : K.lookup f_wrapped = some ⟨oc_wrapped, od_wrapped, .func (PySem.W.fnOf "wrapped" "wrapped" (defArgs s_wrapped) (defBody s_wrapped) (defScope s_wrapped) .none kV_wrapped dc_wrapped pm_wrapped an_wrapped cd_wrapped ct_wrapped), sl_wrapped⟩)
    (c_wrapped : PySem.W.codeIn K cd_wrapped "wrapped" = true)
    (k_wrapped : PySem.W.keepIn K (.ref f_wrapped) = true)
    (a_cast : PySem.W.nsIn K mainGlobals "cast" = some (some (.ref f_cast)))
    (l_cast : K.lookup f_cast = some ⟨oc_cast, od_cast, .func (PySem.W.fnOf "cast" "cast" (defArgs s_cast) (defBody s_cast) (defScope s_cast) .none kV_cast dc_cast pm_cast an_cast cd_cast ct_cast), sl_cast⟩)
    (c_cast : PySem.W.codeIn K cd_cast "cast" = true)
    (k_cast : PySem.W.keepIn K (.ref f_cast) = true)
    (a__law_source_of : PySem.W.nsIn K mainGlobals "_law_source_of" = some (some (.ref f__law_source_of)))
    (l__law_source_of : K.lookup f__law_source_of = some ⟨oc__law_source_of, od__law_source_of, .func (PySem.W.fnOf "_law_source_of" "_law_source_of" (defArgs s__law_source_of) (defBody s__law_source_of) (defScope s__law_source_of) .none kV__law_source_of dc__law_source_of pm__law_source_of an__law_source_of cd__law_source_of ct__law_source_of), sl__law_source_of⟩)
    (c__law_source_of : PySem.W.codeIn K cd__law_source_of "_law_source_of" = true)
    (k__law_source_of : PySem.W.keepIn K (.ref f__law_source_of) = true)
    (a__law_next : PySem.W.nsIn K mainGlobals "_law_next" = some (some (.ref f__law_next)))
    (l__law_next : K.lookup f__law_next = some ⟨oc__law_next, od__law_next, .func (PySem.W.fnOf "_law_next" "_law_next" (defArgs s__law_next) (defBody s__law_next) (defScope s__law_next) .none kV__law_next dc__law_next pm__law_next an__law_next cd__law_next ct__law_next), sl__law_next⟩)
    (c__law_next : PySem.W.codeIn K cd__law_next "_law_next" = true)
    (k__law_next : PySem.W.keepIn K (.ref f__law_next) = true)
    (a__law_one : PySem.W.nsIn K mainGlobals "_law_one" = some (some (.ref f__law_one)))
    (l__law_one : K.lookup f__law_one = some ⟨oc__law_one, od__law_one, .func (PySem.W.fnOf "_law_one" "_law_one" (defArgs s__law_one) (defBody s__law_one) (defScope s__law_one) .none kV__law_one dc__law_one pm__law_one an__law_one cd__law_one ct__law_one), sl__law_one⟩)
    (c__law_one : PySem.W.codeIn K cd__law_one "_law_one" = true)
    (k__law_one : PySem.W.keepIn K (.ref f__law_one) = true)
    (a__law_cell_at : PySem.W.nsIn K mainGlobals "_law_cell_at" = some (some (.ref f__law_cell_at)))
    (l__law_cell_at : K.lookup f__law_cell_at = some ⟨oc__law_cell_at, od__law_cell_at, .func (PySem.W.fnOf "_law_cell_at" "_law_cell_at" (defArgs s__law_cell_at) (defBody s__law_cell_at) (defScope s__law_cell_at) .none kV__law_cell_at dc__law_cell_at pm__law_cell_at an__law_cell_at cd__law_cell_at ct__law_cell_at), sl__law_cell_at⟩)
    (c__law_cell_at : PySem.W.codeIn K cd__law_cell_at "_law_cell_at" = true)
    (k__law_cell_at : PySem.W.keepIn K (.ref f__law_cell_at) = true)
    (a__law_power : PySem.W.nsIn K mainGlobals "_law_power" = some (some (.ref f__law_power)))
    (l__law_power : K.lookup f__law_power = some ⟨oc__law_power, od__law_power, .func (PySem.W.fnOf "_law_power" "_law_power" (defArgs s__law_power) (defBody s__law_power) (defScope s__law_power) .none kV__law_power dc__law_power pm__law_power an__law_power cd__law_power ct__law_power), sl__law_power⟩)
    (c__law_power : PySem.W.codeIn K cd__law_power "_law_power" = true)
    (k__law_power : PySem.W.keepIn K (.ref f__law_power) = true)
    (a__law_wide : PySem.W.nsIn K mainGlobals "_law_wide" = some (some (.ref f__law_wide)))
    (l__law_wide : K.lookup f__law_wide = some ⟨oc__law_wide, od__law_wide, .func (PySem.W.fnOf "_law_wide" "_law_wide" (defArgs s__law_wide) (defBody s__law_wide) (defScope s__law_wide) .none kV__law_wide dc__law_wide pm__law_wide an__law_wide cd__law_wide ct__law_wide), sl__law_wide⟩)
    (c__law_wide : PySem.W.codeIn K cd__law_wide "_law_wide" = true)
    (k__law_wide : PySem.W.keepIn K (.ref f__law_wide) = true)
    (a__law_placed : PySem.W.nsIn K mainGlobals "_law_placed" = some (some (.ref f__law_placed)))
    (l__law_placed : K.lookup f__law_placed = some ⟨oc__law_placed, od__law_placed, .func (PySem.W.fnOf "_law_placed" "_law_placed" (defArgs s__law_placed) (defBody s__law_placed) (defScope s__law_placed) .none kV__law_placed dc__law_placed pm__law_placed an__law_placed cd__law_placed ct__law_placed), sl__law_placed⟩)
    (c__law_placed : PySem.W.codeIn K cd__law_placed "_law_placed" = true)
    (k__law_placed : PySem.W.keepIn K (.ref f__law_placed) = true)
    (a__law_integers : PySem.W.nsIn K mainGlobals "_law_integers" = some (some (.ref f__law_integers)))
    (l__law_integers : K.lookup f__law_integers = some ⟨oc__law_integers, od__law_integers, .func (PySem.W.fnOf "_law_integers" "_law_integers" (defArgs s__law_integers) (defBody s__law_integers) (defScope s__law_integers) .none kV__law_integers dc__law_integers pm__law_integers an__law_integers cd__law_integers ct__law_integers), sl__law_integers⟩)
    (c__law_integers : PySem.W.codeIn K cd__law_integers "_law_integers" = true)
    (k__law_integers : PySem.W.keepIn K (.ref f__law_integers) = true)
    (a__law_right : PySem.W.nsIn K mainGlobals "_law_right" = some (some (.ref f__law_right)))
    (l__law_right : K.lookup f__law_right = some ⟨oc__law_right, od__law_right, .func (PySem.W.fnOf "_law_right" "_law_right" (defArgs s__law_right) (defBody s__law_right) (defScope s__law_right) .none kV__law_right dc__law_right pm__law_right an__law_right cd__law_right ct__law_right), sl__law_right⟩)
    (c__law_right : PySem.W.codeIn K cd__law_right "_law_right" = true)
    (k__law_right : PySem.W.keepIn K (.ref f__law_right) = true)
    (a_law : PySem.W.nsIn K mainGlobals "law" = some (some (.ref f_law)))
    (l_law : K.lookup f_law = some ⟨oc_law, od_law, .func (PySem.W.fnOf "law" "law" (defArgs s_law) (defBody s_law) (defScope s_law) .none kV_law dc_law pm_law an_law cd_law ct_law), sl_law⟩)
    (c_law : PySem.W.codeIn K cd_law "law" = true)
    (k_law : PySem.W.keepIn K (.ref f_law) = true)
    (v_MOST_BITS : PySem.W.nsIn K mainGlobals "MOST_BITS" = some (some (.int 128 t_MOST_BITS)))
    (v_LONGEST_ROW : PySem.W.nsIn K mainGlobals "LONGEST_ROW" = some (some (.int 20 t_LONGEST_ROW)))
    (z_all : PySem.W.nsIn K mainGlobals "all" = some none)
    (z_bool : PySem.W.nsIn K mainGlobals "bool" = some none)
    (z_int : PySem.W.nsIn K mainGlobals "int" = some none)
    (z_isinstance : PySem.W.nsIn K mainGlobals "isinstance" = some none)
    (z_len : PySem.W.nsIn K mainGlobals "len" = some none)
    (z_list : PySem.W.nsIn K mainGlobals "list" = some none)
    (z_range : PySem.W.nsIn K mainGlobals "range" = some none)
    : Nonempty (Txt K mg) := by
  have F_is_integer := fun_mk (st := s_is_integer) l_is_integer c_is_integer k_is_integer
  have b_is_integer := F_is_integer.binds (ps := ["value"]) fun _ _ _ _ _ _ us hl => match us, hl with | [_], _ => rfl
  have F_check_integer := fun_mk (st := s_check_integer) l_check_integer c_check_integer k_check_integer
  have b_check_integer := F_check_integer.binds (ps := ["value", "argument"]) fun _ _ _ _ _ _ us hl => match us, hl with | [_, _], _ => rfl
  have F_Kind___init__ := fun_mk (st := s_Kind___init__) l_Kind___init__ c_Kind___init__ k_Kind___init__
  have b_Kind___init__ := F_Kind___init__.binds (ps := ["self", "bits", "is_signed"]) fun _ _ _ _ _ _ us hl => match us, hl with | [_, _, _], _ => rfl
  have F_check_kind := fun_mk (st := s_check_kind) l_check_kind c_check_kind k_check_kind
  have b_check_kind := F_check_kind.binds (ps := ["kind"]) fun _ _ _ _ _ _ us hl => match us, hl with | [_], _ => rfl
  have F_check_row := fun_mk (st := s_check_row) l_check_row c_check_row k_check_row
  have b_check_row := F_check_row.binds (ps := ["kinds", "argument"]) fun _ _ _ _ _ _ us hl => match us, hl with | [_, _], _ => rfl
  have F_least := fun_mk (st := s_least) l_least c_least k_least
  have b_least := F_least.binds (ps := ["kind"]) fun _ _ _ _ _ _ us hl => match us, hl with | [_], _ => rfl
  have F_greatest := fun_mk (st := s_greatest) l_greatest c_greatest k_greatest
  have b_greatest := F_greatest.binds (ps := ["kind"]) fun _ _ _ _ _ _ us hl => match us, hl with | [_], _ => rfl
  have F_is_value := fun_mk (st := s_is_value) l_is_value c_is_value k_is_value
  have b_is_value := F_is_value.binds (ps := ["kind", "x"]) fun _ _ _ _ _ _ us hl => match us, hl with | [_, _], _ => rfl
  have F_wrapped := fun_mk (st := s_wrapped) l_wrapped c_wrapped k_wrapped
  have b_wrapped := F_wrapped.binds (ps := ["kind", "n"]) fun _ _ _ _ _ _ us hl => match us, hl with | [_, _], _ => rfl
  have F_cast := fun_mk (st := s_cast) l_cast c_cast k_cast
  have b_cast := F_cast.binds (ps := ["kinds", "n"]) fun _ _ _ _ _ _ us hl => match us, hl with | [_, _], _ => rfl
  have F__law_source_of := fun_mk (st := s__law_source_of) l__law_source_of c__law_source_of k__law_source_of
  have b__law_source_of := F__law_source_of.binds (ps := ["_law_cell"]) fun _ _ _ _ _ _ us hl => match us, hl with | [_], _ => rfl
  have F__law_next := fun_mk (st := s__law_next) l__law_next c__law_next k__law_next
  have b__law_next := F__law_next.binds (ps := ["_law_source", "_law_many"]) fun _ _ _ _ _ _ us hl => match us, hl with | [_, _], _ => rfl
  have F__law_one := fun_mk (st := s__law_one) l__law_one c__law_one k__law_one
  have b__law_one := F__law_one.binds (ps := ["_law_source", "_law_some"]) fun _ _ _ _ _ _ us hl => match us, hl with | [_, _], _ => rfl
  have F__law_cell_at := fun_mk (st := s__law_cell_at) l__law_cell_at c__law_cell_at k__law_cell_at
  have b__law_cell_at := F__law_cell_at.binds (ps := ["_law_script", "_law_index"]) fun _ _ _ _ _ _ us hl => match us, hl with | [_, _], _ => rfl
  have F__law_power := fun_mk (st := s__law_power) l__law_power c__law_power k__law_power
  have b__law_power := F__law_power.binds (ps := ["_law_n_here"]) fun _ _ _ _ _ _ us hl => match us, hl with | [_], _ => rfl
  have F__law_wide := fun_mk (st := s__law_wide) l__law_wide c__law_wide k__law_wide
  have b__law_wide := F__law_wide.binds (ps := ["_law_source", "_law_m"]) fun _ _ _ _ _ _ us hl => match us, hl with | [_, _], _ => rfl
  have F__law_placed := fun_mk (st := s__law_placed) l__law_placed c__law_placed k__law_placed
  have b__law_placed := F__law_placed.binds (ps := ["_law_parts", "_law_n_here"]) fun _ _ _ _ _ _ us hl => match us, hl with | [_, _], _ => rfl
  have F__law_integers := fun_mk (st := s__law_integers) l__law_integers c__law_integers k__law_integers
  have b__law_integers := F__law_integers.binds (ps := ["_law_source", "_law_bits"]) fun _ _ _ _ _ _ us hl => match us, hl with | [_, _], _ => rfl
  have F__law_right := fun_mk (st := s__law_right) l__law_right c__law_right k__law_right
  have b__law_right := F__law_right.binds (ps := ["_law_parts", "_law_some"]) fun _ _ _ _ _ _ us hl => match us, hl with | [_, _], _ => rfl
  have F_law := fun_mk (st := s_law) l_law c_law k_law
  have b_law := F_law.binds (ps := ["_law_script"]) fun _ _ _ _ _ _ us hl => match us, hl with | [_], _ => rfl
  exact ⟨{
    C_Kind := C_Kind
    cl_Kind := ⟨pg_Kind, hd_Kind, po_Kind, sa_Kind⟩
    g_Kind := PySem.W.mg_of X G aC_Kind
    na_Kind_bits := na_Kind_bits
    na_Kind_is_signed := na_Kind_is_signed
    ia_Kind := ia_Kind
    ib_Kind := ib_Kind
    ic_Kind := ic_Kind
    id_Kind := id_Kind
    mk_Kind := ⟨mkk_Kind, a_Kind___init__, i_Kind___init__, kc_Kind⟩
    f_is_integer := f_is_integer
    fd_is_integer := _
    F_is_integer := F_is_integer
    b_is_integer := b_is_integer
    g_is_integer := PySem.W.mg_of X G a_is_integer
    k_is_integer := k_is_integer
    f_check_integer := f_check_integer
    fd_check_integer := _
    F_check_integer := F_check_integer
    b_check_integer := b_check_integer
    g_check_integer := PySem.W.mg_of X G a_check_integer
    k_check_integer := k_check_integer
    f_Kind___init__ := f_Kind___init__
    fd_Kind___init__ := _
    F_Kind___init__ := F_Kind___init__
    b_Kind___init__ := b_Kind___init__
    f_check_kind := f_check_kind
    fd_check_kind := _
    F_check_kind := F_check_kind
    b_check_kind := b_check_kind
    g_check_kind := PySem.W.mg_of X G a_check_kind
    k_check_kind := k_check_kind
    f_check_row := f_check_row
    fd_check_row := _
    F_check_row := F_check_row
    b_check_row := b_check_row
    g_check_row := PySem.W.mg_of X G a_check_row
    k_check_row := k_check_row
    f_least := f_least
    fd_least := _
    F_least := F_least
    b_least := b_least
    g_least := PySem.W.mg_of X G a_least
    k_least := k_least
    f_greatest := f_greatest
    fd_greatest := _
    F_greatest := F_greatest
    b_greatest := b_greatest
    g_greatest := PySem.W.mg_of X G a_greatest
    k_greatest := k_greatest
    f_is_value := f_is_value
    fd_is_value := _
    F_is_value := F_is_value
    b_is_value := b_is_value
    g_is_value := PySem.W.mg_of X G a_is_value
    k_is_value := k_is_value
    f_wrapped := f_wrapped
    fd_wrapped := _
    F_wrapped := F_wrapped
    b_wrapped := b_wrapped
    g_wrapped := PySem.W.mg_of X G a_wrapped
    k_wrapped := k_wrapped
    f_cast := f_cast
    fd_cast := _
    F_cast := F_cast
    b_cast := b_cast
    g_cast := PySem.W.mg_of X G a_cast
    k_cast := k_cast
    f__law_source_of := f__law_source_of
    fd__law_source_of := _
    F__law_source_of := F__law_source_of
    b__law_source_of := b__law_source_of
    g__law_source_of := PySem.W.mg_of X G a__law_source_of
    k__law_source_of := k__law_source_of
    f__law_next := f__law_next
    fd__law_next := _
    F__law_next := F__law_next
    b__law_next := b__law_next
    g__law_next := PySem.W.mg_of X G a__law_next
    k__law_next := k__law_next
    f__law_one := f__law_one
    fd__law_one := _
    F__law_one := F__law_one
    b__law_one := b__law_one
    g__law_one := PySem.W.mg_of X G a__law_one
    k__law_one := k__law_one
    f__law_cell_at := f__law_cell_at
    fd__law_cell_at := _
    F__law_cell_at := F__law_cell_at
    b__law_cell_at := b__law_cell_at
    g__law_cell_at := PySem.W.mg_of X G a__law_cell_at
    k__law_cell_at := k__law_cell_at
    f__law_power := f__law_power
    fd__law_power := _
    F__law_power := F__law_power
    b__law_power := b__law_power
    g__law_power := PySem.W.mg_of X G a__law_power
    k__law_power := k__law_power
    f__law_wide := f__law_wide
    fd__law_wide := _
    F__law_wide := F__law_wide
    b__law_wide := b__law_wide
    g__law_wide := PySem.W.mg_of X G a__law_wide
    k__law_wide := k__law_wide
    f__law_placed := f__law_placed
    fd__law_placed := _
    F__law_placed := F__law_placed
    b__law_placed := b__law_placed
    g__law_placed := PySem.W.mg_of X G a__law_placed
    k__law_placed := k__law_placed
    f__law_integers := f__law_integers
    fd__law_integers := _
    F__law_integers := F__law_integers
    b__law_integers := b__law_integers
    g__law_integers := PySem.W.mg_of X G a__law_integers
    k__law_integers := k__law_integers
    f__law_right := f__law_right
    fd__law_right := _
    F__law_right := F__law_right
    b__law_right := b__law_right
    g__law_right := PySem.W.mg_of X G a__law_right
    k__law_right := k__law_right
    f_law := f_law
    fd_law := _
    F_law := F_law
    b_law := b_law
    g_law := PySem.W.mg_of X G a_law
    k_law := k_law
    t_MOST_BITS := t_MOST_BITS
    g_MOST_BITS := PySem.W.mg_of X G v_MOST_BITS
    t_LONGEST_ROW := t_LONGEST_ROW
    g_LONGEST_ROW := PySem.W.mg_of X G v_LONGEST_ROW
    n_all := PySem.W.mg_none_of X G z_all
    n_bool := PySem.W.mg_none_of X G z_bool
    n_int := PySem.W.mg_none_of X G z_int
    n_isinstance := PySem.W.mg_none_of X G z_isinstance
    n_len := PySem.W.mg_none_of X G z_len
    n_list := PySem.W.mg_none_of X G z_list
    n_range := PySem.W.mg_none_of X G z_range
    kb_least_0_kind := kbinds_of F_least (fun _ _ _ _ _ _ us ws hl => match us, ws, hl with | [], [_], _ => rfl) rel_kb_least_0_kind
    kb_greatest_0_kind := kbinds_of F_greatest (fun _ _ _ _ _ _ us ws hl => match us, ws, hl with | [], [_], _ => rfl) rel_kb_greatest_0_kind
    kb_wrapped_0_n_kind := kbinds_of F_wrapped (fun _ _ _ _ _ _ us ws hl => match us, ws, hl with | [], [_, _], _ => rfl) rel_kb_wrapped_0_n_kind
    kb_is_value_0_x_kind := kbinds_of F_is_value (fun _ _ _ _ _ _ us ws hl => match us, ws, hl with | [], [_, _], _ => rfl) rel_kb_is_value_0_x_kind
    kb_cast_0_n_kinds := kbinds_of F_cast (fun _ _ _ _ _ _ us ws hl => match us, ws, hl with | [], [_, _], _ => rfl) rel_kb_cast_0_n_kinds
    bl_law := fun s v => .of_eq rfl }⟩
theorem walk {l : PySem.W.OpenLaw} {q : Program} {loose : List Str} {XP : (Str → Option Value) → Heap → Prop} {YP : World → Heap → Prop} {d : DefRec} {K : Params → PySem.W.Frag} (hn : l.most = some 63) (hdf : d.params.defaults = []) (hnm : d.name = "law")
    (hY : ∀ (w : World) (h : Heap), YP w h → (K w.params).In h)
    (F : ∀ (w : World) (mg : Str → Option Value) (h : Heap), (K w.params).In h → h.Ns mainGlobals mg → Nonempty (Txt (K w.params) mg)) :
    PySem.W.WalkO q loose XP YP l.row.toRowW d [] (fun f vs => PySem.call f vs) :=
  L2.walk_of (n := 63) (k := 6) (x := "_law_script") (CX := fun _ => CX0) (sp := fun w => sp_law (K w.params) 0) hn (by decide) hdf ⟨rfl, by decide, by decide⟩ hY
    (fun w mg fa h KX G hm => by
      obtain ⟨T⟩ := F w mg h KX G
      have e : T.f_law = fa := by
        have q := T.g_law.symm.trans (hnm ▸ hm)
        cases q; rfl
      subst e
      exact ⟨T.fd_law, T.bl_law, fun base _ _ => ok_law T⟩)
    (fun _ _ a ns hl _ hS => ⟨a, ns, rfl, hS, hl, fun _ => rfl⟩) fun _ _ _ _ _ z => z
end Fw
open PySem PySem.W PyProof.Rows
set_option maxRecDepth 100000 in
set_option maxHeartbeats 0 in
theorem PySem.Challenge.cw_farwrap_k01_kinds_and_casts_holds : PySem.Challenge.rw_farwrap_k01_kinds_and_casts.Holds := by
  w_on; o_law; k_head; (case hw => w_witness2)
  k_fill
  refine Fw.walk (l := PySem.Challenge.rw_farwrap_k01_kinds_and_casts) rfl rfl rfl (fun w h Y => PySem.W.kIn_of Y) ?F
  case F =>
    intro w mg h KX G
    refine' Fw.mk_txt KX G ?aC_Kind ?a_Kind___init__ ?i_Kind___init__ ?pg_Kind ?hd_Kind ?po_Kind ?sa_Kind ?mkk_Kind ?kc_Kind ?na_Kind_bits ?na_Kind_is_signed ?ia_Kind ?ib_Kind ?ic_Kind ?id_Kind ?a_is_integer ?l_is_integer ?c_is_integer ?k_is_integer ?a_check_integer ?l_check_integer ?c_check_integer ?k_check_integer ?l_Kind___init__ ?c_Kind___init__ ?k_Kind___init__ ?a_check_kind ?l_check_kind ?c_check_kind ?k_check_kind ?a_check_row ?l_check_row ?c_check_row ?k_check_row ?a_least ?l_least ?c_least ?k_least ?a_greatest ?l_greatest ?c_greatest ?k_greatest ?a_is_value ?l_is_value ?c_is_value ?k_is_value ?a_wrapped ?l_wrapped ?c_wrapped ?k_wrapped ?a_cast ?l_cast ?c_cast ?k_cast ?a__law_source_of ?l__law_source_of ?c__law_source_of ?k__law_source_of ?a__law_next ?l__law_next ?c__law_next ?k__law_next ?a__law_one ?l__law_one ?c__law_one ?k__law_one ?a__law_cell_at ?l__law_cell_at ?c__law_cell_at ?k__law_cell_at ?a__law_power ?l__law_power ?c__law_power ?k__law_power ?a__law_wide ?l__law_wide ?c__law_wide ?k__law_wide ?a__law_placed ?l__law_placed ?c__law_placed ?k__law_placed ?a__law_integers ?l__law_integers ?c__law_integers ?k__law_integers ?a__law_right ?l__law_right ?c__law_right ?k__law_right ?a_law ?l_law ?c_law ?k_law ?v_MOST_BITS ?v_LONGEST_ROW ?z_all ?z_bool ?z_int ?z_isinstance ?z_len ?z_list ?z_range
    (case aC_Kind => k_is)
    (case a_Kind___init__ => k_is)
    (case i_Kind___init__ => k_is)
    (case pg_Kind => k_is)
    (case hd_Kind => k_is)
    (case po_Kind => k_is)
    (case sa_Kind => k_is)
    (case mkk_Kind => k_is)
    (case kc_Kind => k_is)
    (case na_Kind_bits => k_is)
    (case na_Kind_is_signed => k_is)
    (case ia_Kind => k_is)
    (case ib_Kind => k_is)
    (case ic_Kind => k_is)
    (case id_Kind => k_is)
    (case a_is_integer => k_is)
    (case l_is_integer => k_is)
    (case c_is_integer => k_is)
    (case k_is_integer => k_is)
    (case a_check_integer => k_is)
    (case l_check_integer => k_is)
    (case c_check_integer => k_is)
    (case k_check_integer => k_is)
    (case l_Kind___init__ => k_is)
    (case c_Kind___init__ => k_is)
    (case k_Kind___init__ => k_is)
    (case a_check_kind => k_is)
    (case l_check_kind => k_is)
    (case c_check_kind => k_is)
    (case k_check_kind => k_is)
    (case a_check_row => k_is)
    (case l_check_row => k_is)
    (case c_check_row => k_is)
    (case k_check_row => k_is)
    (case a_least => k_is)
    (case l_least => k_is)
    (case c_least => k_is)
    (case k_least => k_is)
    (case a_greatest => k_is)
    (case l_greatest => k_is)
    (case c_greatest => k_is)
    (case k_greatest => k_is)
    (case a_is_value => k_is)
    (case l_is_value => k_is)
    (case c_is_value => k_is)
    (case k_is_value => k_is)
    (case a_wrapped => k_is)
    (case l_wrapped => k_is)
    (case c_wrapped => k_is)
    (case k_wrapped => k_is)
    (case a_cast => k_is)
    (case l_cast => k_is)
    (case c_cast => k_is)
    (case k_cast => k_is)
    (case a__law_source_of => k_is)
    (case l__law_source_of => k_is)
    (case c__law_source_of => k_is)
    (case k__law_source_of => k_is)
    (case a__law_next => k_is)
    (case l__law_next => k_is)
    (case c__law_next => k_is)
    (case k__law_next => k_is)
    (case a__law_one => k_is)
    (case l__law_one => k_is)
    (case c__law_one => k_is)
    (case k__law_one => k_is)
    (case a__law_cell_at => k_is)
    (case l__law_cell_at => k_is)
    (case c__law_cell_at => k_is)
    (case k__law_cell_at => k_is)
    (case a__law_power => k_is)
    (case l__law_power => k_is)
    (case c__law_power => k_is)
    (case k__law_power => k_is)
    (case a__law_wide => k_is)
    (case l__law_wide => k_is)
    (case c__law_wide => k_is)
    (case k__law_wide => k_is)
    (case a__law_placed => k_is)
    (case l__law_placed => k_is)
    (case c__law_placed => k_is)
    (case k__law_placed => k_is)
    (case a__law_integers => k_is)
    (case l__law_integers => k_is)
    (case c__law_integers => k_is)
    (case k__law_integers => k_is)
    (case a__law_right => k_is)
    (case l__law_right => k_is)
    (case c__law_right => k_is)
    (case k__law_right => k_is)
    (case a_law => k_is)
    (case l_law => k_is)
    (case c_law => k_is)
    (case k_law => k_is)
    (case v_MOST_BITS => k_is)
    (case v_LONGEST_ROW => k_is)
    (case z_all => k_is)
    (case z_bool => k_is)
    (case z_int => k_is)
    (case z_isinstance => k_is)
    (case z_len => k_is)
    (case z_list => k_is)
    (case z_range => k_is)
