import PyProof.Rows.All
import Wide.All
import OpenK.AllK
import Wide.FinOn
import HandS.ForMost
import HandS.Exc
import HandS.ExcOwn
import HandS.ExcInit
import HandS.ExcField
import HandS.ExcIs
import HandS.TryOnly
import HandS.WordsExc
import HandS.IsInst
import HandS.Property
import HandS.Wide
import HandS.WideBits
import HandS.Gcd
import HandS.Flow
import HandS.Zip
import HandS.Codes
import KE.KOpsOwn
import HandS.Defaults
import HandS.Head0
import HandS.Head1
import HandS.Head2
import HandS.Head3
import HandS.HeadHook4
import HandS.HeadEnd
import PySem.Challenge.RW_lastrows_k00_ratio_lowest
set_option Elab.async false
set_option linter.all false
set_option maxRecDepth 100000
set_option maxHeartbeats 4000000
namespace PySem.W
open PySem PySem.Spec PySem.Calls PyProof.Rows
section
variable {prog : Program} {w : World} {A : Around} {E : Value → Shared → Prop} {s : Shared} {K : Frag} {x D : Addr} {ox : Obj}
theorem kin_classD {Q : Option Value → Shared → Prop} (hga : findIn K (.ref D) "__getattribute__" = some (some (.builtin "BaseException.__getattribute__"))) (hgt : findIn K (.ref D) "__getattr__" = some none) (hsub : subIn K (.ref D) (.type "BaseException") = some true)
    (hdct : hasDictIn K D = true) (ha : findIn K (.ref D) "__class__" = some (some (.builtin "object.__class__")))
    (hn : specialIn K (.builtin "object.__class__") "__get__" = some (some (.builtin "getset_descriptor.__get__"))) (htk : takesIn K (.builtin "object.__class__") = some true) (hm : mroIn K D (.type "object") = some true)
    (X : K.In s.heap) {od : Obj} (I : InstAt s.heap x ox D (some od)) (h : Q (some (.ref D)) { s with toks := s.toks + 1 }) : wpAny (model prog w) A (getAttr? (.ref x) "__class__") Q E s := by
  have hf : findObj K D (some od) "__class__" = some (.bind (.builtin "getset_descriptor.__get__") (.builtin "object.__class__")) := findObj_data (by obtain ⟨cd, hc, _⟩ := any_some hdct; rw [hc]; rfl) ha hn htk
  obtain ⟨hp, g, d, t, os⟩ := s
  have L0 := I.type (M := model prog w)
  have L1 := looks_findIn (M := model prog w) X hga
  have L2 := looks_findIn (M := model prog w) X hgt
  have L3 := looks_find (M := model prog w) X I hf
  have sub : Looks (model prog w) hp (isInstance (.ref x) (.type "BaseException")) true := L0.andThen (looks_subIn X hsub)
  have hx0 : (false && onTheHeap (Value.builtin "BaseException.__getattribute__")) = false := rfl
  have hx2 : (Value.builtin "BaseException.__getattribute__" == Value.builtin "object.__getattribute__") = false := by decide +kernel
  have hx1 : (onTheHeap (Value.ref D) && Value.builtin "BaseException.__getattribute__" == Value.builtin "object.__getattribute__") = false := by rw [hx2]; rfl
  unfold getAttr? getAttrBy? getAttrBy
  refine wpAny_bind (wpAny_mkText (wpAny_bind (wpAny_attempt (wpAny_holding (wpAny_bind (L0.at (wpAny_bind (L1.at ?_))))))))
  show wpAny _ _ (if (onTheHeap (Value.ref D) && Value.builtin "BaseException.__getattribute__" == Value.builtin "object.__getattribute__") = true then _ else _) _ _ _
  rw [hx1, if_neg Bool.false_ne_true]
  unfold getAttrByItsOwn hookBefore
  refine wpAny_bind ?_
  rw [if_pos (show onTheHeap (Value.ref D) = true from rfl)]
  refine L2.at ?_
  refine wpAny_bind (wpAny_attempt (wpAny_holding ?_))
  unfold callGetattribute
  rw [hx0, if_neg Bool.false_ne_true]
  unfold boundAndCalled
  rw [PySem.F.excAttr_ValueError.ga.bind (.ref x)]
  refine wpAny_bind (wpAny_pure ?_)
  show wpAny _ _ (call (.builtin "BaseException.__getattribute__") [.ref x, .str "__class__" t]) _ _ _
  refine wpAny_call (codeAny_call_builtin PySem.F.excAttr_ValueError.ga.plain PySem.F.entry_bexc_ga ?_)
  refine @check_slot (model prog w) _ _ ⟨hp, g, d, t + 1, os⟩ "BaseException.__getattribute__" "BaseException" "__getattribute__" (.ref x) [.str "__class__" t] [] _ (by decide +kernel) (by decide +kernel) sub (PySem.F.args_bexc_ga (.ref x) (.str "__class__" t)) ?_
  unfold Builtin.«object.__getattribute__»
  refine wpAny_bind (wpAny_of_eq (a := ((Value.ref x : Value), [Value.str "__class__" t])) (by first | rfl | (simp only [slotArgs]; rfl)) ?_)
  refine wpAny_bind (wpAny_pure (wpAny_bind (L0.at (wpAny_bind (L3.at ?_)))))
  show wpAny _ _ (holding [Value.builtin "object.__class__"] (call (.builtin "getset_descriptor.__get__") [.builtin "object.__class__", .ref x, .ref D]) >>= ret) _ _ _
  refine wpAny_bind (wpAny_holding (wpAny_call (class_get (s := ⟨hp, g, d, t + 1, os⟩) (ox := ox) (od := some od) X I hm ?_)))
  refine wpAny_pure ?_
  show wpAny _ _ (handedOut (.ref D)) _ _ _
  rw [handedOut_of (v := .ref D) rfl]
  first
    | exact wpAny_pure (wpAny_pure h)
    | exact wpAny_pure h
    | exact wpAny_pure (wpAny_bind (wpAny_pure (wpAny_pure h)))
theorem kitx_excD (hga : findIn K (.ref D) "__getattribute__" = some (some (.builtin "BaseException.__getattribute__"))) (hgt : findIn K (.ref D) "__getattr__" = some none) (hsub : subIn K (.ref D) (.type "BaseException") = some true) (hdct : hasDictIn K D = true) (ha : findIn K (.ref D) "__class__" = some (some (.builtin "object.__class__")))
    (hn : specialIn K (.builtin "object.__class__") "__get__" = some (some (.builtin "getset_descriptor.__get__"))) (htk : takesIn K (.builtin "object.__class__") = some true) (hm : mroIn K D (.type "object") = some true) :
    KitX K (.ref x) (.ref D) (fun h => ∃ od : Obj, InstAt h x ox D (some od)) where
  ty := fun _ _ _ ⟨_, I⟩ => I.type
  it := fun _ _ X _ => by
    obtain ⟨cdD, hcD, _⟩ := any_some hdct
    unfold clsIn at hcD
    split at hcD
    · rename_i c' d' cd' sl' ho
      intro A' Q' E' s' k q
      unfold isType loadHead
      exact wpAny_bind (wpAny_loadPart (k _ _ (X _ _ ho)) (wpAny_pure q))
    · cases hcD
  ne := fun h tp dd its n sl X htp => by
    obtain ⟨cdD, hcD, _⟩ := any_some hdct
    refine Bool.eq_false_iff.mpr fun q => ?_
    have e : D = tp := Value.ref.inj (beq_iff_eq.mp q)
    subst e
    unfold clsIn at hcD
    split at hcD
    · rename_i c' d' cd' sl' ho
      have z := (X _ _ ho).symm.trans htp
      cases z
    · cases hcD
  ca := fun X ⟨_, I⟩ k => kin_classD hga hgt hsub hdct ha hn htk hm X I k
end
end PySem.W
namespace LR
open PySem PySem.Spec PyProof.Rows L2
/-- isinstance(e, c), e the exception that the suite holds (class cls, dict d) -/
def rIsD (K : PySem.W.Frag) (D a : Addr) (cls : Value) (d : Option Addr) : List V → Hp → VK → Prop := fun xs H Q => ∃ (c : V) (cv : Value) (b : Bool) (dd : Addr) (fs : List (Str × V)), xs = [.ref a, c] ∧ cls = .ref D ∧ d = some dd ∧ H dd = some (.xd fs) ∧ ClsV c cv ∧
  PySem.W.kitOne K (.ref D) cv = some b ∧ Q (.bl b) H
theorem call_isD {X : Cx} {a D : Addr} {cls : Value} {d : Option Addr} {oe : Obj} {pn : List (Addr × Obj)} (C : ExcC X.K D) (hz : Zc cls d oe) (hf : ∃ vs, oe.data = .fields vs) : CallR (X.suite a ((a, oe) :: pn)) (.builtin "isinstance") (rIsD X.K D a cls d) := by
  intro pins s σ H xs us Q I r h
  obtain ⟨c, cv, b, dd, fs, rfl, rfl, rfl, hd, hcv, e, q⟩ := h
  cases r with
  | cons rx rr =>
    cases rr with
    | cons rt rr =>
      cases rr
      cases rx
      have ec := hcv.eq rt
      subst ec
      obtain ⟨hget, _⟩ := I.pin (a, oe) (List.mem_append.mpr (.inl List.mem_cons_self))
      obtain ⟨vs, hv⟩ := hf
      have hx : ObjOk X.prog X.w H s.heap dd (.xd fs) := I.hok dd _ hd
      obtain ⟨mA, hns, hr⟩ := hx
      obtain ⟨od, ho, hl⟩ := lookIn_ns hns
      have J : PySem.W.InstAt s.heap a oe D (some od) := ⟨hget, hz.1, by unfold PySem.W.notCls; rw [hv] <;> rfl, by rw [hz.2]; exact ho⟩
      exact PySem.W.kia_one (PySem.W.kitx_excD C.hg C.hk C.hs C.hd C.ha C.hn C.ht C.hm) I.kIn ⟨od, J⟩ e (fun z => nomatch z) fun tk => ⟨.bl b, H, I.kept (t' := tk) fun _ _ z => z, rfl, q⟩
end LR
namespace LR
open PySem PySem.Spec PyProof.Rows L2
section
variable {X : Cx}
/-! wide ints -/
def CDivZ (_ j : Int) : Prop := j ≠ 0 ∧ j.natAbs.log2 < 9000
theorem op_fdivZ : OpR X (binaryOp .FloorDiv) (rI CDivZ fun i j => .int (i.fdiv j)) := opI fun i j _ _ _ _ _ hc q => floordiv_int hc.1 q (.inl (PyProof.noPylong_of_log2 hc.2))
def CPowZ (i j : Int) : Prop := 0 ≤ j ∧ (Builtin.Int.intBits i : Int) * j ≤ 2 ^ 27
theorem op_powZ : OpR X (binaryOp .Pow) (rI CPowZ fun i j => .int (i ^ j.toNat)) := opI fun i j _ _ _ _ _ hc q => pow_int hc.1 hc.2 q
end

/-! own operators -/
theorem cmpBack_of {v : V} {u : Value} {s : Shared} {Q : Value → Shared → Prop} (r : RelV v u) (h : Q u s) : PySem.W.CmpBack Q u s := by
  cases v with
  | non => cases (show u = Value.none from r); exact h
  | bl b => cases (show u = Value.bool b from r); exact h
  | int i => obtain ⟨t, rfl⟩ := (show ∃ t, u = Value.int i t from r); exact h
  | str x => obtain ⟨t, rfl⟩ := (show ∃ t, u = Value.str x t from r); exact h
  | byt b => obtain ⟨t, rfl⟩ := (show ∃ t, u = Value.bytes b t from r); exact h
  | flt b => obtain ⟨t, rfl⟩ := (show ∃ t, u = Value.float b t from r); exact h
  | ref a => cases (show u = Value.ref a from r); exact h
  | ty n => cases (show u = Value.type n from r); exact h

section
variable {X : Cx} {CX : CXT} {k : Nat} {C f : Addr} {fd : FuncData} {ps : List Str} {sp : Sp} {E : XK}
/-- x op y, two instances of one class, by its own method -/
def rBinO (C : Addr) (sp : Sp) (E : XK) : R2 := fun x y H Q => ∃ (a dx : Addr) (fs : List (Str × V)) (b dy : Addr) (gs : List (Str × V)), x = .ref a ∧ y = .ref b ∧ H a = some (.ins C dx fs) ∧ H b = some (.ins C dy gs) ∧ sp [.ref a, .ref b] H Q E
theorem op_binO {op : Operator} (hc : PySem.W.selfFirst X.K C = true) (hs : PySem.W.findIn X.K (.ref C) (PySem.dunder op.info.2) = some (some (.ref f))) (hf : PySem.W.isFn X.K (.ref f) = true)
    (F : FnOk X.prog X.w X.K X.mg X.base CX k f fd ps sp) (hr : Room k X.A) (hb : Binds X.K fd ps []) (hx : Passes CX X E) : OpR X (binaryOp op) (rBinO C sp E) := by
  intro pins s σ H x y v u Q I rx ry h
  obtain ⟨a, dx, fs, b, dy, gs, rfl, rfl, ha, hb', q⟩ := h
  cases rx
  cases ry
  obtain ⟨mA, J, _⟩ := ins_get I.hok ha
  obtain ⟨mB, J', _⟩ := ins_get I.hok hb'
  obtain ⟨od, J, _⟩ := J.look
  obtain ⟨od', J', _⟩ := J'.look
  obtain ⟨m, hF⟩ := I.fr
  refine PySem.W.binop_K hF I.ok.mod.kin J J'.type hc hs hf ?_
  exact wpAny_mono (run_fn F hr hb .nil hx I (vs := [.ref a, .ref b]) (.cons rfl (.cons rfl .nil)) q) (fun u s' z => by
    obtain ⟨v, H', I', r, q'⟩ := z
    exact cmpBack_of r ⟨v, H', I', r, q'⟩) fun _ _ e => e
/-- -x by its own method -/
def rUnO (C : Addr) (sp : Sp) (E : XK) : V → Hp → VK → Prop := fun x H Q => ∃ (a dx : Addr) (fs : List (Str × V)), x = .ref a ∧ H a = some (.ins C dx fs) ∧ sp [.ref a] H Q E
theorem un_negO (hs : PySem.W.findIn X.K (.ref C) "__neg__" = some (some (.ref f))) (hf : PySem.W.isFn X.K (.ref f) = true)
    (F : FnOk X.prog X.w X.K X.mg X.base CX k f fd ps sp) (hr : Room k X.A) (hb : Binds X.K fd ps []) (hx : Passes CX X E) : UnR X (unaryOp .USub) (rUnO C sp E) := by
  intro pins s σ H x v Q I rx h
  obtain ⟨a, dx, fs, rfl, ha, q⟩ := h
  cases rx
  obtain ⟨mA, J, _⟩ := ins_get I.hok ha
  obtain ⟨od, J, _⟩ := J.look
  obtain ⟨m, hF⟩ := I.fr
  refine PySem.W.ksp_neg hF I.ok.mod.kin J hs hf ?_
  exact run_fn F hr hb .nil hx I (vs := [.ref a]) (.cons rfl .nil) q
/-- x == y by its own method, y anything of a told type -/
def rCmpO (C : Addr) (sp : Sp) (E : XK) (K : PySem.W.Frag) : R2 := fun x y H Q => ∃ (a dx : Addr) (fs : List (Str × V)) (t : Value), x = .ref a ∧ H a = some (.ins C dx fs) ∧ TyX K H y t ∧ PySem.W.notFirst K C t = true ∧ sp [.ref a, y] H Q E
theorem op_eqO (hs : PySem.W.findIn X.K (.ref C) "__eq__" = some (some (.ref f))) (hf : PySem.W.isFn X.K (.ref f) = true)
    (F : FnOk X.prog X.w X.K X.mg X.base CX k f fd ps sp) (hr : Room k X.A) (hb : Binds X.K fd ps []) (hx : Passes CX X E) : OpR X (compareOp .Eq) (rCmpO C sp E X.K) := by
  intro pins s σ H x y v u Q I rx ry h
  obtain ⟨a, dx, fs, t, rfl, ha, ty, hn, q⟩ := h
  cases rx
  obtain ⟨P, Z, p, _⟩ := kit_of I ry ty
  obtain ⟨mA, J, _⟩ := ins_get I.hok ha
  obtain ⟨od, J, _⟩ := J.look
  obtain ⟨m, hF⟩ := I.fr
  show wpAny (model X.prog X.w) X.A (richCompare .Eq (.ref a) u) (EP X pins σ Q) X.xe s
  refine PySem.W.cmp_K (op := .Eq) (hu_of hr |> Nat.lt_of_succ_lt) hF I.ok.mod.kin J (Z.ty _ _ I.kIn p) hn hs hf ?_
  exact wpAny_mono (run_fn F hr hb .nil hx I (vs := [.ref a, y]) (.cons rfl (.cons ry .nil)) q) (fun u s' z => by
    obtain ⟨v, H', I', r, q'⟩ := z
    exact cmpBack_of r ⟨v, H', I', r, q'⟩) fun _ _ e => e
end

/-! != by an own __eq__ -/
section
open PySem.W PySem.Calls Builtin
variable {prog : Program} {w : World} {A : Around} {E : Value → Shared → Prop} {s : Shared} {K : PySem.W.Frag} {x C L f : Addr} {h₀ : Heap} {m : Str → Option Value} {ox : Obj} {od : Option Obj} {b tb : Value}
theorem ifBound_S {M : Model} {args : List Value} {name : Str} {id : String} {Q : Option Value → Shared → Prop} (X : K.In s.heap) (I : InstAt s.heap x ox C od) (hs : findIn K (.ref C) name = some (some (.builtin id)))
    (hb : ∀ self, bindSpecial (.builtin id) self = pure (.builtin id, [self])) (h : wpAny M A (call (.builtin id) (.ref x :: args)) (fun v => Q (some v)) E s) : wpAny M A (callSpecialIfBound? (.ref x) name args) Q E s := by
  simp only [callSpecialIfBound?, bindSpecialIfBound?]
  refine wpAny_holding (wpAny_bind (wpAny_bind (wpAny_bind (I.type.here ((looks_findIn X hs).here ?_)))))
  simp only [hb]
  refine wpAny_bind (wpAny_askSetting (wpAny_ite ?_))
  have fin : wpAny M A (call (.builtin id) ([.ref x] ++ args) >>= fun v => pure (some v)) Q E s := wpAny_bind (wpAny_mono h (fun v s' h' => wpAny_pure h') fun _ _ h' => h')
  split
  · exact wpAny_bind (wpAny_pure (wpAny_pure fin))
  · exact wpAny_tryCatch (wpAny_bind (wpAny_pure (wpAny_pure fin)))
theorem cmp_one {op : CmpOp} {Q : Value → Shared → Prop} (hu : A.units < cLine) (X : K.In s.heap) (I : InstAt s.heap x ox C od) (hb : Looks (model prog w) s.heap (typeOf b) tb) (hn : notFirst K C tb = true)
    (one : wpAny (model prog w) A (tryCompare (.ref x) (cmpInfo op).2.1 b) (fun r s' => ∃ v, r = some v ∧ Q v s') E s) : wpAny (model prog w) A (richCompare op (.ref x) b) Q E s := by
  unfold richCompare
  simp only [oneThing_ref]
  refine wpAny_holding (wpAny_bind (wpAny_cRoomFor hu ?_))
  refine wpAny_bind (I.type.here (wpAny_bind (hb.here ?_)))
  split
  · rename_i q
    have e : subIn K tb (.ref C) = some false := by
      rcases Bool.or_eq_true_iff.mp hn with e | e
      · rw [beq_iff_eq.mp e] at q; simp at q
      · exact beq_iff_eq.mp e
    refine wpAny_bind ((looks_subIn X e).here ?_)
    simp only [Bool.false_eq_true, if_false]
    refine wpAny_bind (wpAny_mono one (fun r s' z => ?_) fun _ _ e => e)
    obtain ⟨v, rfl, hq⟩ := z
    exact wpAny_pure hq
  · refine wpAny_bind (wpAny_pure ?_)
    simp only [Bool.false_eq_true, if_false]
    refine wpAny_bind (wpAny_mono one (fun r s' z => ?_) fun _ _ e => e)
    obtain ⟨v, rfl, hq⟩ := z
    exact wpAny_pure hq
theorem ne_try {Q : Option Value → Shared → Prop} (hu : A.units + 1 < cLine) (X : K.In s.heap) (I : InstAt s.heap x ox C od) (hn : findIn K (.ref C) "__ne__" = some (some (.builtin "object.__ne__"))) (ho : subIn K (.ref C) (.type "object") = some true)
    (hs : findIn K (.ref C) "__eq__" = some (some (.ref f))) (hf : isFn K (.ref f) = true)
    (h : wpAny (model prog w) A.in1 (call (.ref f) [.ref x, b]) (fun v s' => ∃ r, v = .bool r ∧ Q (some (.bool (!r))) s') E s) : wpAny (model prog w) A (tryCompare (.ref x) "__ne__" b) Q E s := by
  have SL : Slot "object" "__ne__" "object.__ne__" := .of (owner := "object") (n := "__ne__") (by rw [typeLookup_type, builtinLookup_eq_fast]; kernel_rfl) (by decide +kernel) (by decide +kernel) (by decide +kernel)
    (by first | exact .inl (by decide +kernel) | exact .inr (by decide +kernel)) (by rw [isSubtype_type]; kernel_rfl)
  simp only [tryCompare]
  refine wpAny_bind (ifBound_S X I hn SL.bind (wpAny_call (codeAny_call_builtin SL.plain PySem.F.cmpEntry_ne ?_)))
  refine @PySem.W.check_slot (model prog w) _ _ s "object.__ne__" "object" "__ne__" (.ref x) [b] [] _ PySem.F.cmpKind_ne PySem.F.cmpSplit_ne (I.type.andThen (looks_subIn X ho)) (PySem.F.cmpArgs_ne (.ref x) b) ?_
  unfold Builtin.«object.__ne__»
  refine wpAny_bind (wpAny_pure ?_)
  dsimp only
  refine wpAny_bind (wpAny_cRoomFor hu ?_)
  refine wpAny_bind (m := callSpecialIfBound? (.ref x) (Str.ofString "__eq__") [b]) (ifBound_K X I hs hf (wpAny_mono h (fun v s' hv => ?_) fun _ _ e => e))
  obtain ⟨r, rfl, hq⟩ := hv
  dsimp only
  refine wpAny_bind (m := truthy (.bool _)) (wpAny_truthy_bool ?_)
  first
    | exact wpAny_pure ⟨_, rfl, wpAny_pure hq⟩
    | exact wpAny_pure ⟨_, rfl, hq⟩
    | exact wpAny_pure (wpAny_pure hq)
    | exact wpAny_pure (wpAny_pure (wpAny_pure hq))
end

section
variable {X : Cx} {CX : CXT} {k : Nat} {C f : Addr} {fd : FuncData} {ps : List Str} {sp : Sp} {E : XK}
/-- x != y by its own == -/
def rNeO (C : Addr) (sp : Sp) (E : XK) (K : PySem.W.Frag) : R2 := fun x y H Q => ∃ (a dx : Addr) (fs : List (Str × V)) (t : Value), x = .ref a ∧ H a = some (.ins C dx fs) ∧ TyX K H y t ∧ PySem.W.notFirst K C t = true ∧
  sp [.ref a, y] H (fun v H' => ∃ b : Bool, v = .bl b ∧ Q (.bl (!b)) H') E
theorem op_neO (hn : PySem.W.findIn X.K (.ref C) "__ne__" = some (some (.builtin "object.__ne__"))) (ho : PySem.W.subIn X.K (.ref C) (.type "object") = some true)
    (hs : PySem.W.findIn X.K (.ref C) "__eq__" = some (some (.ref f))) (hf : PySem.W.isFn X.K (.ref f) = true)
    (F : FnOk X.prog X.w X.K X.mg X.base CX k f fd ps sp) (hr : Room (k + 1) X.A) (hb : Binds X.K fd ps []) (hx : Passes CX X.nox E) : OpR X (compareOp .NotEq) (rNeO C sp E X.K) := by
  intro pins s σ H x y v u Q I rx ry h
  obtain ⟨a, dx, fs, t, rfl, ha, ty, hnf, q⟩ := h
  cases rx
  obtain ⟨P, Z, p, _⟩ := kit_of I ry ty
  obtain ⟨mA, J, _⟩ := ins_get I.hok ha
  obtain ⟨od, J, _⟩ := J.look
  show wpAny (model X.prog X.w) X.A (richCompare .NotEq (.ref a) u) (EP X pins σ Q) X.xe s
  refine cmp_one (op := .NotEq) (hu_of hr |> Nat.lt_of_succ_lt) I.kIn J (Z.ty _ _ I.kIn p) hnf ?_
  have hl : [Value.ref a, u].length = ps.length := by
    rw [← F.len _ _ _ _ q]
    rfl
  refine ne_try (hu_of hr) I.kIn J hn ho hs hf (wpAny_call (codeAny_mono (F.run X.A.in1 X.stack s H ⟨[.ref a, u], []⟩ [.ref a, u] [.ref a, y] _ E hr.in1 I.env0.in1 (by simpa using hb s [.ref a, u] I.kIn (by simpa using hl)) (.cons rfl (.cons ry .nil)) q) fun r s' hq => ?_))
  cases r with
  | error er => exact False.elim (hx pins σ H s er s' (I.wish _) hq)
  | ok fl =>
    cases fl with
    | ret w =>
      obtain ⟨v, H', I', rv, b, rfl, q3⟩ := I.after hq
      cases rv
      exact ⟨b, rfl, _, rfl, .bl (!b), H', I', rfl, q3⟩
    | next => exact False.elim hq
    | brk => exact False.elim hq
    | cont => exact False.elim hq
/-- abs(x) by its own method -/
theorem call_absO (hs : PySem.W.findIn X.K (.ref C) "__abs__" = some (some (.ref f))) (hf : PySem.W.isFn X.K (.ref f) = true)
    (F : FnOk X.prog X.w X.K X.mg X.base CX k f fd ps sp) (hr : Room (k + 1) X.A) (hb : Binds X.K fd ps []) (hx : Passes CX X.nox E) : CallR X (.builtin "abs") (fun xs H Q => ∃ (a dx : Addr) (fs : List (Str × V)), xs = [.ref a] ∧ H a = some (.ins C dx fs) ∧ sp [.ref a] H Q E) := by
  intro pins s σ H xs us Q I r h
  obtain ⟨a, dx, fs, rfl, ha, q⟩ := h
  obtain ⟨u, rfl, ru⟩ := vals1 r
  cases ru
  obtain ⟨mA, J, _⟩ := ins_get I.hok ha
  obtain ⟨od, J, _⟩ := J.look
  have hl : [Value.ref a].length = ps.length := by
    rw [← F.len _ _ _ _ q]
    rfl
  refine PySem.Calls.call_function_entry kind_abs plain_abs entry_abs (args_abs _) ?_
  unfold Builtin.«abs»
  refine wpAny_bind (m := oneArg "abs" _) (wpAny_pure ?_)
  refine wpAny_bind (m := callSpecial? (.ref a) (Str.ofString "__abs__")) (PySem.W.special_fn I.kIn J hs (beq_iff_eq.mp hf) (wpAny_call (codeAny_mono (F.run X.A.in1 X.stack s H ⟨[.ref a], []⟩ [.ref a] [.ref a] _ E hr.in1 I.env0.in1 (by simpa using hb s [.ref a] I.kIn (by simpa using hl)) (.cons rfl .nil) q) fun r s' hq => ?_)))
  cases r with
  | error er => exact False.elim (hx pins σ H s er s' (I.wish _) hq)
  | ok fl =>
    cases fl with
    | ret w =>
      obtain ⟨v, H', I', rv, q3⟩ := I.after hq
      exact wpAny_pure ⟨_, rfl, v, H', I', rv, q3⟩
    | next => exact False.elim hq
    | brk => exact False.elim hq
    | cont => exact False.elim hq
end

/-! calls within a try -/
section
variable {X : Cx} {CX : CXT} {k : Nat} {C f : Addr} {fd : FuncData} {ps : List Str} {sp : Sp} {dvs : List V} {ds : List Value} {E : L2.St → XK} {x m : Str} {p pos apos : Pos} {e o : Expr} {es : List Expr} {ta : TE} {t : TA}
theorem run_makeS {pins : List (Addr × Obj)} {σ : L2.St} {H : Hp} {s : Shared} {Q : VK} {us : List Value} {vs : List V} (M : Mk X.K C f) (F : FnOk X.prog X.w X.K X.mg X.base CX k f fd ps sp) (hr : Room (k + 1) X.A) (hb : Binds X.K fd ps ds) (hd : Vals dvs ds)
    (hx : PassesAt CX X σ (E σ)) (I : Inv X pins σ H s) (r : Vals vs us)
    (h : ∀ x dx, H x = none → H dx = none → dx ≠ x → sp (.ref x :: (vs ++ dvs)) (upd (upd H dx (.own x)) x (.ins C dx [])) (fun v H2 => v = .non ∧ Q (.ref x) H2) (E σ)) :
    wpAny (model X.prog X.w) X.A (call (.ref C) us) (EP X pins σ Q) X.xe s := by
  have hq := h (s.heap.objs.size + 1) s.heap.objs.size (I.hok.fresh (Nat.le_succ _)) (I.hok.fresh (Nat.le_refl _)) (Nat.ne_of_lt (Nat.lt_succ_self _))
  have I2 := Inv.made (C := C) I
  have r2 : Vals (V.ref (s.heap.objs.size + 1) :: (vs ++ dvs)) (Value.ref (s.heap.objs.size + 1) :: (us ++ ds)) := .cons rfl (r.append hd)
  have hl : (Value.ref (s.heap.objs.size + 1) :: us ++ ds).length = ps.length := by
    have e := r2.length
    rw [F.len _ _ _ _ hq] at e
    exact e.symm
  refine wpAny_call (make_map (f := f) I.kIn M.makes M.init (beq_iff_eq.mp M.fn) (codeAny_mono (F.run _ X.stack _ _ ⟨Value.ref (s.heap.objs.size + 1) :: us, []⟩ (Value.ref (s.heap.objs.size + 1) :: (us ++ ds)) _ _ (E σ) (hr.make C us [])
    (I2.env0.make C us []) (hb _ (Value.ref (s.heap.objs.size + 1) :: us) I2.kIn hl) r2 hq) fun r s' hq' => ?_))
  cases r with
  | error e => exact hx pins _ _ e s' I2 hq'
  | ok fl =>
    cases fl with
    | ret u =>
      obtain ⟨v, H', I3, rv, ev, q3⟩ := I2.after hq'
      subst ev
      exact ⟨rv, ⟨V.ref (s.heap.objs.size + 1), H', I3, rfl, q3⟩⟩
    | next => exact False.elim hq'
    | brk => exact False.elim hq'
    | cont => exact False.elim hq'
def tMakeS (C : Addr) (sp : Sp) (dvs : List V) (E : L2.St → XK) (t : TA) : TE := fun σ H Q => t σ H fun vs H1 => ∀ x dx, H1 x = none → H1 dx = none → dx ≠ x →
  sp (.ref x :: (vs ++ dvs)) (upd (upd H1 dx (.own x)) x (.ins C dx [])) (fun v H2 => v = .non ∧ Q (.ref x) H2) (E σ)
theorem pe_makeS (M : Mk X.K C f) (F : FnOk X.prog X.w X.K X.mg X.base CX k f fd ps sp) (hr : Room (k + 1) X.A) (hg : Gl X x) (hm : X.mg x = some (.ref C)) (hb : Binds X.K fd ps ds) (hd : Vals dvs ds) (hx : ∀ σ, PassesAt CX X σ (E σ))
    (ha : PA X (e :: es) t) (hdb : (x == ("__debug__" : Str)) = false := by decide) (he : starEach (e :: es) X.env = (false, eval e X.env) :: starEach es X.env := by rfl) (hpl : (backTo pos (starEach es X.env)).any (·.1) = false := by rfl) :
    PE X (.Call (.Name x p) (e :: es) [] pos) (tMakeS C sp dvs E t) := by
  refine ⟨fun pins s σ H Q I h => ?_⟩
  refine wpAny_Call_Name_kw (ld_glob I hg hm ?_ hdb)
  refine PySem.W.callWith_K (h₀ := X.base) I.ok.mod.kin M.kp (thn (ha.run pos pins s σ H _ I h) fun us s1 ⟨vs, H1, I1, r, q⟩ => ⟨I1.kIn, ?_⟩) he hpl
  exact run_makeS M F hr hb hd (hx σ) I1 r q
/-- o.m(e, ..) within a try -/
def tMethS (C : Addr) (m : Str) (sp : Sp) (E : L2.St → XK) (ta : TE) (t : TA) : TE := fun σ H Q => ta σ H fun x H1 => ∃ a dx fs, x = .ref a ∧ H1 a = some (.ins C dx fs) ∧ fs.lookup m = none ∧ t σ H1 fun vs H2 => sp (x :: vs) H2 Q (E σ)
theorem pe_methS {pl : Sem Bool} (he : PE X o ta) (c : Cls X.K C) (hm : Meth X.K C m f)
    (F : FnOk X.prog X.w X.K X.mg X.base CX k f fd ps sp) (hr : Room k X.A) (hb : Binds X.K fd ps []) (hx : ∀ σ, PassesAt CX X σ (E σ)) (ha : PA X (e :: es) t)
    (hst : starEach (e :: es) X.env = (false, eval e X.env) :: starEach es X.env := by rfl) (hpl : (backTo pos (starEach es X.env)).any (·.1) = false := by rfl)
    (ht : eval (.Call (.Attribute o m apos) (e :: es) [] pos) X.env = (do
      let ov ← eval o X.env
      standAt apos.atName
      let (f, first) ← holding [ov] (getMethod ov m pl)
      callWith pos f first (backTo pos (starEach (e :: es) X.env)) (backToKw pos (keywordEach [] X.env))) := by rfl) :
    PE X (.Call (.Attribute o m apos) (e :: es) [] pos) (tMethS C m sp E ta t) := by
  refine ⟨fun pins s σ H Q I h => ?_⟩
  refine PySem.W.methodCall_KW (pl := pl) (thn (he.run pins s σ H _ I h) fun u s1 ⟨x, H1, I1, rx, a, dx, fs, ex, ea, l, q⟩ => ?_) ht
  subst ex
  obtain rfl : u = Value.ref a := rx
  refine getmeth_ok I1 ea c hm l ?_
  refine PySem.W.callWith_K (first := [.ref a]) (h₀ := X.base) I.ok.mod.kin hm.kp (thn (ha.run pos pins s1 σ H1 _ I1 q) fun us s2 ⟨vs, H2, I2, r, q2⟩ => ⟨I2.kIn, ?_⟩) hst hpl
  exact run_fnS (us := .ref a :: us) (vs := .ref a :: vs) F hr hb (hx σ) I2 (.cons rfl r) q2
/-- C(), an own exception made by its own __init__ -/
theorem pmk_oex0 {fI : Addr} {ps : List Str} {sp : Sp} (T : OexC X.K C) (iC : PySem.W.findIn X.K (.ref C) "__init__" = some (some (.ref fI))) (tI : PySem.W.typeIn X.K (.ref fI) = some (.type "function"))
    (F1 : FnOk X.prog X.w X.K X.mg X.base CX k fI fd ps sp) (hr : Room (k + 1) X.A) (hb : Binds X.K fd ps []) (hx : Passes CX X (fun _ _ _ => False)) (hg : Gl X x) (hm : X.mg x = some (.ref C))
    (hdb : (x == ("__debug__" : Str)) = false := by decide) :
    PMk X (.Call (.Name x p) [] [] pos) (tMkO C sp [] tNil) := by
  intro pins s σ H Q I h
  obtain ⟨nm, q, N, bs, bm, sn, sub, ab, col, dd, k0, k1, k2, k3, k5, hC, hbm⟩ := T.cls
  refine wpAny_Call_Name_kw (ld_glob I hg hm ?_ hdb)
  refine PySem.W.callWith_K0 I.kIn T.kC ?_
  show wpAny _ _ (call (.ref C) []) _ _ _
  obtain ⟨hz, q1⟩ := h
  obtain ⟨hp, g, dr, tk, os⟩ := s
  have hsz : hp.objs.size ≤ hp.objs.size + 1 := Nat.le_succ _
  have hn : H (hp.objs.size + 1) = none := I.hok.fresh hsz
  have hq := q1 (hp.objs.size + 1) hn
  have kk : ∀ b o, hp.get? b = some o → ((hp.push (PySem.W.kdv_tup [])).push (PySem.HandSPX.excO C hp.objs.size)).get? b = some o := fun b o e => Heap.get?_push_of_some _ (Heap.get?_push_of_some _ e)
  have hget : ((hp.push (PySem.W.kdv_tup [])).push (PySem.HandSPX.excO C hp.objs.size)).get? (hp.objs.size + 1) = some (PySem.HandSPX.excO C hp.objs.size) := by heap_get
  have I2 : Inv X pins σ (upd H (hp.objs.size + 1) (exo (hp.objs.size + 1) C none)) ⟨(hp.push (PySem.W.kdv_tup [])).push (PySem.HandSPX.excO C hp.objs.size), g, dr, tk, os⟩ :=
    I.laid (t' := tk) (a := hp.objs.size + 1) (o := exo (hp.objs.size + 1) C none) (h' := (hp.push (PySem.W.kdv_tup [])).push (PySem.HandSPX.excO C hp.objs.size)) kk hsz (exo_ok hget)
  have r2 : Vals [V.ref (hp.objs.size + 1)] [Value.ref (hp.objs.size + 1)] := .cons rfl .nil
  have hl : [Value.ref (hp.objs.size + 1)].length = ps.length := by
    have e := r2.length
    rw [← F1.len _ _ _ _ hq]
    rfl
  have hus : ([] : List Value).length ≤ sizeLine := by
    rw [sizeLine_eq]
    exact Nat.zero_le _
  refine wpAny_call (PySem.HandSPX.call_own F.excBase_ValueError (fun Y => PySem.HandSPX.refsVE_contains Y bm hbm) (I.kIn _ _ hC) (PySem.W.looks_findIn I.kIn iC) (fun self => PySem.W.bind_fn I.kIn self tI) hus
    (codeAny_mono (F1.run _ X.stack _ _ ⟨[Value.ref (hp.objs.size + 1)], []⟩ [Value.ref (hp.objs.size + 1)] [V.ref (hp.objs.size + 1)] _ (fun _ _ _ => False) (hr.make C [] []) (I2.env0.make C [] []) (by simpa using hb _ [Value.ref (hp.objs.size + 1)] I2.kIn (by simpa using hl)) r2 hq) fun r s' hq' => ?_))
  cases r with
  | error er => exact hx pins σ _ _ er s' I2 hq'
  | ok fl =>
    cases fl with
    | ret u =>
      obtain ⟨v, H2, os2, bare2, un2, hok2, rv, ev, d, fs, ea, ed, hd1, q2⟩ := hq'
      subst ev
      obtain ⟨h2, g2, d2, t2, os'⟩ := s'
      exact ⟨rv, mk_end (raises_own T.exC T.tyC) I hsz kk un2 hok2 os2 bare2 ea ed hd1 q2⟩
    | next => exact False.elim hq'
    | brk => exact False.elim hq'
    | cont => exact False.elim hq'
end
end LR

namespace LR
open PySem PySem.Spec PyProof.Rows L2
section
variable {X : Cx}
/-- * wherever the model lets it -/
theorem op_mulZ : OpR X (binaryOp .Mult) (rI IntMulOk fun i j => .int (i * j)) := opI fun _ _ _ _ _ _ _ hc q => mul_int q hc
end
theorem mulL {i j : Int} (h1 : -(2 ^ 63) ≤ i) (h2 : i ≤ 2 ^ 63) : IntMulOk i j := .of_left (PySem.intBits_le_64 (by omega) (by omega))
theorem mulR {i j : Int} (h1 : -(2 ^ 63) ≤ j) (h2 : j ≤ 2 ^ 63) : IntMulOk i j := .of_right (PySem.intBits_le_64 (by omega) (by omega))
theorem mulW {i j : Int} {a b : Nat} (ha : i.natAbs < 2 ^ a) (hb : j.natAbs < 2 ^ b) (h0 : 0 < a) (h1 : 0 < b) (h : a + b ≤ 1000000) : IntMulOk i j := (wide_mul ha hb h0 h1 h).ok
theorem divZ {i j : Int} {b : Nat} (h : j ≠ 0) (hb : j.natAbs < 2 ^ b) (h0 : 0 < b) (h9 : b ≤ 9000) : CDivZ i j := ⟨h, Nat.lt_of_lt_of_le (PySem.Flt.log2_lt_of h0 hb) h9⟩
/-! what is asked of the written part -/
def oexB (K : PySem.W.Frag) (C : Addr) : Bool := (match K.lookup C with
  | some ⟨.type "type", _, .cls cd, sl⟩ => (match cd.mro, sl.toList with
    | .ref C' :: bm, [_, _, _, _, some (.builtin n), _] => decide (C' = C) && (decide (n = "ValueError.__new__") && (!cd.hasDel && (cd.hasDict && PySem.HandSPX.refsVE bm)))
    | _, _ => false)
  | _ => false) && (decide (PySem.W.findIn K (.ref C) "__setattr__" = some (some (.builtin "object.__setattr__"))) && (decide (PySem.W.subIn K (.ref C) (.type "BaseException") = some true) &&
    (decide (PySem.W.typeIn K (.ref C) = some (.type "type")) && PySem.W.keepIn K (.ref C))))
theorem oexB_ok {K : PySem.W.Frag} {C : Addr} (h : oexB K C = true) : OexC K C := by
  obtain ⟨h1, h⟩ := Bool.and_eq_true_iff.mp h
  obtain ⟨h2, h⟩ := Bool.and_eq_true_iff.mp h
  obtain ⟨h3, h⟩ := Bool.and_eq_true_iff.mp h
  obtain ⟨h4, h5⟩ := Bool.and_eq_true_iff.mp h
  refine ⟨?_, of_decide_eq_true h2, of_decide_eq_true h3, of_decide_eq_true h4, h5⟩
  split at h1
  · rename_i dd cd sl ho
    split at h1
    · rename_i C' bm k0 k1 k2 k3 n k5 hm hs
      simp only [Bool.and_eq_true, decide_eq_true_eq, Bool.not_eq_true'] at h1
      obtain ⟨rfl, rfl, hdel, hdict, hv⟩ := h1
      obtain ⟨nm, bs, mro, ns, qn, hd, sn, sub, ab, col, dl⟩ := cd
      dsimp only at hm hdel hdict
      subst hm hdel hdict
      have hsl : sl = #[k0, k1, k2, k3, some (.builtin "ValueError.__new__"), k5] := by
        obtain ⟨l⟩ := sl
        dsimp only at hs
        rw [hs]
      subst hsl
      exact ⟨nm, qn, ns, bs, bm, sn, sub, ab, col, dd, k0, k1, k2, k3, k5, ho, hv⟩
    · cases h1
  · cases h1
def excB (K : PySem.W.Frag) (D : Addr) : Bool := decide (PySem.W.findIn K (.ref D) "__class__" = some (some (.builtin "object.__class__"))) && (decide (PySem.W.specialIn K (.builtin "object.__class__") "__get__" = some (some (.builtin "getset_descriptor.__get__"))) &&
  (decide (PySem.W.takesIn K (.builtin "object.__class__") = some true) && decide (PySem.W.mroIn K D (.type "object") = some true)))
theorem excB_ok {K : PySem.W.Frag} {D : Addr} (x : xfB K D = true) (h : excB K D = true) : ExcC K D := by
  obtain ⟨h1, h⟩ := Bool.and_eq_true_iff.mp h
  obtain ⟨h2, h⟩ := Bool.and_eq_true_iff.mp h
  obtain ⟨h3, h4⟩ := Bool.and_eq_true_iff.mp h
  have y := xfB_ok x
  exact ⟨y.ga, y.gg, y.exC, y.hdC, of_decide_eq_true h1, of_decide_eq_true h2, of_decide_eq_true h3, of_decide_eq_true h4⟩
/-- an own error class: made by its __init__, its fields read, asked by isinstance, named by except -/
def exAll (K : PySem.W.Frag) (x : Str) : Bool := oexB K (He.ga K x) && (xfB K (He.ga K x) && (excB K (He.ga K x) && (decide (PySem.W.findIn K (.ref (He.ga K x)) "__init__" = some (some (.ref (He.ma K (He.ga K x) "__init__")))) &&
  (decide (PySem.W.typeIn K (.ref (He.ma K (He.ga K x) "__init__")) = some (.type "function")) && decide (PySem.W.exmOne K (.ref (He.ga K x)) (.ref (He.ga K x)) = some true)))))
/-- an own class: its mro, its != -/
def clAll (K : PySem.W.Frag) (x : Str) : Bool := PySem.W.selfFirst K (He.ga K x) && (decide (PySem.W.findIn K (.ref (He.ga K x)) "__ne__" = some (some (.builtin "object.__ne__"))) && (decide (PySem.W.subIn K (.ref (He.ga K x)) (.type "object") = some true) &&
  (decide (PySem.W.findIn K (.ref (He.ga K x)) "__class__" = some (some (.builtin "object.__class__"))) && (decide (PySem.W.specialIn K (.builtin "object.__class__") "__get__" = some (some (.builtin "getset_descriptor.__get__"))) &&
  (decide (PySem.W.takesIn K (.builtin "object.__class__") = some true) && decide (PySem.W.mroIn K (He.ga K x) (.type "object") = some true))))))
/-- a property x.f: its record, its getter -/
def prAd (K : PySem.W.Frag) (x f : Str) : Addr := match PySem.W.findIn K (.ref (He.ga K x)) f with
  | some (some (.ref p)) => p
  | _ => 0
def prGet (K : PySem.W.Frag) (x f : Str) : Addr := match PySem.W.recIn K (prAd K x f) "property" with
  | some (.ref g :: _) => g
  | _ => 0
def prB (K : PySem.W.Frag) (x f : Str) : Bool := decide (PySem.W.findIn K (.ref (He.ga K x)) f = some (some (.ref (prAd K x f)))) && (decide (PySem.W.specialIn K (.ref (prAd K x f)) "__get__" = some (some (.builtin "property.__get__"))) &&
  (decide (PySem.W.takesIn K (.ref (prAd K x f)) = some true) && (match PySem.W.recIn K (prAd K x f) "property" with
    | some (.ref g :: _) => decide (g = prGet K x f)
    | _ => false)))
theorem prB_ok {K : PySem.W.Frag} {x f : Str} (h : prB K x f = true) : PropOf K (He.ga K x) f (prAd K x f) (prGet K x f) := by
  obtain ⟨h1, h⟩ := Bool.and_eq_true_iff.mp h
  obtain ⟨h2, h⟩ := Bool.and_eq_true_iff.mp h
  obtain ⟨h3, h4⟩ := Bool.and_eq_true_iff.mp h
  refine ⟨of_decide_eq_true h1, of_decide_eq_true h2, of_decide_eq_true h3, ?_⟩
  split at h4
  · rename_i g rest e
    exact ⟨rest, by rw [e, of_decide_eq_true h4]⟩
  · cases h4
/-- one def: its address in the written part, its name, qualified name, parameters, body, scope, defaults -/
structure Df where
  at_ : PySem.W.Frag → Addr
  name : Str
  qual : Str
  params : Arguments
  body : List Stmt
  scope : Scope
  dfl : List He.Dv := []
def fnWA (K : PySem.W.Frag) (f : Addr) : He.FnW := match K.lookup f with
  | some ⟨_, _, .func fd, _⟩ => some (fd.name, fd.qualname, fd.params, fd.body, fd.scope, fd.globals, fd.closure, fd.builtins)
  | _ => none
def Df.val (d : Df) : He.FnW := some (d.name, d.qual, d.params, .stmts d.body, d.scope, mainGlobals, [], builtinsNs)
def Df.dvs (K : PySem.W.Frag) (d : Df) : List V := d.dfl.map (He.Dv.v K)
def Df.ok (K : PySem.W.Frag) (d : Df) : Bool := PySem.W.keepIn K (.ref (d.at_ K)) && (match K.lookup (d.at_ K) with
  | some ⟨_, _, .func fd, _⟩ => PySem.W.codeIn K fd.code d.qual && He.dflB K fd.defaults (d.dvs K)
  | _ => false)
theorem Df.funD {K : PySem.W.Frag} {d : Df} (e : fnWA K (d.at_ K) = d.val) (c : d.ok K = true) : ∃ fd, FunD K d.name d.qual d.params d.body d.scope (d.dvs K) [] (d.at_ K) fd := by
  obtain ⟨kp, c2⟩ := Bool.and_eq_true_iff.mp c
  unfold fnWA at e
  cases q : K.lookup (d.at_ K) with
  | none =>
    rw [q] at c2
    exact absurd c2 Bool.false_ne_true
  | some o =>
    obtain ⟨oc, od, dt, osl⟩ := o
    rw [q] at c2 e
    cases dt with
    | func fd =>
      obtain ⟨n1, n2, n3, n4, n5, n6, n7, n8, n9, n10, n11, n12, n13, n14, n15⟩ := fd
      have e2 : (some (n1, n2, n3, n4, n5, n6, n7, n15) : He.FnW) = some (d.name, d.qual, d.params, .stmts d.body, d.scope, mainGlobals, [], builtinsNs) := e
      simp only [Option.some.injEq, Prod.mk.injEq] at e2
      obtain ⟨h1, h2, h3, h4, h5, h6, h7, h8⟩ := e2
      subst h1 h2 h3 h4 h5 h6 h7 h8
      obtain ⟨k1, k2⟩ := Bool.and_eq_true_iff.mp (show (PySem.W.codeIn K n13 d.qual && He.dflB K n8 (d.dvs K)) = true from c2)
      exact ⟨_, ⟨oc, od, n8, n9, n10, n11, n12, n13, n14, osl, rfl, q, k1, He.dflB_ok k2, .inl rfl⟩, kp⟩
    | _ => exact absurd c2 Bool.false_ne_true
/-- the lists of a law: global names (defs, classes), free ones, own classes, error classes, methods, attributes that no class holds, names of functions of other modules, answers of isinstance, properties; the defs -/
structure Ls where
  gl : List Str
  fr : List Str
  cl : List Str := []
  ex : List Str := []
  me : List (Str × Str) := []
  no : List (Str × Str) := []
  bl : List (Str × String) := []
  kit : List (Value × Str × Bool) := []
  kie : List (Str × Str × Bool) := []
  kiv : List (Str × String × Bool) := []
  pr : List (Str × Str) := []
  nf : List (Str × String) := []
  fn : List Df
def Ls.fa (L : Ls) : List He.Fa := L.gl.map He.Fa.glo ++ (L.gl.map He.Fa.keep ++ (L.fr.map He.Fa.free ++ (L.cl.map He.Fa.cls ++ (L.cl.map He.Fa.mkr ++ (L.me.map (fun p => He.Fa.meth p.1 p.2) ++ L.no.map (fun p => He.Fa.noat p.1 p.2))))))
def Ls.exb (L : Ls) (K : PySem.W.Frag) : Bool := L.cl.all (clAll K) && (L.ex.all (exAll K) && (L.bl.all (fun p => decide (PySem.W.nsIn K mainGlobals p.1 = some (some (.builtin p.2)))) && (L.kit.all (fun p => decide (PySem.W.kitOne K p.1 (.ref (He.ga K p.2.1)) = some p.2.2)) &&
  (L.kie.all (fun p => decide (PySem.W.kitOne K (.ref (He.ga K p.1)) (.ref (He.ga K p.2.1)) = some p.2.2)) && (L.kiv.all (fun p => decide (PySem.W.kitOne K (.ref (He.ga K p.1)) (.type p.2.1) = some p.2.2)) && (L.pr.all (fun p => prB K p.1 p.2) &&
  L.nf.all (fun p => PySem.W.notFirst K (He.ga K p.1) (.type p.2))))))))
def adrs : Nat → List Addr
  | 0 => []
  | n + 1 => n :: adrs n
abbrev AlL : Type := Bool × List He.FnW
def Ls.obs (L : Ls) (K : PySem.W.Frag) : AlL := ((L.fa.all fun f => f.ok K) && ((L.fn.all fun d => d.ok K) && L.exb K), L.fn.map fun d => fnWA K (d.at_ K))
def Ls.val (L : Ls) : AlL := (true, L.fn.map Df.val)
def Ls.obsG (n : Nat) (L : Ls) (g : Addr → Option Obj) : AlL := L.obs (He.frG g (adrs n))
def hookL (n : Nat) (L : Ls) : PySem.W.Hook where
  α := AlL
  obs := fun s => L.obsG n s.heap.get?
  val := fun _ => L.val
  says := fun _ h => ∃ K : PySem.W.Frag, K.In h ∧ L.obs K = L.val
  of := fun _ _ e => ⟨_, He.frG_in, e⟩
  keeps := fun _ _ _ ⟨K, hK, c⟩ k => ⟨K, PySem.W.Frag.In.keeps hK k, c⟩
theorem Ls.obsG_eq {n : Nat} {L : Ls} {g : Addr → Option Obj} {s : Shared} (h : ∀ a, g a = s.heap.get? a) : L.obsG n g = (hookL n L).obs s := by
  rw [show g = s.heap.get? from funext h] <;> rfl
structure Txt (L : Ls) (K : PySem.W.Frag) (mg : Str → Option Value) : Prop where
  gA : ∀ x ∈ L.gl, mg x = some (.ref (He.ga K x))
  kA : ∀ x ∈ L.gl, PySem.W.keepIn K (.ref (He.ga K x)) = true
  fA : ∀ x ∈ L.fr, mg x = none
  clA : ∀ x ∈ L.cl, Cls K (He.ga K x)
  mkA : ∀ x ∈ L.cl, Mk K (He.ga K x) (He.ma K (He.ga K x) "__init__")
  meA : ∀ p ∈ L.me, Meth K (He.ga K p.1) p.2 (He.ma K (He.ga K p.1) p.2)
  noA : ∀ p ∈ L.no, NoAttr K (He.ga K p.1) p.2
  c2A : ∀ x ∈ L.cl, clAll K x = true
  exA : ∀ x ∈ L.ex, exAll K x = true
  blA : ∀ p ∈ L.bl, mg p.1 = some (.builtin p.2)
  kitA : ∀ p ∈ L.kit, PySem.W.kitOne K p.1 (.ref (He.ga K p.2.1)) = some p.2.2
  kieA : ∀ p ∈ L.kie, PySem.W.kitOne K (.ref (He.ga K p.1)) (.ref (He.ga K p.2.1)) = some p.2.2
  kivA : ∀ p ∈ L.kiv, PySem.W.kitOne K (.ref (He.ga K p.1)) (.type p.2.1) = some p.2.2
  prA : ∀ p ∈ L.pr, prB K p.1 p.2 = true
  nfA : ∀ p ∈ L.nf, PySem.W.notFirst K (He.ga K p.1) (.type p.2) = true
  dA : ∀ (i : Nat) (d : Df), L.fn[i]? = some d → ∃ fd, FunD K d.name d.qual d.params d.body d.scope (d.dvs K) [] (d.at_ K) fd
theorem Txt.of {L : Ls} {K : PySem.W.Frag} {mg : Str → Option Value} {h : Heap} (X : K.In h) (G : h.Ns mainGlobals mg) (c : L.obs K = L.val) : Txt L K mg := by
  obtain ⟨c1, c2⟩ := Prod.mk.inj (show ((L.fa.all fun f => f.ok K) && ((L.fn.all fun d => d.ok K) && L.exb K), L.fn.map fun d => fnWA K (d.at_ K)) = (true, L.fn.map Df.val) from c)
  obtain ⟨c3, c4⟩ := Bool.and_eq_true_iff.mp c1
  obtain ⟨c5, m⟩ := Bool.and_eq_true_iff.mp c4
  have f : ∀ g ∈ L.fa, g.ok K = true := fun g hg => List.all_eq_true.mp c3 g hg
  unfold Ls.exb at m
  simp only [Bool.and_eq_true, List.all_eq_true, decide_eq_true_eq] at m
  obtain ⟨m1, m2, m3, m4, m5, m6, m7, m8⟩ := m
  have i1 : ∀ g ∈ L.gl.map He.Fa.glo, g ∈ L.fa := fun g hg => List.mem_append_left _ hg
  have i2 : ∀ g ∈ L.gl.map He.Fa.keep, g ∈ L.fa := fun g hg => List.mem_append_right _ (List.mem_append_left _ hg)
  have i3 : ∀ g ∈ L.fr.map He.Fa.free, g ∈ L.fa := fun g hg => List.mem_append_right _ (List.mem_append_right _ (List.mem_append_left _ hg))
  have i4 : ∀ g ∈ L.cl.map He.Fa.cls, g ∈ L.fa := fun g hg => List.mem_append_right _ (List.mem_append_right _ (List.mem_append_right _ (List.mem_append_left _ hg)))
  have i5 : ∀ g ∈ L.cl.map He.Fa.mkr, g ∈ L.fa := fun g hg => List.mem_append_right _ (List.mem_append_right _ (List.mem_append_right _ (List.mem_append_right _ (List.mem_append_left _ hg))))
  have i6 : ∀ g ∈ L.me.map (fun p => He.Fa.meth p.1 p.2), g ∈ L.fa := fun g hg => List.mem_append_right _ (List.mem_append_right _ (List.mem_append_right _ (List.mem_append_right _ (List.mem_append_right _ (List.mem_append_left _ hg)))))
  have i7 : ∀ g ∈ L.no.map (fun p => He.Fa.noat p.1 p.2), g ∈ L.fa := fun g hg => List.mem_append_right _ (List.mem_append_right _ (List.mem_append_right _ (List.mem_append_right _ (List.mem_append_right _ (List.mem_append_right _ hg)))))
  exact
    { gA := fun x hx => He.glo_ok X G (f _ (i1 _ (List.mem_map_of_mem hx)))
      kA := fun x hx => He.keep_ok (f _ (i2 _ (List.mem_map_of_mem hx)))
      fA := fun x hx => He.free_ok X G (f _ (i3 _ (List.mem_map_of_mem hx)))
      clA := fun x hx => He.cls_ok (f _ (i4 _ (List.mem_map_of_mem hx)))
      mkA := fun x hx => He.mkr_ok (f _ (i5 _ (List.mem_map_of_mem hx)))
      meA := fun p hp => He.meth_ok (f _ (i6 _ (List.mem_map_of_mem (f := fun p => He.Fa.meth p.1 p.2) hp)))
      noA := fun p hp => He.noat_ok (f _ (i7 _ (List.mem_map_of_mem (f := fun p => He.Fa.noat p.1 p.2) hp)))
      c2A := m1, exA := m2, blA := fun p hp => PySem.W.mg_of X G (m3 p hp), kitA := m4, kieA := m5, kivA := m6, prA := m7, nfA := m8
      dA := fun i d hd => by
        have e2 : (L.fn.map fun d => fnWA K (d.at_ K))[i]? = (L.fn.map Df.val)[i]? := by rw [c2]
        rw [List.getElem?_map, List.getElem?_map, hd] at e2
        exact Df.funD (Option.some.inj e2) (List.all_eq_true.mp c5 d (List.mem_of_getElem? hd)) }
section
variable {L : Ls} {K : PySem.W.Frag} {mg : Str → Option Value} (T : Txt L K mg)
include T
theorem Txt.g (x : Str) (h : x ∈ L.gl := by decide +kernel) : mg x = some (.ref (He.ga K x)) := T.gA x h
theorem Txt.k (x : Str) (h : x ∈ L.gl := by decide +kernel) : PySem.W.keepIn K (.ref (He.ga K x)) = true := T.kA x h
theorem Txt.f (x : Str) (h : x ∈ L.fr := by decide +kernel) : mg x = none := T.fA x h
theorem Txt.cl (x : Str) (h : x ∈ L.cl := by decide +kernel) : Cls K (He.ga K x) := T.clA x h
theorem Txt.mkk (x : Str) (h : x ∈ L.cl := by decide +kernel) : Mk K (He.ga K x) (He.ma K (He.ga K x) "__init__") := T.mkA x h
theorem Txt.me (x m : Str) (h : (x, m) ∈ L.me := by decide +kernel) : Meth K (He.ga K x) m (He.ma K (He.ga K x) m) := T.meA (x, m) h
theorem Txt.no (x m : Str) (h : (x, m) ∈ L.no := by decide +kernel) : NoAttr K (He.ga K x) m := T.noA (x, m) h
theorem Txt.b (x : Str) (y : String) (h : (x, y) ∈ L.bl := by decide +kernel) : mg x = some (.builtin y) := T.blA (x, y) h
theorem Txt.own (x m : Str) (h : (x, m) ∈ L.me := by decide +kernel) : PySem.W.findIn K (.ref (He.ga K x)) m = some (some (.ref (He.ma K (He.ga K x) m))) := (T.meA (x, m) h).at_
theorem Txt.fnn (x m : Str) (h : (x, m) ∈ L.me := by decide +kernel) : PySem.W.isFn K (.ref (He.ma K (He.ga K x) m)) = true := (T.meA (x, m) h).fn
theorem Txt.first (x : Str) (h : x ∈ L.cl := by decide +kernel) : PySem.W.selfFirst K (He.ga K x) = true := (Bool.and_eq_true_iff.mp (T.c2A x h)).1
theorem Txt.ne (x : Str) (h : x ∈ L.cl := by decide +kernel) : PySem.W.findIn K (.ref (He.ga K x)) "__ne__" = some (some (.builtin "object.__ne__")) := of_decide_eq_true (Bool.and_eq_true_iff.mp (Bool.and_eq_true_iff.mp (T.c2A x h)).2).1
theorem Txt.ob (x : Str) (h : x ∈ L.cl := by decide +kernel) : PySem.W.subIn K (.ref (He.ga K x)) (.type "object") = some true := of_decide_eq_true (Bool.and_eq_true_iff.mp (Bool.and_eq_true_iff.mp (Bool.and_eq_true_iff.mp (T.c2A x h)).2).2).1
/-- an instance of the class, for isinstance -/
theorem Txt.ty (x : Str) {H : Hp} {a dx : Addr} {fs : List (Str × V)} (e : H a = some (.ins (He.ga K x) dx fs)) (h : x ∈ L.cl := by decide +kernel) : TyX K H (.ref a) (.ref (He.ga K x)) := by
  have q := T.c2A x h
  unfold clAll at q
  simp only [Bool.and_eq_true, decide_eq_true_eq] at q
  obtain ⟨_, _, _, q4, q5, q6, q7⟩ := q
  exact .base (.ins e (T.clA x h) q4 q5 q6 q7)
theorem Txt.nfs (x : Str) (h : x ∈ L.cl := by decide +kernel) : PySem.W.notFirst K (He.ga K x) (.ref (He.ga K x)) = true := by
  unfold PySem.W.notFirst
  first
    | simp
    | rfl
theorem Txt.nf (x : Str) (t : String) (h : (x, t) ∈ L.nf := by decide +kernel) : PySem.W.notFirst K (He.ga K x) (.type t) = true := T.nfA (x, t) h
theorem Txt.oex (x : Str) (h : x ∈ L.ex := by decide +kernel) : OexC K (He.ga K x) := oexB_ok (Bool.and_eq_true_iff.mp (T.exA x h)).1
theorem Txt.exa (x : Str) (h : x ∈ L.ex := by decide +kernel) : XfC K (He.ga K x) ∧ ExcC K (He.ga K x) ∧ PySem.W.findIn K (.ref (He.ga K x)) "__init__" = some (some (.ref (He.ma K (He.ga K x) "__init__"))) ∧
    PySem.W.typeIn K (.ref (He.ma K (He.ga K x) "__init__")) = some (.type "function") ∧ PySem.W.exmOne K (.ref (He.ga K x)) (.ref (He.ga K x)) = some true := by
  obtain ⟨_, q⟩ := Bool.and_eq_true_iff.mp (T.exA x h)
  obtain ⟨q1, q⟩ := Bool.and_eq_true_iff.mp q
  obtain ⟨q2, q⟩ := Bool.and_eq_true_iff.mp q
  obtain ⟨q3, q⟩ := Bool.and_eq_true_iff.mp q
  obtain ⟨q4, q5⟩ := Bool.and_eq_true_iff.mp q
  exact ⟨xfB_ok q1, excB_ok q1 q2, of_decide_eq_true q3, of_decide_eq_true q4, of_decide_eq_true q5⟩
theorem Txt.exI (x : Str) (h : x ∈ L.ex := by decide +kernel) : PySem.W.findIn K (.ref (He.ga K x)) "__init__" = some (some (.ref (He.ma K (He.ga K x) "__init__"))) := (T.exa x h).2.2.1
theorem Txt.exT (x : Str) (h : x ∈ L.ex := by decide +kernel) : PySem.W.typeIn K (.ref (He.ma K (He.ga K x) "__init__")) = some (.type "function") := (T.exa x h).2.2.2.1
theorem Txt.exM (x : Str) (h : x ∈ L.ex := by decide +kernel) : PySem.W.exmOne K (.ref (He.ga K x)) (.ref (He.ga K x)) = some true := (T.exa x h).2.2.2.2
theorem Txt.kit (t : Value) (x : Str) (b : Bool) (h : (t, x, b) ∈ L.kit := by decide +kernel) : PySem.W.kitOne K t (.ref (He.ga K x)) = some b := T.kitA (t, x, b) h
theorem Txt.kie (y x : Str) (b : Bool) (h : (y, x, b) ∈ L.kie := by decide +kernel) : PySem.W.kitOne K (.ref (He.ga K y)) (.ref (He.ga K x)) = some b := T.kieA (y, x, b) h
theorem Txt.kiv (y : Str) (t : String) (b : Bool) (h : (y, t, b) ∈ L.kiv := by decide +kernel) : PySem.W.kitOne K (.ref (He.ga K y)) (.type t) = some b := T.kivA (y, t, b) h
theorem Txt.pr (x f : Str) (h : (x, f) ∈ L.pr := by decide +kernel) : PropOf K (He.ga K x) f (prAd K x f) (prGet K x f) := prB_ok (T.prA (x, f) h)
theorem Txt.d (i : Nat) {d : Df} (h : L.fn[i]? = some d := by rfl) : ∃ fd, FunD K d.name d.qual d.params d.body d.scope (d.dvs K) [] (d.at_ K) fd := T.dA i d h
end
/-- the def at f keeps its promise; all parameters written -/
def Ok (P : Program) (w : World) (K : PySem.W.Frag) (mg : Str → Option Value) (base : Heap) (f : Addr) (k : Nat) (ps : List Str) (sp : Sp) : Prop := ∃ fd, FnOk P w K mg base (L2.CX P w) k f fd ps sp ∧ Binds K fd ps []
theorem Ok.of {P : Program} {w : World} {K : PySem.W.Frag} {mg : Str → Option Value} {base : Heap} {x qual : Str} {params : Arguments} {body : List Stmt} {scope : Scope} {f : Addr} {N ps : List Str} {k : Nat} {sp : Sp}
    (h : ∃ fd, FunD K x qual params body scope [] [] f fd) (S : FnScope N ps scope)
    (hb : ∀ (kV doc pm : Value) (an : Option Addr) (cdv ct : Value) (us : List Value), us.length = ps.length → bindArgs (PySem.W.fnOf x qual params body scope .none kV doc pm an cdv ct) ⟨us, []⟩ = pure (ps.zip us))
    (len : ∀ vs H Q E, sp vs H Q E → vs.length = ps.length)
    (hbody : ∀ (fd : FuncData) (cdv : Value) (A : Around) (outer : List Env) (s : Shared) (H : Hp) (vs : List V) (Q : VK) (E : XK), Room k (A.deeper (envOfC qual scope s.heap.objs.size f cdv)) → sp vs H Q E →
      ∃ t, PSs (cxOf (L2.CX P w) P w K mg base N qual scope f cdv A outer s H E) body t ∧ t { nx := fun _ H' => Q .non H', rt := Q } (start N vs) H) : Ok P w K mg base f (k + 1) ps sp := by
  obtain ⟨fd, F⟩ := h
  exact ⟨fd, F.ok S len fun cdv A outer s H vs Q E hr hsp => hbody fd cdv A outer s H vs Q E hr hsp, F.bindsN hb⟩
/-! helpers -/
theorem ints_ix {ns : List Int} {i : Nat} {x : V} (h : (ns.map V.int)[i]? = some x) : ∃ z, ns[i]? = some z ∧ x = .int z := by
  rw [List.getElem?_map] at h
  cases e : ns[i]? with
  | none =>
    rw [e] at h
    cases h
  | some z =>
    rw [e] at h
    exact ⟨z, rfl, (Option.some.inj h).symm⟩
theorem cut_ints (ns : List Int) (lo hi : Option Int) : ∃ ms : List Int, cutV (ns.map V.int) lo hi = ms.map V.int ∧ ms.length ≤ ns.length ∧ ∀ z ∈ ms, z ∈ ns := by
  unfold cutV
  refine ⟨(ns.drop (HT.sIx (ns.map V.int).length 0 lo)).take (HT.sIx (ns.map V.int).length (ns.map V.int).length hi - HT.sIx (ns.map V.int).length 0 lo), ?_, ?_, fun z hz => List.mem_of_mem_drop (List.mem_of_mem_take hz)⟩
  · rw [List.map_take, List.map_drop]
  · rw [List.length_take, List.length_drop]
    omega
theorem at_ix {α : Type} {xs : List α} {k : Int} (h0 : 0 ≤ k) (h1 : k < (xs.length : Int)) : ∃ x, xs[k.toNat]? = some x ∧ x ∈ xs ∧ atI xs k = some x := by
  have hk : k.toNat < xs.length := by omega
  refine ⟨xs[k.toNat], List.getElem?_eq_getElem hk, List.getElem_mem hk, ?_⟩
  have e := atI_nat (List.getElem?_eq_getElem hk)
  rw [Int.toNat_of_nonneg h0] at e
  exact e
theorem at_ints {ns : List Int} {k : Int} (h0 : 0 ≤ k) (h1 : k < (ns.length : Int)) : ∃ z, z ∈ ns ∧ ns[k.toNat]? = some z ∧ atI (ns.map V.int) k = some (.int z) := by
  obtain ⟨x, e, _, q⟩ := at_ix (xs := ns.map V.int) h0 (by rw [List.length_map]; exact h1)
  obtain ⟨z, ez, rfl⟩ := ints_ix e
  exact ⟨z, List.mem_of_getElem? ez, ez, q⟩
theorem abs_nn (i : Int) : 0 ≤ (if i < 0 then -i else i) := by
  split <;> omega
theorem same_new {H : Hp} {p : Addr} {o : HO} (h : H p = none) : Same H (upd H p o) := fun b u e => by
  rw [upd_ne (ne_of_none e h)]
  exact e
theorem same_new' {H H1 : Hp} {p : Addr} {o : HO} (s : Same H H1) (h : H1 p = none) : Same H (upd H1 p o) := s.trans (same_new h)
/-- what H does not know may change -/
theorem same_mut {H H1 : Hp} {p : Addr} {o : HO} (s : Same H H1) (h : H p = none) : Same H (upd H1 p o) := fun b u e => by
  rw [upd_ne (ne_of_none e h)]
  exact s b u e
theorem fmod_lo (i : Int) {j : Int} (h : 0 < j) : 0 ≤ i.fmod j := Int.fmod_nonneg_of_pos i h
theorem fmod_hi (i : Int) {j : Int} (h : 0 < j) : i.fmod j < j := Int.fmod_lt_of_pos i h
theorem sz100 {n : Nat} (h : n ≤ 100000) : n < sizeLine := Nat.lt_of_le_of_lt h (by decide)
theorem mulF {a b j : Int} (h0 : 0 < b) (h1 : b ≤ 2 ^ 63) : IntMulOk (a.fmod b) j := mulL (Int.le_trans (by decide) (fmod_lo a h0)) (Int.le_trans (Int.le_of_lt (fmod_hi a h0)) h1)
theorem pside {p : Prop} (h : p) : p := h
/-- .. of a def whose last parameter has a default -/
def OkD (P : Program) (w : World) (K : PySem.W.Frag) (mg : Str → Option Value) (base : Heap) (f : Addr) (k : Nat) (ps : List Str) (dv : V) (sp : Sp) : Prop :=
  ∃ fd, FnOk P w K mg base (L2.CX P w) k f fd ps sp ∧ Binds K fd ps [] ∧ ∃ ds, Vals [dv] ds ∧ Binds K fd ps ds
theorem OkD.of {P : Program} {w : World} {K : PySem.W.Frag} {mg : Str → Option Value} {base : Heap} {x qual : Str} {params : Arguments} {body : List Stmt} {scope : Scope} {f : Addr} {N ps : List Str} {k : Nat} {sp : Sp} {dv : V}
    (h : ∃ fd, FunD K x qual params body scope [dv] [] f fd) (S : FnScope N ps scope)
    (hb : ∀ (n : Nat), (n = ps.length ∨ n + 1 = ps.length) → ∀ (T : Addr) (kV doc pm : Value) (an : Option Addr) (cdv ct : Value) (us its : List Value), us.length = n → its.length = 1 →
      ∃ k, bindArgs (PySem.W.fnOf x qual params body scope (.ref T) kV doc pm an cdv ct) ⟨us, []⟩ = seqItems? (.ref T) >>= k ∧ k (some its.toArray) = pure (ps.zip (us ++ its.drop (n + 1 - ps.length))))
    (h1 : 1 ≤ ps.length) (len : ∀ vs H Q E, sp vs H Q E → vs.length = ps.length)
    (hbody : ∀ (fd : FuncData) (cdv : Value) (A : Around) (outer : List Env) (s : Shared) (H : Hp) (vs : List V) (Q : VK) (E : XK), Room k (A.deeper (envOfC qual scope s.heap.objs.size f cdv)) → sp vs H Q E →
      ∃ t, PSs (cxOf (L2.CX P w) P w K mg base N qual scope f cdv A outer s H E) body t ∧ t { nx := fun _ H' => Q .non H', rt := Q } (start N vs) H) : OkD P w K mg base f (k + 1) ps dv sp := by
  obtain ⟨fd, F⟩ := h
  refine ⟨fd, F.ok S len fun cdv A outer s H vs Q E hr hsp => hbody fd cdv A outer s H vs Q E hr hsp, ?_, ?_⟩
  · obtain ⟨ds, v, b⟩ := F.binds1 (ps := ps) ps.length 1 (by simp) (by simp) (fun T kV doc pm an cdv ct us its hu hi => by
      obtain ⟨k, e1, e2⟩ := hb ps.length (.inl rfl) T kV doc pm an cdv ct us its hu hi
      rw [show ps.length + 1 - ps.length = 1 by omega] at e2
      exact ⟨k, e1, e2⟩)
    cases v
    exact b
  · obtain ⟨ds, v, b⟩ := F.binds1 (ps := ps) (ps.length - 1) 0 (by simp) (by simp; omega) (fun T kV doc pm an cdv ct us its hu hi => by
      obtain ⟨k, e1, e2⟩ := hb (ps.length - 1) (.inr (by omega)) T kV doc pm an cdv ct us its hu hi
      rw [show ps.length - 1 + 1 - ps.length = 0 by omega] at e2
      exact ⟨k, e1, e2⟩)
    exact ⟨ds, v, b⟩
end LR

namespace LR
open PySem PySem.Spec PyProof.Rows L2
/-! ### ratios in lowest terms -/
/-- the greatest common divisor of tops and bottom -/
def cg (ts : List Int) (b : Int) : Nat := ts.foldl (fun g t => Nat.gcd g t.natAbs) b.natAbs
/-- .. with the sign of the bottom -/
def gs (ts : List Int) (b : Int) : Int := if b > 0 then (cg ts b : Int) else -(cg ts b : Int)
def nT (t b : Int) : Int := t.fdiv (gs [t] b)
def nB (t b : Int) : Int := b.fdiv (gs [t] b)
structure Nrm (t b : Int) : Prop where
  pos : 0 < b
  cop : Nat.gcd b.natAbs t.natAbs = 1
theorem cg1 (t b : Int) : cg [t] b = Nat.gcd b.natAbs t.natAbs := rfl
theorem fold_one : ∀ ts : List Int, ts.foldl (fun g t => Nat.gcd g t.natAbs) 1 = 1
  | [] => rfl
  | t :: r => by
    show r.foldl (fun g t => Nat.gcd g t.natAbs) (Nat.gcd 1 t.natAbs) = 1
    rw [Nat.gcd_one_left]
    exact fold_one r
theorem cg_dvd (ts : List Int) (b : Int) : cg ts b ∣ b.natAbs ∧ ∀ t ∈ ts, cg ts b ∣ t.natAbs := by
  have key : ∀ (ts : List Int) (g : Nat), ts.foldl (fun g t => Nat.gcd g t.natAbs) g ∣ g ∧ ∀ t ∈ ts, ts.foldl (fun g t => Nat.gcd g t.natAbs) g ∣ t.natAbs := by
    intro ts
    induction ts with
    | nil => exact fun g => ⟨Nat.dvd_refl g, fun t h => by cases h⟩
    | cons a r ih =>
      intro g
      obtain ⟨h1, h2⟩ := ih (Nat.gcd g a.natAbs)
      refine ⟨Nat.dvd_trans h1 (Nat.gcd_dvd_left _ _), fun t ht => ?_⟩
      rcases List.mem_cons.mp ht with e | e
      · rw [e]
        exact Nat.dvd_trans h1 (Nat.gcd_dvd_right _ _)
      · exact h2 t e
  exact key ts b.natAbs
theorem cg_pos {ts : List Int} {b : Int} (h : b ≠ 0) : 0 < cg ts b := Nat.pos_of_dvd_of_pos (cg_dvd ts b).1 (by omega)
theorem cg_le {ts : List Int} {b : Int} (h : b ≠ 0) : cg ts b ≤ b.natAbs := Nat.le_of_dvd (by omega) (cg_dvd ts b).1
theorem gs_abs (ts : List Int) (b : Int) : (gs ts b).natAbs = cg ts b := by
  unfold gs
  split <;> omega
theorem gs_ne {ts : List Int} {b : Int} (h : b ≠ 0) : gs ts b ≠ 0 := by
  have q := gs_abs ts b
  have p := cg_pos (ts := ts) h
  omega
theorem gs_le {ts : List Int} {b : Int} (h : b ≠ 0) : (gs ts b).natAbs ≤ b.natAbs := by
  rw [gs_abs]
  exact cg_le h
theorem gs_dvd (t b : Int) : gs [t] b ∣ t ∧ gs [t] b ∣ b := by
  obtain ⟨h1, h2⟩ := cg_dvd [t] b
  constructor
  · exact Int.natAbs_dvd_natAbs.mp (by rw [gs_abs]; exact h2 t (List.mem_singleton.mpr rfl))
  · exact Int.natAbs_dvd_natAbs.mp (by rw [gs_abs]; exact h1)
theorem nT_ed (t b : Int) : nT t b = t / gs [t] b := Int.fdiv_eq_ediv_of_dvd (gs_dvd t b).1
theorem nB_ed (t b : Int) : nB t b = b / gs [t] b := Int.fdiv_eq_ediv_of_dvd (gs_dvd t b).2
theorem nT_abs (t b : Int) : (nT t b).natAbs = t.natAbs / Nat.gcd b.natAbs t.natAbs := by
  rw [nT_ed, Int.natAbs_ediv_of_dvd (gs_dvd t b).1, gs_abs, cg1]
theorem nB_abs (t b : Int) : (nB t b).natAbs = b.natAbs / Nat.gcd b.natAbs t.natAbs := by
  rw [nB_ed, Int.natAbs_ediv_of_dvd (gs_dvd t b).2, gs_abs, cg1]
theorem nT_le (t b : Int) : (nT t b).natAbs ≤ t.natAbs := Int.natAbs_fdiv_le_natAbs _ _
theorem nB_le (t b : Int) : (nB t b).natAbs ≤ b.natAbs := Int.natAbs_fdiv_le_natAbs _ _
theorem nB_pos {t b : Int} (h : b ≠ 0) : 0 < nB t b := by
  have e : nB t b * gs [t] b = b := by
    rw [nB_ed]
    exact Int.ediv_mul_cancel (gs_dvd t b).2
  have p := cg_pos (ts := [t]) h
  unfold gs at e
  split at e
  · rename_i hb
    rcases Int.lt_or_le 0 (nB t b) with q | q
    · exact q
    · have z : nB t b * (cg [t] b : Int) ≤ 0 := Int.mul_nonpos_of_nonpos_of_nonneg q (Int.natCast_nonneg _)
      omega
  · rename_i hb
    rcases Int.lt_or_le 0 (nB t b) with q | q
    · exact q
    · have z : 0 ≤ nB t b * -(cg [t] b : Int) := Int.mul_nonneg_of_nonpos_of_nonpos q (by omega)
      omega
theorem nrm_of {t b : Int} (h : b ≠ 0) : Nrm (nT t b) (nB t b) := by
  refine ⟨nB_pos h, ?_⟩
  rw [nT_abs, nB_abs]
  exact Nat.gcd_div_gcd_div_gcd_of_pos_left (by omega)
theorem gs_nrm {t b : Int} (h : Nrm t b) : gs [t] b = 1 := by
  unfold gs
  rw [if_pos h.pos, cg1, h.cop]
  rfl
theorem nT_nrm {t b : Int} (h : Nrm t b) : nT t b = t := by
  unfold nT
  rw [gs_nrm h, Int.fdiv_one]
theorem nB_nrm {t b : Int} (h : Nrm t b) : nB t b = b := by
  unfold nB
  rw [gs_nrm h, Int.fdiv_one]
theorem gs_neg (t b : Int) : gs [-t] b = gs [t] b := by
  unfold gs
  rw [cg1, cg1, Int.natAbs_neg]
theorem nT_neg (t b : Int) : nT (-t) b = -nT t b := by
  rw [nT_ed, nT_ed, gs_neg, Int.neg_ediv_of_dvd (gs_dvd t b).1]
theorem nB_neg (t b : Int) : nB (-t) b = nB t b := by
  unfold nB
  rw [gs_neg]
theorem Nrm.neg {t b : Int} (h : Nrm t b) : Nrm (-t) b := ⟨h.pos, by rw [Int.natAbs_neg]; exact h.cop⟩
theorem Nrm.abs {t b : Int} (h : Nrm t b) : Nrm (if t < 0 then -t else t) b := by
  split
  · exact h.neg
  · exact h
theorem Nrm.one (t : Int) : Nrm t 1 := ⟨by decide, Nat.gcd_one_left _⟩
theorem Nrm.zero {b : Int} (h : b ≠ 0) : nT 0 b = 0 ∧ nB 0 b = 1 := by
  have q := nrm_of (t := 0) h
  have e : nT 0 b = 0 := Int.zero_fdiv _
  refine ⟨e, ?_⟩
  have c := q.cop
  rw [e, show ((0 : Int)).natAbs = 0 from rfl, Nat.gcd_zero_right] at c
  have p := q.pos
  omega
/-! ### Euclid, turn by turn -/
theorem mod_half {n m : Nat} (h : m ≤ n) (hm : 0 < m) : 2 * (n % m) ≤ n := by
  have h1 : n % m < m := Nat.mod_lt _ hm
  have h2 : n % m + m * (n / m) = n := Nat.mod_add_div n m
  have h3 : 1 ≤ n / m := (Nat.one_le_div_iff hm).mpr h
  have h4 : m * 1 ≤ m * (n / m) := Nat.mul_le_mul_left m h3
  omega
/-- behind i turns, b not zero so far -/
structure Euc (g B i a b : Nat) : Prop where
  gcd : Nat.gcd a b = g
  lo : b * 2 ^ (i / 2) ≤ B
  up : 1 ≤ i → b < a ∧ a * 2 ^ ((i - 1) / 2) ≤ B
theorem Euc.start (a b : Nat) : Euc (Nat.gcd a b) b 0 a b := ⟨rfl, by simp, fun h => by omega⟩
theorem Euc.step {g B i a b : Nat} (h : Euc g B i a b) (hb : 0 < b) : Euc g B (i + 1) b (a % b) := by
  have hlt : a % b < b := Nat.mod_lt _ hb
  refine ⟨?_, ?_, fun _ => ⟨hlt, h.lo⟩⟩
  · rw [← h.gcd, Nat.gcd_comm a b, Nat.gcd_rec b a, Nat.gcd_comm b]
  · rcases Nat.lt_or_ge i 1 with h0 | h1
    · have e : i = 0 := by omega
      subst e
      have z := h.lo
      simp at z ⊢
      omega
    · obtain ⟨u1, u2⟩ := h.up h1
      rcases Nat.mod_two_eq_zero_or_one i with e | e
      · have e2 : (i + 1) / 2 = i / 2 := by omega
        rw [e2]
        exact Nat.le_trans (Nat.mul_le_mul_right _ (Nat.le_of_lt hlt)) h.lo
      · have e2 : (i + 1) / 2 = (i - 1) / 2 + 1 := by omega
        rw [e2, Nat.pow_succ]
        have z := mod_half (Nat.le_of_lt u1) hb
        have y : a % b * (2 ^ ((i - 1) / 2) * 2) = 2 * (a % b) * 2 ^ ((i - 1) / 2) := by
          rw [Nat.mul_comm (2 ^ ((i - 1) / 2)) 2, ← Nat.mul_assoc, Nat.mul_comm (a % b) 2]
        rw [y]
        exact Nat.le_trans (Nat.mul_le_mul_right _ z) u2
theorem Euc.done {g B n a b : Nat} (h : Euc g B (2 * n + 2) a b) (hB : B < 2 ^ n) : b = 0 ∧ a = g := by
  have e : (2 * n + 2) / 2 = n + 1 := by omega
  have z := h.lo
  rw [e, Nat.pow_succ] at z
  have hb : b = 0 := by
    rcases Nat.eq_zero_or_pos b with q | q
    · exact q
    · have y : 1 * (2 ^ n * 2) ≤ b * (2 ^ n * 2) := Nat.mul_le_mul_right _ q
      omega
  refine ⟨hb, ?_⟩
  have q := h.gcd
  rw [hb, Nat.gcd_zero_right] at q
  exact q
theorem Euc.ret {g B i a : Nat} (h : Euc g B i a 0) : a = g := by
  have q := h.gcd
  rw [Nat.gcd_zero_right] at q
  exact q
theorem bits_hi (i : Int) : i.natAbs < 2 ^ Builtin.Int.intBits i := by
  unfold Builtin.Int.intBits
  split
  · rename_i h
    have e : i = 0 := by simpa using h
    rw [e]
    decide
  · exact Nat.lt_log2_self
/-! sizes -/
theorem abs_mul_lt {i j : Int} {a b : Nat} (ha : i.natAbs < 2 ^ a) (hb : j.natAbs < 2 ^ b) : (i * j).natAbs < 2 ^ (a + b) := wide_lt ha hb
theorem abs_add_lt {i j : Int} {a : Nat} (ha : i.natAbs < 2 ^ a) (hb : j.natAbs < 2 ^ a) : (i + j).natAbs < 2 ^ (a + 1) := by
  rw [Nat.pow_succ]
  omega
theorem abs_sub_lt {i j : Int} {a : Nat} (ha : i.natAbs < 2 ^ a) (hb : j.natAbs < 2 ^ a) : (i - j).natAbs < 2 ^ (a + 1) := by
  rw [Nat.pow_succ]
  omega
theorem abs_up {i : Int} {a b : Nat} (ha : i.natAbs < 2 ^ a) (h : a ≤ b) : i.natAbs < 2 ^ b := Nat.lt_of_lt_of_le ha (Nat.pow_le_pow_right (by decide) h)
end LR

namespace K00
open PySem PySem.Spec PyProof.Rows L2 LR
def top (i : Nat) : Stmt := PySem.Challenge.pw_lastrows_k00_ratio_lowest.main.body.getD i (.Pass ⟨0, 0, 0, 0⟩)
abbrev s_LastrowsError_init : Stmt := inClass (top 2) 0
abbrev s_ZeroBottom_init : Stmt := inClass (top 3) 0
abbrev s_Ratio_init : Stmt := inClass (top 9) 0
abbrev s_Ratio_add : Stmt := inClass (top 9) 1
abbrev s_Ratio_sub : Stmt := inClass (top 9) 2
abbrev s_Ratio_mul : Stmt := inClass (top 9) 3
abbrev s_Ratio_neg : Stmt := inClass (top 9) 4
abbrev s_Ratio_abs : Stmt := inClass (top 9) 5
abbrev s_Ratio_eq : Stmt := inClass (top 9) 6
abbrev s_Ratio_over : Stmt := inClass (top 9) 8
abbrev s_Ratio_below : Stmt := inClass (top 9) 9
abbrev s_Ratio_sign : Stmt := inClass (top 9) 10
abbrev s_Ratio_is_zero : Stmt := inClass (top 9) 11
abbrev s_common_divisor : Stmt := top 12
abbrev s_law_cell : Stmt := top 14
abbrev s_law_mix : Stmt := top 15
abbrev s_law_draws : Stmt := top 16
abbrev s_law_small : Stmt := top 17
abbrev s_law_is_integer : Stmt := top 18
abbrev s_law_gcd : Stmt := top 19
abbrev s_law_ratio : Stmt := top 20
abbrev s_law_numbers : Stmt := top 21
abbrev s_law_is : Stmt := top 22
abbrev s_law_truth : Stmt := top 23
abbrev s_law_dues : Stmt := top 24
abbrev s_law_results : Stmt := top 25
abbrev s_law_order : Stmt := top 27
abbrev s_law : Stmt := top 29
abbrev s_law_quotient : Stmt := top 26
abbrev s_law_zero_bottom : Stmt := top 28
theorem sc_LastrowsError_init : FnScope ["self"] ["self"] (defScope s_LastrowsError_init) := ⟨rfl, rfl, rfl, by decide +kernel, rfl, by decide +kernel, by decide +kernel⟩
theorem sc_ZeroBottom_init : FnScope ["self"] ["self"] (defScope s_ZeroBottom_init) := ⟨rfl, rfl, rfl, by decide +kernel, rfl, by decide +kernel, by decide +kernel⟩
theorem sc_Ratio_init : FnScope ["self", "top", "bottom", "divisor"] ["self", "top", "bottom"] (defScope s_Ratio_init) := ⟨rfl, rfl, rfl, by decide +kernel, rfl, by decide +kernel, by decide +kernel⟩
theorem sc_Ratio_add : FnScope ["self", "other"] ["self", "other"] (defScope s_Ratio_add) := ⟨rfl, rfl, rfl, by decide +kernel, rfl, by decide +kernel, by decide +kernel⟩
theorem sc_Ratio_sub : FnScope ["self", "other"] ["self", "other"] (defScope s_Ratio_sub) := ⟨rfl, rfl, rfl, by decide +kernel, rfl, by decide +kernel, by decide +kernel⟩
theorem sc_Ratio_mul : FnScope ["self", "other"] ["self", "other"] (defScope s_Ratio_mul) := ⟨rfl, rfl, rfl, by decide +kernel, rfl, by decide +kernel, by decide +kernel⟩
theorem sc_Ratio_neg : FnScope ["self"] ["self"] (defScope s_Ratio_neg) := ⟨rfl, rfl, rfl, by decide +kernel, rfl, by decide +kernel, by decide +kernel⟩
theorem sc_Ratio_abs : FnScope ["self"] ["self"] (defScope s_Ratio_abs) := ⟨rfl, rfl, rfl, by decide +kernel, rfl, by decide +kernel, by decide +kernel⟩
theorem sc_Ratio_eq : FnScope ["self", "other"] ["self", "other"] (defScope s_Ratio_eq) := ⟨rfl, rfl, rfl, by decide +kernel, rfl, by decide +kernel, by decide +kernel⟩
theorem sc_Ratio_over : FnScope ["self", "other"] ["self", "other"] (defScope s_Ratio_over) := ⟨rfl, rfl, rfl, by decide +kernel, rfl, by decide +kernel, by decide +kernel⟩
theorem sc_Ratio_below : FnScope ["self", "other"] ["self", "other"] (defScope s_Ratio_below) := ⟨rfl, rfl, rfl, by decide +kernel, rfl, by decide +kernel, by decide +kernel⟩
theorem sc_Ratio_sign : FnScope ["self"] ["self"] (defScope s_Ratio_sign) := ⟨rfl, rfl, rfl, by decide +kernel, rfl, by decide +kernel, by decide +kernel⟩
theorem sc_Ratio_is_zero : FnScope ["self"] ["self"] (defScope s_Ratio_is_zero) := ⟨rfl, rfl, rfl, by decide +kernel, rfl, by decide +kernel, by decide +kernel⟩
theorem sc_common_divisor : FnScope ["tops", "bottom", "found", "top"] ["tops", "bottom"] (defScope s_common_divisor) := ⟨rfl, rfl, rfl, by decide +kernel, rfl, by decide +kernel, by decide +kernel⟩
theorem sc_law_cell : FnScope ["script", "k", "total", "cell"] ["script", "k"] (defScope s_law_cell) := ⟨rfl, rfl, rfl, by decide +kernel, rfl, by decide +kernel, by decide +kernel⟩
theorem sc_law_mix : FnScope ["cell", "k", "at", "x"] ["cell", "k", "at"] (defScope s_law_mix) := ⟨rfl, rfl, rfl, by decide +kernel, rfl, by decide +kernel, by decide +kernel⟩
theorem sc_law_draws : FnScope ["script", "k", "many", "cell", "digits", "out", "at"] ["script", "k", "many"] (defScope s_law_draws) := ⟨rfl, rfl, rfl, by decide +kernel, rfl, by decide +kernel, by decide +kernel⟩
theorem sc_law_small : FnScope ["d"] ["d"] (defScope s_law_small) := ⟨rfl, rfl, rfl, by decide +kernel, rfl, by decide +kernel, by decide +kernel⟩
theorem sc_law_is_integer : FnScope ["x"] ["x"] (defScope s_law_is_integer) := ⟨rfl, rfl, rfl, by decide +kernel, rfl, by decide +kernel, by decide +kernel⟩
theorem sc_law_gcd : FnScope ["a", "b", "turns"] ["a", "b"] (defScope s_law_gcd) := ⟨rfl, rfl, rfl, by decide +kernel, rfl, by decide +kernel, by decide +kernel⟩
theorem sc_law_ratio : FnScope ["top", "bottom", "part"] ["top", "bottom"] (defScope s_law_ratio) := ⟨rfl, rfl, rfl, by decide +kernel, rfl, by decide +kernel, by decide +kernel⟩
theorem sc_law_numbers : FnScope ["script", "draws", "kind", "limit", "numbers", "k", "number", "factor"] ["script"] (defScope s_law_numbers) := ⟨rfl, rfl, rfl, by decide +kernel, rfl, by decide +kernel, by decide +kernel⟩
theorem sc_law_is : FnScope ["x", "pair"] ["x", "pair"] (defScope s_law_is) := ⟨rfl, rfl, rfl, by decide +kernel, rfl, by decide +kernel, by decide +kernel⟩
theorem sc_law_truth : FnScope ["x", "due"] ["x", "due"] (defScope s_law_truth) := ⟨rfl, rfl, rfl, by decide +kernel, rfl, by decide +kernel, by decide +kernel⟩
theorem sc_law_dues : FnScope ["p", "q", "both", "total", "less"] ["p", "q"] (defScope s_law_dues) := ⟨rfl, rfl, rfl, by decide +kernel, rfl, by decide +kernel, by decide +kernel⟩
theorem sc_law_results : FnScope ["a", "b", "p", "dues"] ["a", "b", "p", "dues"] (defScope s_law_results) := ⟨rfl, rfl, rfl, by decide +kernel, rfl, by decide +kernel, by decide +kernel⟩
theorem sc_law_order : FnScope ["a", "b", "p", "q", "other"] ["a", "b", "p", "q"] (defScope s_law_order) := ⟨rfl, rfl, rfl, by decide +kernel, rfl, by decide +kernel, by decide +kernel⟩
theorem sc_law : FnScope ["script", "numbers", "p", "q", "a", "b", "top", "dues", "lap"] ["script"] (defScope s_law) := ⟨rfl, rfl, rfl, by decide +kernel, rfl, by decide +kernel, by decide +kernel⟩
theorem sc_law_quotient : FnScope ["a", "b", "p", "q", "refused", "told", "e"] ["a", "b", "p", "q"] (defScope s_law_quotient) := ⟨rfl, rfl, rfl, by decide +kernel, rfl, by decide +kernel, by decide +kernel⟩
theorem sc_law_zero_bottom : FnScope ["top", "refused", "e"] ["top"] (defScope s_law_zero_bottom) := ⟨rfl, rfl, rfl, by decide +kernel, rfl, by decide +kernel, by decide +kernel⟩
abbrev d_LastrowsError_init : Df := ⟨(fun K => He.ma K (He.ga K "LastrowsError") "__init__"), "__init__", "LastrowsError.__init__", defArgs s_LastrowsError_init, defBody s_LastrowsError_init, defScope s_LastrowsError_init, []⟩
abbrev d_ZeroBottom_init : Df := ⟨(fun K => He.ma K (He.ga K "ZeroBottom") "__init__"), "__init__", "ZeroBottom.__init__", defArgs s_ZeroBottom_init, defBody s_ZeroBottom_init, defScope s_ZeroBottom_init, []⟩
abbrev d_Ratio_init : Df := ⟨(fun K => He.ma K (He.ga K "Ratio") "__init__"), "__init__", "Ratio.__init__", defArgs s_Ratio_init, defBody s_Ratio_init, defScope s_Ratio_init, [.int 1]⟩
abbrev d_Ratio_add : Df := ⟨(fun K => He.ma K (He.ga K "Ratio") "__add__"), "__add__", "Ratio.__add__", defArgs s_Ratio_add, defBody s_Ratio_add, defScope s_Ratio_add, []⟩
abbrev d_Ratio_sub : Df := ⟨(fun K => He.ma K (He.ga K "Ratio") "__sub__"), "__sub__", "Ratio.__sub__", defArgs s_Ratio_sub, defBody s_Ratio_sub, defScope s_Ratio_sub, []⟩
abbrev d_Ratio_mul : Df := ⟨(fun K => He.ma K (He.ga K "Ratio") "__mul__"), "__mul__", "Ratio.__mul__", defArgs s_Ratio_mul, defBody s_Ratio_mul, defScope s_Ratio_mul, []⟩
abbrev d_Ratio_neg : Df := ⟨(fun K => He.ma K (He.ga K "Ratio") "__neg__"), "__neg__", "Ratio.__neg__", defArgs s_Ratio_neg, defBody s_Ratio_neg, defScope s_Ratio_neg, []⟩
abbrev d_Ratio_abs : Df := ⟨(fun K => He.ma K (He.ga K "Ratio") "__abs__"), "__abs__", "Ratio.__abs__", defArgs s_Ratio_abs, defBody s_Ratio_abs, defScope s_Ratio_abs, []⟩
abbrev d_Ratio_eq : Df := ⟨(fun K => He.ma K (He.ga K "Ratio") "__eq__"), "__eq__", "Ratio.__eq__", defArgs s_Ratio_eq, defBody s_Ratio_eq, defScope s_Ratio_eq, []⟩
abbrev d_Ratio_over : Df := ⟨(fun K => He.ma K (He.ga K "Ratio") "over"), "over", "Ratio.over", defArgs s_Ratio_over, defBody s_Ratio_over, defScope s_Ratio_over, []⟩
abbrev d_Ratio_below : Df := ⟨(fun K => He.ma K (He.ga K "Ratio") "below"), "below", "Ratio.below", defArgs s_Ratio_below, defBody s_Ratio_below, defScope s_Ratio_below, []⟩
abbrev d_Ratio_sign : Df := ⟨(fun K => prGet K "Ratio" "sign"), "sign", "Ratio.sign", defArgs s_Ratio_sign, defBody s_Ratio_sign, defScope s_Ratio_sign, []⟩
abbrev d_Ratio_is_zero : Df := ⟨(fun K => prGet K "Ratio" "is_zero"), "is_zero", "Ratio.is_zero", defArgs s_Ratio_is_zero, defBody s_Ratio_is_zero, defScope s_Ratio_is_zero, []⟩
abbrev d_common_divisor : Df := ⟨(fun K => He.ga K "common_divisor"), "common_divisor", "common_divisor", defArgs s_common_divisor, defBody s_common_divisor, defScope s_common_divisor, []⟩
abbrev d_law_cell : Df := ⟨(fun K => He.ga K "_law_cell"), "_law_cell", "_law_cell", defArgs s_law_cell, defBody s_law_cell, defScope s_law_cell, []⟩
abbrev d_law_mix : Df := ⟨(fun K => He.ga K "_law_mix"), "_law_mix", "_law_mix", defArgs s_law_mix, defBody s_law_mix, defScope s_law_mix, []⟩
abbrev d_law_draws : Df := ⟨(fun K => He.ga K "_law_draws"), "_law_draws", "_law_draws", defArgs s_law_draws, defBody s_law_draws, defScope s_law_draws, []⟩
abbrev d_law_small : Df := ⟨(fun K => He.ga K "_law_small"), "_law_small", "_law_small", defArgs s_law_small, defBody s_law_small, defScope s_law_small, []⟩
abbrev d_law_is_integer : Df := ⟨(fun K => He.ga K "_law_is_integer"), "_law_is_integer", "_law_is_integer", defArgs s_law_is_integer, defBody s_law_is_integer, defScope s_law_is_integer, []⟩
abbrev d_law_gcd : Df := ⟨(fun K => He.ga K "_law_gcd"), "_law_gcd", "_law_gcd", defArgs s_law_gcd, defBody s_law_gcd, defScope s_law_gcd, []⟩
abbrev d_law_ratio : Df := ⟨(fun K => He.ga K "_law_ratio"), "_law_ratio", "_law_ratio", defArgs s_law_ratio, defBody s_law_ratio, defScope s_law_ratio, []⟩
abbrev d_law_numbers : Df := ⟨(fun K => He.ga K "_law_numbers"), "_law_numbers", "_law_numbers", defArgs s_law_numbers, defBody s_law_numbers, defScope s_law_numbers, []⟩
abbrev d_law_is : Df := ⟨(fun K => He.ga K "_law_is"), "_law_is", "_law_is", defArgs s_law_is, defBody s_law_is, defScope s_law_is, []⟩
abbrev d_law_truth : Df := ⟨(fun K => He.ga K "_law_truth"), "_law_truth", "_law_truth", defArgs s_law_truth, defBody s_law_truth, defScope s_law_truth, []⟩
abbrev d_law_dues : Df := ⟨(fun K => He.ga K "_law_dues"), "_law_dues", "_law_dues", defArgs s_law_dues, defBody s_law_dues, defScope s_law_dues, []⟩
abbrev d_law_results : Df := ⟨(fun K => He.ga K "_law_results"), "_law_results", "_law_results", defArgs s_law_results, defBody s_law_results, defScope s_law_results, []⟩
abbrev d_law_order : Df := ⟨(fun K => He.ga K "_law_order"), "_law_order", "_law_order", defArgs s_law_order, defBody s_law_order, defScope s_law_order, []⟩
abbrev d_law : Df := ⟨(fun K => He.ga K "law"), "law", "law", defArgs s_law, defBody s_law, defScope s_law, []⟩
abbrev d_law_quotient : Df := ⟨(fun K => He.ga K "_law_quotient"), "_law_quotient", "_law_quotient", defArgs s_law_quotient, defBody s_law_quotient, defScope s_law_quotient, []⟩
abbrev d_law_zero_bottom : Df := ⟨(fun K => He.ga K "_law_zero_bottom"), "_law_zero_bottom", "_law_zero_bottom", defArgs s_law_zero_bottom, defBody s_law_zero_bottom, defScope s_law_zero_bottom, []⟩
def fnL : List Df := [d_LastrowsError_init, d_ZeroBottom_init, d_Ratio_init, d_Ratio_add, d_Ratio_sub, d_Ratio_mul, d_Ratio_neg, d_Ratio_abs, d_Ratio_eq, d_Ratio_over, d_Ratio_below, d_Ratio_sign, d_Ratio_is_zero, d_common_divisor, d_law_cell, d_law_mix, d_law_draws, d_law_small, d_law_is_integer, d_law_gcd, d_law_ratio, d_law_numbers, d_law_is, d_law_truth, d_law_dues, d_law_results, d_law_order, d_law, d_law_quotient, d_law_zero_bottom]
def LL : Ls where
  gl := ["Ratio", "ZeroBottom", "LastrowsError", "Empty", "BadText", "common_divisor", "_law_cell", "_law_mix", "_law_draws", "_law_small", "_law_is_integer", "_law_gcd", "_law_ratio", "_law_numbers", "_law_is", "_law_truth", "_law_dues", "_law_results", "_law_order", "_law_quotient", "_law_zero_bottom", "law"]
  fr := ["len", "abs", "int", "bool", "range", "isinstance", "ValueError"]
  cl := ["Ratio"]
  ex := ["ZeroBottom"]
  me := [("Ratio", "__init__"), ("Ratio", "__add__"), ("Ratio", "__sub__"), ("Ratio", "__mul__"), ("Ratio", "__neg__"), ("Ratio", "__abs__"), ("Ratio", "__eq__"), ("Ratio", "over"), ("Ratio", "below")]
  no := [("Ratio", "top"), ("Ratio", "bottom"), ("ZeroBottom", "word")]
  bl := [("gcd", "math.gcd")]
  kit := [(.type "int", "Ratio", false), (.type "tuple", "Ratio", false), (.type "str", "Ratio", false), (.type "NoneType", "Ratio", false)]
  kie := [("Ratio", "Ratio", true), ("ZeroBottom", "LastrowsError", true), ("ZeroBottom", "Empty", false), ("ZeroBottom", "BadText", false)]
  kiv := [("ZeroBottom", "ValueError", true)]
  pr := [("Ratio", "sign"), ("Ratio", "is_zero")]
  nf := [("Ratio", "int"), ("Ratio", "tuple"), ("Ratio", "str"), ("Ratio", "NoneType")]
  fn := fnL
end K00

namespace K00
open PySem PySem.Spec PyProof.Rows L2 LR
/-! readings -/
local macro_rules | `(tactic| walk_at "side") => `(tactic| first | decide | exact mulR (by omega) (by omega) | exact mulL (by omega) (by omega) | exact mulF (by decide) (by decide) | exact ⟨by decide, by decide⟩ | assumption | omega | fail "side")
local macro_rules | `(tactic| walk_at "go") => `(tactic| repeat' (first | refine ⟨_, rfl, ?_⟩ | refine ⟨_, _, rfl, rfl, pside (by walk_at "side"), ?_⟩ | refine ⟨_, _, rfl, rfl, ?_⟩ | refine ⟨rfl, ?_⟩ | refine .inl ⟨_, rfl, ?_⟩ | fail "stop"))
section
variable {P : Program} {w : World} {K : PySem.W.Frag} {mg : Str → Option Value} {base : Heap}


def spCell (K : PySem.W.Frag) : Sp := fun vs H Q _ => ∃ (a : Addr) (ns : List Int) (k : Int), vs = [.ref a, .int k] ∧ SqL K H a (ns.map V.int) ∧ 0 ≤ k ∧ k ≤ 1000 ∧ ns.length ≤ 63 ∧ ∀ (v : Int) (H' : Hp), 0 ≤ v → Same H H' → Q (.int v) H'
def spMix : Sp := fun vs H Q _ => ∃ (c k t : Int), vs = [.int c, .int k, .int t] ∧ 0 ≤ k ∧ k ≤ 1000 ∧ 0 ≤ t ∧ t ≤ 1000 ∧ ∀ v : Int, 0 ≤ v → v < 1024 → Q (.int v) H
def spDraws (K : PySem.W.Frag) : Sp := fun vs H Q _ => ∃ (a : Addr) (ns : List Int) (k m : Int), vs = [.ref a, .int k, .int m] ∧ SqL K H a (ns.map V.int) ∧ 0 ≤ k ∧ k ≤ 1000 ∧ 0 ≤ m ∧ m ≤ 1000 ∧ ns.length ≤ 63 ∧
  ∀ (p : Addr) (ds : List Int) (H' : Hp), H p = none → H' p = some (.lst (ds.map V.int)) → (ds.length : Int) = m → (∀ d ∈ ds, 0 ≤ d ∧ d < 1024) → Same H H' → Q (.ref p) H'
def spSmall : Sp := fun vs H Q _ => ∃ d : Int, vs = [.int d] ∧ 0 ≤ d ∧ d < 1024 ∧ ∀ v : Int, -32 ≤ v → v ≤ 31 → Q (.int v) H

theorem ok_law_cell (T : Txt LL K mg) : Ok P w K mg base (d_law_cell.at_ K) 1 ["script", "k"] (spCell K) := by

  refine Ok.of (T.d 14 (d := d_law_cell)) sc_law_cell (fun _ _ _ _ _ _ us hl => match us, hl with | [_, _], _ => rfl) (fun vs H Q E h => ?_) (fun fd cdv A outer s H vs Q E hr h => ?_)
  · obtain ⟨a, ns, k, rfl, _⟩ := h
    rfl
  · obtain ⟨a, ns, k, rfl, hS, h0, h1, hl, q⟩ := h
    refine ⟨_, pss_cons (ps_if (pt_cmpR op_lt (pv 1) (pe_callB call_len (by rfl) (T.f "len") (by decide +kernel) (pa_cons (pv 0) pa_nil)) (nomark _)) (pss_one (ps_ret (pe_callB call_abs (by rfl) (T.f "abs") (by decide +kernel) (pa_cons (pe_ix ix_list (pv 0) (pv 1) (fun _ _ => rfl)) pa_nil)))) pss_nil) (pss_cons (ps_set (i := 2) sc_law_cell.nd rfl (by first | exact Or.inl rfl | exact Or.inr rfl) pe_int) (pss_cons (ps_for (passes_of rfl) rfl (pi_list (pe_slice sl_list (pv 0) po_none (po_some pe_int))) (pg_name (i := 3) sc_law_cell.nd rfl (by first | exact Or.inl rfl | exact Or.inr rfl)) (pss_one (ps_set (i := 2) sc_law_cell.nd rfl (by first | exact Or.inl rfl | exact Or.inr rfl) (pe_op op_modN (pe_callTy call_int1 (by rfl) (T.f "int") (by decide +kernel) (pa_cons (pe_op op_add (pe_op op_mulZ (pv 2) pe_int) (pe_op op_modN (pe_callTy call_int1 (by rfl) (T.f "int") (by decide +kernel) (pa_cons (pe_callB call_abs (by rfl) (T.f "abs") (by decide +kernel) (pa_cons (pv 3) pa_nil)) pa_nil)) pe_int)) pa_nil)) pe_int)))) (pss_one (ps_ret (pe_op op_add (pe_op op_add (pe_op op_mulZ (pv 2) pe_int) (pe_op op_mulZ (pv 1) pe_int)) pe_int))))), ?_⟩
    walk_at "go"
    refine ⟨_, (ns.map V.int).length, rfl, .inl ⟨_, hS, rfl⟩, ?_⟩
    walk_at "go"
    refine ite2 (fun c => ?_) (fun c => ?_)
    · obtain ⟨z, _, _, hz⟩ := at_ints (ns := ns) h0 (by have c := of_decide_eq_true c; rw [List.length_map] at c; exact c)
      refine ⟨_, rfl, _, rfl, a, _, _, _, rfl, rfl, hS, hz, ?_⟩
      walk_at "go"
      exact q _ _ (abs_nn z) (Same.refl H)
    walk_at "go"
    refine ⟨a, _, rfl, hS, fun p hp => ?_⟩
    have sp := same_new (o := .lst (cutV (ns.map V.int) none (some 8))) hp
    obtain ⟨ms, em, _⟩ := cut_ints ns none (some 8)
    refine ⟨p, rfl, ⟨_, SqL.of upd_same⟩, for_list (K := K) (a := p) (xs := cutV (ns.map V.int) none (some 8)) (fun i σ H' => ∃ (t : Int) (v : Option V), σ = [some (.ref a), some (.int k), some (.int t), v] ∧ 0 ≤ t ∧ t < 1000003 ∧ Same (upd H p (.lst (cutV (ns.map V.int) none (some 8)))) H')
      ⟨5, none, rfl, by decide, by decide, Same.refl _⟩ (fun i σ H' _ ⟨_, _, _, _, _, s⟩ => s.seq (SqL.of upd_same)) ?_ ?_⟩
    · rintro i x σ H' hx ⟨t, v, rfl, t0, t1, s⟩
      rw [em] at hx
      obtain ⟨z, _, rfl⟩ := ints_ix hx
      walk_at "go"
      refine ⟨_, _, rfl, fmod_lo _ (by decide), fmod_hi _ (by decide), s⟩
    · rintro σ H' ⟨t, v, rfl, t0, t1, s⟩
      walk_at "go"
      exact q _ _ (by omega) (sp.trans s)

theorem ok_law_mix (T : Txt LL K mg) : Ok P w K mg base (d_law_mix.at_ K) 1 ["cell", "k", "at"] spMix := by

  refine Ok.of (T.d 15 (d := d_law_mix)) sc_law_mix (fun _ _ _ _ _ _ us hl => match us, hl with | [_, _, _], _ => rfl) (fun vs H Q E h => ?_) (fun fd cdv A outer s H vs Q E hr h => ?_)
  · obtain ⟨c, k, t, rfl, _⟩ := h
    rfl
  · obtain ⟨c, k, t, rfl, k0, k1, t0, t1, q⟩ := h
    refine ⟨_, pss_cons (ps_set (i := 3) sc_law_mix.nd rfl (by first | exact Or.inl rfl | exact Or.inr rfl) (pe_op op_modN (pe_callTy call_int1 (by rfl) (T.f "int") (by decide +kernel) (pa_cons (pe_op op_add (pe_op op_add (pe_op op_add (pe_op op_mulZ (pv 0) pe_int) (pe_op op_mulZ (pv 1) pe_int)) (pe_op op_mulZ (pv 2) pe_int)) pe_int) pa_nil)) pe_int)) (pss_cons (ps_set (i := 3) sc_law_mix.nd rfl (by first | exact Or.inl rfl | exact Or.inr rfl) (pe_op op_modN (pe_callTy call_int1 (by rfl) (T.f "int") (by decide +kernel) (pa_cons (pe_op op_add (pe_op op_add (pe_op op_mulZ (pv 3) (pv 3)) (pe_op op_mulZ (pv 2) pe_int)) pe_int) pa_nil)) pe_int)) (pss_cons (ps_set (i := 3) sc_law_mix.nd rfl (by first | exact Or.inl rfl | exact Or.inr rfl) (pe_op op_modN (pe_callTy call_int1 (by rfl) (T.f "int") (by decide +kernel) (pa_cons (pe_op op_add (pe_op op_add (pe_op op_mulZ (pv 3) (pv 3)) (pe_op op_mulZ (pv 1) pe_int)) pe_int) pa_nil)) pe_int)) (pss_one (ps_ret (pe_op op_modN (pe_callTy call_int1 (by rfl) (T.f "int") (by decide +kernel) (pa_cons (pv 3) pa_nil)) pe_int))))), ?_⟩
    walk_at "go"
    exact q _ (fmod_lo _ (by decide)) (fmod_hi _ (by decide))

theorem ok_law_small (T : Txt LL K mg) : Ok P w K mg base (d_law_small.at_ K) 1 ["d"] spSmall := by

  refine Ok.of (T.d 17 (d := d_law_small)) sc_law_small (fun _ _ _ _ _ _ us hl => match us, hl with | [_], _ => rfl) (fun vs H Q E h => ?_) (fun fd cdv A outer s H vs Q E hr h => ?_)
  · obtain ⟨d, rfl, _⟩ := h
    rfl
  · obtain ⟨d, rfl, d0, d1, q⟩ := h
    refine ⟨_, pss_cons (ps_if (pt_cmpR op_eq (pe_op op_modN (pe_callTy call_int1 (by rfl) (T.f "int") (by decide +kernel) (pa_cons (pv 0) pa_nil)) pe_int) pe_int (nomark _)) (pss_one (ps_ret (pe_op op_sub (pe_op op_modN (pe_callTy call_int1 (by rfl) (T.f "int") (by decide +kernel) (pa_cons (pe_op op_fdivZ (pv 0) pe_int) pa_nil)) pe_int) pe_int))) pss_nil) (pss_one (ps_ret (pe_op op_sub (pe_op op_modN (pe_callTy call_int1 (by rfl) (T.f "int") (by decide +kernel) (pa_cons (pv 0) pa_nil)) pe_int) pe_int))), ?_⟩
    walk_at "go"
    refine ite2 (fun c => ?_) (fun c => ?_)
    · walk_at "go"
      have a1 := fmod_lo (d.fdiv 16) (j := 64) (by decide)
      have a2 := fmod_hi (d.fdiv 16) (j := 64) (by decide)
      exact q _ (by omega) (by omega)
    · walk_at "go"
      have a1 := fmod_lo d (j := 7) (by decide)
      have a2 := fmod_hi d (j := 7) (by decide)
      exact q _ (by omega) (by omega)

theorem ok_law_draws (T : Txt LL K mg) : Ok P w K mg base (d_law_draws.at_ K) 3 ["script", "k", "many"] (spDraws K) := by
  obtain ⟨_, G_law_cell, b_law_cell⟩ := ok_law_cell (P := P) (w := w) (base := base) T
  obtain ⟨_, G_law_mix, b_law_mix⟩ := ok_law_mix (P := P) (w := w) (base := base) T
  refine Ok.of (T.d 16 (d := d_law_draws)) sc_law_draws (fun _ _ _ _ _ _ us hl => match us, hl with | [_, _, _], _ => rfl) (fun vs H Q E h => ?_) (fun fd cdv A outer s H vs Q E hr h => ?_)
  · obtain ⟨a, ns, k, m, rfl, _⟩ := h
    rfl
  · obtain ⟨a, ns, k, m, rfl, hS, k0, k1, m0, m1, hl, q⟩ := h
    refine ⟨_, pss_cons (ps_set (i := 3) sc_law_draws.nd rfl (by first | exact Or.inl rfl | exact Or.inr rfl) (pe_call G_law_cell (hr.mono (by decide)) (by rfl) (T.g "_law_cell") (T.k "_law_cell") b_law_cell .nil passL (pa_cons (pv 0) (pa_cons (pv 1) pa_nil)))) (pss_cons (ps_set (i := 4) sc_law_draws.nd rfl (by first | exact Or.inl rfl | exact Or.inr rfl) (pe_cmpR op_ge (pv 3) (pe_op op_powZ pe_int pe_int) (nomark _))) (pss_cons (ps_set (i := 5) sc_law_draws.nd rfl (by first | exact Or.inl rfl | exact Or.inr rfl) (pe_lst pa_nil)) (pss_cons (ps_for (passes_of rfl) rfl (pi_range1 rfl (T.f "range") (pa_cons (pv 2) pa_nil)) (pg_name (i := 6) sc_law_draws.nd rfl (by first | exact Or.inl rfl | exact Or.inr rfl)) (pss_one (ps_if (PW.pt (pw_and (pt_val (pv 4)) (pw_and1 (pt_cmpR op_gt (pv 3) pe_int (nomark _))))) (pss_cons (ps_expr (pe_bm PySem.F.plainAttrs_list PySem.F.slot_list_append PySem.F.type_list_append mt_append (pv 5) (pa_cons (pe_op op_modN (pe_callTy call_int1 (by rfl) (T.f "int") (by decide +kernel) (pa_cons (pv 3) pa_nil)) pe_int) pa_nil))) (pss_one (ps_set (i := 3) sc_law_draws.nd rfl (by first | exact Or.inl rfl | exact Or.inr rfl) (pe_op op_fdivZ (pv 3) pe_int)))) (pss_one (ps_expr (pe_bm PySem.F.plainAttrs_list PySem.F.slot_list_append PySem.F.type_list_append mt_append (pv 5) (pa_cons (pe_call G_law_mix (hr.mono (by decide)) (by rfl) (T.g "_law_mix") (T.k "_law_mix") b_law_mix .nil passL (pa_cons (pv 3) (pa_cons (pv 1) (pa_cons (pv 6) pa_nil)))) pa_nil))))))) (pss_one (ps_ret (pv 5)))))), ?_⟩
    walk_at "go"
    refine ⟨a, ns, k, rfl, hS, k0, k1, hl, fun v H1 v0 s1 => ?_⟩
    walk_at "go"
    refine fun p hp => ?_
    have s2 := same_new' (o := .lst []) s1 hp
    walk_at "go"
    refine ⟨by omega, by omega, for_range (lo := 0) (n := m.toNat) (fun i σ H' => ∃ (c : Int) (ds : List Int) (dg : Bool) (u : Option V), σ = [some (.ref a), some (.int k), some (.int m), some (.int c), some (.bl dg), some (.ref p), u] ∧
        H' p = some (.lst (ds.map V.int)) ∧ ds.length = i ∧ (∀ d ∈ ds, 0 ≤ d ∧ d < 1024) ∧ Same H H')
      ⟨v, [], _, none, rfl, upd_same, rfl, (fun d hd => by cases hd), s2⟩ ?_ ?_⟩
    · rintro i σ H' hi ⟨c, ds, dg, u, rfl, hp', hd, hb, s⟩
      have ne : ∀ (z : Int), 0 ≤ z → z < 1024 → ∀ d ∈ ds ++ [z], 0 ≤ d ∧ d < 1024 := fun z z0 z1 d hd => by
        rcases List.mem_append.mp hd with e | e
        · exact hb d e
        · rw [List.mem_singleton.mp e]
          exact ⟨z0, z1⟩
      have hlen : (ds.map V.int).length < sizeLine := by rw [List.length_map]; exact sz100 (by omega)
      have app : ∀ z : Int, ds.map V.int ++ [V.int z] = (ds ++ [z]).map V.int := fun z => by rw [List.map_append]; rfl
      have cnt : ∀ z : Int, (ds ++ [z]).length = i + 1 := fun z => by rw [List.length_append, hd]; rfl
      walk_at "go"
      refine ite2 (fun e => ?_) (fun e => ?_)
      · walk_at "go"
        refine ite2 (fun e => ?_) (fun e => ?_)
        · walk_at "go"
          refine ⟨.inl ⟨rfl, _, SqL.of hp'⟩, ?_⟩
          walk_at "go"
          refine ⟨p, _, _, rfl, rfl, hp', hlen, ?_⟩
          walk_at "go"
          exact ⟨_, ds ++ [_], dg, _, rfl, by rw [upd_same, app], cnt _, ne _ (fmod_lo _ (by decide)) (fmod_hi _ (by decide)), same_mut s (s1.free hp)⟩
        · walk_at "go"
          refine ⟨.inl ⟨rfl, _, SqL.of hp'⟩, ?_⟩
          walk_at "go"
          refine ⟨c, k, _, rfl, k0, k1, by omega, by omega, fun v v0 v1 => ?_⟩
          refine ⟨p, _, _, rfl, rfl, hp', hlen, ?_⟩
          exact ⟨_, ds ++ [v], dg, _, rfl, by rw [upd_same, app], cnt _, ne _ v0 v1, same_mut s (s1.free hp)⟩
      · walk_at "go"
        refine ⟨.inl ⟨rfl, _, SqL.of hp'⟩, ?_⟩
        walk_at "go"
        refine ⟨c, k, _, rfl, k0, k1, by omega, by omega, fun v v0 v1 => ?_⟩
        refine ⟨p, _, _, rfl, rfl, hp', hlen, ?_⟩
        exact ⟨_, ds ++ [v], dg, _, rfl, by rw [upd_same, app], cnt _, ne _ v0 v1, same_mut s (s1.free hp)⟩
    · rintro σ H' ⟨c, ds, dg, u, rfl, hp', hd, hb, s⟩
      walk_at "go"
      exact q p ds H' (s1.free hp) hp' (by omega) hb s

end
end K00

namespace K00
open PySem PySem.Spec PyProof.Rows L2 LR
/-! readings -/
local macro_rules | `(tactic| walk_at "side") => `(tactic| first | decide | exact mulR (by omega) (by omega) | exact mulL (by omega) (by omega) | exact mulF (by decide) (by decide) | exact ⟨by decide, by decide⟩ | assumption | omega | fail "side")
local macro_rules | `(tactic| walk_at "go") => `(tactic| repeat' (first | refine ⟨_, rfl, ?_⟩ | refine ⟨_, _, rfl, rfl, pside (by walk_at "side"), ?_⟩ | refine ⟨_, _, rfl, rfl, ?_⟩ | refine ⟨rfl, ?_⟩ | refine .inl ⟨_, rfl, ?_⟩ | fail "stop"))
section
variable {P : Program} {w : World} {K : PySem.W.Frag} {mg : Str → Option Value} {base : Heap}


theorem lk_here {k : Str} {v : V} {r : List (Str × V)} : List.lookup k ((k, v) :: r) = some v := by
  have e : (k == k) = true := beq_self_eq_true k
  simp only [List.lookup, e]
theorem lk_past {k g : Str} {v : V} {r : List (Str × V)} (h : (k == g) = false) : List.lookup k ((g, v) :: r) = List.lookup k r := by
  simp only [List.lookup, h]
def rF (t b : Int) : List (Str × V) := [("top", .int t), ("bottom", .int b)]
theorem rF_top (t b : Int) : (rF t b).lookup ("top" : Str) = some (.int t) := lk_here
theorem rF_bottom (t b : Int) : (rF t b).lookup ("bottom" : Str) = some (.int b) := (lk_past (by decide +kernel)).trans lk_here
theorem rF_no {m : Str} (t b : Int) (h1 : (m == ("top" : Str)) = false) (h2 : (m == ("bottom" : Str)) = false) : (rF t b).lookup m = none := (lk_past h1).trans ((lk_past h2).trans rfl)
theorem rF_new (t b : Int) : putF "bottom" (.int b) (putF "top" (.int t) []) = rF t b := (if_neg (by decide +kernel)).trans rfl
/-- at p a ratio t over b -/
def RatAt (K : PySem.W.Frag) (H : Hp) (p : Addr) (t b : Int) : Prop := ∃ dx, H p = some (.ins (He.ga K "Ratio") dx (rF t b))
theorem RatAt.same {K : PySem.W.Frag} {H H' : Hp} {p : Addr} {t b : Int} (h : RatAt K H p t b) (s : Same H H') : RatAt K H' p t b := let ⟨dx, e⟩ := h; ⟨dx, s _ _ e⟩
/-- the word of an error without more, set by its __init__ -/
def spEx0 (K : PySem.W.Frag) (x wd : Str) : Sp := fun vs H Q _ => ∃ a : Addr, vs = [.ref a] ∧ H a = some (exo a (He.ga K x) none) ∧ ∀ dx : Addr, H dx = none → dx ≠ a → Q .non (upd (upd H dx (exd dx [(("word" : Str), .str wd)])) a (exo a (He.ga K x) (some dx)))
/-- how the error x leaves: its own dict, new, holds its word -/
def ExOut (K : PySem.W.Frag) (x wd : Str) (H : Hp) (E : XK) : Prop := ∀ (d : Addr) (H' : Hp), Same H H' → H d = none → H' d = some (.xd [(("word" : Str), .str wd)]) → E (.ref (He.ga K x)) (some d) H'
def spCd (K : PySem.W.Frag) : Sp := fun vs H Q _ => ∃ (l : Addr) (ts : List Int) (b : Int), vs = [.ref l, .int b] ∧ SqL K H l (ts.map V.int) ∧ Q (.int (gs ts b)) H
def spRInit (K : PySem.W.Frag) : Sp := fun vs H Q E => ∃ (p dx : Addr) (t b : Int), vs = [.ref p, .int t, .int b] ∧ H p = some (.ins (He.ga K "Ratio") dx []) ∧ b.natAbs < 2 ^ 8999 ∧ (b = 0 → ExOut K "ZeroBottom" "bottom" H E) ∧
  (b ≠ 0 → ∀ H' : Hp, (∀ c o, H c = some o → c ≠ p → H' c = some o) → H' p = some (.ins (He.ga K "Ratio") dx (rF (nT t b) (nB t b))) → Q .non H')
/-- a new ratio, t over b in lowest terms -/
def NewR (K : PySem.W.Frag) (H : Hp) (Q : VK) (t b : Int) : Prop := ∀ (r : Addr) (H' : Hp), Same H H' → H r = none → RatAt K H' r (nT t b) (nB t b) → Q (.ref r) H'
theorem rat_new {K : PySem.W.Frag} {H : Hp} {Q : VK} {E : XK} {t b : Int} (hs : b.natAbs < 2 ^ 8999) (h0 : b = 0 → ExOut K "ZeroBottom" "bottom" H E) (k : b ≠ 0 → NewR K H Q t b) (x dx : Addr) (nx : H x = none) (nd : H dx = none) (ne : dx ≠ x) :
    spRInit K [.ref x, .int t, .int b] (upd (upd H dx (.own x)) x (.ins (He.ga K "Ratio") dx [])) (fun v H2 => v = .non ∧ Q (.ref x) H2) E := by
  have s0 : Same H (upd (upd H dx (.own x)) x (.ins (He.ga K "Ratio") dx [])) := fun c o e => by
    rw [upd_ne (ne_of_none e nx), upd_ne (ne_of_none e nd)]
    exact e
  refine ⟨x, dx, t, b, rfl, upd_same, hs, fun hb d H' s n e => h0 hb d H' (s0.trans s) (s0.free n) e, fun hb H' keep e => ⟨rfl, k hb x H' (fun c o h => keep c o (s0 c o h) (ne_of_none h nx)) nx ⟨dx, e⟩⟩⟩
theorem rat_mk {K : PySem.W.Frag} {H : Hp} {Q : VK} {E : XK} {t b : Int} (hb : b ≠ 0) (hs : b.natAbs < 2 ^ 8999) (k : NewR K H Q t b) (x dx : Addr) (nx : H x = none) (nd : H dx = none) (ne : dx ≠ x) :
    spRInit K [.ref x, .int t, .int b] (upd (upd H dx (.own x)) x (.ins (He.ga K "Ratio") dx [])) (fun v H2 => v = .non ∧ Q (.ref x) H2) E := rat_new hs (fun e => absurd e hb) (fun _ => k) x dx nx nd ne
def Sm (i : Int) : Prop := i.natAbs < 2 ^ 4000
theorem Sm.mul {i j : Int} (h : Sm i) (g : Sm j) : IntMulOk i j := mulW h g (by decide) (by decide) (by decide)
theorem Sm.pro {i j : Int} (h : Sm i) (g : Sm j) : (i * j).natAbs < 2 ^ 8000 := wide_lt h g
theorem Sm.neg {i : Int} (h : Sm i) : Sm (-i) := by
  unfold Sm
  rw [Int.natAbs_neg]
  exact h
theorem Sm.big {i : Int} (h : Sm i) : i.natAbs < 2 ^ 8999 := abs_up h (by decide)
theorem Sm.big2 {i j : Int} (h : Sm i) (g : Sm j) : (i * j).natAbs < 2 ^ 8999 := abs_up (h.pro g) (by decide)
theorem mul_ne {i j : Int} (h : 0 < i) (g : 0 < j) : i * j ≠ 0 := Int.ne_of_gt (Int.mul_pos h g)
/-- two ratios at hand -/
structure Two (K : PySem.W.Frag) (H : Hp) (p q : Addr) (t b u c : Int) : Prop where
  l : RatAt K H p t b
  r : RatAt K H q u c
  nl : Nrm t b
  nr : Nrm u c
  st : Sm t
  sb : Sm b
  su : Sm u
  sc : Sm c
def spBin (K : PySem.W.Frag) (ft fb : Int → Int → Int → Int → Int) : Sp := fun vs H Q _ => ∃ (p q : Addr) (t b u c : Int), vs = [.ref p, .ref q] ∧ Two K H p q t b u c ∧ NewR K H Q (ft t b u c) (fb t b u c)
def spUn (K : PySem.W.Frag) (f : Int → Int) : Sp := fun vs H Q _ => ∃ (p : Addr) (t b : Int), vs = [.ref p] ∧ RatAt K H p t b ∧ Nrm t b ∧ Sm t ∧ Sm b ∧ ∀ (r : Addr) (H' : Hp), Same H H' → H r = none → RatAt K H' r (f t) b → Q (.ref r) H'
def spREq (K : PySem.W.Frag) : Sp := fun vs H Q _ => ∃ (p : Addr) (t b : Int) (y : V), vs = [.ref p, y] ∧ RatAt K H p t b ∧ ((∃ (q : Addr) (u c : Int), y = .ref q ∧ RatAt K H q u c ∧ Q (.bl (decide (t = u) && decide (b = c))) H) ∨
  (∃ ty, TyX K H y ty ∧ PySem.W.kitOne K ty (.ref (He.ga K "Ratio")) = some false ∧ Q (.bl false) H))
def spOver (K : PySem.W.Frag) : Sp := fun vs H Q E => ∃ (p q : Addr) (t b u c : Int), vs = [.ref p, .ref q] ∧ Two K H p q t b u c ∧ (u = 0 → ExOut K "ZeroBottom" "bottom" H E) ∧ (u ≠ 0 → NewR K H Q (t * c) (b * u))
def spBelow (K : PySem.W.Frag) : Sp := fun vs H Q _ => ∃ (p q : Addr) (t b u c : Int), vs = [.ref p, .ref q] ∧ Two K H p q t b u c ∧ Q (.bl (decide (t * c < u * b))) H
def spSign (K : PySem.W.Frag) : Sp := fun vs H Q _ => ∃ (p : Addr) (t b : Int), vs = [.ref p] ∧ RatAt K H p t b ∧ Q (.int (if t = 0 then 0 else if 0 < t then 1 else -1)) H
def spZero (K : PySem.W.Frag) : Sp := fun vs H Q _ => ∃ (p : Addr) (t b : Int), vs = [.ref p] ∧ RatAt K H p t b ∧ Q (.bl (decide (t = 0))) H

theorem ok_ZeroBottom_init (T : Txt LL K mg) : Ok P w K mg base (d_ZeroBottom_init.at_ K) 1 ["self"] (spEx0 K "ZeroBottom" "bottom") := by

  refine Ok.of (T.d 1 (d := d_ZeroBottom_init)) sc_ZeroBottom_init (fun _ _ _ _ _ _ us hl => match us, hl with | [_], _ => rfl) (fun vs H Q E h => ?_) (fun fd cdv A outer s H vs Q E hr h => ?_)
  · obtain ⟨a, rfl, _⟩ := h
    rfl
  · obtain ⟨a, rfl, ha, q⟩ := h
    refine ⟨_, pss_one (ps_ost (pv 0) pe_str), ?_⟩
    exact ⟨_, rfl, a, _, rfl, T.oex "ZeroBottom", T.no "ZeroBottom" "word", .inl ⟨ha, q⟩⟩

theorem ok_common_divisor (T : Txt LL K mg) : Ok P w K mg base (d_common_divisor.at_ K) 1 ["tops", "bottom"] (spCd K) := by

  refine Ok.of (T.d 13 (d := d_common_divisor)) sc_common_divisor (fun _ _ _ _ _ _ us hl => match us, hl with | [_, _], _ => rfl) (fun vs H Q E h => ?_) (fun fd cdv A outer s H vs Q E hr h => ?_)
  · obtain ⟨l, ts, b, rfl, _⟩ := h
    rfl
  · obtain ⟨l, ts, b, rfl, hS, q⟩ := h
    refine ⟨_, pss_cons (ps_set (i := 2) sc_common_divisor.nd rfl (by first | exact Or.inl rfl | exact Or.inr rfl) (pe_callB call_abs (by rfl) (T.f "abs") (by decide +kernel) (pa_cons (pv 1) pa_nil))) (pss_cons (ps_for (passes_of rfl) rfl (pi_list (pv 0)) (pg_name (i := 3) sc_common_divisor.nd rfl (by first | exact Or.inl rfl | exact Or.inr rfl)) (pss_cons (ps_if (pt_cmpR op_eq (pv 2) pe_int (nomark _)) (pss_one ps_break) pss_nil) (pss_one (ps_set (i := 2) sc_common_divisor.nd rfl (by first | exact Or.inl rfl | exact Or.inr rfl) (pe_callBfun cr_gcd (by rfl) (T.b "gcd" "math.gcd") (pa_cons (pv 2) (pa_cons (pv 3) pa_nil))))))) (pss_one (ps_ret (pe_ifExp (pt_cmpR op_gt (pv 1) pe_int (nomark _)) (pv 2) (pe_un un_neg (pv 2)))))), ?_⟩
    walk_at "go"
    have eb : (if b < 0 then -b else b) = (b.natAbs : Int) := by split <;> omega
    rw [eb]
    refine ⟨⟨_, hS⟩, for_list (K := K) (a := l) (xs := ts.map V.int) (fun i σ H' => ∃ (f : Nat) (v : Option V), σ = [some (.ref l), some (.int b), some (.int f), v] ∧ (ts.drop i).foldl (fun g t => Nat.gcd g t.natAbs) f = cg ts b ∧ H' = H)
      ⟨_, none, rfl, rfl, rfl⟩ (fun i σ H' _ ⟨_, _, _, _, e⟩ => by rw [e]; exact hS) ?_ ?_⟩
    · rintro i x σ H' hx ⟨f, v, rfl, hf, rfl⟩
      obtain ⟨z, hz, rfl⟩ := ints_ix hx
      have hi := (List.getElem?_eq_some_iff.mp hz).1
      have ez : ts[i] = z := (List.getElem?_eq_some_iff.mp hz).2
      rw [List.drop_eq_getElem_cons hi, List.foldl_cons, ez] at hf
      walk_at "go"
      refine ite2 (fun c => ?_) (fun c => ?_)
      · have c1 : (f : Int) = 1 := V.int.inj (of_decide_eq_true c)
        have c2 : f = 1 := by omega
        subst c2
        rw [Nat.gcd_one_left, fold_one] at hf
        walk_at "go"
        refine ite2 (fun c => ?_) (fun c => ?_)
        · have c' := of_decide_eq_true c
          have e : gs ts b = 1 := by
            unfold gs
            rw [if_pos c', ← hf]
            rfl
          rw [e] at q
          walk_at "go"
          exact q
        · have c' : ¬ b > 0 := fun z => c (decide_eq_true z)
          have e : gs ts b = -1 := by
            unfold gs
            rw [if_neg c', ← hf]
            rfl
          rw [e] at q
          walk_at "go"
          exact q
      · walk_at "go"
        refine ⟨_, _, rfl, ?_⟩
        exact ⟨_, _, rfl, hf, rfl⟩
    · rintro σ H' ⟨f, v, rfl, hf, rfl⟩
      rw [List.length_map, List.drop_length] at hf
      have hf : f = cg ts b := hf
      subst hf
      walk_at "go"
      refine ite2 (fun c => ?_) (fun c => ?_)
      · have e : gs ts b = (cg ts b : Int) := if_pos (of_decide_eq_true c)
        rw [e] at q
        walk_at "go"
        exact q
      · have e : gs ts b = -(cg ts b : Int) := if_neg fun z => c (decide_eq_true z)
        rw [e] at q
        walk_at "go"
        exact q

theorem ok_Ratio_init (T : Txt LL K mg) : OkD P w K mg base (d_Ratio_init.at_ K) 4 ["self", "top", "bottom"] (.int 1) (spRInit K) := by
  obtain ⟨_, G_ZeroBottom, b_ZeroBottom⟩ := ok_ZeroBottom_init (P := P) (w := w) (base := base) T
  obtain ⟨_, G_common_divisor, b_common_divisor⟩ := ok_common_divisor (P := P) (w := w) (base := base) T
  refine OkD.of (T.d 2 (d := d_Ratio_init)) sc_Ratio_init (fun n hn _ _ _ _ _ _ _ us its hu hi => ?_) (by decide) (fun vs H Q E h => ?_) (fun fd cdv A outer s H vs Q E hr h => ?_)
  · have hn : n = 3 ∨ n + 1 = 3 := hn
    rcases hn with rfl | hn
    · exact match us, hu, its, hi with | [_, _, _], _, [_], _ => ⟨_, rfl, rfl⟩
    · obtain rfl : n = 2 := by omega
      exact match us, hu, its, hi with | [_, _], _, [_], _ => ⟨_, rfl, rfl⟩
  · obtain ⟨p, dx, t, b, rfl, _⟩ := h
    rfl
  · obtain ⟨p, dx, t, b, rfl, hp, hs, h0, h1⟩ := h
    refine ⟨_, pss_cons (ps_if (pt_cmpR op_eq (pv 2) pe_int (nomark _)) (pss_one (ps_raise rfl (takes_of rfl rfl rfl rfl) (pmk_oex0 (T.oex "ZeroBottom") (T.exI "ZeroBottom") (T.exT "ZeroBottom") G_ZeroBottom (hr.mono (by decide)) b_ZeroBottom passL (by rfl) (T.g "ZeroBottom")))) pss_nil) (pss_cons (ps_set (i := 3) sc_Ratio_init.nd rfl (by first | exact Or.inl rfl | exact Or.inr rfl) (pe_call G_common_divisor (hr.mono (by decide)) (by rfl) (T.g "common_divisor") (T.k "common_divisor") b_common_divisor .nil passL (pa_cons (pe_lst (pa_cons (pv 1) pa_nil)) (pa_cons (pv 2) pa_nil)))) (pss_cons (ps_fld (pv 0) (pe_op op_fdivZ (pv 1) (pv 3)) rfl) (pss_one (ps_fld (pv 0) (pe_op op_fdivZ (pv 2) (pv 3)) rfl)))), ?_⟩
    walk_at "go"
    refine ite2 (fun c => ?_) (fun c => ?_)
    · have c1 : b = 0 := V.int.inj (of_decide_eq_true c)
      refine ⟨Nat.zero_le _, fun a na => ⟨a, rfl, upd_same, fun d nd nda => ⟨rfl, d, _, upd_same, (upd_ne nda).trans upd_same, ?_, ?_⟩⟩⟩
      · rw [upd_ne nda] at nd
        exact nd
      · rw [upd_ne nda] at nd
        refine h0 c1 d _ (fun x o e => ?_) nd upd_same
        have xa : x ≠ a := ne_of_none e na
        rw [upd_ne (ne_of_none e nd), del_ne xa, upd_ne xa, upd_ne (ne_of_none e nd), upd_ne xa]
        exact e
    have c1 : b ≠ 0 := fun e => c (decide_eq_true (by rw [e]))
    walk_at "go"
    refine ⟨(by show 1 ≤ sizeLine; decide), fun l nl => ?_⟩
    walk_at "go"
    refine ⟨l, [t], b, rfl, SqL.of upd_same, ?_⟩
    have hdv : CDivZ t (gs [t] b) := divZ (gs_ne c1) (Nat.lt_of_le_of_lt (gs_le c1) hs) (by decide) (by decide)
    have hdv2 : CDivZ b (gs [t] b) := hdv
    have hl : p ≠ l := ne_of_none hp nl
    walk_at "go"
    refine ⟨p, _, dx, [], rfl, (by rw [upd_ne hl]; exact hp), T.cl "Ratio", T.no "Ratio" "top", (by show 0 < 1000; decide), ?_⟩
    walk_at "go"
    refine ⟨p, _, dx, _, rfl, upd_same, T.cl "Ratio", T.no "Ratio" "bottom", (by show 1 < 1000; decide), ?_⟩
    refine h1 c1 _ (fun x o e hx => ?_) ?_
    · rw [upd_ne hx, upd_ne hx, upd_ne (ne_of_none e nl)]
      exact e
    · rw [upd_same]
      exact congrArg (fun z => some (HO.ins (He.ga K "Ratio") dx z)) (rF_new _ _)

end
end K00

namespace K00
open PySem PySem.Spec PyProof.Rows L2 LR
/-! readings -/
local macro_rules | `(tactic| walk_at "side") => `(tactic| first | decide | exact Sm.mul (by assumption) (by assumption) | exact mulR (by omega) (by omega) | exact mulL (by omega) (by omega) | exact mulF (by decide) (by decide) | exact ⟨by decide, by decide⟩ | assumption | omega | fail "side")
local macro_rules | `(tactic| walk_at "go") => `(tactic| repeat' (first | refine ⟨_, rfl, ?_⟩ | refine ⟨_, _, rfl, rfl, pside (by walk_at "side"), ?_⟩ | refine ⟨_, _, rfl, rfl, ?_⟩ | refine ⟨rfl, ?_⟩ | refine .inl ⟨_, rfl, ?_⟩ | refine ⟨_, _, _, _, _, rfl, (by assumption), (by assumption), (by assumption), rF_top _ _, ?_⟩ | refine ⟨_, _, _, _, _, rfl, (by assumption), (by assumption), (by assumption), rF_bottom _ _, ?_⟩ | fail "stop"))
section
variable {P : Program} {w : World} {K : PySem.W.Frag} {mg : Str → Option Value} {base : Heap}

theorem ok_Ratio_add (T : Txt LL K mg) : Ok P w K mg base (d_Ratio_add.at_ K) 6 ["self", "other"] (spBin K (fun t b u c => t * c + u * b) (fun t b u c => b * c)) := by
  obtain ⟨_, G_Ratio, b_Ratio, _, _, _⟩ := ok_Ratio_init (P := P) (w := w) (base := base) T
  refine Ok.of (T.d 3 (d := d_Ratio_add)) sc_Ratio_add (fun _ _ _ _ _ _ us hl => match us, hl with | [_, _], _ => rfl) (fun vs H Q E h => ?_) (fun fd cdv A outer s H vs Q E hr h => ?_)
  · obtain ⟨p, q, t, b, u, c, rfl, _⟩ := h
    rfl
  · obtain ⟨p, q, t, b, u, c, rfl, h2, k⟩ := h
    refine ⟨_, pss_cons (ps_if (pt_not (pt_val (pe_callB call_isi (by rfl) (T.f "isinstance") (by decide +kernel) (pa_cons (pv 1) (pa_cons (pe_glob (v := .ref (He.ga K "Ratio")) rfl (T.g "Ratio") rfl) pa_nil))))) pss_never pss_nil) (pss_one (ps_ret (pe_make (T.mkk "Ratio") G_Ratio (hr.mono (by decide)) (by rfl) (T.g "Ratio") b_Ratio .nil passL (pa_cons (pe_op op_add (pe_op op_mulZ (pe_fld (pv 0) rfl) (pe_fld (pv 1) rfl)) (pe_op op_mulZ (pe_fld (pv 1) rfl) (pe_fld (pv 0) rfl))) (pa_cons (pe_op op_mulZ (pe_fld (pv 0) rfl) (pe_fld (pv 1) rfl)) pa_nil))))), ?_⟩
    obtain ⟨⟨dx, hp⟩, ⟨dy, hq⟩, nl, nr, st, sb, su, sc⟩ := h2
    have cR := T.cl "Ratio"
    have nRt := T.no "Ratio" "top"
    have nRb := T.no "Ratio" "bottom"
    walk_at "go"
    refine ⟨_, _, _, _, true, rfl, .own _, T.ty "Ratio" hq, T.kie "Ratio" "Ratio" true, ?_⟩
    walk_at "go"
    exact rat_mk (mul_ne nl.pos nr.pos) (sb.big2 sc) k

theorem ok_Ratio_mul (T : Txt LL K mg) : Ok P w K mg base (d_Ratio_mul.at_ K) 6 ["self", "other"] (spBin K (fun t b u c => t * u) (fun t b u c => b * c)) := by
  obtain ⟨_, G_Ratio, b_Ratio, _, _, _⟩ := ok_Ratio_init (P := P) (w := w) (base := base) T
  refine Ok.of (T.d 5 (d := d_Ratio_mul)) sc_Ratio_mul (fun _ _ _ _ _ _ us hl => match us, hl with | [_, _], _ => rfl) (fun vs H Q E h => ?_) (fun fd cdv A outer s H vs Q E hr h => ?_)
  · obtain ⟨p, q, t, b, u, c, rfl, _⟩ := h
    rfl
  · obtain ⟨p, q, t, b, u, c, rfl, h2, k⟩ := h
    refine ⟨_, pss_cons (ps_if (pt_not (pt_val (pe_callB call_isi (by rfl) (T.f "isinstance") (by decide +kernel) (pa_cons (pv 1) (pa_cons (pe_glob (v := .ref (He.ga K "Ratio")) rfl (T.g "Ratio") rfl) pa_nil))))) pss_never pss_nil) (pss_one (ps_ret (pe_make (T.mkk "Ratio") G_Ratio (hr.mono (by decide)) (by rfl) (T.g "Ratio") b_Ratio .nil passL (pa_cons (pe_op op_mulZ (pe_fld (pv 0) rfl) (pe_fld (pv 1) rfl)) (pa_cons (pe_op op_mulZ (pe_fld (pv 0) rfl) (pe_fld (pv 1) rfl)) pa_nil))))), ?_⟩
    obtain ⟨⟨dx, hp⟩, ⟨dy, hq⟩, nl, nr, st, sb, su, sc⟩ := h2
    have cR := T.cl "Ratio"
    have nRt := T.no "Ratio" "top"
    have nRb := T.no "Ratio" "bottom"
    walk_at "go"
    refine ⟨_, _, _, _, true, rfl, .own _, T.ty "Ratio" hq, T.kie "Ratio" "Ratio" true, ?_⟩
    walk_at "go"
    exact rat_mk (mul_ne nl.pos nr.pos) (sb.big2 sc) k

theorem ok_Ratio_neg (T : Txt LL K mg) : Ok P w K mg base (d_Ratio_neg.at_ K) 6 ["self"] (spUn K (fun t => -t)) := by
  obtain ⟨_, G_Ratio, b_Ratio, _, _, _⟩ := ok_Ratio_init (P := P) (w := w) (base := base) T
  refine Ok.of (T.d 6 (d := d_Ratio_neg)) sc_Ratio_neg (fun _ _ _ _ _ _ us hl => match us, hl with | [_], _ => rfl) (fun vs H Q E h => ?_) (fun fd cdv A outer s H vs Q E hr h => ?_)
  · obtain ⟨p, t, b, rfl, _⟩ := h
    rfl
  · obtain ⟨p, t, b, rfl, ⟨dx, hp⟩, nl, st, sb, k⟩ := h
    refine ⟨_, pss_one (ps_ret (pe_make (T.mkk "Ratio") G_Ratio (hr.mono (by decide)) (by rfl) (T.g "Ratio") b_Ratio .nil passL (pa_cons (pe_un un_neg (pe_fld (pv 0) rfl)) (pa_cons (pe_fld (pv 0) rfl) pa_nil)))), ?_⟩
    have cR := T.cl "Ratio"
    have nRt := T.no "Ratio" "top"
    have nRb := T.no "Ratio" "bottom"
    walk_at "go"
    refine rat_mk (Int.ne_of_gt nl.pos) sb.big fun r H' s n e => k r H' s n ?_
    rw [nT_nrm nl.neg, nB_nrm nl.neg] at e
    exact e

theorem ok_Ratio_abs (T : Txt LL K mg) : Ok P w K mg base (d_Ratio_abs.at_ K) 6 ["self"] (spUn K (fun t => if t < 0 then -t else t)) := by
  obtain ⟨_, G_Ratio, b_Ratio, _, _, _⟩ := ok_Ratio_init (P := P) (w := w) (base := base) T
  refine Ok.of (T.d 7 (d := d_Ratio_abs)) sc_Ratio_abs (fun _ _ _ _ _ _ us hl => match us, hl with | [_], _ => rfl) (fun vs H Q E h => ?_) (fun fd cdv A outer s H vs Q E hr h => ?_)
  · obtain ⟨p, t, b, rfl, _⟩ := h
    rfl
  · obtain ⟨p, t, b, rfl, ⟨dx, hp⟩, nl, st, sb, k⟩ := h
    refine ⟨_, pss_one (ps_ret (pe_make (T.mkk "Ratio") G_Ratio (hr.mono (by decide)) (by rfl) (T.g "Ratio") b_Ratio .nil passL (pa_cons (pe_callB call_abs (by rfl) (T.f "abs") (by decide +kernel) (pa_cons (pe_fld (pv 0) rfl) pa_nil)) (pa_cons (pe_fld (pv 0) rfl) pa_nil)))), ?_⟩
    have cR := T.cl "Ratio"
    have nRt := T.no "Ratio" "top"
    have nRb := T.no "Ratio" "bottom"
    walk_at "go"
    refine rat_mk (Int.ne_of_gt nl.pos) sb.big fun r H' s n e => k r H' s n ?_
    rw [nT_nrm nl.abs, nB_nrm nl.abs] at e
    exact e

theorem ok_Ratio_sub (T : Txt LL K mg) : Ok P w K mg base (d_Ratio_sub.at_ K) 8 ["self", "other"] (spBin K (fun t b u c => t * c + -u * b) (fun t b u c => b * c)) := by
  obtain ⟨_, G_Ratio_add, b_Ratio_add⟩ := ok_Ratio_add (P := P) (w := w) (base := base) T
  obtain ⟨_, G_Ratio_neg, b_Ratio_neg⟩ := ok_Ratio_neg (P := P) (w := w) (base := base) T
  refine Ok.of (T.d 4 (d := d_Ratio_sub)) sc_Ratio_sub (fun _ _ _ _ _ _ us hl => match us, hl with | [_, _], _ => rfl) (fun vs H Q E h => ?_) (fun fd cdv A outer s H vs Q E hr h => ?_)
  · obtain ⟨p, q, t, b, u, c, rfl, _⟩ := h
    rfl
  · obtain ⟨p, q, t, b, u, c, rfl, h2, k⟩ := h
    refine ⟨_, pss_cons (ps_if (pt_not (pt_val (pe_callB call_isi (by rfl) (T.f "isinstance") (by decide +kernel) (pa_cons (pv 1) (pa_cons (pe_glob (v := .ref (He.ga K "Ratio")) rfl (T.g "Ratio") rfl) pa_nil))))) pss_never pss_nil) (pss_one (ps_ret (pe_op (op_binO (op := .Add) (T.first "Ratio") (T.own "Ratio" "__add__") (T.fnn "Ratio" "__add__") G_Ratio_add (hr.mono (by decide)) b_Ratio_add passL) (pv 0) (pe_un (un_negO (T.own "Ratio" "__neg__") (T.fnn "Ratio" "__neg__") G_Ratio_neg (hr.mono (by decide)) b_Ratio_neg passL) (pv 1))))), ?_⟩
    obtain ⟨⟨dx, hp⟩, ⟨dy, hq⟩, nl, nr, st, sb, su, sc⟩ := h2
    have cR := T.cl "Ratio"
    have nRt := T.no "Ratio" "top"
    have nRb := T.no "Ratio" "bottom"
    walk_at "go"
    refine ⟨_, _, _, _, true, rfl, .own _, T.ty "Ratio" hq, T.kie "Ratio" "Ratio" true, ?_⟩
    walk_at "go"
    refine ⟨q, dy, _, rfl, hq, q, u, c, rfl, ⟨dy, hq⟩, nr, su, sc, fun r H' s n e => ?_⟩
    obtain ⟨dz, hr'⟩ := id e
    exact ⟨p, dx, _, r, dz, _, rfl, rfl, s _ _ hp, hr', p, r, t, b, -u, c, rfl, ⟨⟨dx, s _ _ hp⟩, e, nl, nr.neg, st, sb, su.neg, sc⟩, fun r2 H2 s2 n2 e2 => k r2 H2 (s.trans s2) (s.free n2) e2⟩

theorem ok_Ratio_eq (T : Txt LL K mg) : Ok P w K mg base (d_Ratio_eq.at_ K) 3 ["self", "other"] (spREq K) := by

  refine Ok.of (T.d 8 (d := d_Ratio_eq)) sc_Ratio_eq (fun _ _ _ _ _ _ us hl => match us, hl with | [_, _], _ => rfl) (fun vs H Q E h => ?_) (fun fd cdv A outer s H vs Q E hr h => ?_)
  · obtain ⟨p, t, b, y, rfl, _⟩ := h
    rfl
  · obtain ⟨p, t, b, y, rfl, ⟨dx, hp⟩, h2⟩ := h
    refine ⟨_, pss_one (ps_ret (pe_and (pe_callB call_isi (by rfl) (T.f "isinstance") (by decide +kernel) (pa_cons (pv 1) (pa_cons (pe_glob (v := .ref (He.ga K "Ratio")) rfl (T.g "Ratio") rfl) pa_nil))) (pe_and (pe_cmpR op_eq (pe_fld (pv 0) rfl) (pe_fld (pv 1) rfl) (nomark _)) (pe_one (pe_cmpR op_eq (pe_fld (pv 0) rfl) (pe_fld (pv 1) rfl) (nomark _)))))), ?_⟩
    have cR := T.cl "Ratio"
    have nRt := T.no "Ratio" "top"
    have nRb := T.no "Ratio" "bottom"
    rcases h2 with ⟨q, u, c, rfl, ⟨dy, hq⟩, k⟩ | ⟨ty, hty, hk, k⟩
    · walk_at "go"
      refine ⟨_, _, _, _, true, rfl, .own _, T.ty "Ratio" hq, T.kie "Ratio" "Ratio" true, ?_⟩
      walk_at "go"
      refine ite2 (fun e => ?_) (fun e => ?_)
      · have e1 : t = u := V.int.inj (of_decide_eq_true e)
        walk_at "go"
        have e2 : (decide (t = u) && decide (b = c)) = decide (V.int b = V.int c) := by
          rw [decide_eq_true e1, Bool.true_and]
          exact decide_eq_decide.mpr ⟨fun z => by rw [z], fun z => V.int.inj z⟩
        rw [e2] at k
        exact k
      · have e1 : ¬ t = u := fun z => e (decide_eq_true (by rw [z]))
        rw [decide_eq_false e1, Bool.false_and] at k
        exact k
    · walk_at "go"
      refine ⟨_, _, _, _, false, rfl, .own _, hty, hk, ?_⟩
      walk_at "go"
      exact k

theorem ok_Ratio_over (T : Txt LL K mg) : Ok P w K mg base (d_Ratio_over.at_ K) 6 ["self", "other"] (spOver K) := by
  obtain ⟨_, G_Ratio, b_Ratio, _, _, _⟩ := ok_Ratio_init (P := P) (w := w) (base := base) T
  refine Ok.of (T.d 9 (d := d_Ratio_over)) sc_Ratio_over (fun _ _ _ _ _ _ us hl => match us, hl with | [_, _], _ => rfl) (fun vs H Q E h => ?_) (fun fd cdv A outer s H vs Q E hr h => ?_)
  · obtain ⟨p, q, t, b, u, c, rfl, _⟩ := h
    rfl
  · obtain ⟨p, q, t, b, u, c, rfl, h2, h0, k⟩ := h
    refine ⟨_, pss_one (ps_ret (pe_make (T.mkk "Ratio") G_Ratio (hr.mono (by decide)) (by rfl) (T.g "Ratio") b_Ratio .nil (passes_call (takes_of rfl rfl rfl rfl) (fun _ _ _ _ h => h)) (pa_cons (pe_op op_mulZ (pe_fld (pv 0) rfl) (pe_fld (pv 1) rfl)) (pa_cons (pe_op op_mulZ (pe_fld (pv 0) rfl) (pe_fld (pv 1) rfl)) pa_nil)))), ?_⟩
    obtain ⟨⟨dx, hp⟩, ⟨dy, hq⟩, nl, nr, st, sb, su, sc⟩ := h2
    have cR := T.cl "Ratio"
    have nRt := T.no "Ratio" "top"
    have nRb := T.no "Ratio" "bottom"
    walk_at "go"
    refine rat_new (sb.big2 su) (fun e => h0 ?_) (fun e => k fun z => e ?_)
    · rcases Int.mul_eq_zero.mp e with z | z
      · exact absurd z (Int.ne_of_gt nl.pos)
      · exact z
    · rw [z, Int.mul_zero]

theorem ok_Ratio_below (T : Txt LL K mg) : Ok P w K mg base (d_Ratio_below.at_ K) 1 ["self", "other"] (spBelow K) := by

  refine Ok.of (T.d 10 (d := d_Ratio_below)) sc_Ratio_below (fun _ _ _ _ _ _ us hl => match us, hl with | [_, _], _ => rfl) (fun vs H Q E h => ?_) (fun fd cdv A outer s H vs Q E hr h => ?_)
  · obtain ⟨p, q, t, b, u, c, rfl, _⟩ := h
    rfl
  · obtain ⟨p, q, t, b, u, c, rfl, h2, k⟩ := h
    refine ⟨_, pss_one (ps_ret (pe_cmpR op_lt (pe_op op_mulZ (pe_fld (pv 0) rfl) (pe_fld (pv 1) rfl)) (pe_op op_mulZ (pe_fld (pv 1) rfl) (pe_fld (pv 0) rfl)) (nomark _))), ?_⟩
    obtain ⟨⟨dx, hp⟩, ⟨dy, hq⟩, nl, nr, st, sb, su, sc⟩ := h2
    have cR := T.cl "Ratio"
    have nRt := T.no "Ratio" "top"
    have nRb := T.no "Ratio" "bottom"
    walk_at "go"
    exact k

theorem ok_Ratio_sign (T : Txt LL K mg) : Ok P w K mg base (d_Ratio_sign.at_ K) 1 ["self"] (spSign K) := by

  refine Ok.of (T.d 11 (d := d_Ratio_sign)) sc_Ratio_sign (fun _ _ _ _ _ _ us hl => match us, hl with | [_], _ => rfl) (fun vs H Q E h => ?_) (fun fd cdv A outer s H vs Q E hr h => ?_)
  · obtain ⟨p, t, b, rfl, _⟩ := h
    rfl
  · obtain ⟨p, t, b, rfl, ⟨dx, hp⟩, k⟩ := h
    refine ⟨_, pss_cons (ps_if (pt_cmpR op_eq (pe_fld (pv 0) rfl) pe_int (nomark _)) (pss_one (ps_ret pe_int)) pss_nil) (pss_one (ps_ret (pe_ifExp (pt_cmpR op_gt (pe_fld (pv 0) rfl) pe_int (nomark _)) pe_int (pe_un un_neg pe_int)))), ?_⟩
    have cR := T.cl "Ratio"
    have nRt := T.no "Ratio" "top"
    have nRb := T.no "Ratio" "bottom"
    walk_at "go"
    refine ite2 (fun e => ?_) (fun e => ?_)
    · rw [if_pos (V.int.inj (of_decide_eq_true e))] at k
      exact k
    · have e0 : ¬ t = 0 := fun z => e (decide_eq_true (by rw [z]))
      rw [if_neg e0] at k
      walk_at "go"
      refine ite2 (fun e => ?_) (fun e => ?_)
      · have e1 : t > 0 := of_decide_eq_true e
        rw [if_pos e1] at k
        exact k
      · have e1 : ¬ t > 0 := fun z => e (decide_eq_true z)
        rw [if_neg e1] at k
        walk_at "go"
        exact k

theorem ok_Ratio_is_zero (T : Txt LL K mg) : Ok P w K mg base (d_Ratio_is_zero.at_ K) 1 ["self"] (spZero K) := by

  refine Ok.of (T.d 12 (d := d_Ratio_is_zero)) sc_Ratio_is_zero (fun _ _ _ _ _ _ us hl => match us, hl with | [_], _ => rfl) (fun vs H Q E h => ?_) (fun fd cdv A outer s H vs Q E hr h => ?_)
  · obtain ⟨p, t, b, rfl, _⟩ := h
    rfl
  · obtain ⟨p, t, b, rfl, ⟨dx, hp⟩, k⟩ := h
    refine ⟨_, pss_one (ps_ret (pe_cmpR op_eq (pe_fld (pv 0) rfl) pe_int (nomark _))), ?_⟩
    have cR := T.cl "Ratio"
    have nRt := T.no "Ratio" "top"
    have nRb := T.no "Ratio" "bottom"
    walk_at "go"
    have e : decide (V.int t = V.int 0) = decide (t = 0) := decide_eq_decide.mpr ⟨fun z => V.int.inj z, fun z => by rw [z]⟩
    rw [← e] at k
    exact k

end
end K00

namespace K00
open PySem PySem.Spec PyProof.Rows L2 LR
/-! readings -/
local macro_rules | `(tactic| walk_at "side") => `(tactic| first | decide | exact Sm.mul (by assumption) (by assumption) | exact mulR (by omega) (by omega) | exact mulL (by omega) (by omega) | exact mulF (by decide) (by decide) | exact ⟨by decide, by decide⟩ | assumption | omega | fail "side")
local macro_rules | `(tactic| walk_at "go") => `(tactic| repeat' (first | refine ⟨_, rfl, ?_⟩ | refine ⟨_, _, rfl, rfl, pside (by walk_at "side"), ?_⟩ | refine ⟨_, _, rfl, rfl, ?_⟩ | refine ⟨rfl, ?_⟩ | refine .inl ⟨_, rfl, ?_⟩ | refine ⟨_, _, _, _, _, rfl, (by assumption), (by assumption), (by assumption), rF_top _ _, ?_⟩ | refine ⟨_, _, _, _, _, rfl, (by assumption), (by assumption), (by assumption), rF_bottom _ _, ?_⟩ | fail "stop"))
section
variable {P : Program} {w : World} {K : PySem.W.Frag} {mg : Str → Option Value} {base : Heap}


def spIsInt : Sp := fun vs H Q _ => ∃ i : Int, vs = [.int i] ∧ Q (.bl true) H
def spGcd : Sp := fun vs H Q _ => ∃ a b : Int, vs = [.int a, .int b] ∧ b.natAbs < 2 ^ 8999 ∧ Q (.int ((Nat.gcd b.natAbs a.natAbs : Nat) : Int)) H
def NewP (H : Hp) (Q : VK) (t b : Int) : Prop := ∀ (r : Addr) (H' : Hp), Same H H' → H r = none → H' r = some (.tup [.int t, .int b]) → Q (.ref r) H'
def spLR : Sp := fun vs H Q _ => ∃ t b : Int, vs = [.int t, .int b] ∧ b ≠ 0 ∧ b.natAbs < 2 ^ 8999 ∧ NewP H Q (nT t b) (nB t b)
def spIs (K : PySem.W.Frag) : Sp := fun vs H Q _ => ∃ (p r : Addr) (t b : Int), vs = [.ref p, .ref r] ∧ RatAt K H p t b ∧ H r = some (.tup [.int t, .int b]) ∧ Q (.bl true) H
def spTru : Sp := fun vs H Q _ => ∃ c : Bool, vs = [.bl c, .bl c] ∧ Q (.bl true) H
theorem st_upd {H : Hp} {a p : Addr} {o u : HO} (h : H a = some o) (n : H p = none) : (upd H p u) a = some o := (upd_ne (ne_of_none h n)).trans h
theorem kit_int : PySem.W.kitOne K (.type "int") (.type "int") = some true := L2.kit_ty (by decide +kernel)
theorem kit_int_bool : PySem.W.kitOne K (.type "int") (.type "bool") = some false := L2.kit_ty (by decide +kernel)
theorem kit_bool : PySem.W.kitOne K (.type "bool") (.type "bool") = some true := L2.kit_ty (by decide +kernel)

theorem ok_law_is_integer (T : Txt LL K mg) : Ok P w K mg base (d_law_is_integer.at_ K) 1 ["x"] spIsInt := by

  refine Ok.of (T.d 18 (d := d_law_is_integer)) sc_law_is_integer (fun _ _ _ _ _ _ us hl => match us, hl with | [_], _ => rfl) (fun vs H Q E h => ?_) (fun fd cdv A outer s H vs Q E hr h => ?_)
  · obtain ⟨i, rfl, _⟩ := h
    rfl
  · obtain ⟨i, rfl, q⟩ := h
    refine ⟨_, pss_one (ps_ret (pe_and (pe_callB call_isi (by rfl) (T.f "isinstance") (by decide +kernel) (pa_cons (pv 0) (pa_cons (pe_bltn (v := .ty "int") (by rfl) (T.f "int") (by decide +kernel) rfl) pa_nil))) (pe_one (pe_not (pe_callB call_isi (by rfl) (T.f "isinstance") (by decide +kernel) (pa_cons (pv 0) (pa_cons (pe_bltn (v := .ty "bool") (by rfl) (T.f "bool") (by decide +kernel) rfl) pa_nil))))))), ?_⟩
    walk_at "go"
    refine ⟨_, _, _, _, true, rfl, .ty _, .base (.int i), kit_int, ?_⟩
    walk_at "go"
    refine ⟨_, _, _, _, false, rfl, .ty _, .base (.int i), kit_int_bool, ?_⟩
    walk_at "go"
    exact q

theorem ok_law_truth (T : Txt LL K mg) : Ok P w K mg base (d_law_truth.at_ K) 1 ["x", "due"] spTru := by

  refine Ok.of (T.d 23 (d := d_law_truth)) sc_law_truth (fun _ _ _ _ _ _ us hl => match us, hl with | [_, _], _ => rfl) (fun vs H Q E h => ?_) (fun fd cdv A outer s H vs Q E hr h => ?_)
  · obtain ⟨c, rfl, _⟩ := h
    rfl
  · obtain ⟨c, rfl, q⟩ := h
    refine ⟨_, pss_one (ps_ret (pe_and (pe_callB call_isi (by rfl) (T.f "isinstance") (by decide +kernel) (pa_cons (pv 0) (pa_cons (pe_bltn (v := .ty "bool") (by rfl) (T.f "bool") (by decide +kernel) rfl) pa_nil))) (pe_one (pe_cmpR op_eq (pv 0) (pv 1) (nomark _))))), ?_⟩
    walk_at "go"
    refine ⟨_, _, _, _, true, rfl, .ty _, .base (.bl c), kit_bool, ?_⟩
    walk_at "go"
    have e : decide (V.bl c = V.bl c) = true := decide_eq_true rfl
    rw [← e] at q
    exact q

theorem ok_law_gcd (T : Txt LL K mg) : Ok P w K mg base (d_law_gcd.at_ K) 1 ["a", "b"] spGcd := by

  refine Ok.of (T.d 19 (d := d_law_gcd)) sc_law_gcd (fun _ _ _ _ _ _ us hl => match us, hl with | [_, _], _ => rfl) (fun vs H Q E h => ?_) (fun fd cdv A outer s H vs Q E hr h => ?_)
  · obtain ⟨a, b, rfl, _⟩ := h
    rfl
  · obtain ⟨a, b, rfl, hb, q⟩ := h
    refine ⟨_, pss_cons (ps_set (i := 0) sc_law_gcd.nd rfl (by first | exact Or.inl rfl | exact Or.inr rfl) (pe_callB call_abs (by rfl) (T.f "abs") (by decide +kernel) (pa_cons (pv 0) pa_nil))) (pss_cons (ps_set (i := 1) sc_law_gcd.nd rfl (by first | exact Or.inl rfl | exact Or.inr rfl) (pe_callB call_abs (by rfl) (T.f "abs") (by decide +kernel) (pa_cons (pv 1) pa_nil))) (pss_cons (ps_for (passes_of rfl) rfl (pi_range1 rfl (T.f "range") (pa_cons (pe_op op_add (pe_op op_mulZ pe_int (pe_bits (pv 1))) pe_int) pa_nil)) (pg_name (i := 2) sc_law_gcd.nd rfl (by first | exact Or.inl rfl | exact Or.inr rfl)) (pss_cons (ps_if (pt_cmpR op_eq (pv 1) pe_int (nomark _)) (pss_one (ps_ret (pv 0))) pss_nil) (pss_one (ps_par (i := 0) (j := 1) (by rfl) sc_law_gcd.nd rfl rfl (by decide) rfl rfl (pa_cons (pv 1) (pa_cons (pe_op op_modN (pe_callTy call_int1 (by rfl) (T.f "int") (by decide +kernel) (pa_cons (pv 0) pa_nil)) (pv 1)) pa_nil)) (by rfl))))) (pss_one (ps_ret (pv 0))))), ?_⟩
    walk_at "go"
    have ea : (if a < 0 then -a else a) = (a.natAbs : Int) := by split <;> omega
    have eb : (if b < 0 then -b else b) = (b.natAbs : Int) := by split <;> omega
    rw [ea, eb]
    have hbits : Builtin.Int.intBits ((b.natAbs : Nat) : Int) ≤ 8999 := PyProof.Rows.intBits_le (by rw [Int.natAbs_natCast]; exact hb)
    generalize hn : Builtin.Int.intBits ((b.natAbs : Nat) : Int) = n at hbits ⊢
    have hB : b.natAbs < 2 ^ n := by
      have z := bits_hi ((b.natAbs : Nat) : Int)
      rw [Int.natAbs_natCast, hn] at z
      exact z
    rw [Nat.gcd_comm] at q
    have en : (2 * (n : Int) + 2).toNat = 2 * n + 2 := by omega
    refine ⟨by omega, by omega, for_range (lo := 0) (n := (2 * (n : Int) + 2).toNat) (fun i σ H' => ∃ (x y : Nat) (v : Option V), σ = [some (.int (x : Int)), some (.int (y : Int)), v] ∧ Euc (Nat.gcd a.natAbs b.natAbs) b.natAbs i x y ∧ H' = H)
      ⟨_, _, none, rfl, Euc.start _ _, rfl⟩ ?_ ?_⟩
    · rintro i σ H' hi ⟨x, y, v, rfl, hE, rfl⟩
      walk_at "go"
      refine ite2 (fun c => ?_) (fun c => ?_)
      · have c1 : (y : Int) = 0 := V.int.inj (of_decide_eq_true c)
        have c2 : y = 0 := by omega
        subst c2
        rw [← hE.ret] at q
        walk_at "go"
        exact q
      · have c1 : y ≠ 0 := fun z => c (decide_eq_true (by rw [z]; rfl))
        walk_at "go"
        refine ⟨_, _, rfl, ?_⟩
        have em : Int.fmod (x : Int) (y : Int) = ((x % y : Nat) : Int) := by
          rw [Int.fmod_eq_emod_of_nonneg _ (Int.natCast_nonneg _)]
          rfl
        exact ⟨y, x % y, some (.int (0 + (i : Int))), by rw [← em]; rfl, hE.step (by omega), rfl⟩
    · rintro σ H' ⟨x, y, v, rfl, hE, rfl⟩
      rw [en] at hE
      obtain ⟨_, e⟩ := hE.done hB
      rw [← e] at q
      walk_at "go"
      exact q

theorem ok_law_ratio (T : Txt LL K mg) : Ok P w K mg base (d_law_ratio.at_ K) 3 ["top", "bottom"] spLR := by
  obtain ⟨_, G_law_gcd, b_law_gcd⟩ := ok_law_gcd (P := P) (w := w) (base := base) T
  refine Ok.of (T.d 20 (d := d_law_ratio)) sc_law_ratio (fun _ _ _ _ _ _ us hl => match us, hl with | [_, _], _ => rfl) (fun vs H Q E h => ?_) (fun fd cdv A outer s H vs Q E hr h => ?_)
  · obtain ⟨t, b, rfl, _⟩ := h
    rfl
  · obtain ⟨t, b, rfl, hb, hs, q⟩ := h
    refine ⟨_, pss_cons (ps_set (i := 2) sc_law_ratio.nd rfl (by first | exact Or.inl rfl | exact Or.inr rfl) (pe_call G_law_gcd (hr.mono (by decide)) (by rfl) (T.g "_law_gcd") (T.k "_law_gcd") b_law_gcd .nil passL (pa_cons (pv 0) (pa_cons (pv 1) pa_nil)))) (pss_cons (ps_if (pt_cmpR op_lt (pv 1) pe_int (nomark _)) (pss_one (ps_set (i := 2) sc_law_ratio.nd rfl (by first | exact Or.inl rfl | exact Or.inr rfl) (pe_un un_neg (pv 2)))) pss_nil) (pss_one (ps_ret (pe_tup (pa_cons (pe_op op_fdivZ (pv 0) (pv 2)) (pa_cons (pe_op op_fdivZ (pv 1) (pv 2)) pa_nil)))))), ?_⟩
    walk_at "go"
    refine ⟨t, b, rfl, hs, ?_⟩
    have hdv : ∀ i, CDivZ i (gs [t] b) := fun i => divZ (gs_ne hb) (Nat.lt_of_le_of_lt (gs_le hb) hs) (by decide) (by decide)
    have hd1 := hdv t
    have hd2 := hdv b
    walk_at "go"
    refine ite2 (fun c => ?_) (fun c => ?_)
    · have c1 : b < 0 := of_decide_eq_true c
      have e : -((Nat.gcd b.natAbs t.natAbs : Nat) : Int) = gs [t] b := by
        unfold gs
        rw [if_neg (by omega), cg1]
      have q' : NewP H Q (t.fdiv (-((Nat.gcd b.natAbs t.natAbs : Nat) : Int))) (b.fdiv (-((Nat.gcd b.natAbs t.natAbs : Nat) : Int))) := by
        rw [e]
        exact q
      rw [← e] at hd1 hd2
      walk_at "go"
      exact ⟨(by show 2 ≤ sizeLine; decide), fun r nr => q' r _ (same_new nr) nr upd_same⟩
    · have c1 : ¬ b < 0 := fun z => c (decide_eq_true z)
      have e : ((Nat.gcd b.natAbs t.natAbs : Nat) : Int) = gs [t] b := by
        unfold gs
        rw [if_pos (by omega), cg1]
      have q' : NewP H Q (t.fdiv ((Nat.gcd b.natAbs t.natAbs : Nat) : Int)) (b.fdiv ((Nat.gcd b.natAbs t.natAbs : Nat) : Int)) := by
        rw [e]
        exact q
      rw [← e] at hd1 hd2
      walk_at "go"
      exact ⟨(by show 2 ≤ sizeLine; decide), fun r nr => q' r _ (same_new nr) nr upd_same⟩

theorem ok_law_is (T : Txt LL K mg) : Ok P w K mg base (d_law_is.at_ K) 3 ["x", "pair"] (spIs K) := by
  obtain ⟨_, G_law_is_integer, b_law_is_integer⟩ := ok_law_is_integer (P := P) (w := w) (base := base) T
  refine Ok.of (T.d 22 (d := d_law_is)) sc_law_is (fun _ _ _ _ _ _ us hl => match us, hl with | [_, _], _ => rfl) (fun vs H Q E h => ?_) (fun fd cdv A outer s H vs Q E hr h => ?_)
  · obtain ⟨p, r, t, b, rfl, _⟩ := h
    rfl
  · obtain ⟨p, r, t, b, rfl, ⟨dx, hp⟩, hr1, q⟩ := h
    refine ⟨_, pss_cons (ps_if (PW.pt (pw_or (pt_not (pt_val (pe_callB call_isi (by rfl) (T.f "isinstance") (by decide +kernel) (pa_cons (pv 0) (pa_cons (pe_glob (v := .ref (He.ga K "Ratio")) rfl (T.g "Ratio") rfl) pa_nil))))) (pw_or (pt_not (pt_val (pe_call G_law_is_integer (hr.mono (by decide)) (by rfl) (T.g "_law_is_integer") (T.k "_law_is_integer") b_law_is_integer .nil passL (pa_cons (pe_fld (pv 0) rfl) pa_nil)))) (pw_or1 (pt_not (pt_val (pe_call G_law_is_integer (hr.mono (by decide)) (by rfl) (T.g "_law_is_integer") (T.k "_law_is_integer") b_law_is_integer .nil passL (pa_cons (pe_fld (pv 0) rfl) pa_nil)))))))) (pss_one (ps_ret pe_bl)) pss_nil) (pss_one (ps_ret (pe_and (pe_cmpR op_eq (pe_fld (pv 0) rfl) (pe_ix ix_tup (pv 1) pe_int (fun _ _ => rfl)) (nomark _)) (pe_one (pe_cmpR op_eq (pe_fld (pv 0) rfl) (pe_ix ix_tup (pv 1) pe_int (fun _ _ => rfl)) (nomark _)))))), ?_⟩
    have hq := hp
    have cR := T.cl "Ratio"
    have nRt := T.no "Ratio" "top"
    have nRb := T.no "Ratio" "bottom"
    walk_at "go"
    refine ⟨_, _, _, _, true, rfl, .own _, T.ty "Ratio" hq, T.kie "Ratio" "Ratio" true, ?_⟩
    walk_at "go"
    refine ⟨r, _, 0, _, rfl, rfl, SqT.of hr1, rfl, ?_⟩
    walk_at "go"
    rw [show decide (V.int t = V.int t) = true from decide_eq_true rfl]
    walk_at "go"
    refine ⟨r, _, 1, _, rfl, rfl, SqT.of hr1, rfl, ?_⟩
    walk_at "go"
    rw [show decide (V.int b = V.int b) = true from decide_eq_true rfl]
    exact q

end
end K00

namespace K00
open PySem PySem.Spec PyProof.Rows L2 LR
/-! readings -/
local macro_rules | `(tactic| walk_at "side") => `(tactic| first | decide | exact Sm.mul (by assumption) (by assumption) | exact mulR (by omega) (by omega) | exact mulL (by omega) (by omega) | exact mulF (by decide) (by decide) | exact ⟨by decide, by decide⟩ | exact ⟨by decide, by decide +kernel⟩ | assumption | omega | fail "side")
local macro_rules | `(tactic| walk_at "go") => `(tactic| repeat' (first | refine ⟨_, rfl, ?_⟩ | refine ⟨_, _, rfl, rfl, pside (by walk_at "side"), ?_⟩ | refine ⟨_, _, rfl, rfl, ?_⟩ | refine ⟨rfl, ?_⟩ | refine .inl ⟨_, rfl, ?_⟩ | refine ⟨_, _, _, _, _, rfl, (by assumption), (by assumption), (by assumption), rF_top _ _, ?_⟩ | refine ⟨_, _, _, _, _, rfl, (by assumption), (by assumption), (by assumption), rF_bottom _ _, ?_⟩ | fail "stop"))
section
variable {P : Program} {w : World} {K : PySem.W.Frag} {mg : Str → Option Value} {base : Heap}


def Sz (i : Int) : Prop := i.natAbs < 2 ^ 3322
def Sy (i : Int) : Prop := i.natAbs < 2 ^ 3400
/-- the four numbers of a law's script -/
structure Four (ns : List Int) : Prop where
  len : ns.length = 4
  sy : ∀ n ∈ ns, Sy n
  n1 : ∀ n, ns[1]? = some n → n ≠ 0
  n3 : ∀ n, ns[3]? = some n → n ≠ 0
def spNum (K : PySem.W.Frag) : Sp := fun vs H Q _ => ∃ (a : Addr) (ns : List Int), vs = [.ref a] ∧ SqL K H a (ns.map V.int) ∧ ns.length ≤ 63 ∧ ∀ (p : Addr) (ms : List Int) (H' : Hp), H p = none → H' p = some (.lst (ms.map V.int)) → Four ms → Same H H' → Q (.ref p) H'
theorem sz_small {v : Int} (h0 : -32 ≤ v) (h1 : v ≤ 31) : Sz v := Nat.lt_of_lt_of_le (show v.natAbs < 2 ^ 6 by omega) (Nat.pow_le_pow_right (by decide) (by decide))
theorem sz_mod {c l : Int} (h0 : 0 < l) (h1 : l.natAbs ≤ 2 ^ 3322) : Sz (c.fmod l) := by
  have a := fmod_lo c h0
  have b := fmod_hi c h0
  unfold Sz
  omega
theorem sz_neg {v : Int} (h : Sz v) : Sz (-v) := by
  unfold Sz
  rw [Int.natAbs_neg]
  exact h
theorem sz_sy {v : Int} (h : Sz v) : Sy v := abs_up h (by decide)
theorem lim1 : (0 : Int) < (10 ^ Int.toNat 50) ^ Int.toNat 20 ∧ ((10 ^ Int.toNat 50) ^ Int.toNat 20 : Int).natAbs ≤ 2 ^ 3322 := by
  constructor <;> decide +kernel
theorem lim2 : (0 : Int) < (10 ^ Int.toNat 50) ^ Int.toNat 18 ∧ ((10 ^ Int.toNat 50) ^ Int.toNat 18 : Int).natAbs ≤ 2 ^ 3322 := by
  constructor <;> decide +kernel
theorem set_map (ms : List Int) (j : Nat) (z : Int) : (ms.map V.int).set j (.int z) = (ms.set j z).map V.int := by rw [List.map_set]

theorem ok_law_numbers (T : Txt LL K mg) : Ok P w K mg base (d_law_numbers.at_ K) 6 ["script"] (spNum K) := by
  obtain ⟨_, G_law_draws, b_law_draws⟩ := ok_law_draws (P := P) (w := w) (base := base) T
  obtain ⟨_, G_law_small, b_law_small⟩ := ok_law_small (P := P) (w := w) (base := base) T
  obtain ⟨_, G_law_cell, b_law_cell⟩ := ok_law_cell (P := P) (w := w) (base := base) T
  refine Ok.of (T.d 21 (d := d_law_numbers)) sc_law_numbers (fun _ _ _ _ _ _ us hl => match us, hl with | [_], _ => rfl) (fun vs H Q E h => ?_) (fun fd cdv A outer s H vs Q E hr h => ?_)
  · obtain ⟨a, ns, rfl, _⟩ := h
    rfl
  · obtain ⟨a, ns, rfl, hS, hl, q⟩ := h
    refine ⟨_, pss_cons (ps_set (i := 1) sc_law_numbers.nd rfl (by first | exact Or.inl rfl | exact Or.inr rfl) (pe_call G_law_draws (hr.mono (by decide)) (by rfl) (T.g "_law_draws") (T.k "_law_draws") b_law_draws .nil passL (pa_cons (pv 0) (pa_cons pe_int (pa_cons pe_int pa_nil))))) (pss_cons (ps_set (i := 2) sc_law_numbers.nd rfl (by first | exact Or.inl rfl | exact Or.inr rfl) (pe_op op_modN (pe_callTy call_int1 (by rfl) (T.f "int") (by decide +kernel) (pa_cons (pe_ix ix_list (pv 1) pe_int (fun _ _ => rfl)) pa_nil)) pe_int)) (pss_cons (ps_set (i := 3) sc_law_numbers.nd rfl (by first | exact Or.inl rfl | exact Or.inr rfl) (pe_op op_powZ (pe_op op_powZ pe_int pe_int) pe_int)) (C8.pss_cut (ps_if (PW.pt (pw_or (pt_cmpR op_eq (pv 2) pe_int (nomark _)) (pw_or1 (pt_cmpR op_eq (pv 2) pe_int (nomark _))))) (pss_one (ps_set (i := 3) sc_law_numbers.nd rfl (by first | exact Or.inl rfl | exact Or.inr rfl) (pe_op op_powZ (pe_op op_powZ pe_int pe_int) pe_int))) pss_nil) (pss_cons (ps_set (i := 4) sc_law_numbers.nd rfl (by first | exact Or.inl rfl | exact Or.inr rfl) (pe_lst pa_nil)) (pss_cons (ps_for (passes_of rfl) rfl (pi_range1 rfl (T.f "range") (pa_cons pe_int pa_nil)) (pg_name (i := 5) sc_law_numbers.nd rfl (by first | exact Or.inl rfl | exact Or.inr rfl)) (pss_cons (ps_set (i := 6) sc_law_numbers.nd rfl (by first | exact Or.inl rfl | exact Or.inr rfl) (pe_call G_law_small (hr.mono (by decide)) (by rfl) (T.g "_law_small") (T.k "_law_small") b_law_small .nil passL (pa_cons (pe_ix ix_list (pe_call G_law_draws (hr.mono (by decide)) (by rfl) (T.g "_law_draws") (T.k "_law_draws") b_law_draws .nil passL (pa_cons (pv 0) (pa_cons (pv 5) (pa_cons pe_int pa_nil)))) pe_int (fun _ _ => rfl)) pa_nil))) (C8.pss_cut (ps_if (pt_cmpR op_eq (pe_op op_modN (pe_callTy call_int1 (by rfl) (T.f "int") (by decide +kernel) (pa_cons (pe_ix ix_list (pv 1) pe_int (fun _ _ => rfl)) pa_nil)) pe_int) pe_int (nomark _)) (pss_cons (ps_set (i := 6) sc_law_numbers.nd rfl (by first | exact Or.inl rfl | exact Or.inr rfl) (pe_op op_modN (pe_callTy call_int1 (by rfl) (T.f "int") (by decide +kernel) (pa_cons (pe_call G_law_cell (hr.mono (by decide)) (by rfl) (T.g "_law_cell") (T.k "_law_cell") b_law_cell .nil passL (pa_cons (pv 0) (pa_cons (pv 5) pa_nil))) pa_nil)) (pv 3))) (pss_one (ps_if (pt_cmpR op_eq (pe_op op_modN (pe_callTy call_int1 (by rfl) (T.f "int") (by decide +kernel) (pa_cons (pe_ix ix_list (pv 1) (pe_op op_add pe_int (pv 5)) (fun _ _ => rfl)) pa_nil)) pe_int) pe_int (nomark _)) (pss_one (ps_set (i := 6) sc_law_numbers.nd rfl (by first | exact Or.inl rfl | exact Or.inr rfl) (pe_un un_neg (pv 6)))) pss_nil))) pss_nil) (pss_one (ps_expr (pe_bm PySem.F.plainAttrs_list PySem.F.slot_list_append PySem.F.type_list_append mt_append (pv 4) (pa_cons (pv 6) pa_nil))))))) (C8.pss_cut (ps_if (pt_cmpR op_eq (pv 2) pe_int (nomark _)) (pss_one (ps_asg pe_int (pg_sub (pv 4) (pe_op op_mulZ (pe_op op_modN (pe_callTy call_int1 (by rfl) (T.f "int") (by decide +kernel) (pa_cons (pe_ix ix_list (pv 1) pe_int (fun _ _ => rfl)) pa_nil)) pe_int) pe_int) set_list))) pss_nil) (pss_cons (ps_for (passes_of rfl) rfl (pi_range3 rfl (T.f "range") (pa_cons pe_int (pa_cons pe_int (pa_cons pe_int pa_nil)))) (pg_name (i := 5) sc_law_numbers.nd rfl (by first | exact Or.inl rfl | exact Or.inr rfl)) (pss_one (ps_if (pt_cmpR op_eq (pe_ix ix_list (pv 4) (pv 5) (fun _ _ => rfl)) pe_int (nomark _)) (pss_one (ps_asg pe_int (pg_sub (pv 4) (pv 5) set_list))) pss_nil))) (C8.pss_cut (ps_if (pt_cmpR op_eq (pv 2) pe_int (nomark _)) (pss_cons (ps_set (i := 7) sc_law_numbers.nd rfl (by first | exact Or.inl rfl | exact Or.inr rfl) (pe_op op_sub (pe_op op_modN (pe_callTy call_int1 (by rfl) (T.f "int") (by decide +kernel) (pa_cons (pe_ix ix_list (pv 1) pe_int (fun _ _ => rfl)) pa_nil)) pe_int) pe_int)) (C8.pss_cut (ps_if (pt_cmpR op_eq (pv 7) pe_int (nomark _)) (pss_one (ps_set (i := 7) sc_law_numbers.nd rfl (by first | exact Or.inl rfl | exact Or.inr rfl) pe_int)) pss_nil) (pss_cons (ps_asg (pe_op op_mulZ (pe_ix ix_list (pv 4) pe_int (fun _ _ => rfl)) (pv 7)) (pg_sub (pv 4) pe_int set_list)) (pss_one (ps_asg (pe_op op_mulZ (pe_ix ix_list (pv 4) pe_int (fun _ _ => rfl)) (pv 7)) (pg_sub (pv 4) pe_int set_list)))))) pss_nil) (C8.pss_cut (ps_if (pt_cmpR op_eq (pv 2) pe_int (nomark _)) (pss_cons (ps_asg (pe_op op_add (pe_ix ix_list (pv 4) pe_int (fun _ _ => rfl)) pe_int) (pg_sub (pv 4) pe_int set_list)) (pss_one (ps_asg (pe_ix ix_list (pv 4) pe_int (fun _ _ => rfl)) (pg_sub (pv 4) pe_int set_list)))) pss_nil) (pss_one (ps_ret (pv 4)))))))))))), ?_⟩
    walk_at "go"
    refine ⟨a, ns, 4, 8, rfl, hS, by decide, by decide, by decide, by decide, hl, fun pd ds H1 npd hpd hlen hds s1 => ?_⟩
    have hS1 := s1.seq hS
    have dAt : ∀ k : Int, 0 ≤ k → k < 8 → ∃ z, atI (ds.map V.int) k = some (.int z) := fun k k0 k1 => by
      obtain ⟨z, _, _, e⟩ := at_ints (ns := ds) k0 (by omega)
      exact ⟨z, e⟩
    obtain ⟨d0, hd0⟩ := dAt 0 (by decide) (by decide)
    obtain ⟨d1, hd1⟩ := dAt 1 (by decide) (by decide)
    obtain ⟨d6, hd6⟩ := dAt 6 (by decide) (by decide)
    walk_at "go"
    refine ⟨pd, _, _, _, rfl, rfl, SqL.of hpd, hd0, ?_⟩
    walk_at "go"
    refine ⟨fun σ H' => ∃ kd lm : Int, σ = [some (.ref a), some (.ref pd), some (.int kd), some (.int lm), none, none, none, none] ∧ H' = H1 ∧ 0 < lm ∧ lm.natAbs ≤ 2 ^ 3322, ?_, ?_⟩
    · walk_at "go"
      refine ite2 (fun e => ?_) (fun e => ?_)
      · walk_at "go"
        first | exact lim2.2 | exact ⟨_, _, rfl, rfl, lim2.1, lim2.2⟩
      · walk_at "go"
        refine ite2 (fun e => ?_) (fun e => ?_)
        · walk_at "go"
          first | exact lim2.2 | exact ⟨_, _, rfl, rfl, lim2.1, lim2.2⟩
        · exact ⟨_, _, rfl, rfl, lim1.1, lim1.2⟩
    rintro σ H' ⟨kd, lm, rfl, rfl, lm0, lm1⟩
    
    refine ⟨Nat.zero_le _, fun pn npn => ?_⟩
    have nH : H pn = none := s1.free npn
    have sn := same_new (o := .lst []) npn
    walk_at "go"
    refine ⟨by decide, by decide, for_range (lo := 0) (n := Int.toNat 4) (fun i σ H2 => ∃ (ms : List Int) (vk vn : Option V), σ = [some (.ref a), some (.ref pd), some (.int kd), some (.int lm), some (.ref pn), vk, vn, none] ∧
        H2 pn = some (.lst (ms.map V.int)) ∧ ms.length = i ∧ (∀ n ∈ ms, Sz n) ∧ Same H' H2) ⟨[], none, none, rfl, upd_same, rfl, (fun n hn => by cases hn), sn⟩ ?_ ?_⟩
    · rintro i σ H2 hi ⟨ms, vk, vn, rfl, hpn, hml, hmz, s2⟩
      have hi4 : i < 4 := hi
      have hS2 := s2.seq hS1
      walk_at "go"
      refine ⟨a, ns, _, 1, rfl, hS2, by omega, by omega, by decide, by decide, hl, fun pe es H3 npe hpe hel hes s3 => ?_⟩
      obtain ⟨z, hz, _, ez⟩ := at_ints (ns := es) (k := 0) (by decide) (by omega)
      walk_at "go"
      refine ⟨pe, _, _, _, rfl, rfl, SqL.of hpe, ez, ?_⟩
      walk_at "go"
      refine ⟨(hes z hz).1, (hes z hz).2, fun v v0 v1 => ?_⟩
      walk_at "go"
      have s23 := s2.trans s3
      refine ⟨fun σ H4 => ∃ v : Int, σ = [some (.ref a), some (.ref pd), some (.int kd), some (.int lm), some (.ref pn), some (.int (0 + (i : Int))), some (.int v), none] ∧ Sz v ∧ Same H3 H4, ?_, ?_⟩
      · walk_at "go"
        refine ⟨pd, _, _, _, rfl, rfl, SqL.of (s23 _ _ hpd), hd1, ?_⟩
        walk_at "go"
        refine ite2 (fun e => ?_) (fun e => ?_)
        · walk_at "go"
          refine ⟨a, ns, _, rfl, s3.seq hS2, by omega, by omega, hl, fun c H4 c0 s4 => ?_⟩
          have hm := sz_mod (c := c) lm0 lm1
          have lmn : lm ≠ 0 := Int.ne_of_gt lm0
          walk_at "go"
          obtain ⟨d2, hd2⟩ := dAt (2 + (0 + (i : Int))) (by omega) (by omega)
          refine ⟨pd, _, _, _, rfl, rfl, SqL.of (s4 _ _ (s23 _ _ hpd)), hd2, ?_⟩
          walk_at "go"
          refine ite2 (fun e => ?_) (fun e => ?_)
          · walk_at "go"
            first | exact s4 | exact ⟨sz_neg hm, s4⟩ | exact ⟨_, rfl, sz_neg hm, s4⟩
          · exact ⟨_, rfl, hm, s4⟩
        · exact ⟨_, rfl, sz_small v0 v1, Same.refl _⟩
      rintro σ H4 ⟨v, rfl, hv, s4⟩
      have hp4 := s4 _ _ (s3 _ _ hpn)
      walk_at "go"
      refine ⟨.inl ⟨rfl, _, SqL.of hp4⟩, ?_⟩
      walk_at "go"
      refine ⟨pn, _, _, rfl, rfl, hp4, (by rw [List.length_map]; exact sz100 (by omega)), ?_⟩
      refine ⟨ms ++ [v], _, _, rfl, by rw [upd_same, List.map_append]; rfl, by rw [List.length_append, hml]; rfl, fun n hn => ?_, same_mut (s23.trans s4) npn⟩
      rcases List.mem_append.mp hn with e | e
      · exact hmz n e
      · rw [List.mem_singleton.mp e]
        exact hv
    rintro σ H2 ⟨ms, vk, vn, rfl, hpn, hml, hmz, s2⟩
    have hml : ms.length = 4 := hml
    have hpd2 := s2 _ _ hpd
    -- if kind == 2
    refine ⟨fun σ H3 => ∃ (ms : List Int) (vk vn : Option V), σ = [some (.ref a), some (.ref pd), some (.int kd), some (.int lm), some (.ref pn), vk, vn, none] ∧ H3 pn = some (.lst (ms.map V.int)) ∧ ms.length = 4 ∧ (∀ n ∈ ms, Sz n) ∧ Same H' H3, ?_, ?_⟩
    · walk_at "go"
      refine ite2 (fun e => ?_) (fun e => ?_)
      · walk_at "go"
        refine ⟨pd, _, _, _, rfl, rfl, SqL.of hpd2, hd6, ?_⟩
        walk_at "go"
        have f0 := fmod_lo d6 (j := 2) (by decide)
        have f1 := fmod_hi d6 (j := 2) (by decide)
        have hj : ixN (ms.map V.int).length (Int.fmod d6 2 * 2) = some (Int.fmod d6 2 * 2).toNat := by
          unfold ixN
          rw [if_pos (by omega), if_pos (by rw [List.length_map]; omega)]
        refine ⟨pn, _, _, _, rfl, rfl, hpn, hj, ?_⟩
        refine ⟨ms.set (Int.fmod d6 2 * 2).toNat 0, _, _, rfl, by rw [upd_same, ← set_map], by rw [List.length_set, hml], fun n hn => ?_, same_mut s2 npn⟩
        rcases List.mem_or_eq_of_mem_set hn with e | e
        · exact hmz n e
        · rw [e]
          exact sz_small (by decide) (by decide)
      · exact ⟨ms, _, _, rfl, hpn, hml, hmz, s2⟩
    clear hpn hml hmz s2 hpd2
    rintro σ H2 ⟨ms, vk, vn, rfl, hpn, hml, hmz, s2⟩
    have hpd2 := s2 _ _ hpd
    walk_at "go"
    refine ⟨1, 4, 2, 2, rfl, (by refine ⟨by decide, by decide, by decide +kernel, by decide +kernel⟩), for_rangeC (lo := 1) (c := 2) (n := 2) (fun i σ H3 => ∃ (ms : List Int) (vk : Option V), σ = [some (.ref a), some (.ref pd), some (.int kd), some (.int lm), some (.ref pn), vk, vn, none] ∧
        H3 pn = some (.lst (ms.map V.int)) ∧ ms.length = 4 ∧ (∀ n ∈ ms, Sz n) ∧ (1 ≤ i → ∀ n, ms[1]? = some n → n ≠ 0) ∧ (2 ≤ i → ∀ n, ms[3]? = some n → n ≠ 0) ∧ Same H' H3)
      ⟨ms, _, rfl, hpn, hml, hmz, (fun h => by omega), (fun h => by omega), s2⟩ ?_ ?_⟩
    · clear hpn hml hmz s2 hpd2
      rintro i σ H3 hi ⟨ms, vk, rfl, hpn, hml, hmz, z1, z3, s2⟩
      obtain ⟨z, _, ez, hz⟩ := at_ints (ns := ms) (k := 1 + (i : Int) * 2) (by omega) (by omega)
      walk_at "go"
      refine ⟨pn, _, _, _, rfl, rfl, SqL.of hpn, hz, ?_⟩
      walk_at "go"
      refine ite2 (fun e => ?_) (fun e => ?_)
      · walk_at "go"
        have hj : ixN (ms.map V.int).length (1 + (i : Int) * 2) = some (1 + (i : Int) * 2).toNat := by
          unfold ixN
          rw [if_pos (by omega), if_pos (by rw [List.length_map]; omega)]
        refine ⟨pn, _, _, _, rfl, rfl, hpn, hj, ?_⟩
        have ej : (1 + (i : Int) * 2).toNat = 1 + i * 2 := by omega
        refine ⟨ms.set (1 + i * 2) 1, _, rfl, by rw [upd_same, ej, ← set_map], by rw [List.length_set, hml], fun n hn => ?_, fun h n hn => ?_, fun h n hn => ?_, same_mut s2 npn⟩
        · rcases List.mem_or_eq_of_mem_set hn with e | e
          · exact hmz n e
          · rw [e]
            exact sz_small (by decide) (by decide)
        · rw [List.getElem?_set] at hn
          split at hn
          · split at hn
            · cases hn
              decide
            · cases hn
          · exact z1 (by omega) n hn
        · rw [List.getElem?_set] at hn
          split at hn
          · split at hn
            · cases hn
              decide
            · cases hn
          · exact z3 (by omega) n hn
      · have z0 : z ≠ 0 := fun h => e (decide_eq_true (by rw [h]))
        have ej : (1 + (i : Int) * 2).toNat = 1 + i * 2 := by omega
        rw [ej] at ez
        refine ⟨ms, _, rfl, hpn, hml, hmz, fun h n hn => ?_, fun h n hn => ?_, s2⟩
        · rcases Nat.eq_zero_or_pos i with e0 | e0
          · subst e0
            rw [show 1 + 0 * 2 = 1 from rfl, hn] at ez
            cases ez
            exact z0
          · exact z1 e0 n hn
        · have e1 : i = 1 := by omega
          subst e1
          rw [show 1 + 1 * 2 = 3 from rfl, hn] at ez
          cases ez
          exact z0
    clear hpn hml hmz s2 hpd2 ms vk
    rintro σ H2 ⟨ms, vk, rfl, hpn, hml, hmz, z1, z3, s2⟩
    have hpd2 := s2 _ _ hpd
    have z1 := z1 (by decide)
    have z3 := z3 (by decide)
    have four : ms.length = 4 → ∃ m0 m1 m2 m3, ms = [m0, m1, m2, m3] := fun h => match ms, h with
      | [m0, m1, m2, m3], _ => ⟨m0, m1, m2, m3, rfl⟩
    obtain ⟨m0, m1, m2, m3, rfl⟩ := four hml
    have w0 := hmz m0 (by simp)
    have w1 := hmz m1 (by simp)
    have w2 := hmz m2 (by simp)
    have w3 := hmz m3 (by simp)
    have m1n := z1 m1 rfl
    have m3n := z3 m3 rfl
    -- if kind == 1
    refine ⟨fun σ H3 => ∃ (m2 m3 : Int) (vf : Option V), σ = [some (.ref a), some (.ref pd), some (.int kd), some (.int lm), some (.ref pn), vk, vn, vf] ∧ H3 pn = some (.lst [.int m0, .int m1, .int m2, .int m3]) ∧ m3 ≠ 0 ∧ Sy m2 ∧ Sy m3 ∧ Same H' H3, ?_, ?_⟩
    · walk_at "go"
      refine ite2 (fun e => ?_) (fun e => ?_)
      · walk_at "go"
        refine ⟨pd, _, _, _, rfl, rfl, SqL.of hpd2, hd6, ?_⟩
        have f0 := fmod_lo d6 (j := 61) (by decide)
        have f1 := fmod_hi d6 (j := 61) (by decide)
        walk_at "go"
        have rest : ∀ fc : Int, fc ≠ 0 → -30 ≤ fc → fc ≤ 31 → Sy (m0 * fc) ∧ Sy (m1 * fc) ∧ m1 * fc ≠ 0 ∧ IntMulOk m0 fc ∧ IntMulOk m1 fc := fun fc h0 h1 h2 => by
          have b : fc.natAbs < 2 ^ 5 := by omega
          refine ⟨abs_up (wide_lt w0 b) (by decide), abs_up (wide_lt w1 b) (by decide), fun h => ?_, mulR (by omega) (by omega), mulR (by omega) (by omega)⟩
          rcases Int.mul_eq_zero.mp h with h | h
          · exact m1n h
          · exact h0 h
        refine ⟨fun σ H3 => ∃ (fc : Int), σ = [some (.ref a), some (.ref pd), some (.int kd), some (.int lm), some (.ref pn), vk, vn, some (.int fc)] ∧ H3 = H2 ∧ fc ≠ 0 ∧ -30 ≤ fc ∧ fc ≤ 31, ?_, ?_⟩
        · walk_at "go"
          refine ite2 (fun e => ?_) (fun e => ?_)
          · exact ⟨31, rfl, rfl, by decide, by decide, by decide⟩
          · have e0 : Int.fmod d6 61 - 30 ≠ 0 := fun h => e (decide_eq_true (congrArg V.int h))
            exact ⟨_, rfl, rfl, e0, by omega, by omega⟩
        rintro σ H3 ⟨fc, rfl, rfl, c0, c1, c2⟩
        obtain ⟨r1, r2, r3, r4, r5⟩ := rest fc c0 c1 c2
        walk_at "go"
        refine ⟨pn, _, 0, _, rfl, rfl, SqL.of hpn, rfl, ?_⟩
        walk_at "go"
        refine ⟨pn, _, 2, 2, rfl, rfl, hpn, rfl, ?_⟩
        walk_at "go"
        refine ⟨pn, _, 1, _, rfl, rfl, SqL.of upd_same, rfl, ?_⟩
        walk_at "go"
        refine ⟨pn, _, 3, 3, rfl, rfl, upd_same, rfl, ?_⟩
        exact ⟨_, _, _, rfl, upd_same, r3, r1, r2, same_mut (same_mut s2 npn) npn⟩
      · exact ⟨m2, m3, _, rfl, hpn, m3n, sz_sy w2, sz_sy w3, s2⟩
    clear hpn s2 hpd2 w2 w3 m3n
    rintro σ H2 ⟨m2, m3, vf, rfl, hpn, m3n, y2, y3, s2⟩
    have fin : ∀ (k2 k3 : Int) (H3 : Hp), H3 pn = some (.lst [.int m0, .int m1, .int k2, .int k3]) → k3 ≠ 0 → Sy k2 → Sy k3 → Same H' H3 → Q (.ref pn) H3 := fun k2 k3 H3 e n3 s2 s3 s => by
      refine q pn [m0, m1, k2, k3] H3 nH e ⟨rfl, fun n hn => ?_, fun n hn => ?_, fun n hn => ?_⟩ (s1.trans s)
      · rcases List.mem_cons.mp hn with h | hn
        · rw [h]; exact sz_sy w0
        rcases List.mem_cons.mp hn with h | hn
        · rw [h]; exact sz_sy w1
        rcases List.mem_cons.mp hn with h | hn
        · rw [h]; exact s2
        rcases List.mem_cons.mp hn with h | hn
        · rw [h]; exact s3
        cases hn
      · cases hn
        exact m1n
      · cases hn
        exact n3
    have y01 : Sy (m0 + 1) := by
      have z : m0.natAbs < 2 ^ 3322 := w0
      have y : 2 ^ 3322 + 1 ≤ 2 ^ 3400 := by decide +kernel
      unfold Sy
      omega
    -- if kind == 3
    refine ⟨fun σ H3 => ∃ (k2 k3 : Int), σ = [some (.ref a), some (.ref pd), some (.int kd), some (.int lm), some (.ref pn), vk, vn, vf] ∧ H3 pn = some (.lst [.int m0, .int m1, .int k2, .int k3]) ∧ k3 ≠ 0 ∧ Sy k2 ∧ Sy k3 ∧ Same H' H3, ?_, ?_⟩
    · walk_at "go"
      refine ite2 (fun e => ?_) (fun e => ?_)
      · walk_at "go"
        refine ⟨pn, _, 0, _, rfl, rfl, SqL.of hpn, rfl, ?_⟩
        walk_at "go"
        refine ⟨pn, _, 2, 2, rfl, rfl, hpn, rfl, ?_⟩
        walk_at "go"
        refine ⟨pn, _, 1, _, rfl, rfl, SqL.of upd_same, rfl, ?_⟩
        walk_at "go"
        refine ⟨pn, _, 3, 3, rfl, rfl, upd_same, rfl, ?_⟩
        exact ⟨_, _, rfl, upd_same, m1n, y01, sz_sy w1, same_mut (same_mut s2 npn) npn⟩
      · exact ⟨m2, m3, rfl, hpn, m3n, y2, y3, s2⟩
    rintro σ H3 ⟨k2, k3, rfl, e, n3, y2, y3, s⟩
    walk_at "go"
    exact fin k2 k3 _ e n3 y2 y3 s

end
end K00

namespace K00
open PySem PySem.Spec PyProof.Rows L2 LR
/-! readings -/
local macro_rules | `(tactic| walk_at "side") => `(tactic| first | decide | exact Sm.mul (by assumption) (by assumption) | exact mulR (by omega) (by omega) | exact mulL (by omega) (by omega) | exact mulF (by decide) (by decide) | exact ⟨by decide, by decide⟩ | exact ⟨by decide, by decide +kernel⟩ | assumption | omega | fail "side")
local macro_rules | `(tactic| walk_at "go") => `(tactic| repeat' (first | refine ⟨_, rfl, ?_⟩ | refine ⟨_, _, rfl, rfl, pside (by walk_at "side"), ?_⟩ | refine ⟨_, _, rfl, rfl, ?_⟩ | refine ⟨rfl, ?_⟩ | refine .inl ⟨_, rfl, ?_⟩ | refine ⟨_, _, _, _, _, rfl, (by assumption), (by assumption), (by assumption), rF_top _ _, ?_⟩ | refine ⟨_, _, _, _, _, rfl, (by assumption), (by assumption), (by assumption), rF_bottom _ _, ?_⟩ | fail "stop"))
section
variable {P : Program} {w : World} {K : PySem.W.Frag} {mg : Str → Option Value} {base : Heap}


theorem Two.same {H H' : Hp} {p q : Addr} {t b u c : Int} (h : Two K H p q t b u c) (s : Same H H') : Two K H' p q t b u c := ⟨h.l.same s, h.r.same s, h.nl, h.nr, h.st, h.sb, h.su, h.sc⟩
theorem Two.flip {H : Hp} {p q : Addr} {t b u c : Int} (h : Two K H p q t b u c) : Two K H q p u c t b := ⟨h.r, h.l, h.nr, h.nl, h.su, h.sc, h.st, h.sb⟩
/-- the pairs that the law holds beside two ratios -/
structure Prs2 (H : Hp) (p q : Addr) (t b u c : Int) : Prop where
  l : H p = some (.tup [.int t, .int b])
  r : H q = some (.tup [.int u, .int c])
theorem Prs2.same {H H' : Hp} {p q : Addr} {t b u c : Int} (h : Prs2 H p q t b u c) (s : Same H H') : Prs2 H' p q t b u c := ⟨s _ _ h.l, s _ _ h.r⟩
theorem Prs2.flip {H : Hp} {p q : Addr} {t b u c : Int} (h : Prs2 H p q t b u c) : Prs2 H q p u c t b := ⟨h.r, h.l⟩
structure Nums (t b u c : Int) : Prop where
  nl : Nrm t b
  nr : Nrm u c
  st : Sm t
  sb : Sm b
  su : Sm u
  sc : Sm c
def DuesAt (H : Hp) (l : Addr) (t b u c : Int) : Prop := ∃ d0 d1 d2 d3 : Addr, H l = some (.lst [.ref d0, .ref d1, .ref d2, .ref d3]) ∧ H d0 = some (.tup [.int (nT (t * c + u * b) (b * c)), .int (nB (t * c + u * b) (b * c))]) ∧
  H d1 = some (.tup [.int (nT (t * c - u * b) (b * c)), .int (nB (t * c - u * b) (b * c))]) ∧ H d2 = some (.tup [.int (-nT (t * c - u * b) (b * c)), .int (nB (t * c - u * b) (b * c))]) ∧ H d3 = some (.tup [.int (nT (t * u) (b * c)), .int (nB (t * u) (b * c))])
theorem DuesAt.same {H H' : Hp} {l : Addr} {t b u c : Int} (h : DuesAt H l t b u c) (s : Same H H') : DuesAt H' l t b u c := let ⟨d0, d1, d2, d3, e, e0, e1, e2, e3⟩ := h; ⟨d0, d1, d2, d3, s _ _ e, s _ _ e0, s _ _ e1, s _ _ e2, s _ _ e3⟩
def spDues : Sp := fun vs H Q _ => ∃ (p q : Addr) (t b u c : Int), vs = [.ref p, .ref q] ∧ Prs2 H p q t b u c ∧ Nums t b u c ∧ ∀ (l : Addr) (H' : Hp), Same H H' → H l = none → DuesAt H' l t b u c → Q (.ref l) H'
def spRes (K : PySem.W.Frag) : Sp := fun vs H Q _ => ∃ (x y p l : Addr) (t b u c : Int), vs = [.ref x, .ref y, .ref p, .ref l] ∧ Two K H x y t b u c ∧ H p = some (.tup [.int t, .int b]) ∧ DuesAt H l t b u c ∧ ∀ H', Same H H' → Q (.bl true) H'
def spPair (K : PySem.W.Frag) : Sp := fun vs H Q _ => ∃ (x y p q : Addr) (t b u c : Int), vs = [.ref x, .ref y, .ref p, .ref q] ∧ Two K H x y t b u c ∧ Prs2 H p q t b u c ∧ ∀ H', Same H H' → Q (.bl true) H'
def spZB : Sp := fun vs H Q _ => ∃ t : Int, vs = [.int t] ∧ ∀ H', Same H H' → Q (.bl true) H'

theorem ok_law_dues (T : Txt LL K mg) : Ok P w K mg base (d_law_dues.at_ K) 5 ["p", "q"] spDues := by
  obtain ⟨_, G_law_ratio, b_law_ratio⟩ := ok_law_ratio (P := P) (w := w) (base := base) T
  refine Ok.of (T.d 24 (d := d_law_dues)) sc_law_dues (fun _ _ _ _ _ _ us hl => match us, hl with | [_, _], _ => rfl) (fun vs H Q E h => ?_) (fun fd cdv A outer s H vs Q E hr h => ?_)
  · obtain ⟨p, q, t, b, u, c, rfl, _⟩ := h
    rfl
  · obtain ⟨p, q, t, b, u, c, rfl, ⟨hp, hq⟩, ⟨nl, nr, st, sb, su, sc⟩, k⟩ := h
    refine ⟨_, pss_cons (ps_set (i := 2) sc_law_dues.nd rfl (by first | exact Or.inl rfl | exact Or.inr rfl) (pe_op op_mulZ (pe_ix ix_tup (pv 0) pe_int (fun _ _ => rfl)) (pe_ix ix_tup (pv 1) pe_int (fun _ _ => rfl)))) (pss_cons (ps_set (i := 3) sc_law_dues.nd rfl (by first | exact Or.inl rfl | exact Or.inr rfl) (pe_call G_law_ratio (hr.mono (by decide)) (by rfl) (T.g "_law_ratio") (T.k "_law_ratio") b_law_ratio .nil passL (pa_cons (pe_op op_add (pe_op op_mulZ (pe_ix ix_tup (pv 0) pe_int (fun _ _ => rfl)) (pe_ix ix_tup (pv 1) pe_int (fun _ _ => rfl))) (pe_op op_mulZ (pe_ix ix_tup (pv 1) pe_int (fun _ _ => rfl)) (pe_ix ix_tup (pv 0) pe_int (fun _ _ => rfl)))) (pa_cons (pv 2) pa_nil)))) (pss_cons (ps_set (i := 4) sc_law_dues.nd rfl (by first | exact Or.inl rfl | exact Or.inr rfl) (pe_call G_law_ratio (hr.mono (by decide)) (by rfl) (T.g "_law_ratio") (T.k "_law_ratio") b_law_ratio .nil passL (pa_cons (pe_op op_sub (pe_op op_mulZ (pe_ix ix_tup (pv 0) pe_int (fun _ _ => rfl)) (pe_ix ix_tup (pv 1) pe_int (fun _ _ => rfl))) (pe_op op_mulZ (pe_ix ix_tup (pv 1) pe_int (fun _ _ => rfl)) (pe_ix ix_tup (pv 0) pe_int (fun _ _ => rfl)))) (pa_cons (pv 2) pa_nil)))) (pss_one (ps_ret (pe_lst (pa_cons (pv 3) (pa_cons (pv 4) (pa_cons (pe_tup (pa_cons (pe_un un_neg (pe_ix ix_tup (pv 4) pe_int (fun _ _ => rfl))) (pa_cons (pe_ix ix_tup (pv 4) pe_int (fun _ _ => rfl)) pa_nil))) (pa_cons (pe_call G_law_ratio (hr.mono (by decide)) (by rfl) (T.g "_law_ratio") (T.k "_law_ratio") b_law_ratio .nil passL (pa_cons (pe_op op_mulZ (pe_ix ix_tup (pv 0) pe_int (fun _ _ => rfl)) (pe_ix ix_tup (pv 1) pe_int (fun _ _ => rfl))) (pa_cons (pv 2) pa_nil))) pa_nil))))))))), ?_⟩
    walk_at "go"
    refine ⟨p, _, 1, _, rfl, rfl, SqT.of hp, rfl, ?_⟩
    walk_at "go"
    refine ⟨q, _, 1, _, rfl, rfl, SqT.of hq, rfl, ?_⟩
    walk_at "go"
    refine ⟨p, _, 0, _, rfl, rfl, SqT.of hp, rfl, ?_⟩
    walk_at "go"
    refine ⟨q, _, 1, _, rfl, rfl, SqT.of hq, rfl, ?_⟩
    walk_at "go"
    refine ⟨q, _, 0, _, rfl, rfl, SqT.of hq, rfl, ?_⟩
    walk_at "go"
    refine ⟨p, _, 1, _, rfl, rfl, SqT.of hp, rfl, ?_⟩
    walk_at "go"
    refine ⟨_, _, rfl, mul_ne nl.pos nr.pos, sb.big2 sc, fun d0 H1 s1 n1 e0 => ?_⟩
    have hp1 := s1 _ _ hp
    have hq1 := s1 _ _ hq
    walk_at "go"
    refine ⟨p, _, 0, _, rfl, rfl, SqT.of hp1, rfl, ?_⟩
    walk_at "go"
    refine ⟨q, _, 1, _, rfl, rfl, SqT.of hq1, rfl, ?_⟩
    walk_at "go"
    refine ⟨q, _, 0, _, rfl, rfl, SqT.of hq1, rfl, ?_⟩
    walk_at "go"
    refine ⟨p, _, 1, _, rfl, rfl, SqT.of hp1, rfl, ?_⟩
    walk_at "go"
    refine ⟨_, _, rfl, mul_ne nl.pos nr.pos, sb.big2 sc, fun d1 H2 s2 n2 e1 => ?_⟩
    walk_at "go"
    refine ⟨d1, _, 0, _, rfl, rfl, SqT.of e1, rfl, ?_⟩
    walk_at "go"
    refine ⟨d1, _, 1, _, rfl, rfl, SqT.of e1, rfl, ?_⟩
    walk_at "go"
    refine ⟨(by show 2 ≤ sizeLine; decide), fun d2 n3 => ?_⟩
    have s3 := same_new (o := .tup [.int (-nT (t * c - u * b) (b * c)), .int (nB (t * c - u * b) (b * c))]) n3
    have s13 := s2.trans s3
    have hp3 := s13 _ _ hp1
    have hq3 := s13 _ _ hq1
    walk_at "go"
    refine ⟨p, _, 0, _, rfl, rfl, SqT.of hp3, rfl, ?_⟩
    walk_at "go"
    refine ⟨q, _, 0, _, rfl, rfl, SqT.of hq3, rfl, ?_⟩
    walk_at "go"
    refine ⟨_, _, rfl, mul_ne nl.pos nr.pos, sb.big2 sc, fun d3 H4 s4 n4 e3 => ?_⟩
    refine ⟨(by show 4 ≤ sizeLine; decide), fun l nl' => ?_⟩
    have s5 := same_new (o := .lst [.ref d0, .ref d1, .ref d2, .ref d3]) nl'
    have sA := (s13.trans s4).trans s5
    exact k l _ (s1.trans sA) (s1.free ((s13.trans s4).free nl')) ⟨d0, d1, d2, d3, upd_same, sA _ _ e0, (s3.trans (s4.trans s5)) _ _ e1, (s4.trans s5) _ _ upd_same, s5 _ _ e3⟩

theorem ok_law_results (T : Txt LL K mg) : Ok P w K mg base (d_law_results.at_ K) 10 ["a", "b", "p", "dues"] (spRes K) := by
  obtain ⟨_, G_law_is, b_law_is⟩ := ok_law_is (P := P) (w := w) (base := base) T
  obtain ⟨_, G_Ratio_add, b_Ratio_add⟩ := ok_Ratio_add (P := P) (w := w) (base := base) T
  obtain ⟨_, G_Ratio_sub, b_Ratio_sub⟩ := ok_Ratio_sub (P := P) (w := w) (base := base) T
  obtain ⟨_, G_Ratio_mul, b_Ratio_mul⟩ := ok_Ratio_mul (P := P) (w := w) (base := base) T
  obtain ⟨_, G_Ratio_neg, b_Ratio_neg⟩ := ok_Ratio_neg (P := P) (w := w) (base := base) T
  obtain ⟨_, G_Ratio_abs, b_Ratio_abs⟩ := ok_Ratio_abs (P := P) (w := w) (base := base) T
  refine Ok.of (T.d 25 (d := d_law_results)) sc_law_results (fun _ _ _ _ _ _ us hl => match us, hl with | [_, _, _, _], _ => rfl) (fun vs H Q E h => ?_) (fun fd cdv A outer s H vs Q E hr h => ?_)
  · obtain ⟨x, y, p, l, t, b, u, c, rfl, _⟩ := h
    rfl
  · obtain ⟨x, y, p, l, t, b, u, c, rfl, two, hp, hd, k⟩ := h
    refine ⟨_, pss_cons (ps_if (PW.pt (pw_or (pt_not (pt_val (pe_call G_law_is (hr.mono (by decide)) (by rfl) (T.g "_law_is") (T.k "_law_is") b_law_is .nil passL (pa_cons (pe_op (op_binO (op := .Add) (T.first "Ratio") (T.own "Ratio" "__add__") (T.fnn "Ratio" "__add__") G_Ratio_add (hr.mono (by decide)) b_Ratio_add passL) (pv 0) (pv 1)) (pa_cons (pe_ix ix_list (pv 3) pe_int (fun _ _ => rfl)) pa_nil))))) (pw_or1 (pt_not (pt_val (pe_call G_law_is (hr.mono (by decide)) (by rfl) (T.g "_law_is") (T.k "_law_is") b_law_is .nil passL (pa_cons (pe_op (op_binO (op := .Add) (T.first "Ratio") (T.own "Ratio" "__add__") (T.fnn "Ratio" "__add__") G_Ratio_add (hr.mono (by decide)) b_Ratio_add passL) (pv 1) (pv 0)) (pa_cons (pe_ix ix_list (pv 3) pe_int (fun _ _ => rfl)) pa_nil)))))))) (pss_one (ps_ret pe_bl)) pss_nil) (pss_cons (ps_if (PW.pt (pw_or (pt_not (pt_val (pe_call G_law_is (hr.mono (by decide)) (by rfl) (T.g "_law_is") (T.k "_law_is") b_law_is .nil passL (pa_cons (pe_op (op_binO (op := .Sub) (T.first "Ratio") (T.own "Ratio" "__sub__") (T.fnn "Ratio" "__sub__") G_Ratio_sub (hr.mono (by decide)) b_Ratio_sub passL) (pv 0) (pv 1)) (pa_cons (pe_ix ix_list (pv 3) pe_int (fun _ _ => rfl)) pa_nil))))) (pw_or1 (pt_not (pt_val (pe_call G_law_is (hr.mono (by decide)) (by rfl) (T.g "_law_is") (T.k "_law_is") b_law_is .nil passL (pa_cons (pe_op (op_binO (op := .Sub) (T.first "Ratio") (T.own "Ratio" "__sub__") (T.fnn "Ratio" "__sub__") G_Ratio_sub (hr.mono (by decide)) b_Ratio_sub passL) (pv 1) (pv 0)) (pa_cons (pe_ix ix_list (pv 3) pe_int (fun _ _ => rfl)) pa_nil)))))))) (pss_one (ps_ret pe_bl)) pss_nil) (pss_cons (ps_if (PW.pt (pw_or (pt_not (pt_val (pe_call G_law_is (hr.mono (by decide)) (by rfl) (T.g "_law_is") (T.k "_law_is") b_law_is .nil passL (pa_cons (pe_op (op_binO (op := .Mult) (T.first "Ratio") (T.own "Ratio" "__mul__") (T.fnn "Ratio" "__mul__") G_Ratio_mul (hr.mono (by decide)) b_Ratio_mul passL) (pv 0) (pv 1)) (pa_cons (pe_ix ix_list (pv 3) pe_int (fun _ _ => rfl)) pa_nil))))) (pw_or1 (pt_not (pt_val (pe_call G_law_is (hr.mono (by decide)) (by rfl) (T.g "_law_is") (T.k "_law_is") b_law_is .nil passL (pa_cons (pe_op (op_binO (op := .Mult) (T.first "Ratio") (T.own "Ratio" "__mul__") (T.fnn "Ratio" "__mul__") G_Ratio_mul (hr.mono (by decide)) b_Ratio_mul passL) (pv 1) (pv 0)) (pa_cons (pe_ix ix_list (pv 3) pe_int (fun _ _ => rfl)) pa_nil)))))))) (pss_one (ps_ret pe_bl)) pss_nil) (pss_one (ps_ret (pe_and (pe_call G_law_is (hr.mono (by decide)) (by rfl) (T.g "_law_is") (T.k "_law_is") b_law_is .nil passL (pa_cons (pe_un (un_negO (T.own "Ratio" "__neg__") (T.fnn "Ratio" "__neg__") G_Ratio_neg (hr.mono (by decide)) b_Ratio_neg passL) (pv 0)) (pa_cons (pe_tup (pa_cons (pe_un un_neg (pe_ix ix_tup (pv 2) pe_int (fun _ _ => rfl))) (pa_cons (pe_ix ix_tup (pv 2) pe_int (fun _ _ => rfl)) pa_nil))) pa_nil))) (pe_one (pe_call G_law_is (hr.mono (by decide)) (by rfl) (T.g "_law_is") (T.k "_law_is") b_law_is .nil passL (pa_cons (pe_callB (call_absO (T.own "Ratio" "__abs__") (T.fnn "Ratio" "__abs__") G_Ratio_abs (hr.mono (by decide)) b_Ratio_abs passL) (by rfl) (T.f "abs") (by decide +kernel) (pa_cons (pv 0) pa_nil)) (pa_cons (pe_tup (pa_cons (pe_callB call_abs (by rfl) (T.f "abs") (by decide +kernel) (pa_cons (pe_ix ix_tup (pv 2) pe_int (fun _ _ => rfl)) pa_nil)) (pa_cons (pe_ix ix_tup (pv 2) pe_int (fun _ _ => rfl)) pa_nil))) pa_nil))))))))), ?_⟩
    have c1 : u * b + t * c = t * c + u * b := Int.add_comm _ _
    have c2 : t * c + -u * b = t * c - u * b := by rw [Int.neg_mul, Int.sub_eq_add_neg]
    have c3 : u * b + -t * c = -(t * c - u * b) := by rw [Int.neg_mul]; omega
    obtain ⟨d0, d1, d2, d3, el, e0', e1', e2', e3'⟩ := hd
    obtain ⟨⟨dx, hx⟩, ⟨dy, hy⟩, nl, nr, st, sb, su, sc⟩ := id two
    have S0 : Same H H := Same.refl H
    walk_at "go"
    refine ⟨x, _, _, y, _, _, rfl, rfl, (S0 _ _ hx), (S0 _ _ hy), x, y, t, b, u, c, rfl, (two.same S0), fun r1 H1 s1 n1 e1 => ?_⟩
    have S1 := S0.trans s1
    walk_at "go"
    refine ⟨l, _, 0, _, rfl, rfl, SqL.of (S1 _ _ el), rfl, ?_⟩
    refine ⟨r1, d0, _, _, rfl, e1, S1 _ _ e0', ?_⟩
    walk_at "go"
    refine ⟨y, _, _, x, _, _, rfl, rfl, (S1 _ _ hy), (S1 _ _ hx), y, x, u, c, t, b, rfl, (two.same S1).flip, fun r2 H2 s2 n2 e2 => ?_⟩
    have S2 := S1.trans s2
    dsimp only at e2
    rw [c1, Int.mul_comm c b] at e2
    walk_at "go"
    refine ⟨l, _, 0, _, rfl, rfl, SqL.of (S2 _ _ el), rfl, ?_⟩
    refine ⟨r2, d0, _, _, rfl, e2, S2 _ _ e0', ?_⟩
    walk_at "go"
    refine ⟨x, _, _, y, _, _, rfl, rfl, (S2 _ _ hx), (S2 _ _ hy), x, y, t, b, u, c, rfl, (two.same S2), fun r3 H3 s3 n3 e3 => ?_⟩
    have S3 := S2.trans s3
    dsimp only at e3
    rw [c2] at e3
    walk_at "go"
    refine ⟨l, _, 1, _, rfl, rfl, SqL.of (S3 _ _ el), rfl, ?_⟩
    refine ⟨r3, d1, _, _, rfl, e3, S3 _ _ e1', ?_⟩
    walk_at "go"
    refine ⟨y, _, _, x, _, _, rfl, rfl, (S3 _ _ hy), (S3 _ _ hx), y, x, u, c, t, b, rfl, (two.same S3).flip, fun r4 H4 s4 n4 e4 => ?_⟩
    have S4 := S3.trans s4
    dsimp only at e4
    rw [c3, Int.mul_comm c b, nT_neg, nB_neg] at e4
    walk_at "go"
    refine ⟨l, _, 2, _, rfl, rfl, SqL.of (S4 _ _ el), rfl, ?_⟩
    refine ⟨r4, d2, _, _, rfl, e4, S4 _ _ e2', ?_⟩
    walk_at "go"
    refine ⟨x, _, _, y, _, _, rfl, rfl, (S4 _ _ hx), (S4 _ _ hy), x, y, t, b, u, c, rfl, (two.same S4), fun r5 H5 s5 n5 e5 => ?_⟩
    have S5 := S4.trans s5
    walk_at "go"
    refine ⟨l, _, 3, _, rfl, rfl, SqL.of (S5 _ _ el), rfl, ?_⟩
    refine ⟨r5, d3, _, _, rfl, e5, S5 _ _ e3', ?_⟩
    walk_at "go"
    refine ⟨y, _, _, x, _, _, rfl, rfl, (S5 _ _ hy), (S5 _ _ hx), y, x, u, c, t, b, rfl, (two.same S5).flip, fun r6 H6 s6 n6 e6 => ?_⟩
    have S6 := S5.trans s6
    dsimp only at e6
    rw [Int.mul_comm u t, Int.mul_comm c b] at e6
    walk_at "go"
    refine ⟨l, _, 3, _, rfl, rfl, SqL.of (S6 _ _ el), rfl, ?_⟩
    refine ⟨r6, d3, _, _, rfl, e6, S6 _ _ e3', ?_⟩
    walk_at "go"
    refine ⟨x, dx, _, rfl, S6 _ _ hx, x, t, b, rfl, ⟨dx, S6 _ _ hx⟩, nl, st, sb, fun r7 H7 s7 n7 e7 => ?_⟩
    have S7 := S6.trans s7
    walk_at "go"
    refine ⟨p, _, 0, _, rfl, rfl, SqT.of (S7 _ _ hp), rfl, ?_⟩
    walk_at "go"
    refine ⟨p, _, 1, _, rfl, rfl, SqT.of (S7 _ _ hp), rfl, ?_⟩
    walk_at "go"
    refine ⟨(by show 2 ≤ sizeLine; decide), fun d7 m7 => ?_⟩
    have z7 := same_new (o := .tup [.int (-t), .int b]) m7
    have S8 := S7.trans z7
    refine ⟨r7, d7, _, _, rfl, e7.same z7, upd_same, ?_⟩
    walk_at "go"
    refine ⟨x, dx, _, rfl, S8 _ _ hx, x, t, b, rfl, ⟨dx, S8 _ _ hx⟩, nl, st, sb, fun r9 H9 s9 n9 e9 => ?_⟩
    have S9 := S8.trans s9
    walk_at "go"
    refine ⟨p, _, 0, _, rfl, rfl, SqT.of (S9 _ _ hp), rfl, ?_⟩
    walk_at "go"
    refine ⟨p, _, 1, _, rfl, rfl, SqT.of (S9 _ _ hp), rfl, ?_⟩
    walk_at "go"
    refine ⟨(by show 2 ≤ sizeLine; decide), fun d9 m9 => ?_⟩
    have z9 := same_new (o := .tup [.int (if t < 0 then -t else t), .int b]) m9
    refine ⟨r9, d9, _, _, rfl, e9.same z9, upd_same, ?_⟩
    exact k _ (S9.trans z9)

end
end K00

namespace K00
open PySem PySem.Spec PyProof.Rows L2 LR
/-! readings -/
local macro_rules | `(tactic| walk_at "side") => `(tactic| first | decide | exact Sm.mul (by assumption) (by assumption) | exact mulR (by omega) (by omega) | exact mulL (by omega) (by omega) | exact mulF (by decide) (by decide) | exact ⟨by decide, by decide⟩ | exact ⟨by decide, by decide +kernel⟩ | assumption | omega | fail "side")
local macro_rules | `(tactic| walk_at "go") => `(tactic| repeat' (first | refine ⟨_, rfl, ?_⟩ | refine ⟨_, _, rfl, rfl, pside (by walk_at "side"), ?_⟩ | refine ⟨_, _, rfl, rfl, ?_⟩ | refine ⟨rfl, ?_⟩ | refine .inl ⟨_, rfl, ?_⟩ | refine ⟨_, _, _, _, _, rfl, (by assumption), (by assumption), (by assumption), rF_top _ _, ?_⟩ | refine ⟨_, _, _, _, _, rfl, (by assumption), (by assumption), (by assumption), rF_bottom _ _, ?_⟩ | fail "stop"))
section
variable {P : Program} {w : World} {K : PySem.W.Frag} {mg : Str → Option Value} {base : Heap}


theorem exo_out {K : PySem.W.Frag} {mg : Str → Option Value} (T : Txt LL K mg) : PySem.W.exmOne K (.ref (He.ga K "ZeroBottom")) (.ref (He.ga K "ZeroBottom")) = some true := T.exM "ZeroBottom"
theorem rat_bad {K : PySem.W.Frag} {H : Hp} {Q : VK} {E : XK} {t : Int} (h0 : ExOut K "ZeroBottom" "bottom" H E) (x dx : Addr) (nx : H x = none) (nd : H dx = none) :
    spRInit K [.ref x, .int t, .int 0] (upd (upd H dx (.own x)) x (.ins (He.ga K "Ratio") dx [])) Q E := by
  have s0 : Same H (upd (upd H dx (.own x)) x (.ins (He.ga K "Ratio") dx [])) := fun c o e => by
    rw [upd_ne (ne_of_none e nx), upd_ne (ne_of_none e nd)]
    exact e
  exact ⟨x, dx, t, 0, rfl, upd_same, by decide, fun _ d H' s n e => h0 d H' (s0.trans s) (s0.free n) e, fun hb => absurd rfl hb⟩
/-- what the law keeps of a refused ratio -/
def refV : List V := [.str "bottom", .bl true, .bl true, .bl false, .bl false]
def refD : List PyData := [.str "bottom", .bool true, .bool true, .bool false, .bool false]
theorem ref_dp {K : PySem.W.Frag} {H : Hp} : DpAll K H refV refD := .cons (.str _) (.cons (.bl _) (.cons (.bl _) (.cons (.bl _) (.cons (.bl _) .nil))))
theorem ref_dpl {K : PySem.W.Frag} {H : Hp} {a : Addr} (h : H a = some (.lst refV)) : Dp K H (.ref a) (.list refD) := .lst (SqL.of h) ref_dp
theorem nil_dpl {K : PySem.W.Frag} {H : Hp} {a : Addr} (h : H a = some (.lst [])) : Dp K H (.ref a) (.list []) := .lst (SqL.of h) .nil
theorem ref_eq : PyData.eqv (.list refD) (.list refD) = true := by decide +kernel
theorem ref_ne : PyData.eqv (.list []) (.list []) = true := by decide +kernel
theorem ref_sh : SeqAt.shaped (.list refD) = true := by decide +kernel
theorem nil_sh : SeqAt.shaped (.list []) = true := by decide +kernel

theorem ok_law_zero_bottom (T : Txt LL K mg) : Ok P w K mg base (d_law_zero_bottom.at_ K) 6 ["top"] spZB := by
  obtain ⟨_, G_Ratio, b_Ratio, _, d_Ratio_d, b_Ratio_d⟩ := ok_Ratio_init (P := P) (w := w) (base := base) T
  refine Ok.of (T.d 29 (d := d_law_zero_bottom)) sc_law_zero_bottom (fun _ _ _ _ _ _ us hl => match us, hl with | [_], _ => rfl) (fun vs H Q E h => ?_) (fun fd cdv A outer s H vs Q E hr h => ?_)
  · obtain ⟨t, rfl, _⟩ := h
    rfl
  · obtain ⟨t, rfl, k⟩ := h
    refine ⟨_, pss_cons (ps_set (i := 1) sc_law_zero_bottom.nd rfl (by first | exact Or.inl rfl | exact Or.inr rfl) (pe_lst pa_nil)) (pss_cons (ps_try_as (i := 2) (tb := fun W => tDrop (tMakeS (He.ga K "Ratio") (spRInit K) [] (WE W) (tCons (tVar 0) (tCons (tC (.int 0)) tNil)))) (ts := fun a cls d => tAsg (tLst (tCons (tXf a cls d (He.ga K "ZeroBottom") "word" (tVar 2)) (tCons (tCB (rIsD K (He.ga K "ZeroBottom") a cls d) (tCons (tVar 2) (tCons (tC (.ref (He.ga K "LastrowsError"))) tNil))) (tCons (tCB (rIsD K (He.ga K "ZeroBottom") a cls d) (tCons (tVar 2) (tCons (tC (.ty "ValueError")) tNil))) (tCons (tCB (rIsD K (He.ga K "ZeroBottom") a cls d) (tCons (tVar 2) (tCons (tC (.ref (He.ga K "Empty"))) tNil))) (tCons (tCB (rIsD K (He.ga K "ZeroBottom") a cls d) (tCons (tVar 2) (tCons (tC (.ref (He.ga K "BadText"))) tNil))) tNil)))))) (gName 1)) (Wout := fun _ _ _ _ => False) rfl rfl sc_law_zero_bottom.nd rfl rfl ⟨rfl, by decide, Or.inl (T.g "ZeroBottom")⟩ takes0 (fun W pn xe tk po => pss_one (ps_expr (pe_makeS (T.mkk "Ratio") G_Ratio (hr.mono (by decide)) (by rfl) (T.g "Ratio") b_Ratio .nil (fun σ => passAt tk σ) (pa_cons (pv 0) (pa_cons pe_int pa_nil))))) (fun a oe cls d pn hz hf => pss_one (ps_set (i := 1) sc_law_zero_bottom.nd rfl (by first | exact Or.inl rfl | exact Or.inr rfl) (pe_lst (pa_cons (pe_xf (T.exa "ZeroBottom").1 (T.no "ZeroBottom" "word") hz hf (pv 2)) (pa_cons (pe_callB (call_isD (T.exa "ZeroBottom").2.1 hz hf) (by rfl) (T.f "isinstance") (by decide +kernel) (pa_cons (pv 2) (pa_cons (pe_glob (v := .ref (He.ga K "LastrowsError")) rfl (T.g "LastrowsError") rfl) pa_nil))) (pa_cons (pe_callB (call_isD (T.exa "ZeroBottom").2.1 hz hf) (by rfl) (T.f "isinstance") (by decide +kernel) (pa_cons (pv 2) (pa_cons (pe_bltn (v := .ty "ValueError") (by rfl) (T.f "ValueError") (by decide +kernel) rfl) pa_nil))) (pa_cons (pe_callB (call_isD (T.exa "ZeroBottom").2.1 hz hf) (by rfl) (T.f "isinstance") (by decide +kernel) (pa_cons (pv 2) (pa_cons (pe_glob (v := .ref (He.ga K "Empty")) rfl (T.g "Empty") rfl) pa_nil))) (pa_cons (pe_callB (call_isD (T.exa "ZeroBottom").2.1 hz hf) (by rfl) (T.f "isinstance") (by decide +kernel) (pa_cons (pv 2) (pa_cons (pe_glob (v := .ref (He.ga K "BadText")) rfl (T.g "BadText") rfl) pa_nil))) pa_nil))))))))) (pss_one (ps_ret (pe_cmpR (op_eqD (hr.units)) (pv 1) (pe_lst (pa_cons pe_str (pa_cons pe_bl (pa_cons pe_bl (pa_cons pe_bl (pa_cons pe_bl pa_nil)))))) (nomark _))))), ?_⟩
    walk_at "go"
    refine ⟨Nat.zero_le _, fun pr npr => ?_⟩
    walk_at "go"
    intro x dx nx nd ne
    refine rat_bad (fun dd H' s n e1 => ?_) x dx nx nd
    refine ⟨true, T.exM "ZeroBottom", fun _ => ?_, fun q => Bool.noConfusion q⟩
    intro a0 na
    walk_at "go"
    refine ⟨dd, _, _, rfl, e1, lk_here, ?_⟩
    walk_at "go"
    refine ⟨_, _, true, dd, _, rfl, rfl, rfl, e1, .own _, T.kie "ZeroBottom" "LastrowsError" true, ?_⟩
    walk_at "go"
    refine ⟨_, _, true, dd, _, rfl, rfl, rfl, e1, .ty _, T.kiv "ZeroBottom" "ValueError" true, ?_⟩
    walk_at "go"
    refine ⟨_, _, false, dd, _, rfl, rfl, rfl, e1, .own _, T.kie "ZeroBottom" "Empty" false, ?_⟩
    walk_at "go"
    refine ⟨_, _, false, dd, _, rfl, rfl, rfl, e1, .own _, T.kie "ZeroBottom" "BadText" false, ?_⟩
    refine ⟨(by show 5 ≤ sizeLine; decide), fun pr2 npr2 => ?_⟩
    
    walk_at "go"
    refine ⟨(by show 5 ≤ sizeLine; decide), fun pr3 npr3 => ?_⟩
    have z1 := same_new (o := .lst []) npr
    have z2 := same_new (o := .lst refV) npr2
    have z3 := same_new (o := .lst refV) npr3
    refine ⟨.list refD, .list refD, ref_dpl (z3 _ _ upd_same), ref_dpl upd_same, ref_sh, ref_sh, ?_⟩
    rw [ref_eq]
    exact k _ (z1.trans (s.trans (z2.trans z3)))

theorem ok_law_quotient (T : Txt LL K mg) : Ok P w K mg base (d_law_quotient.at_ K) 8 ["a", "b", "p", "q"] (spPair K) := by
  obtain ⟨_, G_Ratio_over, b_Ratio_over⟩ := ok_Ratio_over (P := P) (w := w) (base := base) T
  obtain ⟨_, G_law_is, b_law_is⟩ := ok_law_is (P := P) (w := w) (base := base) T
  obtain ⟨_, G_law_ratio, b_law_ratio⟩ := ok_law_ratio (P := P) (w := w) (base := base) T
  refine Ok.of (T.d 28 (d := d_law_quotient)) sc_law_quotient (fun _ _ _ _ _ _ us hl => match us, hl with | [_, _, _, _], _ => rfl) (fun vs H Q E h => ?_) (fun fd cdv A outer s H vs Q E hr h => ?_)
  · obtain ⟨x, y, p, q, t, b, u, c, rfl, _⟩ := h
    rfl
  · obtain ⟨x, y, p, q, t, b, u, c, rfl, two, ⟨hp, hq⟩, k⟩ := h
    refine ⟨_, pss_cons (ps_set (i := 4) sc_law_quotient.nd rfl (by first | exact Or.inl rfl | exact Or.inr rfl) (pe_lst pa_nil)) (pss_cons (ps_set (i := 5) sc_law_quotient.nd rfl (by first | exact Or.inl rfl | exact Or.inr rfl) pe_non) (pss_cons (ps_try_as (i := 6) (tb := fun W => tAsg (tMethS (He.ga K "Ratio") "over" (spOver K) (WE W) (tVar 0) (tCons (tVar 1) tNil)) (gName 5)) (ts := fun a cls d => tAsg (tLst (tCons (tXf a cls d (He.ga K "ZeroBottom") "word" (tVar 6)) (tCons (tCB (rIsD K (He.ga K "ZeroBottom") a cls d) (tCons (tVar 6) (tCons (tC (.ref (He.ga K "LastrowsError"))) tNil))) (tCons (tCB (rIsD K (He.ga K "ZeroBottom") a cls d) (tCons (tVar 6) (tCons (tC (.ty "ValueError")) tNil))) (tCons (tCB (rIsD K (He.ga K "ZeroBottom") a cls d) (tCons (tVar 6) (tCons (tC (.ref (He.ga K "Empty"))) tNil))) (tCons (tCB (rIsD K (He.ga K "ZeroBottom") a cls d) (tCons (tVar 6) (tCons (tC (.ref (He.ga K "BadText"))) tNil))) tNil)))))) (gName 4)) (Wout := fun _ _ _ _ => False) rfl rfl sc_law_quotient.nd rfl rfl ⟨rfl, by decide, Or.inl (T.g "ZeroBottom")⟩ takes0 (fun W pn xe tk po => pss_one (ps_set (i := 5) sc_law_quotient.nd rfl (by first | exact Or.inl rfl | exact Or.inr rfl) (pe_methS (pv 0) (T.cl "Ratio") (T.me "Ratio" "over") G_Ratio_over (hr.mono (by decide)) b_Ratio_over (fun σ => passAt tk σ) (pa_cons (pv 1) pa_nil)))) (fun a oe cls d pn hz hf => pss_one (ps_set (i := 4) sc_law_quotient.nd rfl (by first | exact Or.inl rfl | exact Or.inr rfl) (pe_lst (pa_cons (pe_xf (T.exa "ZeroBottom").1 (T.no "ZeroBottom" "word") hz hf (pv 6)) (pa_cons (pe_callB (call_isD (T.exa "ZeroBottom").2.1 hz hf) (by rfl) (T.f "isinstance") (by decide +kernel) (pa_cons (pv 6) (pa_cons (pe_glob (v := .ref (He.ga K "LastrowsError")) rfl (T.g "LastrowsError") rfl) pa_nil))) (pa_cons (pe_callB (call_isD (T.exa "ZeroBottom").2.1 hz hf) (by rfl) (T.f "isinstance") (by decide +kernel) (pa_cons (pv 6) (pa_cons (pe_bltn (v := .ty "ValueError") (by rfl) (T.f "ValueError") (by decide +kernel) rfl) pa_nil))) (pa_cons (pe_callB (call_isD (T.exa "ZeroBottom").2.1 hz hf) (by rfl) (T.f "isinstance") (by decide +kernel) (pa_cons (pv 6) (pa_cons (pe_glob (v := .ref (He.ga K "Empty")) rfl (T.g "Empty") rfl) pa_nil))) (pa_cons (pe_callB (call_isD (T.exa "ZeroBottom").2.1 hz hf) (by rfl) (T.f "isinstance") (by decide +kernel) (pa_cons (pv 6) (pa_cons (pe_glob (v := .ref (He.ga K "BadText")) rfl (T.g "BadText") rfl) pa_nil))) pa_nil))))))))) (pss_cons (ps_if (pt_cmpR op_eq (pe_ix ix_tup (pv 3) pe_int (fun _ _ => rfl)) pe_int (nomark _)) (pss_one (ps_ret (pe_and (pe_cmpR op_isN (pv 5) pe_non (nomark _)) (pe_one (pe_cmpR (op_eqD (hr.units)) (pv 4) (pe_lst (pa_cons pe_str (pa_cons pe_bl (pa_cons pe_bl (pa_cons pe_bl (pa_cons pe_bl pa_nil)))))) (nomark _)))))) pss_nil) (pss_one (ps_ret (pe_and (pe_cmpR (op_eqD (hr.units)) (pv 4) (pe_lst pa_nil) (nomark _)) (pe_one (pe_call G_law_is (hr.mono (by decide)) (by rfl) (T.g "_law_is") (T.k "_law_is") b_law_is .nil passL (pa_cons (pv 5) (pa_cons (pe_call G_law_ratio (hr.mono (by decide)) (by rfl) (T.g "_law_ratio") (T.k "_law_ratio") b_law_ratio .nil passL (pa_cons (pe_op op_mulZ (pe_ix ix_tup (pv 2) pe_int (fun _ _ => rfl)) (pe_ix ix_tup (pv 3) pe_int (fun _ _ => rfl))) (pa_cons (pe_op op_mulZ (pe_ix ix_tup (pv 2) pe_int (fun _ _ => rfl)) (pe_ix ix_tup (pv 3) pe_int (fun _ _ => rfl))) pa_nil))) pa_nil)))))))))), ?_⟩
    obtain ⟨⟨dx, hx⟩, ⟨dy, hy⟩, nl, nr, st, sb, su, sc⟩ := id two
    walk_at "go"
    refine ⟨Nat.zero_le _, fun pr npr => ?_⟩
    have z1 := same_new (o := .lst []) npr
    walk_at "go"
    refine ⟨x, dx, _, rfl, z1 _ _ hx, rF_no _ _ (by decide +kernel) (by decide +kernel), ?_⟩
    walk_at "go"
    refine ⟨x, y, t, b, u, c, rfl, two.same z1, fun hu dd H' s n e1 => ?_, fun hu r H' s nr' hr' => ?_⟩
    · refine ⟨true, T.exM "ZeroBottom", fun _ => ?_, fun q => Bool.noConfusion q⟩
      intro a0 na
      walk_at "go"
      refine ⟨dd, _, _, rfl, e1, lk_here, ?_⟩
      walk_at "go"
      refine ⟨_, _, true, dd, _, rfl, rfl, rfl, e1, .own _, T.kie "ZeroBottom" "LastrowsError" true, ?_⟩
      walk_at "go"
      refine ⟨_, _, true, dd, _, rfl, rfl, rfl, e1, .ty _, T.kiv "ZeroBottom" "ValueError" true, ?_⟩
      walk_at "go"
      refine ⟨_, _, false, dd, _, rfl, rfl, rfl, e1, .own _, T.kie "ZeroBottom" "Empty" false, ?_⟩
      walk_at "go"
      refine ⟨_, _, false, dd, _, rfl, rfl, rfl, e1, .own _, T.kie "ZeroBottom" "BadText" false, ?_⟩
      refine ⟨(by show 5 ≤ sizeLine; decide), fun pr2 npr2 => ?_⟩
      have z2 := same_new (o := .lst refV) npr2
      have S2 := z1.trans (s.trans z2)
      walk_at "go"
      refine ⟨q, _, 0, _, rfl, rfl, SqT.of (S2 _ _ hq), rfl, ?_⟩
      walk_at "go"
      subst hu
      rw [show decide (V.int 0 = V.int 0) = true from decide_eq_true rfl]
      walk_at "go"
      refine ⟨(by show 5 ≤ sizeLine; decide), fun pr3 npr3 => ?_⟩
      have z3 := same_new (o := .lst refV) npr3
      refine ⟨.list refD, .list refD, ref_dpl (z3 _ _ upd_same), ref_dpl upd_same, ref_sh, ref_sh, ?_⟩
      rw [ref_eq]
      exact k _ (S2.trans z3)
    · have S2 := z1.trans s
      walk_at "go"
      refine ⟨q, _, 0, _, rfl, rfl, SqT.of (S2 _ _ hq), rfl, ?_⟩
      walk_at "go"
      rw [show decide (V.int u = V.int 0) = false from decide_eq_false fun z => hu (V.int.inj z)]
      walk_at "go"
      refine ⟨Nat.zero_le _, fun pr3 npr3 => ?_⟩
      have z3 := same_new (o := .lst []) npr3
      have S3 := S2.trans z3
      refine ⟨.list [], .list [], nil_dpl (z3 _ _ (s _ _ upd_same)), nil_dpl upd_same, nil_sh, nil_sh, ?_⟩
      rw [ref_ne]
      walk_at "go"
      refine ⟨p, _, 0, _, rfl, rfl, SqT.of (S3 _ _ hp), rfl, ?_⟩
      walk_at "go"
      refine ⟨q, _, 1, _, rfl, rfl, SqT.of (S3 _ _ hq), rfl, ?_⟩
      walk_at "go"
      refine ⟨p, _, 1, _, rfl, rfl, SqT.of (S3 _ _ hp), rfl, ?_⟩
      walk_at "go"
      refine ⟨q, _, 0, _, rfl, rfl, SqT.of (S3 _ _ hq), rfl, ?_⟩
      walk_at "go"
      refine ⟨_, _, rfl, Int.mul_ne_zero (Int.ne_of_gt nl.pos) hu, sb.big2 su, fun d H4 s4 n4 e4 => ?_⟩
      exact ⟨r, d, _, _, rfl, (hr'.same z3).same s4, e4, k _ (S3.trans s4)⟩

end
end K00

namespace K00
open PySem PySem.Spec PyProof.Rows L2 LR
/-! readings -/
local macro_rules | `(tactic| walk_at "side") => `(tactic| first | decide | exact Sm.mul (by assumption) (by assumption) | exact mulR (by omega) (by omega) | exact mulL (by omega) (by omega) | exact mulF (by decide) (by decide) | exact ⟨by decide, by decide⟩ | exact ⟨by decide, by decide +kernel⟩ | assumption | omega | fail "side")
local macro_rules | `(tactic| walk_at "go") => `(tactic| repeat' (first | refine ⟨_, rfl, ?_⟩ | refine ⟨_, _, rfl, rfl, pside (by walk_at "side"), ?_⟩ | refine ⟨_, _, rfl, rfl, ?_⟩ | refine ⟨rfl, ?_⟩ | refine .inl ⟨_, rfl, ?_⟩ | refine ⟨_, _, _, _, _, rfl, (by assumption), (by assumption), (by assumption), rF_top _ _, ?_⟩ | refine ⟨_, _, _, _, _, rfl, (by assumption), (by assumption), (by assumption), rF_bottom _ _, ?_⟩ | fail "stop"))
section
variable {P : Program} {w : World} {K : PySem.W.Frag} {mg : Str → Option Value} {base : Heap}


theorem rat_go {K : PySem.W.Frag} {H : Hp} {R : Hp → Prop} {E : XK} {t b : Int} {x dx : Addr} (hb : b ≠ 0) (hs : b.natAbs < 2 ^ 8999) (nx : H x = none) (nd : H dx = none) (k : ∀ H', Same H H' → RatAt K H' x (nT t b) (nB t b) → R H') :
    spRInit K [.ref x, .int t, .int b] (upd (upd H dx (.own x)) x (.ins (He.ga K "Ratio") dx [])) (fun v H2 => v = .non ∧ R H2) E := by
  have s0 : Same H (upd (upd H dx (.own x)) x (.ins (He.ga K "Ratio") dx [])) := fun c o e => by
    rw [upd_ne (ne_of_none e nx), upd_ne (ne_of_none e nd)]
    exact e
  exact ⟨x, dx, t, b, rfl, upd_same, hs, fun e => absurd e hb, fun _ H' keep e => ⟨rfl, k H' (fun c o h => keep c o (s0 c o h) (ne_of_none h nx)) ⟨dx, e⟩⟩⟩
theorem dec_int (i j : Int) : decide (V.int i = V.int j) = decide (i = j) := decide_eq_decide.mpr ⟨fun z => V.int.inj z, fun z => by rw [z]⟩
theorem sign_eq (t : Int) : (if t = 0 then 0 else if 0 < t then 1 else -1) = (if decide (0 < t) = true then (1 : Int) else 0) - (if decide (t < 0) = true then 1 else 0) := by
  rcases Int.lt_trichotomy t 0 with h | h | h
  · rw [if_neg (by omega), if_neg (by omega), if_neg (by rw [decide_eq_true_eq]; omega), if_pos (decide_eq_true h)] <;> rfl
  · rw [if_pos h, if_neg (by rw [decide_eq_true_eq]; omega), if_neg (by rw [decide_eq_true_eq]; omega)] <;> rfl
  · rw [if_neg (by omega), if_pos h, if_pos (decide_eq_true h), if_neg (by rw [decide_eq_true_eq]; omega)] <;> rfl
/-- what a ratio is compared with, no ratio itself -/
def Oth (K : PySem.W.Frag) (H : Hp) (x : V) : Prop := ∃ ty, TyX K H x ty ∧ PySem.W.notFirst K (He.ga K "Ratio") ty = true ∧ PySem.W.kitOne K ty (.ref (He.ga K "Ratio")) = some false
theorem oth_of {K : PySem.W.Frag} {mg : Str → Option Value} (T : Txt LL K mg) {H : Hp} {t b : Int} {e : Addr} {z : V} (h : z ∈ [V.int t, .int 0, .int 1, .ref e, .str "1", .non]) (he : H e = some (.tup [.int t, .int b])) : Oth K H z := by
  simp only [List.mem_cons, List.not_mem_nil, or_false] at h
  rcases h with rfl | rfl | rfl | rfl | rfl | rfl
  · exact ⟨_, .base (.int _), T.nf "Ratio" "int", T.kit (.type "int") "Ratio" false⟩
  · exact ⟨_, .base (.int _), T.nf "Ratio" "int", T.kit (.type "int") "Ratio" false⟩
  · exact ⟨_, .base (.int _), T.nf "Ratio" "int", T.kit (.type "int") "Ratio" false⟩
  · exact ⟨_, .base (.tup he), T.nf "Ratio" "tuple", T.kit (.type "tuple") "Ratio" false⟩
  · exact ⟨_, .base (.str _), T.nf "Ratio" "str", T.kit (.type "str") "Ratio" false⟩
  · exact ⟨_, .base .non, T.nf "Ratio" "NoneType", T.kit (.type "NoneType") "Ratio" false⟩

theorem ok_law_order (T : Txt LL K mg) : Ok P w K mg base (d_law_order.at_ K) 8 ["a", "b", "p", "q"] (spPair K) := by
  obtain ⟨_, G_law_truth, b_law_truth⟩ := ok_law_truth (P := P) (w := w) (base := base) T
  obtain ⟨_, G_law_is_integer, b_law_is_integer⟩ := ok_law_is_integer (P := P) (w := w) (base := base) T
  obtain ⟨_, G_Ratio, b_Ratio, _, d_Ratio_d, b_Ratio_d⟩ := ok_Ratio_init (P := P) (w := w) (base := base) T
  obtain ⟨_, G_Ratio_eq, b_Ratio_eq⟩ := ok_Ratio_eq (P := P) (w := w) (base := base) T
  obtain ⟨_, G_Ratio_below, b_Ratio_below⟩ := ok_Ratio_below (P := P) (w := w) (base := base) T
  obtain ⟨_, G_Ratio_sign, b_Ratio_sign⟩ := ok_Ratio_sign (P := P) (w := w) (base := base) T
  obtain ⟨_, G_Ratio_is_zero, b_Ratio_is_zero⟩ := ok_Ratio_is_zero (P := P) (w := w) (base := base) T
  refine Ok.of (T.d 26 (d := d_law_order)) sc_law_order (fun _ _ _ _ _ _ us hl => match us, hl with | [_, _, _, _], _ => rfl) (fun vs H Q E h => ?_) (fun fd cdv A outer s H vs Q E hr h => ?_)
  · obtain ⟨x, y, p, q, t, b, u, c, rfl, _⟩ := h
    rfl
  · obtain ⟨x, y, p, q, t, b, u, c, rfl, two, ⟨hp, hq⟩, k⟩ := h
    refine ⟨_, C8.pss_cut (ps_if (PW.pt (pw_or (pt_not (pt_val (pe_call G_law_truth (hr.mono (by decide)) (by rfl) (T.g "_law_truth") (T.k "_law_truth") b_law_truth .nil passL (pa_cons (pe_meth (pv 0) (T.cl "Ratio") (T.me "Ratio" "below") G_Ratio_below (hr.mono (by decide)) b_Ratio_below .nil passL (pa_cons (pv 1) pa_nil)) (pa_cons (pe_cmpR op_lt (pe_op op_mulZ (pe_ix ix_tup (pv 2) pe_int (fun _ _ => rfl)) (pe_ix ix_tup (pv 3) pe_int (fun _ _ => rfl))) (pe_op op_mulZ (pe_ix ix_tup (pv 3) pe_int (fun _ _ => rfl)) (pe_ix ix_tup (pv 2) pe_int (fun _ _ => rfl))) (nomark _)) pa_nil))))) (pw_or1 (pt_not (pt_val (pe_call G_law_truth (hr.mono (by decide)) (by rfl) (T.g "_law_truth") (T.k "_law_truth") b_law_truth .nil passL (pa_cons (pe_meth (pv 0) (T.cl "Ratio") (T.me "Ratio" "below") G_Ratio_below (hr.mono (by decide)) b_Ratio_below .nil passL (pa_cons (pv 0) pa_nil)) (pa_cons pe_bl pa_nil)))))))) (pss_one (ps_ret pe_bl)) pss_nil) (C8.pss_cut (ps_if (PW.pt (pw_or (pt_not (pt_val (pe_call G_law_truth (hr.mono (by decide)) (by rfl) (T.g "_law_truth") (T.k "_law_truth") b_law_truth .nil passL (pa_cons (pe_cmpR (op_eqO (T.own "Ratio" "__eq__") (T.fnn "Ratio" "__eq__") G_Ratio_eq (hr.mono (by decide)) b_Ratio_eq passL) (pv 0) (pv 1) (nomark _)) (pa_cons (pe_and (pe_cmpR op_eq (pe_ix ix_tup (pv 2) pe_int (fun _ _ => rfl)) (pe_ix ix_tup (pv 3) pe_int (fun _ _ => rfl)) (nomark _)) (pe_one (pe_cmpR op_eq (pe_ix ix_tup (pv 2) pe_int (fun _ _ => rfl)) (pe_ix ix_tup (pv 3) pe_int (fun _ _ => rfl)) (nomark _)))) pa_nil))))) (pw_or1 (pt_not (pt_val (pe_call G_law_truth (hr.mono (by decide)) (by rfl) (T.g "_law_truth") (T.k "_law_truth") b_law_truth .nil passL (pa_cons (pe_cmpR (op_eqO (T.own "Ratio" "__eq__") (T.fnn "Ratio" "__eq__") G_Ratio_eq (hr.mono (by decide)) b_Ratio_eq passL) (pv 0) (pe_make (T.mkk "Ratio") G_Ratio (hr.mono (by decide)) (by rfl) (T.g "Ratio") b_Ratio .nil passL (pa_cons (pe_ix ix_tup (pv 2) pe_int (fun _ _ => rfl)) (pa_cons (pe_ix ix_tup (pv 2) pe_int (fun _ _ => rfl)) pa_nil))) (nomark _)) (pa_cons pe_bl pa_nil)))))))) (pss_one (ps_ret pe_bl)) pss_nil) (C8.pss_cut (ps_if (PW.pt (pw_or (pt_not (pt_val (pe_call G_law_truth (hr.mono (by decide)) (by rfl) (T.g "_law_truth") (T.k "_law_truth") b_law_truth .nil passL (pa_cons (pe_cmpR (op_neO (T.ne "Ratio") (T.ob "Ratio") (T.own "Ratio" "__eq__") (T.fnn "Ratio" "__eq__") G_Ratio_eq (hr.mono (by decide)) b_Ratio_eq passL) (pv 0) (pv 1) (nomark _)) (pa_cons (pe_or (pe_cmpR op_ne (pe_ix ix_tup (pv 2) pe_int (fun _ _ => rfl)) (pe_ix ix_tup (pv 3) pe_int (fun _ _ => rfl)) (nomark _)) (pe_one (pe_cmpR op_ne (pe_ix ix_tup (pv 2) pe_int (fun _ _ => rfl)) (pe_ix ix_tup (pv 3) pe_int (fun _ _ => rfl)) (nomark _)))) pa_nil))))) (pw_or1 (pt_not (pt_val (pe_call G_law_truth (hr.mono (by decide)) (by rfl) (T.g "_law_truth") (T.k "_law_truth") b_law_truth .nil passL (pa_cons (pe_cmpR (op_neO (T.ne "Ratio") (T.ob "Ratio") (T.own "Ratio" "__eq__") (T.fnn "Ratio" "__eq__") G_Ratio_eq (hr.mono (by decide)) b_Ratio_eq passL) (pv 0) (pe_make (T.mkk "Ratio") G_Ratio (hr.mono (by decide)) (by rfl) (T.g "Ratio") b_Ratio .nil passL (pa_cons (pe_ix ix_tup (pv 2) pe_int (fun _ _ => rfl)) (pa_cons (pe_ix ix_tup (pv 2) pe_int (fun _ _ => rfl)) pa_nil))) (nomark _)) (pa_cons pe_bl pa_nil)))))))) (pss_one (ps_ret pe_bl)) pss_nil) (C8.pss_cut (ps_if (PW.pt (pw_or (pt_not (pt_val (pe_call G_law_is_integer (hr.mono (by decide)) (by rfl) (T.g "_law_is_integer") (T.k "_law_is_integer") b_law_is_integer .nil passL (pa_cons (pe_prop (pv 0) (T.cl "Ratio") (T.pr "Ratio" "sign") G_Ratio_sign (hr.mono (by decide)) b_Ratio_sign .nil passL rfl) pa_nil)))) (pw_or1 (pt_cmpR op_ne (pe_prop (pv 0) (T.cl "Ratio") (T.pr "Ratio" "sign") G_Ratio_sign (hr.mono (by decide)) b_Ratio_sign .nil passL rfl) (pe_op op_sub (pe_callTy call_int1 (by rfl) (T.f "int") (by decide +kernel) (pa_cons (pe_cmpR op_gt (pe_ix ix_tup (pv 2) pe_int (fun _ _ => rfl)) pe_int (nomark _)) pa_nil)) (pe_callTy call_int1 (by rfl) (T.f "int") (by decide +kernel) (pa_cons (pe_cmpR op_lt (pe_ix ix_tup (pv 2) pe_int (fun _ _ => rfl)) pe_int (nomark _)) pa_nil))) (nomark _))))) (pss_one (ps_ret pe_bl)) pss_nil) (pss_cons (ps_if (pt_not (pt_val (pe_call G_law_truth (hr.mono (by decide)) (by rfl) (T.g "_law_truth") (T.k "_law_truth") b_law_truth .nil passL (pa_cons (pe_prop (pv 0) (T.cl "Ratio") (T.pr "Ratio" "is_zero") G_Ratio_is_zero (hr.mono (by decide)) b_Ratio_is_zero .nil passL rfl) (pa_cons (pe_cmpR op_eq (pe_ix ix_tup (pv 2) pe_int (fun _ _ => rfl)) pe_int (nomark _)) pa_nil))))) (pss_one (ps_ret pe_bl)) pss_nil) (pss_cons (ps_for (passes_of rfl) rfl (pi_list (pe_lst (pa_cons (pe_ix ix_tup (pv 2) pe_int (fun _ _ => rfl)) (pa_cons pe_int (pa_cons pe_int (pa_cons (pe_tup (pa_cons (pe_ix ix_tup (pv 2) pe_int (fun _ _ => rfl)) (pa_cons (pe_ix ix_tup (pv 2) pe_int (fun _ _ => rfl)) pa_nil))) (pa_cons pe_str (pa_cons pe_non pa_nil)))))))) (pg_name (i := 4) sc_law_order.nd rfl (by first | exact Or.inl rfl | exact Or.inr rfl)) (pss_one (ps_if (PW.pt (pw_or (pt_not (pt_val (pe_call G_law_truth (hr.mono (by decide)) (by rfl) (T.g "_law_truth") (T.k "_law_truth") b_law_truth .nil passL (pa_cons (pe_cmpR (op_eqO (T.own "Ratio" "__eq__") (T.fnn "Ratio" "__eq__") G_Ratio_eq (hr.mono (by decide)) b_Ratio_eq passL) (pv 0) (pv 4) (nomark _)) (pa_cons pe_bl pa_nil))))) (pw_or1 (pt_not (pt_val (pe_call G_law_truth (hr.mono (by decide)) (by rfl) (T.g "_law_truth") (T.k "_law_truth") b_law_truth .nil passL (pa_cons (pe_cmpR (op_neO (T.ne "Ratio") (T.ob "Ratio") (T.own "Ratio" "__eq__") (T.fnn "Ratio" "__eq__") G_Ratio_eq (hr.mono (by decide)) b_Ratio_eq passL) (pv 0) (pv 4) (nomark _)) (pa_cons pe_bl pa_nil)))))))) (pss_one (ps_ret pe_bl)) pss_nil))) (pss_one (ps_ret pe_bl))))))), ?_⟩
    obtain ⟨⟨dx, hx⟩, ⟨dy, hy⟩, nl, nr, st, sb, su, sc⟩ := id two
    refine ⟨fun σ H9 => σ = [some (.ref x), some (.ref y), some (.ref p), some (.ref q), none] ∧ Same H H9, ?_, ?_⟩
    · skip
      walk_at "go"
      refine ⟨x, dx, _, rfl, hx, rF_no _ _ (by decide +kernel) (by decide +kernel), ?_⟩
      walk_at "go"
      refine ⟨x, y, t, b, u, c, rfl, two, ?_⟩
      walk_at "go"
      refine ⟨p, _, 0, _, rfl, rfl, SqT.of hp, rfl, ?_⟩
      walk_at "go"
      refine ⟨q, _, 1, _, rfl, rfl, SqT.of hq, rfl, ?_⟩
      walk_at "go"
      refine ⟨q, _, 0, _, rfl, rfl, SqT.of hq, rfl, ?_⟩
      walk_at "go"
      refine ⟨p, _, 1, _, rfl, rfl, SqT.of hp, rfl, ?_⟩
      walk_at "go"
      refine ⟨x, dx, _, rfl, hx, rF_no _ _ (by decide +kernel) (by decide +kernel), ?_⟩
      walk_at "go"
      refine ⟨x, x, t, b, t, b, rfl, ⟨two.l, two.l, nl, nl, st, sb, st, sb⟩, ?_⟩
      rw [decide_eq_false (Int.lt_irrefl (t * b))]
      walk_at "go"
      exact Same.refl H
    rintro σ H2 ⟨rfl, S2⟩
    have two2 := two.same S2
    have hp2 := S2 _ _ hp
    have hq2 := S2 _ _ hq
    have hx2 := S2 _ _ hx
    have hy2 := S2 _ _ hy
    refine ⟨fun σ H9 => σ = [some (.ref x), some (.ref y), some (.ref p), some (.ref q), none] ∧ Same H H9, ?_, ?_⟩
    · skip
      walk_at "go"
      refine ⟨x, dx, _, _, rfl, hx2, T.ty "Ratio" hy2, T.nfs "Ratio", ?_⟩
      refine ⟨x, t, b, _, rfl, ⟨dx, hx2⟩, .inl ⟨y, u, c, rfl, ⟨dy, hy2⟩, ?_⟩⟩
      walk_at "go"
      refine ⟨p, _, 0, _, rfl, rfl, SqT.of hp2, rfl, ?_⟩
      walk_at "go"
      refine ⟨q, _, 0, _, rfl, rfl, SqT.of hq2, rfl, ?_⟩
      walk_at "go"
      refine ite2 (fun e => ?_) (fun e => ?_)
      · have e1 : t = u := V.int.inj (of_decide_eq_true e)
        walk_at "go"
        refine ⟨p, _, 1, _, rfl, rfl, SqT.of hp2, rfl, ?_⟩
        walk_at "go"
        refine ⟨q, _, 1, _, rfl, rfl, SqT.of hq2, rfl, ?_⟩
        walk_at "go"
        rw [decide_eq_true e1, Bool.true_and, dec_int]
        walk_at "go"
        refine ⟨p, _, 0, _, rfl, rfl, SqT.of hp2, rfl, ?_⟩
        walk_at "go"
        refine ⟨p, _, 1, _, rfl, rfl, SqT.of hp2, rfl, ?_⟩
        walk_at "go"
        intro r rd nr' nd' _
        refine rat_go (Int.ne_of_gt nl.pos) sb.big nr' nd' (fun H3 s3 er => ?_)
        rw [nT_nrm nl, nB_nrm nl] at er
        obtain ⟨dr, er⟩ := er
        walk_at "go"
        refine ⟨x, dx, _, _, rfl, s3 _ _ hx2, T.ty "Ratio" er, T.nfs "Ratio", ?_⟩
        refine ⟨x, t, b, _, rfl, ⟨dx, s3 _ _ hx2⟩, .inl ⟨r, t, b, rfl, ⟨dr, er⟩, ?_⟩⟩
        rw [decide_eq_true (rfl : t = t), decide_eq_true (rfl : b = b)]
        walk_at "go"
        exact S2.trans s3
      · have e1 : ¬ t = u := fun z => e (decide_eq_true (by rw [z]))
        rw [decide_eq_false e1, Bool.false_and]
        walk_at "go"
        refine ⟨p, _, 0, _, rfl, rfl, SqT.of hp2, rfl, ?_⟩
        walk_at "go"
        refine ⟨p, _, 1, _, rfl, rfl, SqT.of hp2, rfl, ?_⟩
        walk_at "go"
        intro r rd nr' nd' _
        refine rat_go (Int.ne_of_gt nl.pos) sb.big nr' nd' (fun H3 s3 er => ?_)
        rw [nT_nrm nl, nB_nrm nl] at er
        obtain ⟨dr, er⟩ := er
        walk_at "go"
        refine ⟨x, dx, _, _, rfl, s3 _ _ hx2, T.ty "Ratio" er, T.nfs "Ratio", ?_⟩
        refine ⟨x, t, b, _, rfl, ⟨dx, s3 _ _ hx2⟩, .inl ⟨r, t, b, rfl, ⟨dr, er⟩, ?_⟩⟩
        rw [decide_eq_true (rfl : t = t), decide_eq_true (rfl : b = b)]
        walk_at "go"
        exact S2.trans s3
    clear two2 hp2 hq2 hx2 hy2 S2
    rintro σ H2 ⟨rfl, S2⟩
    have two2 := two.same S2
    have hp2 := S2 _ _ hp
    have hq2 := S2 _ _ hq
    have hx2 := S2 _ _ hx
    have hy2 := S2 _ _ hy
    refine ⟨fun σ H9 => σ = [some (.ref x), some (.ref y), some (.ref p), some (.ref q), none] ∧ Same H H9, ?_, ?_⟩
    · skip
      walk_at "go"
      refine ⟨x, dx, _, _, rfl, hx2, T.ty "Ratio" hy2, T.nfs "Ratio", ?_⟩
      refine ⟨x, t, b, _, rfl, ⟨dx, hx2⟩, .inl ⟨y, u, c, rfl, ⟨dy, hy2⟩, ?_⟩⟩
      refine ⟨_, rfl, ?_⟩
      walk_at "go"
      refine ⟨p, _, 0, _, rfl, rfl, SqT.of hp2, rfl, ?_⟩
      walk_at "go"
      refine ⟨q, _, 0, _, rfl, rfl, SqT.of hq2, rfl, ?_⟩
      walk_at "go"
      refine ite2 (fun e => ?_) (fun e => ?_)
      · have e1 : ¬ t = u := fun z => by
          rw [z, decide_eq_true rfl] at e
          exact Bool.noConfusion e
        rw [decide_eq_false e1, Bool.false_and]
        walk_at "go"
        refine ⟨p, _, 0, _, rfl, rfl, SqT.of hp2, rfl, ?_⟩
        walk_at "go"
        refine ⟨p, _, 1, _, rfl, rfl, SqT.of hp2, rfl, ?_⟩
        walk_at "go"
        intro r rd nr' nd' _
        refine rat_go (Int.ne_of_gt nl.pos) sb.big nr' nd' (fun H3 s3 er => ?_)
        rw [nT_nrm nl, nB_nrm nl] at er
        obtain ⟨dr, er⟩ := er
        walk_at "go"
        refine ⟨x, dx, _, _, rfl, s3 _ _ hx2, T.ty "Ratio" er, T.nfs "Ratio", ?_⟩
        refine ⟨x, t, b, _, rfl, ⟨dx, s3 _ _ hx2⟩, .inl ⟨r, t, b, rfl, ⟨dr, er⟩, ?_⟩⟩
        refine ⟨_, rfl, ?_⟩
        rw [decide_eq_true (rfl : t = t), decide_eq_true (rfl : b = b)]
        walk_at "go"
        exact S2.trans s3
      · have e1 : t = u := Decidable.byContradiction fun z => e (by rw [dec_int, decide_eq_false z]; rfl)
        walk_at "go"
        refine ⟨p, _, 1, _, rfl, rfl, SqT.of hp2, rfl, ?_⟩
        walk_at "go"
        refine ⟨q, _, 1, _, rfl, rfl, SqT.of hq2, rfl, ?_⟩
        walk_at "go"
        rw [decide_eq_true e1, Bool.true_and, dec_int]
        walk_at "go"
        refine ⟨p, _, 0, _, rfl, rfl, SqT.of hp2, rfl, ?_⟩
        walk_at "go"
        refine ⟨p, _, 1, _, rfl, rfl, SqT.of hp2, rfl, ?_⟩
        walk_at "go"
        intro r rd nr' nd' _
        refine rat_go (Int.ne_of_gt nl.pos) sb.big nr' nd' (fun H3 s3 er => ?_)
        rw [nT_nrm nl, nB_nrm nl] at er
        obtain ⟨dr, er⟩ := er
        walk_at "go"
        refine ⟨x, dx, _, _, rfl, s3 _ _ hx2, T.ty "Ratio" er, T.nfs "Ratio", ?_⟩
        refine ⟨x, t, b, _, rfl, ⟨dx, s3 _ _ hx2⟩, .inl ⟨r, t, b, rfl, ⟨dr, er⟩, ?_⟩⟩
        refine ⟨_, rfl, ?_⟩
        rw [decide_eq_true (rfl : t = t), decide_eq_true (rfl : b = b)]
        walk_at "go"
        exact S2.trans s3
    clear two2 hp2 hq2 hx2 hy2 S2
    rintro σ H2 ⟨rfl, S2⟩
    have two2 := two.same S2
    have hp2 := S2 _ _ hp
    have hq2 := S2 _ _ hq
    have hx2 := S2 _ _ hx
    have hy2 := S2 _ _ hy
    refine ⟨fun σ H9 => σ = [some (.ref x), some (.ref y), some (.ref p), some (.ref q), none] ∧ Same H H9, ?_, ?_⟩
    · skip
      walk_at "go"
      refine ⟨x, dx, _, rfl, hx2, ?_⟩
      refine ⟨x, t, b, rfl, ⟨dx, hx2⟩, ?_⟩
      walk_at "go"
      refine ⟨x, dx, _, rfl, hx2, ?_⟩
      refine ⟨x, t, b, rfl, ⟨dx, hx2⟩, ?_⟩
      walk_at "go"
      refine ⟨p, _, 0, _, rfl, rfl, SqT.of hp2, rfl, ?_⟩
      walk_at "go"
      refine .inr ⟨_, rfl, ?_⟩
      walk_at "go"
      refine ⟨p, _, 0, _, rfl, rfl, SqT.of hp2, rfl, ?_⟩
      walk_at "go"
      refine .inr ⟨_, rfl, ?_⟩
      walk_at "go"
      rw [dec_int, decide_eq_true (sign_eq t)]
      walk_at "go"
      exact S2
    clear two2 hp2 hq2 hx2 hy2 S2
    rintro σ H2 ⟨rfl, S2⟩
    have two2 := two.same S2
    have hp2 := S2 _ _ hp
    have hq2 := S2 _ _ hq
    have hx2 := S2 _ _ hx
    have hy2 := S2 _ _ hy
    walk_at "go"
    refine ⟨x, dx, _, rfl, hx2, ?_⟩
    refine ⟨x, t, b, rfl, ⟨dx, hx2⟩, ?_⟩
    walk_at "go"
    refine ⟨p, _, 0, _, rfl, rfl, SqT.of hp2, rfl, ?_⟩
    walk_at "go"
    rw [dec_int]
    walk_at "go"
    refine ⟨p, _, 0, _, rfl, rfl, SqT.of hp2, rfl, ?_⟩
    walk_at "go"
    refine ⟨p, _, 0, _, rfl, rfl, SqT.of hp2, rfl, ?_⟩
    walk_at "go"
    refine ⟨p, _, 1, _, rfl, rfl, SqT.of hp2, rfl, ?_⟩
    walk_at "go"
    refine ⟨(by show 2 ≤ sizeLine; decide), fun e ne => ?_⟩
    have z1 := same_new (o := .tup [.int t, .int b]) ne
    walk_at "go"
    refine ⟨(by show 6 ≤ sizeLine; decide), fun l nl' => ?_⟩
    have z2 := same_new (o := .lst [.int t, .int 0, .int 1, .ref e, .str "1", .non]) nl'
    have SE := z1.trans z2
    have ee := z2 _ _ (upd_same (H := H2) (a := e) (o := .tup [.int t, .int b]))
    walk_at "go"
    refine ⟨⟨_, SqL.of upd_same⟩, for_list (K := K) (a := l) (xs := [.int t, .int 0, .int 1, .ref e, .str "1", .non]) (fun i σ H3 => ∃ v : Option V, σ = [some (.ref x), some (.ref y), some (.ref p), some (.ref q), v] ∧ Same (upd (upd H2 e (.tup [.int t, .int b])) l (.lst [.int t, .int 0, .int 1, .ref e, .str "1", .non])) H3)
      ⟨none, rfl, Same.refl _⟩ (fun i σ H3 _ ⟨_, _, s3⟩ => SqL.of (s3 _ _ upd_same)) ?_ ?_⟩
    · rintro i z σ H3 hz ⟨v, rfl, s3⟩
      have hx3 := s3 _ _ (SE _ _ hx2)
      have hO : Oth K H3 z := oth_of T (List.mem_of_getElem? hz) (s3 _ _ ee)
      obtain ⟨ty, hty, hnf, hki⟩ := hO
      walk_at "go"
      refine ⟨x, dx, _, ty, rfl, hx3, hty, hnf, ?_⟩
      refine ⟨x, t, b, z, rfl, ⟨dx, hx3⟩, .inr ⟨ty, hty, hki, ?_⟩⟩
      walk_at "go"
      refine ⟨x, dx, _, ty, rfl, hx3, hty, hnf, ?_⟩
      refine ⟨x, t, b, z, rfl, ⟨dx, hx3⟩, .inr ⟨ty, hty, hki, ?_⟩⟩
      refine ⟨_, rfl, ?_⟩
      walk_at "go"
      first | exact s3 | exact ⟨_, rfl, s3⟩
    · rintro σ H3 ⟨v, rfl, s3⟩
      walk_at "go"
      exact k _ ((S2.trans SE).trans s3)

end
end K00

namespace K00
open PySem PySem.Spec PyProof.Rows L2 LR
/-! readings -/
local macro_rules | `(tactic| walk_at "side") => `(tactic| first | decide | exact Sm.mul (by assumption) (by assumption) | exact mulR (by omega) (by omega) | exact mulL (by omega) (by omega) | exact mulF (by decide) (by decide) | exact ⟨by decide, by decide⟩ | exact ⟨by decide, by decide +kernel⟩ | assumption | omega | fail "side")
local macro_rules | `(tactic| walk_at "go") => `(tactic| repeat' (first | refine ⟨_, rfl, ?_⟩ | refine ⟨_, _, rfl, rfl, pside (by walk_at "side"), ?_⟩ | refine ⟨_, _, rfl, rfl, ?_⟩ | refine ⟨rfl, ?_⟩ | refine .inl ⟨_, rfl, ?_⟩ | refine ⟨_, _, _, _, _, rfl, (by assumption), (by assumption), (by assumption), rF_top _ _, ?_⟩ | refine ⟨_, _, _, _, _, rfl, (by assumption), (by assumption), (by assumption), rF_bottom _ _, ?_⟩ | fail "stop"))
section
variable {P : Program} {w : World} {K : PySem.W.Frag} {mg : Str → Option Value} {base : Heap}


def spLaw (K : PySem.W.Frag) : Sp := fun vs H Q _ => ∃ (a : Addr) (ns : List Int), vs = [.ref a] ∧ SqL K H a (ns.map V.int) ∧ ns.length ≤ 63 ∧ ∀ H', Q (.bl true) H'
theorem Sy.sm {i : Int} (h : Sy i) : Sm i := abs_up h (by decide)
theorem Sy.big {i : Int} (h : Sy i) : i.natAbs < 2 ^ 8999 := abs_up h (by decide)
theorem sm_nT {t b : Int} (h : Sy t) : Sm (nT t b) := Nat.lt_of_le_of_lt (nT_le t b) h.sm
theorem sm_nB {t b : Int} (h : Sy b) : Sm (nB t b) := Nat.lt_of_le_of_lt (nB_le t b) h.sm
theorem four_of {ms : List Int} (h : Four ms) : ∃ a b c d : Int, ms = [a, b, c, d] ∧ Sy a ∧ Sy b ∧ Sy c ∧ Sy d ∧ b ≠ 0 ∧ d ≠ 0 := by
  obtain ⟨len, sy, n1, n3⟩ := h
  match ms, len, sy, n1, n3 with
  | [a, b, c, d], _, sy, n1, n3 => exact ⟨a, b, c, d, rfl, sy a (by simp), sy b (by simp), sy c (by simp), sy d (by simp), n1 b rfl, n3 d rfl⟩
theorem tops_of {a c : Int} {z : V} (h : z ∈ [V.int a, .int c, .int 0]) : ∃ k : Int, z = .int k := by
  simp only [List.mem_cons, List.not_mem_nil, or_false] at h
  rcases h with rfl | rfl | rfl <;> exact ⟨_, rfl⟩

theorem law_ok (T : Txt LL K mg) : ∃ fd : FuncData, (∀ (s : Shared) (v : Value), BindsTo s fd ⟨[v], []⟩ [("script", v)]) ∧ ∀ base : Heap, FnOk P w K mg base CX0 12 (d_law.at_ K) fd ["script"] (spLaw K) := by
  obtain ⟨fd, F⟩ := T.d 27 (d := d_law)
  refine ⟨fd, fun s v => FunD.bindsA (ps := ["script"]) F (fun _ _ _ _ _ _ us hl => match us, hl with | [_], _ => rfl) s [v] rfl, fun base => ?_⟩
  obtain ⟨_, G_law_numbers, b_law_numbers⟩ := ok_law_numbers (P := P) (w := w) (base := base) T
  obtain ⟨_, G_law_ratio, b_law_ratio⟩ := ok_law_ratio (P := P) (w := w) (base := base) T
  obtain ⟨_, G_Ratio, b_Ratio, _, d_Ratio_d, b_Ratio_d⟩ := ok_Ratio_init (P := P) (w := w) (base := base) T
  obtain ⟨_, G_law_is, b_law_is⟩ := ok_law_is (P := P) (w := w) (base := base) T
  obtain ⟨_, G_law_zero_bottom, b_law_zero_bottom⟩ := ok_law_zero_bottom (P := P) (w := w) (base := base) T
  obtain ⟨_, G_law_dues, b_law_dues⟩ := ok_law_dues (P := P) (w := w) (base := base) T
  obtain ⟨_, G_law_results, b_law_results⟩ := ok_law_results (P := P) (w := w) (base := base) T
  obtain ⟨_, G_law_quotient, b_law_quotient⟩ := ok_law_quotient (P := P) (w := w) (base := base) T
  obtain ⟨_, G_law_order, b_law_order⟩ := ok_law_order (P := P) (w := w) (base := base) T
  refine F.ok sc_law (fun vs H Q E h => ?_) (fun cdv A outer s H vs Q E hr h => ?_)
  · obtain ⟨a, ns, rfl, _⟩ := h
    rfl
  · obtain ⟨a, ns, rfl, hS, hl, q⟩ := h
    refine ⟨_, pss_cons (ps_set (i := 1) sc_law.nd rfl (by first | exact Or.inl rfl | exact Or.inr rfl) (pe_call G_law_numbers (hr.mono (by decide)) (by rfl) (T.g "_law_numbers") (T.k "_law_numbers") b_law_numbers .nil passL (pa_cons (pv 0) pa_nil))) (pss_cons (ps_set (i := 2) sc_law.nd rfl (by first | exact Or.inl rfl | exact Or.inr rfl) (pe_call G_law_ratio (hr.mono (by decide)) (by rfl) (T.g "_law_ratio") (T.k "_law_ratio") b_law_ratio .nil passL (pa_cons (pe_ix ix_list (pv 1) pe_int (fun _ _ => rfl)) (pa_cons (pe_ix ix_list (pv 1) pe_int (fun _ _ => rfl)) pa_nil)))) (pss_cons (ps_set (i := 3) sc_law.nd rfl (by first | exact Or.inl rfl | exact Or.inr rfl) (pe_call G_law_ratio (hr.mono (by decide)) (by rfl) (T.g "_law_ratio") (T.k "_law_ratio") b_law_ratio .nil passL (pa_cons (pe_ix ix_list (pv 1) pe_int (fun _ _ => rfl)) (pa_cons (pe_ix ix_list (pv 1) pe_int (fun _ _ => rfl)) pa_nil)))) (pss_cons (ps_set (i := 4) sc_law.nd rfl (by first | exact Or.inl rfl | exact Or.inr rfl) (pe_make (T.mkk "Ratio") G_Ratio (hr.mono (by decide)) (by rfl) (T.g "Ratio") b_Ratio .nil passL (pa_cons (pe_ix ix_list (pv 1) pe_int (fun _ _ => rfl)) (pa_cons (pe_ix ix_list (pv 1) pe_int (fun _ _ => rfl)) pa_nil)))) (pss_cons (ps_set (i := 5) sc_law.nd rfl (by first | exact Or.inl rfl | exact Or.inr rfl) (pe_make (T.mkk "Ratio") G_Ratio (hr.mono (by decide)) (by rfl) (T.g "Ratio") b_Ratio .nil passL (pa_cons (pe_ix ix_list (pv 1) pe_int (fun _ _ => rfl)) (pa_cons (pe_ix ix_list (pv 1) pe_int (fun _ _ => rfl)) pa_nil)))) (pss_cons (ps_if (PW.pt (pw_or (pt_not (pt_val (pe_call G_law_is (hr.mono (by decide)) (by rfl) (T.g "_law_is") (T.k "_law_is") b_law_is .nil passL (pa_cons (pv 4) (pa_cons (pv 2) pa_nil))))) (pw_or1 (pt_not (pt_val (pe_call G_law_is (hr.mono (by decide)) (by rfl) (T.g "_law_is") (T.k "_law_is") b_law_is .nil passL (pa_cons (pv 5) (pa_cons (pv 3) pa_nil)))))))) (pss_one (ps_ret pe_bl)) pss_nil) (pss_cons (ps_for (passes_of rfl) rfl (pi_list (pe_lst (pa_cons (pe_ix ix_list (pv 1) pe_int (fun _ _ => rfl)) (pa_cons (pe_ix ix_list (pv 1) pe_int (fun _ _ => rfl)) (pa_cons pe_int pa_nil))))) (pg_name (i := 6) sc_law.nd rfl (by first | exact Or.inl rfl | exact Or.inr rfl)) (pss_one (ps_if (PW.pt (pw_or (pt_not (pt_val (pe_call G_law_zero_bottom (hr.mono (by decide)) (by rfl) (T.g "_law_zero_bottom") (T.k "_law_zero_bottom") b_law_zero_bottom .nil passL (pa_cons (pv 6) pa_nil)))) (pw_or (pt_not (pt_val (pe_call G_law_is (hr.mono (by decide)) (by rfl) (T.g "_law_is") (T.k "_law_is") b_law_is .nil passL (pa_cons (pe_make (T.mkk "Ratio") G_Ratio (hr.mono (by decide)) (by rfl) (T.g "Ratio") b_Ratio .nil passL (pa_cons (pv 6) (pa_cons pe_int pa_nil))) (pa_cons (pe_tup (pa_cons (pv 6) (pa_cons pe_int pa_nil))) pa_nil))))) (pw_or1 (pt_not (pt_val (pe_call G_law_is (hr.mono (by decide)) (by rfl) (T.g "_law_is") (T.k "_law_is") b_law_is .nil passL (pa_cons (pe_make (T.mkk "Ratio") G_Ratio (hr.mono (by decide)) (by rfl) (T.g "Ratio") b_Ratio_d d_Ratio_d passL (pa_cons (pv 6) pa_nil)) (pa_cons (pe_tup (pa_cons (pv 6) (pa_cons pe_int pa_nil))) pa_nil))))))))) (pss_one (ps_ret pe_bl)) pss_nil))) (pss_cons (ps_if (pt_not (pt_val (pe_call G_law_is (hr.mono (by decide)) (by rfl) (T.g "_law_is") (T.k "_law_is") b_law_is .nil passL (pa_cons (pe_make (T.mkk "Ratio") G_Ratio (hr.mono (by decide)) (by rfl) (T.g "Ratio") b_Ratio .nil passL (pa_cons pe_int (pa_cons (pe_ix ix_list (pv 1) pe_int (fun _ _ => rfl)) pa_nil))) (pa_cons (pe_tup (pa_cons pe_int (pa_cons pe_int pa_nil))) pa_nil))))) (pss_one (ps_ret pe_bl)) pss_nil) (pss_cons (ps_set (i := 7) sc_law.nd rfl (by first | exact Or.inl rfl | exact Or.inr rfl) (pe_call G_law_dues (hr.mono (by decide)) (by rfl) (T.g "_law_dues") (T.k "_law_dues") b_law_dues .nil passL (pa_cons (pv 2) (pa_cons (pv 3) pa_nil)))) (pss_cons (ps_for (passes_of rfl) rfl (pi_range1 rfl (T.f "range") (pa_cons pe_int pa_nil)) (pg_name (i := 8) sc_law.nd rfl (by first | exact Or.inl rfl | exact Or.inr rfl)) (pss_cons (ps_if (pt_not (pt_val (pe_call G_law_results (hr.mono (by decide)) (by rfl) (T.g "_law_results") (T.k "_law_results") b_law_results .nil passL (pa_cons (pv 4) (pa_cons (pv 5) (pa_cons (pv 2) (pa_cons (pv 7) pa_nil))))))) (pss_one (ps_ret pe_bl)) pss_nil) (pss_cons (ps_if (PW.pt (pw_or (pt_not (pt_val (pe_call G_law_quotient (hr.mono (by decide)) (by rfl) (T.g "_law_quotient") (T.k "_law_quotient") b_law_quotient .nil passL (pa_cons (pv 4) (pa_cons (pv 5) (pa_cons (pv 2) (pa_cons (pv 3) pa_nil))))))) (pw_or1 (pt_not (pt_val (pe_call G_law_quotient (hr.mono (by decide)) (by rfl) (T.g "_law_quotient") (T.k "_law_quotient") b_law_quotient .nil passL (pa_cons (pv 5) (pa_cons (pv 4) (pa_cons (pv 3) (pa_cons (pv 2) pa_nil)))))))))) (pss_one (ps_ret pe_bl)) pss_nil) (pss_one (ps_if (PW.pt (pw_or (pt_not (pt_val (pe_call G_law_order (hr.mono (by decide)) (by rfl) (T.g "_law_order") (T.k "_law_order") b_law_order .nil passL (pa_cons (pv 4) (pa_cons (pv 5) (pa_cons (pv 2) (pa_cons (pv 3) pa_nil))))))) (pw_or1 (pt_not (pt_val (pe_call G_law_order (hr.mono (by decide)) (by rfl) (T.g "_law_order") (T.k "_law_order") b_law_order .nil passL (pa_cons (pv 5) (pa_cons (pv 4) (pa_cons (pv 3) (pa_cons (pv 2) pa_nil)))))))))) (pss_one (ps_ret pe_bl)) pss_nil))))) (pss_one (ps_ret (pe_and (pe_call G_law_is (hr.mono (by decide)) (by rfl) (T.g "_law_is") (T.k "_law_is") b_law_is .nil passL (pa_cons (pv 4) (pa_cons (pv 2) pa_nil))) (pe_one (pe_call G_law_is (hr.mono (by decide)) (by rfl) (T.g "_law_is") (T.k "_law_is") b_law_is .nil passL (pa_cons (pv 5) (pa_cons (pv 3) pa_nil)))))))))))))))), ?_⟩
    walk_at "go"
    refine ⟨a, ns, rfl, hS, hl, fun p4 ms H1 np4 hp4 four s1 => ?_⟩
    obtain ⟨n0, n1, n2, n3, rfl, y0, y1, y2, y3, z1, z3⟩ := four_of four
    have hp4 : H1 p4 = some (.lst [.int n0, .int n1, .int n2, .int n3]) := hp4
    walk_at "go"
    refine ⟨p4, _, 0, _, rfl, rfl, SqL.of hp4, rfl, ?_⟩
    walk_at "go"
    refine ⟨p4, _, 1, _, rfl, rfl, SqL.of hp4, rfl, ?_⟩
    walk_at "go"
    refine ⟨_, _, rfl, z1, y1.big, fun ap H2 s2 np2 e2 => ?_⟩
    walk_at "go"
    refine ⟨p4, _, 2, _, rfl, rfl, SqL.of (s2 _ _ hp4), rfl, ?_⟩
    walk_at "go"
    refine ⟨p4, _, 3, _, rfl, rfl, SqL.of (s2 _ _ hp4), rfl, ?_⟩
    walk_at "go"
    refine ⟨_, _, rfl, z3, y3.big, fun aq H3 s3 np3 e3 => ?_⟩
    have hp3 := s3 _ _ (s2 _ _ hp4)
    walk_at "go"
    refine ⟨p4, _, 0, _, rfl, rfl, SqL.of hp3, rfl, ?_⟩
    walk_at "go"
    refine ⟨p4, _, 1, _, rfl, rfl, SqL.of hp3, rfl, ?_⟩
    walk_at "go"
    intro ra rda nra nda _
    refine rat_go z1 y1.big nra nda (fun H4 s4 e4 => ?_)
    walk_at "go"
    refine ⟨p4, _, 2, _, rfl, rfl, SqL.of (s4 _ _ hp3), rfl, ?_⟩
    walk_at "go"
    refine ⟨p4, _, 3, _, rfl, rfl, SqL.of (s4 _ _ hp3), rfl, ?_⟩
    walk_at "go"
    intro rb rdb nrb ndb _
    refine rat_go z3 y3.big nrb ndb (fun H5 s5 e5 => ?_)
    have hp5 := s5 _ _ (s4 _ _ hp3)
    have nl := nrm_of (t := n0) z1
    have nr := nrm_of (t := n2) z3
    have st := sm_nT (b := n1) y0
    have sb := sm_nB (t := n0) y1
    have su := sm_nT (b := n3) y2
    have sc := sm_nB (t := n2) y3
    have two : Two K H5 ra rb (nT n0 n1) (nB n0 n1) (nT n2 n3) (nB n2 n3) := ⟨e4.same s5, e5, nl, nr, st, sb, su, sc⟩
    have prs : Prs2 H5 ap aq (nT n0 n1) (nB n0 n1) (nT n2 n3) (nB n2 n3) := ⟨s5 _ _ (s4 _ _ (s3 _ _ e2)), s5 _ _ (s4 _ _ e3)⟩
    walk_at "go"
    refine ⟨ra, ap, _, _, rfl, two.l, prs.l, ?_⟩
    walk_at "go"
    refine ⟨rb, aq, _, _, rfl, two.r, prs.r, ?_⟩
    walk_at "go"
    refine ⟨p4, _, 0, _, rfl, rfl, SqL.of hp5, rfl, ?_⟩
    walk_at "go"
    refine ⟨p4, _, 2, _, rfl, rfl, SqL.of hp5, rfl, ?_⟩
    walk_at "go"
    refine ⟨(by show 3 ≤ sizeLine; decide), fun tl ntl => ?_⟩
    have s6 := same_new (o := .lst [.int n0, .int n2, .int 0]) ntl
    walk_at "go"
    refine ⟨⟨_, SqL.of upd_same⟩, for_list (K := K) (a := tl) (xs := [.int n0, .int n2, .int 0]) (fun i σ H9 => ∃ v : Option V, σ = [some (.ref a), some (.ref p4), some (.ref ap), some (.ref aq), some (.ref ra), some (.ref rb), v, none, none] ∧ Same (upd H5 tl (.lst [.int n0, .int n2, .int 0])) H9)
      ⟨none, rfl, Same.refl _⟩ (fun i σ H9 _ ⟨_, _, s⟩ => SqL.of (s _ _ upd_same)) ?_ ?_⟩
    · rintro i z σ H9 hz ⟨v, rfl, s7⟩
      obtain ⟨k, rfl⟩ := tops_of (List.mem_of_getElem? hz)
      walk_at "go"
      intro H10 s8
      walk_at "go"
      intro r1 rd1 nr1 nd1 _
      refine rat_go (by decide) (by decide) nr1 nd1 (fun J1 w1 x1 => ?_)
      rw [nT_nrm (Nrm.one k), nB_nrm (Nrm.one k)] at x1
      walk_at "go"
      refine ⟨(by show 2 ≤ sizeLine; decide), fun d1 m1 => ?_⟩
      have y1 := same_new (o := .tup [.int k, .int 1]) m1
      refine ⟨r1, d1, _, _, rfl, x1.same y1, upd_same, ?_⟩
      walk_at "go"
      intro r2 rd2 nr2 nd2 _
      refine rat_go (by decide) (by decide) nr2 nd2 (fun J2 w2 x2 => ?_)
      rw [nT_nrm (Nrm.one k), nB_nrm (Nrm.one k)] at x2
      walk_at "go"
      refine ⟨(by show 2 ≤ sizeLine; decide), fun d2 m2 => ?_⟩
      have y2 := same_new (o := .tup [.int k, .int 1]) m2
      refine ⟨r2, d2, _, _, rfl, x2.same y2, upd_same, ?_⟩
      walk_at "go"
      have sx := (((s7.trans s8).trans w1).trans y1).trans (w2.trans y2)
      first | exact sx | exact ⟨_, rfl, sx⟩
    rintro σ H9 ⟨v, rfl, s7⟩
    have S7 := s6.trans s7
    walk_at "go"
    refine ⟨p4, _, 1, _, rfl, rfl, SqL.of (S7 _ _ hp5), rfl, ?_⟩
    walk_at "go"
    intro r0 rd0 nr0 nd0 _
    refine rat_go z1 y1.big nr0 nd0 (fun H10 s8 e8 => ?_)
    rw [(Nrm.zero z1).1, (Nrm.zero z1).2] at e8
    walk_at "go"
    refine ⟨(by show 2 ≤ sizeLine; decide), fun dz ndz => ?_⟩
    have s9 := same_new (o := .tup [.int 0, .int 1]) ndz
    refine ⟨r0, dz, _, _, rfl, e8.same s9, upd_same, ?_⟩
    have S9 := (S7.trans s8).trans s9
    walk_at "go"
    refine ⟨ap, aq, _, _, _, _, rfl, prs.same S9, ⟨nl, nr, st, sb, su, sc⟩, fun dl H11 s11 nd11 dues => ?_⟩
    have S11 := S9.trans s11
    walk_at "go"
    refine ⟨by decide, by decide, for_range (lo := 0) (n := Int.toNat 2) (fun i σ H12 => ∃ lap : Option V, σ = [some (.ref a), some (.ref p4), some (.ref ap), some (.ref aq), some (.ref ra), some (.ref rb), v, some (.ref dl), lap] ∧ Same H11 H12) ⟨none, rfl, Same.refl _⟩ ?_ ?_⟩
    · rintro i σ H12 hi ⟨lap, rfl, s12⟩
      have S12 := S11.trans s12
      walk_at "go"
      refine ⟨ra, rb, ap, dl, _, _, _, _, rfl, two.same S12, S12 _ _ prs.l, dues.same s12, fun H13 s13 => ?_⟩
      have S13 := S12.trans s13
      walk_at "go"
      refine ⟨ra, rb, ap, aq, _, _, _, _, rfl, two.same S13, prs.same S13, fun H14 s14 => ?_⟩
      have S14 := S13.trans s14
      walk_at "go"
      refine ⟨rb, ra, aq, ap, _, _, _, _, rfl, (two.same S14).flip, (prs.same S14).flip, fun H15 s15 => ?_⟩
      have S15 := S14.trans s15
      walk_at "go"
      refine ⟨ra, rb, ap, aq, _, _, _, _, rfl, two.same S15, prs.same S15, fun H16 s16 => ?_⟩
      have S16 := S15.trans s16
      walk_at "go"
      refine ⟨rb, ra, aq, ap, _, _, _, _, rfl, (two.same S16).flip, (prs.same S16).flip, fun H17 s17 => ?_⟩
      walk_at "go"
      have sy := s12.trans (s13.trans (s14.trans (s15.trans (s16.trans s17))))
      first | exact sy | exact ⟨_, rfl, sy⟩
    rintro σ H12 ⟨lap, rfl, s12⟩
    have S12 := S11.trans s12
    walk_at "go"
    refine ⟨ra, ap, _, _, rfl, (two.same S12).l, S12 _ _ prs.l, ?_⟩
    walk_at "go"
    refine ⟨rb, aq, _, _, rfl, (two.same S12).r, S12 _ _ prs.r, ?_⟩
    exact q _

end
end K00

namespace K00
open PySem PySem.Spec PyProof.Rows L2 LR

abbrev R : PySem.W.OpenRow := PySem.W.OpenLaw.row PySem.Challenge.rw_lastrows_k00_ratio_lowest
abbrev hk : PySem.W.Hook := hookL 1200 LL
def ob (s : PySem.W.SharedT) : AlL := LL.obsG 1200 (HandSHeadRun.getT s)
theorem ob_eq (s : PySem.W.SharedT) : ob s = hk.obs s.abs := Ls.obsG_eq (HandSHeadRun.getT_eq s)
def looseL : List Str := ["gcd", "LastrowsError", "ZeroBottom", "BadNumber", "BadText", "Empty", "_MOST_DIGITS", "Ratio", "_is_long", "_is_number", "common_divisor", "_law_cell", "_law_mix", "_law_draws", "_law_small", "_law_is_integer", "_law_gcd", "_law_ratio", "_law_numbers", "_law_is", "_law_truth", "_law_dues", "_law_results", "_law_quotient", "_law_order", "_law_zero_bottom"]
theorem run (w : World) : HandSHeadRun.RunEqI R (PySem.W.view R.prog [29]) hk ob 6000 looseL w := by
  unfold HandSHeadRun.RunEqI
  kernel_rfl
end K00


open PySem PySem.W PySem.Calls PyProof.Rows
theorem PySem.Challenge.cw_lastrows_k00_ratio_lowest_holds : PySem.Challenge.rw_lastrows_k00_ratio_lowest.Holds := by
  w_on; o_law
  refine HandSHeadRun.head_imp (r := OpenLaw.row PySem.Challenge.rw_lastrows_k00_ratio_lowest) (q := view (OpenLaw.row PySem.Challenge.rw_lastrows_k00_ratio_lowest).prog [29]) (H := K00.hk) (ob := K00.ob) (M := 6000) (loose := K00.looseL) (d := HandSHeadRun.topDef (OpenLaw.row PySem.Challenge.rw_lastrows_k00_ratio_lowest).prog 29) (kwd := []) K00.ob_eq
    K00.run (by kernel_rfl) (by kernel_rfl) (by kernel_rfl) (by rfl) (by first | assumption | decide +kernel) (by decide +kernel) ⟨rfl, rfl, rfl, rfl, rfl, by decide +kernel⟩ ?hw ?hc
  case hw => w_witness2
  case hc =>
    refine L2.walk_ofE (l := PySem.Challenge.rw_lastrows_k00_ratio_lowest) (n := 63) (k := 12) (x := "script") (CX := L2.CX0) rfl (by decide) (by kernel_rfl) ⟨rfl, by decide, by decide⟩ ?F (fun _ _ _ _ z => z)
    intro w mg fa h Y G hmg0
    obtain ⟨K, KX, c⟩ := Y
    have hmg : mg ("law" : PySem.Str) = some (.ref fa) := by
      have e : (HandSHeadRun.topDef (OpenLaw.row PySem.Challenge.rw_lastrows_k00_ratio_lowest).prog 29).name = ("law" : PySem.Str) := by kernel_rfl
      rw [← e]
      exact hmg0
    have T : LR.Txt K00.LL K mg := LR.Txt.of KX G c
    have ea : fa = He.ga K "law" := Value.ref.inj (Option.some.inj (hmg.symm.trans (T.g "law")))
    subst ea
    obtain ⟨fd, hb, hF⟩ := K00.law_ok (P := (PySem.Challenge.rw_lastrows_k00_ratio_lowest).prog) (w := w) T
    exact ⟨K, fd, K00.spLaw K, KX, hb, fun H a ns hl _ hS => ⟨a, ns, rfl, hS, hl, fun _ => rfl⟩, fun base _ _ => hF base⟩

