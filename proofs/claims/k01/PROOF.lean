import PyProof.Rows.All
import Wide.All
import OpenK.AllK
import Wide.FinOn
import HandS.ForMost
import HandS.Exc
import HandS.ExcOwn
import HandS.ExcInit
import HandS.ExcField
import HandS.ExcIs
import HandS.TryOnly
import HandS.WordsExc
import HandS.IsInst
import HandS.Property
import HandS.Wide
import HandS.WideBits
import HandS.Gcd
import HandS.Flow
import HandS.Zip
import HandS.Codes
import KE.KOpsOwn
import HandS.Defaults
import HandS.Head0
import HandS.Head1
import HandS.Head2
import HandS.Head3
import HandS.HeadHook4
import HandS.HeadEnd
import HandS.FStr
import HandS.StrMore
import KE.KCallOwn
import KE.KxText
import PyProof.Rows.SeqMore
import PyProof.StrLawsTight
import PyProof.Rows.StrLawsPart
import KE.KIntText
import KE.OsScanText
import PySem.Challenge.RW_lastrows_k01_ratio_text
set_option Elab.async false
set_option linter.all false
set_option maxRecDepth 100000
set_option maxHeartbeats 4000000
namespace PySem.W
open PySem PySem.Spec PySem.Calls PyProof.Rows
section
variable {prog : Program} {w : World} {A : Around} {E : Value → Shared → Prop} {s : Shared} {K : Frag} {x D : Addr} {ox : Obj}
theorem kin_classD {Q : Option Value → Shared → Prop} (hga : findIn K (.ref D) "__getattribute__" = some (some (.builtin "BaseException.__getattribute__"))) (hgt : findIn K (.ref D) "__getattr__" = some none) (hsub : subIn K (.ref D) (.type "BaseException") = some true)
    (hdct : hasDictIn K D = true) (ha : findIn K (.ref D) "__class__" = some (some (.builtin "object.__class__")))
    (hn : specialIn K (.builtin "object.__class__") "__get__" = some (some (.builtin "getset_descriptor.__get__"))) (htk : takesIn K (.builtin "object.__class__") = some true) (hm : mroIn K D (.type "object") = some true)
    (X : K.In s.heap) {od : Obj} (I : InstAt s.heap x ox D (some od)) (h : Q (some (.ref D)) { s with toks := s.toks + 1 }) : wpAny (model prog w) A (getAttr? (.ref x) "__class__") Q E s := by
  have hf : findObj K D (some od) "__class__" = some (.bind (.builtin "getset_descriptor.__get__") (.builtin "object.__class__")) := findObj_data (by obtain ⟨cd, hc, _⟩ := any_some hdct; rw [hc]; rfl) ha hn htk
  obtain ⟨hp, g, d, t, os⟩ := s
  have L0 := I.type (M := model prog w)
  have L1 := looks_findIn (M := model prog w) X hga
  have L2 := looks_findIn (M := model prog w) X hgt
  have L3 := looks_find (M := model prog w) X I hf
  have sub : Looks (model prog w) hp (isInstance (.ref x) (.type "BaseException")) true := L0.andThen (looks_subIn X hsub)
  have hx0 : (false && onTheHeap (Value.builtin "BaseException.__getattribute__")) = false := rfl
  have hx2 : (Value.builtin "BaseException.__getattribute__" == Value.builtin "object.__getattribute__") = false := by decide +kernel
  have hx1 : (onTheHeap (Value.ref D) && Value.builtin "BaseException.__getattribute__" == Value.builtin "object.__getattribute__") = false := by rw [hx2]; rfl
  unfold getAttr? getAttrBy? getAttrBy
  refine wpAny_bind (wpAny_mkText (wpAny_bind (wpAny_attempt (wpAny_holding (wpAny_bind (L0.at (wpAny_bind (L1.at ?_))))))))
  show wpAny _ _ (if (onTheHeap (Value.ref D) && Value.builtin "BaseException.__getattribute__" == Value.builtin "object.__getattribute__") = true then _ else _) _ _ _
  rw [hx1, if_neg Bool.false_ne_true]
  unfold getAttrByItsOwn hookBefore
  refine wpAny_bind ?_
  rw [if_pos (show onTheHeap (Value.ref D) = true from rfl)]
  refine L2.at ?_
  refine wpAny_bind (wpAny_attempt (wpAny_holding ?_))
  unfold callGetattribute
  rw [hx0, if_neg Bool.false_ne_true]
  unfold boundAndCalled
  rw [PySem.F.excAttr_ValueError.ga.bind (.ref x)]
  refine wpAny_bind (wpAny_pure ?_)
  show wpAny _ _ (call (.builtin "BaseException.__getattribute__") [.ref x, .str "__class__" t]) _ _ _
  refine wpAny_call (codeAny_call_builtin PySem.F.excAttr_ValueError.ga.plain PySem.F.entry_bexc_ga ?_)
  refine @check_slot (model prog w) _ _ ⟨hp, g, d, t + 1, os⟩ "BaseException.__getattribute__" "BaseException" "__getattribute__" (.ref x) [.str "__class__" t] [] _ (by decide +kernel) (by decide +kernel) sub (PySem.F.args_bexc_ga (.ref x) (.str "__class__" t)) ?_
  unfold Builtin.«object.__getattribute__»
  refine wpAny_bind (wpAny_of_eq (a := ((Value.ref x : Value), [Value.str "__class__" t])) (by first | rfl | (simp only [slotArgs]; rfl)) ?_)
  refine wpAny_bind (wpAny_pure (wpAny_bind (L0.at (wpAny_bind (L3.at ?_)))))
  show wpAny _ _ (holding [Value.builtin "object.__class__"] (call (.builtin "getset_descriptor.__get__") [.builtin "object.__class__", .ref x, .ref D]) >>= ret) _ _ _
  refine wpAny_bind (wpAny_holding (wpAny_call (class_get (s := ⟨hp, g, d, t + 1, os⟩) (ox := ox) (od := some od) X I hm ?_)))
  refine wpAny_pure ?_
  show wpAny _ _ (handedOut (.ref D)) _ _ _
  rw [handedOut_of (v := .ref D) rfl]
  first
    | exact wpAny_pure (wpAny_pure h)
    | exact wpAny_pure h
    | exact wpAny_pure (wpAny_bind (wpAny_pure (wpAny_pure h)))
theorem kitx_excD (hga : findIn K (.ref D) "__getattribute__" = some (some (.builtin "BaseException.__getattribute__"))) (hgt : findIn K (.ref D) "__getattr__" = some none) (hsub : subIn K (.ref D) (.type "BaseException") = some true) (hdct : hasDictIn K D = true) (ha : findIn K (.ref D) "__class__" = some (some (.builtin "object.__class__")))
    (hn : specialIn K (.builtin "object.__class__") "__get__" = some (some (.builtin "getset_descriptor.__get__"))) (htk : takesIn K (.builtin "object.__class__") = some true) (hm : mroIn K D (.type "object") = some true) :
    KitX K (.ref x) (.ref D) (fun h => ∃ od : Obj, InstAt h x ox D (some od)) where
  ty := fun _ _ _ ⟨_, I⟩ => I.type
  it := fun _ _ X _ => by
    obtain ⟨cdD, hcD, _⟩ := any_some hdct
    unfold clsIn at hcD
    split at hcD
    · rename_i c' d' cd' sl' ho
      intro A' Q' E' s' k q
      unfold isType loadHead
      exact wpAny_bind (wpAny_loadPart (k _ _ (X _ _ ho)) (wpAny_pure q))
    · cases hcD
  ne := fun h tp dd its n sl X htp => by
    obtain ⟨cdD, hcD, _⟩ := any_some hdct
    refine Bool.eq_false_iff.mpr fun q => ?_
    have e : D = tp := Value.ref.inj (beq_iff_eq.mp q)
    subst e
    unfold clsIn at hcD
    split at hcD
    · rename_i c' d' cd' sl' ho
      have z := (X _ _ ho).symm.trans htp
      cases z
    · cases hcD
  ca := fun X ⟨_, I⟩ k => kin_classD hga hgt hsub hdct ha hn htk hm X I k
end
end PySem.W
namespace LR
open PySem PySem.Spec PyProof.Rows L2
/-- isinstance(e, c), e the exception that the suite holds (class cls, dict d) -/
def rIsD (K : PySem.W.Frag) (D a : Addr) (cls : Value) (d : Option Addr) : List V → Hp → VK → Prop := fun xs H Q => ∃ (c : V) (cv : Value) (b : Bool) (dd : Addr) (fs : List (Str × V)), xs = [.ref a, c] ∧ cls = .ref D ∧ d = some dd ∧ H dd = some (.xd fs) ∧ ClsV c cv ∧
  PySem.W.kitOne K (.ref D) cv = some b ∧ Q (.bl b) H
theorem call_isD {X : Cx} {a D : Addr} {cls : Value} {d : Option Addr} {oe : Obj} {pn : List (Addr × Obj)} (C : ExcC X.K D) (hz : Zc cls d oe) (hf : ∃ vs, oe.data = .fields vs) : CallR (X.suite a ((a, oe) :: pn)) (.builtin "isinstance") (rIsD X.K D a cls d) := by
  intro pins s σ H xs us Q I r h
  obtain ⟨c, cv, b, dd, fs, rfl, rfl, rfl, hd, hcv, e, q⟩ := h
  cases r with
  | cons rx rr =>
    cases rr with
    | cons rt rr =>
      cases rr
      cases rx
      have ec := hcv.eq rt
      subst ec
      obtain ⟨hget, _⟩ := I.pin (a, oe) (List.mem_append.mpr (.inl List.mem_cons_self))
      obtain ⟨vs, hv⟩ := hf
      have hx : ObjOk X.prog X.w H s.heap dd (.xd fs) := I.hok dd _ hd
      obtain ⟨mA, hns, hr⟩ := hx
      obtain ⟨od, ho, hl⟩ := lookIn_ns hns
      have J : PySem.W.InstAt s.heap a oe D (some od) := ⟨hget, hz.1, by unfold PySem.W.notCls; rw [hv] <;> rfl, by rw [hz.2]; exact ho⟩
      exact PySem.W.kia_one (PySem.W.kitx_excD C.hg C.hk C.hs C.hd C.ha C.hn C.ht C.hm) I.kIn ⟨od, J⟩ e (fun z => nomatch z) fun tk => ⟨.bl b, H, I.kept (t' := tk) fun _ _ z => z, rfl, q⟩
end LR
namespace LR
open PySem PySem.Spec PyProof.Rows L2
section
variable {X : Cx}
/-! wide ints -/
def CDivZ (_ j : Int) : Prop := j ≠ 0 ∧ j.natAbs.log2 < 9000
theorem op_fdivZ : OpR X (binaryOp .FloorDiv) (rI CDivZ fun i j => .int (i.fdiv j)) := opI fun i j _ _ _ _ _ hc q => floordiv_int hc.1 q (.inl (PyProof.noPylong_of_log2 hc.2))
def CPowZ (i j : Int) : Prop := 0 ≤ j ∧ (Builtin.Int.intBits i : Int) * j ≤ 2 ^ 27
theorem op_powZ : OpR X (binaryOp .Pow) (rI CPowZ fun i j => .int (i ^ j.toNat)) := opI fun i j _ _ _ _ _ hc q => pow_int hc.1 hc.2 q
end

/-! own operators -/
theorem cmpBack_of {v : V} {u : Value} {s : Shared} {Q : Value → Shared → Prop} (r : RelV v u) (h : Q u s) : PySem.W.CmpBack Q u s := by
  cases v with
  | non => cases (show u = Value.none from r); exact h
  | bl b => cases (show u = Value.bool b from r); exact h
  | int i => obtain ⟨t, rfl⟩ := (show ∃ t, u = Value.int i t from r); exact h
  | str x => obtain ⟨t, rfl⟩ := (show ∃ t, u = Value.str x t from r); exact h
  | byt b => obtain ⟨t, rfl⟩ := (show ∃ t, u = Value.bytes b t from r); exact h
  | flt b => obtain ⟨t, rfl⟩ := (show ∃ t, u = Value.float b t from r); exact h
  | ref a => cases (show u = Value.ref a from r); exact h
  | ty n => cases (show u = Value.type n from r); exact h

section
variable {X : Cx} {CX : CXT} {k : Nat} {C f : Addr} {fd : FuncData} {ps : List Str} {sp : Sp} {E : XK}
/-- x op y, two instances of one class, by its own method -/
def rBinO (C : Addr) (sp : Sp) (E : XK) : R2 := fun x y H Q => ∃ (a dx : Addr) (fs : List (Str × V)) (b dy : Addr) (gs : List (Str × V)), x = .ref a ∧ y = .ref b ∧ H a = some (.ins C dx fs) ∧ H b = some (.ins C dy gs) ∧ sp [.ref a, .ref b] H Q E
theorem op_binO {op : Operator} (hc : PySem.W.selfFirst X.K C = true) (hs : PySem.W.findIn X.K (.ref C) (PySem.dunder op.info.2) = some (some (.ref f))) (hf : PySem.W.isFn X.K (.ref f) = true)
    (F : FnOk X.prog X.w X.K X.mg X.base CX k f fd ps sp) (hr : Room k X.A) (hb : Binds X.K fd ps []) (hx : Passes CX X E) : OpR X (binaryOp op) (rBinO C sp E) := by
  intro pins s σ H x y v u Q I rx ry h
  obtain ⟨a, dx, fs, b, dy, gs, rfl, rfl, ha, hb', q⟩ := h
  cases rx
  cases ry
  obtain ⟨mA, J, _⟩ := ins_get I.hok ha
  obtain ⟨mB, J', _⟩ := ins_get I.hok hb'
  obtain ⟨od, J, _⟩ := J.look
  obtain ⟨od', J', _⟩ := J'.look
  obtain ⟨m, hF⟩ := I.fr
  refine PySem.W.binop_K hF I.ok.mod.kin J J'.type hc hs hf ?_
  exact wpAny_mono (run_fn F hr hb .nil hx I (vs := [.ref a, .ref b]) (.cons rfl (.cons rfl .nil)) q) (fun u s' z => by
    obtain ⟨v, H', I', r, q'⟩ := z
    exact cmpBack_of r ⟨v, H', I', r, q'⟩) fun _ _ e => e
/-- -x by its own method -/
def rUnO (C : Addr) (sp : Sp) (E : XK) : V → Hp → VK → Prop := fun x H Q => ∃ (a dx : Addr) (fs : List (Str × V)), x = .ref a ∧ H a = some (.ins C dx fs) ∧ sp [.ref a] H Q E
theorem un_negO (hs : PySem.W.findIn X.K (.ref C) "__neg__" = some (some (.ref f))) (hf : PySem.W.isFn X.K (.ref f) = true)
    (F : FnOk X.prog X.w X.K X.mg X.base CX k f fd ps sp) (hr : Room k X.A) (hb : Binds X.K fd ps []) (hx : Passes CX X E) : UnR X (unaryOp .USub) (rUnO C sp E) := by
  intro pins s σ H x v Q I rx h
  obtain ⟨a, dx, fs, rfl, ha, q⟩ := h
  cases rx
  obtain ⟨mA, J, _⟩ := ins_get I.hok ha
  obtain ⟨od, J, _⟩ := J.look
  obtain ⟨m, hF⟩ := I.fr
  refine PySem.W.ksp_neg hF I.ok.mod.kin J hs hf ?_
  exact run_fn F hr hb .nil hx I (vs := [.ref a]) (.cons rfl .nil) q
/-- x == y by its own method, y anything of a told type -/
def rCmpO (C : Addr) (sp : Sp) (E : XK) (K : PySem.W.Frag) : R2 := fun x y H Q => ∃ (a dx : Addr) (fs : List (Str × V)) (t : Value), x = .ref a ∧ H a = some (.ins C dx fs) ∧ TyX K H y t ∧ PySem.W.notFirst K C t = true ∧ sp [.ref a, y] H Q E
theorem op_eqO (hs : PySem.W.findIn X.K (.ref C) "__eq__" = some (some (.ref f))) (hf : PySem.W.isFn X.K (.ref f) = true)
    (F : FnOk X.prog X.w X.K X.mg X.base CX k f fd ps sp) (hr : Room k X.A) (hb : Binds X.K fd ps []) (hx : Passes CX X E) : OpR X (compareOp .Eq) (rCmpO C sp E X.K) := by
  intro pins s σ H x y v u Q I rx ry h
  obtain ⟨a, dx, fs, t, rfl, ha, ty, hn, q⟩ := h
  cases rx
  obtain ⟨P, Z, p, _⟩ := kit_of I ry ty
  obtain ⟨mA, J, _⟩ := ins_get I.hok ha
  obtain ⟨od, J, _⟩ := J.look
  obtain ⟨m, hF⟩ := I.fr
  show wpAny (model X.prog X.w) X.A (richCompare .Eq (.ref a) u) (EP X pins σ Q) X.xe s
  refine PySem.W.cmp_K (op := .Eq) (hu_of hr |> Nat.lt_of_succ_lt) hF I.ok.mod.kin J (Z.ty _ _ I.kIn p) hn hs hf ?_
  exact wpAny_mono (run_fn F hr hb .nil hx I (vs := [.ref a, y]) (.cons rfl (.cons ry .nil)) q) (fun u s' z => by
    obtain ⟨v, H', I', r, q'⟩ := z
    exact cmpBack_of r ⟨v, H', I', r, q'⟩) fun _ _ e => e
end

/-! != by an own __eq__ -/
section
open PySem.W PySem.Calls Builtin
variable {prog : Program} {w : World} {A : Around} {E : Value → Shared → Prop} {s : Shared} {K : PySem.W.Frag} {x C L f : Addr} {h₀ : Heap} {m : Str → Option Value} {ox : Obj} {od : Option Obj} {b tb : Value}
theorem ifBound_S {M : Model} {args : List Value} {name : Str} {id : String} {Q : Option Value → Shared → Prop} (X : K.In s.heap) (I : InstAt s.heap x ox C od) (hs : findIn K (.ref C) name = some (some (.builtin id)))
    (hb : ∀ self, bindSpecial (.builtin id) self = pure (.builtin id, [self])) (h : wpAny M A (call (.builtin id) (.ref x :: args)) (fun v => Q (some v)) E s) : wpAny M A (callSpecialIfBound? (.ref x) name args) Q E s := by
  simp only [callSpecialIfBound?, bindSpecialIfBound?]
  refine wpAny_holding (wpAny_bind (wpAny_bind (wpAny_bind (I.type.here ((looks_findIn X hs).here ?_)))))
  simp only [hb]
  refine wpAny_bind (wpAny_askSetting (wpAny_ite ?_))
  have fin : wpAny M A (call (.builtin id) ([.ref x] ++ args) >>= fun v => pure (some v)) Q E s := wpAny_bind (wpAny_mono h (fun v s' h' => wpAny_pure h') fun _ _ h' => h')
  split
  · exact wpAny_bind (wpAny_pure (wpAny_pure fin))
  · exact wpAny_tryCatch (wpAny_bind (wpAny_pure (wpAny_pure fin)))
theorem cmp_one {op : CmpOp} {Q : Value → Shared → Prop} (hu : A.units < cLine) (X : K.In s.heap) (I : InstAt s.heap x ox C od) (hb : Looks (model prog w) s.heap (typeOf b) tb) (hn : notFirst K C tb = true)
    (one : wpAny (model prog w) A (tryCompare (.ref x) (cmpInfo op).2.1 b) (fun r s' => ∃ v, r = some v ∧ Q v s') E s) : wpAny (model prog w) A (richCompare op (.ref x) b) Q E s := by
  unfold richCompare
  simp only [oneThing_ref]
  refine wpAny_holding (wpAny_bind (wpAny_cRoomFor hu ?_))
  refine wpAny_bind (I.type.here (wpAny_bind (hb.here ?_)))
  split
  · rename_i q
    have e : subIn K tb (.ref C) = some false := by
      rcases Bool.or_eq_true_iff.mp hn with e | e
      · rw [beq_iff_eq.mp e] at q; simp at q
      · exact beq_iff_eq.mp e
    refine wpAny_bind ((looks_subIn X e).here ?_)
    simp only [Bool.false_eq_true, if_false]
    refine wpAny_bind (wpAny_mono one (fun r s' z => ?_) fun _ _ e => e)
    obtain ⟨v, rfl, hq⟩ := z
    exact wpAny_pure hq
  · refine wpAny_bind (wpAny_pure ?_)
    simp only [Bool.false_eq_true, if_false]
    refine wpAny_bind (wpAny_mono one (fun r s' z => ?_) fun _ _ e => e)
    obtain ⟨v, rfl, hq⟩ := z
    exact wpAny_pure hq
theorem ne_try {Q : Option Value → Shared → Prop} (hu : A.units + 1 < cLine) (X : K.In s.heap) (I : InstAt s.heap x ox C od) (hn : findIn K (.ref C) "__ne__" = some (some (.builtin "object.__ne__"))) (ho : subIn K (.ref C) (.type "object") = some true)
    (hs : findIn K (.ref C) "__eq__" = some (some (.ref f))) (hf : isFn K (.ref f) = true)
    (h : wpAny (model prog w) A.in1 (call (.ref f) [.ref x, b]) (fun v s' => ∃ r, v = .bool r ∧ Q (some (.bool (!r))) s') E s) : wpAny (model prog w) A (tryCompare (.ref x) "__ne__" b) Q E s := by
  have SL : Slot "object" "__ne__" "object.__ne__" := .of (owner := "object") (n := "__ne__") (by rw [typeLookup_type, builtinLookup_eq_fast]; kernel_rfl) (by decide +kernel) (by decide +kernel) (by decide +kernel)
    (by first | exact .inl (by decide +kernel) | exact .inr (by decide +kernel)) (by rw [isSubtype_type]; kernel_rfl)
  simp only [tryCompare]
  refine wpAny_bind (ifBound_S X I hn SL.bind (wpAny_call (codeAny_call_builtin SL.plain PySem.F.cmpEntry_ne ?_)))
  refine @PySem.W.check_slot (model prog w) _ _ s "object.__ne__" "object" "__ne__" (.ref x) [b] [] _ PySem.F.cmpKind_ne PySem.F.cmpSplit_ne (I.type.andThen (looks_subIn X ho)) (PySem.F.cmpArgs_ne (.ref x) b) ?_
  unfold Builtin.«object.__ne__»
  refine wpAny_bind (wpAny_pure ?_)
  dsimp only
  refine wpAny_bind (wpAny_cRoomFor hu ?_)
  refine wpAny_bind (m := callSpecialIfBound? (.ref x) (Str.ofString "__eq__") [b]) (ifBound_K X I hs hf (wpAny_mono h (fun v s' hv => ?_) fun _ _ e => e))
  obtain ⟨r, rfl, hq⟩ := hv
  dsimp only
  refine wpAny_bind (m := truthy (.bool _)) (wpAny_truthy_bool ?_)
  first
    | exact wpAny_pure ⟨_, rfl, wpAny_pure hq⟩
    | exact wpAny_pure ⟨_, rfl, hq⟩
    | exact wpAny_pure (wpAny_pure hq)
    | exact wpAny_pure (wpAny_pure (wpAny_pure hq))
end

section
variable {X : Cx} {CX : CXT} {k : Nat} {C f : Addr} {fd : FuncData} {ps : List Str} {sp : Sp} {E : XK}
/-- x != y by its own == -/
def rNeO (C : Addr) (sp : Sp) (E : XK) (K : PySem.W.Frag) : R2 := fun x y H Q => ∃ (a dx : Addr) (fs : List (Str × V)) (t : Value), x = .ref a ∧ H a = some (.ins C dx fs) ∧ TyX K H y t ∧ PySem.W.notFirst K C t = true ∧
  sp [.ref a, y] H (fun v H' => ∃ b : Bool, v = .bl b ∧ Q (.bl (!b)) H') E
theorem op_neO (hn : PySem.W.findIn X.K (.ref C) "__ne__" = some (some (.builtin "object.__ne__"))) (ho : PySem.W.subIn X.K (.ref C) (.type "object") = some true)
    (hs : PySem.W.findIn X.K (.ref C) "__eq__" = some (some (.ref f))) (hf : PySem.W.isFn X.K (.ref f) = true)
    (F : FnOk X.prog X.w X.K X.mg X.base CX k f fd ps sp) (hr : Room (k + 1) X.A) (hb : Binds X.K fd ps []) (hx : Passes CX X.nox E) : OpR X (compareOp .NotEq) (rNeO C sp E X.K) := by
  intro pins s σ H x y v u Q I rx ry h
  obtain ⟨a, dx, fs, t, rfl, ha, ty, hnf, q⟩ := h
  cases rx
  obtain ⟨P, Z, p, _⟩ := kit_of I ry ty
  obtain ⟨mA, J, _⟩ := ins_get I.hok ha
  obtain ⟨od, J, _⟩ := J.look
  show wpAny (model X.prog X.w) X.A (richCompare .NotEq (.ref a) u) (EP X pins σ Q) X.xe s
  refine cmp_one (op := .NotEq) (hu_of hr |> Nat.lt_of_succ_lt) I.kIn J (Z.ty _ _ I.kIn p) hnf ?_
  have hl : [Value.ref a, u].length = ps.length := by
    rw [← F.len _ _ _ _ q]
    rfl
  refine ne_try (hu_of hr) I.kIn J hn ho hs hf (wpAny_call (codeAny_mono (F.run X.A.in1 X.stack s H ⟨[.ref a, u], []⟩ [.ref a, u] [.ref a, y] _ E hr.in1 I.env0.in1 (by simpa using hb s [.ref a, u] I.kIn (by simpa using hl)) (.cons rfl (.cons ry .nil)) q) fun r s' hq => ?_))
  cases r with
  | error er => exact False.elim (hx pins σ H s er s' (I.wish _) hq)
  | ok fl =>
    cases fl with
    | ret w =>
      obtain ⟨v, H', I', rv, b, rfl, q3⟩ := I.after hq
      cases rv
      exact ⟨b, rfl, _, rfl, .bl (!b), H', I', rfl, q3⟩
    | next => exact False.elim hq
    | brk => exact False.elim hq
    | cont => exact False.elim hq
/-- abs(x) by its own method -/
theorem call_absO (hs : PySem.W.findIn X.K (.ref C) "__abs__" = some (some (.ref f))) (hf : PySem.W.isFn X.K (.ref f) = true)
    (F : FnOk X.prog X.w X.K X.mg X.base CX k f fd ps sp) (hr : Room (k + 1) X.A) (hb : Binds X.K fd ps []) (hx : Passes CX X.nox E) : CallR X (.builtin "abs") (fun xs H Q => ∃ (a dx : Addr) (fs : List (Str × V)), xs = [.ref a] ∧ H a = some (.ins C dx fs) ∧ sp [.ref a] H Q E) := by
  intro pins s σ H xs us Q I r h
  obtain ⟨a, dx, fs, rfl, ha, q⟩ := h
  obtain ⟨u, rfl, ru⟩ := vals1 r
  cases ru
  obtain ⟨mA, J, _⟩ := ins_get I.hok ha
  obtain ⟨od, J, _⟩ := J.look
  have hl : [Value.ref a].length = ps.length := by
    rw [← F.len _ _ _ _ q]
    rfl
  refine PySem.Calls.call_function_entry kind_abs plain_abs entry_abs (args_abs _) ?_
  unfold Builtin.«abs»
  refine wpAny_bind (m := oneArg "abs" _) (wpAny_pure ?_)
  refine wpAny_bind (m := callSpecial? (.ref a) (Str.ofString "__abs__")) (PySem.W.special_fn I.kIn J hs (beq_iff_eq.mp hf) (wpAny_call (codeAny_mono (F.run X.A.in1 X.stack s H ⟨[.ref a], []⟩ [.ref a] [.ref a] _ E hr.in1 I.env0.in1 (by simpa using hb s [.ref a] I.kIn (by simpa using hl)) (.cons rfl .nil) q) fun r s' hq => ?_)))
  cases r with
  | error er => exact False.elim (hx pins σ H s er s' (I.wish _) hq)
  | ok fl =>
    cases fl with
    | ret w =>
      obtain ⟨v, H', I', rv, q3⟩ := I.after hq
      exact wpAny_pure ⟨_, rfl, v, H', I', rv, q3⟩
    | next => exact False.elim hq
    | brk => exact False.elim hq
    | cont => exact False.elim hq
end

/-! calls within a try -/
section
variable {X : Cx} {CX : CXT} {k : Nat} {C f : Addr} {fd : FuncData} {ps : List Str} {sp : Sp} {dvs : List V} {ds : List Value} {E : L2.St → XK} {x m : Str} {p pos apos : Pos} {e o : Expr} {es : List Expr} {ta : TE} {t : TA}
theorem run_makeS {pins : List (Addr × Obj)} {σ : L2.St} {H : Hp} {s : Shared} {Q : VK} {us : List Value} {vs : List V} (M : Mk X.K C f) (F : FnOk X.prog X.w X.K X.mg X.base CX k f fd ps sp) (hr : Room (k + 1) X.A) (hb : Binds X.K fd ps ds) (hd : Vals dvs ds)
    (hx : PassesAt CX X σ (E σ)) (I : Inv X pins σ H s) (r : Vals vs us)
    (h : ∀ x dx, H x = none → H dx = none → dx ≠ x → sp (.ref x :: (vs ++ dvs)) (upd (upd H dx (.own x)) x (.ins C dx [])) (fun v H2 => v = .non ∧ Q (.ref x) H2) (E σ)) :
    wpAny (model X.prog X.w) X.A (call (.ref C) us) (EP X pins σ Q) X.xe s := by
  have hq := h (s.heap.objs.size + 1) s.heap.objs.size (I.hok.fresh (Nat.le_succ _)) (I.hok.fresh (Nat.le_refl _)) (Nat.ne_of_lt (Nat.lt_succ_self _))
  have I2 := Inv.made (C := C) I
  have r2 : Vals (V.ref (s.heap.objs.size + 1) :: (vs ++ dvs)) (Value.ref (s.heap.objs.size + 1) :: (us ++ ds)) := .cons rfl (r.append hd)
  have hl : (Value.ref (s.heap.objs.size + 1) :: us ++ ds).length = ps.length := by
    have e := r2.length
    rw [F.len _ _ _ _ hq] at e
    exact e.symm
  refine wpAny_call (make_map (f := f) I.kIn M.makes M.init (beq_iff_eq.mp M.fn) (codeAny_mono (F.run _ X.stack _ _ ⟨Value.ref (s.heap.objs.size + 1) :: us, []⟩ (Value.ref (s.heap.objs.size + 1) :: (us ++ ds)) _ _ (E σ) (hr.make C us [])
    (I2.env0.make C us []) (hb _ (Value.ref (s.heap.objs.size + 1) :: us) I2.kIn hl) r2 hq) fun r s' hq' => ?_))
  cases r with
  | error e => exact hx pins _ _ e s' I2 hq'
  | ok fl =>
    cases fl with
    | ret u =>
      obtain ⟨v, H', I3, rv, ev, q3⟩ := I2.after hq'
      subst ev
      exact ⟨rv, ⟨V.ref (s.heap.objs.size + 1), H', I3, rfl, q3⟩⟩
    | next => exact False.elim hq'
    | brk => exact False.elim hq'
    | cont => exact False.elim hq'
def tMakeS (C : Addr) (sp : Sp) (dvs : List V) (E : L2.St → XK) (t : TA) : TE := fun σ H Q => t σ H fun vs H1 => ∀ x dx, H1 x = none → H1 dx = none → dx ≠ x →
  sp (.ref x :: (vs ++ dvs)) (upd (upd H1 dx (.own x)) x (.ins C dx [])) (fun v H2 => v = .non ∧ Q (.ref x) H2) (E σ)
theorem pe_makeS (M : Mk X.K C f) (F : FnOk X.prog X.w X.K X.mg X.base CX k f fd ps sp) (hr : Room (k + 1) X.A) (hg : Gl X x) (hm : X.mg x = some (.ref C)) (hb : Binds X.K fd ps ds) (hd : Vals dvs ds) (hx : ∀ σ, PassesAt CX X σ (E σ))
    (ha : PA X (e :: es) t) (hdb : (x == ("__debug__" : Str)) = false := by decide) (he : starEach (e :: es) X.env = (false, eval e X.env) :: starEach es X.env := by rfl) (hpl : (backTo pos (starEach es X.env)).any (·.1) = false := by rfl) :
    PE X (.Call (.Name x p) (e :: es) [] pos) (tMakeS C sp dvs E t) := by
  refine ⟨fun pins s σ H Q I h => ?_⟩
  refine wpAny_Call_Name_kw (ld_glob I hg hm ?_ hdb)
  refine PySem.W.callWith_K (h₀ := X.base) I.ok.mod.kin M.kp (thn (ha.run pos pins s σ H _ I h) fun us s1 ⟨vs, H1, I1, r, q⟩ => ⟨I1.kIn, ?_⟩) he hpl
  exact run_makeS M F hr hb hd (hx σ) I1 r q
/-- o.m(e, ..) within a try -/
def tMethS (C : Addr) (m : Str) (sp : Sp) (E : L2.St → XK) (ta : TE) (t : TA) : TE := fun σ H Q => ta σ H fun x H1 => ∃ a dx fs, x = .ref a ∧ H1 a = some (.ins C dx fs) ∧ fs.lookup m = none ∧ t σ H1 fun vs H2 => sp (x :: vs) H2 Q (E σ)
theorem pe_methS {pl : Sem Bool} (he : PE X o ta) (c : Cls X.K C) (hm : Meth X.K C m f)
    (F : FnOk X.prog X.w X.K X.mg X.base CX k f fd ps sp) (hr : Room k X.A) (hb : Binds X.K fd ps []) (hx : ∀ σ, PassesAt CX X σ (E σ)) (ha : PA X (e :: es) t)
    (hst : starEach (e :: es) X.env = (false, eval e X.env) :: starEach es X.env := by rfl) (hpl : (backTo pos (starEach es X.env)).any (·.1) = false := by rfl)
    (ht : eval (.Call (.Attribute o m apos) (e :: es) [] pos) X.env = (do
      let ov ← eval o X.env
      standAt apos.atName
      let (f, first) ← holding [ov] (getMethod ov m pl)
      callWith pos f first (backTo pos (starEach (e :: es) X.env)) (backToKw pos (keywordEach [] X.env))) := by rfl) :
    PE X (.Call (.Attribute o m apos) (e :: es) [] pos) (tMethS C m sp E ta t) := by
  refine ⟨fun pins s σ H Q I h => ?_⟩
  refine PySem.W.methodCall_KW (pl := pl) (thn (he.run pins s σ H _ I h) fun u s1 ⟨x, H1, I1, rx, a, dx, fs, ex, ea, l, q⟩ => ?_) ht
  subst ex
  obtain rfl : u = Value.ref a := rx
  refine getmeth_ok I1 ea c hm l ?_
  refine PySem.W.callWith_K (first := [.ref a]) (h₀ := X.base) I.ok.mod.kin hm.kp (thn (ha.run pos pins s1 σ H1 _ I1 q) fun us s2 ⟨vs, H2, I2, r, q2⟩ => ⟨I2.kIn, ?_⟩) hst hpl
  exact run_fnS (us := .ref a :: us) (vs := .ref a :: vs) F hr hb (hx σ) I2 (.cons rfl r) q2
/-- C(), an own exception made by its own __init__ -/
theorem pmk_oex0 {fI : Addr} {ps : List Str} {sp : Sp} (T : OexC X.K C) (iC : PySem.W.findIn X.K (.ref C) "__init__" = some (some (.ref fI))) (tI : PySem.W.typeIn X.K (.ref fI) = some (.type "function"))
    (F1 : FnOk X.prog X.w X.K X.mg X.base CX k fI fd ps sp) (hr : Room (k + 1) X.A) (hb : Binds X.K fd ps []) (hx : Passes CX X (fun _ _ _ => False)) (hg : Gl X x) (hm : X.mg x = some (.ref C))
    (hdb : (x == ("__debug__" : Str)) = false := by decide) :
    PMk X (.Call (.Name x p) [] [] pos) (tMkO C sp [] tNil) := by
  intro pins s σ H Q I h
  obtain ⟨nm, q, N, bs, bm, sn, sub, ab, col, dd, k0, k1, k2, k3, k5, hC, hbm⟩ := T.cls
  refine wpAny_Call_Name_kw (ld_glob I hg hm ?_ hdb)
  refine PySem.W.callWith_K0 I.kIn T.kC ?_
  show wpAny _ _ (call (.ref C) []) _ _ _
  obtain ⟨hz, q1⟩ := h
  obtain ⟨hp, g, dr, tk, os⟩ := s
  have hsz : hp.objs.size ≤ hp.objs.size + 1 := Nat.le_succ _
  have hn : H (hp.objs.size + 1) = none := I.hok.fresh hsz
  have hq := q1 (hp.objs.size + 1) hn
  have kk : ∀ b o, hp.get? b = some o → ((hp.push (PySem.W.kdv_tup [])).push (PySem.HandSPX.excO C hp.objs.size)).get? b = some o := fun b o e => Heap.get?_push_of_some _ (Heap.get?_push_of_some _ e)
  have hget : ((hp.push (PySem.W.kdv_tup [])).push (PySem.HandSPX.excO C hp.objs.size)).get? (hp.objs.size + 1) = some (PySem.HandSPX.excO C hp.objs.size) := by heap_get
  have I2 : Inv X pins σ (upd H (hp.objs.size + 1) (exo (hp.objs.size + 1) C none)) ⟨(hp.push (PySem.W.kdv_tup [])).push (PySem.HandSPX.excO C hp.objs.size), g, dr, tk, os⟩ :=
    I.laid (t' := tk) (a := hp.objs.size + 1) (o := exo (hp.objs.size + 1) C none) (h' := (hp.push (PySem.W.kdv_tup [])).push (PySem.HandSPX.excO C hp.objs.size)) kk hsz (exo_ok hget)
  have r2 : Vals [V.ref (hp.objs.size + 1)] [Value.ref (hp.objs.size + 1)] := .cons rfl .nil
  have hl : [Value.ref (hp.objs.size + 1)].length = ps.length := by
    have e := r2.length
    rw [← F1.len _ _ _ _ hq]
    rfl
  have hus : ([] : List Value).length ≤ sizeLine := by
    rw [sizeLine_eq]
    exact Nat.zero_le _
  refine wpAny_call (PySem.HandSPX.call_own F.excBase_ValueError (fun Y => PySem.HandSPX.refsVE_contains Y bm hbm) (I.kIn _ _ hC) (PySem.W.looks_findIn I.kIn iC) (fun self => PySem.W.bind_fn I.kIn self tI) hus
    (codeAny_mono (F1.run _ X.stack _ _ ⟨[Value.ref (hp.objs.size + 1)], []⟩ [Value.ref (hp.objs.size + 1)] [V.ref (hp.objs.size + 1)] _ (fun _ _ _ => False) (hr.make C [] []) (I2.env0.make C [] []) (by simpa using hb _ [Value.ref (hp.objs.size + 1)] I2.kIn (by simpa using hl)) r2 hq) fun r s' hq' => ?_))
  cases r with
  | error er => exact hx pins σ _ _ er s' I2 hq'
  | ok fl =>
    cases fl with
    | ret u =>
      obtain ⟨v, H2, os2, bare2, un2, hok2, rv, ev, d, fs, ea, ed, hd1, q2⟩ := hq'
      subst ev
      obtain ⟨h2, g2, d2, t2, os'⟩ := s'
      exact ⟨rv, mk_end (raises_own T.exC T.tyC) I hsz kk un2 hok2 os2 bare2 ea ed hd1 q2⟩
    | next => exact False.elim hq'
    | brk => exact False.elim hq'
    | cont => exact False.elim hq'
end
end LR

namespace LR
open PySem PySem.Spec PyProof.Rows L2
section
variable {X : Cx}
/-- * wherever the model lets it -/
theorem op_mulZ : OpR X (binaryOp .Mult) (rI IntMulOk fun i j => .int (i * j)) := opI fun _ _ _ _ _ _ _ hc q => mul_int q hc
end
theorem mulL {i j : Int} (h1 : -(2 ^ 63) ≤ i) (h2 : i ≤ 2 ^ 63) : IntMulOk i j := .of_left (PySem.intBits_le_64 (by omega) (by omega))
theorem mulR {i j : Int} (h1 : -(2 ^ 63) ≤ j) (h2 : j ≤ 2 ^ 63) : IntMulOk i j := .of_right (PySem.intBits_le_64 (by omega) (by omega))
theorem mulW {i j : Int} {a b : Nat} (ha : i.natAbs < 2 ^ a) (hb : j.natAbs < 2 ^ b) (h0 : 0 < a) (h1 : 0 < b) (h : a + b ≤ 1000000) : IntMulOk i j := (wide_mul ha hb h0 h1 h).ok
theorem divZ {i j : Int} {b : Nat} (h : j ≠ 0) (hb : j.natAbs < 2 ^ b) (h0 : 0 < b) (h9 : b ≤ 9000) : CDivZ i j := ⟨h, Nat.lt_of_lt_of_le (PySem.Flt.log2_lt_of h0 hb) h9⟩
/-! what is asked of the written part -/
def oexB (K : PySem.W.Frag) (C : Addr) : Bool := (match K.lookup C with
  | some ⟨.type "type", _, .cls cd, sl⟩ => (match cd.mro, sl.toList with
    | .ref C' :: bm, [_, _, _, _, some (.builtin n), _] => decide (C' = C) && (decide (n = "ValueError.__new__") && (!cd.hasDel && (cd.hasDict && PySem.HandSPX.refsVE bm)))
    | _, _ => false)
  | _ => false) && (decide (PySem.W.findIn K (.ref C) "__setattr__" = some (some (.builtin "object.__setattr__"))) && (decide (PySem.W.subIn K (.ref C) (.type "BaseException") = some true) &&
    (decide (PySem.W.typeIn K (.ref C) = some (.type "type")) && PySem.W.keepIn K (.ref C))))
theorem oexB_ok {K : PySem.W.Frag} {C : Addr} (h : oexB K C = true) : OexC K C := by
  obtain ⟨h1, h⟩ := Bool.and_eq_true_iff.mp h
  obtain ⟨h2, h⟩ := Bool.and_eq_true_iff.mp h
  obtain ⟨h3, h⟩ := Bool.and_eq_true_iff.mp h
  obtain ⟨h4, h5⟩ := Bool.and_eq_true_iff.mp h
  refine ⟨?_, of_decide_eq_true h2, of_decide_eq_true h3, of_decide_eq_true h4, h5⟩
  split at h1
  · rename_i dd cd sl ho
    split at h1
    · rename_i C' bm k0 k1 k2 k3 n k5 hm hs
      simp only [Bool.and_eq_true, decide_eq_true_eq, Bool.not_eq_true'] at h1
      obtain ⟨rfl, rfl, hdel, hdict, hv⟩ := h1
      obtain ⟨nm, bs, mro, ns, qn, hd, sn, sub, ab, col, dl⟩ := cd
      dsimp only at hm hdel hdict
      subst hm hdel hdict
      have hsl : sl = #[k0, k1, k2, k3, some (.builtin "ValueError.__new__"), k5] := by
        obtain ⟨l⟩ := sl
        dsimp only at hs
        rw [hs]
      subst hsl
      exact ⟨nm, qn, ns, bs, bm, sn, sub, ab, col, dd, k0, k1, k2, k3, k5, ho, hv⟩
    · cases h1
  · cases h1
def excB (K : PySem.W.Frag) (D : Addr) : Bool := decide (PySem.W.findIn K (.ref D) "__class__" = some (some (.builtin "object.__class__"))) && (decide (PySem.W.specialIn K (.builtin "object.__class__") "__get__" = some (some (.builtin "getset_descriptor.__get__"))) &&
  (decide (PySem.W.takesIn K (.builtin "object.__class__") = some true) && decide (PySem.W.mroIn K D (.type "object") = some true)))
theorem excB_ok {K : PySem.W.Frag} {D : Addr} (x : xfB K D = true) (h : excB K D = true) : ExcC K D := by
  obtain ⟨h1, h⟩ := Bool.and_eq_true_iff.mp h
  obtain ⟨h2, h⟩ := Bool.and_eq_true_iff.mp h
  obtain ⟨h3, h4⟩ := Bool.and_eq_true_iff.mp h
  have y := xfB_ok x
  exact ⟨y.ga, y.gg, y.exC, y.hdC, of_decide_eq_true h1, of_decide_eq_true h2, of_decide_eq_true h3, of_decide_eq_true h4⟩
/-- an own error class: made by its __init__, its fields read, asked by isinstance, named by except -/
def exAll (K : PySem.W.Frag) (x : Str) : Bool := oexB K (He.ga K x) && (xfB K (He.ga K x) && (excB K (He.ga K x) && (decide (PySem.W.findIn K (.ref (He.ga K x)) "__init__" = some (some (.ref (He.ma K (He.ga K x) "__init__")))) &&
  (decide (PySem.W.typeIn K (.ref (He.ma K (He.ga K x) "__init__")) = some (.type "function")) && decide (PySem.W.exmOne K (.ref (He.ga K x)) (.ref (He.ga K x)) = some true)))))
/-- an own class: its mro, its != -/
def clAll (K : PySem.W.Frag) (x : Str) : Bool := PySem.W.selfFirst K (He.ga K x) && (decide (PySem.W.findIn K (.ref (He.ga K x)) "__ne__" = some (some (.builtin "object.__ne__"))) && (decide (PySem.W.subIn K (.ref (He.ga K x)) (.type "object") = some true) &&
  (decide (PySem.W.findIn K (.ref (He.ga K x)) "__class__" = some (some (.builtin "object.__class__"))) && (decide (PySem.W.specialIn K (.builtin "object.__class__") "__get__" = some (some (.builtin "getset_descriptor.__get__"))) &&
  (decide (PySem.W.takesIn K (.builtin "object.__class__") = some true) && decide (PySem.W.mroIn K (He.ga K x) (.type "object") = some true))))))
/-- a property x.f: its record, its getter -/
def prAd (K : PySem.W.Frag) (x f : Str) : Addr := match PySem.W.findIn K (.ref (He.ga K x)) f with
  | some (some (.ref p)) => p
  | _ => 0
def prGet (K : PySem.W.Frag) (x f : Str) : Addr := match PySem.W.recIn K (prAd K x f) "property" with
  | some (.ref g :: _) => g
  | _ => 0
def prB (K : PySem.W.Frag) (x f : Str) : Bool := decide (PySem.W.findIn K (.ref (He.ga K x)) f = some (some (.ref (prAd K x f)))) && (decide (PySem.W.specialIn K (.ref (prAd K x f)) "__get__" = some (some (.builtin "property.__get__"))) &&
  (decide (PySem.W.takesIn K (.ref (prAd K x f)) = some true) && (match PySem.W.recIn K (prAd K x f) "property" with
    | some (.ref g :: _) => decide (g = prGet K x f)
    | _ => false)))
theorem prB_ok {K : PySem.W.Frag} {x f : Str} (h : prB K x f = true) : PropOf K (He.ga K x) f (prAd K x f) (prGet K x f) := by
  obtain ⟨h1, h⟩ := Bool.and_eq_true_iff.mp h
  obtain ⟨h2, h⟩ := Bool.and_eq_true_iff.mp h
  obtain ⟨h3, h4⟩ := Bool.and_eq_true_iff.mp h
  refine ⟨of_decide_eq_true h1, of_decide_eq_true h2, of_decide_eq_true h3, ?_⟩
  split at h4
  · rename_i g rest e
    exact ⟨rest, by rw [e, of_decide_eq_true h4]⟩
  · cases h4
/-- one def: its address in the written part, its name, qualified name, parameters, body, scope, defaults -/
structure Df where
  at_ : PySem.W.Frag → Addr
  name : Str
  qual : Str
  params : Arguments
  body : List Stmt
  scope : Scope
  dfl : List He.Dv := []
def fnWA (K : PySem.W.Frag) (f : Addr) : He.FnW := match K.lookup f with
  | some ⟨_, _, .func fd, _⟩ => some (fd.name, fd.qualname, fd.params, fd.body, fd.scope, fd.globals, fd.closure, fd.builtins)
  | _ => none
def Df.val (d : Df) : He.FnW := some (d.name, d.qual, d.params, .stmts d.body, d.scope, mainGlobals, [], builtinsNs)
def Df.dvs (K : PySem.W.Frag) (d : Df) : List V := d.dfl.map (He.Dv.v K)
def Df.ok (K : PySem.W.Frag) (d : Df) : Bool := PySem.W.keepIn K (.ref (d.at_ K)) && (match K.lookup (d.at_ K) with
  | some ⟨_, _, .func fd, _⟩ => PySem.W.codeIn K fd.code d.qual && He.dflB K fd.defaults (d.dvs K)
  | _ => false)
theorem Df.funD {K : PySem.W.Frag} {d : Df} (e : fnWA K (d.at_ K) = d.val) (c : d.ok K = true) : ∃ fd, FunD K d.name d.qual d.params d.body d.scope (d.dvs K) [] (d.at_ K) fd := by
  obtain ⟨kp, c2⟩ := Bool.and_eq_true_iff.mp c
  unfold fnWA at e
  cases q : K.lookup (d.at_ K) with
  | none =>
    rw [q] at c2
    exact absurd c2 Bool.false_ne_true
  | some o =>
    obtain ⟨oc, od, dt, osl⟩ := o
    rw [q] at c2 e
    cases dt with
    | func fd =>
      obtain ⟨n1, n2, n3, n4, n5, n6, n7, n8, n9, n10, n11, n12, n13, n14, n15⟩ := fd
      have e2 : (some (n1, n2, n3, n4, n5, n6, n7, n15) : He.FnW) = some (d.name, d.qual, d.params, .stmts d.body, d.scope, mainGlobals, [], builtinsNs) := e
      simp only [Option.some.injEq, Prod.mk.injEq] at e2
      obtain ⟨h1, h2, h3, h4, h5, h6, h7, h8⟩ := e2
      subst h1 h2 h3 h4 h5 h6 h7 h8
      obtain ⟨k1, k2⟩ := Bool.and_eq_true_iff.mp (show (PySem.W.codeIn K n13 d.qual && He.dflB K n8 (d.dvs K)) = true from c2)
      exact ⟨_, ⟨oc, od, n8, n9, n10, n11, n12, n13, n14, osl, rfl, q, k1, He.dflB_ok k2, .inl rfl⟩, kp⟩
    | _ => exact absurd c2 Bool.false_ne_true
/-- the lists of a law: global names (defs, classes), free ones, own classes, error classes, methods, attributes that no class holds, names of functions of other modules, answers of isinstance, properties; the defs -/
structure Ls where
  gl : List Str
  fr : List Str
  cl : List Str := []
  ex : List Str := []
  me : List (Str × Str) := []
  no : List (Str × Str) := []
  bl : List (Str × String) := []
  kit : List (Value × Str × Bool) := []
  kie : List (Str × Str × Bool) := []
  kiv : List (Str × String × Bool) := []
  pr : List (Str × Str) := []
  nf : List (Str × String) := []
  fn : List Df
def Ls.fa (L : Ls) : List He.Fa := L.gl.map He.Fa.glo ++ (L.gl.map He.Fa.keep ++ (L.fr.map He.Fa.free ++ (L.cl.map He.Fa.cls ++ (L.cl.map He.Fa.mkr ++ (L.me.map (fun p => He.Fa.meth p.1 p.2) ++ L.no.map (fun p => He.Fa.noat p.1 p.2))))))
def Ls.exb (L : Ls) (K : PySem.W.Frag) : Bool := L.cl.all (clAll K) && (L.ex.all (exAll K) && (L.bl.all (fun p => decide (PySem.W.nsIn K mainGlobals p.1 = some (some (.builtin p.2)))) && (L.kit.all (fun p => decide (PySem.W.kitOne K p.1 (.ref (He.ga K p.2.1)) = some p.2.2)) &&
  (L.kie.all (fun p => decide (PySem.W.kitOne K (.ref (He.ga K p.1)) (.ref (He.ga K p.2.1)) = some p.2.2)) && (L.kiv.all (fun p => decide (PySem.W.kitOne K (.ref (He.ga K p.1)) (.type p.2.1) = some p.2.2)) && (L.pr.all (fun p => prB K p.1 p.2) &&
  L.nf.all (fun p => PySem.W.notFirst K (He.ga K p.1) (.type p.2))))))))
def adrs : Nat → List Addr
  | 0 => []
  | n + 1 => n :: adrs n
abbrev AlL : Type := Bool × List He.FnW
def Ls.obs (L : Ls) (K : PySem.W.Frag) : AlL := ((L.fa.all fun f => f.ok K) && ((L.fn.all fun d => d.ok K) && L.exb K), L.fn.map fun d => fnWA K (d.at_ K))
def Ls.val (L : Ls) : AlL := (true, L.fn.map Df.val)
def Ls.obsG (n : Nat) (L : Ls) (g : Addr → Option Obj) : AlL := L.obs (He.frG g (adrs n))
def hookL (n : Nat) (L : Ls) : PySem.W.Hook where
  α := AlL
  obs := fun s => L.obsG n s.heap.get?
  val := fun _ => L.val
  says := fun _ h => ∃ K : PySem.W.Frag, K.In h ∧ L.obs K = L.val
  of := fun _ _ e => ⟨_, He.frG_in, e⟩
  keeps := fun _ _ _ ⟨K, hK, c⟩ k => ⟨K, PySem.W.Frag.In.keeps hK k, c⟩
theorem Ls.obsG_eq {n : Nat} {L : Ls} {g : Addr → Option Obj} {s : Shared} (h : ∀ a, g a = s.heap.get? a) : L.obsG n g = (hookL n L).obs s := by
  rw [show g = s.heap.get? from funext h] <;> rfl
structure Txt (L : Ls) (K : PySem.W.Frag) (mg : Str → Option Value) : Prop where
  gA : ∀ x ∈ L.gl, mg x = some (.ref (He.ga K x))
  kA : ∀ x ∈ L.gl, PySem.W.keepIn K (.ref (He.ga K x)) = true
  fA : ∀ x ∈ L.fr, mg x = none
  clA : ∀ x ∈ L.cl, Cls K (He.ga K x)
  mkA : ∀ x ∈ L.cl, Mk K (He.ga K x) (He.ma K (He.ga K x) "__init__")
  meA : ∀ p ∈ L.me, Meth K (He.ga K p.1) p.2 (He.ma K (He.ga K p.1) p.2)
  noA : ∀ p ∈ L.no, NoAttr K (He.ga K p.1) p.2
  c2A : ∀ x ∈ L.cl, clAll K x = true
  exA : ∀ x ∈ L.ex, exAll K x = true
  blA : ∀ p ∈ L.bl, mg p.1 = some (.builtin p.2)
  kitA : ∀ p ∈ L.kit, PySem.W.kitOne K p.1 (.ref (He.ga K p.2.1)) = some p.2.2
  kieA : ∀ p ∈ L.kie, PySem.W.kitOne K (.ref (He.ga K p.1)) (.ref (He.ga K p.2.1)) = some p.2.2
  kivA : ∀ p ∈ L.kiv, PySem.W.kitOne K (.ref (He.ga K p.1)) (.type p.2.1) = some p.2.2
  prA : ∀ p ∈ L.pr, prB K p.1 p.2 = true
  nfA : ∀ p ∈ L.nf, PySem.W.notFirst K (He.ga K p.1) (.type p.2) = true
  dA : ∀ (i : Nat) (d : Df), L.fn[i]? = some d → ∃ fd, FunD K d.name d.qual d.params d.body d.scope (d.dvs K) [] (d.at_ K) fd
theorem Txt.of {L : Ls} {K : PySem.W.Frag} {mg : Str → Option Value} {h : Heap} (X : K.In h) (G : h.Ns mainGlobals mg) (c : L.obs K = L.val) : Txt L K mg := by
  obtain ⟨c1, c2⟩ := Prod.mk.inj (show ((L.fa.all fun f => f.ok K) && ((L.fn.all fun d => d.ok K) && L.exb K), L.fn.map fun d => fnWA K (d.at_ K)) = (true, L.fn.map Df.val) from c)
  obtain ⟨c3, c4⟩ := Bool.and_eq_true_iff.mp c1
  obtain ⟨c5, m⟩ := Bool.and_eq_true_iff.mp c4
  have f : ∀ g ∈ L.fa, g.ok K = true := fun g hg => List.all_eq_true.mp c3 g hg
  unfold Ls.exb at m
  simp only [Bool.and_eq_true, List.all_eq_true, decide_eq_true_eq] at m
  obtain ⟨m1, m2, m3, m4, m5, m6, m7, m8⟩ := m
  have i1 : ∀ g ∈ L.gl.map He.Fa.glo, g ∈ L.fa := fun g hg => List.mem_append_left _ hg
  have i2 : ∀ g ∈ L.gl.map He.Fa.keep, g ∈ L.fa := fun g hg => List.mem_append_right _ (List.mem_append_left _ hg)
  have i3 : ∀ g ∈ L.fr.map He.Fa.free, g ∈ L.fa := fun g hg => List.mem_append_right _ (List.mem_append_right _ (List.mem_append_left _ hg))
  have i4 : ∀ g ∈ L.cl.map He.Fa.cls, g ∈ L.fa := fun g hg => List.mem_append_right _ (List.mem_append_right _ (List.mem_append_right _ (List.mem_append_left _ hg)))
  have i5 : ∀ g ∈ L.cl.map He.Fa.mkr, g ∈ L.fa := fun g hg => List.mem_append_right _ (List.mem_append_right _ (List.mem_append_right _ (List.mem_append_right _ (List.mem_append_left _ hg))))
  have i6 : ∀ g ∈ L.me.map (fun p => He.Fa.meth p.1 p.2), g ∈ L.fa := fun g hg => List.mem_append_right _ (List.mem_append_right _ (List.mem_append_right _ (List.mem_append_right _ (List.mem_append_right _ (List.mem_append_left _ hg)))))
  have i7 : ∀ g ∈ L.no.map (fun p => He.Fa.noat p.1 p.2), g ∈ L.fa := fun g hg => List.mem_append_right _ (List.mem_append_right _ (List.mem_append_right _ (List.mem_append_right _ (List.mem_append_right _ (List.mem_append_right _ hg)))))
  exact
    { gA := fun x hx => He.glo_ok X G (f _ (i1 _ (List.mem_map_of_mem hx)))
      kA := fun x hx => He.keep_ok (f _ (i2 _ (List.mem_map_of_mem hx)))
      fA := fun x hx => He.free_ok X G (f _ (i3 _ (List.mem_map_of_mem hx)))
      clA := fun x hx => He.cls_ok (f _ (i4 _ (List.mem_map_of_mem hx)))
      mkA := fun x hx => He.mkr_ok (f _ (i5 _ (List.mem_map_of_mem hx)))
      meA := fun p hp => He.meth_ok (f _ (i6 _ (List.mem_map_of_mem (f := fun p => He.Fa.meth p.1 p.2) hp)))
      noA := fun p hp => He.noat_ok (f _ (i7 _ (List.mem_map_of_mem (f := fun p => He.Fa.noat p.1 p.2) hp)))
      c2A := m1, exA := m2, blA := fun p hp => PySem.W.mg_of X G (m3 p hp), kitA := m4, kieA := m5, kivA := m6, prA := m7, nfA := m8
      dA := fun i d hd => by
        have e2 : (L.fn.map fun d => fnWA K (d.at_ K))[i]? = (L.fn.map Df.val)[i]? := by rw [c2]
        rw [List.getElem?_map, List.getElem?_map, hd] at e2
        exact Df.funD (Option.some.inj e2) (List.all_eq_true.mp c5 d (List.mem_of_getElem? hd)) }
section
variable {L : Ls} {K : PySem.W.Frag} {mg : Str → Option Value} (T : Txt L K mg)
include T
theorem Txt.g (x : Str) (h : x ∈ L.gl := by decide +kernel) : mg x = some (.ref (He.ga K x)) := T.gA x h
theorem Txt.k (x : Str) (h : x ∈ L.gl := by decide +kernel) : PySem.W.keepIn K (.ref (He.ga K x)) = true := T.kA x h
theorem Txt.f (x : Str) (h : x ∈ L.fr := by decide +kernel) : mg x = none := T.fA x h
theorem Txt.cl (x : Str) (h : x ∈ L.cl := by decide +kernel) : Cls K (He.ga K x) := T.clA x h
theorem Txt.mkk (x : Str) (h : x ∈ L.cl := by decide +kernel) : Mk K (He.ga K x) (He.ma K (He.ga K x) "__init__") := T.mkA x h
theorem Txt.me (x m : Str) (h : (x, m) ∈ L.me := by decide +kernel) : Meth K (He.ga K x) m (He.ma K (He.ga K x) m) := T.meA (x, m) h
theorem Txt.no (x m : Str) (h : (x, m) ∈ L.no := by decide +kernel) : NoAttr K (He.ga K x) m := T.noA (x, m) h
theorem Txt.b (x : Str) (y : String) (h : (x, y) ∈ L.bl := by decide +kernel) : mg x = some (.builtin y) := T.blA (x, y) h
theorem Txt.own (x m : Str) (h : (x, m) ∈ L.me := by decide +kernel) : PySem.W.findIn K (.ref (He.ga K x)) m = some (some (.ref (He.ma K (He.ga K x) m))) := (T.meA (x, m) h).at_
theorem Txt.fnn (x m : Str) (h : (x, m) ∈ L.me := by decide +kernel) : PySem.W.isFn K (.ref (He.ma K (He.ga K x) m)) = true := (T.meA (x, m) h).fn
theorem Txt.first (x : Str) (h : x ∈ L.cl := by decide +kernel) : PySem.W.selfFirst K (He.ga K x) = true := (Bool.and_eq_true_iff.mp (T.c2A x h)).1
theorem Txt.ne (x : Str) (h : x ∈ L.cl := by decide +kernel) : PySem.W.findIn K (.ref (He.ga K x)) "__ne__" = some (some (.builtin "object.__ne__")) := of_decide_eq_true (Bool.and_eq_true_iff.mp (Bool.and_eq_true_iff.mp (T.c2A x h)).2).1
theorem Txt.ob (x : Str) (h : x ∈ L.cl := by decide +kernel) : PySem.W.subIn K (.ref (He.ga K x)) (.type "object") = some true := of_decide_eq_true (Bool.and_eq_true_iff.mp (Bool.and_eq_true_iff.mp (Bool.and_eq_true_iff.mp (T.c2A x h)).2).2).1
/-- an instance of the class, for isinstance -/
theorem Txt.ty (x : Str) {H : Hp} {a dx : Addr} {fs : List (Str × V)} (e : H a = some (.ins (He.ga K x) dx fs)) (h : x ∈ L.cl := by decide +kernel) : TyX K H (.ref a) (.ref (He.ga K x)) := by
  have q := T.c2A x h
  unfold clAll at q
  simp only [Bool.and_eq_true, decide_eq_true_eq] at q
  obtain ⟨_, _, _, q4, q5, q6, q7⟩ := q
  exact .base (.ins e (T.clA x h) q4 q5 q6 q7)
theorem Txt.nfs (x : Str) (h : x ∈ L.cl := by decide +kernel) : PySem.W.notFirst K (He.ga K x) (.ref (He.ga K x)) = true := by
  unfold PySem.W.notFirst
  first
    | simp
    | rfl
theorem Txt.nf (x : Str) (t : String) (h : (x, t) ∈ L.nf := by decide +kernel) : PySem.W.notFirst K (He.ga K x) (.type t) = true := T.nfA (x, t) h
theorem Txt.oex (x : Str) (h : x ∈ L.ex := by decide +kernel) : OexC K (He.ga K x) := oexB_ok (Bool.and_eq_true_iff.mp (T.exA x h)).1
theorem Txt.exa (x : Str) (h : x ∈ L.ex := by decide +kernel) : XfC K (He.ga K x) ∧ ExcC K (He.ga K x) ∧ PySem.W.findIn K (.ref (He.ga K x)) "__init__" = some (some (.ref (He.ma K (He.ga K x) "__init__"))) ∧
    PySem.W.typeIn K (.ref (He.ma K (He.ga K x) "__init__")) = some (.type "function") ∧ PySem.W.exmOne K (.ref (He.ga K x)) (.ref (He.ga K x)) = some true := by
  obtain ⟨_, q⟩ := Bool.and_eq_true_iff.mp (T.exA x h)
  obtain ⟨q1, q⟩ := Bool.and_eq_true_iff.mp q
  obtain ⟨q2, q⟩ := Bool.and_eq_true_iff.mp q
  obtain ⟨q3, q⟩ := Bool.and_eq_true_iff.mp q
  obtain ⟨q4, q5⟩ := Bool.and_eq_true_iff.mp q
  exact ⟨xfB_ok q1, excB_ok q1 q2, of_decide_eq_true q3, of_decide_eq_true q4, of_decide_eq_true q5⟩
theorem Txt.exI (x : Str) (h : x ∈ L.ex := by decide +kernel) : PySem.W.findIn K (.ref (He.ga K x)) "__init__" = some (some (.ref (He.ma K (He.ga K x) "__init__"))) := (T.exa x h).2.2.1
theorem Txt.exT (x : Str) (h : x ∈ L.ex := by decide +kernel) : PySem.W.typeIn K (.ref (He.ma K (He.ga K x) "__init__")) = some (.type "function") := (T.exa x h).2.2.2.1
theorem Txt.exM (x : Str) (h : x ∈ L.ex := by decide +kernel) : PySem.W.exmOne K (.ref (He.ga K x)) (.ref (He.ga K x)) = some true := (T.exa x h).2.2.2.2
theorem Txt.kit (t : Value) (x : Str) (b : Bool) (h : (t, x, b) ∈ L.kit := by decide +kernel) : PySem.W.kitOne K t (.ref (He.ga K x)) = some b := T.kitA (t, x, b) h
theorem Txt.kie (y x : Str) (b : Bool) (h : (y, x, b) ∈ L.kie := by decide +kernel) : PySem.W.kitOne K (.ref (He.ga K y)) (.ref (He.ga K x)) = some b := T.kieA (y, x, b) h
theorem Txt.kiv (y : Str) (t : String) (b : Bool) (h : (y, t, b) ∈ L.kiv := by decide +kernel) : PySem.W.kitOne K (.ref (He.ga K y)) (.type t) = some b := T.kivA (y, t, b) h
theorem Txt.pr (x f : Str) (h : (x, f) ∈ L.pr := by decide +kernel) : PropOf K (He.ga K x) f (prAd K x f) (prGet K x f) := prB_ok (T.prA (x, f) h)
theorem Txt.d (i : Nat) {d : Df} (h : L.fn[i]? = some d := by rfl) : ∃ fd, FunD K d.name d.qual d.params d.body d.scope (d.dvs K) [] (d.at_ K) fd := T.dA i d h
end
/-- the def at f keeps its promise; all parameters written -/
def Ok (P : Program) (w : World) (K : PySem.W.Frag) (mg : Str → Option Value) (base : Heap) (f : Addr) (k : Nat) (ps : List Str) (sp : Sp) : Prop := ∃ fd, FnOk P w K mg base (L2.CX P w) k f fd ps sp ∧ Binds K fd ps []
theorem Ok.of {P : Program} {w : World} {K : PySem.W.Frag} {mg : Str → Option Value} {base : Heap} {x qual : Str} {params : Arguments} {body : List Stmt} {scope : Scope} {f : Addr} {N ps : List Str} {k : Nat} {sp : Sp}
    (h : ∃ fd, FunD K x qual params body scope [] [] f fd) (S : FnScope N ps scope)
    (hb : ∀ (kV doc pm : Value) (an : Option Addr) (cdv ct : Value) (us : List Value), us.length = ps.length → bindArgs (PySem.W.fnOf x qual params body scope .none kV doc pm an cdv ct) ⟨us, []⟩ = pure (ps.zip us))
    (len : ∀ vs H Q E, sp vs H Q E → vs.length = ps.length)
    (hbody : ∀ (fd : FuncData) (cdv : Value) (A : Around) (outer : List Env) (s : Shared) (H : Hp) (vs : List V) (Q : VK) (E : XK), Room k (A.deeper (envOfC qual scope s.heap.objs.size f cdv)) → sp vs H Q E →
      ∃ t, PSs (cxOf (L2.CX P w) P w K mg base N qual scope f cdv A outer s H E) body t ∧ t { nx := fun _ H' => Q .non H', rt := Q } (start N vs) H) : Ok P w K mg base f (k + 1) ps sp := by
  obtain ⟨fd, F⟩ := h
  exact ⟨fd, F.ok S len fun cdv A outer s H vs Q E hr hsp => hbody fd cdv A outer s H vs Q E hr hsp, F.bindsN hb⟩
/-! helpers -/
theorem ints_ix {ns : List Int} {i : Nat} {x : V} (h : (ns.map V.int)[i]? = some x) : ∃ z, ns[i]? = some z ∧ x = .int z := by
  rw [List.getElem?_map] at h
  cases e : ns[i]? with
  | none =>
    rw [e] at h
    cases h
  | some z =>
    rw [e] at h
    exact ⟨z, rfl, (Option.some.inj h).symm⟩
theorem cut_ints (ns : List Int) (lo hi : Option Int) : ∃ ms : List Int, cutV (ns.map V.int) lo hi = ms.map V.int ∧ ms.length ≤ ns.length ∧ ∀ z ∈ ms, z ∈ ns := by
  unfold cutV
  refine ⟨(ns.drop (HT.sIx (ns.map V.int).length 0 lo)).take (HT.sIx (ns.map V.int).length (ns.map V.int).length hi - HT.sIx (ns.map V.int).length 0 lo), ?_, ?_, fun z hz => List.mem_of_mem_drop (List.mem_of_mem_take hz)⟩
  · rw [List.map_take, List.map_drop]
  · rw [List.length_take, List.length_drop]
    omega
theorem at_ix {α : Type} {xs : List α} {k : Int} (h0 : 0 ≤ k) (h1 : k < (xs.length : Int)) : ∃ x, xs[k.toNat]? = some x ∧ x ∈ xs ∧ atI xs k = some x := by
  have hk : k.toNat < xs.length := by omega
  refine ⟨xs[k.toNat], List.getElem?_eq_getElem hk, List.getElem_mem hk, ?_⟩
  have e := atI_nat (List.getElem?_eq_getElem hk)
  rw [Int.toNat_of_nonneg h0] at e
  exact e
theorem at_ints {ns : List Int} {k : Int} (h0 : 0 ≤ k) (h1 : k < (ns.length : Int)) : ∃ z, z ∈ ns ∧ ns[k.toNat]? = some z ∧ atI (ns.map V.int) k = some (.int z) := by
  obtain ⟨x, e, _, q⟩ := at_ix (xs := ns.map V.int) h0 (by rw [List.length_map]; exact h1)
  obtain ⟨z, ez, rfl⟩ := ints_ix e
  exact ⟨z, List.mem_of_getElem? ez, ez, q⟩
theorem abs_nn (i : Int) : 0 ≤ (if i < 0 then -i else i) := by
  split <;> omega
theorem same_new {H : Hp} {p : Addr} {o : HO} (h : H p = none) : Same H (upd H p o) := fun b u e => by
  rw [upd_ne (ne_of_none e h)]
  exact e
theorem same_new' {H H1 : Hp} {p : Addr} {o : HO} (s : Same H H1) (h : H1 p = none) : Same H (upd H1 p o) := s.trans (same_new h)
/-- what H does not know may change -/
theorem same_mut {H H1 : Hp} {p : Addr} {o : HO} (s : Same H H1) (h : H p = none) : Same H (upd H1 p o) := fun b u e => by
  rw [upd_ne (ne_of_none e h)]
  exact s b u e
theorem fmod_lo (i : Int) {j : Int} (h : 0 < j) : 0 ≤ i.fmod j := Int.fmod_nonneg_of_pos i h
theorem fmod_hi (i : Int) {j : Int} (h : 0 < j) : i.fmod j < j := Int.fmod_lt_of_pos i h
theorem sz100 {n : Nat} (h : n ≤ 100000) : n < sizeLine := Nat.lt_of_le_of_lt h (by decide)
theorem mulF {a b j : Int} (h0 : 0 < b) (h1 : b ≤ 2 ^ 63) : IntMulOk (a.fmod b) j := mulL (Int.le_trans (by decide) (fmod_lo a h0)) (Int.le_trans (Int.le_of_lt (fmod_hi a h0)) h1)
theorem pside {p : Prop} (h : p) : p := h
/-- .. of a def whose last parameter has a default -/
def OkD (P : Program) (w : World) (K : PySem.W.Frag) (mg : Str → Option Value) (base : Heap) (f : Addr) (k : Nat) (ps : List Str) (dv : V) (sp : Sp) : Prop :=
  ∃ fd, FnOk P w K mg base (L2.CX P w) k f fd ps sp ∧ Binds K fd ps [] ∧ ∃ ds, Vals [dv] ds ∧ Binds K fd ps ds
theorem OkD.of {P : Program} {w : World} {K : PySem.W.Frag} {mg : Str → Option Value} {base : Heap} {x qual : Str} {params : Arguments} {body : List Stmt} {scope : Scope} {f : Addr} {N ps : List Str} {k : Nat} {sp : Sp} {dv : V}
    (h : ∃ fd, FunD K x qual params body scope [dv] [] f fd) (S : FnScope N ps scope)
    (hb : ∀ (n : Nat), (n = ps.length ∨ n + 1 = ps.length) → ∀ (T : Addr) (kV doc pm : Value) (an : Option Addr) (cdv ct : Value) (us its : List Value), us.length = n → its.length = 1 →
      ∃ k, bindArgs (PySem.W.fnOf x qual params body scope (.ref T) kV doc pm an cdv ct) ⟨us, []⟩ = seqItems? (.ref T) >>= k ∧ k (some its.toArray) = pure (ps.zip (us ++ its.drop (n + 1 - ps.length))))
    (h1 : 1 ≤ ps.length) (len : ∀ vs H Q E, sp vs H Q E → vs.length = ps.length)
    (hbody : ∀ (fd : FuncData) (cdv : Value) (A : Around) (outer : List Env) (s : Shared) (H : Hp) (vs : List V) (Q : VK) (E : XK), Room k (A.deeper (envOfC qual scope s.heap.objs.size f cdv)) → sp vs H Q E →
      ∃ t, PSs (cxOf (L2.CX P w) P w K mg base N qual scope f cdv A outer s H E) body t ∧ t { nx := fun _ H' => Q .non H', rt := Q } (start N vs) H) : OkD P w K mg base f (k + 1) ps dv sp := by
  obtain ⟨fd, F⟩ := h
  refine ⟨fd, F.ok S len fun cdv A outer s H vs Q E hr hsp => hbody fd cdv A outer s H vs Q E hr hsp, ?_, ?_⟩
  · obtain ⟨ds, v, b⟩ := F.binds1 (ps := ps) ps.length 1 (by simp) (by simp) (fun T kV doc pm an cdv ct us its hu hi => by
      obtain ⟨k, e1, e2⟩ := hb ps.length (.inl rfl) T kV doc pm an cdv ct us its hu hi
      rw [show ps.length + 1 - ps.length = 1 by omega] at e2
      exact ⟨k, e1, e2⟩)
    cases v
    exact b
  · obtain ⟨ds, v, b⟩ := F.binds1 (ps := ps) (ps.length - 1) 0 (by simp) (by simp; omega) (fun T kV doc pm an cdv ct us its hu hi => by
      obtain ⟨k, e1, e2⟩ := hb (ps.length - 1) (.inr (by omega)) T kV doc pm an cdv ct us its hu hi
      rw [show ps.length - 1 + 1 - ps.length = 0 by omega] at e2
      exact ⟨k, e1, e2⟩)
    exact ⟨ds, v, b⟩
end LR

namespace LR
open PySem PySem.Spec PyProof.Rows L2
/-! ### ratios in lowest terms -/
/-- the greatest common divisor of tops and bottom -/
def cg (ts : List Int) (b : Int) : Nat := ts.foldl (fun g t => Nat.gcd g t.natAbs) b.natAbs
/-- .. with the sign of the bottom -/
def gs (ts : List Int) (b : Int) : Int := if b > 0 then (cg ts b : Int) else -(cg ts b : Int)
def nT (t b : Int) : Int := t.fdiv (gs [t] b)
def nB (t b : Int) : Int := b.fdiv (gs [t] b)
structure Nrm (t b : Int) : Prop where
  pos : 0 < b
  cop : Nat.gcd b.natAbs t.natAbs = 1
theorem cg1 (t b : Int) : cg [t] b = Nat.gcd b.natAbs t.natAbs := rfl
theorem fold_one : ∀ ts : List Int, ts.foldl (fun g t => Nat.gcd g t.natAbs) 1 = 1
  | [] => rfl
  | t :: r => by
    show r.foldl (fun g t => Nat.gcd g t.natAbs) (Nat.gcd 1 t.natAbs) = 1
    rw [Nat.gcd_one_left]
    exact fold_one r
theorem cg_dvd (ts : List Int) (b : Int) : cg ts b ∣ b.natAbs ∧ ∀ t ∈ ts, cg ts b ∣ t.natAbs := by
  have key : ∀ (ts : List Int) (g : Nat), ts.foldl (fun g t => Nat.gcd g t.natAbs) g ∣ g ∧ ∀ t ∈ ts, ts.foldl (fun g t => Nat.gcd g t.natAbs) g ∣ t.natAbs := by
    intro ts
    induction ts with
    | nil => exact fun g => ⟨Nat.dvd_refl g, fun t h => by cases h⟩
    | cons a r ih =>
      intro g
      obtain ⟨h1, h2⟩ := ih (Nat.gcd g a.natAbs)
      refine ⟨Nat.dvd_trans h1 (Nat.gcd_dvd_left _ _), fun t ht => ?_⟩
      rcases List.mem_cons.mp ht with e | e
      · rw [e]
        exact Nat.dvd_trans h1 (Nat.gcd_dvd_right _ _)
      · exact h2 t e
  exact key ts b.natAbs
theorem cg_pos {ts : List Int} {b : Int} (h : b ≠ 0) : 0 < cg ts b := Nat.pos_of_dvd_of_pos (cg_dvd ts b).1 (by omega)
theorem cg_le {ts : List Int} {b : Int} (h : b ≠ 0) : cg ts b ≤ b.natAbs := Nat.le_of_dvd (by omega) (cg_dvd ts b).1
theorem gs_abs (ts : List Int) (b : Int) : (gs ts b).natAbs = cg ts b := by
  unfold gs
  split <;> omega
theorem gs_ne {ts : List Int} {b : Int} (h : b ≠ 0) : gs ts b ≠ 0 := by
  have q := gs_abs ts b
  have p := cg_pos (ts := ts) h
  omega
theorem gs_le {ts : List Int} {b : Int} (h : b ≠ 0) : (gs ts b).natAbs ≤ b.natAbs := by
  rw [gs_abs]
  exact cg_le h
theorem gs_dvd (t b : Int) : gs [t] b ∣ t ∧ gs [t] b ∣ b := by
  obtain ⟨h1, h2⟩ := cg_dvd [t] b
  constructor
  · exact Int.natAbs_dvd_natAbs.mp (by rw [gs_abs]; exact h2 t (List.mem_singleton.mpr rfl))
  · exact Int.natAbs_dvd_natAbs.mp (by rw [gs_abs]; exact h1)
theorem nT_ed (t b : Int) : nT t b = t / gs [t] b := Int.fdiv_eq_ediv_of_dvd (gs_dvd t b).1
theorem nB_ed (t b : Int) : nB t b = b / gs [t] b := Int.fdiv_eq_ediv_of_dvd (gs_dvd t b).2
theorem nT_abs (t b : Int) : (nT t b).natAbs = t.natAbs / Nat.gcd b.natAbs t.natAbs := by
  rw [nT_ed, Int.natAbs_ediv_of_dvd (gs_dvd t b).1, gs_abs, cg1]
theorem nB_abs (t b : Int) : (nB t b).natAbs = b.natAbs / Nat.gcd b.natAbs t.natAbs := by
  rw [nB_ed, Int.natAbs_ediv_of_dvd (gs_dvd t b).2, gs_abs, cg1]
theorem nT_le (t b : Int) : (nT t b).natAbs ≤ t.natAbs := Int.natAbs_fdiv_le_natAbs _ _
theorem nB_le (t b : Int) : (nB t b).natAbs ≤ b.natAbs := Int.natAbs_fdiv_le_natAbs _ _
theorem nB_pos {t b : Int} (h : b ≠ 0) : 0 < nB t b := by
  have e : nB t b * gs [t] b = b := by
    rw [nB_ed]
    exact Int.ediv_mul_cancel (gs_dvd t b).2
  have p := cg_pos (ts := [t]) h
  unfold gs at e
  split at e
  · rename_i hb
    rcases Int.lt_or_le 0 (nB t b) with q | q
    · exact q
    · have z : nB t b * (cg [t] b : Int) ≤ 0 := Int.mul_nonpos_of_nonpos_of_nonneg q (Int.natCast_nonneg _)
      omega
  · rename_i hb
    rcases Int.lt_or_le 0 (nB t b) with q | q
    · exact q
    · have z : 0 ≤ nB t b * -(cg [t] b : Int) := Int.mul_nonneg_of_nonpos_of_nonpos q (by omega)
      omega
theorem nrm_of {t b : Int} (h : b ≠ 0) : Nrm (nT t b) (nB t b) := by
  refine ⟨nB_pos h, ?_⟩
  rw [nT_abs, nB_abs]
  exact Nat.gcd_div_gcd_div_gcd_of_pos_left (by omega)
theorem gs_nrm {t b : Int} (h : Nrm t b) : gs [t] b = 1 := by
  unfold gs
  rw [if_pos h.pos, cg1, h.cop]
  rfl
theorem nT_nrm {t b : Int} (h : Nrm t b) : nT t b = t := by
  unfold nT
  rw [gs_nrm h, Int.fdiv_one]
theorem nB_nrm {t b : Int} (h : Nrm t b) : nB t b = b := by
  unfold nB
  rw [gs_nrm h, Int.fdiv_one]
theorem gs_neg (t b : Int) : gs [-t] b = gs [t] b := by
  unfold gs
  rw [cg1, cg1, Int.natAbs_neg]
theorem nT_neg (t b : Int) : nT (-t) b = -nT t b := by
  rw [nT_ed, nT_ed, gs_neg, Int.neg_ediv_of_dvd (gs_dvd t b).1]
theorem nB_neg (t b : Int) : nB (-t) b = nB t b := by
  unfold nB
  rw [gs_neg]
theorem Nrm.neg {t b : Int} (h : Nrm t b) : Nrm (-t) b := ⟨h.pos, by rw [Int.natAbs_neg]; exact h.cop⟩
theorem Nrm.abs {t b : Int} (h : Nrm t b) : Nrm (if t < 0 then -t else t) b := by
  split
  · exact h.neg
  · exact h
theorem Nrm.one (t : Int) : Nrm t 1 := ⟨by decide, Nat.gcd_one_left _⟩
theorem Nrm.zero {b : Int} (h : b ≠ 0) : nT 0 b = 0 ∧ nB 0 b = 1 := by
  have q := nrm_of (t := 0) h
  have e : nT 0 b = 0 := Int.zero_fdiv _
  refine ⟨e, ?_⟩
  have c := q.cop
  rw [e, show ((0 : Int)).natAbs = 0 from rfl, Nat.gcd_zero_right] at c
  have p := q.pos
  omega
/-! ### Euclid, turn by turn -/
theorem mod_half {n m : Nat} (h : m ≤ n) (hm : 0 < m) : 2 * (n % m) ≤ n := by
  have h1 : n % m < m := Nat.mod_lt _ hm
  have h2 : n % m + m * (n / m) = n := Nat.mod_add_div n m
  have h3 : 1 ≤ n / m := (Nat.one_le_div_iff hm).mpr h
  have h4 : m * 1 ≤ m * (n / m) := Nat.mul_le_mul_left m h3
  omega
/-- behind i turns, b not zero so far -/
structure Euc (g B i a b : Nat) : Prop where
  gcd : Nat.gcd a b = g
  lo : b * 2 ^ (i / 2) ≤ B
  up : 1 ≤ i → b < a ∧ a * 2 ^ ((i - 1) / 2) ≤ B
theorem Euc.start (a b : Nat) : Euc (Nat.gcd a b) b 0 a b := ⟨rfl, by simp, fun h => by omega⟩
theorem Euc.step {g B i a b : Nat} (h : Euc g B i a b) (hb : 0 < b) : Euc g B (i + 1) b (a % b) := by
  have hlt : a % b < b := Nat.mod_lt _ hb
  refine ⟨?_, ?_, fun _ => ⟨hlt, h.lo⟩⟩
  · rw [← h.gcd, Nat.gcd_comm a b, Nat.gcd_rec b a, Nat.gcd_comm b]
  · rcases Nat.lt_or_ge i 1 with h0 | h1
    · have e : i = 0 := by omega
      subst e
      have z := h.lo
      simp at z ⊢
      omega
    · obtain ⟨u1, u2⟩ := h.up h1
      rcases Nat.mod_two_eq_zero_or_one i with e | e
      · have e2 : (i + 1) / 2 = i / 2 := by omega
        rw [e2]
        exact Nat.le_trans (Nat.mul_le_mul_right _ (Nat.le_of_lt hlt)) h.lo
      · have e2 : (i + 1) / 2 = (i - 1) / 2 + 1 := by omega
        rw [e2, Nat.pow_succ]
        have z := mod_half (Nat.le_of_lt u1) hb
        have y : a % b * (2 ^ ((i - 1) / 2) * 2) = 2 * (a % b) * 2 ^ ((i - 1) / 2) := by
          rw [Nat.mul_comm (2 ^ ((i - 1) / 2)) 2, ← Nat.mul_assoc, Nat.mul_comm (a % b) 2]
        rw [y]
        exact Nat.le_trans (Nat.mul_le_mul_right _ z) u2
theorem Euc.done {g B n a b : Nat} (h : Euc g B (2 * n + 2) a b) (hB : B < 2 ^ n) : b = 0 ∧ a = g := by
  have e : (2 * n + 2) / 2 = n + 1 := by omega
  have z := h.lo
  rw [e, Nat.pow_succ] at z
  have hb : b = 0 := by
    rcases Nat.eq_zero_or_pos b with q | q
    · exact q
    · have y : 1 * (2 ^ n * 2) ≤ b * (2 ^ n * 2) := Nat.mul_le_mul_right _ q
      omega
  refine ⟨hb, ?_⟩
  have q := h.gcd
  rw [hb, Nat.gcd_zero_right] at q
  exact q
theorem Euc.ret {g B i a : Nat} (h : Euc g B i a 0) : a = g := by
  have q := h.gcd
  rw [Nat.gcd_zero_right] at q
  exact q
theorem bits_hi (i : Int) : i.natAbs < 2 ^ Builtin.Int.intBits i := by
  unfold Builtin.Int.intBits
  split
  · rename_i h
    have e : i = 0 := by simpa using h
    rw [e]
    decide
  · exact Nat.lt_log2_self
/-! sizes -/
theorem abs_mul_lt {i j : Int} {a b : Nat} (ha : i.natAbs < 2 ^ a) (hb : j.natAbs < 2 ^ b) : (i * j).natAbs < 2 ^ (a + b) := wide_lt ha hb
theorem abs_add_lt {i j : Int} {a : Nat} (ha : i.natAbs < 2 ^ a) (hb : j.natAbs < 2 ^ a) : (i + j).natAbs < 2 ^ (a + 1) := by
  rw [Nat.pow_succ]
  omega
theorem abs_sub_lt {i j : Int} {a : Nat} (ha : i.natAbs < 2 ^ a) (hb : j.natAbs < 2 ^ a) : (i - j).natAbs < 2 ^ (a + 1) := by
  rw [Nat.pow_succ]
  omega
theorem abs_up {i : Int} {a b : Nat} (ha : i.natAbs < 2 ^ a) (h : a ≤ b) : i.natAbs < 2 ^ b := Nat.lt_of_lt_of_le ha (Nat.pow_le_pow_right (by decide) h)
end LR

namespace LR
open PySem PySem.Spec PyProof.Rows L2
section
variable {X : Cx} {CX : CXT} {k : Nat} {C fI : Addr} {fd : FuncData} {ps : List Str} {sp : Sp} {ds : List Value} {dvs : List V} {x : Str} {p pos : Pos} {e : Expr} {es : List Expr} {ta : TA}
/-- C(..) as a value, C an own exception with its own __init__: the new exception is kept in sight, with its dict -/
def tMkX (C : Addr) (sp : Sp) (dvs : List V) (ta : TA) : TE := fun σ H Q => ta σ H fun vs H1 => vs.length ≤ 1000 ∧ ∀ a, H1 a = none → sp (.ref a :: (vs ++ dvs)) (upd H1 a (exo a C none)) (fun v H2 => v = .non ∧ Q (.ref a) H2) (fun _ _ _ => False)
theorem run_mkX {pins : List (Addr × Obj)} {σ : L2.St} {H1 : Hp} {s1 : Shared} {Q : VK} {us : List Value} {vs : List V} (T : OexC X.K C) (iC : PySem.W.findIn X.K (.ref C) "__init__" = some (some (.ref fI))) (tI : PySem.W.typeIn X.K (.ref fI) = some (.type "function"))
    (F1 : FnOk X.prog X.w X.K X.mg X.base CX k fI fd ps sp) (hr : Room (k + 1) X.A) (hb : Binds X.K fd ps ds) (hd : Vals dvs ds) (hx : Passes CX X (fun _ _ _ => False)) (I1 : Inv X pins σ H1 s1) (r1 : Vals vs us) (hz : vs.length ≤ 1000)
    (q1 : ∀ a, H1 a = none → sp (.ref a :: (vs ++ dvs)) (upd H1 a (exo a C none)) (fun v H2 => v = .non ∧ Q (.ref a) H2) (fun _ _ _ => False)) :
    wpAny (model X.prog X.w) X.A (call (.ref C) us) (EP X pins σ Q) X.xe s1 := by
  obtain ⟨nm, q, N, bs, bm, sn, sub, ab, col, dd, k0, k1, k2, k3, k5, hC, hbm⟩ := T.cls
  obtain ⟨hp, g, dr, tk, os⟩ := s1
  have hsz : hp.objs.size ≤ hp.objs.size + 1 := Nat.le_succ _
  have hn : H1 (hp.objs.size + 1) = none := I1.hok.fresh hsz
  have hq := q1 (hp.objs.size + 1) hn
  have kk : ∀ b o, hp.get? b = some o → ((hp.push (PySem.W.kdv_tup us)).push (PySem.HandSPX.excO C hp.objs.size)).get? b = some o := fun b o e => Heap.get?_push_of_some _ (Heap.get?_push_of_some _ e)
  have hget : ((hp.push (PySem.W.kdv_tup us)).push (PySem.HandSPX.excO C hp.objs.size)).get? (hp.objs.size + 1) = some (PySem.HandSPX.excO C hp.objs.size) := by heap_get
  have I2 : Inv X pins σ (upd H1 (hp.objs.size + 1) (exo (hp.objs.size + 1) C none)) ⟨(hp.push (PySem.W.kdv_tup us)).push (PySem.HandSPX.excO C hp.objs.size), g, dr, tk, os⟩ :=
    I1.laid (t' := tk) (a := hp.objs.size + 1) (o := exo (hp.objs.size + 1) C none) (h' := (hp.push (PySem.W.kdv_tup us)).push (PySem.HandSPX.excO C hp.objs.size)) kk hsz (exo_ok hget)
  have r2 : Vals (V.ref (hp.objs.size + 1) :: (vs ++ dvs)) (Value.ref (hp.objs.size + 1) :: (us ++ ds)) := .cons rfl (r1.append hd)
  have hl : (Value.ref (hp.objs.size + 1) :: us ++ ds).length = ps.length := by
    have e := r2.length
    rw [F1.len _ _ _ _ hq] at e
    exact e.symm
  have hus : us.length ≤ sizeLine := by
    rw [← Paired.length r1, sizeLine_eq]
    omega
  refine wpAny_call (PySem.HandSPX.call_own F.excBase_ValueError (fun Y => PySem.HandSPX.refsVE_contains Y bm hbm) (I1.kIn _ _ hC) (PySem.W.looks_findIn I1.kIn iC) (fun self => PySem.W.bind_fn I1.kIn self tI) hus
    (codeAny_mono (F1.run _ X.stack _ _ ⟨Value.ref (hp.objs.size + 1) :: us, []⟩ (Value.ref (hp.objs.size + 1) :: (us ++ ds)) _ _ (fun _ _ _ => False) (hr.make C us []) (I2.env0.make C us []) (hb _ (Value.ref (hp.objs.size + 1) :: us) I2.kIn hl) r2 hq) fun r s' hq' => ?_))
  cases r with
  | error er => exact hx pins σ _ _ er s' I2 hq'
  | ok fl =>
    cases fl with
    | ret u =>
      obtain ⟨v, H', I', rv, ev, q3⟩ := I2.after hq'
      subst ev
      exact ⟨rv, .ref (hp.objs.size + 1), H', I', rfl, q3⟩
    | next => exact False.elim hq'
    | brk => exact False.elim hq'
    | cont => exact False.elim hq'
theorem pe_mkX (T : OexC X.K C) (iC : PySem.W.findIn X.K (.ref C) "__init__" = some (some (.ref fI))) (tI : PySem.W.typeIn X.K (.ref fI) = some (.type "function"))
    (F1 : FnOk X.prog X.w X.K X.mg X.base CX k fI fd ps sp) (hr : Room (k + 1) X.A) (hb : Binds X.K fd ps ds) (hd : Vals dvs ds) (hx : Passes CX X (fun _ _ _ => False)) (hg : Gl X x) (hm : X.mg x = some (.ref C)) (ha : PA X (e :: es) ta)
    (hdb : (x == ("__debug__" : Str)) = false := by decide) (he : starEach (e :: es) X.env = (false, eval e X.env) :: starEach es X.env := by rfl) (hpl : (backTo pos (starEach es X.env)).any (·.1) = false := by rfl) :
    PE X (.Call (.Name x p) (e :: es) [] pos) (tMkX C sp dvs ta) := by
  refine ⟨fun pins s σ H Q I h => ?_⟩
  refine wpAny_Call_Name_kw (ld_glob I hg hm ?_ hdb)
  exact PySem.W.callWith_K (h₀ := X.base) I.ok.mod.kin T.kC (thn (ha.run pos pins s σ H _ I h) fun us s1 ⟨vs, H1, I1, r1, hz, q1⟩ => ⟨I1.kIn, run_mkX T iC tI F1 hr hb hd hx I1 r1 hz q1⟩) he hpl
theorem pe_mkX0 (T : OexC X.K C) (iC : PySem.W.findIn X.K (.ref C) "__init__" = some (some (.ref fI))) (tI : PySem.W.typeIn X.K (.ref fI) = some (.type "function"))
    (F1 : FnOk X.prog X.w X.K X.mg X.base CX k fI fd ps sp) (hr : Room (k + 1) X.A) (hb : Binds X.K fd ps ds) (hd : Vals dvs ds) (hx : Passes CX X (fun _ _ _ => False)) (hg : Gl X x) (hm : X.mg x = some (.ref C))
    (hdb : (x == ("__debug__" : Str)) = false := by decide) : PE X (.Call (.Name x p) [] [] pos) (tMkX C sp dvs tNil) := by
  refine ⟨fun pins s σ H Q I h => ?_⟩
  obtain ⟨hz, q1⟩ := h
  refine wpAny_Call_Name_kw (ld_glob I hg hm ?_ hdb)
  exact PySem.W.callWith_K0 I.kIn T.kC (run_mkX T iC tI F1 hr hb hd hx I .nil hz q1)
/-- an exception of the class at C at a, with these fields -/
def XvAt (H : Hp) (a C : Addr) (fs : List (Str × V)) : Prop := ∃ dx, H a = some (exo a C (some dx)) ∧ H dx = some (exd dx fs)
theorem XvAt.same {H H' : Hp} {a C : Addr} {fs : List (Str × V)} (h : XvAt H a C fs) (s : Same H H') : XvAt H' a C fs := let ⟨dx, e1, e2⟩ := h; ⟨dx, s _ _ e1, s _ _ e2⟩
theorem xv_inst {pins : List (Addr × Obj)} {σ : L2.St} {H : Hp} {s : Shared} {a : Addr} {fs : List (Str × V)} (I : Inv X pins σ H s) (h : XvAt H a C fs) : ∃ (oe od : Obj) (mA : Str → Option Value), PySem.W.InstAt s.heap a oe C (some od) ∧ (∀ f, PySem.W.lookIn f od = some (mA f)) ∧ ∀ f, RelO (fs.lookup f) (mA f) := by
  obtain ⟨dx, e1, e2⟩ := h
  obtain ⟨t1, ha⟩ := exo_at I.hok e1
  obtain ⟨mA, hns, hr⟩ := exd_at I.hok e2
  obtain ⟨od, ho, hl⟩ := lookIn_ns hns
  exact ⟨_, od, mA, ⟨ha, rfl, rfl, ho⟩, hl, hr⟩
/-- e.f of such a value -/
def tXv (C : Addr) (f : Str) (te : TE) : TE := fun σ H Q => te σ H fun x H1 => ∃ (a : Addr) (fs : List (Str × V)) (v : V), x = .ref a ∧ XvAt H1 a C fs ∧ fs.lookup f = some v ∧ Q v H1
theorem pe_xv {te : TE} {n : Str} (T : XfC X.K C) (hno : PySem.W.findIn X.K (.ref C) n = some none) (he : PE X e te) (hb : attributeBase e n X.env (eval e X.env) = eval e X.env := by rfl) : PE X (.Attribute e n pos) (tXv C n te) := by
  refine ⟨fun pins s σ H Q I h => ?_⟩
  refine attr_of hb (thn (he.run pins s σ H _ I h) fun u s1 hh => ?_)
  obtain ⟨x, H1, I1, rx, a, fs, v, ex, hv, l, q⟩ := hh
  subst ex
  obtain rfl : u = Value.ref a := rx
  obtain ⟨oe, od, mA, J, hl, hr⟩ := xv_inst I1 hv
  obtain ⟨u, hu, ru⟩ := RelO.some_of (v := v) (o := mA n) (by rw [← l]; exact hr n)
  exact HandSPX.exc_get I1.kIn J T.ga T.gg T.exC (PySem.W.findObj_own T.hdC hno rfl (by rw [hl, hu])) (handed_of ru) ⟨v, H1, I1.tok _, ru, q⟩
/-- isinstance(e, c) of such a value -/
def rIsX (K : PySem.W.Frag) : List V → Hp → VK → Prop := fun xs H Q => ∃ (a C : Addr) (fs : List (Str × V)) (c : V) (cv : Value) (b : Bool), xs = [.ref a, c] ∧ XvAt H a C fs ∧ ExcC K C ∧ ClsV c cv ∧ PySem.W.kitOne K (.ref C) cv = some b ∧ Q (.bl b) H
theorem call_isX : CallR X (.builtin "isinstance") (rIsX X.K) := by
  intro pins s σ H xs us Q I r h
  obtain ⟨a, D, fs, c, cv, b, rfl, hv, C, hcv, e, q⟩ := h
  cases r with
  | cons rx rr =>
    cases rr with
    | cons rt rr =>
      cases rr
      cases rx
      have ec := hcv.eq rt
      subst ec
      obtain ⟨oe, od, mA, J, _, _⟩ := xv_inst I hv
      exact PySem.W.kia_one (PySem.W.kitx_excD C.hg C.hk C.hs C.hd C.ha C.hn C.ht C.hm) I.kIn ⟨od, J⟩ e (fun z => nomatch z) fun tk => ⟨.bl b, H, I.kept (t' := tk) fun _ _ z => z, rfl, q⟩
end
end LR

namespace LR
open PySem PySem.Spec PyProof.Rows L2
/-- the hook over told addresses: those that the facts look at; more facts in `mo` -/
def Ls.obsA (as : List Addr) (L : Ls) (mo : PySem.W.Frag → Bool) (g : Addr → Option Obj) : AlL × Bool := (L.obs (He.frG g as), mo (He.frG g as))
def hookA (as : List Addr) (L : Ls) (mo : PySem.W.Frag → Bool) : PySem.W.Hook where
  α := AlL × Bool
  obs := fun s => L.obsA as mo s.heap.get?
  val := fun _ => (L.val, true)
  says := fun _ h => ∃ K : PySem.W.Frag, K.In h ∧ L.obs K = L.val ∧ mo K = true
  of := fun _ _ e => ⟨_, He.frG_in, (Prod.mk.inj e).1, (Prod.mk.inj e).2⟩
  keeps := fun _ _ _ ⟨K, hK, c⟩ k => ⟨K, PySem.W.Frag.In.keeps hK k, c⟩
theorem Ls.obsA_eq {as : List Addr} {L : Ls} {mo : PySem.W.Frag → Bool} {g : Addr → Option Obj} {s : Shared} (h : ∀ a, g a = s.heap.get? a) : L.obsA as mo g = (hookA as L mo).obs s := by
  rw [show g = s.heap.get? from funext h] <;> rfl
/-! the bases of a family of error classes -/
def mroOne (K : PySem.W.Frag) (root x : Str) : Bool := match PySem.W.clsIn K (He.ga K x) with
  | some cd => (cd.mro == (if x = root then [] else [Value.ref (He.ga K x)]) ++ [.ref (He.ga K root), .type "ValueError", .type "Exception", .type "BaseException", .type "object"]) && PySem.W.typeIn K (.ref (He.ga K x)) == some (.type "type")
  | none => false
def mroB (K : PySem.W.Frag) (root : Str) (xs : List Str) : Bool := xs.all (mroOne K root) && decide ((xs.map (He.ga K)).Nodup)
theorem inj_of {α β : Type} {f : α → β} : ∀ {xs : List α}, (xs.map f).Nodup → ∀ x ∈ xs, ∀ y ∈ xs, f x = f y → x = y
  | [], _, x, hx, _, _, _ => nomatch hx
  | a :: r, h, x, hx, y, hy, e => by
    rw [List.map_cons, List.nodup_cons] at h
    obtain ⟨h1, h2⟩ := h
    rcases List.mem_cons.mp hx with rfl | hx
    · rcases List.mem_cons.mp hy with rfl | hy
      · rfl
      · exact absurd (List.mem_map.mpr ⟨y, hy, e.symm⟩) h1
    · rcases List.mem_cons.mp hy with ey | hy
      · exact absurd (List.mem_map.mpr ⟨x, hx, e.trans (by rw [ey])⟩) h1
      · exact inj_of h2 x hx y hy e
theorem kit_ex {K : PySem.W.Frag} {root : Str} {xs : List Str} (h : mroB K root xs = true) {x y : Str} (hr : root ∈ xs) (hx : x ∈ xs) (hy : y ∈ xs) : PySem.W.kitOne K (.ref (He.ga K x)) (.ref (He.ga K y)) = some (decide (x = y) || decide (y = root)) := by
  obtain ⟨h1, h2⟩ := Bool.and_eq_true_iff.mp h
  have hn := of_decide_eq_true h2
  have m1 := List.all_eq_true.mp h1 x hx
  have m2 := List.all_eq_true.mp h1 y hy
  unfold PySem.W.kitOne
  by_cases e : x = y
  · subst e
    rw [if_pos (beq_iff_eq.mpr rfl), decide_eq_true rfl, Bool.true_or]
  · have ne : He.ga K x ≠ He.ga K y := fun z => e (inj_of hn x hx y hy z)
    rw [if_neg (fun z => ne (Value.ref.inj (beq_iff_eq.mp z)))]
    unfold mroOne at m1 m2
    cases c1 : PySem.W.clsIn K (He.ga K x) with
    | none =>
      rw [c1] at m1
      cases m1
    | some cd =>
      cases c2 : PySem.W.clsIn K (He.ga K y) with
      | none =>
        rw [c2] at m2
        cases m2
      | some cd2 =>
        rw [c1] at m1
        rw [c2] at m2
        dsimp only at m1 m2
        obtain ⟨m1, _⟩ := Bool.and_eq_true_iff.mp m1
        obtain ⟨_, m2⟩ := Bool.and_eq_true_iff.mp m2
        unfold PySem.W.kitCls
        dsimp only
        rw [if_pos (by rw [c2, m2]; rfl)]
        unfold PySem.W.subIn PySem.W.mroIn
        dsimp only
        rw [c1]
        show (if cd.mro.isEmpty then none else some (cd.mro.contains (.ref (He.ga K y)))) = _
        rw [beq_iff_eq.mp m1]
        have nx : (He.ga K y == He.ga K x) = false := beq_eq_false_iff_ne.mpr (Ne.symm ne)
        have d1 : decide (x = y) = false := decide_eq_false e
        rw [d1, Bool.false_or]
        have dr : decide (y = root) = (Value.ref (He.ga K y) == Value.ref (He.ga K root)) := by
          by_cases er : y = root
          · rw [er, decide_eq_true rfl]
            exact (beq_iff_eq.mpr rfl).symm
          · rw [decide_eq_false er]
            exact (beq_eq_false_iff_ne.mpr fun z => er (inj_of hn y hy root hr (Value.ref.inj z))).symm
        rw [dr]
        have n2 : (Value.ref (He.ga K y) == Value.ref (He.ga K x)) = false := beq_eq_false_iff_ne.mpr fun z => ne (Value.ref.inj z).symm
        have t : ∀ s : String, (Value.ref (He.ga K y) == Value.type s) = false := fun s => beq_eq_false_iff_ne.mpr fun z => nomatch z
        have ce : ∀ v : Value, ([] : List Value).contains v = false := fun _ => rfl
        by_cases ex : x = root
        · rw [if_pos ex, List.nil_append, if_neg (by simp)]
          simp only [List.contains_cons, t, Bool.or_false, ce]
        · rw [if_neg ex, if_neg (by simp)]
          simp only [List.cons_append, List.nil_append, List.contains_cons, n2, t, Bool.false_or, Bool.or_false, ce]
theorem kit_ve {K : PySem.W.Frag} {root : Str} {xs : List Str} (h : mroB K root xs = true) {x : Str} (hx : x ∈ xs) : PySem.W.kitOne K (.ref (He.ga K x)) (.type "ValueError") = some true := by
  obtain ⟨h1, h2⟩ := Bool.and_eq_true_iff.mp h
  have m1 := List.all_eq_true.mp h1 x hx
  unfold PySem.W.kitOne
  rw [if_neg (by intro z; cases beq_iff_eq.mp z)]
  unfold mroOne at m1
  cases c1 : PySem.W.clsIn K (He.ga K x) with
  | none =>
    rw [c1] at m1
    cases m1
  | some cd =>
    rw [c1] at m1
    dsimp only at m1
    obtain ⟨m1, _⟩ := Bool.and_eq_true_iff.mp m1
    unfold PySem.W.kitCls
    dsimp only
    rw [if_pos (by decide +kernel)]
    unfold PySem.W.subIn PySem.W.mroIn
    dsimp only
    rw [c1]
    show (if cd.mro.isEmpty then none else some (cd.mro.contains (.type "ValueError"))) = _
    rw [beq_iff_eq.mp m1]
    by_cases ex : x = root
    · rw [if_pos ex, List.nil_append, if_neg (by simp)]
      simp
    · rw [if_neg ex, if_neg (by simp)]
      simp
end LR

/-! the layer of data: values without the heap -/
namespace DL
open PySem PySem.Spec PyProof.Rows L2 LR
/-- data: what a value stands for -/
inductive D where
  | non | bl (b : Bool) | int (i : Int) | str (s : Str) | lst (l : List D) | tup (l : List D) | ins (c : Nat) (l : List D)
/-- the own classes by number, and their fields in the order of __init__ -/
def cname : Nat → Str
  | 0 => "Ratio" | 1 => "Vector" | 2 => "Matrix" | 3 => "Poly" | 4 => "Measure" | 5 => "Solution" | 6 => "Echelon" | 7 => "Task" | _ => ""
def shape : Nat → List Str
  | 0 => ["top", "bottom"] | 1 => ["tops", "bottom"] | 2 => ["tops", "bottom", "height", "width"] | 3 => ["tops", "bottom"] | 4 => ["matrix", "size", "triangle", "pivots"] | 5 => ["answer", "kernel", "bar"]
  | 6 => ["rows", "places", "scale", "turn"] | 7 => ["matrix", "side", "measure", "size"] | _ => []
/-- v stands for d, by what H knows -/
inductive Rep (K : PySem.W.Frag) (H : Hp) : V → D → Prop where
  | non : Rep K H .non .non
  | bl (b : Bool) : Rep K H (.bl b) (.bl b)
  | int (i : Int) : Rep K H (.int i) (.int i)
  | str (s : Str) : Rep K H (.str s) (.str s)
  | lst {a : Addr} {vs : List V} {l : List D} (h : SqL K H a vs) (n : vs.length = l.length) (r : ∀ (i : Nat) v d, vs[i]? = some v → l[i]? = some d → Rep K H v d) : Rep K H (.ref a) (.lst l)
  | tup {a : Addr} {vs : List V} {l : List D} (h : SqT K H a vs) (n : vs.length = l.length) (r : ∀ (i : Nat) v d, vs[i]? = some v → l[i]? = some d → Rep K H v d) : Rep K H (.ref a) (.tup l)
  | ins {a dx : Addr} {c : Nat} {vs : List V} {l : List D} (h : H a = some (.ins (He.ga K (cname c)) dx ((shape c).zip vs))) (m : (shape c).length = vs.length) (n : vs.length = l.length)
      (r : ∀ (i : Nat) v d, vs[i]? = some v → l[i]? = some d → Rep K H v d) : Rep K H (.ref a) (.ins c l)
def Reps (K : PySem.W.Frag) (H : Hp) (vs : List V) (l : List D) : Prop := vs.length = l.length ∧ ∀ (i : Nat) v d, vs[i]? = some v → l[i]? = some d → Rep K H v d
theorem sqT_same {K : PySem.W.Frag} {H H' : Hp} {a : Addr} {xs : List V} (e : Same H H') (h : SqT K H a xs) : SqT K H' a xs := by
  rcases h with (h | ⟨o, h⟩) | h
  · exact .inl (.inl (e _ _ h))
  · exact .inl (.inr ⟨o, e _ _ h⟩)
  · exact .inr h
section
variable {K : PySem.W.Frag} {H H' : Hp} {v : V} {d : D} {vs : List V} {l : List D}
theorem Rep.same (r : Rep K H v d) (s : Same H H') : Rep K H' v d := by
  induction r with
  | non => exact .non
  | bl b => exact .bl b
  | int i => exact .int i
  | str x => exact .str x
  | lst h n _ ih => exact .lst (s.seq h) n ih
  | tup h n _ ih => exact .tup (sqT_same s h) n ih
  | ins h m n _ ih => exact .ins (s _ _ h) m n ih
theorem Reps.same (r : Reps K H vs l) (s : Same H H') : Reps K H' vs l := ⟨r.1, fun i v d h1 h2 => (r.2 i v d h1 h2).same s⟩
theorem Reps.nil : Reps K H [] [] := ⟨rfl, fun i v d h => by simp at h⟩
theorem Reps.cons (r : Rep K H v d) (rs : Reps K H vs l) : Reps K H (v :: vs) (d :: l) := ⟨by simp [rs.1], fun i w e h1 h2 => by
  cases i with
  | zero =>
    simp at h1 h2
    subst h1 h2
    exact r
  | succ i =>
    simp at h1 h2
    exact rs.2 i w e h1 h2⟩
theorem Reps.app {ws : List V} {m : List D} (r : Reps K H vs l) (rs : Reps K H ws m) : Reps K H (vs ++ ws) (l ++ m) := by
  refine ⟨by simp [r.1, rs.1], fun i w e h1 h2 => ?_⟩
  by_cases hi : i < vs.length
  · rw [List.getElem?_append_left hi] at h1
    rw [List.getElem?_append_left (by rw [← r.1]; exact hi)] at h2
    exact r.2 i w e h1 h2
  · rw [List.getElem?_append_right (by omega)] at h1
    rw [List.getElem?_append_right (by rw [← r.1]; omega), ← r.1] at h2
    exact rs.2 _ w e h1 h2
theorem Reps.at (r : Reps K H vs l) {i : Nat} {d : D} (h : l[i]? = some d) : ∃ v, vs[i]? = some v ∧ Rep K H v d := by
  have hi : i < l.length := (List.getElem?_eq_some_iff.mp h).1
  have hv : vs[i]? = some (vs[i]'(by rw [r.1]; exact hi)) := List.getElem?_eq_getElem _
  exact ⟨_, hv, r.2 i _ d hv h⟩
theorem Reps.at' (r : Reps K H vs l) {i : Nat} {v : V} (h : vs[i]? = some v) : ∃ d, l[i]? = some d ∧ Rep K H v d := by
  have hi : i < vs.length := (List.getElem?_eq_some_iff.mp h).1
  have hv : l[i]? = some (l[i]'(by rw [← r.1]; exact hi)) := List.getElem?_eq_getElem _
  exact ⟨_, hv, r.2 i v _ h hv⟩
theorem Reps.one (r : Rep K H v d) : Reps K H [v] [d] := Reps.nil.cons r
theorem Reps.set {w : V} {e : D} (r : Reps K H vs l) (q : Rep K H w e) (j : Nat) : Reps K H (vs.set j w) (l.set j e) := by
  refine ⟨by simp [r.1], fun i x y h1 h2 => ?_⟩
  rw [List.getElem?_set] at h1 h2
  by_cases hij : j = i
  · subst hij
    simp only [if_true] at h1 h2
    by_cases hl : j < vs.length
    · rw [if_pos hl] at h1
      rw [if_pos (by rw [← r.1]; exact hl)] at h2
      cases h1
      cases h2
      exact q
    · rw [if_neg hl] at h1
      cases h1
  · rw [if_neg hij] at h1 h2
    exact r.2 i x y h1 h2
theorem Reps.cut (r : Reps K H vs l) (n m : Nat) : Reps K H ((vs.drop n).take m) ((l.drop n).take m) := by
  refine ⟨by simp [r.1], fun i x y h1 h2 => ?_⟩
  rw [List.getElem?_take] at h1 h2
  split at h1
  · rename_i hi
    rw [if_pos hi] at h2
    rw [List.getElem?_drop] at h1 h2
    exact r.2 _ x y h1 h2
  · cases h1
theorem Reps.ints {ns : List Int} (r : Reps K H vs (ns.map D.int)) : vs = ns.map V.int := by
  refine List.ext_getElem? fun i => ?_
  cases h : vs[i]? with
  | none =>
    have : vs.length ≤ i := List.getElem?_eq_none_iff.mp h
    rw [r.1, List.length_map] at this
    exact (List.getElem?_eq_none_iff.mpr (by rw [List.length_map]; exact this)).symm
  | some v =>
    obtain ⟨d, hd, q⟩ := r.at' h
    rw [List.getElem?_map] at hd
    cases e : ns[i]? with
    | none =>
      rw [e] at hd
      cases hd
    | some n =>
      rw [e] at hd
      cases hd
      cases q
      rw [List.getElem?_map, e]
      rfl
theorem Reps.of_ints (ns : List Int) : Reps K H (ns.map V.int) (ns.map D.int) := by
  refine ⟨by simp, fun i v d h1 h2 => ?_⟩
  rw [List.getElem?_map] at h1 h2
  cases e : ns[i]? with
  | none =>
    rw [e] at h1
    cases h1
  | some n =>
    rw [e] at h1 h2
    cases h1
    cases h2
    exact .int n
theorem Rep.lst_inv {v : V} {l : List D} (r : Rep K H v (.lst l)) : ∃ a vs, v = .ref a ∧ SqL K H a vs ∧ Reps K H vs l := by
  cases r with
  | lst h n q => exact ⟨_, _, rfl, h, n, q⟩
theorem Rep.tup_inv {v : V} {l : List D} (r : Rep K H v (.tup l)) : ∃ a vs, v = .ref a ∧ SqT K H a vs ∧ Reps K H vs l := by
  cases r with
  | tup h n q => exact ⟨_, _, rfl, h, n, q⟩
theorem Rep.ins_inv {v : V} {c : Nat} {l : List D} (r : Rep K H v (.ins c l)) : ∃ a dx vs, v = .ref a ∧ H a = some (.ins (He.ga K (cname c)) dx ((shape c).zip vs)) ∧ (shape c).length = vs.length ∧ Reps K H vs l := by
  cases r with
  | ins h m n q => exact ⟨_, _, _, rfl, h, m, n, q⟩
theorem Rep.int_inv {v : V} {i : Int} (r : Rep K H v (.int i)) : v = .int i := by cases r; rfl
theorem Rep.bl_inv {v : V} {b : Bool} (r : Rep K H v (.bl b)) : v = .bl b := by cases r; rfl
theorem Rep.str_inv {v : V} {s : Str} (r : Rep K H v (.str s)) : v = .str s := by cases r; rfl
theorem Rep.non_inv {v : V} (r : Rep K H v .non) : v = .non := by cases r; rfl
end
/-- what came: H' is H and new things; G' (of H') knows G (of H) and new things alone -/
structure Ext (G H G' H' : Hp) : Prop where
  hh : Same H H'
  gg : Same G G'
  sub : Same G' H'
  new : ∀ a, G' a ≠ none → G a = none → H a = none
theorem Ext.refl {G H : Hp} (s : Same G H) : Ext G H G H := ⟨.refl _, .refl _, s, fun _ h1 h2 => absurd h2 h1⟩
theorem Ext.trans {G H G1 H1 G2 H2 : Hp} (a : Ext G H G1 H1) (b : Ext G1 H1 G2 H2) : Ext G H G2 H2 := ⟨a.hh.trans b.hh, a.gg.trans b.gg, b.sub, fun x h1 h2 => by
  cases e : G1 x with
  | none => exact a.hh.free (b.new x h1 e)
  | some o => exact a.new x (by rw [e]; simp) h2⟩
/-- a new object, known -/
theorem Ext.nw {G H : Hp} {p : Addr} {o : HO} (s : Same G H) (n : H p = none) : Ext G H (upd G p o) (upd H p o) := by
  refine ⟨same_new n, same_new (s.free n), fun b u e => ?_, fun a h1 h2 => ?_⟩
  · by_cases hb : b = p
    · subst hb
      rw [upd_same] at e ⊢
      exact e
    · rw [upd_ne hb] at e ⊢
      exact s b u e
  · by_cases hb : a = p
    · subst hb
      exact n
    · rw [upd_ne hb] at h1
      exact absurd h2 h1
/-- a new object, not known -/
theorem Ext.hid {G H : Hp} {p : Addr} {o : HO} (s : Same G H) (n : H p = none) : Ext G H G (upd H p o) := ⟨same_new n, .refl _, same_new' s n, fun _ h1 h2 => absurd h2 h1⟩

def RepF (K : PySem.W.Frag) (G : Hp) (fv : List (Str × V)) (fs : List (Str × D)) : Prop := fv.map (·.1) = fs.map (·.1) ∧ Reps K G (fv.map (·.2)) (fs.map (·.2))
theorem RepF.same {K : PySem.W.Frag} {G G' : Hp} {fv : List (Str × V)} {fs : List (Str × D)} (r : RepF K G fv fs) (s : Same G G') : RepF K G' fv fs := ⟨r.1, r.2.same s⟩
/-- a slot: unknown, a value, a list of the def's own that nothing else knows, an object in the making, a caught error -/
inductive Sl where
  | no | val (d : D) | own (l : List D) | ob (p : Addr) (c : Nat) (fs : List (Str × D)) | exc (a dd : Addr) (x : Str) (fs : List (Str × D))
abbrev DE := List Sl
def SlOk (K : PySem.W.Frag) (H0 G H : Hp) (v : Option (Option V)) : Sl → Prop
  | .no => True
  | .val d => ∃ w, v = some (some w) ∧ Rep K G w d
  | .own l => ∃ p vs, v = some (some (.ref p)) ∧ H p = some (.lst vs) ∧ G p = none ∧ H0 p = none ∧ Reps K G vs l
  | .ob p c fs => ∃ dx fv, v = some (some (.ref p)) ∧ H p = some (.ins (He.ga K (cname c)) dx fv) ∧ G p = none ∧ H0 p = none ∧ RepF K G fv fs
  | .exc a dd x fs => ∃ fv, v = some (some (.ref a)) ∧ H dd = some (.xd fv) ∧ RepF K G fv fs
/-- a slot whose object may change -/
def mutS : Sl → Bool
  | .own _ => true | .ob _ _ _ => true | _ => false
/-- the state of a def's body: H0 and G0 at its entry -/
structure SR (K : PySem.W.Frag) (H0 G0 G H : Hp) (σ : L2.St) (env : DE) : Prop where
  same : Same H0 H
  sub : Same G H
  g0 : Same G0 G
  ext : ∀ a, G a ≠ none → G0 a = none → H0 a = none
  len : σ.length = env.length
  slot : ∀ (i : Nat) s, env[i]? = some s → SlOk K H0 G H (σ[i]?) s
  apart : ∀ (i j : Nat) s t p, i ≠ j → env[i]? = some s → env[j]? = some t → mutS s = true → mutS t = true → σ[i]? = some (some (.ref p)) → σ[j]? ≠ some (some (.ref p))
section
variable {K : PySem.W.Frag} {H0 G0 G H G' H' : Hp} {σ : L2.St} {env : DE}
theorem SlOk.ex {v : Option (Option V)} {s : Sl} (h : SlOk K H0 G H v s) (x : Ext G H G' H') : SlOk K H0 G' H' v s := by
  have nw : ∀ p o, H p = some o → G p = none → G' p = none := fun p o hp gp => by
    cases z : G' p with
    | none => rfl
    | some o' =>
      have := x.new p (by rw [z]; simp) gp
      rw [hp] at this
      cases this
  cases s with
  | no => trivial
  | val d =>
    obtain ⟨w, e, r⟩ := h
    exact ⟨w, e, r.same x.gg⟩
  | own l =>
    obtain ⟨p, vs, e, hp, gp, op, r⟩ := h
    exact ⟨p, vs, e, x.hh _ _ hp, nw p _ hp gp, op, r.same x.gg⟩
  | ob p c fs =>
    obtain ⟨dx, fv, e, hp, gp, op, r⟩ := h
    exact ⟨dx, fv, e, x.hh _ _ hp, nw p _ hp gp, op, r.same x.gg⟩
  | exc a dd x' fs =>
    obtain ⟨fv, e, hp, r⟩ := h
    exact ⟨fv, e, x.hh _ _ hp, r.same x.gg⟩
theorem SR.ex (S : SR K H0 G0 G H σ env) (x : Ext G H G' H') : SR K H0 G0 G' H' σ env := by
  refine ⟨S.same.trans x.hh, x.sub, S.g0.trans x.gg, fun a h1 h2 => ?_, S.len, fun i s h => (S.slot i s h).ex x, S.apart⟩
  cases e : G a with
  | none => exact S.same.free (x.new a h1 e)
  | some o => exact S.ext a (by rw [e]; simp) h2
theorem SR.val (S : SR K H0 G0 G H σ env) (i : Nat) (d : D) (h : env[i]? = some (.val d)) : ∃ v, σ[i]? = some (some v) ∧ Rep K G v d := S.slot i _ h
theorem SR.own (S : SR K H0 G0 G H σ env) (i : Nat) (l : List D) (h : env[i]? = some (.own l)) : ∃ p vs, σ[i]? = some (some (.ref p)) ∧ H p = some (.lst vs) ∧ G p = none ∧ H0 p = none ∧ Reps K G vs l := S.slot i _ h
theorem SR.all (S : SR K H0 G0 G H σ env) : Ext G0 H0 G H := ⟨S.same, S.g0, S.sub, S.ext⟩
theorem set_key {α : Type} {l : List α} {i j : Nat} {x s : α} (h : (l.set i x)[j]? = some s) : (j = i ∧ s = x ∧ i < l.length) ∨ (j ≠ i ∧ l[j]? = some s) := by
  rw [List.getElem?_set] at h
  by_cases hj : i = j
  · subst hj
    rw [if_pos rfl] at h
    split at h
    · rename_i hl
      cases h
      exact .inl ⟨rfl, rfl, hl⟩
    · cases h
  · rw [if_neg hj] at h
    exact .inr ⟨Ne.symm hj, h⟩
theorem set_at {α : Type} {l : List α} {i : Nat} {x : α} (h : i < l.length) : (l.set i x)[i]? = some x := by
  rw [List.getElem?_set, if_pos rfl, if_pos h]
theorem set_off {α : Type} {l : List α} {i j : Nat} {x : α} (h : j ≠ i) : (l.set i x)[j]? = l[j]? := by
  rw [List.getElem?_set, if_neg (Ne.symm h)]
/-- a slot is written; the new object, if it may change, is nowhere else -/
theorem SR.put (S : SR K H0 G0 G H σ env) (i : Nat) (v : Option V) (s : Sl) (h : SlOk K H0 G H (some v) s) (m : mutS s = true → ∀ (j : Nat) t p, env[j]? = some t → mutS t = true → j ≠ i → v = some (.ref p) → σ[j]? ≠ some (some (.ref p))) :
    SR K H0 G0 G H (σ.set i v) (env.set i s) := by
  refine ⟨S.same, S.sub, S.g0, S.ext, by simp [S.len], fun j t h' => ?_, fun j k t u p jk h1 h2 m1 m2 h3 => ?_⟩
  · rcases set_key h' with ⟨rfl, rfl, hl⟩ | ⟨hj, e1⟩
    · rw [set_at (by rw [S.len]; exact hl)]
      exact h
    · rw [set_off hj]
      exact S.slot j t e1
  · rcases set_key h1 with ⟨rfl, rfl, hl⟩ | ⟨hj, e1⟩
    · rw [set_at (by rw [S.len]; exact hl)] at h3
      rcases set_key h2 with ⟨rfl, rfl, _⟩ | ⟨hk, f1⟩
      · exact absurd rfl jk
      · rw [set_off hk]
        exact m m1 k u p f1 m2 hk (Option.some.inj h3)
    · rw [set_off hj] at h3
      rcases set_key h2 with ⟨rfl, rfl, hl⟩ | ⟨hk, f1⟩
      · rw [set_at (by rw [S.len]; exact hl)]
        intro z
        exact m m2 j t p e1 m1 hj (Option.some.inj z) h3
      · rw [set_off hk]
        exact S.apart j k t u p jk e1 f1 m1 m2 h3
theorem SR.set (S : SR K H0 G0 G H σ env) {i : Nat} {v : V} {d : D} (r : Rep K G v d) : SR K H0 G0 G H (σ.set i (some v)) (env.set i (.val d)) := S.put i (some v) (.val d) ⟨v, rfl, r⟩ (fun z => by cases z)
theorem SR.unset (S : SR K H0 G0 G H σ env) {i : Nat} {v : Option V} : SR K H0 G0 G H (σ.set i v) (env.set i .no) := S.put i v .no trivial (fun z => by cases z)
/-- the object that a slot may change, of no other address -/
theorem SlOk.mut_some {v : Option (Option V)} {s : Sl} (h : SlOk K H0 G H v s) (m : mutS s = true) : ∃ p o, v = some (some (.ref p)) ∧ H p = some o ∧ G p = none ∧ H0 p = none := by
  cases s with
  | own l => obtain ⟨p, vs, e, hp, gp, op, _⟩ := h; exact ⟨p, _, e, hp, gp, op⟩
  | ob p c fs => obtain ⟨dx, fv, e, hp, gp, op, _⟩ := h; exact ⟨p, _, e, hp, gp, op⟩
  | no => cases m
  | val d => cases m
  | exc a dd x fs => cases m
/-- a new list of the def's own -/
theorem SR.setOwn (S : SR K H0 G0 G H σ env) {i : Nat} {p : Addr} {vs : List V} {l : List D} (n : H p = none) (r : Reps K G vs l) : SR K H0 G0 G (upd H p (.lst vs)) (σ.set i (some (.ref p))) (env.set i (.own l)) := by
  have S1 : SR K H0 G0 G (upd H p (.lst vs)) σ env := S.ex (Ext.hid S.sub n)
  refine S1.put i _ _ ⟨p, vs, rfl, upd_same, S.sub.free n, S.same.free n, r⟩ fun _ j t q h1 h2 h3 h4 h5 => ?_
  cases h4
  obtain ⟨p', o, e, hp, _⟩ := (S.slot j t h1).mut_some h2
  rw [h5] at e
  cases e
  rw [n] at hp
  cases hp
/-- the object of a slot is changed -/
theorem SR.mut (S : SR K H0 G0 G H σ env) {i : Nat} {p : Addr} {o : HO} {s t : Sl} (he : env[i]? = some s) (ms : mutS s = true) (mt : mutS t = true) (hp : σ[i]? = some (some (.ref p))) (nx : ∀ fv, H p ≠ some (.xd fv))
    (h : SlOk K H0 G (upd H p o) (some (some (.ref p))) t) : SR K H0 G0 G (upd H p o) σ (env.set i t) := by
  obtain ⟨p', o', e3, hq, gp, op⟩ := (S.slot i s he).mut_some ms
  rw [hp] at e3
  cases e3
  refine ⟨same_mut S.same op, fun b u e => ?_, S.g0, S.ext, by simp [S.len], fun j u h' => ?_, fun j k u w q jk h1 h2 m1 m2 h3 => ?_⟩
  · rw [upd_ne (ne_of_none e gp)]
    exact S.sub b u e
  · rcases set_key h' with ⟨rfl, rfl, hl⟩ | ⟨hj, e1⟩
    · rw [hp]
      exact h
    · have w := S.slot j u e1
      cases u with
      | no => trivial
      | val d => exact w
      | own l =>
        obtain ⟨q, xs, e3, hq', gq, oq, rq'⟩ := w
        refine ⟨q, xs, e3, (upd_ne ?_).trans hq', gq, oq, rq'⟩
        intro z
        subst z
        exact S.apart j i _ _ q hj e1 he rfl ms e3 hp
      | ob q c fs =>
        obtain ⟨dx, xs, e3, hq', gq, oq, rq'⟩ := w
        refine ⟨dx, xs, e3, (upd_ne ?_).trans hq', gq, oq, rq'⟩
        intro z
        subst z
        exact S.apart j i _ _ q hj e1 he rfl ms e3 hp
      | exc a dd x fs =>
        obtain ⟨fv, e3, hd, r⟩ := w
        refine ⟨fv, e3, (upd_ne ?_).trans hd, r⟩
        intro z
        subst z
        exact nx _ hd
  · have w1 : ∃ u', env[j]? = some u' ∧ mutS u' = true := by
      rcases set_key h1 with ⟨rfl, rfl, _⟩ | ⟨hj, e1⟩
      · exact ⟨s, he, ms⟩
      · exact ⟨_, e1, m1⟩
    have w2 : ∃ u', env[k]? = some u' ∧ mutS u' = true := by
      rcases set_key h2 with ⟨rfl, rfl, _⟩ | ⟨hj, e1⟩
      · exact ⟨s, he, ms⟩
      · exact ⟨_, e1, m2⟩
    obtain ⟨l1, e1, f1⟩ := w1
    obtain ⟨l2, e2, f2⟩ := w2
    exact S.apart j k l1 l2 q jk e1 e2 f1 f2 h3
/-- a list of one's own is changed -/
theorem SR.mutL (S : SR K H0 G0 G H σ env) {i : Nat} {p : Addr} {ws : List V} {l m : List D} (he : env[i]? = some (.own l)) (hp : σ[i]? = some (some (.ref p))) (r : Reps K G ws m) : SR K H0 G0 G (upd H p (.lst ws)) σ (env.set i (.own m)) := by
  obtain ⟨p', vs, e3, hq, gp, op, rq⟩ := S.own i l he
  rw [hp] at e3
  cases e3
  exact S.mut he rfl rfl hp (fun fv z => by rw [hq] at z; cases z) ⟨p, ws, rfl, upd_same, gp, op, r⟩
/-- a list of one's own becomes a value -/
theorem SR.frz (S : SR K H0 G0 G H σ env) {i : Nat} {l : List D} (he : env[i]? = some (.own l)) : ∃ G', Same G G' ∧ SR K H0 G0 G' H σ (env.set i (.val (.lst l))) := by
  obtain ⟨p, vs, hp, hq, gp, op, rq⟩ := S.own i l he
  have gG : Same G (upd G p (.lst vs)) := same_new gp
  refine ⟨upd G p (.lst vs), gG, S.same, fun b u e => ?_, S.g0.trans gG, fun a h1 h2 => ?_, by simp [S.len], fun j u h' => ?_, fun j k u w q jk h1 h2 m1 m2 h3 => ?_⟩
  · by_cases hb : b = p
    · subst hb
      rw [upd_same] at e
      cases e
      exact hq
    · rw [upd_ne hb] at e
      exact S.sub b u e
  · by_cases hb : a = p
    · subst hb
      exact op
    · rw [upd_ne hb] at h1
      exact S.ext a h1 h2
  · rcases set_key h' with ⟨rfl, rfl, hl⟩ | ⟨hj, e1⟩
    · have r2 := rq.same gG
      exact ⟨_, hp, .lst (SqL.of upd_same) r2.1 r2.2⟩
    · have w := S.slot j u e1
      cases u with
      | no => trivial
      | val d =>
        obtain ⟨v, e2, r⟩ := w
        exact ⟨v, e2, r.same gG⟩
      | own m =>
        obtain ⟨q, xs, e3, hq', gq, oq, rq'⟩ := w
        refine ⟨q, xs, e3, hq', ?_, oq, rq'.same gG⟩
        rw [upd_ne]
        · exact gq
        · intro z
          subst z
          exact S.apart j i _ _ q hj e1 he rfl rfl e3 hp
      | ob q c fs =>
        obtain ⟨dx, xs, e3, hq', gq, oq, rq'⟩ := w
        refine ⟨dx, xs, e3, hq', ?_, oq, rq'.same gG⟩
        rw [upd_ne]
        · exact gq
        · intro z
          subst z
          exact S.apart j i _ _ q hj e1 he rfl rfl e3 hp
      | exc a dd x fs =>
        obtain ⟨fv, e3, hd, r⟩ := w
        exact ⟨fv, e3, hd, r.same gG⟩
  · rcases set_key h1 with ⟨rfl, rfl, _⟩ | ⟨hj, e1⟩
    · cases m1
    rcases set_key h2 with ⟨rfl, rfl, _⟩ | ⟨hk, f1⟩
    · cases m2
    exact S.apart j k u w q jk e1 f1 m1 m2 h3
end
end DL

namespace DL
open PySem PySem.Spec PyProof.Rows L2 LR
/-- an own error on its way: its class, its fields -/
abbrev EX := Str → List (Str × D) → Prop
abbrev DT := DE → (D → Prop) → EX → Prop
abbrev DTT := DE → (Bool → Prop) → EX → Prop
abbrev DTA := DE → (List D → Prop) → EX → Prop
def LkE (K : PySem.W.Frag) (H0 G0 G : Hp) (W : WX) (σ : L2.St) (env : DE) (ex : EX) : Prop :=
  ∀ (H' G' : Hp) (d : Addr) (x : Str) (fv : List (Str × V)) (fs : List (Str × D)), Same G G' → SR K H0 G0 G' H' σ env → H' d = some (.xd fv) → RepF K G' fv fs → ex x fs → W (.ref (He.ga K x)) (some d) σ H'
theorem LkE.mono {K : PySem.W.Frag} {H0 G0 G G1 : Hp} {W : WX} {σ : L2.St} {env : DE} {ex : EX} (h : LkE K H0 G0 G W σ env ex) (s : Same G G1) : LkE K H0 G0 G1 W σ env ex := fun H' G' d x fv fs s' => h H' G' d x fv fs (s.trans s')
theorem LkE.no {K : PySem.W.Frag} {H0 G0 G : Hp} {W : WX} {σ : L2.St} {env : DE} : LkE K H0 G0 G W σ env (fun _ _ => False) := fun _ _ _ _ _ _ _ _ _ _ h => h.elim
/-- what comes of an expression -/
def Got (K : PySem.W.Frag) (G H : Hp) (Q : D → Prop) (R : VK) : Prop := ∀ v H' G' d, Ext G H G' H' → Rep K G' v d → Q d → R v H'
def LE (X : Cx) (W : WX) (te : TE) (t : DT) : Prop := ∀ (H0 G0 G H : Hp) (σ : L2.St) (env : DE) (Q : D → Prop) (ex : EX) (R : VK), SR X.K H0 G0 G H σ env → LkE X.K H0 G0 G W σ env ex → t env Q ex → Got X.K G H Q R → te σ H R
def LT (X : Cx) (W : WX) (tt : TT) (t : DTT) : Prop := ∀ (H0 G0 G H : Hp) (σ : L2.St) (env : DE) (Q : Bool → Prop) (ex : EX) (R : Bool → Hp → Prop), SR X.K H0 G0 G H σ env → LkE X.K H0 G0 G W σ env ex → t env Q ex →
  (∀ b H' G', Ext G H G' H' → Q b → R b H') → tt σ H R
def LA (X : Cx) (W : WX) (ta : TA) (t : DTA) : Prop := ∀ (H0 G0 G H : Hp) (σ : L2.St) (env : DE) (Q : List D → Prop) (ex : EX) (R : List V → Hp → Prop), SR X.K H0 G0 G H σ env → LkE X.K H0 G0 G W σ env ex → t env Q ex →
  (∀ vs H' G' ds, Ext G H G' H' → Reps X.K G' vs ds → Q ds → R vs H') → ta σ H R
structure PD (X : Cx) (W : WX) (e : Expr) (t : DT) : Prop where
  of : ∃ te, PE X e te ∧ LE X W te t
structure PDT (X : Cx) (W : WX) (e : Expr) (t : DTT) : Prop where
  of : ∃ tt, PT X e tt ∧ LT X W tt t
structure PDW (X : Cx) (W : WX) (e : Expr) (t : DTT) : Prop where
  of : ∃ tt, PW X e tt ∧ LT X W tt t
structure PDA (X : Cx) (W : WX) (es : List Expr) (t : DTA) : Prop where
  of : ∃ ta, PA X es ta ∧ LA X W ta t
/-- a new list -/
def GotN (K : PySem.W.Frag) (G H : Hp) (Q : List D → Prop) (R : VK) : Prop := ∀ p vs H' H1 G' l, Ext G H G' H1 → H1 p = none → H' = upd H1 p (.lst vs) → Reps K G' vs l → Q l → R (.ref p) H'
abbrev DTN := DE → (List D → Prop) → EX → Prop
def LN (X : Cx) (W : WX) (te : TE) (t : DTN) : Prop := ∀ (H0 G0 G H : Hp) (σ : L2.St) (env : DE) (Q : List D → Prop) (ex : EX) (R : VK), SR X.K H0 G0 G H σ env → LkE X.K H0 G0 G W σ env ex → t env Q ex → GotN X.K G H Q R → te σ H R
structure PDN (X : Cx) (W : WX) (e : Expr) (t : DTN) : Prop where
  of : ∃ te, PE X e te ∧ LN X W te t
def dNew (t : DTN) : DT := fun env Q ex => t env (fun l => Q (.lst l)) ex
theorem LN.le {X : Cx} {W : WX} {te : TE} {t : DTN} (h : LN X W te t) : LE X W te (dNew t) := fun H0 G0 G H σ env Q ex R S L q g =>
  h H0 G0 G H σ env _ ex R S L q fun p vs H' H1 G' l x n e r ql => by
    subst e
    have x2 : Ext G' H1 (upd G' p (.lst vs)) (upd H1 p (.lst vs)) := Ext.nw x.sub n
    have r2 := r.same x2.gg
    exact g _ _ _ _ (x.trans x2) (.lst (SqL.of upd_same) r2.1 r2.2) ql
theorem pd_new {X : Cx} {W : WX} {e : Expr} {t : DTN} (h : PDN X W e t) : PD X W e (dNew t) := let ⟨te, h1, h2⟩ := h.of; ⟨te, h1, h2.le⟩
section
variable {X : Cx} {W : WX} {a b c e : Expr} {es : List Expr} {ta tb tc : DT} {t : DTA} {pos : Pos}
/-! names, constants -/
def dVar (i : Nat) : DT := fun env Q _ => ∃ d, env[i]? = some (.val d) ∧ Q d
theorem pd_var {i : Nat} (h : PE X e (tVar i)) : PD X W e (dVar i) := ⟨_, h, fun H0 G0 G H σ env Q ex R S L ⟨d, hd, q⟩ g => by
  obtain ⟨v, e1, r⟩ := S.val i d hd
  exact ⟨v, e1, g v H G d (.refl S.sub) r q⟩⟩
def dC (d : D) : DT := fun _ Q _ => Q d
theorem pd_int {i : Int} (h : PE X e (tC (.int i))) : PD X W e (dC (.int i)) := ⟨_, h, fun H0 G0 G H σ env Q ex R S L q g => g _ _ _ _ (.refl S.sub) (.int i) q⟩
theorem pd_bl {i : Bool} (h : PE X e (tC (.bl i))) : PD X W e (dC (.bl i)) := ⟨_, h, fun H0 G0 G H σ env Q ex R S L q g => g _ _ _ _ (.refl S.sub) (.bl i) q⟩
theorem pd_str {i : Str} (h : PE X e (tC (.str i))) : PD X W e (dC (.str i)) := ⟨_, h, fun H0 G0 G H σ env Q ex R S L q g => g _ _ _ _ (.refl S.sub) (.str i) q⟩
theorem pd_non (h : PE X e (tC .non)) : PD X W e (dC .non) := ⟨_, h, fun H0 G0 G H σ env Q ex R S L q g => g _ _ _ _ (.refl S.sub) .non q⟩
/-! operators by values -/
abbrev R2D := D → D → (D → Prop) → Prop
def L2R (K : PySem.W.Frag) (r : R2) (rD : R2D) : Prop := ∀ (G H : Hp) (x y : V) (a b : D) (Q : D → Prop) (R : VK), Same G H → Rep K G x a → Rep K G y b → rD a b Q → Got K G H Q R → r x y H R
def L1R (K : PySem.W.Frag) (r : V → Hp → VK → Prop) (rD : D → (D → Prop) → Prop) : Prop := ∀ (G H : Hp) (x : V) (a : D) (Q : D → Prop) (R : VK), Same G H → Rep K G x a → rD a Q → Got K G H Q R → r x H R
def LcR (K : PySem.W.Frag) (r : List V → Hp → VK → Prop) (rD : List D → (D → Prop) → Prop) : Prop := ∀ (G H : Hp) (vs : List V) (ds : List D) (Q : D → Prop) (R : VK), Same G H → Reps K G vs ds → rD ds Q → Got K G H Q R → r vs H R
def LcN (K : PySem.W.Frag) (r : List V → Hp → VK → Prop) (rD : List D → (List D → Prop) → Prop) : Prop := ∀ (G H : Hp) (vs : List V) (ds : List D) (Q : List D → Prop) (R : VK), Same G H → Reps K G vs ds → rD ds Q → GotN K G H Q R → r vs H R
def LmR (K : PySem.W.Frag) (r : V → List V → Hp → VK → Prop) (rD : D → List D → (D → Prop) → Prop) : Prop := ∀ (G H : Hp) (x : V) (vs : List V) (a : D) (ds : List D) (Q : D → Prop) (R : VK), Same G H → Rep K G x a → Reps K G vs ds → rD a ds Q → Got K G H Q R → r x vs H R
def dOp (r : R2D) (ta tb : DT) : DT := fun env Q ex => ta env (fun x => tb env (fun y => r x y Q) ex) ex
theorem le_op {r : R2} {rD : R2D} (hl : L2R X.K r rD) {sa sb : TE} (la : LE X W sa ta) (lb : LE X W sb tb) : LE X W (tOp r sa sb) (dOp rD ta tb) := fun H0 G0 G H σ env Q ex R S L q g =>
  la H0 G0 G H σ env _ ex _ S L q fun v H1 G1 d x1 r1 q1 => lb H0 G0 G1 H1 σ env _ ex _ (S.ex x1) (L.mono x1.gg) q1 fun u H2 G2 d2 x2 r2 q2 =>
    hl G2 H2 v u d d2 Q R x2.sub (r1.same x2.gg) r2 q2 fun w H3 G3 d3 x3 r3 q3 => g w H3 G3 d3 ((x1.trans x2).trans x3) r3 q3
theorem pd_op {op : Operator} {r : R2} {rD : R2D} (ho : OpR X (binaryOp op) r) (hl : L2R X.K r rD) (ha : PD X W a ta) (hb : PD X W b tb) : PD X W (.BinOp a op b pos) (dOp rD ta tb) :=
  let ⟨_, pa, la⟩ := ha.of; let ⟨_, pb, lb⟩ := hb.of; ⟨_, pe_op ho pa pb, le_op hl la lb⟩
theorem pd_ix {r : R2} {rD : R2D} (ho : IxR X r) (hl : L2R X.K r rD) (ha : PD X W a ta) (hb : PD X W b tb) (hp : PlainIx b) : PD X W (.Subscript a b pos) (dOp rD ta tb) :=
  let ⟨_, pa, la⟩ := ha.of; let ⟨_, pb, lb⟩ := hb.of; ⟨_, pe_ix ho pa pb hp, le_op hl la lb⟩
theorem pd_cmp {op : CmpOp} {r : R2} {rD : R2D} (ho : OpR X (compareOp op) r) (hl : L2R X.K r rD) (ha : PD X W a ta) (hb : PD X W b tb) (hm : behindInMarks op b = false) : PD X W (.Compare a [op] [b] pos) (dOp rD ta tb) :=
  let ⟨_, pa, la⟩ := ha.of; let ⟨_, pb, lb⟩ := hb.of; ⟨_, pe_cmpR ho pa pb hm, le_op hl la lb⟩
def dUn (r : D → (D → Prop) → Prop) (ta : DT) : DT := fun env Q ex => ta env (fun x => r x Q) ex
theorem le_un {r : V → Hp → VK → Prop} {rD : D → (D → Prop) → Prop} (hl : L1R X.K r rD) {sa : TE} (la : LE X W sa ta) : LE X W (tUn r sa) (dUn rD ta) := fun H0 G0 G H σ env Q ex R S L q g =>
  la H0 G0 G H σ env _ ex _ S L q fun v H1 G1 d x1 r1 q1 => hl G1 H1 v d Q R x1.sub r1 q1 fun w H3 G3 d3 x3 r3 q3 => g w H3 G3 d3 (x1.trans x3) r3 q3
theorem pd_un {op : UnaryOp} {r : V → Hp → VK → Prop} {rD : D → (D → Prop) → Prop} (ho : UnR X (unaryOp op) r) (hl : L1R X.K r rD) (ha : PD X W a ta) : PD X W (.UnaryOp op a pos) (dUn rD ta) :=
  let ⟨_, pa, la⟩ := ha.of; ⟨_, pe_un ho pa, le_un hl la⟩
/-! tests -/
def dTest (t : DT) : DTT := fun env Q ex => t env (fun d => ∃ k, d = .bl k ∧ Q k) ex
theorem lt_test {sa : TE} (la : LE X W sa ta) : LT X W (tTest sa) (dTest ta) := fun H0 G0 G H σ env Q ex R S L q g =>
  la H0 G0 G H σ env _ ex _ S L q fun v H1 G1 d x1 r1 ⟨k, e1, q1⟩ => ⟨k, by subst e1; exact r1.bl_inv, g k H1 G1 x1 q1⟩
theorem pdt_cmp {op : CmpOp} {r : R2} {rD : R2D} (ho : OpR X (compareOp op) r) (hl : L2R X.K r rD) (ha : PD X W a ta) (hb : PD X W b tb) (hm : behindInMarks op b = false) : PDT X W (.Compare a [op] [b] pos) (dTest (dOp rD ta tb)) :=
  let ⟨_, pa, la⟩ := ha.of; let ⟨_, pb, lb⟩ := hb.of; ⟨_, pt_cmpR ho pa pb hm, lt_test (le_op hl la lb)⟩
theorem pdt_val (ha : PD X W e ta) (h : ∀ (whole : Sem Value), PySem.isTrue e X.env whole = (do let v ← whole; standAt e.pos; holding [v] (truthy v)) := by intro _; rfl) : PDT X W e (dTest ta) :=
  let ⟨_, pa, la⟩ := ha.of; ⟨_, pt_val pa h, lt_test la⟩
/-- truth of a thing -/
def truD : D → Bool
  | .non => false | .bl b => b | .int i => i != 0 | .str s => s.length != 0 | .lst l => !l.isEmpty | .tup l => !l.isEmpty | .ins _ _ => true
def dTru (t : DT) : DTT := fun env Q ex => t env (fun d => (match d with | .lst _ => True | .tup _ => True | .int _ => True | .non => True | _ => False) ∧ Q (truD d)) ex
theorem emp_len {α β : Type} {l : List α} {m : List β} (h : l.length = m.length) : l.isEmpty = m.isEmpty := by
  cases l <;> cases m <;> first | rfl | (simp at h)
theorem pdt_truth (ha : PD X W e ta) (h : ∀ (whole : Sem Value), PySem.isTrue e X.env whole = (do let v ← whole; standAt e.pos; holding [v] (truthy v)) := by intro _; rfl) : PDT X W e (dTru ta) := by
  obtain ⟨sa, pa, la⟩ := ha.of
  refine ⟨_, pt_truth pa h, fun H0 G0 G H σ env Q ex R S L q g => la H0 G0 G H σ env _ ex _ S L q fun v H1 G1 d x1 r1 ⟨q0, q1⟩ => ⟨truD d, ?_, g _ H1 G1 x1 q1⟩⟩
  cases d with
  | non => rw [r1.non_inv]; rfl
  | int i => rw [r1.int_inv]; rfl
  | lst l =>
    obtain ⟨p, vs, rfl, h1, h2⟩ := (r1.same x1.sub).lst_inv
    exact .inl ⟨vs, h1, by unfold truD; rw [emp_len h2.1]⟩
  | tup l =>
    obtain ⟨p, vs, rfl, h1, h2⟩ := (r1.same x1.sub).tup_inv
    exact .inr (.inl ⟨vs, h1, by unfold truD; rw [emp_len h2.1]⟩)
  | bl b => exact q0.elim
  | str s => exact q0.elim
  | ins c l => exact q0.elim
def dNot (t : DTT) : DTT := fun env Q ex => t env (fun k => Q (!k)) ex
theorem pdt_not {t : DTT} (ha : PDT X W a t) : PDT X W (.UnaryOp .Not a pos) (dNot t) :=
  let ⟨_, pa, la⟩ := ha.of; ⟨_, pt_not pa, fun H0 G0 G H σ env Q ex R S L q g => la H0 G0 G H σ env _ ex _ S L q fun k H1 G1 x1 q1 => g _ H1 G1 x1 q1⟩
def dAnd (t u : DTT) : DTT := fun env Q ex => t env (fun k => if k = true then u env Q ex else Q false) ex
def dOr (t u : DTT) : DTT := fun env Q ex => t env (fun k => if k = true then Q true else u env Q ex) ex
theorem lt_and {sa sb : TT} {t u : DTT} (la : LT X W sa t) (lb : LT X W sb u) : LT X W (tAnd sa sb) (dAnd t u) := fun H0 G0 G H σ env Q ex R S L q g =>
  la H0 G0 G H σ env _ ex _ S L q fun k H1 G1 x1 q1 => by
    cases k with
    | true =>
      simp only [if_true] at q1 ⊢
      exact lb H0 G0 G1 H1 σ env _ ex _ (S.ex x1) (L.mono x1.gg) q1 fun j H2 G2 x2 q2 => g _ H2 G2 (x1.trans x2) q2
    | false => exact g _ H1 G1 x1 q1
theorem lt_or {sa sb : TT} {t u : DTT} (la : LT X W sa t) (lb : LT X W sb u) : LT X W (tOr sa sb) (dOr t u) := fun H0 G0 G H σ env Q ex R S L q g =>
  la H0 G0 G H σ env _ ex _ S L q fun k H1 G1 x1 q1 => by
    cases k with
    | true => exact g _ H1 G1 x1 q1
    | false => exact lb H0 G0 G1 H1 σ env _ ex _ (S.ex x1) (L.mono x1.gg) q1 fun j H2 G2 x2 q2 => g _ H2 G2 (x1.trans x2) q2
theorem pdw_and {rest : List Expr} {t u : DTT} (ha : PDT X W a t) (hb : PDW X W (.BoolOp .And (b :: rest) pos) u) : PDW X W (.BoolOp .And (a :: b :: rest) pos) (dAnd t u) :=
  let ⟨_, pa, la⟩ := ha.of; let ⟨_, pb, lb⟩ := hb.of; ⟨_, pw_and pa pb, lt_and la lb⟩
theorem pdw_or {rest : List Expr} {t u : DTT} (ha : PDT X W a t) (hb : PDW X W (.BoolOp .Or (b :: rest) pos) u) : PDW X W (.BoolOp .Or (a :: b :: rest) pos) (dOr t u) :=
  let ⟨_, pa, la⟩ := ha.of; let ⟨_, pb, lb⟩ := hb.of; ⟨_, pw_or pa pb, lt_or la lb⟩
theorem pdw_and1 {t : DTT} (ha : PDT X W a t) : PDW X W (.BoolOp .And [a] pos) t := let ⟨_, pa, la⟩ := ha.of; ⟨_, pw_and1 pa, la⟩
theorem pdw_or1 {t : DTT} (ha : PDT X W a t) : PDW X W (.BoolOp .Or [a] pos) t := let ⟨_, pa, la⟩ := ha.of; ⟨_, pw_or1 pa, la⟩
theorem PDW.pt {t : DTT} (ha : PDW X W e t) : PDT X W e t := let ⟨_, pa, la⟩ := ha.of; ⟨_, pa.pt, la⟩
/-- as values -/
def dAndV (ta tb : DT) : DT := fun env Q ex => ta env (fun x => ∃ k, x = .bl k ∧ if k = true then tb env Q ex else Q (.bl false)) ex
def dOrV (ta tb : DT) : DT := fun env Q ex => ta env (fun x => ∃ k, x = .bl k ∧ if k = true then Q (.bl true) else tb env Q ex) ex
def dNotV (ta : DT) : DT := fun env Q ex => ta env (fun x => ∃ k, x = .bl k ∧ Q (.bl (!k))) ex
theorem pd_and {rest : List Expr} (ha : PD X W a ta) (hb : PD X W (.BoolOp .And (b :: rest) pos) tb) : PD X W (.BoolOp .And (a :: b :: rest) pos) (dAndV ta tb) := by
  obtain ⟨_, pa, la⟩ := ha.of
  obtain ⟨_, pb, lb⟩ := hb.of
  refine ⟨_, pe_and pa pb, fun H0 G0 G H σ env Q ex R S L q g => la H0 G0 G H σ env _ ex _ S L q fun v H1 G1 d x1 r1 ⟨k, e1, q1⟩ => ?_⟩
  subst e1
  refine ⟨k, r1.bl_inv, ?_⟩
  cases k with
  | true => exact lb H0 G0 G1 H1 σ env _ ex _ (S.ex x1) (L.mono x1.gg) q1 fun v H2 G2 d x2 r2 q2 => g _ H2 G2 d (x1.trans x2) r2 q2
  | false => exact g _ H1 G1 _ x1 (.bl false) q1
theorem pd_or {rest : List Expr} (ha : PD X W a ta) (hb : PD X W (.BoolOp .Or (b :: rest) pos) tb) : PD X W (.BoolOp .Or (a :: b :: rest) pos) (dOrV ta tb) := by
  obtain ⟨_, pa, la⟩ := ha.of
  obtain ⟨_, pb, lb⟩ := hb.of
  refine ⟨_, pe_or pa pb, fun H0 G0 G H σ env Q ex R S L q g => la H0 G0 G H σ env _ ex _ S L q fun v H1 G1 d x1 r1 ⟨k, e1, q1⟩ => ?_⟩
  subst e1
  refine ⟨k, r1.bl_inv, ?_⟩
  cases k with
  | false => exact lb H0 G0 G1 H1 σ env _ ex _ (S.ex x1) (L.mono x1.gg) q1 fun v H2 G2 d x2 r2 q2 => g _ H2 G2 d (x1.trans x2) r2 q2
  | true => exact g _ H1 G1 _ x1 (.bl true) q1
theorem pd_one {op : BoolOp} (ha : PD X W a ta) : PD X W (.BoolOp op [a] pos) ta := let ⟨_, pa, la⟩ := ha.of; ⟨_, pe_one pa, la⟩
theorem pd_not (ha : PD X W a ta) : PD X W (.UnaryOp .Not a pos) (dNotV ta) := by
  obtain ⟨_, pa, la⟩ := ha.of
  refine ⟨_, pe_not pa, fun H0 G0 G H σ env Q ex R S L q g => la H0 G0 G H σ env _ ex _ S L q fun v H1 G1 d x1 r1 ⟨k, e1, q1⟩ => ?_⟩
  subst e1
  exact ⟨k, r1.bl_inv, g _ H1 G1 _ x1 (.bl _) q1⟩
def dIfE (t : DTT) (ta tb : DT) : DT := fun env Q ex => t env (fun k => if k = true then ta env Q ex else tb env Q ex) ex
theorem pd_ife {t : DTT} (hc : PDT X W c t) (ha : PD X W a ta) (hb : PD X W b tb) : PD X W (.IfExp c a b pos) (dIfE t ta tb) := by
  obtain ⟨_, pc, lc⟩ := hc.of
  obtain ⟨_, pa, la⟩ := ha.of
  obtain ⟨_, pb, lb⟩ := hb.of
  refine ⟨_, pe_ifExp pc pa pb, fun H0 G0 G H σ env Q ex R S L q g => lc H0 G0 G H σ env _ ex _ S L q fun k H1 G1 x1 q1 => ?_⟩
  cases k with
  | true => exact la H0 G0 G1 H1 σ env _ ex _ (S.ex x1) (L.mono x1.gg) q1 fun v H2 G2 d x2 r2 q2 => g _ H2 G2 d (x1.trans x2) r2 q2
  | false => exact lb H0 G0 G1 H1 σ env _ ex _ (S.ex x1) (L.mono x1.gg) q1 fun v H2 G2 d x2 r2 q2 => g _ H2 G2 d (x1.trans x2) r2 q2
/-! argument lists, displays -/
def dNil : DTA := fun _ Q _ => Q []
def dCons (ta : DT) (t : DTA) : DTA := fun env Q ex => ta env (fun x => t env (fun xs => Q (x :: xs)) ex) ex
theorem pda_nil : PDA X W [] dNil := ⟨_, pa_nil, fun H0 G0 G H σ env Q ex R S L q g => g [] H G [] (.refl S.sub) .nil q⟩
theorem pda_cons (ha : PD X W e ta) (hr : PDA X W es t) (hs : starEach (e :: es) X.env = (false, eval e X.env) :: starEach es X.env := by rfl) : PDA X W (e :: es) (dCons ta t) := by
  obtain ⟨_, pa, la⟩ := ha.of
  obtain ⟨_, pr, lr⟩ := hr.of
  refine ⟨_, pa_cons pa pr hs, fun H0 G0 G H σ env Q ex R S L q g => la H0 G0 G H σ env _ ex _ S L q fun v H1 G1 d x1 r1 q1 => ?_⟩
  exact lr H0 G0 G1 H1 σ env _ ex _ (S.ex x1) (L.mono x1.gg) q1 fun vs H2 G2 ds x2 r2 q2 => g _ H2 G2 (d :: ds) (x1.trans x2) (r2.cons (r1.same x2.gg)) q2
def dTup (t : DTA) : DT := fun env Q ex => t env (fun xs => xs.length ≤ sizeLine ∧ Q (.tup xs)) ex
theorem pd_tup {x1} (h : PDA X W es t) : PD X W (.Tuple es x1 pos) (dTup t) := by
  obtain ⟨_, pa, la⟩ := h.of
  refine ⟨_, pe_tup pa, fun H0 G0 G H σ env Q ex R S L q g => la H0 G0 G H σ env _ ex _ S L q fun vs H1 G1 ds x1 r1 ⟨z, q1⟩ => ⟨by rw [r1.1]; exact z, fun p n => ?_⟩⟩
  have x2 : Ext G1 H1 (upd G1 p (.tup vs)) (upd H1 p (.tup vs)) := Ext.nw x1.sub n
  have r2 := r1.same x2.gg
  exact g _ _ _ _ (x1.trans x2) (.tup (SqT.of upd_same) r2.1 r2.2) q1
def dLst (t : DTA) : DTN := fun env Q ex => t env (fun xs => xs.length ≤ sizeLine ∧ Q xs) ex
theorem pdn_lst (h : PDA X W es t) : PDN X W (.List es pos) (dLst t) := by
  obtain ⟨_, pa, la⟩ := h.of
  refine ⟨_, pe_lst pa, fun H0 G0 G H σ env Q ex R S L q g => la H0 G0 G H σ env _ ex _ S L q fun vs H1 G1 ds x1 r1 ⟨z, q1⟩ => ⟨by rw [r1.1]; exact z, fun p n => ?_⟩⟩
  exact g p vs _ H1 G1 ds x1 n rfl r1 q1
/-! calls of built-ins -/
def dCB (rD : List D → (D → Prop) → Prop) (t : DTA) : DT := fun env Q ex => t env (fun ds => rD ds Q) ex
theorem pd_cb {r : List V → Hp → VK → Prop} {rD : List D → (D → Prop) → Prop} (mk : ∀ {ta : TA}, PA X es ta → PE X c (tCB r ta)) (hl : LcR X.K r rD) (ha : PDA X W es t) : PD X W c (dCB rD t) := by
  obtain ⟨_, pa, la⟩ := ha.of
  refine ⟨_, mk pa, fun H0 G0 G H σ env Q ex R S L q g => la H0 G0 G H σ env _ ex _ S L q fun vs H1 G1 ds x1 r1 q1 => ?_⟩
  exact hl G1 H1 vs ds Q R x1.sub r1 q1 fun w H3 G3 d3 x3 r3 q3 => g w H3 G3 d3 (x1.trans x3) r3 q3
def dCN (rD : List D → (List D → Prop) → Prop) (t : DTA) : DTN := fun env Q ex => t env (fun ds => rD ds Q) ex
theorem pdn_cb {r : List V → Hp → VK → Prop} {rD : List D → (List D → Prop) → Prop} (mk : ∀ {ta : TA}, PA X es ta → PE X c (tCB r ta)) (hl : LcN X.K r rD) (ha : PDA X W es t) : PDN X W c (dCN rD t) := by
  obtain ⟨_, pa, la⟩ := ha.of
  refine ⟨_, mk pa, fun H0 G0 G H σ env Q ex R S L q g => la H0 G0 G H σ env _ ex _ S L q fun vs H1 G1 ds x1 r1 q1 => ?_⟩
  exact hl G1 H1 vs ds Q R x1.sub r1 q1 fun p vs' H3 H2 G3 l x3 n e r3 q3 => g p vs' H3 H2 G3 l (x1.trans x3) n e r3 q3
def dM0 (rD : D → List D → (D → Prop) → Prop) (to : DT) : DT := fun env Q ex => to env (fun x => (∃ s, x = .str s) ∧ rD x [] Q) ex
def dM1 (rD : D → List D → (D → Prop) → Prop) (to te : DT) : DT := fun env Q ex => to env (fun x => (∃ s, x = .str s) ∧ te env (fun y => rD x [y] Q) ex) ex
theorem pd_m0 {r : V → List V → Hp → VK → Prop} {rD : D → List D → (D → Prop) → Prop} (mk : ∀ {to : TE}, PE X a to → PE X c (tM0 r to)) (hl : LmR X.K r rD) (ha : PD X W a ta) : PD X W c (dM0 rD ta) := by
  obtain ⟨_, pa, la⟩ := ha.of
  refine ⟨_, mk pa, fun H0 G0 G H σ env Q ex R S L q g => la H0 G0 G H σ env _ ex _ S L q fun v H1 G1 d x1 r1 q1 => ?_⟩
  obtain ⟨⟨s, rfl⟩, q2⟩ := q1
  exact ⟨⟨s, r1.str_inv⟩, hl G1 H1 v [] _ [] Q R x1.sub r1 .nil q2 fun w H3 G3 d3 x3 r3 q3 => g w H3 G3 d3 (x1.trans x3) r3 q3⟩
theorem pd_m1 {r : V → List V → Hp → VK → Prop} {rD : D → List D → (D → Prop) → Prop} (mk : ∀ {to te : TE}, PE X a to → PE X b te → PE X c (tM1 r to te)) (hl : LmR X.K r rD) (ha : PD X W a ta) (hb : PD X W b tb) : PD X W c (dM1 rD ta tb) := by
  obtain ⟨_, pa, la⟩ := ha.of
  obtain ⟨_, pb, lb⟩ := hb.of
  refine ⟨_, mk pa pb, fun H0 G0 G H σ env Q ex R S L q g => la H0 G0 G H σ env _ ex _ S L q fun v H1 G1 d x1 r1 q1 => ?_⟩
  obtain ⟨⟨s, rfl⟩, q2⟩ := q1
  refine ⟨⟨s, r1.str_inv⟩, lb H0 G0 G1 H1 σ env _ ex _ (S.ex x1) (L.mono x1.gg) q2 fun u H2 G2 d2 x2 r2 q3 => ?_⟩
  exact hl G2 H2 v [u] _ [d2] Q R x2.sub (r1.same x2.gg) (.one r2) q3 fun w H3 G3 d3 x3 r3 q4 => g w H3 G3 d3 ((x1.trans x2).trans x3) r3 q4
/-- a method of a text that makes a new list -/
def LmN (K : PySem.W.Frag) (r : V → List V → Hp → VK → Prop) (rD : D → List D → (List D → Prop) → Prop) : Prop := ∀ (G H : Hp) (x : V) (vs : List V) (a : D) (ds : List D) (Q : List D → Prop) (R : VK), Same G H → Rep K G x a → Reps K G vs ds → rD a ds Q → GotN K G H Q R → r x vs H R
def dM1N (rD : D → List D → (List D → Prop) → Prop) (to te : DT) : DTN := fun env Q ex => to env (fun x => (∃ s, x = .str s) ∧ te env (fun y => rD x [y] Q) ex) ex
theorem pdn_m1 {r : V → List V → Hp → VK → Prop} {rD : D → List D → (List D → Prop) → Prop} (mk : ∀ {to te : TE}, PE X a to → PE X b te → PE X c (tM1 r to te)) (hl : LmN X.K r rD) (ha : PD X W a ta) (hb : PD X W b tb) : PDN X W c (dM1N rD ta tb) := by
  obtain ⟨_, pa, la⟩ := ha.of
  obtain ⟨_, pb, lb⟩ := hb.of
  refine ⟨_, mk pa pb, fun H0 G0 G H σ env Q ex R S L q g => la H0 G0 G H σ env _ ex _ S L q fun v H1 G1 d x1 r1 q1 => ?_⟩
  obtain ⟨⟨s, rfl⟩, q2⟩ := q1
  refine ⟨⟨s, r1.str_inv⟩, lb H0 G0 G1 H1 σ env _ ex _ (S.ex x1) (L.mono x1.gg) q2 fun u H2 G2 d2 x2 r2 q3 => ?_⟩
  exact hl G2 H2 v [u] _ [d2] Q R x2.sub (r1.same x2.gg) (.one r2) q3 fun p vs' H4 H3 G3 l x3 n e r3 q4 => g p vs' H4 H3 G3 l ((x1.trans x2).trans x3) n e r3 q4
end
end DL

namespace DL
open PySem PySem.Spec PyProof.Rows L2 LR
/-! ## fields -/
theorem lookup_zip {f : Str} {v : V} : ∀ {ks : List Str} {vs : List V} {k : Nat}, ks.Nodup → ks[k]? = some f → vs[k]? = some v → (ks.zip vs).lookup f = some v
  | [], _, _, _, h, _ => by simp at h
  | _ :: _, [], _, _, _, h => by simp at h
  | g :: ks, w :: vs, 0, _, h, h2 => by
    simp at h h2
    subst h h2
    have e : (g == g) = true := beq_self_eq_true g
    simp only [List.zip_cons_cons, List.lookup, e]
  | g :: ks, w :: vs, k + 1, hn, h, h2 => by
    rw [List.nodup_cons] at hn
    have h' : ks[k]? = some f := by simpa using h
    have ne : (f == g) = false := beq_eq_false_iff_ne.mpr fun z => hn.1 (by rw [← z]; exact List.mem_of_getElem? h')
    simp only [List.zip_cons_cons, List.lookup, ne]
    exact lookup_zip hn.2 h' (by simpa using h2)
theorem lookup_zip_none {f : Str} : ∀ {ks : List Str} {vs : List V}, f ∉ ks → (ks.zip vs).lookup f = none
  | [], _, _ => rfl
  | _ :: _, [], _ => rfl
  | g :: ks, w :: vs, h => by
    have ne : (f == g) = false := beq_eq_false_iff_ne.mpr fun z => h (by rw [z]; exact List.mem_cons_self)
    simp only [List.zip_cons_cons, List.lookup, ne]
    exact lookup_zip_none fun z => h (List.mem_cons_of_mem _ z)
section
variable {X : Cx} {W : WX} {a b c e : Expr} {es : List Expr} {ta tb tc : DT} {t : DTA} {pos : Pos}
def dFld (c k : Nat) (ta : DT) : DT := fun env Q ex => ta env (fun d => ∃ l x, d = .ins c l ∧ l[k]? = some x ∧ Q x) ex
theorem pd_fld {c k : Nat} {f : Str} (cl : Cls X.K (He.ga X.K (cname c))) (na : NoAttr X.K (He.ga X.K (cname c)) f) (fk : (shape c)[k]? = some f ∧ (shape c).Nodup) (ha : PD X W e ta)
    (hb : attributeBase e f X.env (eval e X.env) = eval e X.env := by rfl) : PD X W (.Attribute e f pos) (dFld c k ta) := by
  obtain ⟨_, pa, la⟩ := ha.of
  refine ⟨_, pe_fld pa hb, fun H0 G0 G H σ env Q ex R S L q g => la H0 G0 G H σ env _ ex _ S L q fun v H1 G1 d x1 r1 ⟨l, x, e1, hx, q1⟩ => ?_⟩
  subst e1
  obtain ⟨p, dx, vs, rfl, hp, hm, r2⟩ := r1.ins_inv
  obtain ⟨w, hw, rw⟩ := r2.at hx
  exact ⟨p, _, dx, _, w, rfl, x1.sub _ _ hp, cl, na, lookup_zip fk.2 fk.1 hw, g w H1 G1 x x1 rw q1⟩
/-! ## promises -/
abbrev Prm := List D → (D → Prop) → EX → Prop
/-- how an own error leaves -/
def Out (K : PySem.W.Frag) (G H : Hp) (ED : EX) (E : XK) : Prop := ∀ (H' G' : Hp) (d : Addr) (x : Str) (fv : List (Str × V)) (fs : List (Str × D)), Ext G H G' H' → H' d = some (.xd fv) → RepF K G' fv fs → ED x fs → E (.ref (He.ga K x)) (some d) H'
def spD (K : PySem.W.Frag) (n : Nat) (P : Prm) : Sp := fun vs H Q E => vs.length = n ∧ ∃ (G : Hp) (ds : List D) (QD : D → Prop) (ED : EX), Same G H ∧ Reps K G vs ds ∧ P ds QD ED ∧ Got K G H QD Q ∧ Out K G H ED E
theorem sp_call {K : PySem.W.Frag} {n : Nat} {H0 G0 G H : Hp} {σ : L2.St} {env : DE} {W : WX} {ex : EX} {P : Prm} {vs : List V} {ds : List D} {Q : D → Prop} {R : VK} (S : SR K H0 G0 G H σ env) (L : LkE K H0 G0 G W σ env ex) (hn : ∀ ds Q ex, P ds Q ex → ds.length = n) (r : Reps K G vs ds) (h : P ds Q ex) (g : Got K G H Q R) :
    spD K n P vs H R (WE W σ) := ⟨by rw [r.1]; exact hn _ _ _ h, G, ds, Q, ex, S.sub, r, h, g, fun H' G' d x fv fs xt e rf q => L H' G' d x fv fs xt.gg (S.ex xt) e rf q⟩
theorem sp_call0 {K : PySem.W.Frag} {n : Nat} {G H : Hp} {E : XK} {P : Prm} {vs : List V} {ds : List D} {Q : D → Prop} {R : VK} (s : Same G H) (hn : ∀ ds Q ex, P ds Q ex → ds.length = n) (r : Reps K G vs ds) (h : P ds Q (fun _ _ => False)) (g : Got K G H Q R) :
    spD K n P vs H R E := ⟨by rw [r.1]; exact hn _ _ _ h, G, ds, Q, _, s, r, h, g, fun H' G' d x fv fs xt e rf q => q.elim⟩
def dCall (P : Prm) (t : DTA) : DT := fun env Q ex => t env (fun ds => P ds Q ex) ex
/-- a def that keeps a promise on data; n parameters -/
structure Fn (P : Program) (w : World) (K : PySem.W.Frag) (mg : Str → Option Value) (base : Heap) (f : Addr) (k : Nat) (n : Nat) (Pm : Prm) where
  fd : FuncData
  ps : List Str
  ok : FnOk P w K mg base (L2.CX P w) k f fd ps (spD K n Pm)
  bd : Binds K fd ps []
  len : ∀ ds Q ex, Pm ds Q ex → ds.length = n
variable {k n : Nat} {f : Addr} {Pm : Prm} {x m : Str} {p apos : Pos} {o : Expr}
theorem pd_call (F : Fn X.prog X.w X.K X.mg X.base f k n Pm) (hr : Room k X.A) (hg : Gl X x) (hm : X.mg x = some (.ref f)) (hk : PySem.W.keepIn X.K (.ref f) = true) (tk : Takes X W) (ha : PDA X W (e :: es) t)
    (hdb : (x == ("__debug__" : Str)) = false := by decide) (he : starEach (e :: es) X.env = (false, eval e X.env) :: starEach es X.env := by rfl) (hpl : (backTo pos (starEach es X.env)).any (·.1) = false := by rfl) :
    PD X W (.Call (.Name x p) (e :: es) [] pos) (dCall Pm t) := by
  obtain ⟨_, pa, la⟩ := ha.of
  refine ⟨_, pe_callS F.ok hr hg hm hk F.bd (fun σ => passAt tk σ) pa hdb he hpl, fun H0 G0 G H σ env Q ex R S L q g => la H0 G0 G H σ env _ ex _ S L q fun vs H1 G1 ds x1 r1 q1 => ?_⟩
  exact sp_call (S.ex x1) (L.mono x1.gg) F.len r1 q1 fun v H2 G2 d x2 r2 q2 => g v H2 G2 d (x1.trans x2) r2 q2
theorem pd_call0 (F : Fn X.prog X.w X.K X.mg X.base f k n Pm) (hr : Room k X.A) (hg : Gl X x) (hm : X.mg x = some (.ref f)) (hk : PySem.W.keepIn X.K (.ref f) = true)
    (hdb : (x == ("__debug__" : Str)) = false := by decide) : PD X W (.Call (.Name x p) [] [] pos) (fun _ Q _ => Pm [] Q (fun _ _ => False)) :=
  ⟨_, pe_call0 F.ok hr hg hm hk F.bd .nil passL hdb, fun H0 G0 G H σ env Q ex R S L q g => sp_call0 S.sub F.len .nil q g⟩
/-- o.m(..) -/
def dMeth (c : Nat) (P : Prm) (ta : DT) (t : DTA) : DT := fun env Q ex => ta env (fun d => (∃ l, d = .ins c l) ∧ t env (fun ds => P (d :: ds) Q ex) ex) ex
theorem pd_meth {c : Nat} {pl : Sem Bool} (ho : PD X W o ta) (cl : Cls X.K (He.ga X.K (cname c))) (hm : Meth X.K (He.ga X.K (cname c)) m f) (F : Fn X.prog X.w X.K X.mg X.base f k n Pm) (hr : Room k X.A) (tk : Takes X W) (nm : m ∉ shape c) (ha : PDA X W (e :: es) t)
    (hst : starEach (e :: es) X.env = (false, eval e X.env) :: starEach es X.env := by rfl) (hpl : (backTo pos (starEach es X.env)).any (·.1) = false := by rfl)
    (ht : eval (.Call (.Attribute o m apos) (e :: es) [] pos) X.env = (do
      let ov ← eval o X.env
      standAt apos.atName
      let (f, first) ← holding [ov] (getMethod ov m pl)
      callWith pos f first (backTo pos (starEach (e :: es) X.env)) (backToKw pos (keywordEach [] X.env))) := by rfl) :
    PD X W (.Call (.Attribute o m apos) (e :: es) [] pos) (dMeth c Pm ta t) := by
  obtain ⟨_, po, lo⟩ := ho.of
  obtain ⟨_, pa, la⟩ := ha.of
  refine ⟨_, pe_methS po cl hm F.ok hr F.bd (fun σ => passAt tk σ) pa hst hpl ht, fun H0 G0 G H σ env Q ex R S L q g => lo H0 G0 G H σ env _ ex _ S L q fun v H1 G1 d x1 r1 q1 => ?_⟩
  obtain ⟨⟨l, rfl⟩, q2⟩ := q1
  obtain ⟨p, dx, ws, rfl, hp, hm', r2⟩ := id r1.ins_inv
  refine ⟨p, dx, _, rfl, x1.sub _ _ hp, lookup_zip_none nm, la H0 G0 G1 H1 σ env _ ex _ (S.ex x1) (L.mono x1.gg) q2 fun vs H2 G2 ds x2 r3 q3 => ?_⟩
  have x12 := x1.trans x2
  exact sp_call (S.ex x12) (L.mono x12.gg) F.len (r3.cons (r1.same x2.gg)) q3 fun v H3 G3 d x3 r4 q4 => g v H3 G3 d (x12.trans x3) r4 q4
/-- o.m() -/
theorem pe_meth0S {pl : Sem Bool} {C : Addr} {fd : FuncData} {ps : List Str} {sp : Sp} {E : L2.St → XK} {sa : TE} {CX : CXT} (he : PE X o sa) (c : Cls X.K C) (hm : Meth X.K C m f) (F : FnOk X.prog X.w X.K X.mg X.base CX k f fd ps sp) (hr : Room k X.A) (hb : Binds X.K fd ps []) (hx : ∀ σ, PassesAt CX X σ (E σ))
    (ht : eval (.Call (.Attribute o m apos) [] [] pos) X.env = (do
      let ov ← eval o X.env
      standAt apos.atName
      let (f, first) ← holding [ov] (getMethod ov m pl)
      callWith pos f first (backTo pos (starEach [] X.env)) (backToKw pos (keywordEach [] X.env))) := by rfl) :
    PE X (.Call (.Attribute o m apos) [] [] pos) (tMethS C m sp E sa tNil) := by
  refine ⟨fun pins s σ H Q I h => ?_⟩
  refine PySem.W.methodCall_KW (pl := pl) (thn (he.run pins s σ H _ I h) fun u s1 ⟨x, H1, I1, rx, a, dx, fs, ex, ea, l, q⟩ => ?_) ht
  subst ex
  obtain rfl : u = Value.ref a := rx
  refine getmeth_ok I1 ea c hm l ?_
  exact PySem.W.callWith_K0 (first := [.ref a]) I1.kIn hm.kp (run_fnS (us := [.ref a]) (vs := [.ref a]) F hr hb (hx σ) I1 (.cons rfl .nil) q)
theorem pd_meth0 {c : Nat} {pl : Sem Bool} (ho : PD X W o ta) (cl : Cls X.K (He.ga X.K (cname c))) (hm : Meth X.K (He.ga X.K (cname c)) m f) (F : Fn X.prog X.w X.K X.mg X.base f k n Pm) (hr : Room k X.A) (tk : Takes X W) (nm : m ∉ shape c)
    (ht : eval (.Call (.Attribute o m apos) [] [] pos) X.env = (do
      let ov ← eval o X.env
      standAt apos.atName
      let (f, first) ← holding [ov] (getMethod ov m pl)
      callWith pos f first (backTo pos (starEach [] X.env)) (backToKw pos (keywordEach [] X.env))) := by rfl) :
    PD X W (.Call (.Attribute o m apos) [] [] pos) (dMeth c Pm ta dNil) := by
  obtain ⟨_, po, lo⟩ := ho.of
  refine ⟨_, pe_meth0S po cl hm F.ok hr F.bd (fun σ => passAt tk σ) ht, fun H0 G0 G H σ env Q ex R S L q g => lo H0 G0 G H σ env _ ex _ S L q fun v H1 G1 d x1 r1 q1 => ?_⟩
  obtain ⟨⟨l, rfl⟩, q2⟩ := q1
  obtain ⟨p, dx, ws, rfl, hp, hm', r2⟩ := id r1.ins_inv
  refine ⟨p, dx, _, rfl, x1.sub _ _ hp, lookup_zip_none nm, ?_⟩
  exact sp_call (S.ex x1) (L.mono x1.gg) F.len (.one r1) q2 fun v H3 G3 d x3 r4 q4 => g v H3 G3 d (x1.trans x3) r4 q4
/-- o.f, a property -/
def dProp (c : Nat) (P : Prm) (ta : DT) : DT := fun env Q ex => ta env (fun d => (∃ l, d = .ins c l) ∧ P [d] Q (fun _ _ => False)) ex
theorem pd_prop {c : Nat} {f : Str} {ap g : Addr} (ho : PD X W e ta) (cl : Cls X.K (He.ga X.K (cname c))) (hp : PropOf X.K (He.ga X.K (cname c)) f ap g) (F : Fn X.prog X.w X.K X.mg X.base g k n Pm) (hr : Room (k + 1) X.A)
    (hab : attributeBase e f X.env (eval e X.env) = eval e X.env := by rfl) : PD X W (.Attribute e f pos) (dProp c Pm ta) := by
  obtain ⟨_, po, lo⟩ := ho.of
  refine ⟨_, pe_prop po cl hp F.ok hr F.bd .nil passL hab, fun H0 G0 G H σ env Q ex R S L q gg => lo H0 G0 G H σ env _ ex _ S L q fun v H1 G1 d x1 r1 q1 => ?_⟩
  obtain ⟨⟨l, rfl⟩, q2⟩ := q1
  obtain ⟨p, dx, ws, rfl, hp, hm', r2⟩ := id r1.ins_inv
  exact ⟨p, dx, _, rfl, x1.sub _ _ hp, sp_call0 x1.sub F.len (.one r1) q2 fun v H3 G3 d x3 r4 q4 => gg v H3 G3 d (x1.trans x3) r4 q4⟩
/-! ## objects made -/
/-- what an __init__ has done: the object at p stands for d -/
def Made (K : PySem.W.Frag) (G H : Hp) (p : Addr) (QD : D → Prop) (R : Hp → Prop) : Prop := ∀ (H' G' : Hp) (d : D), (∀ a o, H a = some o → a ≠ p → H' a = some o) → Same G G' → Same G' H' → (∀ a, G' a ≠ none → G a = none → H a = none ∨ a = p) → Rep K G' (.ref p) d → QD d → R H'
def OutI (K : PySem.W.Frag) (G H : Hp) (p : Addr) (ED : EX) (E : XK) : Prop := ∀ (H' G' : Hp) (d : Addr) (x : Str) (fv : List (Str × V)) (fs : List (Str × D)), (∀ a o, H a = some o → a ≠ p → H' a = some o) → Same G G' → Same G' H' → (∀ a, G' a ≠ none → G a = none → H a = none ∨ a = p) →
  H' d = some (.xd fv) → RepF K G' fv fs → ED x fs → E (.ref (He.ga K x)) (some d) H'
def spI (K : PySem.W.Frag) (c n : Nat) (P : Prm) : Sp := fun vs H Q E => ∃ (p dx : Addr) (us : List V) (G : Hp) (ds : List D) (QD : D → Prop) (ED : EX), vs = .ref p :: us ∧ us.length = n ∧ H p = some (.ins (He.ga K (cname c)) dx []) ∧ Same G H ∧ G p = none ∧ Reps K G us ds ∧ P ds QD ED ∧
  Made K G H p QD (fun H' => Q .non H') ∧ OutI K G H p ED E
structure FnI (P : Program) (w : World) (K : PySem.W.Frag) (mg : Str → Option Value) (base : Heap) (f : Addr) (k : Nat) (c n : Nat) (Pm : Prm) (dv : List V) (dd : List D) where
  fd : FuncData
  ps : List Str
  ok : FnOk P w K mg base (L2.CX P w) k f fd ps (spI K c n Pm)
  ds : List Value
  vd : Vals dv ds
  bd : Binds K fd ps ds
  len : ∀ ds Q ex, Pm ds Q ex → ds.length = n
def dMake (P : Prm) (dd : List D) (t : DTA) : DT := fun env Q ex => t env (fun ds => P (ds ++ dd) Q ex) ex
theorem pd_make {c : Nat} {dv : List V} {dd : List D} (M : Mk X.K (He.ga X.K (cname c)) f) (F : FnI X.prog X.w X.K X.mg X.base f k c n Pm dv dd) (hd : ∀ K H, Reps K H dv dd) (hr : Room (k + 1) X.A) (hg : Gl X x) (hm : X.mg x = some (.ref (He.ga X.K (cname c)))) (tk : Takes X W) (ha : PDA X W (e :: es) t)
    (hdb : (x == ("__debug__" : Str)) = false := by decide) (he : starEach (e :: es) X.env = (false, eval e X.env) :: starEach es X.env := by rfl) (hpl : (backTo pos (starEach es X.env)).any (·.1) = false := by rfl) :
    PD X W (.Call (.Name x p) (e :: es) [] pos) (dMake Pm dd t) := by
  obtain ⟨_, pa, la⟩ := ha.of
  refine ⟨_, pe_makeS M F.ok hr hg hm F.bd F.vd (fun σ => passAt tk σ) pa hdb he hpl, fun H0 G0 G H σ env Q ex R S L q g => la H0 G0 G H σ env _ ex _ S L q fun vs H1 G1 ds x1 r1 q1 => ?_⟩
  intro x dx nx nd ne
  have s0 : Same H1 (upd (upd H1 dx (.own x)) x (.ins (He.ga X.K (cname c)) dx [])) := fun a o h => by
    rw [upd_ne (ne_of_none h nx), upd_ne (ne_of_none h nd)]
    exact h
  have gx : G1 x = none := x1.sub.free nx
  have rr := r1.app (hd X.K G1)
  have back : ∀ a, (upd (upd H1 dx (.own x)) x (.ins (He.ga X.K (cname c)) dx [])) a = none ∨ a = x → H1 a = none := fun a h => by
    rcases h with h | h
    · by_cases h1 : a = x
      · subst h1; exact nx
      · rw [upd_ne h1] at h
        by_cases h2 : a = dx
        · subst h2; exact nd
        · rw [upd_ne h2] at h; exact h
    · subst h; exact nx
  have xt : ∀ H' G' : Hp, (∀ a o, (upd (upd H1 dx (.own x)) x (.ins (He.ga X.K (cname c)) dx [])) a = some o → a ≠ x → H' a = some o) → Same G1 G' → Same G' H' → (∀ a, G' a ≠ none → G1 a = none → (upd (upd H1 dx (.own x)) x (.ins (He.ga X.K (cname c)) dx [])) a = none ∨ a = x) → Ext G1 H1 G' H' := fun H' G' h1 h2 h3 h4 =>
    ⟨fun a o h => h1 a o (s0 a o h) (ne_of_none h nx), h2, h3, fun a h5 h6 => back a (h4 a h5 h6)⟩
  refine ⟨x, dx, vs ++ dv, G1, ds ++ dd, Q, ex, rfl, by rw [rr.1]; exact F.len _ _ _ q1, upd_same, x1.sub.trans s0, gx, rr, q1, fun H' G' d h1 h2 h3 h4 r q2 => ⟨rfl, g _ H' G' d (x1.trans (xt H' G' h1 h2 h3 h4)) r q2⟩, fun H' G' d x' fv fs h1 h2 h3 h4 e rf q2 => ?_⟩
  have z := xt H' G' h1 h2 h3 h4
  exact L H' G' d x' fv fs (x1.trans z).gg ((S.ex x1).ex z) e rf q2
end
end DL

namespace DL
open PySem PySem.Spec PyProof.Rows L2 LR
/-! ## what is walked -/
structure JOk (K : PySem.W.Frag) (J : It) (G : Hp) (items : List D) : Prop where
  go : ∀ (i : Nat) H, Same G H → i < items.length → J.go i H
  stop : ∀ H, Same G H → J.stop items.length H
  yld : ∀ (i : Nat) H G1 x H', Same G G1 → Same G1 H → i < items.length → J.yld i H x H' → ∃ G' d, items[i]? = some d ∧ Ext G1 H G' H' ∧ Rep K G' x d
abbrev DTI := DE → (List D → Prop) → EX → Prop
def LI (X : Cx) (W : WX) (ti : TI) (t : DTI) : Prop := ∀ (H0 G0 G H : Hp) (σ : L2.St) (env : DE) (Q : List D → Prop) (ex : EX) (R : It → Hp → Prop), SR X.K H0 G0 G H σ env → LkE X.K H0 G0 G W σ env ex → t env Q ex →
  (∀ J H' G' items, Ext G H G' H' → JOk X.K J G' items → Q items → R J H') → ti σ H R
structure PDI (X : Cx) (W : WX) (tg it : Expr) (t : DTI) : Prop where
  of : ∃ ti, PI X tg it ti ∧ LI X W ti t
theorem jok_list {K : PySem.W.Frag} {G : Hp} {a : Addr} {vs : List V} {l : List D} (h : SqL K G a vs) (r : Reps K G vs l) : JOk K (Itl K a) G l where
  go := fun i H s hi => ⟨vs, vs[i]'(by rw [r.1]; exact hi), s.seq h, List.getElem?_eq_getElem _⟩
  stop := fun H s => ⟨vs, s.seq h, by rw [r.1]; exact Nat.le_refl _⟩
  yld := fun i H G1 x H' s1 s2 hi ⟨e, y⟩ => by
    subst e
    have hx := y vs ((s1.trans s2).seq h)
    obtain ⟨d, hd, rd⟩ := r.at' hx
    exact ⟨G1, d, hd, .refl s2, rd.same s1⟩
theorem jok_tup {K : PySem.W.Frag} {G : Hp} {a : Addr} {vs : List V} {l : List D} (h : SqT K G a vs) (r : Reps K G vs l) : JOk K (Itt K a) G l where
  go := fun i H s hi => ⟨vs, vs[i]'(by rw [r.1]; exact hi), sqT_same s h, List.getElem?_eq_getElem _⟩
  stop := fun H s => ⟨vs, sqT_same s h, by rw [r.1]; exact Nat.le_refl _⟩
  yld := fun i H G1 x H' s1 s2 hi ⟨e, y⟩ => by
    subst e
    have hx := y vs (sqT_same (s1.trans s2) h)
    obtain ⟨d, hd, rd⟩ := r.at' hx
    exact ⟨G1, d, hd, .refl s2, rd.same s1⟩
def rngD (lo : Int) (n : Nat) : List D := (List.range n).map fun (i : Nat) => D.int (lo + i)
theorem jok_range {K : PySem.W.Frag} {G : Hp} {lo : Int} {n : Nat} : JOk K (Itr lo n) G (rngD lo n) where
  go := fun i H s hi => by show i < n; unfold rngD at hi; simpa using hi
  stop := fun H s => by show n ≤ _; unfold rngD; simp
  yld := fun i H G1 x H' s1 s2 hi ⟨e, y⟩ => by
    subst e y
    have hi' : i < n := by unfold rngD at hi; simpa using hi
    exact ⟨G1, _, by unfold rngD; simp [hi'], .refl s2, .int _⟩
theorem ext_pair {K : PySem.W.Frag} {G1 H : Hp} {T : Addr} {x y : V} {d e : D} (s : Same G1 H) (n : H T = none) (r1 : Rep K G1 x d) (r2 : Rep K G1 y e) : Ext G1 H (upd G1 T (.tup [x, y])) (upd H T (.tup [x, y])) ∧ Rep K (upd G1 T (.tup [x, y])) (.ref T) (.tup [d, e]) := by
  have x2 : Ext G1 H (upd G1 T (.tup [x, y])) (upd H T (.tup [x, y])) := Ext.nw s n
  have rr : Reps K (upd G1 T (.tup [x, y])) [x, y] [d, e] := (Reps.one (r2.same x2.gg)).cons (r1.same x2.gg)
  exact ⟨x2, .tup (SqT.of upd_same) rr.1 rr.2⟩
def enumD (l : List D) : List D := (List.range l.length).zipWith (fun (i : Nat) d => D.tup [.int i, d]) l
theorem enumD_len (l : List D) : (enumD l).length = l.length := by unfold enumD; simp
theorem enumD_at {l : List D} {i : Nat} {d : D} (h : l[i]? = some d) : (enumD l)[i]? = some (.tup [.int i, d]) := by
  have hi : i < l.length := (List.getElem?_eq_some_iff.mp h).1
  unfold enumD
  rw [List.getElem?_zipWith, h]
  simp [hi]
theorem jok_enum {K : PySem.W.Frag} {G : Hp} {a : Addr} {vs : List V} {l : List D} (h : SqL K G a vs) (r : Reps K G vs l) : JOk K (Ite K a) G (enumD l) where
  go := fun i H s hi => ⟨vs, vs[i]'(by rw [r.1]; rw [enumD_len] at hi; exact hi), s.seq h, List.getElem?_eq_getElem _⟩
  stop := fun H s => ⟨vs, s.seq h, by rw [r.1, enumD_len]; exact Nat.le_refl _⟩
  yld := fun i H G1 x H' s1 s2 hi ⟨T, x', e, n, e2, y⟩ => by
    subst e e2
    have hx := y vs ((s1.trans s2).seq h)
    obtain ⟨d, hd, rd⟩ := r.at' hx
    obtain ⟨x2, r2⟩ := ext_pair s2 n (.int (i : Nat)) (rd.same s1)
    exact ⟨_, _, enumD_at hd, x2, r2⟩
def zipD (l m : List D) : List D := l.zipWith (fun d e => D.tup [d, e]) m
theorem zipD_at {l m : List D} {i : Nat} {d e : D} (h : l[i]? = some d) (h2 : m[i]? = some e) : (zipD l m)[i]? = some (.tup [d, e]) := by
  unfold zipD
  rw [List.getElem?_zipWith, h, h2]
theorem zipD_len (l m : List D) : (zipD l m).length = min l.length m.length := by unfold zipD; simp
theorem jok_zip {K : PySem.W.Frag} {G : Hp} {a b : Addr} {vs us : List V} {l m : List D} (h : SqL K G a vs) (r : Reps K G vs l) (h2 : SqL K G b us) (r2 : Reps K G us m) : JOk K (Itz K a b) G (zipD l m) where
  go := fun i H s hi => by
    rw [zipD_len] at hi
    exact ⟨vs, us, vs[i]'(by rw [r.1]; omega), us[i]'(by rw [r2.1]; omega), s.seq h, s.seq h2, List.getElem?_eq_getElem _, List.getElem?_eq_getElem _⟩
  stop := fun H s => ⟨vs, us, s.seq h, s.seq h2, by rw [zipD_len, r.1, r2.1]; omega⟩
  yld := fun i H G1 x H' s1 s2 hi ⟨T, x', y', e, n, e2, y1, y2⟩ => by
    subst e e2
    have hx := y1 vs ((s1.trans s2).seq h)
    have hy := y2 us ((s1.trans s2).seq h2)
    obtain ⟨d, hd, rd⟩ := r.at' hx
    obtain ⟨d2, hd2, rd2⟩ := r2.at' hy
    obtain ⟨x3, r3⟩ := ext_pair s2 n (rd.same s1) (rd2.same s1)
    exact ⟨_, _, zipD_at hd hd2, x3, r3⟩
theorem jok_zipT {K : PySem.W.Frag} {G : Hp} {a b : Addr} {vs us : List V} {l m : List D} (h : SqT K G a vs) (r : Reps K G vs l) (h2 : SqT K G b us) (r2 : Reps K G us m) : JOk K (RZ.ItzT K a b) G (zipD l m) where
  go := fun i H s hi => by
    rw [zipD_len] at hi
    exact ⟨vs, us, vs[i]'(by rw [r.1]; omega), us[i]'(by rw [r2.1]; omega), sqT_same s h, sqT_same s h2, List.getElem?_eq_getElem _, List.getElem?_eq_getElem _⟩
  stop := fun H s => ⟨vs, us, sqT_same s h, sqT_same s h2, by rw [zipD_len, r.1, r2.1]; omega⟩
  yld := fun i H G1 x H' s1 s2 hi ⟨T, x', y', e, n, e2, y1, y2⟩ => by
    subst e e2
    have hx := y1 vs (sqT_same (s1.trans s2) h)
    have hy := y2 us (sqT_same (s1.trans s2) h2)
    obtain ⟨d, hd, rd⟩ := r.at' hx
    obtain ⟨d2, hd2, rd2⟩ := r2.at' hy
    obtain ⟨x3, r3⟩ := ext_pair s2 n (rd.same s1) (rd2.same s1)
    exact ⟨_, _, zipD_at hd hd2, x3, r3⟩
def strD (s : Str) : List D := s.cps.toList.map fun c => D.str ⟨#[c]⟩
theorem jok_str {K : PySem.W.Frag} {G : Hp} {s : Str} : JOk K (Its s) G (strD s) where
  go := fun i H _ hi => by show i < s.cps.size; unfold strD at hi; simpa using hi
  stop := fun H _ => by show s.cps.size ≤ _; unfold strD; simp
  yld := fun i H G1 x H' s1 s2 hi ⟨e, c, hc, ex⟩ => by
    subst e ex
    exact ⟨G1, .str ⟨#[c]⟩, by unfold strD; rw [List.getElem?_map, Array.getElem?_toList, hc]; rfl, .refl s2, .str _⟩
section
variable {X : Cx} {W : WX} {a b c e tg : Expr} {es : List Expr} {ta tb tc : DT} {t : DTA} {pos p : Pos}
def diL (ta : DT) : DTI := fun env Q ex => ta env (fun d => ∃ l, d = .lst l ∧ Q l) ex
def diT (ta : DT) : DTI := fun env Q ex => ta env (fun d => ∃ l, d = .tup l ∧ Q l) ex
theorem pdi_list (ha : PD X W e ta) : PDI X W tg e (diL ta) := by
  obtain ⟨_, pa, la⟩ := ha.of
  refine ⟨_, pi_list pa, fun H0 G0 G H σ env Q ex R S L q g => la H0 G0 G H σ env _ ex _ S L q fun v H1 G1 d x1 r1 ⟨l, e1, q1⟩ => ?_⟩
  subst e1
  obtain ⟨p, vs, rfl, h1, h2⟩ := r1.lst_inv
  exact ⟨p, rfl, ⟨vs, x1.sub.seq h1⟩, g _ H1 G1 l x1 (jok_list h1 h2) q1⟩
theorem pdi_tup (ha : PD X W e ta) : PDI X W tg e (diT ta) := by
  obtain ⟨_, pa, la⟩ := ha.of
  refine ⟨_, pi_tup pa, fun H0 G0 G H σ env Q ex R S L q g => la H0 G0 G H σ env _ ex _ S L q fun v H1 G1 d x1 r1 ⟨l, e1, q1⟩ => ?_⟩
  subst e1
  obtain ⟨p, vs, rfl, h1, h2⟩ := r1.tup_inv
  exact ⟨p, rfl, ⟨vs, sqT_same x1.sub h1⟩, g _ H1 G1 l x1 (jok_tup h1 h2) q1⟩
theorem pdi_str (ha : PD X W e ta) : PDI X W tg e (fun env Q ex => ta env (fun d => ∃ s, d = .str s ∧ Q (strD s)) ex) := by
  obtain ⟨_, pa, la⟩ := ha.of
  refine ⟨_, pi_str pa, fun H0 G0 G H σ env Q ex R S L q g => la H0 G0 G H σ env _ ex _ S L q fun v H1 G1 d x1 r1 ⟨l, e1, q1⟩ => ?_⟩
  subst e1
  exact ⟨l, r1.str_inv, g _ H1 G1 _ x1 jok_str q1⟩
def diR1 (t : DTA) : DTI := fun env Q ex => t env (fun ds => ∃ j : Int, ds = [.int j] ∧ -(2 ^ 62) ≤ j ∧ j < 2 ^ 62 ∧ Q (rngD 0 j.toNat)) ex
def diR2 (t : DTA) : DTI := fun env Q ex => t env (fun ds => ∃ i j : Int, ds = [.int i, .int j] ∧ (-(2 ^ 62) ≤ i ∧ i < 2 ^ 62 ∧ -(2 ^ 62) ≤ j ∧ j < 2 ^ 62) ∧ Q (rngD i (j - i).toNat)) ex
theorem reps1 {K : PySem.W.Frag} {G : Hp} {vs : List V} {d : D} (r : Reps K G vs [d]) : ∃ v, vs = [v] ∧ Rep K G v d := by
  obtain ⟨n, h⟩ := r
  match vs, n with
  | [v], _ => exact ⟨v, rfl, h 0 v d rfl rfl⟩
theorem reps2 {K : PySem.W.Frag} {G : Hp} {vs : List V} {d e : D} (r : Reps K G vs [d, e]) : ∃ v w, vs = [v, w] ∧ Rep K G v d ∧ Rep K G w e := by
  obtain ⟨n, h⟩ := r
  match vs, n with
  | [v, w], _ => exact ⟨v, w, rfl, h 0 v d rfl rfl, h 1 w e rfl rfl⟩
theorem pdi_range1 (hg : Gl X "range") (hm : X.mg "range" = none) (ha : PDA X W [a] t) (hs : starEach [a] X.env = [(false, eval a X.env)] := by rfl) : PDI X W tg (.Call (.Name "range" p) [a] [] pos) (diR1 t) := by
  obtain ⟨_, pa, la⟩ := ha.of
  refine ⟨_, pi_range1 hg hm pa hs, fun H0 G0 G H σ env Q ex R S L q g => la H0 G0 G H σ env _ ex _ S L q fun vs H1 G1 ds x1 r1 ⟨j, e1, h1, h2, q1⟩ => ?_⟩
  subst e1
  obtain ⟨v, rfl, r⟩ := reps1 r1
  exact ⟨j, by rw [r.int_inv], h1, h2, g _ H1 G1 _ x1 jok_range q1⟩
theorem pdi_range2 (hg : Gl X "range") (hm : X.mg "range" = none) (ha : PDA X W [a, b] t) (hs : starEach [a, b] X.env = [(false, eval a X.env), (false, eval b X.env)] := by rfl) (hs2 : starEach [b] X.env = [(false, eval b X.env)] := by rfl) :
    PDI X W tg (.Call (.Name "range" p) [a, b] [] pos) (diR2 t) := by
  obtain ⟨_, pa, la⟩ := ha.of
  refine ⟨_, pi_range2 hg hm pa hs hs2, fun H0 G0 G H σ env Q ex R S L q g => la H0 G0 G H σ env _ ex _ S L q fun vs H1 G1 ds x1 r1 ⟨i, j, e1, h1, q1⟩ => ?_⟩
  subst e1
  obtain ⟨v, w, rfl, r, r'⟩ := reps2 r1
  exact ⟨i, j, by rw [r.int_inv, r'.int_inv], h1, g _ H1 G1 _ x1 jok_range q1⟩
def diEnum (t : DTA) : DTI := fun env Q ex => t env (fun ds => ∃ l, ds = [.lst l] ∧ Q (enumD l)) ex
theorem pdi_enum {tpos : Pos} {elts : List Expr} {kk : Nat} (hg : Gl X "enumerate") (hm : X.mg "enumerate" = none) (ha : PDA X W [e] t) (hs : starEach [e] X.env = [(false, eval e X.env)] := by rfl) :
    PDI X W (.Tuple elts kk tpos) (.Call (.Name "enumerate" p) [e] [] pos) (diEnum t) := by
  obtain ⟨_, pa, la⟩ := ha.of
  refine ⟨_, pi_enum hg hm pa hs, fun H0 G0 G H σ env Q ex R S L q g => la H0 G0 G H σ env _ ex _ S L q fun vs H1 G1 ds x1 r1 ⟨l, e1, q1⟩ => ?_⟩
  subst e1
  obtain ⟨v, rfl, r⟩ := reps1 r1
  obtain ⟨p, ws, rfl, h1, h2⟩ := r.lst_inv
  exact ⟨p, ws, rfl, x1.sub.seq h1, g _ H1 G1 _ x1 (jok_enum h1 h2) q1⟩
def diZip (t : DTA) : DTI := fun env Q ex => t env (fun ds => (∃ l m, ds = [.lst l, .lst m] ∧ Q (zipD l m)) ∨ ∃ l m, ds = [.tup l, .tup m] ∧ Q (zipD l m)) ex
theorem pdi_zip {e2 : Expr} {tpos : Pos} {elts : List Expr} {kk : Nat} (hg : Gl X "zip") (hm : X.mg "zip" = none) (ha : PDA X W [e, e2] t)
    (hs : starEach [e, e2] X.env = (false, eval e X.env) :: starEach [e2] X.env := by rfl) (hpl : (backTo pos (starEach [e2] X.env)).any (·.1) = false := by rfl) :
    PDI X W (.Tuple elts kk tpos) (.Call (.Name "zip" p) [e, e2] [] pos) (diZip t) := by
  obtain ⟨_, pa, la⟩ := ha.of
  refine ⟨_, RZ.pi_zipA hg hm pa hs hpl, fun H0 G0 G H σ env Q ex R S L q g => la H0 G0 G H σ env _ ex _ S L q fun vs H1 G1 ds x1 r1 q0 => ?_⟩
  rcases q0 with ⟨l, m, e1, q1⟩ | ⟨l, m, e1, q1⟩
  · subst e1
    obtain ⟨v, w, rfl, r, r'⟩ := reps2 r1
    obtain ⟨p, ws, rfl, h1, h2⟩ := r.lst_inv
    obtain ⟨p', ws', rfl, h1', h2'⟩ := r'.lst_inv
    exact ⟨p, p', ws, ws', rfl, .inl ⟨x1.sub.seq h1, x1.sub.seq h1', g _ H1 G1 _ x1 (jok_zip h1 h2 h1' h2') q1⟩⟩
  · subst e1
    obtain ⟨v, w, rfl, r, r'⟩ := reps2 r1
    obtain ⟨p, ws, rfl, h1, h2⟩ := r.tup_inv
    obtain ⟨p', ws', rfl, h1', h2'⟩ := r'.tup_inv
    exact ⟨p, p', ws, ws', rfl, .inr ⟨sqT_same x1.sub h1, sqT_same x1.sub h1', g _ H1 G1 _ x1 (jok_zipT h1 h2 h1' h2') q1⟩⟩
/-! ## targets -/
abbrev DTG := D → DE → (DE → Prop) → Prop
abbrev DTGs := List D → DE → (DE → Prop) → Prop
/-- what a target stores lies in vs -/
def GIn (vs : List Nat) (g : TG) : Prop := ∀ v σ H (R R' : L2.St → Hp → Prop), (∀ σ2 H2, L2.wipe σ2 vs = L2.wipe σ vs → R σ2 H2 → R' σ2 H2) → g v σ H R → g v σ H R'
def GIns (vs : List Nat) (g : TGs) : Prop := ∀ us σ H (R R' : L2.St → Hp → Prop), (∀ σ2 H2, L2.wipe σ2 vs = L2.wipe σ vs → R σ2 H2 → R' σ2 H2) → g us σ H R → g us σ H R'
theorem wipe_get (σ : L2.St) : ∀ (vs : List Nat) (j : Nat), (L2.wipe σ vs)[j]? = if j ∈ vs then (σ[j]?).map (fun _ => none) else σ[j]?
  | [], j => by simp [L2.wipe]
  | v :: vs, j => by
    unfold L2.wipe
    rw [List.getElem?_set, wipe_get σ vs j, L2.wipe_length]
    by_cases h : v = j
    · subst h
      by_cases hl : v < σ.length
      · simp [hl]
      · simp [hl]
    · have h' : ¬ j = v := fun z => h z.symm
      simp [h, h']
theorem wipe_set {σ : L2.St} {vs : List Nat} {i : Nat} {x : Option V} (h : i ∈ vs) : L2.wipe (σ.set i x) vs = L2.wipe σ vs := by
  refine List.ext_getElem? fun j => ?_
  rw [wipe_get, wipe_get]
  by_cases hj : j ∈ vs
  · rw [if_pos hj, if_pos hj, List.getElem?_set]
    by_cases e : i = j
    · subst e
      rw [if_pos rfl]
      split
      · rename_i hl
        rw [List.getElem?_eq_getElem hl]
        rfl
      · rename_i hl
        rw [List.getElem?_eq_none (by omega)]
    · rw [if_neg e]
  · rw [if_neg hj, if_neg hj, List.getElem?_set, if_neg (fun z => hj (by rw [← z]; exact h))]
theorem wipe_wipe (σ : L2.St) (vs : List Nat) : L2.wipe (L2.wipe σ vs) vs = L2.wipe σ vs := by
  refine List.ext_getElem? fun j => ?_
  rw [wipe_get, wipe_get]
  by_cases hj : j ∈ vs
  · rw [if_pos hj, if_pos hj]
    cases σ[j]? <;> rfl
  · rw [if_neg hj, if_neg hj]
structure PDG (X : Cx) (tg : Expr) (ix : List Nat) (t : DTG) : Prop where
  of : ∃ g, PG X tg g ∧ (∀ (H0 G0 G H : Hp) (σ : L2.St) (env : DE) (v : V) (d : D) (Q : DE → Prop) (R : L2.St → Hp → Prop), SR X.K H0 G0 G H σ env → Rep X.K G v d → t d env Q → (∀ σ' env', SR X.K H0 G0 G H σ' env' → Q env' → R σ' H) → g v σ H R) ∧
    ∀ vs, (∀ i ∈ ix, i ∈ vs) → GIn vs g
structure PDGs (X : Cx) (tgs : List Expr) (ix : List Nat) (t : DTGs) : Prop where
  of : ∃ g, PGs X tgs g ∧ (∀ (H0 G0 G H : Hp) (σ : L2.St) (env : DE) (vs : List V) (ds : List D) (Q : DE → Prop) (R : L2.St → Hp → Prop), SR X.K H0 G0 G H σ env → Reps X.K G vs ds → t ds env Q → (∀ σ' env', SR X.K H0 G0 G H σ' env' → Q env' → R σ' H) → g vs σ H R) ∧
    ∀ vs, (∀ i ∈ ix, i ∈ vs) → GIns vs g
def dgName (i : Nat) : DTG := fun d env Q => Q (env.set i (.val d))
theorem pdg_name {i : Nat} (h : PG X tg (gName i)) : PDG X tg [i] (dgName i) := ⟨_, h, fun H0 G0 G H σ env v d Q R S r q g => g _ _ (S.set r) q, fun vs hv v σ H R R' k h => k _ _ (wipe_set (hv i (by simp))) h⟩
def dgNil : DTGs := fun ds env Q => ds = [] ∧ Q env
def dgCons (t : DTG) (u : DTGs) : DTGs := fun ds env Q => ∃ d r, ds = d :: r ∧ t d env (fun env' => u r env' Q)
theorem pdgs_nil : PDGs X [] [] dgNil := ⟨_, pgs_nil, fun H0 G0 G H σ env vs ds Q R S r ⟨e1, q⟩ g => by
  subst e1
  have : vs = [] := List.length_eq_zero_iff.mp r.1
  exact ⟨this, g _ _ S q⟩, fun vs _ us σ H R R' k ⟨h1, h2⟩ => ⟨h1, k _ _ rfl h2⟩⟩
theorem pdgs_cons {g : DTG} {u : DTGs} {ix jx : List Nat} (h : PDG X e ix g) (hs : PDGs X es jx u) (ha : (assignEach (e :: es) X.env).map (fun x => x.2) = assign e X.env :: (assignEach es X.env).map (fun x => x.2) := by rfl) : PDGs X (e :: es) (ix ++ jx) (dgCons g u) := by
  obtain ⟨_, pg, lg, ig⟩ := h.of
  obtain ⟨_, ps, ls, is⟩ := hs.of
  refine ⟨_, pgs_cons pg ps ha, fun H0 G0 G H σ env vs ds Q R S r ⟨d, l, e1, q⟩ g => ?_, fun vs hv us σ H R R' k ⟨v, r, h1, h2⟩ => ⟨v, r, h1, ig vs (fun i hi => hv i (List.mem_append_left _ hi)) v σ H _ _ (fun σ' H' e1 h => is vs (fun i hi => hv i (List.mem_append_right _ hi)) r σ' H' _ _ (fun σ2 H2 e2 h' => k σ2 H2 (e2.trans e1) h') h) h2⟩⟩
  subst e1
  match vs, r with
  | [], r => exact absurd r.1 (by simp)
  | v :: vs, r =>
    refine ⟨v, vs, rfl, lg H0 G0 G H σ env v d _ _ S (r.2 0 v d rfl rfl) q fun σ' env' S' q' => ?_⟩
    exact ls H0 G0 G H σ' env' vs l _ _ S' ⟨by have := r.1; simp at this; exact this, fun i v d h1 h2 => r.2 (i + 1) v d (by simpa using h1) (by simpa using h2)⟩ q' g
def dgTup (n : Nat) (t : DTGs) : DTG := fun d env Q => ∃ l, d = .tup l ∧ l.length = n ∧ t l env Q
theorem pdg_tup {k n : Nat} {u : DTGs} {ix : List Nat} (hc : X.calm = true) (hs : PDGs X es ix u) (hl : (assignEach es X.env).length = n := by rfl) (hf : (assignEach es X.env).findIdx? (fun x => x.1) = none := by rfl) : PDG X (.Tuple es k pos) ix (dgTup n u) := by
  obtain ⟨_, ps, ls, is⟩ := hs.of
  refine ⟨_, pg_tup hc ps hl hf, fun H0 G0 G H σ env v d Q R S r ⟨l, e1, hn, q⟩ g => ?_, fun vs hv v σ H R R' k ⟨a, xs, h1, h2, h3, h4⟩ => ⟨a, xs, h1, h2, h3, is vs hv xs σ H R R' k h4⟩⟩
  subst e1
  obtain ⟨p, ws, rfl, h1, h2⟩ := r.tup_inv
  exact ⟨p, ws, rfl, sqT_same S.sub h1, by rw [h2.1]; exact hn, ls H0 G0 G H σ env ws l _ _ S h2 q g⟩
/-! ## comprehensions -/
def wipeD (env : DE) : List Nat → DE
  | [] => env
  | v :: vs => (wipeD env vs).set v .no
theorem SR.wipe {K : PySem.W.Frag} {H0 G0 G H : Hp} {σ : L2.St} {env : DE} (S : SR K H0 G0 G H σ env) : ∀ vs : List Nat, SR K H0 G0 G H (L2.wipe σ vs) (wipeD env vs)
  | [] => S
  | v :: vs => (SR.wipe S vs).unset
end
structure PDTs (X : Cx) (ifs : List Expr) (t : DTT) : Prop where
  of : ∃ tt, PTs X ifs tt ∧ LT X (fun _ _ _ _ => False) tt t
def dYes : DTT := fun _ Q _ => Q true
theorem pdts_nil {X : Cx} : PDTs X [] dYes := ⟨_, pts_nil, fun H0 G0 G H σ env Q ex R S L q g => g true H G (.refl S.sub) q⟩
theorem pdts_one {X : Cx} {c : Expr} {t : DTT} (h : PDT X (fun _ _ _ _ => False) c t) : PDTs X [c] t := let ⟨_, pa, la⟩ := h.of; ⟨_, pts_one pa, la⟩
/-- [elt for target in iter if ..]: R what holds of what the i-th turn gives -/
def dLc (ti : DTI) (g : DTG) (tt : DTT) (te : DT) (vs : List Nat) : DTN := fun env Q ex => ti env (fun items => items.length < sizeLine ∧ ∃ R : Nat → Option D → Prop, (∀ (i : Nat) x, items[i]? = some x → g x (wipeD env vs) fun env2 => tt env2 (fun b =>
  if b = true then te env2 (fun d => True → R i (some d)) (fun _ _ => False) else True → R i none) (fun _ _ => False)) ∧ ∀ zs : List (Option D), zs.length = items.length → (∀ (i : Nat) z, zs[i]? = some z → R i z) → Q (zs.filterMap id)) ex
abbrev WN : WX := fun _ _ _ _ => False
theorem filt_snoc {α : Type} (zs : List (Option α)) (o : Option α) : (zs ++ [o]).filterMap id = zs.filterMap id ++ o.toList := by
  rw [List.filterMap_append]
  cases o <;> rfl
theorem snoc_all {α : Type} {zs : List α} {o : α} {i : Nat} {R : Nat → α → Prop} (hl : zs.length = i) (h : ∀ (j : Nat) z, zs[j]? = some z → R j z) (ho : R i o) : ∀ (j : Nat) z, (zs ++ [o])[j]? = some z → R j z := fun j z hz => by
  by_cases hj : j < zs.length
  · rw [List.getElem?_append_left hj] at hz
    exact h j z hz
  · rw [List.getElem?_append_right (by omega)] at hz
    have : j - zs.length = 0 := by
      have := (List.getElem?_eq_some_iff.mp hz).1
      simp at this
      omega
    rw [this] at hz
    cases hz
    rw [show j = i by omega]
    exact ho
theorem lc_lift {X : Cx} {W : WX} {ti : TI} {di : DTI} {g : TG} {dg : DTG} {tt : TT} {dt : DTT} {te : TE} {de : DT} {vs : List Nat} {Xb : Cx} (eK : Xb.K = X.K) (hi : LI X W ti di)
    (hg : ∀ (H0 G0 G H : Hp) (σ : L2.St) (env : DE) (v : V) (d : D) (Q : DE → Prop) (R : L2.St → Hp → Prop), SR X.K H0 G0 G H σ env → Rep X.K G v d → dg d env Q → (∀ σ' env', SR X.K H0 G0 G H σ' env' → Q env' → R σ' H) → g v σ H R)
    (hw : GIn vs g)
    (ht : LT Xb WN tt dt) (he : LE Xb WN te de) : LN X W (tLc ti g tt te vs) (dLc di dg dt de vs) := fun H0 G0 G H σ env Q ex R S L q gg =>
  hi H0 G0 G H σ env _ ex _ S L q fun J H1 G1 items x1 j ⟨hs, RR, step, q1⟩ => by
    intro Da nD
    have nG : G1 Da = none := x1.sub.free nD
    -- the invariant
    refine ⟨fun i m Hc => m = items.length - i ∧ i ≤ items.length ∧ ∃ (Hb Gc : Hp) (vs' : List V) (zs : List (Option D)), Ext G1 H1 Gc Hb ∧ Hb Da = none ∧ Hc = upd Hb Da (.lst vs') ∧ zs.length = i ∧ (∀ (j : Nat) z, zs[j]? = some z → RR j z) ∧ Reps X.K Gc vs' (zs.filterMap id), ⟨items.length, by simp, Nat.zero_le _, H1, G1, [], [], .refl x1.sub, nD, rfl, rfl, fun _ _ z => by simp at z, by simpa using Reps.nil⟩, ?_⟩
    rintro i m Hc ⟨rfl, hi', Hb, Gc, vs', zs, xb, nb, rfl, hzl, hzR, rr⟩
    have nGc : Gc Da = none := xb.sub.free nb
    have sG : Same Gc (upd Hb Da (.lst vs')) := same_new' xb.sub nb
    by_cases hlt : i < items.length
    · refine .inr ⟨j.go i _ (xb.gg.trans sG) hlt, fun Hn => i + 1 ≤ items.length ∧ ∃ (Hb' Gc' : Hp) (vs2 : List V) (zs2 : List (Option D)), Ext G1 H1 Gc' Hb' ∧ Hb' Da = none ∧ Hn = upd Hb' Da (.lst vs2) ∧ zs2.length = i + 1 ∧ (∀ (j : Nat) z, zs2[j]? = some z → RR j z) ∧ Reps X.K Gc' vs2 (zs2.filterMap id), fun H' h' => ⟨items.length - (i + 1), by omega, rfl, h'⟩, fun x H' y => ?_⟩
      obtain ⟨G2, d, hd, x2, r2⟩ := j.yld i _ Gc x H' xb.gg sG hlt y
      have st := step i d hd
      -- from here the heap is H', where Da still holds vs'
      have SB : SR X.K H0 G0 Gc (upd Hb Da (.lst vs')) σ env := (((S.ex x1).ex xb).ex (Ext.hid xb.sub nb))
      have SC := (SB.ex x2).wipe vs
      refine hw x _ H' _ _ (fun σ2 H2 e r => ⟨e.trans (wipe_wipe σ vs), r⟩) (hg H0 G0 G2 H' _ _ x d _ _ SC r2 st fun σ2 env2 S2 q2 => ?_)
      have key : ∀ H3 G3, Ext G2 H' G3 H3 → ∃ Hb3, H3 = upd Hb3 Da (.lst vs') ∧ Ext G1 H1 G3 Hb3 ∧ Hb3 Da = none ∧ Same Gc G3 := fun H3 G3 x3 => by
        have x23 := x2.trans x3
        have eD : H3 Da = some (.lst vs') := x23.hh _ _ upd_same
        have g3D : G3 Da = none := by
          cases z : G3 Da with
          | none => rfl
          | some o =>
            have := x23.new Da (by rw [z]; simp) nGc
            rw [upd_same] at this
            cases this
        refine ⟨fun b => if b = Da then none else H3 b, ?_, ⟨fun b u e => ?_, xb.gg.trans x23.gg, fun b u e => ?_, fun b h1 h2 => ?_⟩, if_pos rfl, x23.gg⟩
        · funext b
          by_cases hb : b = Da
          · subst hb
            rw [eD, upd_same]
          · rw [upd_ne hb]
            exact (if_neg hb).symm
        · have hb : b ≠ Da := ne_of_none e nD
          show (if b = Da then none else H3 b) = some u
          rw [if_neg hb]
          refine x23.hh _ _ ?_
          rw [upd_ne hb]
          exact xb.hh _ _ e
        · have hb : b ≠ Da := ne_of_none e g3D
          show (if b = Da then none else H3 b) = some u
          rw [if_neg hb]
          exact x23.sub _ _ e
        · cases z : Gc b with
          | some o => exact xb.new b (by rw [z]; simp) h2
          | none =>
            have := x23.new b h1 z
            by_cases hb : b = Da
            · subst hb; exact nD
            · rw [upd_ne hb] at this
              exact xb.hh.free this
      refine ht H0 G0 G2 H' σ2 env2 _ (fun _ _ => False) _ (by rw [eK]; exact S2) (fun _ _ _ _ _ _ _ _ _ _ z => z.elim) q2 fun bb H3 G3 x3 q3 => ?_
      cases bb with
      | true =>
        simp only [if_true] at q3 ⊢
        refine he H0 G0 G3 H3 σ2 env2 _ (fun _ _ => False) _ (by rw [eK]; exact S2.ex x3) (fun _ _ _ _ _ _ _ _ _ _ z => z.elim) q3 fun w H4 G4 d4 x4 r4 q4 => ?_
        obtain ⟨Hb4, e4, xb4, n4, s4⟩ := key H4 G4 (x3.trans x4)
        have lt : vs'.length < sizeLine := by
          rw [rr.1]
          exact Nat.lt_of_le_of_lt (List.length_filterMap_le _ _) (by omega)
        refine ⟨vs', by rw [e4, upd_same], lt, by omega, Hb4, G4, vs' ++ [w], zs ++ [some d4], xb4, n4, ?_, by simp [hzl], snoc_all hzl hzR (q4 trivial), ?_⟩
        · rw [e4]
          funext b
          by_cases hb : b = Da
          · subst hb
            rw [upd_same, upd_same]
          · rw [upd_ne hb, upd_ne hb, upd_ne hb]
        · rw [filt_snoc]
          rw [eK] at r4
          exact (rr.same s4).app (.one r4)
      | false =>
        simp only [Bool.false_eq_true, if_false] at q3 ⊢
        obtain ⟨Hb3, e3, xb3, n3, s3⟩ := key H3 G3 x3
        refine ⟨by omega, Hb3, G3, vs', zs ++ [none], xb3, n3, e3, by simp [hzl], snoc_all hzl hzR (q3 trivial), ?_⟩
        rw [filt_snoc]
        simpa using rr.same s3
    · have e : i = items.length := by omega
      subst e
      refine .inl ⟨j.stop _ (xb.gg.trans sG), ?_⟩
      exact gg Da vs' _ Hb Gc _ (x1.trans xb) nb rfl rr (q1 zs (by omega) hzR)
end DL

namespace DL
open PySem PySem.Spec PyProof.Rows L2 LR
/-! ## the same in many contexts -/
section
variable {ι : Type} {Xf : ι → Cx} {X : Cx} {W : WX} {e : Expr} {tg : Expr} {ifs : List Expr}
theorem pd_all {t : DT} (hK : ∀ i, (Xf i).K = X.K) (h : ∀ i, PD (Xf i) W e t) : ∃ te, (∀ i, PE (Xf i) e te) ∧ LE X W te t := by
  refine ⟨fun σ H Q => ∀ i, (h i).of.choose σ H Q, fun i => ⟨fun pins s σ H Q I q => (h i).of.choose_spec.1.run pins s σ H Q I (q i)⟩, fun H0 G0 G H σ env Q ex R S L q g i => ?_⟩
  exact (h i).of.choose_spec.2 H0 G0 G H σ env Q ex R (by rw [hK]; exact S) (by rw [hK]; exact L) q (by rw [hK]; exact g)
theorem pdts_all {t : DTT} (hK : ∀ i, (Xf i).K = X.K) (h : ∀ i, PDTs (Xf i) ifs t) : ∃ te, (∀ i, PTs (Xf i) ifs te) ∧ LT X WN te t := by
  refine ⟨fun σ H Q => ∀ i, (h i).of.choose σ H Q, fun i => ⟨fun pins s σ H Q I q => (h i).of.choose_spec.1.run pins s σ H Q I (q i)⟩, fun H0 G0 G H σ env Q ex R S L q g i => ?_⟩
  exact (h i).of.choose_spec.2 H0 G0 G H σ env Q ex R (by rw [hK]; exact S) (by rw [hK]; exact L) q g
theorem pdg_all {t : DTG} {ix : List Nat} (hK : ∀ i, (Xf i).K = X.K) (h : ∀ i, PDG (Xf i) tg ix t) : ∃ g, (∀ i, PG (Xf i) tg g) ∧ (∀ (H0 G0 G H : Hp) (σ : L2.St) (env : DE) (v : V) (d : D) (Q : DE → Prop) (R : L2.St → Hp → Prop), SR X.K H0 G0 G H σ env → Rep X.K G v d → t d env Q →
    (∀ σ' env', SR X.K H0 G0 G H σ' env' → Q env' → R σ' H) → g v σ H R) ∧ ∀ vs, (∀ i ∈ ix, i ∈ vs) → GIn vs g := by
  refine ⟨fun v σ H R => ∀ i, (h i).of.choose v σ H R, fun i => ⟨fun pins s σ H v u Q I r q => (h i).of.choose_spec.1.run pins s σ H v u Q I r (q i)⟩, fun H0 G0 G H σ env v d Q R S r q g i => ?_, fun vs hv v σ H R R' k q i => (h i).of.choose_spec.2.2 vs hv v σ H R R' k (q i)⟩
  exact (h i).of.choose_spec.2.1 H0 G0 G H σ env v d Q R (by rw [hK]; exact S) (by rw [hK]; exact r) q (by rw [hK]; exact g)
end
section
variable {X : Cx} {W : WX} {a b c e tg : Expr} {es : List Expr} {ta tb tc : DT} {t : DTA} {pos p : Pos}
theorem pdn_lc {elt iter : Expr} {ifs : List Expr} {scope : Scope} {own : List (Str × Nat)} {di : DTI} {dg : DTG} {dt : DTT} {de : DT} {ix : List Nat} (hc : X.calm = true) (hN : X.N.Nodup) (hi : PDI X W tg iter di) (ok : BlkOk X.N X.env.scope scope own) (hx : ∀ i ∈ ix, i ∈ own.map (·.2))
    (hg : ∀ (s : Shared) (H : Hp) (C : Addr) (cl : List (Str × Addr)) (fp : List Addr), PDG (X.blk s H scope (compEnvC scope cl C X.env) fp) tg ix dg) (ht : ∀ (s : Shared) (H : Hp) (C : Addr) (cl : List (Str × Addr)) (fp : List Addr), PDTs (X.blk s H scope (compEnvC scope cl C X.env) fp) ifs dt)
    (he : ∀ (s : Shared) (H : Hp) (C : Addr) (cl : List (Str × Addr)) (fp : List Addr), PD (X.blk s H scope (compEnvC scope cl C X.env) fp) WN elt de) (hs : ∀ x, foldedSetIterable iter X.env x = pure x := by intro _; rfl) :
    PDN X W (.ListComp elt [⟨tg, iter, ifs, 0⟩] scope pos) (dLc di dg dt de (own.map (·.2))) := by
  obtain ⟨ti, pi, li⟩ := hi.of
  let Xf : (Shared × Hp × Addr × List (Str × Addr) × List Addr) → Cx := fun q => X.blk q.1 q.2.1 scope (compEnvC scope q.2.2.2.1 q.2.2.1 X.env) q.2.2.2.2
  obtain ⟨g, pg, lg, ig⟩ := pdg_all (Xf := Xf) (X := X) (fun _ => rfl) fun q => hg q.1 q.2.1 q.2.2.1 q.2.2.2.1 q.2.2.2.2
  obtain ⟨tt, pt, lt⟩ := pdts_all (Xf := Xf) (X := X) (fun _ => rfl) fun q => ht q.1 q.2.1 q.2.2.1 q.2.2.2.1 q.2.2.2.2
  obtain ⟨te, pe, le⟩ := pd_all (Xf := Xf) (X := X) (fun _ => rfl) fun q => he q.1 q.2.1 q.2.2.1 q.2.2.2.1 q.2.2.2.2
  exact ⟨_, pe_lc hc hN pi ok (fun s H C cl fp => pg (s, H, C, cl, fp)) (fun s H C cl fp => pt (s, H, C, cl, fp)) (fun s H C cl fp => pe (s, H, C, cl, fp)) hs, lc_lift rfl li lg (ig _ hx) lt le⟩
/-! ## statements -/
structure DEnds where
  nx : DE → Prop
  rt : D → Prop
  bk : DE → Prop := fun _ => False
  ct : DE → Prop := fun _ => False
  ex : Str → List (Str × D) → DE → Prop := fun _ _ _ => False
abbrev DTS := DEnds → DE → Prop
/-- what the machine wants behind a statement, and what is wanted of the data -/
structure Lk (K : PySem.W.Frag) (H0 G0 G : Hp) (W : WX) (B : Ends) (E : DEnds) : Prop where
  nx : ∀ σ' H' G' env', Same G G' → SR K H0 G0 G' H' σ' env' → E.nx env' → B.nx σ' H'
  bk : ∀ σ' H' G' env', Same G G' → SR K H0 G0 G' H' σ' env' → E.bk env' → B.bk σ' H'
  ct : ∀ σ' H' G' env', Same G G' → SR K H0 G0 G' H' σ' env' → E.ct env' → B.ct σ' H'
  rt : ∀ v H' G' d, Same G G' → Ext G0 H0 G' H' → Rep K G' v d → E.rt d → B.rt v H'
  ex : ∀ (σ' : L2.St) (H' G' : Hp) env' (d : Addr) (x : Str) (fv : List (Str × V)) (fs : List (Str × D)), Same G G' → SR K H0 G0 G' H' σ' env' → H' d = some (.xd fv) → RepF K G' fv fs → E.ex x fs env' → W (.ref (He.ga K x)) (some d) σ' H'
theorem Lk.mono {K : PySem.W.Frag} {H0 G0 G G1 : Hp} {W : WX} {B : Ends} {E : DEnds} (h : Lk K H0 G0 G W B E) (s : Same G G1) : Lk K H0 G0 G1 W B E :=
  ⟨fun σ' H' G' env' s' => h.nx σ' H' G' env' (s.trans s'), fun σ' H' G' env' s' => h.bk σ' H' G' env' (s.trans s'), fun σ' H' G' env' s' => h.ct σ' H' G' env' (s.trans s'), fun v H' G' d s' => h.rt v H' G' d (s.trans s'), fun σ' H' G' env' d x fv fs s' => h.ex σ' H' G' env' d x fv fs (s.trans s')⟩
theorem Lk.le {K : PySem.W.Frag} {H0 G0 G : Hp} {W : WX} {B : Ends} {E : DEnds} (h : Lk K H0 G0 G W B E) (σ : L2.St) (env : DE) : LkE K H0 G0 G W σ env (fun x fs => E.ex x fs env) := fun H' G' d x fv fs s S e r q => h.ex σ H' G' env d x fv fs s S e r q
def LS (X : Cx) (W : WX) (ts : TS) (t : DTS) : Prop := ∀ (H0 G0 G H : Hp) (σ : L2.St) (env : DE) (B : Ends) (E : DEnds), SR X.K H0 G0 G H σ env → Lk X.K H0 G0 G W B E → t E env → ts B σ H
structure PDS (X : Cx) (W : WX) (st : Stmt) (t : DTS) : Prop where
  of : ∃ ts, PS X st ts ∧ LS X W ts t
structure PDSs (X : Cx) (W : WX) (st : List Stmt) (t : DTS) : Prop where
  of : ∃ ts, PSs X st ts ∧ LS X W ts t
variable {st : Stmt} {rest : List Stmt} {t1 t2 : DTS}
def dNext : DTS := fun E env => E.nx env
def dSeq (t u : DTS) : DTS := fun E env => t { E with nx := fun env' => u E env' } env
theorem pdss_nil : PDSs X W [] dNext := ⟨_, pss_nil, fun H0 G0 G H σ env B E S L q => L.nx _ _ _ _ (.refl _) S q⟩
theorem pdss_one (h : PDS X W st t1) : PDSs X W [st] t1 := let ⟨_, p, l⟩ := h.of; ⟨_, pss_one p, l⟩
theorem pdss_cons (h : PDS X W st t1) (hr : PDSs X W rest t2) : PDSs X W (st :: rest) (dSeq t1 t2) := by
  obtain ⟨_, p, l⟩ := h.of
  obtain ⟨_, pr, lr⟩ := hr.of
  refine ⟨_, pss_cons p pr, fun H0 G0 G H σ env B E S L q => l H0 G0 G H σ env _ { E with nx := fun env' => t2 E env' } S ⟨fun σ' H' G' env' s' S' q' => ?_, L.bk, L.ct, L.rt, L.ex⟩ q⟩
  exact lr H0 G0 G' H' σ' env' B E S' (L.mono s') q'
/-- a list of one's own is one no more -/
def dFrz (i : Nat) (t : DTS) : DTS := fun E env => ∃ l, env[i]? = some (.own l) ∧ t E (env.set i (.val (.lst l)))
theorem pdss_frz (i : Nat) (h : PDSs X W rest t1) : PDSs X W rest (dFrz i t1) := by
  obtain ⟨_, p, l⟩ := h.of
  refine ⟨_, p, fun H0 G0 G H σ env B E S L ⟨m, e, q⟩ => ?_⟩
  obtain ⟨G', s, S'⟩ := S.frz e
  exact l H0 G0 G' H σ _ B E S' (L.mono s) q
/-- a cut: what holds behind the first statement, said -/
def dCut (t u : DTS) : DTS := fun E env => ∃ M : DE → Prop, t { E with nx := fun e => True → M e } env ∧ ∀ env', M env' → u E env'
theorem pdss_cut (h : PDS X W st t1) (hr : PDSs X W rest t2) : PDSs X W (st :: rest) (dCut t1 t2) := by
  obtain ⟨_, p, l⟩ := h.of
  obtain ⟨_, pr, lr⟩ := hr.of
  refine ⟨_, pss_cons p pr, fun H0 G0 G H σ env B E S L ⟨M, q, k⟩ => l H0 G0 G H σ env _ { E with nx := fun e => True → M e } S ⟨fun σ' H' G' env' s' S' q' => ?_, L.bk, L.ct, L.rt, L.ex⟩ q⟩
  exact lr H0 G0 G' H' σ' env' B E S' (L.mono s') (k env' (q' trivial))
def dRet (ta : DT) : DTS := fun E env => ta env E.rt (fun x fs => E.ex x fs env)
theorem pds_ret (h : PD X W e ta) : PDS X W (.Return (some e) pos) (dRet ta) := by
  obtain ⟨_, p, l⟩ := h.of
  exact ⟨_, ps_ret p, fun H0 G0 G H σ env B E S L q => l H0 G0 G H σ env _ _ _ S (L.le σ env) q fun v H' G' d x r q' => L.rt v H' G' d x.gg (S.all.trans x) r q'⟩
theorem pds_retN : PDS X W (.Return none pos) (fun E _ => E.rt .non) := ⟨_, ps_retN, fun H0 G0 G H σ env B E S L q => L.rt _ _ _ _ (.refl _) S.all .non q⟩
def dSet (i : Nat) (ta : DT) : DTS := fun E env => ta env (fun d => E.nx (env.set i (.val d))) (fun x fs => E.ex x fs env)
theorem pds_set {i : Nat} {x : Str} {pos' : Pos} (h1 : X.N.Nodup) (h2 : X.N[i]? = some x) (h3 : L2.Loc X.env.scope x) (h : PD X W e ta) (h5 : swapsWith e (some (.Name x pos')) pos.line X.env = pure false := by rfl)
    (h6 : X.fn x = true ∨ X.env.scope.names.lookup x = some .local := by first | exact Or.inl rfl | exact Or.inr rfl) : PDS X W (.Assign [.Name x pos'] e pos) (dSet i ta) := by
  obtain ⟨_, p, l⟩ := h.of
  exact ⟨_, ps_set h1 h2 h3 p h5 h6, fun H0 G0 G H σ env B E S L q => l H0 G0 G H σ env _ _ _ S (L.le σ env) q fun v H' G' d x r q' => L.nx _ _ _ _ x.gg ((S.ex x).set r) q'⟩
def dSetN (i : Nat) (tn : DTN) : DTS := fun E env => tn env (fun l => E.nx (env.set i (.own l))) (fun x fs => E.ex x fs env)
theorem pds_setN {i : Nat} {x : Str} {pos' : Pos} {tn : DTN} (h1 : X.N.Nodup) (h2 : X.N[i]? = some x) (h3 : L2.Loc X.env.scope x) (h : PDN X W e tn) (h5 : swapsWith e (some (.Name x pos')) pos.line X.env = pure false := by rfl)
    (h6 : X.fn x = true ∨ X.env.scope.names.lookup x = some .local := by first | exact Or.inl rfl | exact Or.inr rfl) : PDS X W (.Assign [.Name x pos'] e pos) (dSetN i tn) := by
  obtain ⟨_, p, l⟩ := h.of
  refine ⟨_, ps_set h1 h2 h3 p h5 h6, fun H0 G0 G H σ env B E S L q => l H0 G0 G H σ env _ _ _ S (L.le σ env) q fun p vs H' H1 G' l x n e r q' => ?_⟩
  subst e
  exact L.nx _ _ _ _ x.gg ((S.ex x).setOwn n r) q'
/-- y = [.. for ..] (the comprehension on the right) -/
theorem pds_asgN {i : Nat} {tn : DTN} {te : TE} (hp : PS X st (tAsg te (gName i))) (hl : LN X W te tn) : PDS X W st (dSetN i tn) := by
  refine ⟨_, hp, fun H0 G0 G H σ env B E S L q => hl H0 G0 G H σ env _ _ _ S (L.le σ env) q fun p vs H' H1 G' l x n e r q' => ?_⟩
  subst e
  exact L.nx _ _ _ _ x.gg ((S.ex x).setOwn n r) q'
def dAsg (ta : DT) (g : DTG) : DTS := fun E env => ta env (fun d => g d env E.nx) (fun x fs => E.ex x fs env)
theorem pds_asg {g : DTG} {ix : List Nat} (h : PD X W e ta) (hg : PDG X tg ix g) (h1 : swapsWithSole [tg] e pos.line X.env = pure false := by rfl) (h2 : swappedStores [tg] e X.env = pure none := by rfl)
    (h3 : (assignEach [tg] X.env).map (fun x => x.2) = [assign tg X.env] := by rfl) : PDS X W (.Assign [tg] e pos) (dAsg ta g) := by
  obtain ⟨_, p, l⟩ := h.of
  obtain ⟨_, pg, lg, _⟩ := hg.of
  exact ⟨_, ps_asg p pg h1 h2 h3, fun H0 G0 G H σ env B E S L q => l H0 G0 G H σ env _ _ _ S (L.le σ env) q fun v H' G' d x r q' => lg H0 G0 G' H' σ env v d _ _ (S.ex x) r q' fun σ' env' S' q2 => L.nx _ _ _ _ x.gg S' q2⟩
def dPar (i j : Nat) (ta tb : DT) : DTS := fun E env => ta env (fun x => tb env (fun y => E.nx ((env.set i (.val x)).set j (.val y))) (fun x fs => E.ex x fs env)) (fun x fs => E.ex x fs env)
theorem pds_par {i j : Nat} {x y : Str} {px py pt pt2 : Pos} {kt k2 : Nat} (h0 : X.calm = true) (h1 : X.N.Nodup) (h2 : X.N[i]? = some x) (h3 : X.N[j]? = some y) (h4 : i ≠ j) (h5 : X.env.scope.names.lookup x = some .local) (h6 : X.env.scope.names.lookup y = some .local)
    (ha : PD X W a ta) (hb : PD X W b tb) (hsw : swappedStores [.Tuple [.Name x px, .Name y py] kt pt] (.Tuple [a, b] k2 pt2) X.env = pure (some [x, y]))
    (h7 : swapsWithSole [.Tuple [.Name x px, .Name y py] kt pt] (.Tuple [a, b] k2 pt2) pos.line X.env = pure false := by rfl)
    (hs : starEach [a, b] X.env = (false, eval a X.env) :: starEach [b] X.env := by rfl) (hs2 : starEach [b] X.env = (false, eval b X.env) :: starEach [] X.env := by rfl) :
    PDS X W (.Assign [.Tuple [.Name x px, .Name y py] kt pt] (.Tuple [a, b] k2 pt2) pos) (dPar i j ta tb) := by
  obtain ⟨_, pa, la⟩ := ha.of
  obtain ⟨_, pb, lb⟩ := hb.of
  refine ⟨_, ps_par h0 h1 h2 h3 h4 h5 h6 (pa_cons pa (pa_cons pb pa_nil hs2) hs) hsw h7, fun H0 G0 G H σ env B E S L q => la H0 G0 G H σ env _ _ _ S (L.le σ env) q fun v H1 G1 d x1 r1 q1 => ?_⟩
  refine lb H0 G0 G1 H1 σ env _ _ _ (S.ex x1) ((L.mono x1.gg).le σ env) q1 fun u H2 G2 d2 x2 r2 q2 => ?_
  have S2 := (S.ex x1).ex x2
  exact ⟨v, u, rfl, L.nx _ _ _ _ (x1.gg.trans x2.gg) ((S2.set (r1.same x2.gg)).set r2) q2⟩
def dAug (i : Nat) (f : Int → Int → Int) (ta : DT) : DTS := fun E env => ∃ n, env[i]? = some (.val (.int n)) ∧ ta env (fun d => ∃ m, d = .int m ∧ E.nx (env.set i (.val (.int (f n m))))) (fun x fs => E.ex x fs env)
theorem pds_aug {i : Nat} {x : Str} {op : Operator} {f : Int → Int → Int} {pos' : Pos} (h1 : X.N.Nodup) (h2 : X.N[i]? = some x) (h3 : L2.Loc X.env.scope x) (h : PD X W e ta) (ho : PIp X op (ipI f))
    (h6 : X.fn x = true ∨ X.env.scope.names.lookup x = some .local := by first | exact Or.inl rfl | exact Or.inr rfl) : PDS X W (.AugAssign (.Name x pos') op e pos) (dAug i f ta) := by
  obtain ⟨_, p, l⟩ := h.of
  refine ⟨_, ps_aug h1 h2 h3 p ho h6, fun H0 G0 G H σ env B E S L ⟨n, en, q⟩ => ?_⟩
  obtain ⟨v, ev, rv⟩ := S.val i _ en
  refine ⟨v, ev, l H0 G0 G H σ env _ _ _ S (L.le σ env) q fun u H' G' d x r ⟨m, em, q'⟩ => ?_⟩
  subst em
  exact ⟨n, m, rv.int_inv, r.int_inv, L.nx _ _ _ _ x.gg ((S.ex x).set (.int _)) q'⟩
def dDrop (ta : DT) : DTS := fun E env => ta env (fun _ => E.nx env) (fun x fs => E.ex x fs env)
theorem pds_expr (h : PD X W e ta) (h5 : swapsWith e none pos.line X.env = pure false := by rfl) : PDS X W (.Expr e pos) (dDrop ta) := by
  obtain ⟨_, p, l⟩ := h.of
  exact ⟨_, ps_expr p h5, fun H0 G0 G H σ env B E S L q => l H0 G0 G H σ env _ _ _ S (L.le σ env) q fun v H' G' d x r q' => L.nx _ _ _ _ x.gg (S.ex x) q'⟩
def dIfS (t : DTT) (t1 t2 : DTS) : DTS := fun E env => t env (fun k => if k = true then t1 E env else t2 E env) (fun x fs => E.ex x fs env)
theorem pds_if {A B : List Stmt} {t : DTT} (hc : PDT X W c t) (h1 : PDSs X W A t1) (h2 : PDSs X W B t2) : PDS X W (.If c A B pos) (dIfS t t1 t2) := by
  obtain ⟨_, pc, lc⟩ := hc.of
  obtain ⟨_, p1, l1⟩ := h1.of
  obtain ⟨_, p2, l2⟩ := h2.of
  refine ⟨_, ps_if pc p1 p2, fun H0 G0 G H σ env B E S L q => lc H0 G0 G H σ env _ _ _ S (L.le σ env) q fun k H1 G1 x1 q1 => ?_⟩
  cases k with
  | true => exact l1 H0 G0 G1 H1 σ env B E (S.ex x1) (L.mono x1.gg) q1
  | false => exact l2 H0 G0 G1 H1 σ env B E (S.ex x1) (L.mono x1.gg) q1
theorem pds_pass : PDS X W (.Pass pos) dNext := ⟨_, ps_pass, fun H0 G0 G H σ env B E S L q => L.nx _ _ _ _ (.refl _) S q⟩
theorem pds_break : PDS X W (.Break pos) (fun E env => E.bk env) := ⟨_, ps_break, fun H0 G0 G H σ env B E S L q => L.bk _ _ _ _ (.refl _) S q⟩
theorem pds_cont : PDS X W (.Continue pos) (fun E env => E.ct env) := ⟨_, ps_continue, fun H0 G0 G H σ env B E S L q => L.ct _ _ _ _ (.refl _) S q⟩
theorem pds_never : PDS X W st (fun _ _ => False) := ⟨_, ps_never, fun H0 G0 G H σ env B E S L q => q⟩
theorem pdss_never : PDSs X W rest (fun _ _ => False) := ⟨_, pss_never, fun H0 G0 G H σ env B E S L q => q⟩
/-- for: what holds ahead of each turn -/
def dFor (ti : DTI) (g : DTG) (tb : DTS) : DTS := fun E env => ti env (fun items => ∃ Inv : Nat → DE → Prop, (True → Inv 0 env) ∧ (∀ (i : Nat) x env', items[i]? = some x → Inv i env' → g x env' fun env2 => tb { E with nx := fun e => True → Inv (i + 1) e, ct := fun e => True → Inv (i + 1) e, bk := E.nx } env2) ∧
  ∀ env', Inv items.length env' → E.nx env') (fun x fs => E.ex x fs env)
theorem pds_for {iter : Expr} {body : List Stmt} {di : DTI} {g : DTG} {ix : List Nat} {tb : DTS} (hp : PassesOwn (model X.prog X.w) X.A X.env X.xe) (hc : X.calm = true) (hi : PDI X W tg iter di) (hg : PDG X tg ix g) (hb : PDSs X W body tb)
    (hs : ∀ x, foldedSetIterable iter X.env x = pure x := by intro _; rfl) : PDS X W (.For tg iter body [] pos) (dFor di g tb) := by
  obtain ⟨_, pi, li⟩ := hi.of
  obtain ⟨_, pg, lg, _⟩ := hg.of
  obtain ⟨_, pb, lb⟩ := hb.of
  refine ⟨_, ps_for hp hc pi pg pb hs, fun H0 G0 G H σ env B E S L q => li H0 G0 G H σ env _ _ _ S (L.le σ env) q fun J H1 G1 items x1 j ⟨Iv, i0, step, done⟩ => ?_⟩
  refine ⟨fun i m σ' H' => m = items.length - i ∧ i ≤ items.length ∧ ∃ G' env', Same G1 G' ∧ SR X.K H0 G0 G' H' σ' env' ∧ Iv i env', ⟨items.length, by simp, Nat.zero_le _, G1, env, .refl _, S.ex x1, i0 trivial⟩, ?_⟩
  rintro i m σ' H' ⟨rfl, hi', G', env', sg, S', iv⟩
  by_cases hlt : i < items.length
  · refine .inr ⟨j.go i _ (sg.trans S'.sub) hlt, fun σ2 H2 => ∃ G2 env2, Same G1 G2 ∧ SR X.K H0 G0 G2 H2 σ2 env2 ∧ Iv (i + 1) env2, fun σ2 H2 h2 => ⟨items.length - (i + 1), by omega, rfl, hlt, h2⟩, fun x H2 y => ?_⟩
    obtain ⟨G2, d, hd, x2, r2⟩ := j.yld i _ G' x H2 sg S'.sub hlt y
    refine lg H0 G0 G2 H2 σ' env' x d _ _ (S'.ex x2) r2 (step i d env' hd iv) fun σ3 env3 S3 q3 => ?_
    have s2 : Same G1 G2 := sg.trans x2.gg
    have L2' := L.mono (x1.gg.trans s2)
    exact lb H0 G0 G2 H2 σ3 env3 _ { E with nx := fun e => True → Iv (i + 1) e, ct := fun e => True → Iv (i + 1) e, bk := E.nx } S3 ⟨fun σ4 H4 G4 env4 s4 S4 q4 => ⟨G4, env4, s2.trans s4, S4, q4 trivial⟩, fun σ4 H4 G4 env4 s4 S4 q4 => L2'.nx _ _ _ _ s4 S4 q4, fun σ4 H4 G4 env4 s4 S4 q4 => ⟨G4, env4, s2.trans s4, S4, q4 trivial⟩, L2'.rt, L2'.ex⟩ q3
  · have e : i = items.length := by omega
    subst e
    exact .inl ⟨j.stop _ (sg.trans S'.sub), L.nx _ _ _ _ (x1.gg.trans sg) S' (done env' iv)⟩
/-- while: what holds ahead of each turn, with a measure -/
def dWhile (t : DTT) (tb : DTS) : DTS := fun E env => ∃ Inv : Nat → DE → Prop, (True → ∃ m, Inv m env) ∧ ∀ m env', Inv m env' → t env' (fun k => if k = true then tb { E with nx := fun e2 => True → ∃ m', m' < m ∧ Inv m' e2, ct := fun e2 => True → ∃ m', m' < m ∧ Inv m' e2, bk := E.nx } env' else E.nx env') (fun x fs => E.ex x fs env')
theorem pds_while {body : List Stmt} {t : DTT} {tb : DTS} (hp : PassesOwn (model X.prog X.w) X.A X.env X.xe) (hc : PDT X W c t) (hb : PDSs X W body tb) : PDS X W (.While c body [] pos) (dWhile t tb) := by
  obtain ⟨_, pc, lc⟩ := hc.of
  obtain ⟨_, pb, lb⟩ := hb.of
  refine ⟨_, ps_while hp pc pb, fun H0 G0 G H σ env B E S L ⟨Iv, i00, step⟩ => ?_⟩
  obtain ⟨m0, i0⟩ := i00 trivial
  refine ⟨fun m σ' H' => ∃ G' env', Same G G' ∧ SR X.K H0 G0 G' H' σ' env' ∧ Iv m env', ⟨m0, G, env, .refl _, S, i0⟩, ?_⟩
  rintro m σ' H' ⟨G', env', sg, S', iv⟩
  refine lc H0 G0 G' H' σ' env' _ _ _ S' ((L.mono sg).le σ' env') (step m env' iv) fun k H1 G1 x1 q1 => ?_
  have s1 := sg.trans x1.gg
  have L1 := L.mono s1
  cases k with
  | true =>
    simp only [if_true] at q1 ⊢
    refine ⟨fun σ2 H2 => ∃ m', m' < m ∧ ∃ G2 env2, Same G G2 ∧ SR X.K H0 G0 G2 H2 σ2 env2 ∧ Iv m' env2, fun σ2 H2 h => h, ?_⟩
    exact lb H0 G0 G1 H1 σ' env' _ { E with nx := fun e2 => True → ∃ m', m' < m ∧ Iv m' e2, ct := fun e2 => True → ∃ m', m' < m ∧ Iv m' e2, bk := E.nx } (S'.ex x1) ⟨fun σ4 H4 G4 env4 s4 S4 q => let ⟨m', hm, q4⟩ := q trivial; ⟨m', hm, G4, env4, s1.trans s4, S4, q4⟩, fun σ4 H4 G4 env4 s4 S4 q4 => L1.nx _ _ _ _ s4 S4 q4, fun σ4 H4 G4 env4 s4 S4 q => let ⟨m', hm, q4⟩ := q trivial; ⟨m', hm, G4, env4, s1.trans s4, S4, q4⟩, L1.rt, L1.ex⟩ q1
  | false => exact L1.nx _ _ _ _ (.refl _) (S'.ex x1) q1
/-! lists of one's own -/
def dApp (i : Nat) (ta : DT) : DTS := fun E env => ∃ l, env[i]? = some (.own l) ∧ ta env (fun d => l.length < sizeLine ∧ E.nx (env.set i (.own (l ++ [d])))) (fun x fs => E.ex x fs env)
theorem pds_app {i : Nat} {x : Str} {p1 p2 p3 : Pos} {te : TE → TE} (hv : ∀ {sa : TE}, PE X e sa → PE X c (tBM X.K "list" rAppend (tVar i) (tCons sa tNil))) (h : PD X W e ta) (h5 : swapsWith c none pos.line X.env = pure false := by rfl) : PDS X W (.Expr c pos) (dApp i ta) := by
  obtain ⟨_, p, l⟩ := h.of
  refine ⟨_, ps_expr (hv p) h5, fun H0 G0 G H σ env B E S L ⟨m, em, q⟩ => ?_⟩
  obtain ⟨pp, vs, e3, hp, gp, op, rr⟩ := S.own i m em
  refine ⟨_, e3, .inl ⟨rfl, _, SqL.of hp⟩, l H0 G0 G H σ env _ _ _ S (L.le σ env) q fun v H' G' d x r ⟨hl, q'⟩ => ?_⟩
  have S' := S.ex x
  refine ⟨pp, vs, v, rfl, rfl, x.hh _ _ hp, by rw [rr.1]; exact hl, ?_⟩
  exact L.nx _ _ _ _ x.gg (S'.mutL em e3 ((rr.same x.gg).app (.one r))) q'
def dIxO (i : Nat) (tb : DT) : DT := fun env Q ex => ∃ l, env[i]? = some (.own l) ∧ tb env (fun d => ∃ k x, d = .int k ∧ atI l k = some x ∧ Q x) ex
theorem atI_len {α β : Type} {l : List α} {m : List β} (h : l.length = m.length) {k : Int} {x : α} (e : atI l k = some x) : ∃ j, l[j]? = some x ∧ ixN m.length k = some j ∧ ixN l.length k = some j := by
  unfold atI at e
  cases q : ixN l.length k with
  | none =>
    rw [q] at e
    cases e
  | some j =>
    rw [q] at e
    exact ⟨j, e, by rw [← h]; exact q, rfl⟩
theorem Reps.ix {K : PySem.W.Frag} {G : Hp} {vs : List V} {l : List D} (r : Reps K G vs l) {k : Int} {x : D} (e : atI l k = some x) : ∃ v, atI vs k = some v ∧ Rep K G v x := by
  obtain ⟨j, h1, h2, _⟩ := atI_len (m := vs) r.1.symm e
  obtain ⟨v, hv, rv⟩ := r.at h1
  exact ⟨v, by unfold atI; rw [h2]; exact hv, rv⟩
theorem pd_ixO {i : Nat} (ho : IxR X (rIxL X.K)) (ha : PE X a (tVar i)) (hb : PD X W b tb) (hp : PlainIx b) : PD X W (.Subscript a b pos) (dIxO i tb) := by
  obtain ⟨_, pb, lb⟩ := hb.of
  refine ⟨_, pe_ix ho ha pb hp, fun H0 G0 G H σ env Q ex R S L ⟨m, em, q⟩ g => ?_⟩
  obtain ⟨pp, vs, e3, hp, gp, op, rr⟩ := S.own i m em
  refine ⟨_, e3, lb H0 G0 G H σ env _ ex _ S L q fun v H1 G1 d x1 r1 ⟨k, x, e1, e2, q1⟩ => ?_⟩
  subst e1
  obtain ⟨w, hw, rw⟩ := rr.ix e2
  exact ⟨pp, vs, k, w, rfl, r1.int_inv, SqL.of (x1.hh _ _ hp), hw, g w H1 G1 x x1 (rw.same x1.gg) q1⟩
def dLenO (i : Nat) : DT := fun env Q _ => ∃ l, env[i]? = some (.own l) ∧ Q (.int l.length)
theorem pd_lenO {i : Nat} (mk : ∀ {sa : TE}, PE X a sa → PE X c (tCB (fun xs H Q => ∃ x n, xs = [x] ∧ LenV X.K x H n ∧ Q (.int n) H) (tCons sa tNil))) (ha : PE X a (tVar i)) : PD X W c (dLenO i) := by
  refine ⟨_, mk ha, fun H0 G0 G H σ env Q ex R S L ⟨m, em, q⟩ g => ?_⟩
  obtain ⟨pp, vs, e3, hp, gp, op, rr⟩ := S.own i m em
  exact ⟨_, e3, _, m.length, rfl, .inl ⟨vs, SqL.of hp, rr.1.symm⟩, g _ _ _ _ (.refl S.sub) (.int _) q⟩
/-- xs[k] = e, xs the def's own -/
def dPut (i : Nat) (ta tb : DT) : DTS := fun E env => ta env (fun d => ∃ l, env[i]? = some (.own l) ∧ tb env (fun y => ∃ k j, y = .int k ∧ ixN l.length k = some j ∧ E.nx (env.set i (.own (l.set j d)))) (fun x fs => E.ex x fs env)) (fun x fs => E.ex x fs env)
theorem pds_put {i : Nat} {kk : Pos} (hv : ∀ {sb : TE}, PE X b sb → PG X tg (gSub (tVar i) sb rSetL)) (ha : PD X W e ta) (hb : PD X W b tb) (h1 : swapsWithSole [tg] e pos.line X.env = pure false := by rfl) (h2 : swappedStores [tg] e X.env = pure none := by rfl)
    (h3 : (assignEach [tg] X.env).map (fun x => x.2) = [assign tg X.env] := by rfl) : PDS X W (.Assign [tg] e pos) (dPut i ta tb) := by
  obtain ⟨_, pa, la⟩ := ha.of
  obtain ⟨_, pb, lb⟩ := hb.of
  refine ⟨_, ps_asg pa (hv pb) h1 h2 h3, fun H0 G0 G H σ env B E S L q => la H0 G0 G H σ env _ _ _ S (L.le σ env) q fun v H1 G1 d x1 r1 ⟨m, em, q1⟩ => ?_⟩
  have S1 := S.ex x1
  obtain ⟨pp, vs, e3, hp, gp, op, rr⟩ := S1.own i m em
  refine ⟨_, e3, lb H0 G0 G1 H1 σ env _ _ _ S1 ((L.mono x1.gg).le σ env) q1 fun u H2 G2 y x2 r2 ⟨k, j, ey, hj, q2⟩ => ?_⟩
  subst ey
  refine ⟨pp, vs, k, j, rfl, r2.int_inv, x2.hh _ _ hp, by rw [rr.1]; exact hj, ?_⟩
  exact L.nx _ _ _ _ (x1.gg.trans x2.gg) ((S1.ex x2).mutL em e3 ((rr.same x2.gg).set (r1.same x2.gg) j)) q2
/-- y = [.. for ..] -/
theorem pds_asgLc {i : Nat} {y : Str} {py spos : Pos} {elt iter : Expr} {ifs : List Expr} {scope : Scope} {own : List (Str × Nat)} {di : DTI} {dg : DTG} {dt : DTT} {de : DT} {ix : List Nat} (hc : X.calm = true) (hN : X.N.Nodup) (hy : X.N[i]? = some y) (hyl : X.env.scope.names.lookup y = some .local)
    (hsw : swapsWith (.ListComp elt [⟨tg, iter, ifs, 0⟩] scope pos) (some (.Name y py)) spos.line X.env = pure true) (hi : PDI X W tg iter di) (ok : BlkOk X.N X.env.scope scope own) (hx : ∀ i ∈ ix, i ∈ own.map (·.2))
    (hg : ∀ (s : Shared) (H : Hp) (C : Addr) (cl : List (Str × Addr)) (fp : List Addr), PDG (X.blk s H scope (compEnvC scope cl C X.env) fp) tg ix dg) (ht : ∀ (s : Shared) (H : Hp) (C : Addr) (cl : List (Str × Addr)) (fp : List Addr), PDTs (X.blk s H scope (compEnvC scope cl C X.env) fp) ifs dt)
    (he : ∀ (s : Shared) (H : Hp) (C : Addr) (cl : List (Str × Addr)) (fp : List Addr), PD (X.blk s H scope (compEnvC scope cl C X.env) fp) WN elt de) (hs : ∀ x, foldedSetIterable iter X.env x = pure x := by intro _; rfl) :
    PDS X W (.Assign [.Name y py] (.ListComp elt [⟨tg, iter, ifs, 0⟩] scope pos) spos) (dSetN i (dLc di dg dt de (own.map (·.2)))) ∧ PDS X W (.Assign [.Name y py] (.ListComp elt [⟨tg, iter, ifs, 0⟩] scope pos) spos) (dSet i (dNew (dLc di dg dt de (own.map (·.2))))) := by
  obtain ⟨ti, pi, li⟩ := hi.of
  let Xf : (Shared × Hp × Addr × List (Str × Addr) × List Addr) → Cx := fun q => X.blk q.1 q.2.1 scope (compEnvC scope q.2.2.2.1 q.2.2.1 X.env) q.2.2.2.2
  obtain ⟨g, pg, lg, ig⟩ := pdg_all (Xf := Xf) (X := X) (fun _ => rfl) fun q => hg q.1 q.2.1 q.2.2.1 q.2.2.2.1 q.2.2.2.2
  obtain ⟨tt, pt, lt⟩ := pdts_all (Xf := Xf) (X := X) (fun _ => rfl) fun q => ht q.1 q.2.1 q.2.2.1 q.2.2.2.1 q.2.2.2.2
  obtain ⟨te, pe, le⟩ := pd_all (Xf := Xf) (X := X) (fun _ => rfl) fun q => he q.1 q.2.1 q.2.2.1 q.2.2.2.1 q.2.2.2.2
  have P := ps_setLc (py := py) (spos := spos) hc hN hy hyl hsw pi ok (fun s H C cl fp => pg (s, H, C, cl, fp)) (fun s H C cl fp => pt (s, H, C, cl, fp)) (fun s H C cl fp => pe (s, H, C, cl, fp)) hs
  have l := lc_lift (W := W) rfl li lg (ig _ hx) lt le
  refine ⟨pds_asgN P l, ⟨_, P, fun H0 G0 G H σ env B E S L q => l.le H0 G0 G H σ env _ _ _ S (L.le σ env) q fun v H' G' d x r q' => L.nx _ _ _ _ x.gg ((S.ex x).set r) q'⟩⟩
theorem pds_lcN {i : Nat} {y : Str} {py spos : Pos} {elt iter : Expr} {ifs : List Expr} {scope : Scope} {own : List (Str × Nat)} {di : DTI} {dg : DTG} {dt : DTT} {de : DT} {ix : List Nat} (hc : X.calm = true) (hN : X.N.Nodup) (hy : X.N[i]? = some y) (hyl : X.env.scope.names.lookup y = some .local)
    (hsw : swapsWith (.ListComp elt [⟨tg, iter, ifs, 0⟩] scope pos) (some (.Name y py)) spos.line X.env = pure true) (hi : PDI X W tg iter di) (ok : BlkOk X.N X.env.scope scope own) (hx : ∀ i ∈ ix, i ∈ own.map (·.2))
    (hg : ∀ (s : Shared) (H : Hp) (C : Addr) (cl : List (Str × Addr)) (fp : List Addr), PDG (X.blk s H scope (compEnvC scope cl C X.env) fp) tg ix dg) (ht : ∀ (s : Shared) (H : Hp) (C : Addr) (cl : List (Str × Addr)) (fp : List Addr), PDTs (X.blk s H scope (compEnvC scope cl C X.env) fp) ifs dt)
    (he : ∀ (s : Shared) (H : Hp) (C : Addr) (cl : List (Str × Addr)) (fp : List Addr), PD (X.blk s H scope (compEnvC scope cl C X.env) fp) WN elt de) (hs : ∀ x, foldedSetIterable iter X.env x = pure x := by intro _; rfl) :
    PDS X W (.Assign [.Name y py] (.ListComp elt [⟨tg, iter, ifs, 0⟩] scope pos) spos) (dSetN i (dLc di dg dt de (own.map (·.2)))) := (pds_asgLc hc hN hy hyl hsw hi ok hx hg ht he hs).1
theorem pds_lcV {i : Nat} {y : Str} {py spos : Pos} {elt iter : Expr} {ifs : List Expr} {scope : Scope} {own : List (Str × Nat)} {di : DTI} {dg : DTG} {dt : DTT} {de : DT} {ix : List Nat} (hc : X.calm = true) (hN : X.N.Nodup) (hy : X.N[i]? = some y) (hyl : X.env.scope.names.lookup y = some .local)
    (hsw : swapsWith (.ListComp elt [⟨tg, iter, ifs, 0⟩] scope pos) (some (.Name y py)) spos.line X.env = pure true) (hi : PDI X W tg iter di) (ok : BlkOk X.N X.env.scope scope own) (hx : ∀ i ∈ ix, i ∈ own.map (·.2))
    (hg : ∀ (s : Shared) (H : Hp) (C : Addr) (cl : List (Str × Addr)) (fp : List Addr), PDG (X.blk s H scope (compEnvC scope cl C X.env) fp) tg ix dg) (ht : ∀ (s : Shared) (H : Hp) (C : Addr) (cl : List (Str × Addr)) (fp : List Addr), PDTs (X.blk s H scope (compEnvC scope cl C X.env) fp) ifs dt)
    (he : ∀ (s : Shared) (H : Hp) (C : Addr) (cl : List (Str × Addr)) (fp : List Addr), PD (X.blk s H scope (compEnvC scope cl C X.env) fp) WN elt de) (hs : ∀ x, foldedSetIterable iter X.env x = pure x := by intro _; rfl) :
    PDS X W (.Assign [.Name y py] (.ListComp elt [⟨tg, iter, ifs, 0⟩] scope pos) spos) (dSet i (dNew (dLc di dg dt de (own.map (·.2))))) := (pds_asgLc hc hN hy hyl hsw hi ok hx hg ht he hs).2
end
end DL

namespace DL
open PySem PySem.Spec PyProof.Rows L2 LR
/-! ## a def from its body -/
def start (n : Nat) (ds : List D) : DE := ds.map Sl.val ++ List.replicate (n - ds.length) .no
theorem sr_start {K : PySem.W.Frag} {G H : Hp} {N : List Str} {vs : List V} {ds : List D} (s : Same G H) (r : Reps K G vs ds) : SR K H G G H (L2.start N vs) (start N.length ds) := by
  refine ⟨.refl _, s, .refl _, fun a h1 h2 => absurd h2 h1, by simp [L2.start, start, r.1], fun i t h => ?_, fun i j s t p _ h1 _ m1 => ?_⟩
  · unfold start at h
    by_cases hi : i < ds.length
    · rw [List.getElem?_append_left (by simpa using hi), List.getElem?_map] at h
      obtain ⟨v, hv, rv⟩ := r.at (List.getElem?_eq_getElem hi)
      rw [List.getElem?_eq_getElem hi] at h
      cases h
      refine ⟨v, ?_, rv⟩
      show (vs.map some ++ _)[i]? = _
      rw [List.getElem?_append_left (by simp [r.1, hi]), List.getElem?_map, hv]
      rfl
    · rw [List.getElem?_append_right (by simp; omega), List.getElem?_replicate] at h
      split at h
      · cases h
        trivial
      · cases h
  · unfold start at h1
    by_cases hi : i < ds.length
    · rw [List.getElem?_append_left (by simpa using hi), List.getElem?_map, List.getElem?_eq_getElem hi] at h1
      cases h1
      cases m1
    · rw [List.getElem?_append_right (by simp; omega), List.getElem?_replicate] at h1
      split at h1
      · cases h1
        cases m1
      · cases h1
theorem Fn.of {P : Program} {w : World} {K : PySem.W.Frag} {mg : Str → Option Value} {base : Heap} {x qual : Str} {params : Arguments} {body : List Stmt} {scope : Scope} {f : Addr} {N ps : List Str} {k n : Nat} {Pm : Prm}
    (h : ∃ fd, FunD K x qual params body scope [] [] f fd) (S : FnScope N ps scope) (hn : ps.length = n)
    (hb : ∀ (kV doc pm : Value) (an : Option Addr) (cdv ct : Value) (us : List Value), us.length = ps.length → bindArgs (PySem.W.fnOf x qual params body scope .none kV doc pm an cdv ct) ⟨us, []⟩ = pure (ps.zip us))
    (len : ∀ ds Q ex, Pm ds Q ex → ds.length = n)
    (hbody : ∀ (fd : FuncData) (cdv : Value) (A : Around) (outer : List Env) (s : Shared) (H : Hp) (E : XK), Room k (A.deeper (envOfC qual scope s.heap.objs.size f cdv)) →
      ∃ t, PDSs (cxOf (L2.CX P w) P w K mg base N qual scope f cdv A outer s H E) (fun cls d _ H => E cls d H) body t ∧ ∀ ds Q ex, Pm ds Q ex → t { nx := fun _ => Q .non, rt := Q, ex := fun x fs _ => ex x fs } (start N.length ds)) :
    Nonempty (Fn P w K mg base f (k + 1) n Pm) := by
  suffices ok : Ok P w K mg base f (k + 1) ps (spD K n Pm) by
    obtain ⟨fd, F, b⟩ := ok
    exact ⟨⟨fd, ps, F, b, len⟩⟩
  refine Ok.of (P := P) (w := w) (mg := mg) (base := base) (k := k) (sp := spD K n Pm) h S hb (fun vs H Q E q => q.1.trans hn.symm) (fun fd cdv A outer s H vs Q E hr hs => ?_)
  · obtain ⟨t, pd, q⟩ := hbody fd cdv A outer s H E hr
    obtain ⟨ts, pts, l⟩ := pd.of
    obtain ⟨hv, G, ds, QD, ED, sG, rr, pm, got, out⟩ := hs
    refine ⟨ts, pts, l H G G H _ _ _ { nx := fun _ => QD .non, rt := QD, ex := fun x fs _ => ED x fs } (sr_start sG rr) ⟨fun σ' H' G' env' _ S' q' => ?_, fun σ' H' G' env' _ S' q' => q'.elim, fun σ' H' G' env' _ S' q' => q'.elim, fun v H' G' d _ x r q' => got v H' G' d x r q', fun σ' H' G' env' d x fv fs _ S' e r q' => out H' G' d x fv fs S'.all e r q'⟩ (q ds QD ED pm)⟩
    exact got _ _ _ _ S'.all .non q'
/-! ## an __init__ from its body -/
def startI (n : Nat) (p : Addr) (c : Nat) (ds : List D) : DE := .ob p c [] :: ds.map Sl.val ++ List.replicate (n - (ds.length + 1)) .no
theorem zip_of_map {α β : Type} : ∀ (l : List (α × β)), l = (l.map (·.1)).zip (l.map (·.2))
  | [] => rfl
  | (a, b) :: r => by
    show (a, b) :: r = (a, b) :: (r.map (·.1)).zip (r.map (·.2))
    rw [← zip_of_map r]
theorem sr_startI {K : PySem.W.Frag} {G H : Hp} {N : List Str} {vs : List V} {ds : List D} {p dx : Addr} {c : Nat} (s : Same G H) (hp : H p = some (.ins (He.ga K (cname c)) dx [])) (gp : G p = none) (r : Reps K G vs ds) :
    SR K (del H p) G G H (L2.start N (.ref p :: vs)) (startI N.length p c ds) := by
  have one : ∀ (i : Nat) (t : Sl), (startI N.length p c ds)[i]? = some t → (i = 0 ∧ t = .ob p c []) ∨ ((∃ d, t = .val d ∧ ∃ v, (L2.start N (.ref p :: vs))[i]? = some (some v) ∧ Rep K G v d) ∨ t = .no) := fun i t h => by
    cases i with
    | zero =>
      left
      unfold startI at h
      simp at h
      exact ⟨rfl, h.symm⟩
    | succ i =>
      right
      unfold startI at h
      rw [List.cons_append, List.getElem?_cons_succ] at h
      by_cases hi : i < ds.length
      · rw [List.getElem?_append_left (by simpa using hi), List.getElem?_map, List.getElem?_eq_getElem hi] at h
        cases h
        obtain ⟨v, hv, rv⟩ := r.at (List.getElem?_eq_getElem hi)
        refine .inl ⟨_, rfl, v, ?_, rv⟩
        show (some (V.ref p) :: vs.map some ++ _)[i + 1]? = _
        rw [List.cons_append, List.getElem?_cons_succ, List.getElem?_append_left (by simp [r.1, hi]), List.getElem?_map, hv]
        rfl
      · rw [List.getElem?_append_right (by simp; omega), List.getElem?_replicate] at h
        split at h
        · cases h
          exact .inr rfl
        · cases h
  refine ⟨fun a o h => ?_, s, .refl _, fun a h1 h2 => absurd h2 h1, by simp [L2.start, startI, r.1], fun i t h => ?_, fun i j s t q ij h1 h2 m1 m2 => ?_⟩
  · by_cases ha : a = p
    · subst ha
      rw [del_same] at h
      cases h
    · rw [del_ne ha] at h
      exact h
  · rcases one i t h with ⟨rfl, rfl⟩ | ⟨d, rfl, v, e, rv⟩ | rfl
    · exact ⟨dx, [], rfl, hp, gp, del_same, rfl, .nil⟩
    · exact ⟨v, e, rv⟩
    · trivial
  · rcases one i _ h1 with ⟨rfl, rfl⟩ | ⟨d, rfl, _⟩ | rfl
    · rcases one j _ h2 with ⟨rfl, rfl⟩ | ⟨d, rfl, _⟩ | rfl
      · exact absurd rfl ij
      · cases m2
      · cases m2
    · cases m1
    · cases m1
/-- what an __init__'s body is to reach -/
def endI (p : Addr) (c : Nat) (Q : D → Prop) : DE → Prop := fun env => ∃ fs, env[0]? = some (.ob p c fs) ∧ fs.map (·.1) = shape c ∧ Q (.ins c (fs.map (·.2)))
theorem FnI.body {P : Program} {w : World} {K : PySem.W.Frag} {mg : Str → Option Value} {base : Heap} {qual : Str} {scope : Scope} {f : Addr} {N : List Str} {c n : Nat} {Pm : Prm} {cdv : Value} {A : Around} {outer : List Env} {s : Shared} {H : Hp} {E : XK} {body : List Stmt} {t : DTS} {vs : List V} {Q : VK}
    (pd : PDSs (cxOf (L2.CX P w) P w K mg base N qual scope f cdv A outer s H E) (fun cls d _ H => E cls d H) body t) (q : ∀ p ds Q ex, Pm ds Q ex → t { nx := endI p c Q, rt := fun _ => False, ex := fun x fs _ => ex x fs } (startI N.length p c ds)) (hs : spI K c n Pm vs H Q E) :
    ∃ ts, PSs (cxOf (L2.CX P w) P w K mg base N qual scope f cdv A outer s H E) body ts ∧ ts { nx := fun _ H' => Q .non H', rt := Q } (L2.start N vs) H := by
  obtain ⟨ts, pts, l⟩ := pd.of
  obtain ⟨p, dx, us, G, ds, QD, ED, rfl, hl, hp, sG, gp, rr, pm, made, out⟩ := hs
  have keep : ∀ {H' : Hp}, Same (del H p) H' → ∀ a o, H a = some o → a ≠ p → H' a = some o := fun h a o e ne => h a o ((del_ne ne).trans e)
  have new : ∀ {G' : Hp}, (∀ a, G' a ≠ none → G a = none → del H p a = none) → ∀ a, G' a ≠ none → G a = none → H a = none ∨ a = p := fun h a h1 h2 => by
    by_cases ha : a = p
    · exact .inr ha
    · have := h a h1 h2
      rw [del_ne ha] at this
      exact .inl this
  refine ⟨ts, pts, l (del H p) G G H _ _ _ { nx := endI p c QD, rt := fun _ => False, ex := fun x fs _ => ED x fs } (sr_startI sG hp gp rr) ⟨fun σ' H' G' env' _ S' q' => ?_, fun σ' H' G' env' _ S' q' => q'.elim, fun σ' H' G' env' _ S' q' => q'.elim, fun v H' G' d _ x r q' => q'.elim, fun σ' H' G' env' d x fv fs _ S' e r q' => ?_⟩ (q p ds QD ED pm)⟩
  · obtain ⟨fs, e0, es, q2⟩ := q'
    obtain ⟨dx', fv, e1, hp', gp', _, rf⟩ := S'.slot 0 _ e0
    have gG : Same G' (upd G' p (.ins (He.ga K (cname c)) dx' fv)) := same_new gp'
    have hz : fv = (shape c).zip (fv.map (·.2)) := by
      have := zip_of_map fv
      rw [rf.1, es] at this
      exact this
    have rl : (fv.map (·.2)).length = (fs.map (·.2)).length := rf.2.1
    have ml : (shape c).length = (fv.map (·.2)).length := by rw [← es, rl]; simp
    refine made H' (upd G' p (.ins (He.ga K (cname c)) dx' fv)) _ (keep S'.same) (S'.g0.trans gG) (fun b u e => ?_) (fun a h1 h2 => ?_) (.ins (dx := dx') ?_ ml rl (rf.2.same gG).2) q2
    · by_cases hb : b = p
      · subst hb
        rw [upd_same] at e
        cases e
        exact hp'
      · rw [upd_ne hb] at e
        exact S'.sub b u e
    · by_cases ha : a = p
      · exact .inr ha
      · rw [upd_ne ha] at h1
        exact new S'.ext a h1 h2
    · rw [upd_same, ← hz]
  · exact out H' G' d x fv fs (keep S'.same) S'.g0 S'.sub (new S'.ext) e r q'
theorem spI_len {K : PySem.W.Frag} {c n : Nat} {Pm : Prm} {vs : List V} {H : Hp} {Q : VK} {E : XK} (h : spI K c n Pm vs H Q E) : vs.length = n + 1 := by
  obtain ⟨p, dx, us, G, ds, QD, ED, rfl, hl, _⟩ := h
  simp [hl]
/-- all parameters given -/
theorem FnI.of {P : Program} {w : World} {K : PySem.W.Frag} {mg : Str → Option Value} {base : Heap} {x qual : Str} {params : Arguments} {body : List Stmt} {scope : Scope} {f : Addr} {N ps : List Str} {k c n : Nat} {Pm : Prm}
    (h : ∃ fd, FunD K x qual params body scope [] [] f fd) (S : FnScope N ps scope) (hn : ps.length = n + 1)
    (hb : ∀ (kV doc pm : Value) (an : Option Addr) (cdv ct : Value) (us : List Value), us.length = ps.length → bindArgs (PySem.W.fnOf x qual params body scope .none kV doc pm an cdv ct) ⟨us, []⟩ = pure (ps.zip us))
    (len : ∀ ds Q ex, Pm ds Q ex → ds.length = n)
    (hbody : ∀ (fd : FuncData) (cdv : Value) (A : Around) (outer : List Env) (s : Shared) (H : Hp) (E : XK), Room k (A.deeper (envOfC qual scope s.heap.objs.size f cdv)) →
      ∃ t, PDSs (cxOf (L2.CX P w) P w K mg base N qual scope f cdv A outer s H E) (fun cls d _ H => E cls d H) body t ∧ ∀ p ds Q ex, Pm ds Q ex → t { nx := endI p c Q, rt := fun _ => False, ex := fun x fs _ => ex x fs } (startI N.length p c ds)) :
    Nonempty (FnI P w K mg base f (k + 1) c n Pm [] []) := by
  have ok := Ok.of (P := P) (w := w) (mg := mg) (base := base) (k := k) (sp := spI K c n Pm) h S hb (fun vs H Q E q => (spI_len q).trans hn.symm) (fun fd cdv A outer s H vs Q E hr hs => by
    obtain ⟨t, pd, q⟩ := hbody fd cdv A outer s H E hr
    exact FnI.body pd q hs)
  obtain ⟨fd, F, b⟩ := ok
  exact ⟨⟨fd, ps, F, [], .nil, b, len⟩⟩
/-- the last parameter may be left out -/
theorem FnI.ofD {P : Program} {w : World} {K : PySem.W.Frag} {mg : Str → Option Value} {base : Heap} {x qual : Str} {params : Arguments} {body : List Stmt} {scope : Scope} {f : Addr} {N ps : List Str} {k c n : Nat} {Pm : Prm} {dv : V} {dd : D}
    (h : ∃ fd, FunD K x qual params body scope [dv] [] f fd) (S : FnScope N ps scope) (hn : ps.length = n + 1)
    (hb : ∀ (n : Nat), (n = ps.length ∨ n + 1 = ps.length) → ∀ (T : Addr) (kV doc pm : Value) (an : Option Addr) (cdv ct : Value) (us its : List Value), us.length = n → its.length = 1 →
      ∃ k, bindArgs (PySem.W.fnOf x qual params body scope (.ref T) kV doc pm an cdv ct) ⟨us, []⟩ = seqItems? (.ref T) >>= k ∧ k (some its.toArray) = pure (ps.zip (us ++ its.drop (n + 1 - ps.length))))
    (len : ∀ ds Q ex, Pm ds Q ex → ds.length = n)
    (hbody : ∀ (fd : FuncData) (cdv : Value) (A : Around) (outer : List Env) (s : Shared) (H : Hp) (E : XK), Room k (A.deeper (envOfC qual scope s.heap.objs.size f cdv)) →
      ∃ t, PDSs (cxOf (L2.CX P w) P w K mg base N qual scope f cdv A outer s H E) (fun cls d _ H => E cls d H) body t ∧ ∀ p ds Q ex, Pm ds Q ex → t { nx := endI p c Q, rt := fun _ => False, ex := fun x fs _ => ex x fs } (startI N.length p c ds)) :
    Nonempty (FnI P w K mg base f (k + 1) c n Pm [] []) ∧ Nonempty (FnI P w K mg base f (k + 1) c n Pm [dv] [dd]) := by
  have ok := OkD.of (P := P) (w := w) (mg := mg) (base := base) (k := k) (sp := spI K c n Pm) h S hb (by omega) (fun vs H Q E q => (spI_len q).trans hn.symm) (fun fd cdv A outer s H vs Q E hr hs => by
    obtain ⟨t, pd, q⟩ := hbody fd cdv A outer s H E hr
    exact FnI.body pd q hs)
  obtain ⟨fd, F, b, ds, hv, b2⟩ := ok
  exact ⟨⟨⟨fd, ps, F, [], .nil, b, len⟩⟩, ⟨⟨fd, ps, F, ds, hv, b2, len⟩⟩⟩
/-! ## stores of fields -/
section
variable {X : Cx} {W : WX} {a b c e o tg : Expr} {es : List Expr} {ta tb tc : DT} {t : DTA} {pos p : Pos}
theorem putF_new {f : Str} {v : V} : ∀ {fv : List (Str × V)}, f ∉ fv.map (·.1) → putF f v fv = fv ++ [(f, v)]
  | [], _ => rfl
  | (g, w) :: r, h => by
    have h1 : g ≠ f := fun z => h (by simp [z])
    have h2 : f ∉ r.map (·.1) := fun z => h (by simp at z ⊢; exact .inr z)
    unfold putF
    rw [if_neg h1, putF_new h2]
    rfl
theorem RepF.snoc {K : PySem.W.Frag} {G : Hp} {fv : List (Str × V)} {fs : List (Str × D)} {f : Str} {v : V} {d : D} (r : RepF K G fv fs) (rv : Rep K G v d) : RepF K G (fv ++ [(f, v)]) (fs ++ [(f, d)]) := by
  refine ⟨by simp [r.1], ?_⟩
  rw [List.map_append, List.map_append]
  exact r.2.app (.one rv)
def dFst (i c : Nat) (f : Str) (ta : DT) : DTS := fun E env => ta env (fun d => ∃ p fs, env[i]? = some (.ob p c fs) ∧ fs.length < 1000 ∧ f ∉ fs.map (·.1) ∧ E.nx (env.set i (.ob p c (fs ++ [(f, d)])))) (fun x fs => E.ex x fs env)
theorem pds_fst {i c : Nat} {f : Str} {st : Stmt} (cl : Cls X.K (He.ga X.K (cname c))) (na : NoAttr X.K (He.ga X.K (cname c)) f) (mk : ∀ {te : TE}, PE X e te → PS X st (sFld X.K (tVar i) te f)) (h : PD X W e ta) : PDS X W st (dFst i c f ta) := by
  obtain ⟨_, p, l⟩ := h.of
  refine ⟨_, mk p, fun H0 G0 G H σ env B E S L q => l H0 G0 G H σ env _ _ _ S (L.le σ env) q fun v H1 G1 d x1 r1 ⟨pp, fs, ee, hl, nf, q1⟩ => ?_⟩
  have S1 := S.ex x1
  obtain ⟨dx, fv, e3, hp, gp, op, rf⟩ := S1.slot i _ ee
  refine ⟨_, e3, pp, _, dx, fv, rfl, hp, cl, na, ?_, ?_⟩
  · have := rf.2.1
    simp at this
    omega
  · rw [putF_new (by rw [rf.1]; exact nf)]
    exact L.nx _ _ _ _ x1.gg (S1.mut (t := .ob pp c (fs ++ [(f, _)])) ee rfl rfl e3 (fun fv z => by rw [hp] at z; cases z) ⟨dx, _, rfl, upd_same, gp, op, rf.snoc r1⟩) q1
/-! ## own errors -/
/-- where an error's fields come from: an argument, a word -/
abbrev Xsh := List (Str × (Nat ⊕ Str))
def xV (sh : Xsh) (ws : List V) : List (Str × V) := sh.map fun q => (q.1, match q.2 with | .inl k => ws.getD k .non | .inr w => .str w)
def xD (sh : Xsh) (ws : List D) : List (Str × D) := sh.map fun q => (q.1, match q.2 with | .inl k => ws.getD k .non | .inr w => .str w)
theorem x_rep {K : PySem.W.Frag} {G : Hp} (sh : Xsh) {ws : List V} {ds : List D} (r : Reps K G ws ds) : RepF K G (xV sh ws) (xD sh ds) := by
  refine ⟨by simp [xV, xD], by simp [xV, xD], fun i v d h1 h2 => ?_⟩
  unfold xV at h1
  unfold xD at h2
  rw [List.map_map, List.getElem?_map] at h1 h2
  cases e : sh[i]? with
  | none =>
    rw [e] at h1
    cases h1
  | some q =>
    rw [e] at h1 h2
    obtain ⟨f, s⟩ := q
    cases s with
    | inl k =>
      cases h1
      cases h2
      show Rep K G (ws.getD k .non) (ds.getD k .non)
      by_cases hk : k < ws.length
      · have hk' : k < ds.length := by rw [← r.1]; exact hk
        rw [List.getD_eq_getElem?_getD, List.getD_eq_getElem?_getD, List.getElem?_eq_getElem hk, List.getElem?_eq_getElem hk']
        exact r.2 k _ _ (List.getElem?_eq_getElem hk) (List.getElem?_eq_getElem hk')
      · rw [List.getD_eq_getElem?_getD, List.getD_eq_getElem?_getD, List.getElem?_eq_none (by omega), List.getElem?_eq_none (by rw [← r.1]; omega)]
        exact .non
    | inr w =>
      cases h1
      cases h2
      exact .str w
/-- the promise of an error's __init__ -/
def spX (K : PySem.W.Frag) (x : Str) (n : Nat) (sh : Xsh) : Sp := fun vs H Q _ => ∃ (a : Addr) (ws : List V), vs = .ref a :: ws ∧ ws.length = n ∧ H a = some (exo a (He.ga K x) none) ∧
  ∀ (H' : Hp) (dx : Addr), (∀ b o, H b = some o → b ≠ a → H' b = some o) → H dx = none → dx ≠ a → H' a = some (exo a (He.ga K x) (some dx)) → H' dx = some (exd dx (xV sh ws)) → Q .non H'
structure FnX (P : Program) (w : World) (K : PySem.W.Frag) (mg : Str → Option Value) (base : Heap) (f : Addr) (k : Nat) (x : Str) (n : Nat) (sh : Xsh) where
  fd : FuncData
  ps : List Str
  ok : FnOk P w K mg base (L2.CX P w) k f fd ps (spX K x n sh)
  bd : Binds K fd ps []
def dRaise (x : Str) (n : Nat) (sh : Xsh) (t : DTA) : DTS := fun E env => t env (fun ds => ds.length = n ∧ n ≤ 1000 ∧ E.ex x (xD sh ds) env) (fun x fs => E.ex x fs env)
theorem lk_raise {K : PySem.W.Frag} {H0 G0 G : Hp} {W : WX} {B : Ends} {E : DEnds} {σ : L2.St} {env : DE} {x : Str} {n : Nat} {sh : Xsh} {H1 G1 : Hp} {ws : List V} {ds : List D} {dvs : List V} (L : Lk K H0 G0 G W B E) (S : SR K H0 G0 G1 H1 σ env) (s : Same G G1) (r : Reps K G1 ws ds) (hn : ds.length = n) (q : E.ex x (xD sh ds) env) (hd : dvs = []) :
    ∀ a, H1 a = none → spX K x n sh (.ref a :: (ws ++ dvs)) (upd H1 a (exo a (He.ga K x) none)) (fun v H2 => v = .non ∧ ∃ d fs, H2 a = some (exo a (He.ga K x) (some d)) ∧ H2 d = some (exd d fs) ∧ H1 d = none ∧ W (.ref (He.ga K x)) (some d) σ (upd (del H2 a) d (.xd fs))) (fun _ _ _ => False) := by
  intro a na
  subst hd
  refine ⟨a, ws, by simp, by rw [r.1, hn], upd_same, fun H' dx keep nd ne ea ed => ⟨rfl, dx, _, ea, ed, ?_, ?_⟩⟩
  · rw [upd_ne ne] at nd
    exact nd
  · have nd1 : H1 dx = none := by rw [upd_ne ne] at nd; exact nd
    have x1 : Ext G1 H1 G1 (upd (del H' a) dx (.xd (xV sh ws))) := by
      refine ⟨fun b o e => ?_, .refl _, fun b o e => ?_, fun b h1 h2 => absurd h2 h1⟩
      · have hb1 : b ≠ dx := ne_of_none e nd1
        have hb2 : b ≠ a := ne_of_none e na
        rw [upd_ne hb1, del_ne hb2]
        exact keep b o ((upd_ne hb2).trans e) hb2
      · have e' := S.sub b o e
        have hb1 : b ≠ dx := ne_of_none e' nd1
        have hb2 : b ≠ a := ne_of_none e' na
        rw [upd_ne hb1, del_ne hb2]
        exact keep b o ((upd_ne hb2).trans e') hb2
    exact L.ex σ _ G1 env dx x _ _ s (S.ex x1) upd_same (x_rep sh r) q
theorem pds_raise {x : Str} {n : Nat} {sh : Xsh} {r : Expr} (hc : X.calm = true) (tk : Takes X W) (mk : ∀ {sa : TA}, PA X es sa → PMk X r (tMkO (He.ga X.K x) (spX X.K x n sh) [] sa)) (ha : PDA X W es t) : PDS X W (.Raise (some r) none pos) (dRaise x n sh t) := by
  obtain ⟨_, pa, la⟩ := ha.of
  refine ⟨_, ps_raise hc tk (mk pa), fun H0 G0 G H σ env B E S L q => la H0 G0 G H σ env _ _ _ S (L.le σ env) q fun vs H1 G1 ds x1 r1 ⟨hn, h3, q1⟩ => ⟨by rw [r1.1, hn]; exact h3, ?_⟩⟩
  exact lk_raise L (S.ex x1) x1.gg r1 hn q1 rfl
theorem pds_raise0 {x : Str} {sh : Xsh} {r : Expr} (hc : X.calm = true) (tk : Takes X W) (mk : PMk X r (tMkO (He.ga X.K x) (spX X.K x 0 sh) [] tNil)) : PDS X W (.Raise (some r) none pos) (fun E env => E.ex x (xD sh []) env) :=
  ⟨_, ps_raise hc tk mk, fun H0 G0 G H σ env B E S L q => ⟨Nat.zero_le _, lk_raise L S (.refl _) .nil rfl q rfl⟩⟩
/-! ## try, one clause -/
def dTry (K : PySem.W.Frag) (x : Str) (i : Nat) (tb : DTS) (ts : Addr → Value → Option Addr → DTS) : DTS := fun E env => tb { E with ex := fun y fs e => (y = x ∧ ∀ a dd, ts a (.ref (He.ga K x)) (some dd) { nx := fun e => E.nx (e.set i .no), rt := E.rt, bk := fun e => E.bk (e.set i .no), ct := fun e => E.ct (e.set i .no) } (e.set i (.exc a dd x fs))) ∨
  (PySem.W.exmOne K (.ref (He.ga K y)) (.ref (He.ga K x)) = some false ∧ E.ex y fs e) } env
theorem pds_try {x n : Str} {i : Nat} {body suite : List Stmt} {b₀ : Stmt} {np pos' : Pos} {tb : DTS} {ts : Addr → Value → Option Addr → DTS} (hs : X.stack = X.env :: X.outer) (hf : X.env.frame = some X.env.locals) (hN : X.N.Nodup) (hi : X.N[i]? = some n) (hln : X.env.kindOf n = some .local)
    (hc : Names X x (.ref (He.ga X.K x))) (hm : PySem.W.exmOne X.K (.ref (He.ga X.K x)) (.ref (He.ga X.K x)) = some true) (tk : Takes X W)
    (hb : ∀ (W' : WX) (pn : List (Addr × Obj)) (xe : Value → Shared → Prop), Takes (X.tr pn xe) W' → PassesOwn (model X.prog X.w) X.A X.env xe → PDSs (X.tr pn xe) W' body tb)
    (hsu : ∀ (a : Addr) (oe : Obj) (cls : Value) (d : Option Addr) (pn : List (Addr × Obj)), Zc cls d oe → (∃ vs, oe.data = .fields vs) → PDSs (X.suite a ((a, oe) :: pn)) WN (b₀ :: suite) (ts a cls d)) :
    PDS X W (.Try body [.ExceptHandler (some (.Name x np)) (some n) (b₀ :: suite) pos'] [] [] pos) (dTry X.K x i tb ts) := by
  refine ⟨_, ps_try_as (Wout := W) (tb := fun W' B σ H => ∀ pn xe (h1 : Takes (X.tr pn xe) W') (h2 : PassesOwn (model X.prog X.w) X.A X.env xe), (hb W' pn xe h1 h2).of.choose B σ H)
    (ts := fun a cls d B σ H => ∀ oe pn (h1 : Zc cls d oe) (h2 : ∃ vs, oe.data = .fields vs), (hsu a oe cls d pn h1 h2).of.choose B σ H) hs hf hN hi hln hc tk
    (fun W' pn xe h1 h2 => ⟨fun pins s σ H B I q => (hb W' pn xe h1 h2).of.choose_spec.1.run pins s σ H B I (q pn xe h1 h2)⟩)
    (fun a oe cls d pn h1 h2 => ⟨fun pins s σ H B I q => (hsu a oe cls d pn h1 h2).of.choose_spec.1.run pins s σ H B I (q oe pn h1 h2)⟩), fun H0 G0 G H σ env B E S L q => ?_⟩
  intro pn xe h1 h2
  refine (hb _ pn xe h1 h2).of.choose_spec.2 H0 G0 G H σ env _ { E with ex := fun y fs e => (y = x ∧ ∀ a dd, ts a (.ref (He.ga X.K x)) (some dd) { nx := fun e => E.nx (e.set i .no), rt := E.rt, bk := fun e => E.bk (e.set i .no), ct := fun e => E.ct (e.set i .no) } (e.set i (.exc a dd x fs))) ∨
    (PySem.W.exmOne X.K (.ref (He.ga X.K y)) (.ref (He.ga X.K x)) = some false ∧ E.ex y fs e) } S ⟨L.nx, L.bk, L.ct, L.rt, fun σ' H' G' env' dd y fv fs s' S' e r q' => ?_⟩ q
  rcases q' with ⟨rfl, q'⟩ | ⟨hn, q'⟩
  · refine ⟨true, hm, fun _ a na oe pn h1 h2 => ?_, fun z => Bool.noConfusion z⟩
    have S2 : SR X.K H0 G0 G' H' (σ'.set i (some (.ref a))) (env'.set i (.exc a dd y fs)) := S'.put i _ _ ⟨fv, rfl, e, r⟩ (fun z => by cases z)
    have L2 := L.mono s'
    exact (hsu a oe _ _ pn h1 h2).of.choose_spec.2 H0 G0 G' H' _ _ _ { nx := fun e => E.nx (e.set i .no), rt := E.rt, bk := fun e => E.bk (e.set i .no), ct := fun e => E.ct (e.set i .no) } S2 ⟨fun σ4 H4 G4 env4 s4 S4 q4 => L2.nx _ _ _ _ s4 S4.unset q4, fun σ4 H4 G4 env4 s4 S4 q4 => L2.bk _ _ _ _ s4 S4.unset q4, fun σ4 H4 G4 env4 s4 S4 q4 => L2.ct _ _ _ _ s4 S4.unset q4, L2.rt, fun _ _ _ _ _ _ _ _ _ _ _ _ z => z.elim⟩ (q' a dd)
  · exact ⟨false, hn, fun z => Bool.noConfusion z, fun _ => L.ex σ' H' G' env' dd y fv fs s' S' e r q'⟩
/-- e.f of a caught error -/
def dXf (K : PySem.W.Frag) (i : Nat) (x : Str) (f : Str) (a : Addr) (cls : Value) (d : Option Addr) : DT := fun env Q _ => ∃ dd fs y, env[i]? = some (.exc a dd x fs) ∧ cls = .ref (He.ga K x) ∧ d = some dd ∧ fs.lookup f = some y ∧ Q y
theorem lookup_rep {K : PySem.W.Frag} {G : Hp} {f : Str} {y : D} : ∀ {fs : List (Str × D)} {fv : List (Str × V)}, RepF K G fv fs → fs.lookup f = some y → ∃ v, fv.lookup f = some v ∧ Rep K G v y
  | [], _, _, h => by cases h
  | (g, z) :: fs, [], r, h => absurd r.1 (by simp)
  | (g, z) :: fs, (g', v) :: fv, r, h => by
    have e1 := r.1
    simp at e1
    obtain ⟨rfl, e1⟩ := e1
    by_cases hf : f = g'
    · have hb : (f == g') = true := beq_iff_eq.mpr hf
      simp only [List.lookup, hb] at h ⊢
      cases h
      exact ⟨v, rfl, r.2.2 0 v _ rfl rfl⟩
    · have hb : (f == g') = false := beq_eq_false_iff_ne.mpr hf
      simp only [List.lookup, hb] at h ⊢
      exact lookup_rep ⟨e1, by have := r.2.1; simp at this; simpa using this, fun i v d h1 h2 => r.2.2 (i + 1) v d (by simpa using h1) (by simpa using h2)⟩ h
theorem pd_xf {i : Nat} {x f : Str} {a : Addr} {cls : Value} {d : Option Addr} (K : PySem.W.Frag) (hK : X.K = K) (mk : PE X e (tXf a cls d (He.ga K x) f (tVar i))) : PD X W e (dXf K i x f a cls d) := by
  subst hK
  refine ⟨_, mk, fun H0 G0 G H σ env Q ex R S L ⟨dd, fs, y, e1, e2, e3, hl, q⟩ g => ?_⟩
  obtain ⟨fv, e4, hd, rf⟩ := S.slot i _ e1
  obtain ⟨v, hv, rv⟩ := lookup_rep rf hl
  exact ⟨_, e4, rfl, e2, dd, fv, v, e3, hd, hv, g v H G y (.refl S.sub) rv q⟩
/-- isinstance(e, C) of a caught error -/
def dXi (K : PySem.W.Frag) (i : Nat) (x : Str) (cv : Value) (a : Addr) (cls : Value) (d : Option Addr) : DT := fun env Q _ => ∃ dd fs b, env[i]? = some (.exc a dd x fs) ∧ cls = .ref (He.ga K x) ∧ d = some dd ∧ PySem.W.kitOne K (.ref (He.ga K x)) cv = some b ∧ Q (.bl b)
theorem pd_xi {i : Nat} {x : Str} {a : Addr} {cls cv : Value} {d : Option Addr} {c : V} (K : PySem.W.Frag) (hK : X.K = K) (hc : ClsV c cv) (mk : PE X e (tCB (rIsD K (He.ga K x) a cls d) (tCons (tVar i) (tCons (tC c) tNil)))) : PD X W e (dXi K i x cv a cls d) := by
  subst hK
  refine ⟨_, mk, fun H0 G0 G H σ env Q ex R S L ⟨dd, fs, b, e1, e2, e3, hk, q⟩ g => ?_⟩
  obtain ⟨fv, e4, hd, rf⟩ := S.slot i _ e1
  exact ⟨_, e4, c, cv, b, dd, fv, rfl, e2, e3, hd, hc, hk, g _ H G _ (.refl S.sub) (.bl b) q⟩
end
end DL

namespace DL
open PySem PySem.Spec PyProof.Rows L2 LR
section
variable {K : PySem.W.Frag} {X : Cx} {W : WX}
/-! ## ints -/
def dI (C : Int → Int → Prop) (f : Int → Int → Int) : R2D := fun a b Q => ∃ i j, a = .int i ∧ b = .int j ∧ C i j ∧ Q (.int (f i j))
def dI0 (f : Int → Int → Int) : R2D := fun a b Q => ∃ i j, a = .int i ∧ b = .int j ∧ Q (.int (f i j))
def dB0 (f : Int → Int → Bool) : R2D := fun a b Q => ∃ i j, a = .int i ∧ b = .int j ∧ Q (.bl (f i j))
theorem l_I {C : Int → Int → Prop} {f : Int → Int → Int} : L2R K (rI C fun i j => .int (f i j)) (dI C f) := fun G H x y a b Q R s r1 r2 ⟨i, j, e1, e2, c, q⟩ g => by
  subst e1 e2
  exact ⟨i, j, r1.int_inv, r2.int_inv, c, g _ H G _ (.refl s) (.int _) q⟩
theorem l_I0 {f : Int → Int → Int} : L2R K (rI0 fun i j => .int (f i j)) (dI0 f) := fun G H x y a b Q R s r1 r2 ⟨i, j, e1, e2, q⟩ g => by
  subst e1 e2
  exact ⟨i, j, r1.int_inv, r2.int_inv, g _ H G _ (.refl s) (.int _) q⟩
theorem l_B0 {f : Int → Int → Bool} : L2R K (rI0 fun i j => .bl (f i j)) (dB0 f) := fun G H x y a b Q R s r1 r2 ⟨i, j, e1, e2, q⟩ g => by
  subst e1 e2
  exact ⟨i, j, r1.int_inv, r2.int_inv, g _ H G _ (.refl s) (.bl _) q⟩
def dU (f : Int → Int) : D → (D → Prop) → Prop := fun a Q => ∃ i, a = .int i ∧ Q (.int (f i))
theorem l_U {f : Int → Int} : L1R K (rU fun i => .int (f i)) (dU f) := fun G H x a Q R s r ⟨i, e, q⟩ g => by
  subst e
  exact ⟨i, r.int_inv, g _ H G _ (.refl s) (.int _) q⟩
/-- == of scalars -/
def eqS : D → D → Option Bool
  | .non, .non => some true | .non, .int _ => some false | .int _, .non => some false | .non, .bl _ => some false | .bl _, .non => some false | .non, .str _ => some false | .str _, .non => some false
  | .int i, .int j => some (decide (i = j)) | .bl a, .bl b => some (a == b) | .str s, .str t => some (decide (s = t)) | .int _, .str _ => some false | .str _, .int _ => some false | .bl _, .str _ => some false | .str _, .bl _ => some false
  | _, _ => none
def dEq : R2D := fun a b Q => ∃ k, eqS a b = some k ∧ Q (.bl k)
def dNe : R2D := fun a b Q => ∃ k, eqS a b = some k ∧ Q (.bl (!k))
theorem eqS_ok {G : Hp} {x y : V} {a b : D} {k : Bool} (r1 : Rep K G x a) (r2 : Rep K G y b) (h : eqS a b = some k) : scal x y = true ∧ decide (x = y) = k := by
  cases a <;> cases b <;> first
    | (cases h; done)
    | (cases r1; cases r2; cases h; refine ⟨rfl, ?_⟩; first | (simp; done) | (rw [Bool.eq_iff_iff]; simp))
theorem l_eq : L2R K rEq dEq := fun G H x y a b Q R s r1 r2 ⟨k, e, q⟩ g => by
  obtain ⟨h1, h2⟩ := eqS_ok r1 r2 e
  exact ⟨h1, by rw [h2]; exact g _ H G _ (.refl s) (.bl _) q⟩
theorem l_ne : L2R K rNe dNe := fun G H x y a b Q R s r1 r2 ⟨k, e, q⟩ g => by
  obtain ⟨h1, h2⟩ := eqS_ok r1 r2 e
  exact ⟨h1, by rw [h2]; exact g _ H G _ (.refl s) (.bl _) q⟩
def isN : D → Bool
  | .non => true | _ => false
theorem isN_ok {G : Hp} {x : V} {a : D} (r : Rep K G x a) : decide (x = .non) = isN a := by
  cases r <;> simp [isN]
def dIsN : R2D := fun a b Q => b = .non ∧ Q (.bl (isN a))
def dNotN : R2D := fun a b Q => b = .non ∧ Q (.bl (!isN a))
theorem l_isN : L2R K (fun x y H Q => y = .non ∧ Q (.bl (decide (x = .non))) H) dIsN := fun G H x y a b Q R s r1 r2 ⟨e, q⟩ g => by
  subst e
  exact ⟨r2.non_inv, by rw [isN_ok r1]; exact g _ H G _ (.refl s) (.bl _) q⟩
theorem l_notN : L2R K (fun x y H Q => y = .non ∧ Q (.bl (!decide (x = .non))) H) dNotN := fun G H x y a b Q R s r1 r2 ⟨e, q⟩ g => by
  subst e
  exact ⟨r2.non_inv, by rw [isN_ok r1]; exact g _ H G _ (.refl s) (.bl _) q⟩
/-! ## texts, lists -/
def dAddS : R2D := fun a b Q => ∃ i j, a = .str i ∧ b = .str j ∧ i.length + j.length ≤ sizeLine ∧ Q (.str (i ++ j))
theorem l_addS : L2R K (fun x y H Q => ∃ i j, x = .str i ∧ y = .str j ∧ i.length + j.length ≤ sizeLine ∧ Q (.str (i ++ j)) H) dAddS := fun G H x y a b Q R s r1 r2 ⟨i, j, e1, e2, h, q⟩ g => by
  subst e1 e2
  exact ⟨i, j, r1.str_inv, r2.str_inv, h, g _ H G _ (.refl s) (.str _) q⟩
def occ (j i : Str) : Bool := !(Builtin.Str.occurrences j i 0 j.length 1).isEmpty
def dInS : R2D := fun a b Q => ∃ i j, a = .str i ∧ b = .str j ∧ Q (.bl (occ j i))
def dNotInS : R2D := fun a b Q => ∃ i j, a = .str i ∧ b = .str j ∧ Q (.bl (!occ j i))
theorem l_inS : L2R K (fun x y H Q => ∃ i j, x = .str i ∧ y = .str j ∧ Q (.bl (!(Builtin.Str.occurrences j i 0 j.length 1).isEmpty)) H) dInS := fun G H x y a b Q R s r1 r2 ⟨i, j, e1, e2, q⟩ g => by
  subst e1 e2
  exact ⟨i, j, r1.str_inv, r2.str_inv, g _ H G _ (.refl s) (.bl _) q⟩
theorem l_notInS : L2R K (fun x y H Q => ∃ i j, x = .str i ∧ y = .str j ∧ Q (.bl (!!(Builtin.Str.occurrences j i 0 j.length 1).isEmpty)) H) dNotInS := fun G H x y a b Q R s r1 r2 ⟨i, j, e1, e2, q⟩ g => by
  subst e1 e2
  exact ⟨i, j, r1.str_inv, r2.str_inv, g _ H G _ (.refl s) (.bl _) q⟩
def dIxL : R2D := fun a b Q => ∃ l k x, a = .lst l ∧ b = .int k ∧ atI l k = some x ∧ Q x
def dIxT : R2D := fun a b Q => ∃ l k x, a = .tup l ∧ b = .int k ∧ atI l k = some x ∧ Q x
def dIxS : R2D := fun a b Q => ∃ s k c, a = .str s ∧ b = .int k ∧ s.length ≤ sizeLine ∧ atI s.cps.toList k = some c ∧ Q (.str ⟨#[c]⟩)
theorem l_ixL : L2R K (rIxL K) dIxL := fun G H x y a b Q R s r1 r2 ⟨l, k, z, e1, e2, h, q⟩ g => by
  subst e1 e2
  obtain ⟨p, vs, rfl, h1, h2⟩ := r1.lst_inv
  obtain ⟨w, hw, rw⟩ := h2.ix h
  exact ⟨p, vs, k, w, rfl, r2.int_inv, s.seq h1, hw, g _ H G _ (.refl s) rw q⟩
theorem l_ixT : L2R K (rIxT K) dIxT := fun G H x y a b Q R s r1 r2 ⟨l, k, z, e1, e2, h, q⟩ g => by
  subst e1 e2
  obtain ⟨p, vs, rfl, h1, h2⟩ := r1.tup_inv
  obtain ⟨w, hw, rw⟩ := h2.ix h
  exact ⟨p, vs, k, w, rfl, r2.int_inv, sqT_same s h1, hw, g _ H G _ (.refl s) rw q⟩
theorem l_ixS : L2R K rIxS dIxS := fun G H x y a b Q R s r1 r2 ⟨l, k, z, e1, e2, h0, h, q⟩ g => by
  subst e1 e2
  exact ⟨l, k, z, r1.str_inv, r2.int_inv, h0, h, g _ H G _ (.refl s) (.str _) q⟩
/-! ### slices -/
abbrev DTO := DE → (Option Int → Prop) → EX → Prop
structure PDO (X : Cx) (W : WX) (e : Option Expr) (t : DTO) : Prop where
  of : ∃ to, PO X e to ∧ ∀ (H0 G0 G H : Hp) (σ : L2.St) (env : DE) (Q : Option Int → Prop) (ex : EX) (R : Option Int → Hp → Prop), SR X.K H0 G0 G H σ env → LkE X.K H0 G0 G W σ env ex → t env Q ex → (∀ o H' G', Ext G H G' H' → Q o → R o H') → to σ H R
def dNoPart : DTO := fun _ Q _ => Q none
def dPart (t : DT) : DTO := fun env Q ex => t env (fun d => ∃ i, d = .int i ∧ Q (some i)) ex
theorem pdo_none : PDO X W none dNoPart := ⟨_, po_none, fun H0 G0 G H σ env Q ex R S L q g => g _ H G (.refl S.sub) q⟩
theorem pdo_some {e : Expr} {t : DT} (h : PD X W e t) : PDO X W (some e) (dPart t) := by
  obtain ⟨_, p, l⟩ := h.of
  exact ⟨_, po_some p, fun H0 G0 G H σ env Q ex R S L q g => l H0 G0 G H σ env _ ex _ S L q fun v H1 G1 d x1 r1 ⟨i, e1, q1⟩ => ⟨i, by subst e1; exact r1.int_inv, g _ H1 G1 x1 q1⟩⟩
def dSl (r : D → Option Int → Option Int → (D → Prop) → Prop) (te : DT) (tl th : DTO) : DT := fun env Q ex => te env (fun x => tl env (fun l => th env (fun u => r x l u Q) ex) ex) ex
def dSlN (r : D → Option Int → Option Int → (List D → Prop) → Prop) (te : DT) (tl th : DTO) : DTN := fun env Q ex => te env (fun x => tl env (fun l => th env (fun u => r x l u Q) ex) ex) ex
def cutD (xs : List D) (lo hi : Option Int) : List D := (xs.drop (HT.sIx xs.length 0 lo)).take (HT.sIx xs.length xs.length hi - HT.sIx xs.length 0 lo)
theorem Reps.cutV {G : Hp} {vs : List V} {l : List D} (r : Reps K G vs l) (lo hi : Option Int) : Reps K G (L2.cutV vs lo hi) (cutD l lo hi) := by
  unfold L2.cutV cutD
  rw [r.1]
  exact r.cut _ _
def dCutL : D → Option Int → Option Int → (List D → Prop) → Prop := fun a lo hi Q => ∃ l, a = .lst l ∧ Q (cutD l lo hi)
theorem pdn_slL {e : Expr} {lo hi : Option Expr} {te : DT} {tl th : DTO} {pos p2 : Pos} (h : PD X W e te) (hl : PDO X W lo tl) (hh : PDO X W hi th) : PDN X W (.Subscript e (.Slice lo hi none p2) pos) (dSlN dCutL te tl th) := by
  obtain ⟨_, p, l⟩ := h.of
  obtain ⟨_, pl, ll⟩ := hl.of
  obtain ⟨_, ph, lh⟩ := hh.of
  refine ⟨_, pe_slice sl_list p pl ph, fun H0 G0 G H σ env Q ex R S L q g => l H0 G0 G H σ env _ ex _ S L q fun v H1 G1 d x1 r1 q1 => ?_⟩
  refine ll H0 G0 G1 H1 σ env _ ex _ (S.ex x1) (L.mono x1.gg) q1 fun o H2 G2 x2 q2 => ?_
  have x12 := x1.trans x2
  refine lh H0 G0 G2 H2 σ env _ ex _ (S.ex x12) (L.mono x12.gg) q2 fun u H3 G3 x3 q3 => ?_
  obtain ⟨m, e1, q4⟩ := q3
  subst e1
  obtain ⟨pp, vs, rfl, h1, h2⟩ := (r1.same (x2.gg.trans x3.gg)).lst_inv
  exact ⟨pp, vs, rfl, x3.sub.seq h1, fun p' n => g p' _ _ H3 G3 _ (x12.trans x3) n rfl (h2.cutV o u) q4⟩
def dCutS : D → Option Int → Option Int → (D → Prop) → Prop := fun a lo hi Q => ∃ s, a = .str s ∧ s.length ≤ sizeLine ∧ Q (.str (cutS s lo hi))
theorem pd_slS {e : Expr} {lo hi : Option Expr} {te : DT} {tl th : DTO} {pos p2 : Pos} (h : PD X W e te) (hl : PDO X W lo tl) (hh : PDO X W hi th) : PD X W (.Subscript e (.Slice lo hi none p2) pos) (dSl dCutS te tl th) := by
  obtain ⟨_, p, l⟩ := h.of
  obtain ⟨_, pl, ll⟩ := hl.of
  obtain ⟨_, ph, lh⟩ := hh.of
  refine ⟨_, pe_slice sl_str p pl ph, fun H0 G0 G H σ env Q ex R S L q g => l H0 G0 G H σ env _ ex _ S L q fun v H1 G1 d x1 r1 q1 => ?_⟩
  refine ll H0 G0 G1 H1 σ env _ ex _ (S.ex x1) (L.mono x1.gg) q1 fun o H2 G2 x2 q2 => ?_
  have x12 := x1.trans x2
  refine lh H0 G0 G2 H2 σ env _ ex _ (S.ex x12) (L.mono x12.gg) q2 fun u H3 G3 x3 q3 => ?_
  obtain ⟨m, e1, hz, q4⟩ := q3
  subst e1
  exact ⟨m, r1.str_inv, hz, g _ H3 G3 _ (x12.trans x3) (.str _) q4⟩
/-! ### lists made of lists -/
theorem l_list : LcN K (fun xs H Q => ∃ p ys, xs = [.ref p] ∧ (SqL K H p ys ∨ SqT K H p ys) ∧ ∀ l, H l = none → Q (.ref l) (upd H l (.lst ys))) (fun ds Q => ∃ l, (ds = [.lst l] ∨ ds = [.tup l]) ∧ Q l) := fun G H vs ds Q R s r ⟨l, e, q⟩ g => by
  rcases e with e | e
  · subst e
    obtain ⟨v, rfl, r1⟩ := reps1 r
    obtain ⟨p, ws, rfl, h1, h2⟩ := r1.lst_inv
    exact ⟨p, ws, rfl, .inl (s.seq h1), fun p' n => g p' _ _ H G _ (.refl s) n rfl h2 q⟩
  · subst e
    obtain ⟨v, rfl, r1⟩ := reps1 r
    obtain ⟨p, ws, rfl, h1, h2⟩ := r1.tup_inv
    exact ⟨p, ws, rfl, .inr (sqT_same s h1), fun p' n => g p' _ _ H G _ (.refl s) n rfl h2 q⟩
theorem l_tuple : LcR K (fun xs H Q => ∃ p ys, xs = [.ref p] ∧ ((SqL K H p ys ∧ ∀ l, H l = none → Q (.ref l) (upd H l (.tup ys))) ∨ (SqT K H p ys ∧ Q (.ref p) H))) (fun ds Q => ∃ l, (ds = [.lst l] ∨ ds = [.tup l]) ∧ Q (.tup l)) := fun G H vs ds Q R s r ⟨l, e, q⟩ g => by
  rcases e with e | e
  · subst e
    obtain ⟨v, rfl, r1⟩ := reps1 r
    obtain ⟨p, ws, rfl, h1, h2⟩ := r1.lst_inv
    refine ⟨p, ws, rfl, .inl ⟨s.seq h1, fun p' n => ?_⟩⟩
    have x2 : Ext G H (upd G p' (.tup ws)) (upd H p' (.tup ws)) := Ext.nw s n
    have r2 := h2.same x2.gg
    exact g _ _ _ _ x2 (.tup (SqT.of upd_same) r2.1 r2.2) q
  · subst e
    obtain ⟨v, rfl, r1⟩ := reps1 r
    obtain ⟨p, ws, rfl, h1, h2⟩ := id r1.tup_inv
    exact ⟨p, ws, rfl, .inr ⟨sqT_same s h1, g _ _ _ _ (.refl s) r1 q⟩⟩
/-- a list that stands in H by itself (not the script's) is what + and * want: both sides new lists -/
def dCat (ta tb : DTN) : DTN := fun env Q ex => ta env (fun l => tb env (fun m => l.length + m.length ≤ sizeLine ∧ Q (l ++ m)) ex) ex
theorem pdn_cat {a b : Expr} {ta tb : DTN} {pos : Pos} (ha : PDN X W a ta) (hb : PDN X W b tb) : PDN X W (.BinOp a .Add b pos) (dCat ta tb) := by
  obtain ⟨_, pa, la⟩ := ha.of
  obtain ⟨_, pb, lb⟩ := hb.of
  refine ⟨_, pe_op op_cat pa pb, fun H0 G0 G H σ env Q ex R S L q g => la H0 G0 G H σ env _ ex _ S L q fun p vs H' H1 G1 l x1 n e r1 q1 => ?_⟩
  subst e
  have x1' : Ext G H G1 (upd H1 p (.lst vs)) := x1.trans (Ext.hid x1.sub n)
  refine lb H0 G0 G1 _ σ env _ ex _ (S.ex x1') (L.mono x1'.gg) q1 fun p2 us H'' H2 G2 m x2 n2 e2 r2 ⟨hz, q2⟩ => ?_
  subst e2
  have hp : H2 p = some (.lst vs) := x2.hh _ _ upd_same
  refine ⟨p, p2, vs, us, rfl, rfl, (upd_ne (ne_of_none hp n2)).trans hp, upd_same, by rw [r1.1, r2.1]; exact hz, fun p3 n3 => ?_⟩
  exact g p3 _ _ _ G2 _ ((x1'.trans x2).trans (Ext.hid x2.sub n2)) n3 rfl ((r1.same x2.gg).app r2) q2
/-- a list at a name on the left -/
def dCatV (ta : DT) (tb : DTN) : DTN := fun env Q ex => ta env (fun d => ∃ l, d = .lst l ∧ tb env (fun m => l.length + m.length ≤ sizeLine ∧ Q (l ++ m)) ex) ex
def dRep (ta : DTN) (tb : DT) : DTN := fun env Q ex => ta env (fun l => tb env (fun d => ∃ k, d = .int k ∧ -(2 ^ 63) ≤ k ∧ k < 2 ^ 63 ∧ l.length * k.toNat ≤ sizeLine ∧ Q (List.replicate k.toNat l).flatten) ex) ex
theorem reps_flat {G : Hp} {vs : List V} {l : List D} (r : Reps K G vs l) : ∀ k : Nat, Reps K G (List.replicate k vs).flatten (List.replicate k l).flatten
  | 0 => by simpa using Reps.nil
  | k + 1 => by
    rw [List.replicate_succ, List.replicate_succ, List.flatten_cons, List.flatten_cons]
    exact r.app (reps_flat r k)
/-! ## calls -/
theorem l_len : LcR K (fun xs H Q => ∃ x n, xs = [x] ∧ LenV K x H n ∧ Q (.int n) H) (fun ds Q => (∃ l, ds = [.lst l] ∧ Q (.int l.length)) ∨ (∃ l, ds = [.tup l] ∧ Q (.int l.length)) ∨ ∃ s : Str, ds = [.str s] ∧ s.length ≤ sizeLine ∧ Q (.int s.length)) := fun G H vs ds Q R s r q g => by
  rcases q with ⟨l, e, q⟩ | ⟨l, e, q⟩ | ⟨z, e, hz, q⟩
  · subst e
    obtain ⟨v, rfl, r1⟩ := reps1 r
    obtain ⟨p, ws, rfl, h1, h2⟩ := r1.lst_inv
    exact ⟨_, _, rfl, .inl ⟨ws, s.seq h1, h2.1.symm⟩, g _ _ _ _ (.refl s) (.int _) q⟩
  · subst e
    obtain ⟨v, rfl, r1⟩ := reps1 r
    obtain ⟨p, ws, rfl, h1, h2⟩ := r1.tup_inv
    exact ⟨_, _, rfl, .inr ⟨ws, sqT_same s h1, h2.1.symm⟩, g _ _ _ _ (.refl s) (.int _) q⟩
  · subst e
    obtain ⟨v, rfl, r1⟩ := reps1 r
    rw [r1.str_inv]
    exact ⟨_, _, rfl, ⟨hz, rfl⟩, g _ _ _ _ (.refl s) (.int _) q⟩
theorem l_abs : LcR K (fun xs H Q => ∃ i, xs = [.int i] ∧ Q (.int (if i < 0 then -i else i)) H) (fun ds Q => ∃ i : Int, ds = [.int i] ∧ Q (.int (i.natAbs : Int))) := fun G H vs ds Q R s r ⟨i, e, q⟩ g => by
  subst e
  obtain ⟨v, rfl, r1⟩ := reps1 r
  refine ⟨i, by rw [r1.int_inv], ?_⟩
  rw [show (if i < 0 then -i else i) = (i.natAbs : Int) by split <;> omega]
  exact g _ _ _ _ (.refl s) (.int _) q
theorem l_int : LcR K (fun xs H Q => (∃ i, xs = [.int i] ∧ Q (.int i) H) ∨ ∃ k, xs = [.bl k] ∧ Q (.int (if k then 1 else 0)) H) (fun ds Q => (∃ i, ds = [.int i] ∧ Q (.int i)) ∨ ∃ k, ds = [.bl k] ∧ Q (.int (if k then 1 else 0))) := fun G H vs ds Q R s r q g => by
  rcases q with ⟨i, e, q⟩ | ⟨i, e, q⟩
  · subst e
    obtain ⟨v, rfl, r1⟩ := reps1 r
    exact .inl ⟨i, by rw [r1.int_inv], g _ _ _ _ (.refl s) (.int _) q⟩
  · subst e
    obtain ⟨v, rfl, r1⟩ := reps1 r
    exact .inr ⟨i, by rw [r1.bl_inv], g _ _ _ _ (.refl s) (.int _) q⟩
theorem l_strI : LcR K (fun xs H Q => ∃ i, xs = [.int i] ∧ i.natAbs.log2 < 1920 ∧ Q (.str (toString i)) H) (fun ds Q => ∃ i, ds = [.int i] ∧ i.natAbs.log2 < 1920 ∧ Q (.str (toString i))) := fun G H vs ds Q R s r ⟨i, e, h, q⟩ g => by
  subst e
  obtain ⟨v, rfl, r1⟩ := reps1 r
  exact ⟨i, by rw [r1.int_inv], h, g _ _ _ _ (.refl s) (.str _) q⟩
theorem l_intS : LcR K (fun xs H Q => ∃ a n, xs = [.str a] ∧ PySem.intText? a = some n ∧ a.length ≤ 640 ∧ Q (.int n) H) (fun ds Q => ∃ a n, ds = [.str a] ∧ PySem.intText? a = some n ∧ a.length ≤ 640 ∧ Q (.int n)) := fun G H vs ds Q R s r ⟨a, n, e, h, h2, q⟩ g => by
  subst e
  obtain ⟨v, rfl, r1⟩ := reps1 r
  exact ⟨a, n, by rw [r1.str_inv], h, h2, g _ _ _ _ (.refl s) (.int _) q⟩
theorem l_gcd : LcR K rGcd (fun ds Q => ∃ a b : Int, ds = [.int a, .int b] ∧ Q (.int ((Nat.gcd a.natAbs b.natAbs : Nat) : Int))) := fun G H vs ds Q R s r ⟨a, b, e, q⟩ g => by
  subst e
  obtain ⟨v, w, rfl, r1, r2⟩ := reps2 r
  exact ⟨a, b, by rw [r1.int_inv, r2.int_inv], g _ _ _ _ (.refl s) (.int _) q⟩
theorem l_sum : LcR K (rSum K) (fun ds Q => ∃ ns : List Int, (ds = [.lst (ns.map D.int)]) ∧ Q (.int ns.sum)) := fun G H vs ds Q R s r ⟨ns, e, q⟩ g => by
  subst e
  obtain ⟨v, rfl, r1⟩ := reps1 r
  obtain ⟨p, ws, rfl, h1, h2⟩ := r1.lst_inv
  rw [h2.ints] at h1
  exact ⟨p, ns, rfl, s.seq h1, g _ _ _ _ (.refl s) (.int _) q⟩
theorem l_max2 : LcR K (fun xs H Q => ∃ i j, xs = [.int i, .int j] ∧ Q (.int (if j > i then j else i)) H) (fun ds Q => ∃ i j : Int, ds = [.int i, .int j] ∧ Q (.int (max i j))) := fun G H vs ds Q R s r ⟨i, j, e, q⟩ g => by
  subst e
  obtain ⟨v, w, rfl, r1, r2⟩ := reps2 r
  refine ⟨i, j, by rw [r1.int_inv, r2.int_inv], ?_⟩
  rw [show (if j > i then j else i) = max i j by rw [Int.max_def]; split <;> split <;> omega]
  exact g _ _ _ _ (.refl s) (.int _) q
theorem l_min2 : LcR K (fun xs H Q => ∃ i j, xs = [.int i, .int j] ∧ Q (.int (if j < i then j else i)) H) (fun ds Q => ∃ i j : Int, ds = [.int i, .int j] ∧ Q (.int (min i j))) := fun G H vs ds Q R s r ⟨i, j, e, q⟩ g => by
  subst e
  obtain ⟨v, w, rfl, r1, r2⟩ := reps2 r
  refine ⟨i, j, by rw [r1.int_inv, r2.int_inv], ?_⟩
  rw [show (if j < i then j else i) = min i j by rw [Int.min_def]; split <;> split <;> omega]
  exact g _ _ _ _ (.refl s) (.int _) q
/-! ## methods of texts -/
theorem l_m1S {f : Str → Str → Str} {C : Str → Str → Prop} : LmR K (fun x xs H Q => ∃ a b, x = .str a ∧ xs = [.str b] ∧ C a b ∧ Q (.str (f a b)) H) (fun a ds Q => ∃ s z, a = .str s ∧ ds = [.str z] ∧ C s z ∧ Q (.str (f s z))) := fun G H x vs a ds Q R s r rs ⟨z, y, e1, e2, c, q⟩ g => by
  subst e1 e2
  obtain ⟨v, rfl, r1⟩ := reps1 rs
  exact ⟨z, y, r.str_inv, by rw [r1.str_inv], c, g _ _ _ _ (.refl s) (.str _) q⟩
theorem l_m0B {f : Str → Bool} : LmR K (fun x xs H Q => ∃ a, x = .str a ∧ xs = [] ∧ True ∧ Q (.bl (f a)) H) (fun a ds Q => ∃ s, a = .str s ∧ ds = [] ∧ Q (.bl (f s))) := fun G H x vs a ds Q R s r rs ⟨z, e1, e2, q⟩ g => by
  subst e1 e2
  have : vs = [] := List.length_eq_zero_iff.mp rs.1
  exact ⟨z, r.str_inv, this, trivial, g _ _ _ _ (.refl s) (.bl _) q⟩
theorem l_m1B {f : Str → Str → Bool} : LmR K (fun x xs H Q => ∃ a b, x = .str a ∧ xs = [.str b] ∧ Q (.bl (f a b)) H) (fun a ds Q => ∃ s z, a = .str s ∧ ds = [.str z] ∧ Q (.bl (f s z))) := fun G H x vs a ds Q R s r rs ⟨z, y, e1, e2, q⟩ g => by
  subst e1 e2
  obtain ⟨v, rfl, r1⟩ := reps1 rs
  exact ⟨z, y, r.str_inv, by rw [r1.str_inv], g _ _ _ _ (.refl s) (.bl _) q⟩
theorem l_part : LmR K (fun x xs H Q => ∃ a b, x = .str a ∧ xs = [.str b] ∧ (b.length == 0) = false ∧ a.length ≤ sizeLine ∧ ∀ p, H p = none → Q (.ref p) (upd H p (.tup [.str (Txt.partition a b).1, .str (Txt.partition a b).2.1, .str (Txt.partition a b).2.2])))
    (fun a ds Q => ∃ s z, a = .str s ∧ ds = [.str z] ∧ (z.length == 0) = false ∧ s.length ≤ sizeLine ∧ Q (.tup [.str (Txt.partition s z).1, .str (Txt.partition s z).2.1, .str (Txt.partition s z).2.2])) := fun G H x vs a ds Q R s r rs ⟨z, y, e1, e2, h1, h2, q⟩ g => by
  subst e1 e2
  obtain ⟨v, rfl, r1⟩ := reps1 rs
  refine ⟨z, y, r.str_inv, by rw [r1.str_inv], h1, h2, fun p n => ?_⟩
  have x2 : Ext G H (upd G p (.tup [.str (Txt.partition z y).1, .str (Txt.partition z y).2.1, .str (Txt.partition z y).2.2])) (upd H p (.tup [.str (Txt.partition z y).1, .str (Txt.partition z y).2.1, .str (Txt.partition z y).2.2])) := Ext.nw s n
  have rr : Reps K (upd G p (.tup [.str (Txt.partition z y).1, .str (Txt.partition z y).2.1, .str (Txt.partition z y).2.2])) [.str (Txt.partition z y).1, .str (Txt.partition z y).2.1, .str (Txt.partition z y).2.2] [.str (Txt.partition z y).1, .str (Txt.partition z y).2.1, .str (Txt.partition z y).2.2] :=
    ((Reps.one (.str _)).cons (.str _)).cons (.str _)
  exact g _ _ _ _ x2 (.tup (SqT.of upd_same) rr.1 rr.2) q
theorem reps_strs {G : Hp} (ys : List Str) : Reps K G (ys.map V.str) (ys.map D.str) := by
  refine ⟨by simp, fun i v d h1 h2 => ?_⟩
  rw [List.getElem?_map] at h1 h2
  cases e : ys[i]? with
  | none =>
    rw [e] at h1
    cases h1
  | some n =>
    rw [e] at h1 h2
    cases h1
    cases h2
    exact .str n
theorem Reps.strs {G : Hp} {vs : List V} {ys : List Str} (r : Reps K G vs (ys.map D.str)) : vs = ys.map V.str := by
  refine List.ext_getElem? fun i => ?_
  cases h : vs[i]? with
  | none =>
    have : vs.length ≤ i := List.getElem?_eq_none_iff.mp h
    rw [r.1, List.length_map] at this
    exact (List.getElem?_eq_none_iff.mpr (by rw [List.length_map]; exact this)).symm
  | some v =>
    obtain ⟨d, hd, q⟩ := r.at' h
    rw [List.getElem?_map] at hd
    cases e : ys[i]? with
    | none =>
      rw [e] at hd
      cases hd
    | some n =>
      rw [e] at hd
      cases hd
      cases q
      rw [List.getElem?_map, e]
      rfl
theorem l_split : LmN K (fun x xs H Q => ∃ a b, x = .str a ∧ xs = [.str b] ∧ (b.length == 0) = false ∧ a.length + 2 ≤ sizeLine ∧ rNewStrs (Txt.split a b) H Q) (fun a ds Q => ∃ s z, a = .str s ∧ ds = [.str z] ∧ (z.length == 0) = false ∧ s.length + 2 ≤ sizeLine ∧ Q ((Txt.split s z).map D.str)) :=
  fun G H x vs a ds Q R s r rs ⟨z, y, e1, e2, h1, h2, q⟩ g => by
  subst e1 e2
  obtain ⟨v, rfl, r1⟩ := reps1 rs
  exact ⟨z, y, r.str_inv, by rw [r1.str_inv], h1, h2, fun p n => g p _ _ H G _ (.refl s) n rfl (reps_strs _) q⟩
theorem l_join : LmR K (fun x xs H Q => ∃ a p ys, x = .str a ∧ xs = [.ref p] ∧ (SqL K H p (ys.map V.str) ∨ SqT K H p (ys.map V.str)) ∧ (ys.map (fun x => x.length)).sum + ys.length * a.length ≤ 16777216 ∧ Q (.str (Txt.join a ys)) H)
    (fun a ds Q => ∃ (s : Str) (ys : List Str), a = .str s ∧ ds = [.lst (ys.map D.str)] ∧ (ys.map (fun x => x.length)).sum + ys.length * s.length ≤ 16777216 ∧ Q (.str (Txt.join s ys))) := fun G H x vs a ds Q R s r rs ⟨z, ys, e1, e2, h, q⟩ g => by
  subst e1 e2
  obtain ⟨v, rfl, r1⟩ := reps1 rs
  obtain ⟨p, ws, rfl, h1, h2⟩ := r1.lst_inv
  rw [h2.strs] at h1
  exact ⟨z, p, ys, r.str_inv, rfl, .inl (s.seq h1), h, g _ _ _ _ (.refl s) (.str _) q⟩
/-! ## f-strings -/
inductive PDJ (X : Cx) (W : WX) : List Expr → List DT → Prop where
  | nil : PDJ X W [] []
  | cons {e : Expr} {t : DT} {es : List Expr} {ts : List DT} (h : PD X W e t) (r : PDJ X W es ts) : PDJ X W (e :: es) (t :: ts)
def dJs : List DT → Str → DE → (Str → Prop) → EX → Prop
  | [], acc, _, Q, _ => Q acc
  | t :: ts, acc, env, Q, ex => t env (fun d => ∃ y : Str, d = .str y ∧ (acc ++ y).length ≤ sizeLine ∧ dJs ts (acc ++ y) env Q ex) ex
theorem pdj {es : List Expr} {ts : List DT} (h : PDJ X W es ts) : ∃ ss, PJ X es ss ∧ ∀ (H0 G0 G H : Hp) (σ : L2.St) (env : DE) (Q : Str → Prop) (ex : EX) (R : Str → Hp → Prop) (acc : Str), SR X.K H0 G0 G H σ env → LkE X.K H0 G0 G W σ env ex → dJs ts acc env Q ex → (∀ o H' G', Ext G H G' H' → Q o → R o H') → tJs ss acc σ H R := by
  induction h with
  | nil => exact ⟨[], .nil, fun H0 G0 G H σ env Q ex R acc S L q g => g _ H G (.refl S.sub) q⟩
  | @cons e t es ts h _ ih =>
    obtain ⟨s, p, l⟩ := h.of
    obtain ⟨ss, ps, ls⟩ := ih
    refine ⟨s :: ss, .cons p ps, fun H0 G0 G H σ env Q ex R acc S L q g => l H0 G0 G H σ env _ ex _ S L q fun v H1 G1 d x1 r1 ⟨y, e1, hz, q1⟩ => ?_⟩
    subst e1
    exact ⟨y, r1.str_inv, hz, ls H0 G0 G1 H1 σ env Q ex R _ (S.ex x1) (L.mono x1.gg) q1 fun o H2 G2 x2 q2 => g o H2 G2 (x1.trans x2) q2⟩
def dJoined (ts : List DT) : DT := fun env Q ex => dJs ts Str.empty env (fun o => Q (.str o)) ex
theorem pd_joined {v1 v2 : Expr} {rest : List Expr} {ts : List DT} {pos : Pos} (h : PDJ X W (v1 :: v2 :: rest) ts) : PD X W (.JoinedStr (v1 :: v2 :: rest) pos) (dJoined ts) := by
  obtain ⟨ss, p, l⟩ := pdj h
  exact ⟨_, pe_joined p, fun H0 G0 G H σ env Q ex R S L q g => l H0 G0 G H σ env _ ex _ Str.empty S L q fun o H' G' x q' => g _ H' G' _ x (.str o) q'⟩
def dFmt (t : DT) : DT := fun env Q ex => t env (fun d => (∃ y : Str, d = .str y ∧ y.length ≤ sizeLine ∧ Q (.str y)) ∨ ∃ i : Int, d = .int i ∧ i.natAbs.log2 < 1920 ∧ Q (.str (toString i))) ex
theorem pd_fmt {e : Expr} {t : DT} {pos : Pos} (h : PD X W e t) : PD X W (.FormattedValue e (-1) none pos) (dFmt t) := by
  obtain ⟨_, p, l⟩ := h.of
  refine ⟨_, pe_fmt p, fun H0 G0 G H σ env Q ex R S L q g => l H0 G0 G H σ env _ ex _ S L q fun v H1 G1 d x1 r1 q1 => ?_⟩
  rcases q1 with ⟨y, e1, hz, q1⟩ | ⟨i, e1, hz, q1⟩
  · subst e1
    exact .inl ⟨y, r1.str_inv, hz, g _ H1 G1 _ x1 (.str _) q1⟩
  · subst e1
    exact .inr ⟨i, r1.int_inv, hz, g _ H1 G1 _ x1 (.str _) q1⟩
/-! ## data as a whole -/
mutual
def toP : D → PyData
  | .non => .none | .bl b => .bool b | .int i => .int i | .str s => .str s | .lst l => .list (toPs l) | .tup l => .tuple (toPs l) | .ins _ _ => .none
def toPs : List D → List PyData
  | [] => []
  | d :: r => toP d :: toPs r
end
mutual
def plainD : D → Bool
  | .ins _ _ => false | .lst l => plainDs l | .tup l => plainDs l | _ => true
def plainDs : List D → Bool
  | [] => true
  | d :: r => plainD d && plainDs r
end
theorem dpAll {H : Hp} {l : List D} : ∀ {m : List D} {vs : List V}, vs.length = m.length → plainDs m = true → (∀ (i : Nat) v d, vs[i]? = some v → m[i]? = some d → plainD d = true → Dp K H v (toP d)) → DpAll K H vs (toPs m)
  | [], [], _, _, _ => .nil
  | [], _ :: _, h, _, _ => by simp at h
  | _ :: _, [], h, _, _ => by simp at h
  | d :: m, v :: vs, h, hp, k => by
    rw [plainDs, Bool.and_eq_true] at hp
    rw [toPs]
    exact .cons (k 0 v d rfl rfl hp.1) (dpAll (l := l) (by simpa using h) hp.2 fun i v d h1 h2 => k (i + 1) v d (by simpa using h1) (by simpa using h2))
theorem Rep.dp {G H : Hp} {v : V} {d : D} (r : Rep K G v d) (s : Same G H) (hp : plainD d = true) : Dp K H v (toP d) := by
  induction r with
  | non => rw [toP]; exact .non
  | bl b => rw [toP]; exact .bl b
  | int i => rw [toP]; exact .int i
  | str x => rw [toP]; exact .str x
  | lst h n q ih =>
    rw [toP]
    rw [plainD] at hp
    exact .lst (s.seq h) (dpAll (l := []) n hp fun i v d h1 h2 h3 => ih i v d h1 h2 h3)
  | tup h n q ih =>
    rw [toP]
    rw [plainD] at hp
    exact .tup (sqT_same s h) (dpAll (l := []) n hp fun i v d h1 h2 h3 => ih i v d h1 h2 h3)
  | ins h m n q ih =>
    rw [plainD] at hp
    cases hp
def okD (d : D) : Bool := plainD d && SeqAt.shaped (toP d)
def eqD (a b : D) : Bool := PyData.eqv (toP a) (toP b)
def dEqD : R2D := fun a b Q => okD a = true ∧ okD b = true ∧ Q (.bl (eqD a b))
def dNeD : R2D := fun a b Q => okD a = true ∧ okD b = true ∧ Q (.bl (!eqD a b))
theorem l_eqD : L2R K (rEqD K) dEqD := fun G H x y a b Q R s r1 r2 ⟨h1, h2, q⟩ g => by
  obtain ⟨p1, s1⟩ := Bool.and_eq_true_iff.mp h1
  obtain ⟨p2, s2⟩ := Bool.and_eq_true_iff.mp h2
  exact ⟨_, _, r1.dp s p1, r2.dp s p2, s1, s2, g _ _ _ _ (.refl s) (.bl _) q⟩
theorem l_neD : L2R K (rNeD K) dNeD := fun G H x y a b Q R s r1 r2 ⟨h1, h2, q⟩ g => by
  obtain ⟨p1, s1⟩ := Bool.and_eq_true_iff.mp h1
  obtain ⟨p2, s2⟩ := Bool.and_eq_true_iff.mp h2
  exact ⟨_, _, r1.dp s p1, r2.dp s p2, s1, s2, g _ _ _ _ (.refl s) (.bl _) q⟩
end
end DL

namespace DL
open PySem PySem.Spec PyProof.Rows L2 LR
/-! ## isinstance -/
inductive Cr where
  | int | bool | str | list | tuple | own (c : Nat)
  deriving DecidableEq
def crV (K : PySem.W.Frag) : Cr → Value
  | .int => .type "int" | .bool => .type "bool" | .str => .type "str" | .list => .type "list" | .tuple => .type "tuple" | .own c => .ref (He.ga K (cname c))
def crW (K : PySem.W.Frag) : Cr → V
  | .int => .ty "int" | .bool => .ty "bool" | .str => .ty "str" | .list => .ty "list" | .tuple => .ty "tuple" | .own c => .ref (He.ga K (cname c))
theorem crClsV (K : PySem.W.Frag) (c : Cr) : ClsV (crW K c) (crV K c) := by
  cases c <;> first | exact .ty _ | exact .own _
def isD : D → Cr → Bool
  | .int _, .int => true | .bl _, .int => true | .bl _, .bool => true | .str _, .str => true | .lst _, .list => true | .tup _, .tuple => true | .ins c _, .own c' => c == c' | _, _ => false
def tyD (K : PySem.W.Frag) : D → Value
  | .non => .type "NoneType" | .bl _ => .type "bool" | .int _ => .type "int" | .str _ => .type "str" | .lst _ => .type "list" | .tup _ => .type "tuple" | .ins c _ => .ref (He.ga K (cname c))
def base6 : List String := ["NoneType", "bool", "int", "str", "list", "tuple"]
/-- the own classes cs: what isinstance and == ask of them -/
def isiB (cs : List Nat) (K : PySem.W.Frag) : Bool := cs.all fun c => clAll K (cname c) && (base6.all (fun t => decide (PySem.W.kitOne K (.type t) (.ref (He.ga K (cname c))) = some false) && (decide (PySem.W.kitOne K (.ref (He.ga K (cname c))) (.type t) = some false) && PySem.W.notFirst K (He.ga K (cname c)) (.type t))) &&
  cs.all fun c' => decide (PySem.W.kitOne K (.ref (He.ga K (cname c))) (.ref (He.ga K (cname c'))) = some (c == c')) && PySem.W.notFirst K (He.ga K (cname c)) (.ref (He.ga K (cname c'))))
structure Isi (cs : List Nat) (K : PySem.W.Frag) : Prop where
  cl : ∀ c ∈ cs, clAll K (cname c) = true
  k1 : ∀ c ∈ cs, ∀ t ∈ base6, PySem.W.kitOne K (.type t) (.ref (He.ga K (cname c))) = some false
  k2 : ∀ c ∈ cs, ∀ t ∈ base6, PySem.W.kitOne K (.ref (He.ga K (cname c))) (.type t) = some false
  n1 : ∀ c ∈ cs, ∀ t ∈ base6, PySem.W.notFirst K (He.ga K (cname c)) (.type t) = true
  k3 : ∀ c ∈ cs, ∀ c' ∈ cs, PySem.W.kitOne K (.ref (He.ga K (cname c))) (.ref (He.ga K (cname c'))) = some (c == c')
  n2 : ∀ c ∈ cs, ∀ c' ∈ cs, PySem.W.notFirst K (He.ga K (cname c)) (.ref (He.ga K (cname c'))) = true
theorem Isi.of {cs : List Nat} {K : PySem.W.Frag} (h : isiB cs K = true) : Isi cs K := by
  unfold isiB at h
  simp only [List.all_eq_true, Bool.and_eq_true, decide_eq_true_eq] at h
  exact ⟨fun c hc => (h c hc).1, fun c hc t ht => ((h c hc).2.1 t ht).1, fun c hc t ht => ((h c hc).2.1 t ht).2.1, fun c hc t ht => ((h c hc).2.1 t ht).2.2, fun c hc c' hc' => ((h c hc).2.2 c' hc').1, fun c hc c' hc' => ((h c hc).2.2 c' hc').2⟩
/-- a datum whose type is told -/
def kind (cs : List Nat) : D → Bool
  | .ins c _ => cs.contains c | _ => true
section
variable {K : PySem.W.Frag} {cs : List Nat}
theorem rep_ty {G H : Hp} {v : V} {d : D} (I : Isi cs K) (hc : ∀ c ∈ cs, Cls K (He.ga K (cname c))) (r : Rep K G v d) (s : Same G H) (hk : kind cs d = true) : TyX K H v (tyD K d) := by
  cases r with
  | non => exact .base .non
  | bl b => exact .base (.bl b)
  | int i => exact .base (.int i)
  | str x => exact .base (.str x)
  | lst h n q =>
    rcases s.seq h with (h | ⟨o, h⟩) | ⟨o, its, n', e1, e2, _⟩
    · exact .base (.lst h)
    · exact .base (.frz h)
    · exact .kList e1 e2
  | tup h n q =>
    rcases sqT_same s h with (h | ⟨o, h⟩) | ⟨o, its, n', e1, e2, _⟩
    · exact .base (.tup h)
    · exact .fTuple h
    · exact .kTuple e1 e2
  | @ins a dx c vs l h m n q =>
    have hcs : c ∈ cs := by unfold kind at hk; simpa using hk
    have z := I.cl c hcs
    unfold clAll at z
    simp only [Bool.and_eq_true, decide_eq_true_eq] at z
    obtain ⟨_, _, _, q4, q5, q6, q7⟩ := z
    exact .base (.ins (s _ _ h) (hc c hcs) q4 q5 q6 q7)
theorem kit_cr (I : Isi cs K) {d : D} {cr : Cr} (hk : kind cs d = true) (hcr : ∀ c, cr = .own c → c ∈ cs) : PySem.W.kitOne K (tyD K d) (crV K cr) = some (isD d cr) := by
  cases cr with
  | own c =>
    have hc := hcr c rfl
    cases d with
    | ins c' l =>
      have hcs : c' ∈ cs := by unfold kind at hk; simpa using hk
      exact I.k3 c' hcs c hc
    | non => exact I.k1 c hc "NoneType" (by decide)
    | bl b => exact I.k1 c hc "bool" (by decide)
    | int i => exact I.k1 c hc "int" (by decide)
    | str s => exact I.k1 c hc "str" (by decide)
    | lst l => exact I.k1 c hc "list" (by decide)
    | tup l => exact I.k1 c hc "tuple" (by decide)
  | int =>
    cases d with
    | ins c' l => exact I.k2 c' (by unfold kind at hk; simpa using hk) "int" (by decide)
    | non => exact kit_ty (a := "NoneType") (b := "int") (r := false) (by decide +kernel)
    | bl b => exact kit_ty (a := "bool") (b := "int") (r := true) (by decide +kernel)
    | int i => exact kit_ty (a := "int") (b := "int") (r := true) (by decide +kernel)
    | str s => exact kit_ty (a := "str") (b := "int") (r := false) (by decide +kernel)
    | lst l => exact kit_ty (a := "list") (b := "int") (r := false) (by decide +kernel)
    | tup l => exact kit_ty (a := "tuple") (b := "int") (r := false) (by decide +kernel)
  | bool =>
    cases d with
    | ins c' l => exact I.k2 c' (by unfold kind at hk; simpa using hk) "bool" (by decide)
    | non => exact kit_ty (a := "NoneType") (b := "bool") (r := false) (by decide +kernel)
    | bl b => exact kit_ty (a := "bool") (b := "bool") (r := true) (by decide +kernel)
    | int i => exact kit_ty (a := "int") (b := "bool") (r := false) (by decide +kernel)
    | str s => exact kit_ty (a := "str") (b := "bool") (r := false) (by decide +kernel)
    | lst l => exact kit_ty (a := "list") (b := "bool") (r := false) (by decide +kernel)
    | tup l => exact kit_ty (a := "tuple") (b := "bool") (r := false) (by decide +kernel)
  | str =>
    cases d with
    | ins c' l => exact I.k2 c' (by unfold kind at hk; simpa using hk) "str" (by decide)
    | non => exact kit_ty (a := "NoneType") (b := "str") (r := false) (by decide +kernel)
    | bl b => exact kit_ty (a := "bool") (b := "str") (r := false) (by decide +kernel)
    | int i => exact kit_ty (a := "int") (b := "str") (r := false) (by decide +kernel)
    | str s => exact kit_ty (a := "str") (b := "str") (r := true) (by decide +kernel)
    | lst l => exact kit_ty (a := "list") (b := "str") (r := false) (by decide +kernel)
    | tup l => exact kit_ty (a := "tuple") (b := "str") (r := false) (by decide +kernel)
  | list =>
    cases d with
    | ins c' l => exact I.k2 c' (by unfold kind at hk; simpa using hk) "list" (by decide)
    | non => exact kit_ty (a := "NoneType") (b := "list") (r := false) (by decide +kernel)
    | bl b => exact kit_ty (a := "bool") (b := "list") (r := false) (by decide +kernel)
    | int i => exact kit_ty (a := "int") (b := "list") (r := false) (by decide +kernel)
    | str s => exact kit_ty (a := "str") (b := "list") (r := false) (by decide +kernel)
    | lst l => exact kit_ty (a := "list") (b := "list") (r := true) (by decide +kernel)
    | tup l => exact kit_ty (a := "tuple") (b := "list") (r := false) (by decide +kernel)
  | tuple =>
    cases d with
    | ins c' l => exact I.k2 c' (by unfold kind at hk; simpa using hk) "tuple" (by decide)
    | non => exact kit_ty (a := "NoneType") (b := "tuple") (r := false) (by decide +kernel)
    | bl b => exact kit_ty (a := "bool") (b := "tuple") (r := false) (by decide +kernel)
    | int i => exact kit_ty (a := "int") (b := "tuple") (r := false) (by decide +kernel)
    | str s => exact kit_ty (a := "str") (b := "tuple") (r := false) (by decide +kernel)
    | lst l => exact kit_ty (a := "list") (b := "tuple") (r := false) (by decide +kernel)
    | tup l => exact kit_ty (a := "tuple") (b := "tuple") (r := true) (by decide +kernel)
end
section
variable {X : Cx} {W : WX} {a b c e o : Expr} {es : List Expr} {ta tb : DT} {t : DTA} {pos p apos : Pos} {cs : List Nat}
def dIsi (cs : List Nat) (cr : Cr) (ta : DT) : DT := fun env Q ex => ta env (fun d => kind cs d = true ∧ Q (.bl (isD d cr))) ex
theorem pd_isi {cr : Cr} (I : Isi cs X.K) (hc : ∀ c ∈ cs, Cls X.K (He.ga X.K (cname c))) (hcr : ∀ c, cr = .own c → c ∈ cs) (mk : ∀ {sa : TE}, PE X e sa → PE X c (tCB (rIsi X.K) (tCons sa (tCons (tC (crW X.K cr)) tNil)))) (ha : PD X W e ta) : PD X W c (dIsi cs cr ta) := by
  obtain ⟨_, pa, la⟩ := ha.of
  refine ⟨_, mk pa, fun H0 G0 G H σ env Q ex R S L q g => la H0 G0 G H σ env _ ex _ S L q fun v H1 G1 d x1 r1 ⟨hk, q1⟩ => ?_⟩
  exact ⟨v, _, _, _, _, rfl, crClsV _ cr, rep_ty I hc r1 x1.sub hk, kit_cr I hk hcr, g _ H1 G1 _ x1 (.bl _) q1⟩
/-- isinstance(x, (A, B)) -/
def dIsi2 (cs : List Nat) (c1 c2 : Cr) (ta : DT) : DT := fun env Q ex => ta env (fun d => kind cs d = true ∧ Q (.bl (isD d c1 || isD d c2))) ex
theorem pd_isi2 {c1 c2 : Cr} (I : Isi cs X.K) (hc : ∀ c ∈ cs, Cls X.K (He.ga X.K (cname c))) (hcr : ∀ c, c1 = .own c → c ∈ cs) (hcr2 : ∀ c, c2 = .own c → c ∈ cs)
    (mk : ∀ {sa : TE}, PE X e sa → PE X c (tCB (rIsiT X.K) (tCons sa (tCons (tTup (tCons (tC (crW X.K c1)) (tCons (tC (crW X.K c2)) tNil))) tNil)))) (ha : PD X W e ta) : PD X W c (dIsi2 cs c1 c2 ta) := by
  obtain ⟨_, pa, la⟩ := ha.of
  refine ⟨_, mk pa, fun H0 G0 G H σ env Q ex R S L q g => la H0 G0 G H σ env _ ex _ S L q fun v H1 G1 d x1 r1 ⟨hk, q1⟩ => ⟨by show 2 ≤ sizeLine; decide, fun pp n => ?_⟩⟩
  refine ⟨v, pp, _, _, [crV X.K c1, crV X.K c2], _, rfl, upd_same, .cons (crClsV _ c1) (.cons (crClsV _ c2) .nil), rep_ty I hc r1 (same_new' x1.sub n) hk, ?_, g _ _ G1 _ (x1.trans (Ext.hid x1.sub n)) (.bl _) q1⟩
  refine kitAny_cons (kit_cr I hk hcr) (fun h1 => ?_) (fun h1 => by rw [h1]; rfl)
  refine kitAny_cons (kit_cr I hk hcr2) (fun h2 => ?_) (fun h2 => by rw [h2, Bool.or_true])
  rw [h1, h2]
  rfl
/-! ## own operators -/
variable {k n : Nat} {f : Addr} {Pm : Prm} {x m : Str}
def dBinO (c : Nat) (P : Prm) : R2D := fun a b Q => (∃ l, a = .ins c l) ∧ (∃ l, b = .ins c l) ∧ P [a, b] Q (fun _ _ => False)
theorem l_binO {K : PySem.W.Frag} {c : Nat} {E : XK} (hn : ∀ ds Q ex, Pm ds Q ex → ds.length = 2) : L2R K (rBinO (He.ga K (cname c)) (spD K 2 Pm) E) (dBinO c Pm) := fun G H x y a b Q R s r1 r2 ⟨⟨l, e1⟩, ⟨m, e2⟩, q⟩ g => by
  subst e1 e2
  obtain ⟨p, dx, ws, rfl, hp, _, _⟩ := id r1.ins_inv
  obtain ⟨p', dx', ws', rfl, hp', _, _⟩ := id r2.ins_inv
  exact ⟨p, dx, _, p', dx', _, rfl, rfl, s _ _ hp, s _ _ hp', sp_call0 s hn ((Reps.one r2).cons r1) q g⟩
def dUnO (c : Nat) (P : Prm) : D → (D → Prop) → Prop := fun a Q => (∃ l, a = .ins c l) ∧ P [a] Q (fun _ _ => False)
theorem l_unO {K : PySem.W.Frag} {c : Nat} {E : XK} (hn : ∀ ds Q ex, Pm ds Q ex → ds.length = 1) : L1R K (rUnO (He.ga K (cname c)) (spD K 1 Pm) E) (dUnO c Pm) := fun G H x a Q R s r1 ⟨⟨l, e1⟩, q⟩ g => by
  subst e1
  obtain ⟨p, dx, ws, rfl, hp, _, _⟩ := id r1.ins_inv
  exact ⟨p, dx, _, rfl, s _ _ hp, sp_call0 s hn (Reps.one r1) q g⟩
theorem l_absO {K : PySem.W.Frag} {c : Nat} {E : XK} (hn : ∀ ds Q ex, Pm ds Q ex → ds.length = 1) : LcR K (fun xs H Q => ∃ (a dx : Addr) (fs : List (Str × V)), xs = [.ref a] ∧ H a = some (.ins (He.ga K (cname c)) dx fs) ∧ spD K 1 Pm [.ref a] H Q E) (fun ds Q => ∃ l, ds = [.ins c l] ∧ Pm ds Q (fun _ _ => False)) :=
  fun G H vs ds Q R s r ⟨l, e1, q⟩ g => by
  subst e1
  obtain ⟨v, rfl, r1⟩ := reps1 r
  obtain ⟨p, dx, ws, rfl, hp, _, _⟩ := id r1.ins_inv
  exact ⟨p, dx, _, rfl, s _ _ hp, sp_call0 s hn (Reps.one r1) q g⟩
/-- == by an own __eq__ -/
def dCmpO (cs : List Nat) (c : Nat) (P : Prm) : R2D := fun a b Q => (∃ l, a = .ins c l) ∧ kind cs b = true ∧ P [a, b] Q (fun _ _ => False)
theorem nf_of {K : PySem.W.Frag} (I : Isi cs K) {c : Nat} (hc : c ∈ cs) {d : D} (hk : kind cs d = true) : PySem.W.notFirst K (He.ga K (cname c)) (tyD K d) = true := by
  cases d with
  | ins c' l => exact I.n2 c hc c' (by unfold kind at hk; simpa using hk)
  | non => exact I.n1 c hc "NoneType" (by decide)
  | bl b => exact I.n1 c hc "bool" (by decide)
  | int i => exact I.n1 c hc "int" (by decide)
  | str s => exact I.n1 c hc "str" (by decide)
  | lst l => exact I.n1 c hc "list" (by decide)
  | tup l => exact I.n1 c hc "tuple" (by decide)
theorem l_cmpO {K : PySem.W.Frag} {c : Nat} {E : XK} (I : Isi cs K) (hcl : ∀ c ∈ cs, Cls K (He.ga K (cname c))) (hc : c ∈ cs) (hn : ∀ ds Q ex, Pm ds Q ex → ds.length = 2) : L2R K (rCmpO (He.ga K (cname c)) (spD K 2 Pm) E K) (dCmpO cs c Pm) := fun G H x y a b Q R s r1 r2 ⟨⟨l, e1⟩, hk, q⟩ g => by
  subst e1
  obtain ⟨p, dx, ws, rfl, hp, _, _⟩ := id r1.ins_inv
  exact ⟨p, dx, _, _, rfl, s _ _ hp, rep_ty I hcl r2 s hk, nf_of I hc hk, sp_call0 s hn ((Reps.one r2).cons r1) q g⟩
def dNeO (cs : List Nat) (c : Nat) (P : Prm) : R2D := fun a b Q => (∃ l, a = .ins c l) ∧ kind cs b = true ∧ P [a, b] (fun d => ∃ k, d = .bl k ∧ Q (.bl (!k))) (fun _ _ => False)
theorem l_neO {K : PySem.W.Frag} {c : Nat} {E : XK} (I : Isi cs K) (hcl : ∀ c ∈ cs, Cls K (He.ga K (cname c))) (hc : c ∈ cs) (hn : ∀ ds Q ex, Pm ds Q ex → ds.length = 2) : L2R K (rNeO (He.ga K (cname c)) (spD K 2 Pm) E K) (dNeO cs c Pm) := fun G H x y a b Q R s r1 r2 ⟨⟨l, e1⟩, hk, q⟩ g => by
  subst e1
  obtain ⟨p, dx, ws, rfl, hp, _, _⟩ := id r1.ins_inv
  refine ⟨p, dx, _, _, rfl, s _ _ hp, rep_ty I hcl r2 s hk, nf_of I hc hk, sp_call0 s hn ((Reps.one r2).cons r1) q fun v H' G' d x r ⟨kk, e, q'⟩ => ?_⟩
  subst e
  exact ⟨kk, r.bl_inv, g _ H' G' _ x (.bl _) q'⟩
/-- str(x) by an own __str__ -/
theorem call_strO {C : Addr} {fd : FuncData} {ps : List Str} {sp : Sp} {E : XK} {CX : CXT} (hs : PySem.W.findIn X.K (.ref C) "__str__" = some (some (.ref f))) (hf : PySem.W.isFn X.K (.ref f) = true)
    (F : FnOk X.prog X.w X.K X.mg X.base CX k f fd ps sp) (hr : Room (k + 2) X.A) (hb : Binds X.K fd ps []) (hx : Passes CX X.nox E) : CallR X (.type "str") (fun xs H Q => ∃ (a dx : Addr) (fs : List (Str × V)), xs = [.ref a] ∧ H a = some (.ins C dx fs) ∧ sp [.ref a] H (fun v H' => ∃ s : Str, v = .str s ∧ Q v H') E) := by
  intro pins s σ H xs us Q I r h
  obtain ⟨a, dx, fs, rfl, ha, q⟩ := h
  obtain ⟨u, rfl, ru⟩ := vals1 r
  cases ru
  obtain ⟨mA, J, _⟩ := ins_get I.hok ha
  obtain ⟨od, J, _⟩ := J.look
  have hl : [Value.ref a].length = ps.length := by
    rw [← F.len _ _ _ _ q]
    rfl
  have hu : X.A.in1.in1.units < cLine := hr.in1.in1.units0
  refine PySem.W.kso_call hu I.kIn J hs hf (wpAny_call (codeAny_mono (F.run X.A.in1.in1 X.stack s H ⟨[.ref a], []⟩ [.ref a] [.ref a] _ E hr.in1.in1 I.env0.in1.in1 (by simpa using hb s [.ref a] I.kIn (by simpa using hl)) (.cons rfl .nil) q) fun r s' hq => ?_))
  cases r with
  | error er => exact False.elim (hx pins σ H s er s' (I.wish _) hq)
  | ok fl =>
    cases fl with
    | ret w =>
      obtain ⟨v, H', I', rv, z, rfl, q3⟩ := I.after hq
      obtain ⟨t', rfl⟩ := rv
      exact ⟨.str z, H', I', ⟨t', rfl⟩, q3⟩
    | next => exact False.elim hq
    | brk => exact False.elim hq
    | cont => exact False.elim hq
theorem l_strO {K : PySem.W.Frag} {c : Nat} {E : XK} (hn : ∀ ds Q ex, Pm ds Q ex → ds.length = 1) : LcR K (fun xs H Q => ∃ (a dx : Addr) (fs : List (Str × V)), xs = [.ref a] ∧ H a = some (.ins (He.ga K (cname c)) dx fs) ∧ spD K 1 Pm [.ref a] H (fun v H' => ∃ s : Str, v = .str s ∧ Q v H') E)
    (fun ds Q => ∃ l, ds = [.ins c l] ∧ Pm ds (fun d => ∃ s, d = .str s ∧ Q d) (fun _ _ => False)) := fun G H vs ds Q R s r ⟨l, e1, q⟩ g => by
  subst e1
  obtain ⟨v, rfl, r1⟩ := reps1 r
  obtain ⟨p, dx, ws, rfl, hp, _, _⟩ := id r1.ins_inv
  refine ⟨p, dx, _, rfl, s _ _ hp, sp_call0 s hn (Reps.one r1) q fun v H' G' d x r ⟨z, e, q'⟩ => ?_⟩
  subst e
  exact ⟨z, r.str_inv, g _ H' G' _ x r q'⟩
/-! ## static methods -/
def smP (K : PySem.W.Frag) (x m : Str) : Addr := match PySem.W.findCls K (.ref (He.ga K x)) (.type "type") m with
  | some (.get _ (.ref p) _ _) => p
  | _ => 0
def smF (K : PySem.W.Frag) (x m : Str) : Addr := match PySem.W.recIn K (smP K x m) "staticmethod" with
  | some (.ref f :: _) => f
  | _ => 0
def smB (K : PySem.W.Frag) (x m : Str) : Bool := PySem.W.readsIn K (He.ga K x) (.type "type") && (decide (PySem.W.specialIn K (.ref (He.ga K x)) "__getattribute__" = some (some (.builtin "type.__getattribute__"))) && ((match PySem.W.findCls K (.ref (He.ga K x)) (.type "type") m with
    | some (.get g (.ref p) ob tp) => decide (g = .builtin "staticmethod.__get__") && (decide (p = smP K x m) && (decide (ob = .none) && decide (tp = .ref (He.ga K x))))
    | _ => false) && ((match PySem.W.recIn K (smP K x m) "staticmethod" with
    | some (.ref f :: _) => decide (f = smF K x m)
    | _ => false) && PySem.W.keepIn K (.ref (smF K x m)))))
structure SmOk (K : PySem.W.Frag) (x m : Str) : Prop where
  rd : PySem.W.readsIn K (He.ga K x) (.type "type") = true
  ga : PySem.W.specialIn K (.ref (He.ga K x)) "__getattribute__" = some (some (.builtin "type.__getattribute__"))
  at_ : PySem.W.findCls K (.ref (He.ga K x)) (.type "type") m = some (.get (.builtin "staticmethod.__get__") (.ref (smP K x m)) .none (.ref (He.ga K x)))
  rc : ∃ rest, PySem.W.recIn K (smP K x m) "staticmethod" = some (.ref (smF K x m) :: rest)
  kp : PySem.W.keepIn K (.ref (smF K x m)) = true
theorem SmOk.of {K : PySem.W.Frag} {x m : Str} (h : smB K x m = true) : SmOk K x m := by
  unfold smB at h
  simp only [Bool.and_eq_true, decide_eq_true_eq] at h
  obtain ⟨h1, h2, h3, h4, h5⟩ := h
  refine ⟨h1, h2, ?_, ?_, h5⟩
  · split at h3
    · rename_i g p ob tp e
      simp only [Bool.and_eq_true, decide_eq_true_eq] at h3
      obtain ⟨rfl, rfl, rfl, rfl⟩ := h3
      exact e
    · cases h3
  · split at h4
    · rename_i f rest e
      exact ⟨rest, by rw [e, of_decide_eq_true h4]⟩
    · cases h4
theorem getmethsm_ok {pins : List (Addr × Obj)} {σ : L2.St} {H : Hp} {s : Shared} {A : Around} {E : Value → Shared → Prop} {pl : Sem Bool} {Q : Value × List Value → Shared → Prop} (I : L2.Inv X pins σ H s) (r : SmOk X.K x m)
    (h : ∀ s', L2.Inv X pins σ H s' → Q (.ref (smF X.K x m), []) s') : wpAny (model X.prog X.w) A (getMethod (.ref (He.ga X.K x)) m pl) Q E s := by
  obtain ⟨rest, hp⟩ := r.rc
  refine PySem.W.method_cls I.kIn r.ga (PySem.W.cls_bind I.kIn r.rd r.at_ ?_)
  exact wpAny_call (PySem.W.sm_get (s := { s with toks := s.toks + 1 }) I.kIn hp (PySem.W.handed_on rfl (h _ (I.tok _))))
def tSm (sp : Sp) (E : L2.St → XK) (t : TA) : TE := fun σ H Q => t σ H fun vs H1 => sp vs H1 Q (E σ)
theorem pe_sm {pl : Sem Bool} {fd : FuncData} {ps : List Str} {sp : Sp} {E : L2.St → XK} {CX : CXT} {sa : TA} (hg : Gl X x) (hm : X.mg x = some (.ref (He.ga X.K x))) (r : SmOk X.K x m) (F : FnOk X.prog X.w X.K X.mg X.base CX k (smF X.K x m) fd ps sp) (hr : Room k X.A) (hb : Binds X.K fd ps []) (hx : ∀ σ, PassesAt CX X σ (E σ)) (ha : PA X (e :: es) sa)
    (hdb : (x == ("__debug__" : Str)) = false := by decide)
    (hst : starEach (e :: es) X.env = (false, eval e X.env) :: starEach es X.env := by rfl) (hpl : (backTo pos (starEach es X.env)).any (·.1) = false := by rfl)
    (ht : eval (.Call (.Attribute (.Name x p) m apos) (e :: es) [] pos) X.env = (do
      let ov ← eval (.Name x p) X.env
      standAt apos.atName
      let (f, first) ← holding [ov] (getMethod ov m pl)
      callWith pos f first (backTo pos (starEach (e :: es) X.env)) (backToKw pos (keywordEach [] X.env))) := by rfl) :
    PE X (.Call (.Attribute (.Name x p) m apos) (e :: es) [] pos) (tSm sp E sa) := by
  refine ⟨fun pins s σ H Q I h => ?_⟩
  refine PySem.W.methodCall_KW (pl := pl) (ld_glob I hg hm ?_ hdb) ht
  refine getmethsm_ok I r fun s1 I1 => ?_
  refine PySem.W.callWith_K (first := []) (h₀ := X.base) I1.ok.mod.kin r.kp (thn (ha.run pos pins s1 σ H _ I1 h) fun us s2 ⟨vs, H2, I2, rv, q2⟩ => ⟨I2.kIn, ?_⟩) hst hpl
  exact run_fnS (us := us) (vs := vs) F hr hb (hx σ) I2 rv q2
theorem pd_sm {pl : Sem Bool} (hg : Gl X x) (hm : X.mg x = some (.ref (He.ga X.K x))) (r : SmOk X.K x m) (F : Fn X.prog X.w X.K X.mg X.base (smF X.K x m) k n Pm) (hr : Room k X.A) (tk : Takes X W) (ha : PDA X W (e :: es) t)
    (hdb : (x == ("__debug__" : Str)) = false := by decide)
    (hst : starEach (e :: es) X.env = (false, eval e X.env) :: starEach es X.env := by rfl) (hpl : (backTo pos (starEach es X.env)).any (·.1) = false := by rfl)
    (ht : eval (.Call (.Attribute (.Name x p) m apos) (e :: es) [] pos) X.env = (do
      let ov ← eval (.Name x p) X.env
      standAt apos.atName
      let (f, first) ← holding [ov] (getMethod ov m pl)
      callWith pos f first (backTo pos (starEach (e :: es) X.env)) (backToKw pos (keywordEach [] X.env))) := by rfl) :
    PD X W (.Call (.Attribute (.Name x p) m apos) (e :: es) [] pos) (dCall Pm t) := by
  obtain ⟨_, pa, la⟩ := ha.of
  refine ⟨_, pe_sm hg hm r F.ok hr F.bd (fun σ => passAt tk σ) pa hdb hst hpl ht, fun H0 G0 G H σ env Q ex R S L q g => la H0 G0 G H σ env _ ex _ S L q fun vs H1 G1 ds x1 r1 q1 => ?_⟩
  exact sp_call (S.ex x1) (L.mono x1.gg) F.len r1 q1 fun v H2 G2 d x2 r2 q2 => g v H2 G2 d (x1.trans x2) r2 q2
theorem foldl_sz (a : Array Nat) : ∀ (n : Nat) (acc : Array Nat), ((List.replicate n a).foldl (· ++ ·) acc).size = acc.size + n * a.size
  | 0, acc => by simp
  | n + 1, acc => by
    rw [List.replicate_succ, List.foldl_cons, foldl_sz a n, Array.size_append, Nat.add_mul]
    omega
theorem szrep (z : Str) (i : Int) (hs : z.length * i.toNat ≤ 16777216) (h0 : sizeLine = 16777216) : (⟨(List.replicate i.toNat z.cps).foldl (· ++ ·) #[]⟩ : Str).length ≤ sizeLine := by
  show ((List.replicate i.toNat z.cps).foldl (· ++ ·) #[]).size ≤ sizeLine
  rw [foldl_sz]
  have : z.cps.size * i.toNat ≤ 16777216 := hs
  rw [Nat.mul_comm] at this
  simp
  omega
/-- text * int -/
theorem op_mulS : OpR X (binaryOp .Mult) (fun x y H Q => ∃ z i, x = .str z ∧ y = .int i ∧ z.length ≤ 100000 ∧ -(2 ^ 63) ≤ i ∧ i ≤ 100000 ∧ z.length * i.toNat ≤ 16777216 ∧ Q (.str (if i < 1 then Str.empty else ⟨(List.replicate i.toNat z.cps).foldl (· ++ ·) #[]⟩)) H) := by
  intro pins s σ H x y v u Q I rx ry h
  obtain ⟨z, i, rfl, rfl, hz, h0, h1, hs, q⟩ := h
  obtain ⟨t, rfl⟩ := rx
  obtain ⟨t', rfl⟩ := ry
  have hs' : sizeLine = 16777216 := sizeLine_eq
  refine PySem.P.mul_str ?_ (fun h2 h3 => ?_) (fun h2 h3 => ?_) ?_
  · rw [decide_eq_false (by omega), decide_eq_false (by omega)]
    rfl
  · have h4 : (100000 : Int) ≤ (2 ^ 63 - 1) / i := by
      rw [Int.le_ediv_iff_mul_le (by omega)]
      omega
    omega
  · unfold PySem.Builtin.Str.tooLong
    rw [decide_eq_false (by omega)]
  · split
    · exact ⟨by decide, .str _, H, I.tok _, ⟨_, rfl⟩, by rw [if_pos (by assumption)] at q; exact q⟩
    · rw [if_neg (by assumption)] at q
      split
      · rename_i h5
        have ez : (⟨(List.replicate i.toNat z.cps).foldl (· ++ ·) #[]⟩ : Str) = z := by
          rcases Bool.or_eq_true_iff.mp h5 with h6 | h6
          · have h7 : i = 1 := beq_iff_eq.mp h6
            subst h7
            show (⟨(List.replicate 1 z.cps).foldl (· ++ ·) #[]⟩ : Str) = z
            simp [List.replicate]
          · have h7 : z.cps = #[] := Array.size_eq_zero_iff.mp (beq_iff_eq.mp h6)
            have h8 : (List.replicate i.toNat z.cps).foldl (· ++ ·) #[] = #[] := Array.size_eq_zero_iff.mp (by rw [foldl_sz, h7]; rfl)
            rw [h8, ← h7]
        rw [ez] at q
        exact ⟨.str _, H, I, ⟨_, rfl⟩, q⟩
      · exact ⟨szrep z i hs (by omega), .str _, H, I.tok _, ⟨_, rfl⟩, q⟩
def dMulS : R2D := fun a b Q => ∃ z i, a = .str z ∧ b = .int i ∧ z.length ≤ 100000 ∧ -(2 ^ 63) ≤ i ∧ i ≤ 100000 ∧ z.length * i.toNat ≤ 16777216 ∧ Q (.str (if i < 1 then Str.empty else ⟨(List.replicate i.toNat z.cps).foldl (· ++ ·) #[]⟩))
theorem l_mulS {K : PySem.W.Frag} : L2R K (fun x y H Q => ∃ z i, x = .str z ∧ y = .int i ∧ z.length ≤ 100000 ∧ -(2 ^ 63) ≤ i ∧ i ≤ 100000 ∧ z.length * i.toNat ≤ 16777216 ∧ Q (.str (if i < 1 then Str.empty else ⟨(List.replicate i.toNat z.cps).foldl (· ++ ·) #[]⟩)) H) dMulS :=
  fun G H x y a b Q R s r1 r2 ⟨z, i, e1, e2, h1, h2, h3, h4, q⟩ g => by
  subst e1 e2
  exact ⟨z, i, r1.str_inv, r2.int_inv, h1, h2, h3, h4, g _ H G _ (.refl s) (.str _) q⟩
end
/-! ## more facts of the text -/
def ciB (K : PySem.W.Frag) (x : Str) (n : Int) : Bool := match PySem.W.nsIn K mainGlobals x with
  | some (some (.int m _)) => m == n
  | _ => false
def moB (cs : List Nat) (sms : List (Str × Str)) (cis : List (Str × Int)) (K : PySem.W.Frag) : Bool := isiB cs K && (sms.all (fun p => smB K p.1 p.2) && cis.all fun p => ciB K p.1 p.2)
structure Mo (cs : List Nat) (sms : List (Str × Str)) (cis : List (Str × Int)) (K : PySem.W.Frag) (mg : Str → Option Value) : Prop where
  isi : Isi cs K
  cls : ∀ c ∈ cs, Cls K (He.ga K (cname c))
  smA : ∀ p ∈ sms, SmOk K p.1 p.2
  ciA : ∀ p ∈ cis, ∃ t, mg p.1 = some (.int p.2 t)
theorem Mo.of {cs : List Nat} {sms : List (Str × Str)} {cis : List (Str × Int)} {K : PySem.W.Frag} {mg : Str → Option Value} {h : Heap} (X : K.In h) (G : h.Ns mainGlobals mg) (hc : ∀ c ∈ cs, Cls K (He.ga K (cname c))) (m : moB cs sms cis K = true) : Mo cs sms cis K mg := by
  obtain ⟨m1, m2⟩ := Bool.and_eq_true_iff.mp m
  obtain ⟨m2, m3⟩ := Bool.and_eq_true_iff.mp m2
  refine ⟨Isi.of m1, hc, fun p hp => SmOk.of (List.all_eq_true.mp m2 p hp), fun p hp => ?_⟩
  have z := List.all_eq_true.mp m3 p hp
  unfold ciB at z
  split at z
  · rename_i n t e
    rw [← beq_iff_eq.mp z]
    exact ⟨t, PySem.W.mg_of X G e⟩
  · cases z
section
variable {cs : List Nat} {sms : List (Str × Str)} {cis : List (Str × Int)} {K : PySem.W.Frag} {mg : Str → Option Value} (M : Mo cs sms cis K mg)
include M
theorem Mo.sm (x m : Str) (h : (x, m) ∈ sms := by decide +kernel) : SmOk K x m := M.smA (x, m) h
theorem Mo.c (x : Str) (n : Int) (h : (x, n) ∈ cis := by decide +kernel) : ∃ t, mg x = some (.int n t) := M.ciA (x, n) h
end
end DL

namespace DL
open PySem PySem.Spec PyProof.Rows L2 LR
/-- the law's own promise -/
def spLaw (K : PySem.W.Frag) : Sp := fun vs H Q _ => ∃ (a : Addr) (ns : List Int), vs = [.ref a] ∧ SqL K H a (ns.map V.int) ∧ ns.length ≤ 63 ∧ ∀ H', Q (.bl true) H'
theorem law_of {P : Program} {w : World} {K : PySem.W.Frag} {mg : Str → Option Value} {x qual : Str} {params : Arguments} {body : List Stmt} {scope : Scope} {f : Addr} {N ps : List Str} {k : Nat}
    (h : ∃ fd, FunD K x qual params body scope [] [] f fd) (S : FnScope N ps scope) (hps : ps = ([("script" : Str)] : List Str))
    (hb : ∀ (kV doc pm : Value) (an : Option Addr) (cdv ct : Value) (us : List Value), us.length = ps.length → bindArgs (PySem.W.fnOf x qual params body scope .none kV doc pm an cdv ct) ⟨us, []⟩ = pure (ps.zip us))
    (hbody : ∀ (base : Heap) (fd : FuncData) (cdv : Value) (A : Around) (outer : List Env) (s : Shared) (H : Hp) (E : XK), Room k (A.deeper (envOfC qual scope s.heap.objs.size f cdv)) →
      ∃ t, PDSs (cxOf CX0 P w K mg base N qual scope f cdv A outer s H E) WN body t ∧ ∀ ns : List Int, ns.length ≤ 63 → t { nx := fun _ => False, rt := fun d => d = .bl true } (start N.length [.lst (ns.map .int)])) :
    ∃ fd : FuncData, (∀ (s : Shared) (v : Value), BindsTo s fd ⟨[v], []⟩ [("script", v)]) ∧ ∀ base : Heap, FnOk P w K mg base CX0 (k + 1) f fd ["script"] (spLaw K) := by
  obtain ⟨fd, F⟩ := h
  subst hps
  refine ⟨fd, fun s v => FunD.bindsA (ps := ["script"]) F (fun kV doc pm an cdv ct us hl => hb kV doc pm an cdv ct us hl) s [v] rfl, fun base => ?_⟩
  refine F.ok S (fun vs H Q E h => ?_) (fun cdv A outer s H vs Q E hr h => ?_)
  · obtain ⟨a, ns, rfl, _⟩ := h
    rfl
  · obtain ⟨a, ns, rfl, hS, hl, q⟩ := h
    obtain ⟨t, pd, ht⟩ := hbody base fd cdv A outer s H E hr
    obtain ⟨ts, pts, l⟩ := pd.of
    have rr : Reps K H [.ref a] [.lst (ns.map .int)] := .one (.lst hS (by simp) (Reps.of_ints ns).2)
    refine ⟨ts, pts, l H H H H _ _ _ { nx := fun _ => False, rt := fun d => d = .bl true } (sr_start (.refl _) rr) ⟨fun σ' H' G' env' _ S' q' => q'.elim, fun σ' H' G' env' _ S' q' => q'.elim, fun σ' H' G' env' _ S' q' => q'.elim, fun v H' G' d _ x r q' => ?_, fun σ' H' G' env' d x fv fs _ S' e r q' => q'.elim⟩ (ht ns hl)⟩
    subst q'
    rw [r.bl_inv]
    exact q _
/-- n.bit_length() -/
def dBits (ta : DT) : DT := fun env Q ex => ta env (fun d => ∃ i : Int, d = .int i ∧ Q (.int ((Builtin.Int.intBits i : Nat) : Int))) ex
theorem pd_bits {X : Cx} {W : WX} {o : Expr} {ta : DT} {apos pos : Pos} (h : PD X W o ta) (hbase : attributeBase o "bit_length" X.env (eval o X.env) = eval o X.env := by rfl) (hline : (apos.endLine == pos.line) = true := by rfl) : PD X W (.Call (.Attribute o "bit_length" apos) [] [] pos) (dBits ta) := by
  obtain ⟨_, p, l⟩ := h.of
  refine ⟨_, pe_bits p hbase hline, fun H0 G0 G H σ env Q ex R S L q g => l H0 G0 G H σ env _ ex _ S L q fun v H1 G1 d x1 r1 ⟨i, e1, q1⟩ => ?_⟩
  subst e1
  exact ⟨i, r1.int_inv, g _ H1 G1 _ x1 (.int _) q1⟩
/-! ## helpers for readings -/
theorem len0 {α : Type} {ws : List α} (h : ws.length = 0) : ws = [] := List.length_eq_zero_iff.mp h
theorem len1 {α : Type} {ws : List α} (h : ws.length = 1) : ∃ a, ws = [a] := List.length_eq_one_iff.mp h
theorem len2 {α : Type} {ws : List α} (h : ws.length = 2) : ∃ a b, ws = [a, b] := match ws, h with | [a, b], _ => ⟨a, b, rfl⟩
theorem len3 {α : Type} {ws : List α} (h : ws.length = 3) : ∃ a b c, ws = [a, b, c] := match ws, h with | [a, b, c], _ => ⟨a, b, c, rfl⟩

theorem d_ite {c : Bool} {p q : Prop} (h1 : c = true → p) (h2 : c = false → q) : if c = true then p else q := by
  cases c with
  | true => exact h1 rfl
  | false => exact h2 rfl
theorem at_map {α : Type} {f : α → D} {l : List α} {k : Int} {x : α} (h0 : 0 ≤ k) (h : l[k.toNat]? = some x) : atI (l.map f) k = some (f x) := by
  have e := atI_nat (xs := l.map f) (j := k.toNat) (v := f x) (by rw [List.getElem?_map, h]; rfl)
  rwa [Int.toNat_of_nonneg h0] at e
theorem at_ex {l : List Int} {k : Int} (h0 : 0 ≤ k) (h1 : k < (l.length : Int)) : ∃ z, z ∈ l ∧ l[k.toNat]? = some z ∧ atI (l.map D.int) k = some (.int z) := by
  have hk : k.toNat < l.length := by omega
  exact ⟨l[k.toNat], List.getElem_mem hk, List.getElem?_eq_getElem hk, at_map h0 (List.getElem?_eq_getElem hk)⟩
theorem map_at {α : Type} {f : α → D} {l : List α} {i : Nat} {d : D} (h : (l.map f)[i]? = some d) : ∃ x, l[i]? = some x ∧ d = f x := by
  rw [List.getElem?_map] at h
  cases e : l[i]? with
  | none =>
    rw [e] at h
    cases h
  | some x =>
    rw [e] at h
    exact ⟨x, rfl, (Option.some.inj h).symm⟩
theorem rng_at {lo : Int} {n i : Nat} {d : D} (h : (rngD lo n)[i]? = some d) : i < n ∧ d = .int (lo + i) := by
  unfold rngD at h
  obtain ⟨x, e, rfl⟩ := map_at h
  obtain ⟨hx, hi⟩ := List.getElem?_eq_some_iff.mp e
  have hi' : i < n := by simpa using hx
  rw [List.getElem_range] at hi
  exact ⟨hi', by rw [hi]⟩
theorem rng_len {lo : Int} {n : Nat} : (rngD lo n).length = n := by simp [rngD]
/-- a comprehension without an if: what holds of the i-th -/
theorem lc_all {α : Type} {n : Nat} {zs : List (Option α)} {R : Nat → α → Prop} (hl : zs.length = n) (h : ∀ (i : Nat) z, zs[i]? = some z → ∃ d, z = some d ∧ R i d) : ∃ l : List α, zs.filterMap id = l ∧ l.length = n ∧ ∀ (i : Nat) d, l[i]? = some d → R i d := by
  have key : ∀ (zs : List (Option α)) (o : Nat), (∀ (i : Nat) z, zs[i]? = some z → ∃ d, z = some d ∧ R (o + i) d) → (zs.filterMap id).length = zs.length ∧ ∀ (i : Nat) d, (zs.filterMap id)[i]? = some d → R (o + i) d := by
    intro zs
    induction zs with
    | nil => exact fun o _ => ⟨rfl, fun i d h => by simp at h⟩
    | cons a r ih =>
      intro o h
      obtain ⟨d, rfl, hd⟩ := h 0 a rfl
      obtain ⟨h1, h2⟩ := ih (o + 1) fun i z hz => by
        have := h (i + 1) z (by simpa using hz)
        rwa [show o + (i + 1) = o + 1 + i by omega] at this
      refine ⟨by simp [h1], fun i e he => ?_⟩
      cases i with
      | zero =>
        simp at he
        subst he
        exact hd
      | succ i =>
        have := h2 i e (by simpa using he)
        rwa [show o + 1 + i = o + (i + 1) by omega] at this
  obtain ⟨h1, h2⟩ := key zs 0 fun i z hz => by simpa using h i z hz
  exact ⟨_, rfl, h1.trans hl, fun i d hd => by simpa using h2 i d hd⟩
/-- .. of the kind f, with P -/
theorem lc_map {α : Type} (f : α → D) {P : Nat → α → Prop} {n : Nat} {zs : List (Option D)} (hl : zs.length = n) (h : ∀ (i : Nat) z, zs[i]? = some z → ∃ v, z = some (f v) ∧ P i v) : ∃ ms : List α, zs.filterMap id = ms.map f ∧ ms.length = n ∧ ∀ (i : Nat) m, ms[i]? = some m → P i m := by
  have key : ∀ (zs : List (Option D)) (o : Nat), (∀ (i : Nat) z, zs[i]? = some z → ∃ v, z = some (f v) ∧ P (o + i) v) → ∃ ms : List α, zs.filterMap id = ms.map f ∧ ms.length = zs.length ∧ ∀ (i : Nat) m, ms[i]? = some m → P (o + i) m := by
    intro zs
    induction zs with
    | nil => exact fun o _ => ⟨[], rfl, rfl, fun i m h => by simp at h⟩
    | cons a r ih =>
      intro o h
      obtain ⟨v, rfl, hv⟩ := h 0 a rfl
      obtain ⟨ms, h1, h2, h3⟩ := ih (o + 1) fun i z hz => by
        have := h (i + 1) z (by simpa using hz)
        rwa [show o + (i + 1) = o + 1 + i by omega] at this
      refine ⟨v :: ms, by simp [h1], by simp [h2], fun i m hm => ?_⟩
      cases i with
      | zero =>
        simp at hm
        subst hm
        exact hv
      | succ i =>
        have := h3 i m (by simpa using hm)
        rwa [show o + 1 + i = o + (i + 1) by omega] at this
  obtain ⟨ms, h1, h2, h3⟩ := key zs 0 fun i z hz => by simpa using h i z hz
  exact ⟨ms, h1, h2.trans hl, fun i m hm => by simpa using h3 i m hm⟩
theorem pick {l : List D} {k : Int} {n : Nat} (hn : l.length = n) (h0 : 0 ≤ k) (h1 : k < n) : ∃ x, atI l k = some x ∧ x ∈ l := by
  obtain ⟨x, _, hm, e⟩ := at_ix (xs := l) h0 (by omega)
  exact ⟨x, e, hm⟩
theorem filt_some {α β : Type} (f : α → β) (l : List α) : (l.map fun x => some (f x)).filterMap id = l.map f := by
  induction l with
  | nil => rfl
  | cons a r ih => simp [ih]
theorem cut_map {α : Type} (f : α → D) (l : List α) (lo hi : Option Int) : ∃ m : List α, cutD (l.map f) lo hi = m.map f ∧ m.length ≤ l.length ∧ ∀ z ∈ m, z ∈ l := by
  unfold cutD
  refine ⟨(l.drop (HT.sIx (l.map f).length 0 lo)).take (HT.sIx (l.map f).length (l.map f).length hi - HT.sIx (l.map f).length 0 lo), ?_, ?_, fun z hz => List.mem_of_mem_drop (List.mem_of_mem_take hz)⟩
  · rw [List.map_take, List.map_drop]
  · rw [List.length_take, List.length_drop]
    omega
end DL

namespace DL
open PySem PySem.Spec PyProof.Rows L2 LR
section
variable {X : Cx} {W : WX} {a b c e : Expr} {ta tb : DT} {pos : Pos}
/-- list + list, whatever the lists are -/
def rCatL (K : PySem.W.Frag) : R2 := fun x y H Q => ∃ l b xs zs, x = .ref l ∧ y = .ref b ∧ SqL K H l xs ∧ SqL K H b zs ∧ xs.length + zs.length ≤ sizeLine ∧ ∀ p, H p = none → Q (.ref p) (upd H p (.lst (xs ++ zs)))
theorem op_catL : OpR X (binaryOp .Add) (rCatL X.K) := by
  intro pins s σ H x y v u Q I rx ry h
  obtain ⟨l, b, xs, zs, rfl, rfl, hH, hB, hz, q⟩ := h
  cases rx
  cases ry
  obtain ⟨its, r, p1, _⟩ := I.list hH
  obtain ⟨its2, r2, p2, _⟩ := I.list hB
  obtain ⟨⟨cls, dd, data, sl⟩, n, ho, hc, hdd, hd⟩ := _root_.id p1
  obtain ⟨⟨cls2, dd2, data2, sl2⟩, n2, ho2, hc2, hdd2, hd2⟩ := _root_.id p2
  simp only at hc hd hdd hc2 hd2 hdd2
  subst hc hd hdd hc2 hd2 hdd2
  have e : its.toArray ++ its2.toArray = (its ++ its2).toArray := by simp
  have hz' : its.length + its2.length ≤ sizeLine := by rw [← r.length, ← r2.length]; exact hz
  refine concat_meets ⟨_, ho, rfl⟩ ⟨_, ho2, rfl⟩ noFill_list_add seq_list_add PySem.F.slot_list_add PySem.F.entry_list_add (PySem.F.args_list_add_2 _ _) (list_addW l b its.toArray its2.toArray n n2 none none sl sl2 (by simpa using hz')) ⟨ho, ho2, ?_⟩
  rw [e]
  exact ⟨.ref _, _, I.lnew (t' := s.toks) (r.append r2) (by rw [List.length_append]; omega), rfl, q _ I.fresh⟩
def dCatA (ta tb : DT) : DTN := fun env Q ex => ta env (fun x => ∃ l, x = .lst l ∧ tb env (fun y => ∃ m, y = .lst m ∧ l.length + m.length ≤ sizeLine ∧ Q (l ++ m)) ex) ex
theorem pdn_catA (ha : PD X W a ta) (hb : PD X W b tb) : PDN X W (.BinOp a .Add b pos) (dCatA ta tb) := by
  obtain ⟨_, pa, la⟩ := ha.of
  obtain ⟨_, pb, lb⟩ := hb.of
  refine ⟨_, pe_op op_catL pa pb, fun H0 G0 G H σ env Q ex R S L q g => la H0 G0 G H σ env _ ex _ S L q fun v H1 G1 d x1 r1 ⟨l, e1, q1⟩ => ?_⟩
  subst e1
  refine lb H0 G0 G1 H1 σ env _ ex _ (S.ex x1) (L.mono x1.gg) q1 fun u H2 G2 d2 x2 r2 ⟨m, e2, hz, q2⟩ => ?_
  subst e2
  obtain ⟨p, vs, rfl, h1, h2⟩ := (r1.same x2.gg).lst_inv
  obtain ⟨p2, us, rfl, h3, h4⟩ := r2.lst_inv
  exact ⟨p, p2, vs, us, rfl, rfl, x2.sub.seq h1, x2.sub.seq h3, by rw [h2.1, h4.1]; exact hz, fun p3 n3 => g p3 _ _ H2 G2 _ (x1.trans x2) n3 rfl (h2.app h4) q2⟩
theorem pdn_rep {tn : DTN} (ha : PDN X W a tn) (hb : PD X W b tb) : PDN X W (.BinOp a .Mult b pos) (dRep tn tb) := by
  obtain ⟨_, pa, la⟩ := ha.of
  obtain ⟨_, pb, lb⟩ := hb.of
  refine ⟨_, pe_op op_rep pa pb, fun H0 G0 G H σ env Q ex R S L q g => la H0 G0 G H σ env _ ex _ S L q fun p vs H' H1 G1 l x1 n e r1 q1 => ?_⟩
  subst e
  have x1' : Ext G H G1 (upd H1 p (.lst vs)) := x1.trans (Ext.hid x1.sub n)
  refine lb H0 G0 G1 _ σ env _ ex _ (S.ex x1') (L.mono x1'.gg) q1 fun u H2 G2 d2 x2 r2 ⟨k, e2, h1, h2, hz, q2⟩ => ?_
  subst e2
  exact ⟨p, k, vs, rfl, r2.int_inv, x2.hh _ _ upd_same, h1, h2, by rw [r1.1]; exact hz, fun p3 n3 => g p3 _ _ H2 G2 _ (x1'.trans x2) n3 rfl (reps_flat (r1.same x2.gg) _) q2⟩
end
/-! data that == may ask -/
def OkS (x : Str) : Prop := ∀ c ∈ x.cps.toList, c < 1114112
theorem OkS.ok {x : Str} (h : OkS x) : PyData.strOk x = true := by
  unfold PyData.strOk
  rw [← Array.all_toList, List.all_eq_true]
  exact fun c hc => decide_eq_true (h c hc)
theorem OkS.of {x : Str} (h : x.cps.toList.all (fun c => decide (c < 1114112)) = true) : OkS x := fun c hc => of_decide_eq_true (List.all_eq_true.mp h c hc)
theorem OkS.app {x y : Str} (h : OkS x) (g : OkS y) : OkS (x ++ y) := fun c hc => by
  rw [Str.cps_append, Array.toList_append] at hc
  rcases List.mem_append.mp hc with h1 | h1
  · exact h c h1
  · exact g c h1
theorem OkS.sub {x y : Str} (h : OkS x) (g : ∀ c ∈ y.cps.toList, c ∈ x.cps.toList) : OkS y := fun c hc => h c (g c hc)
theorem OkS.cut {x : Str} (h : OkS x) (lo hi : Option Int) : OkS (cutS x lo hi) := h.sub fun c hc => by
  unfold cutS at hc
  exact List.mem_of_mem_drop (List.mem_of_mem_take (by simpa using hc))
theorem OkS.rep {x : Str} (h : OkS x) (i : Int) : OkS (if i < 1 then Str.empty else (⟨(List.replicate i.toNat x.cps).foldl (· ++ ·) #[]⟩ : Str)) := by
  split
  · intro c hc
    cases hc
  · have key : ∀ (n : Nat) (acc : Array Nat) (c : Nat), c ∈ ((List.replicate n x.cps).foldl (· ++ ·) acc).toList → c ∈ acc.toList ∨ c ∈ x.cps.toList := by
      intro n
      induction n with
      | zero => exact fun acc c hc => .inl hc
      | succ n ih =>
        intro acc c hc
        rw [List.replicate_succ, List.foldl_cons] at hc
        rcases ih _ c hc with h1 | h1
        · rw [Array.toList_append] at h1
          exact List.mem_append.mp h1
        · exact .inr h1
    intro c hc
    rcases key _ _ c hc with h1 | h1
    · cases h1
    · exact h c h1
theorem OkS.one {c : Nat} (h : c < 1114112) : OkS ⟨#[c]⟩ := fun d hd => by
  have e : d = c := List.mem_singleton.mp hd
  rw [e]
  exact h
theorem OkS.join0 : ∀ ys : List Str, (∀ y ∈ ys, OkS y) → OkS (Str.join ("" : Str) ys)
  | [], _ => fun c hc => by cases hc
  | [y], h => h y List.mem_cons_self
  | y :: z :: r, h => by
    show OkS (y ++ ("" : Str) ++ Str.join ("" : Str) (z :: r))
    exact ((h y List.mem_cons_self).app (OkS.of (by decide +kernel))).app (OkS.join0 (z :: r) fun w hw => h w (List.mem_cons_of_mem _ hw))
theorem OkS.joinE {ys : List Str} (h : ∀ y ∈ ys, OkS y) : OkS (Txt.join ("" : Str) ys) := by
  show OkS (Builtin.Str.glued ("" : Str) ys)
  rw [StrLaws.glued_eq_join]
  exact OkS.join0 ys h
def okN : Nat → D → Prop
  | _, .non => True
  | _, .bl _ => True
  | _, .int _ => True
  | _, .str s => OkS s
  | _, .ins _ _ => False
  | n + 1, .lst l => ∀ x ∈ l, okN n x
  | n + 1, .tup l => ∀ x ∈ l, okN n x
  | 0, .lst _ => False
  | 0, .tup _ => False
theorem okN_all {n : Nat} (ih : ∀ d, okN n d → plainD d = true ∧ (toP d).canLay0 = true ∧ (toP d).depth ≤ n) : ∀ l : List D, (∀ x ∈ l, okN n x) → plainDs l = true ∧ PyData.canLayAll0 (toPs l) = true ∧ PyData.depthAll (toPs l) ≤ n
  | [], _ => ⟨rfl, rfl, Nat.zero_le _⟩
  | d :: r, h => by
    obtain ⟨a1, a2, a3⟩ := ih d (h d List.mem_cons_self)
    obtain ⟨b1, b2, b3⟩ := okN_all ih r fun x hx => h x (List.mem_cons_of_mem _ hx)
    refine ⟨by rw [plainDs, a1, b1]; rfl, ?_, ?_⟩
    · rw [toPs, PyData.canLayAll0, a2, b2]
      rfl
    · rw [toPs, PyData.depthAll]
      exact Nat.max_le.mpr ⟨a3, b3⟩
theorem okN_ok : ∀ (n : Nat) (d : D), okN n d → plainD d = true ∧ (toP d).canLay0 = true ∧ (toP d).depth ≤ n
  | n, .non, _ => by refine ⟨rfl, ?_, ?_⟩ <;> rw [toP] <;> first | rfl | exact Nat.zero_le _
  | n, .bl _, _ => by refine ⟨rfl, ?_, ?_⟩ <;> rw [toP] <;> first | rfl | exact Nat.zero_le _
  | n, .int _, _ => by refine ⟨rfl, ?_, ?_⟩ <;> rw [toP] <;> first | rfl | exact Nat.zero_le _
  | n, .str s, h => by
    have h : OkS s := by cases n <;> exact h
    refine ⟨rfl, ?_, ?_⟩ <;> rw [toP]
    · exact h.ok
    · exact Nat.zero_le _
  | n, .ins _ _, h => by cases n <;> exact h.elim
  | n + 1, .lst l, h => by
    obtain ⟨b1, b2, b3⟩ := okN_all (okN_ok n) l h
    refine ⟨by rw [plainD]; exact b1, ?_, ?_⟩ <;> rw [toP]
    · exact b2
    · exact Nat.succ_le_succ b3
  | n + 1, .tup l, h => by
    obtain ⟨b1, b2, b3⟩ := okN_all (okN_ok n) l h
    refine ⟨by rw [plainD]; exact b1, ?_, ?_⟩ <;> rw [toP]
    · exact b2
    · exact Nat.succ_le_succ b3
  | 0, .lst _, h => h.elim
  | 0, .tup _, h => h.elim
theorem okD_of {d : D} (n : Nat) (h : okN n d) (hn : n ≤ 64) : okD d = true := by
  obtain ⟨h1, h2, h3⟩ := okN_ok n d h
  unfold okD SeqAt.shaped
  rw [h1, h2, decide_eq_true (Nat.le_trans h3 hn)]
  rfl
theorem eqD_refl {d : D} (h : okD d = true) : eqD d d = true := SeqAt.eqv_refl _ (SeqAt.canLay_of_shaped (Bool.and_eq_true_iff.mp h).2)
/-- a field of an error by its place -/
theorem lookup_at {f : Str} {y : D} : ∀ {fs : List (Str × D)} {k : Nat}, (fs.map (·.1)).Nodup → fs[k]? = some (f, y) → fs.lookup f = some y
  | [], _, _, h => by simp at h
  | (g, z) :: fs, 0, _, h => by
    simp at h
    obtain ⟨rfl, rfl⟩ := h
    have e : (g == g) = true := beq_self_eq_true g
    simp only [List.lookup, e]
  | (g, z) :: fs, k + 1, hn, h => by
    rw [List.map_cons, List.nodup_cons] at hn
    have h' : fs[k]? = some (f, y) := by simpa using h
    have ne : (f == g) = false := beq_eq_false_iff_ne.mpr fun e => hn.1 (by rw [← e]; exact List.mem_map.mpr ⟨_, List.mem_of_getElem? h', rfl⟩)
    simp only [List.lookup, ne]
    exact lookup_at hn.2 h'
/-- the i-th of some texts -/
theorem pick_str {ys : List Str} {n B : Nat} {k : Int} (hn : ys.length = n) (hB : ys.all (fun s => decide (s.length ≤ B)) = true) (h0 : 0 ≤ k) (h1 : k < n) : ∃ s : Str, atI (ys.map D.str) k = some (.str s) ∧ s.length ≤ B := by
  obtain ⟨x, e, hm⟩ := pick (l := ys.map D.str) (n := n) (by rw [List.length_map]; exact hn) h0 h1
  obtain ⟨s, hs, rfl⟩ := List.mem_map.mp hm
  exact ⟨s, e, of_decide_eq_true (List.all_eq_true.mp hB s hs)⟩
theorem pick_strP {ys : List Str} {n B : Nat} {k : Int} (hn : ys.length = n) (hB : ∀ y ∈ ys, y.length ≤ B) (h0 : 0 ≤ k) (h1 : k < n) : ∃ s : Str, atI (ys.map D.str) k = some (.str s) ∧ s.length ≤ B := by
  obtain ⟨x, e, hm⟩ := pick (l := ys.map D.str) (n := n) (by rw [List.length_map]; exact hn) h0 h1
  obtain ⟨s, hs, rfl⟩ := List.mem_map.mp hm
  exact ⟨s, e, hB s hs⟩
/-- .. with what all of them are -/
theorem pick_strQ {ys : List Str} {n : Nat} {k : Int} {P : Str → Prop} (hn : ys.length = n) (hB : ∀ y ∈ ys, P y) (h0 : 0 ≤ k) (h1 : k < n) : ∃ s : Str, atI (ys.map D.str) k = some (.str s) ∧ P s := by
  obtain ⟨x, e, hm⟩ := pick (l := ys.map D.str) (n := n) (by rw [List.length_map]; exact hn) h0 h1
  obtain ⟨s, hs, rfl⟩ := List.mem_map.mp hm
  exact ⟨s, e, hB s hs⟩
theorem all_okS {ys : List Str} (h : ys.all (fun s => s.cps.toList.all fun c => decide (c < 1114112)) = true) : ∀ y ∈ ys, OkS y := fun y hy => OkS.of (List.all_eq_true.mp h y hy)
theorem pick_int {ys : List Int} {n : Nat} {lo hi k : Int} (hn : ys.length = n) (hB : ys.all (fun m => decide (lo ≤ m) && decide (m ≤ hi)) = true) (h0 : 0 ≤ k) (h1 : k < n) : ∃ m : Int, atI (ys.map D.int) k = some (.int m) ∧ lo ≤ m ∧ m ≤ hi := by
  obtain ⟨x, e, hm⟩ := pick (l := ys.map D.int) (n := n) (by rw [List.length_map]; exact hn) h0 h1
  obtain ⟨m, hs, rfl⟩ := List.mem_map.mp hm
  have := List.all_eq_true.mp hB m hs
  rw [Bool.and_eq_true, decide_eq_true_eq, decide_eq_true_eq] at this
  exact ⟨m, e, this⟩
/-- text * int -/
theorem rep_len (z : Str) (i : Int) : (if i < 1 then Str.empty else (⟨(List.replicate i.toNat z.cps).foldl (· ++ ·) #[]⟩ : Str)).length ≤ z.length * i.toNat := by
  split
  · exact Nat.zero_le _
  · show ((List.replicate i.toNat z.cps).foldl (· ++ ·) #[]).size ≤ _
    rw [foldl_sz, Nat.mul_comm]
    simp [Str.length]
theorem sz_two {a b : Nat} (ha : a ≤ 1000000) (hb : b ≤ 1000000) : a + b ≤ sizeLine := by rw [sizeLine_eq]; omega
theorem ones_sum : ∀ ys : List Str, (∀ y ∈ ys, y.length = 1) → (ys.map (·.length)).sum = ys.length
  | [], _ => rfl
  | y :: ys, h => by
    have e := ones_sum ys fun z hz => h z (List.mem_cons_of_mem _ hz)
    have e1 := h y List.mem_cons_self
    simp only [List.map_cons, List.sum_cons, List.length_cons]
    omega
end DL

/-! numbers as texts -/
namespace DX
open PySem PySem.Spec PySem.NumText PySem.Builtin.Str PySem.StrLaws PySem.W PySem.W.KIN PyProof.Rows
theorem str_ext {x y : Str} (h : x.cps.toList = y.cps.toList) : x = y := Str.ext' (Array.toList_inj.mp h)
theorem len_list (x : Str) : x.cps.toList.length = x.length := Array.length_toList
theorem app_list (x y : Str) : (x ++ y).cps.toList = x.cps.toList ++ y.cps.toList := by
  rw [Str.cps_append, Array.toList_append]
theorem emp_list : Str.empty.cps.toList = [] := rfl
def dig (n : Nat) : List Nat := (Nat.toDigits 10 n).map Char.toNat
structure Canon (cs : List Nat) : Prop where
  all : AllDigits cs
  hd : cs = [48] ∨ ∃ c r, cs = c :: r ∧ 49 ≤ c
theorem Canon.ne {cs : List Nat} (h : Canon cs) : cs ≠ [] := by
  rcases h.hd with e | ⟨c, r, e, _⟩ <;> simp [e]
theorem dig_val (n : Nat) : digitsVal (dig n) = n := val_back n
theorem dig_all (n : Nat) : AllDigits (dig n) := fun c hc => by
  obtain ⟨ch, hch, e⟩ := List.mem_map.mp hc
  have r := digit_range (Nat.isDigit_of_mem_toDigits (by decide) (by decide) hch)
  rw [← e]
  exact r
theorem digitChar_hd : ∀ d : Nat, d < 10 → 0 < d → 49 ≤ (Nat.digitChar d).toNat := by decide
theorem dig_hd (n : Nat) : 0 < n → ∃ c r, dig n = c :: r ∧ 49 ≤ c := by
  induction n using Nat.strongRecOn with
  | _ n ih =>
    intro h0
    by_cases h : n < 10
    · refine ⟨(Nat.digitChar n).toNat, [], ?_, digitChar_hd n h h0⟩
      unfold dig
      rw [Nat.toDigits_of_lt_base h]
      rfl
    · have hm : n % 10 < 10 := Nat.mod_lt n (by decide)
      have t : Nat.toDigits 10 (n / 10) ++ Nat.toDigits 10 (n % 10) = Nat.toDigits 10 (10 * (n / 10) + n % 10) := Nat.toDigits_append_toDigits (by decide) (by omega) hm
      rw [Nat.div_add_mod] at t
      obtain ⟨c, r, e, hc⟩ := ih (n / 10) (by omega) (by omega)
      refine ⟨c, r ++ (Nat.toDigits 10 (n % 10)).map Char.toNat, ?_, hc⟩
      unfold dig at e ⊢
      rw [← t, List.map_append, e]
      rfl
theorem dig_zero : dig 0 = [48] := by decide +kernel
theorem dig_canon (n : Nat) : Canon (dig n) := ⟨dig_all n, by
  by_cases h : n = 0
  · subst h
    exact .inl dig_zero
  · exact .inr (dig_hd n (by omega))⟩
theorem digit_ofNat : ∀ c : Nat, c < 58 → (Char.ofNat c).toNat = c := by decide
theorem dig_of {cs : List Nat} (h : Canon cs) : dig (digitsVal cs) = cs := by
  have hl : cs.length = cs.length - 1 + 1 := by
    have := List.length_pos_iff.mpr h.ne
    omega
  unfold dig
  rw [toDigits_digitsVal (cs.length - 1) cs hl h.all (by
    rcases h.hd with e | ⟨c, r, e, hc⟩
    · left
      rw [e]
      rfl
    · right
      exact ⟨c, r, e, hc⟩), List.map_map]
  refine (List.map_congr_left (g := _root_.id) fun c hc => ?_).trans (List.map_id cs)
  exact digit_ofNat c (by have := h.all c hc; omega)
/-! sizes -/
theorem fold_ge : ∀ (cs : List Nat) (a : Nat), a * 10 ^ cs.length ≤ cs.foldl (fun acc c => acc * 10 + (c - 48)) a
  | [], a => by simp
  | c :: cs, a => by
    have := fold_ge cs (a * 10 + (c - 48))
    rw [List.foldl_cons, List.length_cons, Nat.pow_succ]
    refine Nat.le_trans ?_ this
    rw [Nat.mul_comm (10 ^ cs.length) 10, ← Nat.mul_assoc]
    exact Nat.mul_le_mul_right _ (by omega)
theorem fold_lt : ∀ (cs : List Nat) (a : Nat), AllDigits cs → cs.foldl (fun acc c => acc * 10 + (c - 48)) a < (a + 1) * 10 ^ cs.length
  | [], a, _ => by simp
  | c :: cs, a, h => by
    have := fold_lt cs (a * 10 + (c - 48)) h.tail
    rw [List.foldl_cons, List.length_cons, Nat.pow_succ]
    refine Nat.lt_of_lt_of_le this ?_
    rw [Nat.mul_comm (10 ^ cs.length) 10, ← Nat.mul_assoc]
    exact Nat.mul_le_mul_right _ (by have := h.head; omega)
theorem val_lt {cs : List Nat} (h : AllDigits cs) : digitsVal cs < 10 ^ cs.length := by
  have := fold_lt cs 0 h
  simpa [digitsVal] using this
theorem val_ge {c : Nat} {r : List Nat} (hc : 49 ≤ c) : 10 ^ r.length ≤ digitsVal (c :: r) := by
  have := fold_ge r (0 * 10 + (c - 48))
  refine Nat.le_trans ?_ this
  exact Nat.le_mul_of_pos_left _ (by omega)
theorem canon_len {cs : List Nat} (h : Canon cs) (n : Nat) (hn : 0 < n) : cs.length ≤ n ↔ digitsVal cs < 10 ^ n := by
  constructor
  · exact fun hl => Nat.lt_of_lt_of_le (val_lt h.all) (Nat.pow_le_pow_right (by decide) hl)
  · intro hv
    rcases h.hd with e | ⟨c, r, e, hc⟩
    · rw [e]
      exact hn
    · rw [e] at hv ⊢
      have h1 := val_ge (r := r) hc
      refine Nat.le_of_not_lt fun hl => ?_
      have h2 : 10 ^ n ≤ 10 ^ r.length := Nat.pow_le_pow_right (by decide) (by simpa using Nat.lt_succ_iff.mp hl)
      omega
theorem dig_len (n k : Nat) (hk : 0 < k) : (dig n).length ≤ k ↔ n < 10 ^ k := by
  have := canon_len (dig_canon n) k hk
  rwa [dig_val] at this
/-! the text of an int -/
theorem str_nat (m : Nat) : (Str.ofString (toString ((m : Nat) : Int))).cps.toList = dig m := signs_num m
theorem str_nn {n : Int} (h : 0 ≤ n) : (Str.ofString (toString n)).cps.toList = dig n.natAbs := by
  obtain ⟨m, rfl⟩ := Int.eq_ofNat_of_zero_le h
  exact str_nat m
theorem str_neg {n : Int} (h : n < 0) : (Str.ofString (toString n)).cps.toList = 45 :: dig n.natAbs := by
  obtain ⟨m, rfl⟩ := Int.eq_negSucc_of_lt_zero h
  rw [signs_ofString]
  show ("-" ++ Nat.repr (m + 1) : String).toList.map Char.toNat = _
  rw [String.toList_append, List.map_append, Nat.toList_repr]
  rfl
def sg (t : Int) : List Nat := if t < 0 then [45] else []
theorem str_int (n : Int) : (Str.ofString (toString n)).cps.toList = sg n ++ dig n.natAbs := by
  unfold sg
  split
  · exact str_neg (by assumption)
  · exact str_nn (by omega)
/-! the written form of a ratio -/
def wl (t b : Int) : List Nat := sg t ++ (dig t.natAbs ++ if b = 1 then [] else 47 :: dig b.natAbs)
def isLong (i : Int) : Bool := decide ((10 : Int) ^ 400 ≤ (i.natAbs : Int))
def wr (t b : Int) : Str := if isLong t = true ∨ isLong b = true then "long" else ⟨(wl t b).toArray⟩
/-- lowest terms, not too long to be written -/
structure Low (t b : Int) : Prop where
  pos : 0 < b
  cop : Nat.gcd b.natAbs t.natAbs = 1
  st : isLong t = false
  sb : isLong b = false
theorem Low.wr {t b : Int} (h : Low t b) : (wr t b).cps.toList = wl t b := by
  unfold DX.wr
  rw [if_neg (by rw [h.st, h.sb]; simp)]
theorem long_lt {i : Int} (h : isLong i = false) : i.natAbs < 10 ^ 400 := by
  unfold isLong at h
  have := of_decide_eq_false h
  have e : ((10 ^ 400 : Nat) : Int) = (10 : Int) ^ 400 := Int.natCast_pow 10 400
  omega
theorem lt_long {i : Int} (h : i.natAbs < 10 ^ 400) : isLong i = false := by
  unfold isLong
  refine decide_eq_false fun z => ?_
  have e : ((10 ^ 400 : Nat) : Int) = (10 : Int) ^ 400 := Int.natCast_pow 10 400
  omega
/-! signs of a text -/
theorem digit_asc {c : Nat} (h : c < 128) : Unicode.isDigit c = (decide (48 ≤ c) && decide (c ≤ 57)) := by
  have := os_isdigit h
  unfold Txt.isdigit at this
  simpa [Str.length] using this
theorem isnum_iff (x : Str) : (Txt.isascii x = true ∧ Txt.isdigit x = true) ↔ (AllDigits x.cps.toList ∧ x.cps.toList ≠ []) := by
  unfold Txt.isascii Txt.isdigit
  rw [Bool.and_eq_true, ← Array.all_toList, ← Array.all_toList, List.all_eq_true, List.all_eq_true, decide_eq_true_eq]
  constructor
  · rintro ⟨h1, h2, h3⟩
    refine ⟨fun c hc => ?_, fun e => ?_⟩
    · have := h3 c hc
      rw [digit_asc (of_decide_eq_true (h1 c hc)), Bool.and_eq_true, decide_eq_true_eq, decide_eq_true_eq] at this
      exact this
    · rw [← len_list, e] at h2
      exact absurd h2 (by decide)
  · rintro ⟨h1, h2⟩
    refine ⟨fun c hc => decide_eq_true (by have := h1 c hc; omega), ?_, fun c hc => ?_⟩
    · rw [← len_list]
      exact List.length_pos_iff.mpr h2
    · have := h1 c hc
      rw [digit_asc (by omega), Bool.and_eq_true, decide_eq_true_eq, decide_eq_true_eq]
      exact this
theorem dig_not {n : Nat} {c : Nat} (h : c < 48) : c ∉ dig n := fun hc => by have := dig_all n c hc; omega
end DX

/-! texts cut apart -/
namespace DX
open PySem PySem.Spec PySem.NumText PySem.Builtin.Str PySem.StrLaws PySem.W PySem.W.KIN PyProof.Rows L2
theorem cut_list (z : Str) (lo hi : Option Int) : (cutS z lo hi).cps.toList = (z.cps.toList.drop (HT.sIx z.length 0 lo)).take (HT.sIx z.length z.length hi - HT.sIx z.length 0 lo) := by
  unfold cutS
  first
    | rfl
    | simp
theorem cut1 (z : Str) : (cutS z none (some 1)).cps.toList = z.cps.toList.take 1 := by
  rw [cut_list]
  have e1 : HT.sIx z.length 0 none = 0 := rfl
  have e2 : HT.sIx z.length z.length (some 1) = min 1 z.length := rfl
  rw [e1, e2, List.drop_zero, Nat.sub_zero, ← len_list]
  cases z.cps.toList <;> simp
theorem cut2 (z : Str) : (cutS z (some 1) none).cps.toList = z.cps.toList.drop 1 := by
  rw [cut_list]
  have e1 : HT.sIx z.length 0 (some 1) = min 1 z.length := rfl
  have e2 : HT.sIx z.length z.length none = z.length := rfl
  rw [e1, e2, ← len_list]
  cases h : z.cps.toList with
  | nil => rfl
  | cons a r => simp [List.take_of_length_le]
theorem pre_list (x : Str) (c : Nat) : (Txt.removeprefix x ⟨#[c]⟩).cps.toList = if x.cps.toList.take 1 = [c] then x.cps.toList.drop 1 else x.cps.toList := by
  unfold Txt.removeprefix Txt.affix
  rw [subAt_eq]
  have e : ((List.drop 0 x.cps.toList).take (⟨#[c]⟩ : Str).length == (⟨#[c]⟩ : Str).cps.toList) = decide (x.cps.toList.take 1 = [c]) := by
    rw [List.drop_zero, Bool.eq_iff_iff, beq_iff_eq, decide_eq_true_eq]
    rfl
  rw [e]
  by_cases h : x.cps.toList.take 1 = [c]
  · rw [decide_eq_true h, if_pos rfl, if_pos h]
    have hl : 0 < x.length := by
      rw [← len_list]
      cases hx : x.cps.toList with
      | nil =>
        rw [hx] at h
        cases h
      | cons a r => simp
    show (if (x.length - 1 == x.length) = true then x else strSub x 1 x.length).cps.toList = _
    rw [if_neg (by rw [beq_iff_eq]; omega), strSub_toList, ← len_list]
    exact List.take_of_length_le (by simp)
  · rw [decide_eq_false h, if_neg h]
    rfl
theorem starts_list (x : Str) (c : Nat) : Txt.startswith x ⟨#[c]⟩ = decide (x.cps.toList.take 1 = [c]) := by
  unfold Txt.startswith
  rw [subAt_eq, Bool.eq_iff_iff, Bool.and_eq_true, decide_eq_true_eq, decide_eq_true_eq, beq_iff_eq]
  show (0 + 1 ≤ x.length ∧ (List.drop 0 x.cps.toList).take 1 = [c]) ↔ _
  rw [List.drop_zero]
  refine ⟨fun h => h.2, fun h => ⟨?_, h⟩⟩
  rw [← len_list]
  cases hx : x.cps.toList with
  | nil =>
    rw [hx] at h
    cases h
  | cons a r => simp
/-- the first place of c -/
theorem first_at {x : Str} {c i : Nat} (h : At x ⟨#[c]⟩ x.length i) (hn : ∀ k, k < i → ¬ At x ⟨#[c]⟩ x.length k) : x.cps.toList = x.cps.toList.take i ++ c :: x.cps.toList.drop (i + 1) ∧ c ∉ x.cps.toList.take i := by
  have e := (subAt_one x c i).mp h
  obtain ⟨hi, he⟩ := List.getElem?_eq_some_iff.mp e
  refine ⟨?_, fun hm => ?_⟩
  · rw [← he, ← List.drop_eq_getElem_cons hi, List.take_append_drop]
  · obtain ⟨j, hj⟩ := List.getElem?_of_mem hm
    have hlt : j < i := by
      have := (List.getElem?_eq_some_iff.mp hj).1
      rw [List.length_take] at this
      omega
    rw [List.getElem?_take_of_lt hlt] at hj
    exact hn j hlt ((subAt_one x c j).mpr hj)
theorem app_cut {c : Nat} : ∀ {p q : List Nat} {X Y : List Nat}, c ∉ p → c ∉ q → p ++ c :: X = q ++ c :: Y → p = q ∧ X = Y
  | [], [], X, Y, _, _, h => ⟨rfl, by simpa using h⟩
  | [], b :: q, X, Y, _, h2, h => by
    have e : c = b := (List.cons.inj h).1
    exact absurd (by rw [e]; exact List.mem_cons_self) h2
  | a :: p, [], X, Y, h1, _, h => by
    have e : a = c := (List.cons.inj h).1
    exact absurd (by rw [e]; exact List.mem_cons_self) h1
  | a :: p, b :: q, X, Y, h1, h2, h => by
    obtain ⟨e1, e2⟩ := List.cons.inj h
    obtain ⟨e3, e4⟩ := app_cut (fun z => h1 (List.mem_cons_of_mem _ z)) (fun z => h2 (List.mem_cons_of_mem _ z)) e2
    exact ⟨by rw [e1, e3], e4⟩
theorem no_at {x : Str} {c : Nat} (h : c ∉ x.cps.toList) (i : Nat) : ¬ At x ⟨#[c]⟩ x.length i := fun z => h (List.mem_of_getElem? ((subAt_one x c i).mp z))
theorem part_no {x : Str} {c : Nat} (h : c ∉ x.cps.toList) : Txt.partition x ⟨#[c]⟩ = (x, Str.empty, Str.empty) := by
  unfold Txt.partition
  rcases occ_head x ⟨#[c]⟩ 1 (Nat.le_refl 1) with ⟨e, _⟩ | ⟨i, r, _, ha, _⟩
  · rw [e]
  · exact absurd ha (no_at h i)
theorem part_yes {x : Str} {c : Nat} {u v : List Nat} (h : x.cps.toList = u ++ c :: v) (hu : c ∉ u) : (Txt.partition x ⟨#[c]⟩).1.cps.toList = u ∧ (Txt.partition x ⟨#[c]⟩).2.1 = ⟨#[c]⟩ ∧ (Txt.partition x ⟨#[c]⟩).2.2.cps.toList = v := by
  unfold Txt.partition
  rcases occ_head x ⟨#[c]⟩ 1 (Nat.le_refl 1) with ⟨_, e⟩ | ⟨i, r, e, ha, hn⟩
  · have hm : c ∈ x.cps.toList := by rw [h]; simp
    obtain ⟨j, hj⟩ := List.getElem?_of_mem hm
    exact absurd ((subAt_one x c j).mpr hj) (e j)
  · rw [e]
    obtain ⟨e1, e2⟩ := first_at ha hn
    have e3 := e1
    rw [h] at e3
    obtain ⟨e4, e5⟩ := app_cut hu (by rw [← h]; exact e2) e3
    refine ⟨?_, rfl, ?_⟩
    · show (strSub x 0 i).cps.toList = u
      rw [strSub_toList, List.drop_zero, Nat.sub_zero, h]
      exact e4.symm
    · show (strSub x (i + 1) x.length).cps.toList = v
      rw [strSub_toList, ← len_list, List.take_of_length_le (by simp), h]
      exact e5.symm
/-- whatever the text, the parts -/
theorem part_any (x : Str) (c : Nat) : ((Txt.partition x ⟨#[c]⟩).2.1 = Str.empty ∧ x.cps.toList = (Txt.partition x ⟨#[c]⟩).1.cps.toList) ∨ ((Txt.partition x ⟨#[c]⟩).2.1 = ⟨#[c]⟩ ∧ x.cps.toList = (Txt.partition x ⟨#[c]⟩).1.cps.toList ++ c :: (Txt.partition x ⟨#[c]⟩).2.2.cps.toList) := by
  by_cases h : c ∈ x.cps.toList
  · right
    have hs := partition_sum x ⟨#[c]⟩
    rcases occ_head x ⟨#[c]⟩ 1 (Nat.le_refl 1) with ⟨_, e⟩ | ⟨i, r, e, ha, hn⟩
    · obtain ⟨j, hj⟩ := List.getElem?_of_mem h
      exact absurd ((subAt_one x c j).mpr hj) (e j)
    · obtain ⟨e1, e2⟩ := first_at ha hn
      obtain ⟨p1, p2, p3⟩ := part_yes e1 e2
      exact ⟨p2, by rw [p1, p3]; exact e1⟩
  · left
    rw [part_no h]
    exact ⟨rfl, rfl⟩
/-! split -/
def jl (c : Nat) : List (List Nat) → List Nat
  | [] => []
  | [p] => p
  | p :: q :: r => p ++ c :: jl c (q :: r)
theorem jl_inj {c : Nat} : ∀ {ps qs : List (List Nat)}, ps ≠ [] → qs ≠ [] → (∀ p ∈ ps, c ∉ p) → (∀ q ∈ qs, c ∉ q) → jl c ps = jl c qs → ps = qs
  | [], _, h, _, _, _, _ => absurd rfl h
  | _, [], _, h, _, _, _ => absurd rfl h
  | [p], [q], _, _, _, _, h => by
    have h : p = q := h
    rw [h]
  | [p], q :: q2 :: r, _, _, h1, _, h => by
    have h : p = q ++ c :: jl c (q2 :: r) := h
    exact absurd (by rw [h]; simp) (h1 p List.mem_cons_self)
  | p :: p2 :: r, [q], _, _, _, h2, h => by
    have h : p ++ c :: jl c (p2 :: r) = q := h
    exact absurd (by rw [← h]; simp) (h2 q List.mem_cons_self)
  | p :: p2 :: r, q :: q2 :: s, _, _, h1, h2, h => by
    have h : p ++ c :: jl c (p2 :: r) = q ++ c :: jl c (q2 :: s) := h
    obtain ⟨e1, e2⟩ := app_cut (h1 p List.mem_cons_self) (h2 q List.mem_cons_self) h
    have e3 := jl_inj (by simp) (by simp) (fun z hz => h1 z (List.mem_cons_of_mem _ hz)) (fun z hz => h2 z (List.mem_cons_of_mem _ hz)) e2
    rw [e1, e3]
theorem join_jl (c : Nat) : ∀ ps : List Str, ps ≠ [] → (Str.join ⟨#[c]⟩ ps).cps.toList = jl c (ps.map fun p => p.cps.toList)
  | [], h => absurd rfl h
  | [p], _ => rfl
  | p :: q :: r, _ => by
    show (p ++ ⟨#[c]⟩ ++ Str.join ⟨#[c]⟩ (q :: r)).cps.toList = p.cps.toList ++ c :: jl c ((q :: r).map fun p => p.cps.toList)
    rw [app_list, app_list, join_jl c (q :: r) (by simp)]
    simp
theorem split_ne (x : Str) (c : Nat) : Txt.split x ⟨#[c]⟩ ≠ [] := fun z => by
  have h := join_split x ⟨#[c]⟩
  unfold Txt.split at z
  split at z
  · cases z
  · split at z
    · cases z
    · rw [partsBetween_eq] at z
      obtain ⟨p, r, e⟩ := partsFrom_ne x (⟨#[c]⟩ : Str).length 0 (occurrences x ⟨#[c]⟩ 0 x.length (x.length + 1))
      rw [e] at z
      cases z
/-- the parts of a text -/
theorem split_list (x : Str) (c : Nat) : jl c ((Txt.split x ⟨#[c]⟩).map fun p => p.cps.toList) = x.cps.toList := by
  rw [← join_jl c _ (split_ne x c), join_split]
theorem split_is {x : Str} {c : Nat} {qs : List (List Nat)} (hq : qs ≠ []) (hf : ∀ q ∈ qs, c ∉ q) (h : x.cps.toList = jl c qs) : (Txt.split x ⟨#[c]⟩).map (fun p => p.cps.toList) = qs := by
  refine jl_inj (c := c) (fun z => split_ne x c (List.map_eq_nil_iff.mp z)) hq (fun p hp => ?_) hf ((split_list x c).trans h)
  obtain ⟨y, hy, rfl⟩ := List.mem_map.mp hp
  exact split_free x c y hy
theorem split_fr (x : Str) (c : Nat) : ∀ p ∈ (Txt.split x ⟨#[c]⟩).map (fun p => p.cps.toList), c ∉ p := fun p hp => by
  obtain ⟨y, hy, rfl⟩ := List.mem_map.mp hp
  exact split_free x c y hy
/-! words of numbers -/
theorem int_of {x : Str} (h : AllDigits x.cps.toList) (hne : x.cps.toList ≠ []) (hl : x.length ≤ 400) : PySem.intText? x = some ((digitsVal x.cps.toList : Nat) : Int) ∧ x.length ≤ 640 := ⟨intText_digits h hne (by omega), by omega⟩
/-- canonical parts -/
theorem wl_parts {t b : Int} : (b = 1 → wl t b = sg t ++ dig t.natAbs) ∧ (b ≠ 1 → wl t b = sg t ++ (dig t.natAbs ++ 47 :: dig b.natAbs)) := by
  unfold wl
  constructor
  · intro h
    rw [if_pos h, List.append_nil]
  · intro h
    rw [if_neg h]
theorem sg_neg {t : Int} (h : t < 0) : sg t = [45] := if_pos h
theorem sg_nn {t : Int} (h : ¬ t < 0) : sg t = [] := if_neg h
theorem take_dig {n : Nat} {r : List Nat} : ((dig n ++ r).take 1 = [45]) = False := by
  refine eq_false fun h => ?_
  have hl : 0 < (dig n).length := List.length_pos_iff.mpr (dig_canon n).ne
  cases e : dig n with
  | nil =>
    rw [e] at hl
    cases hl
  | cons a s =>
    rw [e] at h
    have ea : a = 45 := (List.cons.inj h).1
    have := dig_all n a (by rw [e]; exact List.mem_cons_self)
    omega
/-- behind the sign -/
theorem body_of {t b : Int} {cs : List Nat} (h : cs = wl t b) : (if cs.take 1 = [45] then cs.drop 1 else cs) = dig t.natAbs ++ (if b = 1 then [] else 47 :: dig b.natAbs) ∧ (cs.take 1 = [45] ↔ t < 0) := by
  subst h
  unfold wl
  by_cases ht : t < 0
  · rw [sg_neg ht]
    exact ⟨if_pos rfl, fun _ => ht, fun _ => rfl⟩
  · rw [sg_nn ht, List.nil_append]
    have := take_dig (n := t.natAbs) (r := if b = 1 then [] else 47 :: dig b.natAbs)
    exact ⟨if_neg (by rw [this]; exact fun z => z), fun z => by rw [this] at z; exact z.elim, fun z => absurd z ht⟩
/-! str of a ratio -/
theorem wr_long {t b : Int} (h : isLong t = true ∨ isLong b = true) : wr t b = "long" := if_pos h
theorem wr_one {t : Int} (h1 : isLong t = false) (h2 : isLong 1 = false) : wr t 1 = Str.ofString (toString t) := by
  unfold wr
  rw [if_neg (by rw [h1, h2]; simp)]
  refine str_ext ?_
  rw [str_int]
  show wl t 1 = _
  rw [wl_parts.1 rfl]
theorem wr_two {t b : Int} (h1 : isLong t = false) (h2 : isLong b = false) (hb : b ≠ 1) (h0 : 0 < b) : wr t b = Str.empty ++ Str.ofString (toString t) ++ Str.ofString "/" ++ Str.ofString (toString b) := by
  unfold wr
  rw [if_neg (by rw [h1, h2]; simp)]
  refine str_ext ?_
  rw [app_list, app_list, app_list, str_int, str_nn (by omega)]
  show wl t b = _
  rw [wl_parts.2 hb]
  have e1 : Str.empty.cps.toList = [] := rfl
  have e2 : (Str.ofString "/").cps.toList = [47] := by decide +kernel
  rw [e1, e2]
  simp
theorem long_log {i : Int} (h : isLong i = false) : i.natAbs.log2 < 1920 := by
  refine PySem.Flt.log2_lt_of (by decide) (Nat.lt_trans (long_lt h) ?_)
  decide +kernel
theorem str_len {i : Int} (h : isLong i = false) : (Str.ofString (toString i)).length ≤ 401 := by
  rw [← len_list, str_int, List.length_append]
  have := (dig_len i.natAbs 400 (by decide)).mpr (long_lt h)
  have : (sg i).length ≤ 1 := by
    unfold sg
    split <;> simp
  omega
theorem wr_sz {t b : Int} (h1 : isLong t = false) (h2 : isLong b = false) : (Str.empty ++ Str.ofString (toString t)).length ≤ sizeLine ∧ (Str.empty ++ Str.ofString (toString t) ++ Str.ofString "/").length ≤ sizeLine ∧ (Str.empty ++ Str.ofString (toString t) ++ Str.ofString "/" ++ Str.ofString (toString b)).length ≤ sizeLine := by
  have a := str_len h1
  have b := str_len h2
  have c : (Str.ofString "/").length = 1 := by decide +kernel
  have d : Str.empty.length = 0 := rfl
  simp only [Str.length_append, c, sizeLine_eq, d]
  omega
theorem wr_ok (t b : Int) : DL.OkS (wr t b) := by
  unfold wr
  split
  · exact DL.OkS.of (by decide +kernel)
  · intro c hc
    have hd : ∀ n, c ∈ dig n → c < 1114112 := fun n h => by have := dig_all n c h; omega
    have hc : c ∈ sg t ++ (dig t.natAbs ++ if b = 1 then [] else 47 :: dig b.natAbs) := hc
    rcases List.mem_append.mp hc with h | h
    · unfold sg at h
      split at h
      · rw [List.mem_singleton.mp h]
        decide
      · cases h
    · rcases List.mem_append.mp h with h | h
      · exact hd _ h
      · split at h
        · cases h
        · rcases List.mem_cons.mp h with rfl | h
          · decide
          · exact hd _ h
theorem str_ok (i : Int) : DL.OkS (Str.ofString (toString i)) := fun c hc => by
  rw [str_int] at hc
  rcases List.mem_append.mp hc with h | h
  · unfold sg at h
    split at h
    · rw [List.mem_singleton.mp h]
      decide
    · cases h
  · have := dig_all _ c h
    omega
end DX

namespace K01
open PySem PySem.Spec PyProof.Rows L2 LR DL
def top (i : Nat) : Stmt := PySem.Challenge.pw_lastrows_k01_ratio_text.main.body.getD i (.Pass ⟨0, 0, 0, 0⟩)
abbrev s_ZeroBottom_init : Stmt := inClass (top 4) 0
abbrev s_BadNumber_init : Stmt := inClass (top 5) 0
abbrev s_Ratio_init : Stmt := inClass (top 9) 0
abbrev s_Ratio_mul : Stmt := inClass (top 9) 3
abbrev s_Ratio_neg : Stmt := inClass (top 9) 4
abbrev s_Ratio_str : Stmt := inClass (top 9) 7
abbrev s_Ratio_over : Stmt := inClass (top 9) 8
abbrev s_Ratio_read : Stmt := inClass (top 9) 12
abbrev s_is_long : Stmt := top 10
abbrev s_is_number : Stmt := top 11
abbrev s_common_divisor : Stmt := top 12
abbrev s_law_cell : Stmt := top 14
abbrev s_law_mix : Stmt := top 15
abbrev s_law_draws : Stmt := top 16
abbrev s_law_small : Stmt := top 17
abbrev s_law_is_integer : Stmt := top 18
abbrev s_law_gcd : Stmt := top 19
abbrev s_law_ratio : Stmt := top 20
abbrev s_law_numbers : Stmt := top 21
abbrev s_law_written : Stmt := top 22
abbrev s_law_sign : Stmt := top 23
abbrev s_law_spoilt : Stmt := top 24
abbrev s_law_odd : Stmt := top 25
abbrev s_law_many_digits : Stmt := top 26
abbrev s_law_texts : Stmt := top 27
abbrev s_law_digits : Stmt := top 28
abbrev s_law_reader : Stmt := top 29
abbrev s_law_is : Stmt := top 30
abbrev s_law_shown : Stmt := top 31
abbrev s_law_read : Stmt := top 32
abbrev s_law : Stmt := top 33
theorem sc_ZeroBottom_init : FnScope ["self"] ["self"] (defScope s_ZeroBottom_init) := ⟨rfl, rfl, rfl, by decide +kernel, rfl, by decide +kernel, by decide +kernel⟩
theorem sc_BadNumber_init : FnScope ["self", "text"] ["self", "text"] (defScope s_BadNumber_init) := ⟨rfl, rfl, rfl, by decide +kernel, rfl, by decide +kernel, by decide +kernel⟩
theorem sc_Ratio_init : FnScope ["self", "top", "bottom", "divisor"] ["self", "top", "bottom"] (defScope s_Ratio_init) := ⟨rfl, rfl, rfl, by decide +kernel, rfl, by decide +kernel, by decide +kernel⟩
theorem sc_Ratio_mul : FnScope ["self", "other"] ["self", "other"] (defScope s_Ratio_mul) := ⟨rfl, rfl, rfl, by decide +kernel, rfl, by decide +kernel, by decide +kernel⟩
theorem sc_Ratio_neg : FnScope ["self"] ["self"] (defScope s_Ratio_neg) := ⟨rfl, rfl, rfl, by decide +kernel, rfl, by decide +kernel, by decide +kernel⟩
theorem sc_Ratio_str : FnScope ["self"] ["self"] (defScope s_Ratio_str) := ⟨rfl, rfl, rfl, by decide +kernel, rfl, by decide +kernel, by decide +kernel⟩
theorem sc_Ratio_over : FnScope ["self", "other"] ["self", "other"] (defScope s_Ratio_over) := ⟨rfl, rfl, rfl, by decide +kernel, rfl, by decide +kernel, by decide +kernel⟩
theorem sc_Ratio_read : FnScope ["text", "top", "slash", "bottom", "found"] ["text"] (defScope s_Ratio_read) := ⟨rfl, rfl, rfl, by decide +kernel, rfl, by decide +kernel, by decide +kernel⟩
theorem sc_is_long : FnScope ["number"] ["number"] (defScope s_is_long) := ⟨rfl, rfl, rfl, by decide +kernel, rfl, by decide +kernel, by decide +kernel⟩
theorem sc_is_number : FnScope ["word"] ["word"] (defScope s_is_number) := ⟨rfl, rfl, rfl, by decide +kernel, rfl, by decide +kernel, by decide +kernel⟩
theorem sc_common_divisor : FnScope ["tops", "bottom", "found", "top"] ["tops", "bottom"] (defScope s_common_divisor) := ⟨rfl, rfl, rfl, by decide +kernel, rfl, by decide +kernel, by decide +kernel⟩
theorem sc_law_cell : FnScope ["script", "k", "total", "cell"] ["script", "k"] (defScope s_law_cell) := ⟨rfl, rfl, rfl, by decide +kernel, rfl, by decide +kernel, by decide +kernel⟩
theorem sc_law_mix : FnScope ["cell", "k", "at", "x"] ["cell", "k", "at"] (defScope s_law_mix) := ⟨rfl, rfl, rfl, by decide +kernel, rfl, by decide +kernel, by decide +kernel⟩
theorem sc_law_draws : FnScope ["script", "k", "many", "cell", "digits", "out", "at"] ["script", "k", "many"] (defScope s_law_draws) := ⟨rfl, rfl, rfl, by decide +kernel, rfl, by decide +kernel, by decide +kernel⟩
theorem sc_law_small : FnScope ["d"] ["d"] (defScope s_law_small) := ⟨rfl, rfl, rfl, by decide +kernel, rfl, by decide +kernel, by decide +kernel⟩
theorem sc_law_is_integer : FnScope ["x"] ["x"] (defScope s_law_is_integer) := ⟨rfl, rfl, rfl, by decide +kernel, rfl, by decide +kernel, by decide +kernel⟩
theorem sc_law_gcd : FnScope ["a", "b", "turns"] ["a", "b"] (defScope s_law_gcd) := ⟨rfl, rfl, rfl, by decide +kernel, rfl, by decide +kernel, by decide +kernel⟩
theorem sc_law_ratio : FnScope ["top", "bottom", "part"] ["top", "bottom"] (defScope s_law_ratio) := ⟨rfl, rfl, rfl, by decide +kernel, rfl, by decide +kernel, by decide +kernel⟩
theorem sc_law_numbers : FnScope ["script", "draws", "kind", "limit", "edge", "lap", "numbers", "k"] ["script"] (defScope s_law_numbers) := ⟨rfl, rfl, rfl, by decide +kernel, rfl, by decide +kernel, by decide +kernel⟩
theorem sc_law_written : FnScope ["pair", "edge"] ["pair"] (defScope s_law_written) := ⟨rfl, rfl, rfl, by decide +kernel, rfl, by decide +kernel, by decide +kernel⟩
theorem sc_law_sign : FnScope ["d", "road", "chars"] ["d", "road"] (defScope s_law_sign) := ⟨rfl, rfl, rfl, by decide +kernel, rfl, by decide +kernel, by decide +kernel⟩
theorem sc_law_spoilt : FnScope ["text", "road", "place", "sign"] ["text", "road", "place", "sign"] (defScope s_law_spoilt) := ⟨rfl, rfl, rfl, by decide +kernel, rfl, by decide +kernel, by decide +kernel⟩
theorem sc_law_odd : FnScope ["at", "texts"] ["at"] (defScope s_law_odd) := ⟨rfl, rfl, rfl, by decide +kernel, rfl, by decide +kernel, by decide +kernel⟩
theorem sc_law_many_digits : FnScope ["draws", "many", "digits"] ["draws"] (defScope s_law_many_digits) := ⟨rfl, rfl, rfl, by decide +kernel, rfl, by decide +kernel, by decide +kernel⟩
theorem sc_law_texts : FnScope ["script", "text", "draws", "kind", "size", "d", "at"] ["script", "text"] (defScope s_law_texts) := ⟨rfl, rfl, rfl, by decide +kernel, rfl, by decide +kernel, by decide +kernel⟩
theorem sc_law_digits : FnScope ["text", "sign"] ["text"] (defScope s_law_digits) := ⟨rfl, rfl, rfl, by decide +kernel, rfl, by decide +kernel, by decide +kernel⟩
theorem sc_law_reader : FnScope ["text", "body", "parts", "top", "bottom"] ["text"] (defScope s_law_reader) := ⟨rfl, rfl, rfl, by decide +kernel, rfl, by decide +kernel, by decide +kernel⟩
theorem sc_law_is : FnScope ["x", "pair"] ["x", "pair"] (defScope s_law_is) := ⟨rfl, rfl, rfl, by decide +kernel, rfl, by decide +kernel, by decide +kernel⟩
theorem sc_law_shown : FnScope ["x", "text", "shown"] ["x", "text"] (defScope s_law_shown) := ⟨rfl, rfl, rfl, by decide +kernel, rfl, by decide +kernel, by decide +kernel⟩
theorem sc_law_read : FnScope ["text", "due", "told", "refused", "e"] ["text", "due"] (defScope s_law_read) := ⟨rfl, rfl, rfl, by decide +kernel, rfl, by decide +kernel, by decide +kernel⟩
theorem sc_law : FnScope ["script", "numbers", "pair", "written", "texts", "a", "far", "lap", "text"] ["script"] (defScope s_law) := ⟨rfl, rfl, rfl, by decide +kernel, rfl, by decide +kernel, by decide +kernel⟩
abbrev d_ZeroBottom_init : Df := ⟨(fun K => He.ma K (He.ga K "ZeroBottom") "__init__"), "__init__", "ZeroBottom.__init__", defArgs s_ZeroBottom_init, defBody s_ZeroBottom_init, defScope s_ZeroBottom_init, []⟩
abbrev d_BadNumber_init : Df := ⟨(fun K => He.ma K (He.ga K "BadNumber") "__init__"), "__init__", "BadNumber.__init__", defArgs s_BadNumber_init, defBody s_BadNumber_init, defScope s_BadNumber_init, []⟩
abbrev d_Ratio_init : Df := ⟨(fun K => He.ma K (He.ga K "Ratio") "__init__"), "__init__", "Ratio.__init__", defArgs s_Ratio_init, defBody s_Ratio_init, defScope s_Ratio_init, [.int 1]⟩
abbrev d_Ratio_mul : Df := ⟨(fun K => He.ma K (He.ga K "Ratio") "__mul__"), "__mul__", "Ratio.__mul__", defArgs s_Ratio_mul, defBody s_Ratio_mul, defScope s_Ratio_mul, []⟩
abbrev d_Ratio_neg : Df := ⟨(fun K => He.ma K (He.ga K "Ratio") "__neg__"), "__neg__", "Ratio.__neg__", defArgs s_Ratio_neg, defBody s_Ratio_neg, defScope s_Ratio_neg, []⟩
abbrev d_Ratio_str : Df := ⟨(fun K => He.ma K (He.ga K "Ratio") "__str__"), "__str__", "Ratio.__str__", defArgs s_Ratio_str, defBody s_Ratio_str, defScope s_Ratio_str, []⟩
abbrev d_Ratio_over : Df := ⟨(fun K => He.ma K (He.ga K "Ratio") "over"), "over", "Ratio.over", defArgs s_Ratio_over, defBody s_Ratio_over, defScope s_Ratio_over, []⟩
abbrev d_Ratio_read : Df := ⟨(fun K => smF K "Ratio" "read"), "read", "Ratio.read", defArgs s_Ratio_read, defBody s_Ratio_read, defScope s_Ratio_read, []⟩
abbrev d_is_long : Df := ⟨(fun K => He.ga K "_is_long"), "_is_long", "_is_long", defArgs s_is_long, defBody s_is_long, defScope s_is_long, []⟩
abbrev d_is_number : Df := ⟨(fun K => He.ga K "_is_number"), "_is_number", "_is_number", defArgs s_is_number, defBody s_is_number, defScope s_is_number, []⟩
abbrev d_common_divisor : Df := ⟨(fun K => He.ga K "common_divisor"), "common_divisor", "common_divisor", defArgs s_common_divisor, defBody s_common_divisor, defScope s_common_divisor, []⟩
abbrev d_law_cell : Df := ⟨(fun K => He.ga K "_law_cell"), "_law_cell", "_law_cell", defArgs s_law_cell, defBody s_law_cell, defScope s_law_cell, []⟩
abbrev d_law_mix : Df := ⟨(fun K => He.ga K "_law_mix"), "_law_mix", "_law_mix", defArgs s_law_mix, defBody s_law_mix, defScope s_law_mix, []⟩
abbrev d_law_draws : Df := ⟨(fun K => He.ga K "_law_draws"), "_law_draws", "_law_draws", defArgs s_law_draws, defBody s_law_draws, defScope s_law_draws, []⟩
abbrev d_law_small : Df := ⟨(fun K => He.ga K "_law_small"), "_law_small", "_law_small", defArgs s_law_small, defBody s_law_small, defScope s_law_small, []⟩
abbrev d_law_is_integer : Df := ⟨(fun K => He.ga K "_law_is_integer"), "_law_is_integer", "_law_is_integer", defArgs s_law_is_integer, defBody s_law_is_integer, defScope s_law_is_integer, []⟩
abbrev d_law_gcd : Df := ⟨(fun K => He.ga K "_law_gcd"), "_law_gcd", "_law_gcd", defArgs s_law_gcd, defBody s_law_gcd, defScope s_law_gcd, []⟩
abbrev d_law_ratio : Df := ⟨(fun K => He.ga K "_law_ratio"), "_law_ratio", "_law_ratio", defArgs s_law_ratio, defBody s_law_ratio, defScope s_law_ratio, []⟩
abbrev d_law_numbers : Df := ⟨(fun K => He.ga K "_law_numbers"), "_law_numbers", "_law_numbers", defArgs s_law_numbers, defBody s_law_numbers, defScope s_law_numbers, []⟩
abbrev d_law_written : Df := ⟨(fun K => He.ga K "_law_written"), "_law_written", "_law_written", defArgs s_law_written, defBody s_law_written, defScope s_law_written, []⟩
abbrev d_law_sign : Df := ⟨(fun K => He.ga K "_law_sign"), "_law_sign", "_law_sign", defArgs s_law_sign, defBody s_law_sign, defScope s_law_sign, []⟩
abbrev d_law_spoilt : Df := ⟨(fun K => He.ga K "_law_spoilt"), "_law_spoilt", "_law_spoilt", defArgs s_law_spoilt, defBody s_law_spoilt, defScope s_law_spoilt, []⟩
abbrev d_law_odd : Df := ⟨(fun K => He.ga K "_law_odd"), "_law_odd", "_law_odd", defArgs s_law_odd, defBody s_law_odd, defScope s_law_odd, []⟩
abbrev d_law_many_digits : Df := ⟨(fun K => He.ga K "_law_many_digits"), "_law_many_digits", "_law_many_digits", defArgs s_law_many_digits, defBody s_law_many_digits, defScope s_law_many_digits, []⟩
abbrev d_law_texts : Df := ⟨(fun K => He.ga K "_law_texts"), "_law_texts", "_law_texts", defArgs s_law_texts, defBody s_law_texts, defScope s_law_texts, []⟩
abbrev d_law_digits : Df := ⟨(fun K => He.ga K "_law_digits"), "_law_digits", "_law_digits", defArgs s_law_digits, defBody s_law_digits, defScope s_law_digits, []⟩
abbrev d_law_reader : Df := ⟨(fun K => He.ga K "_law_reader"), "_law_reader", "_law_reader", defArgs s_law_reader, defBody s_law_reader, defScope s_law_reader, []⟩
abbrev d_law_is : Df := ⟨(fun K => He.ga K "_law_is"), "_law_is", "_law_is", defArgs s_law_is, defBody s_law_is, defScope s_law_is, []⟩
abbrev d_law_shown : Df := ⟨(fun K => He.ga K "_law_shown"), "_law_shown", "_law_shown", defArgs s_law_shown, defBody s_law_shown, defScope s_law_shown, []⟩
abbrev d_law_read : Df := ⟨(fun K => He.ga K "_law_read"), "_law_read", "_law_read", defArgs s_law_read, defBody s_law_read, defScope s_law_read, []⟩
abbrev d_law : Df := ⟨(fun K => He.ga K "law"), "law", "law", defArgs s_law, defBody s_law, defScope s_law, []⟩
def fnL : List Df := (([d_ZeroBottom_init, d_BadNumber_init, d_Ratio_init, d_Ratio_mul, d_Ratio_neg, d_Ratio_str, d_Ratio_over, d_Ratio_read, d_is_long, d_is_number, d_common_divisor, d_law_cell, d_law_mix, d_law_draws, d_law_small, d_law_is_integer, d_law_gcd, d_law_ratio, d_law_numbers, d_law_written, d_law_sign, d_law_spoilt, d_law_odd, d_law_many_digits, d_law_texts] : List Df) ++ ([d_law_digits, d_law_reader, d_law_is, d_law_shown, d_law_read, d_law] : List Df))
def LL : Ls where
  gl := ((["LastrowsError", "ZeroBottom", "BadNumber", "BadText", "Ratio", "_is_long", "_is_number", "common_divisor", "_law_cell", "_law_mix", "_law_draws", "_law_small", "_law_is_integer", "_law_gcd", "_law_ratio", "_law_numbers", "_law_written", "_law_sign", "_law_spoilt", "_law_odd", "_law_many_digits", "_law_texts", "_law_digits", "_law_reader", "_law_is"] : List Str) ++ (["_law_shown", "_law_read", "law"] : List Str))
  fr := ["len", "abs", "int", "bool", "str", "range", "isinstance", "ValueError"]
  cl := ["Ratio"]
  ex := ((["BadNumber", "ZeroBottom"] : List Str))
  me := (([("Ratio", "__init__"), ("Ratio", "__mul__"), ("Ratio", "__neg__"), ("Ratio", "__str__"), ("Ratio", "over")] : List (Str × Str)))
  no := (([("Ratio", "top"), ("Ratio", "bottom"), ("BadNumber", "text"), ("BadNumber", "word"), ("ZeroBottom", "word")] : List (Str × Str)))
  bl := [("gcd", "math.gcd")]
  kit := []
  kie := (([("BadNumber", "LastrowsError", true), ("BadNumber", "BadText", false), ("BadNumber", "ZeroBottom", false)] : List (Str × Str × Bool)))
  kiv := (([("BadNumber", "ValueError", true)] : List (Str × String × Bool)))
  pr := ([] : List (Str × Str))
  nf := []
  fn := fnL
def cs : List Nat := [0]
theorem cs_cl : ∀ c ∈ cs, cname c ∈ LL.cl := by decide +kernel
def sms : List (Str × Str) := [("Ratio", "read")]
def cis : List (Str × Int) := [("_MOST_DIGITS", 400)]
theorem fk_Ratio_top : (shape 0)[0]? = some ("top" : Str) ∧ (shape 0).Nodup := ⟨rfl, by decide +kernel⟩
theorem fk_Ratio_bottom : (shape 0)[1]? = some ("bottom" : Str) ∧ (shape 0).Nodup := ⟨rfl, by decide +kernel⟩
theorem dd_Ratio : ∀ K H, Reps K H [.int 1] [.int 1] := fun _ _ => .one (.int 1)
theorem nm_Ratio___init__ : ("__init__" : Str) ∉ shape 0 := by decide +kernel
theorem nm_Ratio___mul__ : ("__mul__" : Str) ∉ shape 0 := by decide +kernel
theorem nm_Ratio___neg__ : ("__neg__" : Str) ∉ shape 0 := by decide +kernel
theorem nm_Ratio___str__ : ("__str__" : Str) ∉ shape 0 := by decide +kernel
theorem nm_Ratio_over : ("over" : Str) ∉ shape 0 := by decide +kernel
end K01

namespace K01
open PySem PySem.Spec PyProof.Rows L2 LR DL
section
variable {P : Program} {w : World} {K : PySem.W.Frag} {mg : Str → Option Value} {base : Heap}
local macro_rules | `(tactic| walk_at "side") => `(tactic| first | rfl | assumption | omega | exact mulL (by omega) (by omega) | exact mulR (by omega) (by omega) | exact mulF (by decide) (by decide) | exact ⟨by decide, by decide +kernel⟩ | decide | (simp only [List.length_cons, List.length_nil, List.length_map, List.nil_append, List.cons_append, sizeLine_eq]; omega) | (simp only [List.map_cons, List.map_nil, List.nil_append, List.cons_append]; decide +kernel))
local macro_rules | `(tactic| walk_at "go") => `(tactic| repeat (first
  | refine ⟨_, rfl, ?_⟩
  | refine ⟨_, _, rfl, rfl, ?_⟩
  | refine ⟨_, _, rfl, ?_⟩
  | refine ⟨_, _, _, rfl, rfl, ?_⟩
  | refine ⟨_, _, _, rfl, ?_⟩
  | refine ⟨_, _, _, _, rfl, rfl, ?_⟩
  | refine ⟨_, _, _, _, rfl, ?_⟩
  | refine ⟨_, _, _, rfl, rfl, by assumption, ?_⟩
  | refine .inl ⟨_, rfl, ?_⟩
  | refine .inr ⟨_, rfl, ?_⟩
  | refine .inr (.inl ⟨_, rfl, ?_⟩)
  | refine And.intro (by walk_at "side") ?_))


def P_law_cell : Prm := fun ds Q _ => ∃ (ns : List Int) (k : Int), ds = [.lst (ns.map D.int), .int k] ∧ 0 ≤ k ∧ k ≤ 1000 ∧ ns.length ≤ 63 ∧ ∀ v : Int, 0 ≤ v → Q (.int v)
def P_law_mix : Prm := fun ds Q _ => ∃ (c k t : Int), ds = [.int c, .int k, .int t] ∧ 0 ≤ k ∧ k ≤ 1000 ∧ 0 ≤ t ∧ t ≤ 1000 ∧ ∀ v : Int, 0 ≤ v → v < 1024 → Q (.int v)
def P_law_draws : Prm := fun ds Q _ => ∃ (ns : List Int) (k m : Int), ds = [.lst (ns.map D.int), .int k, .int m] ∧ 0 ≤ k ∧ k ≤ 1000 ∧ 0 ≤ m ∧ m ≤ 1000 ∧ ns.length ≤ 63 ∧ ∀ zs : List Int, (zs.length : Int) = m → (∀ z ∈ zs, 0 ≤ z ∧ z < 1024) → Q (.lst (zs.map D.int))
def P_law_small : Prm := fun ds Q _ => ∃ d : Int, ds = [.int d] ∧ 0 ≤ d ∧ d < 1024 ∧ ∀ v : Int, -32 ≤ v → v ≤ 31 → Q (.int v)
def P_law_is_integer : Prm := fun ds Q _ => ∃ i : Int, ds = [.int i] ∧ Q (.bl true)
def P_law_gcd : Prm := fun ds Q _ => ∃ a b : Int, ds = [.int a, .int b] ∧ b.natAbs < 2 ^ 8999 ∧ Q (.int ((Nat.gcd b.natAbs a.natAbs : Nat) : Int))
def P_law_ratio : Prm := fun ds Q _ => ∃ t b : Int, ds = [.int t, .int b] ∧ b ≠ 0 ∧ b.natAbs < 2 ^ 8999 ∧ Q (.tup [.int (nT t b), .int (nB t b)])

theorem fn_law_cell (T : Txt LL K mg) (M : Mo cs sms cis K mg) : Nonempty (Fn P w K mg base (d_law_cell.at_ K) 1 2 P_law_cell) := by
  refine Fn.of (T.d 11 (d := d_law_cell)) sc_law_cell rfl (fun _ _ _ _ _ _ us hl => match us, hl with | [_, _], _ => rfl) (fun ds Q ex h => ?_) (fun fd cdv A outer s H E hr => ⟨_, pdss_cons (pds_if (pdt_cmp op_lt l_B0 (pd_var (pv 1)) (pd_cb (fun h => pe_callB call_len (by rfl) (T.f "len") (by decide +kernel) h) l_len (pda_cons (pd_var (pv 0)) pda_nil)) (nomark _)) (pdss_one (pds_ret (pd_cb (fun h => pe_callB call_abs (by rfl) (T.f "abs") (by decide +kernel) h) l_abs (pda_cons (pd_ix ix_list l_ixL (pd_var (pv 0)) (pd_var (pv 1)) (fun _ _ => rfl)) pda_nil)))) pdss_nil) (pdss_cons (pds_set (i := 2) sc_law_cell.nd rfl (by first | exact Or.inl rfl | exact Or.inr rfl) (pd_int pe_int)) (pdss_cons (pds_for (passes_of rfl) rfl (pdi_list (pd_new (pdn_slL (pd_var (pv 0)) pdo_none (pdo_some (pd_int pe_int))))) (pdg_name (pg_name (i := 3) sc_law_cell.nd rfl (by first | exact Or.inl rfl | exact Or.inr rfl))) (pdss_one (pds_set (i := 2) sc_law_cell.nd rfl (by first | exact Or.inl rfl | exact Or.inr rfl) (pd_op op_modN l_I (pd_cb (fun h => pe_callTy call_int1 (by rfl) (T.f "int") (by decide +kernel) h) l_int (pda_cons (pd_op op_add l_I0 (pd_op op_mulZ l_I (pd_var (pv 2)) (pd_int pe_int)) (pd_op op_modN l_I (pd_cb (fun h => pe_callTy call_int1 (by rfl) (T.f "int") (by decide +kernel) h) l_int (pda_cons (pd_cb (fun h => pe_callB call_abs (by rfl) (T.f "abs") (by decide +kernel) h) l_abs (pda_cons (pd_var (pv 3)) pda_nil)) pda_nil)) (pd_int pe_int))) pda_nil)) (pd_int pe_int))))) (pdss_one (pds_ret (pd_op op_add l_I0 (pd_op op_add l_I0 (pd_op op_mulZ l_I (pd_var (pv 2)) (pd_int pe_int)) (pd_op op_mulZ l_I (pd_var (pv 1)) (pd_int pe_int))) (pd_int pe_int)))))), fun ds Q ex h => ?_⟩)
  · obtain ⟨ns, k, rfl, _⟩ := h
    rfl
  · obtain ⟨ns, k, rfl, h0, h1, hl, q⟩ := h
    walk_at "go"
    refine d_ite (fun c => ?_) (fun c => ?_)
    · have c' := of_decide_eq_true c
      simp only [List.length_map] at c'
      obtain ⟨z, _, _, hz⟩ := at_ex (l := ns) h0 c'
      walk_at "go"
      exact q _ (by omega)
    walk_at "go"
    obtain ⟨ms, em, _, _⟩ := cut_map D.int ns none (some 8)
    refine ⟨fun i env => ∃ (t : Int) (v : Sl), env = [.val (.lst (ns.map D.int)), .val (.int k), .val (.int t), v] ∧ 0 ≤ t ∧ t < 1000003, fun _ => ⟨5, _, rfl, by decide, by decide⟩, ?_, ?_⟩
    · rintro i x env hx ⟨t, v, rfl, t0, t1⟩
      rw [em] at hx
      obtain ⟨z, _, rfl⟩ := map_at hx
      walk_at "go"
      exact fun _ => ⟨_, _, rfl, fmod_lo _ (by decide), fmod_hi _ (by decide)⟩
    · rintro env ⟨t, v, rfl, t0, t1⟩
      walk_at "go"
      exact q _ (by omega)

theorem fn_law_mix (T : Txt LL K mg) (M : Mo cs sms cis K mg) : Nonempty (Fn P w K mg base (d_law_mix.at_ K) 1 3 P_law_mix) := by
  refine Fn.of (T.d 12 (d := d_law_mix)) sc_law_mix rfl (fun _ _ _ _ _ _ us hl => match us, hl with | [_, _, _], _ => rfl) (fun ds Q ex h => ?_) (fun fd cdv A outer s H E hr => ⟨_, pdss_cons (pds_set (i := 3) sc_law_mix.nd rfl (by first | exact Or.inl rfl | exact Or.inr rfl) (pd_op op_modN l_I (pd_cb (fun h => pe_callTy call_int1 (by rfl) (T.f "int") (by decide +kernel) h) l_int (pda_cons (pd_op op_add l_I0 (pd_op op_add l_I0 (pd_op op_add l_I0 (pd_op op_mulZ l_I (pd_var (pv 0)) (pd_int pe_int)) (pd_op op_mulZ l_I (pd_var (pv 1)) (pd_int pe_int))) (pd_op op_mulZ l_I (pd_var (pv 2)) (pd_int pe_int))) (pd_int pe_int)) pda_nil)) (pd_int pe_int))) (pdss_cons (pds_set (i := 3) sc_law_mix.nd rfl (by first | exact Or.inl rfl | exact Or.inr rfl) (pd_op op_modN l_I (pd_cb (fun h => pe_callTy call_int1 (by rfl) (T.f "int") (by decide +kernel) h) l_int (pda_cons (pd_op op_add l_I0 (pd_op op_add l_I0 (pd_op op_mulZ l_I (pd_var (pv 3)) (pd_var (pv 3))) (pd_op op_mulZ l_I (pd_var (pv 2)) (pd_int pe_int))) (pd_int pe_int)) pda_nil)) (pd_int pe_int))) (pdss_cons (pds_set (i := 3) sc_law_mix.nd rfl (by first | exact Or.inl rfl | exact Or.inr rfl) (pd_op op_modN l_I (pd_cb (fun h => pe_callTy call_int1 (by rfl) (T.f "int") (by decide +kernel) h) l_int (pda_cons (pd_op op_add l_I0 (pd_op op_add l_I0 (pd_op op_mulZ l_I (pd_var (pv 3)) (pd_var (pv 3))) (pd_op op_mulZ l_I (pd_var (pv 1)) (pd_int pe_int))) (pd_int pe_int)) pda_nil)) (pd_int pe_int))) (pdss_one (pds_ret (pd_op op_modN l_I (pd_cb (fun h => pe_callTy call_int1 (by rfl) (T.f "int") (by decide +kernel) h) l_int (pda_cons (pd_var (pv 3)) pda_nil)) (pd_int pe_int)))))), fun ds Q ex h => ?_⟩)
  · obtain ⟨c, k, t, rfl, _⟩ := h
    rfl
  · obtain ⟨c, k, t, rfl, k0, k1, t0, t1, q⟩ := h
    walk_at "go"
    exact q _ (fmod_lo _ (by decide)) (fmod_hi _ (by decide))

theorem fn_law_draws (T : Txt LL K mg) (M : Mo cs sms cis K mg) : Nonempty (Fn P w K mg base (d_law_draws.at_ K) 2 3 P_law_draws) := by
  obtain ⟨F_law_cell⟩ := fn_law_cell (P := P) (w := w) (base := base) T M
  obtain ⟨F_law_mix⟩ := fn_law_mix (P := P) (w := w) (base := base) T M
  refine Fn.of (T.d 13 (d := d_law_draws)) sc_law_draws rfl (fun _ _ _ _ _ _ us hl => match us, hl with | [_, _, _], _ => rfl) (fun ds Q ex h => ?_) (fun fd cdv A outer s H E hr => ⟨_, pdss_cons (pds_set (i := 3) sc_law_draws.nd rfl (by first | exact Or.inl rfl | exact Or.inr rfl) (pd_call F_law_cell (hr.mono (by decide)) (by rfl) (T.g "_law_cell") (T.k "_law_cell") (takes_of rfl rfl rfl rfl) (pda_cons (pd_var (pv 0)) (pda_cons (pd_var (pv 1)) pda_nil)))) (pdss_cons (pds_set (i := 4) sc_law_draws.nd rfl (by first | exact Or.inl rfl | exact Or.inr rfl) (pd_cmp op_ge l_B0 (pd_var (pv 3)) (pd_op op_powZ l_I (pd_int pe_int) (pd_int pe_int)) (nomark _))) (pdss_cons (pds_setN (i := 5) sc_law_draws.nd rfl (by first | exact Or.inl rfl | exact Or.inr rfl) (pdn_lst pda_nil)) (pdss_cons (pds_for (passes_of rfl) rfl (pdi_range1 rfl (T.f "range") (pda_cons (pd_var (pv 2)) pda_nil)) (pdg_name (pg_name (i := 6) sc_law_draws.nd rfl (by first | exact Or.inl rfl | exact Or.inr rfl))) (pdss_one (pds_if (PDW.pt (pdw_and (pdt_val (pd_var (pv 4))) (pdw_and1 (pdt_cmp op_gt l_B0 (pd_var (pv 3)) (pd_int pe_int) (nomark _))))) (pdss_cons (pds_app (i := 5) (te := id) (p1 := ⟨0, 0, 0, 0⟩) (p2 := ⟨0, 0, 0, 0⟩) (p3 := ⟨0, 0, 0, 0⟩) (x := "") (fun h => pe_bm PySem.F.plainAttrs_list PySem.F.slot_list_append PySem.F.type_list_append mt_append (pv 5) (pa_cons h pa_nil)) (pd_op op_modN l_I (pd_cb (fun h => pe_callTy call_int1 (by rfl) (T.f "int") (by decide +kernel) h) l_int (pda_cons (pd_var (pv 3)) pda_nil)) (pd_int pe_int))) (pdss_one (pds_set (i := 3) sc_law_draws.nd rfl (by first | exact Or.inl rfl | exact Or.inr rfl) (pd_op op_fdivZ l_I (pd_var (pv 3)) (pd_int pe_int))))) (pdss_one (pds_app (i := 5) (te := id) (p1 := ⟨0, 0, 0, 0⟩) (p2 := ⟨0, 0, 0, 0⟩) (p3 := ⟨0, 0, 0, 0⟩) (x := "") (fun h => pe_bm PySem.F.plainAttrs_list PySem.F.slot_list_append PySem.F.type_list_append mt_append (pv 5) (pa_cons h pa_nil)) (pd_call F_law_mix (hr.mono (by decide)) (by rfl) (T.g "_law_mix") (T.k "_law_mix") (takes_of rfl rfl rfl rfl) (pda_cons (pd_var (pv 3)) (pda_cons (pd_var (pv 1)) (pda_cons (pd_var (pv 6)) pda_nil))))))))) (pdss_frz 5 (pdss_one (pds_ret (pd_var (pv 5)))))))), fun ds Q ex h => ?_⟩)
  · obtain ⟨ns, k, m, rfl, _⟩ := h
    rfl
  · obtain ⟨ns, k, m, rfl, k0, k1, m0, m1, hl, q⟩ := h
    walk_at "go"
    intro v v0
    walk_at "go"
    refine ⟨fun i env => ∃ (c : Int) (zs : List Int) (dg : Bool) (u : Sl), env = [.val (.lst (ns.map D.int)), .val (.int k), .val (.int m), .val (.int c), .val (.bl dg), .own (zs.map D.int), u] ∧ zs.length = i ∧ ∀ z ∈ zs, 0 ≤ z ∧ z < 1024, fun _ => ⟨v, [], _, _, rfl, rfl, fun z hz => by cases hz⟩, ?_, ?_⟩
    · rintro i x env hx ⟨c, zs, dg, u, rfl, hz, hb⟩
      obtain ⟨hi, rfl⟩ := rng_at hx
      have ne : ∀ (z : Int), 0 ≤ z → z < 1024 → ∀ d ∈ zs ++ [z], 0 ≤ d ∧ d < 1024 := fun z z0 z1 d hd => by
        rcases List.mem_append.mp hd with e | e
        · exact hb d e
        · rw [List.mem_singleton.mp e]
          exact ⟨z0, z1⟩
      have hlen : (zs.map D.int).length < sizeLine := by rw [List.length_map]; exact sz100 (by omega)
      have app : ∀ z : Int, zs.map D.int ++ [D.int z] = (zs ++ [z]).map D.int := fun z => by rw [List.map_append]; rfl
      have cnt : ∀ z : Int, (zs ++ [z]).length = i + 1 := fun z => by rw [List.length_append, hz]; rfl
      walk_at "go"
      refine d_ite (fun e => ?_) (fun e => ?_)
      · walk_at "go"
        refine d_ite (fun e => ?_) (fun e => ?_)
        · walk_at "go"
          exact fun _ => ⟨_, zs ++ [_], dg, _, by rw [← app]; rfl, cnt _, ne _ (fmod_lo _ (by decide)) (fmod_hi _ (by decide))⟩
        · walk_at "go"
          intro v v0 v1
          walk_at "go"
          exact fun _ => ⟨_, zs ++ [v], dg, _, by rw [← app]; rfl, cnt _, ne _ v0 v1⟩
      · walk_at "go"
        intro v v0 v1
        walk_at "go"
        exact fun _ => ⟨_, zs ++ [v], dg, _, by rw [← app]; rfl, cnt _, ne _ v0 v1⟩
    · rintro env ⟨c, zs, dg, u, rfl, hz, hb⟩
      rw [rng_len] at hz
      walk_at "go"
      exact q zs (by omega) hb

theorem fn_law_small (T : Txt LL K mg) (M : Mo cs sms cis K mg) : Nonempty (Fn P w K mg base (d_law_small.at_ K) 1 1 P_law_small) := by
  refine Fn.of (T.d 14 (d := d_law_small)) sc_law_small rfl (fun _ _ _ _ _ _ us hl => match us, hl with | [_], _ => rfl) (fun ds Q ex h => ?_) (fun fd cdv A outer s H E hr => ⟨_, pdss_cons (pds_if (pdt_cmp op_eq l_eq (pd_op op_modN l_I (pd_cb (fun h => pe_callTy call_int1 (by rfl) (T.f "int") (by decide +kernel) h) l_int (pda_cons (pd_var (pv 0)) pda_nil)) (pd_int pe_int)) (pd_int pe_int) (nomark _)) (pdss_one (pds_ret (pd_op op_sub l_I0 (pd_op op_modN l_I (pd_cb (fun h => pe_callTy call_int1 (by rfl) (T.f "int") (by decide +kernel) h) l_int (pda_cons (pd_op op_fdivZ l_I (pd_var (pv 0)) (pd_int pe_int)) pda_nil)) (pd_int pe_int)) (pd_int pe_int)))) pdss_nil) (pdss_one (pds_ret (pd_op op_sub l_I0 (pd_op op_modN l_I (pd_cb (fun h => pe_callTy call_int1 (by rfl) (T.f "int") (by decide +kernel) h) l_int (pda_cons (pd_var (pv 0)) pda_nil)) (pd_int pe_int)) (pd_int pe_int)))), fun ds Q ex h => ?_⟩)
  · obtain ⟨d, rfl, _⟩ := h
    rfl
  · obtain ⟨d, rfl, d0, d1, q⟩ := h
    walk_at "go"
    refine d_ite (fun c => ?_) (fun c => ?_)
    · walk_at "go"
      have a1 := fmod_lo (d.fdiv 16) (j := 64) (by decide)
      have a2 := fmod_hi (d.fdiv 16) (j := 64) (by decide)
      exact q _ (by omega) (by omega)
    · walk_at "go"
      have a1 := fmod_lo d (j := 7) (by decide)
      have a2 := fmod_hi d (j := 7) (by decide)
      exact q _ (by omega) (by omega)
end
end K01

namespace K01
open PySem PySem.Spec PyProof.Rows L2 LR DL
section
variable {P : Program} {w : World} {K : PySem.W.Frag} {mg : Str → Option Value} {base : Heap}
local macro_rules | `(tactic| walk_at "side") => `(tactic| first | rfl | assumption | omega | exact mulL (by omega) (by omega) | exact mulR (by omega) (by omega) | exact mulF (by decide) (by decide) | exact ⟨by decide, by decide +kernel⟩ | decide | (simp only [List.length_cons, List.length_nil, List.length_map, List.nil_append, List.cons_append, sizeLine_eq]; omega) | (simp only [List.map_cons, List.map_nil, List.nil_append, List.cons_append]; decide +kernel))
local macro_rules | `(tactic| walk_at "go") => `(tactic| repeat (first
  | refine ⟨_, rfl, ?_⟩
  | refine ⟨_, _, rfl, rfl, ?_⟩
  | refine ⟨_, _, rfl, ?_⟩
  | refine ⟨_, _, _, rfl, rfl, ?_⟩
  | refine ⟨_, _, _, rfl, ?_⟩
  | refine ⟨_, _, _, _, rfl, rfl, ?_⟩
  | refine ⟨_, _, _, _, rfl, ?_⟩
  | refine ⟨_, _, _, rfl, rfl, by assumption, ?_⟩
  | refine .inl ⟨_, rfl, ?_⟩
  | refine .inr ⟨_, rfl, ?_⟩
  | refine .inr (.inl ⟨_, rfl, ?_⟩)
  | refine And.intro (by walk_at "side") ?_))

def sh_ZeroBottom : Xsh := [("word", .inr "bottom")]
theorem fx_ZeroBottom (T : Txt LL K mg) : Nonempty (FnX P w K mg base (d_ZeroBottom_init.at_ K) 1 "ZeroBottom" 0 sh_ZeroBottom) := by
  suffices ok : Ok P w K mg base (d_ZeroBottom_init.at_ K) 1 ["self"] (DL.spX K "ZeroBottom" 0 sh_ZeroBottom) by
    obtain ⟨fd, F, b⟩ := ok
    exact ⟨⟨fd, _, F, b⟩⟩
  refine Ok.of (T.d 0 (d := d_ZeroBottom_init)) sc_ZeroBottom_init (fun _ _ _ _ _ _ us hl => match us, hl with | [_], _ => rfl) (fun vs H Q E h => ?_) (fun fd cdv A outer s H vs Q E hr h => ?_)
  · obtain ⟨a, ws, rfl, hn, _⟩ := h
    exact congrArg (· + 1) hn
  · obtain ⟨a, ws, rfl, hn, ha, q⟩ := h
    obtain rfl := len0 hn
    refine ⟨_, pss_one (ps_ost (pv 0) pe_str), ?_⟩
    refine ⟨_, rfl, a, _, rfl, T.oex "ZeroBottom", T.no "ZeroBottom" "word", .inl ⟨ha, fun dx nd ne => ?_⟩⟩
    exact q _ dx (fun b o e nb => (upd_ne nb).trans ((upd_ne (ne_of_none e nd)).trans e)) nd ne (upd_same) ((upd_ne ne).trans upd_same)

def sh_BadNumber : Xsh := [("word", .inr "number"), ("text", .inl 0)]
theorem fx_BadNumber (T : Txt LL K mg) : Nonempty (FnX P w K mg base (d_BadNumber_init.at_ K) 1 "BadNumber" 1 sh_BadNumber) := by
  suffices ok : Ok P w K mg base (d_BadNumber_init.at_ K) 1 ["self", "text"] (DL.spX K "BadNumber" 1 sh_BadNumber) by
    obtain ⟨fd, F, b⟩ := ok
    exact ⟨⟨fd, _, F, b⟩⟩
  refine Ok.of (T.d 1 (d := d_BadNumber_init)) sc_BadNumber_init (fun _ _ _ _ _ _ us hl => match us, hl with | [_, _], _ => rfl) (fun vs H Q E h => ?_) (fun fd cdv A outer s H vs Q E hr h => ?_)
  · obtain ⟨a, ws, rfl, hn, _⟩ := h
    exact congrArg (· + 1) hn
  · obtain ⟨a, ws, rfl, hn, ha, q⟩ := h
    obtain ⟨w0, rfl⟩ := len1 hn
    refine ⟨_, pss_cons (ps_ost (pv 0) (pv 1)) (pss_one (ps_ost (pv 0) pe_str)), ?_⟩
    refine ⟨_, rfl, _, rfl, a, _, rfl, T.oex "BadNumber", T.no "BadNumber" "text", .inl ⟨ha, fun dx nd ne => ?_⟩⟩
    refine ⟨_, rfl, a, _, rfl, T.oex "BadNumber", T.no "BadNumber" "word", .inr ⟨dx, _, upd_same, (upd_ne ne).trans upd_same, by simp, ?_⟩⟩
    exact q _ dx (fun b o e nb => (upd_ne (ne_of_none e nd)).trans ((upd_ne nb).trans ((upd_ne (ne_of_none e nd)).trans e))) nd ne ((upd_ne (Ne.symm ne)).trans (upd_same)) (upd_same)


abbrev R (t b : Int) : D := .ins 0 [.int t, .int b]
def P_common_divisor : Prm := fun ds Q _ => ∃ (ts : List Int) (b : Int), ds = [.lst (ts.map D.int), .int b] ∧ Q (.int (gs ts b))
def P_Ratio_init : Prm := fun ds Q ex => ∃ (t b : Int), ds = [.int t, .int b] ∧ (b = 0 → ex "ZeroBottom" (xD sh_ZeroBottom [])) ∧ (b ≠ 0 → (gs [t] b).natAbs < 2 ^ 8999 ∧ Q (R (nT t b) (nB t b)))

theorem fn_common_divisor (T : Txt LL K mg) (M : Mo cs sms cis K mg) : Nonempty (Fn P w K mg base (d_common_divisor.at_ K) 1 2 P_common_divisor) := by
  refine Fn.of (T.d 10 (d := d_common_divisor)) sc_common_divisor rfl (fun _ _ _ _ _ _ us hl => match us, hl with | [_, _], _ => rfl) (fun ds Q ex h => ?_) (fun fd cdv A outer s H E hr => ⟨_, pdss_cons (pds_set (i := 2) sc_common_divisor.nd rfl (by first | exact Or.inl rfl | exact Or.inr rfl) (pd_cb (fun h => pe_callB call_abs (by rfl) (T.f "abs") (by decide +kernel) h) l_abs (pda_cons (pd_var (pv 1)) pda_nil))) (pdss_cons (pds_for (passes_of rfl) rfl (pdi_list (pd_var (pv 0))) (pdg_name (pg_name (i := 3) sc_common_divisor.nd rfl (by first | exact Or.inl rfl | exact Or.inr rfl))) (pdss_cons (pds_if (pdt_cmp op_eq l_eq (pd_var (pv 2)) (pd_int pe_int) (nomark _)) (pdss_one pds_break) pdss_nil) (pdss_one (pds_set (i := 2) sc_common_divisor.nd rfl (by first | exact Or.inl rfl | exact Or.inr rfl) (pd_cb (fun h => pe_callBfun cr_gcd (by rfl) (T.b "gcd" "math.gcd") h) l_gcd (pda_cons (pd_var (pv 2)) (pda_cons (pd_var (pv 3)) pda_nil))))))) (pdss_one (pds_ret (pd_ife (pdt_cmp op_gt l_B0 (pd_var (pv 1)) (pd_int pe_int) (nomark _)) (pd_var (pv 2)) (pd_un un_neg l_U (pd_var (pv 2))))))), fun ds Q ex h => ?_⟩)
  · obtain ⟨ts, b, rfl, _⟩ := h
    rfl
  · obtain ⟨ts, b, rfl, q⟩ := h
    walk_at "go"
    refine ⟨fun i env => ∃ (f : Nat) (v : Sl), env = [.val (.lst (ts.map D.int)), .val (.int b), .val (.int f), v] ∧ (ts.drop i).foldl (fun g t => Nat.gcd g t.natAbs) f = cg ts b, fun _ => ⟨_, _, rfl, rfl⟩, ?_, ?_⟩
    · rintro i x env hx ⟨f, v, rfl, hf⟩
      obtain ⟨z, hz, rfl⟩ := map_at hx
      have hi : i < ts.length := (List.getElem?_eq_some_iff.mp hz).1
      have ez : ts[i] = z := (List.getElem?_eq_some_iff.mp hz).2
      rw [List.drop_eq_getElem_cons hi, List.foldl_cons, ez] at hf
      walk_at "go"
      refine d_ite (fun c => ?_) (fun c => ?_)
      · have c1 : (f : Int) = 1 := of_decide_eq_true c
        have c2 : f = 1 := by omega
        subst c2
        rw [Nat.gcd_one_left, fold_one] at hf
        walk_at "go"
        refine d_ite (fun c => ?_) (fun c => ?_)
        · have c' : b > 0 := of_decide_eq_true c
          have e : gs ts b = 1 := by
            unfold gs
            rw [if_pos c', ← hf]
            rfl
          rw [e] at q
          walk_at "go"
          exact q
        · have c' : ¬ b > 0 := of_decide_eq_false c
          have e : gs ts b = -1 := by
            unfold gs
            rw [if_neg c', ← hf]
            rfl
          rw [e] at q
          walk_at "go"
          exact q
      · walk_at "go"
        exact fun _ => ⟨_, _, rfl, hf⟩
    · rintro env ⟨f, v, rfl, hf⟩
      rw [List.length_map, List.drop_length] at hf
      have hf : f = cg ts b := hf
      walk_at "go"
      refine d_ite (fun c => ?_) (fun c => ?_)
      · have c' : b > 0 := of_decide_eq_true c
        have e : gs ts b = f := by
          unfold gs
          rw [if_pos c', ← hf]
        rw [e] at q
        walk_at "go"
        exact q
      · have c' : ¬ b > 0 := of_decide_eq_false c
        have e : gs ts b = -f := by
          unfold gs
          rw [if_neg c', ← hf]
        rw [e] at q
        walk_at "go"
        exact q

theorem fn_Ratio_init (T : Txt LL K mg) (M : Mo cs sms cis K mg) : Nonempty (FnI P w K mg base (d_Ratio_init.at_ K) 4 0 2 P_Ratio_init [] []) ∧ Nonempty (FnI P w K mg base (d_Ratio_init.at_ K) 4 0 2 P_Ratio_init [.int 1] [.int 1]) := by
  obtain ⟨F_ZeroBottom⟩ := fx_ZeroBottom (P := P) (w := w) (base := base) T
  obtain ⟨F_common_divisor⟩ := fn_common_divisor (P := P) (w := w) (base := base) T M
  refine FnI.ofD (T.d 2 (d := d_Ratio_init)) sc_Ratio_init rfl (fun n hn _ _ _ _ _ _ _ us its hu hi => ?_) (fun ds Q ex h => ?_) (fun fd cdv A outer s H E hr => ⟨_, pdss_cons (pds_if (pdt_cmp op_eq l_eq (pd_var (pv 2)) (pd_int pe_int) (nomark _)) (pdss_one (pds_raise0 rfl (takes_of rfl rfl rfl rfl) (pmk_oex0 (T.oex "ZeroBottom") (T.exI "ZeroBottom") (T.exT "ZeroBottom") F_ZeroBottom.ok (hr.mono (by decide)) F_ZeroBottom.bd passL (by rfl) (T.g "ZeroBottom")))) pdss_nil) (pdss_cons (pds_set (i := 3) sc_Ratio_init.nd rfl (by first | exact Or.inl rfl | exact Or.inr rfl) (pd_call F_common_divisor (hr.mono (by decide)) (by rfl) (T.g "common_divisor") (T.k "common_divisor") (takes_of rfl rfl rfl rfl) (pda_cons (pd_new (pdn_lst (pda_cons (pd_var (pv 1)) pda_nil))) (pda_cons (pd_var (pv 2)) pda_nil)))) (pdss_cons (pds_fst (i := 0) (c := 0) (f := "top") (T.cl "Ratio") (T.no "Ratio" "top") (fun h => ps_fld (pv 0) h rfl) (pd_op op_fdivZ l_I (pd_var (pv 1)) (pd_var (pv 3)))) (pdss_one (pds_fst (i := 0) (c := 0) (f := "bottom") (T.cl "Ratio") (T.no "Ratio" "bottom") (fun h => ps_fld (pv 0) h rfl) (pd_op op_fdivZ l_I (pd_var (pv 2)) (pd_var (pv 3))))))), fun p ds Q ex h => ?_⟩)
  · have hn : n = 3 ∨ n + 1 = 3 := hn
    rcases hn with rfl | hn
    · exact match us, hu, its, hi with | [_, _, _], _, [_], _ => ⟨_, rfl, rfl⟩
    · obtain rfl : n = 2 := by omega
      exact match us, hu, its, hi with | [_, _], _, [_], _ => ⟨_, rfl, rfl⟩
  · obtain ⟨t, b, rfl, _⟩ := h
    rfl
  · obtain ⟨t, b, rfl, q0, q⟩ := h
    walk_at "go"
    refine d_ite (fun c => ?_) (fun c => ?_)
    · walk_at "go"
      exact q0 (of_decide_eq_true c)
    · have c' : b ≠ 0 := of_decide_eq_false c
      obtain ⟨hg, q⟩ := q c'
      have hd : CDivZ t (gs [t] b) := divZ (gs_ne c') hg (by decide) (by decide)
      have hd2 : CDivZ b (gs [t] b) := divZ (gs_ne c') hg (by decide) (by decide)
      walk_at "go"
      refine ⟨[t], b, rfl, ?_⟩
      walk_at "go"
      exact q

def P_is_long : Prm := fun ds Q ex => ∃ n : Int, ds = [.int n] ∧ Q (.bl (DX.isLong n))
theorem fn_is_long (T : Txt LL K mg) (M : Mo cs sms cis K mg) : Nonempty (Fn P w K mg base (d_is_long.at_ K) 1 1 P_is_long) := by
  refine Fn.of (T.d 8 (d := d_is_long)) sc_is_long rfl (fun _ _ _ _ _ _ us hl => match us, hl with | [_], _ => rfl) (fun ds Q ex h => ?_) (fun fd cdv A outer s H E hr => ⟨_, pdss_one (pds_ret (pd_cmp op_ge l_B0 (pd_cb (fun h => pe_callB call_abs (by rfl) (T.f "abs") (by decide +kernel) h) l_abs (pda_cons (pd_var (pv 0)) pda_nil)) (pd_op op_powZ l_I (pd_op op_powZ l_I (pd_int pe_int) (pd_int pe_int)) (pd_int pe_int)) (nomark _))), fun ds Q ex h => ?_⟩)
  · obtain ⟨n, rfl, _⟩ := h
    rfl
  · obtain ⟨n, rfl, q⟩ := h
    walk_at "go"
    have e : DX.isLong n = decide ((n.natAbs : Int) ≥ (fun i j => i ^ j.toNat) ((fun i j => i ^ j.toNat) (10 : Int) (50 : Int)) (8 : Int)) := by
      unfold DX.isLong
      have e2 : (fun (i j : Int) => i ^ j.toNat) ((fun (i j : Int) => i ^ j.toNat) (10 : Int) (50 : Int)) (8 : Int) = 10 ^ 400 := by decide +kernel
      rw [e2]
    rw [e] at q
    exact q

def P_Ratio_mul : Prm := fun ds Q ex => ∃ (t b u c : Int), ds = [R t b, R u c] ∧ 0 < b ∧ 0 < c ∧ IntMulOk t u ∧ IntMulOk b c ∧ (gs [t * u] (b * c)).natAbs < 2 ^ 8999 ∧ Q (R (nT (t * u) (b * c)) (nB (t * u) (b * c)))
theorem fn_Ratio_mul (T : Txt LL K mg) (M : Mo cs sms cis K mg) : Nonempty (Fn P w K mg base (d_Ratio_mul.at_ K) 6 2 P_Ratio_mul) := by
  obtain ⟨⟨F_Ratio_init⟩, ⟨F_Ratio_init_d⟩⟩ := fn_Ratio_init (P := P) (w := w) (base := base) T M
  refine Fn.of (T.d 3 (d := d_Ratio_mul)) sc_Ratio_mul rfl (fun _ _ _ _ _ _ us hl => match us, hl with | [_, _], _ => rfl) (fun ds Q ex h => ?_) (fun fd cdv A outer s H E hr => ⟨_, pdss_cons (pds_if (pdt_not (pdt_val (pd_isi (cr := (.own 0)) M.isi M.cls (fun c h => by cases h; decide) (fun h => pe_callB call_isi (by rfl) (T.f "isinstance") (by decide +kernel) (pa_cons h (pa_cons (pe_glob (v := .ref (He.ga K "Ratio")) rfl (T.g "Ratio") rfl) pa_nil))) (pd_var (pv 1))))) pdss_never pdss_nil) (pdss_one (pds_ret (pd_make (c := 0) (T.mkk "Ratio") F_Ratio_init (fun _ _ => .nil) (hr.mono (by decide)) (by rfl) (T.g "Ratio") (takes_of rfl rfl rfl rfl) (pda_cons (pd_op op_mulZ l_I (pd_fld (c := 0) (k := 0) (T.cl "Ratio") (T.no "Ratio" "top") fk_Ratio_top (pd_var (pv 0))) (pd_fld (c := 0) (k := 0) (T.cl "Ratio") (T.no "Ratio" "top") fk_Ratio_top (pd_var (pv 1)))) (pda_cons (pd_op op_mulZ l_I (pd_fld (c := 0) (k := 1) (T.cl "Ratio") (T.no "Ratio" "bottom") fk_Ratio_bottom (pd_var (pv 0))) (pd_fld (c := 0) (k := 1) (T.cl "Ratio") (T.no "Ratio" "bottom") fk_Ratio_bottom (pd_var (pv 1)))) pda_nil))))), fun ds Q ex h => ?_⟩)
  · obtain ⟨t, b, u, c, rfl, _⟩ := h
    rfl
  · obtain ⟨t, b, u, c, rfl, hb, hc, m1, m2, hg, q⟩ := h
    have hn : b * c ≠ 0 := Int.ne_of_gt (Int.mul_pos hb hc)
    walk_at "go"
    exact fun _ => ⟨hg, q⟩

def P_Ratio_neg : Prm := fun ds Q ex => ∃ (t b : Int), ds = [R t b] ∧ Nrm t b ∧ Q (R (-t) b)
theorem fn_Ratio_neg (T : Txt LL K mg) (M : Mo cs sms cis K mg) : Nonempty (Fn P w K mg base (d_Ratio_neg.at_ K) 6 1 P_Ratio_neg) := by
  obtain ⟨⟨F_Ratio_init⟩, ⟨F_Ratio_init_d⟩⟩ := fn_Ratio_init (P := P) (w := w) (base := base) T M
  refine Fn.of (T.d 4 (d := d_Ratio_neg)) sc_Ratio_neg rfl (fun _ _ _ _ _ _ us hl => match us, hl with | [_], _ => rfl) (fun ds Q ex h => ?_) (fun fd cdv A outer s H E hr => ⟨_, pdss_one (pds_ret (pd_make (c := 0) (T.mkk "Ratio") F_Ratio_init (fun _ _ => .nil) (hr.mono (by decide)) (by rfl) (T.g "Ratio") (takes_of rfl rfl rfl rfl) (pda_cons (pd_un un_neg l_U (pd_fld (c := 0) (k := 0) (T.cl "Ratio") (T.no "Ratio" "top") fk_Ratio_top (pd_var (pv 0)))) (pda_cons (pd_fld (c := 0) (k := 1) (T.cl "Ratio") (T.no "Ratio" "bottom") fk_Ratio_bottom (pd_var (pv 0))) pda_nil)))), fun ds Q ex h => ?_⟩)
  · obtain ⟨t, b, rfl, _⟩ := h
    rfl
  · obtain ⟨t, b, rfl, hn, q⟩ := h
    have hm := hn.neg
    have hb : b ≠ 0 := Int.ne_of_gt hn.pos
    walk_at "go"
    intro _
    rw [nT_nrm hm, nB_nrm hm, gs_nrm hm]
    exact ⟨by decide, q⟩

def P_Ratio_over : Prm := fun ds Q ex => ∃ (t b u c : Int), ds = [R t b, R u c] ∧ 0 < b ∧ 0 < c ∧ IntMulOk t c ∧ IntMulOk b u ∧ (u = 0 → ex "ZeroBottom" (xD sh_ZeroBottom [])) ∧ (u ≠ 0 → (gs [t * c] (b * u)).natAbs < 2 ^ 8999 ∧ Q (R (nT (t * c) (b * u)) (nB (t * c) (b * u))))
theorem fn_Ratio_over (T : Txt LL K mg) (M : Mo cs sms cis K mg) : Nonempty (Fn P w K mg base (d_Ratio_over.at_ K) 6 2 P_Ratio_over) := by
  obtain ⟨⟨F_Ratio_init⟩, ⟨F_Ratio_init_d⟩⟩ := fn_Ratio_init (P := P) (w := w) (base := base) T M
  refine Fn.of (T.d 6 (d := d_Ratio_over)) sc_Ratio_over rfl (fun _ _ _ _ _ _ us hl => match us, hl with | [_, _], _ => rfl) (fun ds Q ex h => ?_) (fun fd cdv A outer s H E hr => ⟨_, pdss_one (pds_ret (pd_make (c := 0) (T.mkk "Ratio") F_Ratio_init (fun _ _ => .nil) (hr.mono (by decide)) (by rfl) (T.g "Ratio") (takes_of rfl rfl rfl rfl) (pda_cons (pd_op op_mulZ l_I (pd_fld (c := 0) (k := 0) (T.cl "Ratio") (T.no "Ratio" "top") fk_Ratio_top (pd_var (pv 0))) (pd_fld (c := 0) (k := 1) (T.cl "Ratio") (T.no "Ratio" "bottom") fk_Ratio_bottom (pd_var (pv 1)))) (pda_cons (pd_op op_mulZ l_I (pd_fld (c := 0) (k := 1) (T.cl "Ratio") (T.no "Ratio" "bottom") fk_Ratio_bottom (pd_var (pv 0))) (pd_fld (c := 0) (k := 0) (T.cl "Ratio") (T.no "Ratio" "top") fk_Ratio_top (pd_var (pv 1)))) pda_nil)))), fun ds Q ex h => ?_⟩)
  · obtain ⟨t, b, u, c, rfl, _⟩ := h
    rfl
  · obtain ⟨t, b, u, c, rfl, hb, hc, m1, m2, q0, q⟩ := h
    walk_at "go"
    refine ⟨fun z => q0 ?_, fun z => q fun e => z (by rw [e, Int.mul_zero])⟩
    rcases Int.mul_eq_zero.mp z with e | e
    · omega
    · exact e

def P_Ratio_str : Prm := fun ds Q ex => ∃ (t b : Int), ds = [R t b] ∧ 0 < b ∧ Q (.str (DX.wr t b))
theorem fn_Ratio_str (T : Txt LL K mg) (M : Mo cs sms cis K mg) : Nonempty (Fn P w K mg base (d_Ratio_str.at_ K) 2 1 P_Ratio_str) := by
  obtain ⟨F_is_long⟩ := fn_is_long (P := P) (w := w) (base := base) T M
  refine Fn.of (T.d 5 (d := d_Ratio_str)) sc_Ratio_str rfl (fun _ _ _ _ _ _ us hl => match us, hl with | [_], _ => rfl) (fun ds Q ex h => ?_) (fun fd cdv A outer s H E hr => ⟨_, pdss_cons (pds_if (PDW.pt (pdw_or (pdt_val (pd_call F_is_long (hr.mono (by decide)) (by rfl) (T.g "_is_long") (T.k "_is_long") (takes_of rfl rfl rfl rfl) (pda_cons (pd_fld (c := 0) (k := 0) (T.cl "Ratio") (T.no "Ratio" "top") fk_Ratio_top (pd_var (pv 0))) pda_nil))) (pdw_or1 (pdt_val (pd_call F_is_long (hr.mono (by decide)) (by rfl) (T.g "_is_long") (T.k "_is_long") (takes_of rfl rfl rfl rfl) (pda_cons (pd_fld (c := 0) (k := 1) (T.cl "Ratio") (T.no "Ratio" "bottom") fk_Ratio_bottom (pd_var (pv 0))) pda_nil)))))) (pdss_one (pds_ret (pd_str pe_str))) pdss_nil) (pdss_cons (pds_if (pdt_cmp op_eq l_eq (pd_fld (c := 0) (k := 1) (T.cl "Ratio") (T.no "Ratio" "bottom") fk_Ratio_bottom (pd_var (pv 0))) (pd_int pe_int) (nomark _)) (pdss_one (pds_ret (pd_cb (fun h => pe_callTy call_str_int (by rfl) (T.f "str") (by decide +kernel) h) l_strI (pda_cons (pd_fld (c := 0) (k := 0) (T.cl "Ratio") (T.no "Ratio" "top") fk_Ratio_top (pd_var (pv 0))) pda_nil)))) pdss_nil) (pdss_one (pds_ret (pd_joined (.cons (pd_fmt (pd_fld (c := 0) (k := 0) (T.cl "Ratio") (T.no "Ratio" "top") fk_Ratio_top (pd_var (pv 0)))) (.cons (pd_str pe_str) (.cons (pd_fmt (pd_fld (c := 0) (k := 1) (T.cl "Ratio") (T.no "Ratio" "bottom") fk_Ratio_bottom (pd_var (pv 0)))) .nil))))))), fun ds Q ex h => ?_⟩)
  · obtain ⟨t, b, rfl, _⟩ := h
    rfl
  · obtain ⟨t, b, rfl, hb, q⟩ := h
    walk_at "go"
    refine d_ite (fun c1 => ?_) (fun c1 => ?_)
    · walk_at "go"
      rw [DX.wr_long (.inl c1)] at q
      exact q
    walk_at "go"
    refine d_ite (fun c2 => ?_) (fun c2 => ?_)
    · walk_at "go"
      rw [DX.wr_long (.inr c2)] at q
      exact q
    have lt := DX.long_log c1
    have lb := DX.long_log c2
    walk_at "go"
    refine d_ite (fun c => ?_) (fun c => ?_)
    · have e : b = 1 := of_decide_eq_true c
      subst e
      walk_at "go"
      rw [DX.wr_one c1 c2] at q
      exact q
    · have e : b ≠ 1 := of_decide_eq_false c
      obtain ⟨z1, z2, z3⟩ := DX.wr_sz c1 c2
      walk_at "go"
      rw [DX.wr_two c1 c2 e hb] at q
      exact q
end
end K01

namespace K01
open PySem PySem.Spec PyProof.Rows L2 LR DL
section
variable {P : Program} {w : World} {K : PySem.W.Frag} {mg : Str → Option Value} {base : Heap}
local macro_rules | `(tactic| walk_at "side") => `(tactic| first | rfl | assumption | omega | exact mulL (by omega) (by omega) | exact mulR (by omega) (by omega) | exact mulF (by decide) (by decide) | exact ⟨by decide, by decide +kernel⟩ | decide | (simp only [List.length_cons, List.length_nil, List.length_map, List.nil_append, List.cons_append, sizeLine_eq]; omega) | (simp only [List.map_cons, List.map_nil, List.nil_append, List.cons_append]; decide +kernel))
local macro_rules | `(tactic| walk_at "go") => `(tactic| repeat (first
  | refine ⟨_, rfl, ?_⟩
  | refine ⟨_, _, rfl, rfl, ?_⟩
  | refine ⟨_, _, rfl, ?_⟩
  | refine ⟨_, _, _, rfl, rfl, ?_⟩
  | refine ⟨_, _, _, rfl, ?_⟩
  | refine ⟨_, _, _, _, rfl, rfl, ?_⟩
  | refine ⟨_, _, _, _, rfl, ?_⟩
  | refine ⟨_, _, _, rfl, rfl, by assumption, ?_⟩
  | refine .inl ⟨_, rfl, ?_⟩
  | refine .inr ⟨_, rfl, ?_⟩
  | refine .inr (.inl ⟨_, rfl, ?_⟩)
  | refine And.intro (by walk_at "side") ?_))

theorem fn_law_is_integer (T : Txt LL K mg) (M : Mo cs sms cis K mg) : Nonempty (Fn P w K mg base (d_law_is_integer.at_ K) 1 1 P_law_is_integer) := by
  refine Fn.of (T.d 15 (d := d_law_is_integer)) sc_law_is_integer rfl (fun _ _ _ _ _ _ us hl => match us, hl with | [_], _ => rfl) (fun ds Q ex h => ?_) (fun fd cdv A outer s H E hr => ⟨_, pdss_one (pds_ret (pd_and (pd_isi (cr := .int) M.isi M.cls (fun c h => nomatch h) (fun h => pe_callB call_isi (by rfl) (T.f "isinstance") (by decide +kernel) (pa_cons h (pa_cons (pe_bltn (v := .ty "int") (by rfl) (T.f "int") (by decide +kernel) rfl) pa_nil))) (pd_var (pv 0))) (pd_one (pd_not (pd_isi (cr := .bool) M.isi M.cls (fun c h => nomatch h) (fun h => pe_callB call_isi (by rfl) (T.f "isinstance") (by decide +kernel) (pa_cons h (pa_cons (pe_bltn (v := .ty "bool") (by rfl) (T.f "bool") (by decide +kernel) rfl) pa_nil))) (pd_var (pv 0))))))), fun ds Q ex h => ?_⟩)
  · obtain ⟨i, rfl, _⟩ := h
    rfl
  · obtain ⟨i, rfl, q⟩ := h
    walk_at "go"
    exact q

theorem fn_law_gcd (T : Txt LL K mg) (M : Mo cs sms cis K mg) : Nonempty (Fn P w K mg base (d_law_gcd.at_ K) 1 2 P_law_gcd) := by
  refine Fn.of (T.d 16 (d := d_law_gcd)) sc_law_gcd rfl (fun _ _ _ _ _ _ us hl => match us, hl with | [_, _], _ => rfl) (fun ds Q ex h => ?_) (fun fd cdv A outer s H E hr => ⟨_, pdss_cons (pds_set (i := 0) sc_law_gcd.nd rfl (by first | exact Or.inl rfl | exact Or.inr rfl) (pd_cb (fun h => pe_callB call_abs (by rfl) (T.f "abs") (by decide +kernel) h) l_abs (pda_cons (pd_var (pv 0)) pda_nil))) (pdss_cons (pds_set (i := 1) sc_law_gcd.nd rfl (by first | exact Or.inl rfl | exact Or.inr rfl) (pd_cb (fun h => pe_callB call_abs (by rfl) (T.f "abs") (by decide +kernel) h) l_abs (pda_cons (pd_var (pv 1)) pda_nil))) (pdss_cons (pds_for (passes_of rfl) rfl (pdi_range1 rfl (T.f "range") (pda_cons (pd_op op_add l_I0 (pd_op op_mulZ l_I (pd_int pe_int) (pd_bits (pd_var (pv 1)))) (pd_int pe_int)) pda_nil)) (pdg_name (pg_name (i := 2) sc_law_gcd.nd rfl (by first | exact Or.inl rfl | exact Or.inr rfl))) (pdss_cons (pds_if (pdt_cmp op_eq l_eq (pd_var (pv 1)) (pd_int pe_int) (nomark _)) (pdss_one (pds_ret (pd_var (pv 0)))) pdss_nil) (pdss_one (pds_par (i := 0) (j := 1) (by rfl) sc_law_gcd.nd rfl rfl (by decide) rfl rfl (pd_var (pv 1)) (pd_op op_modN l_I (pd_cb (fun h => pe_callTy call_int1 (by rfl) (T.f "int") (by decide +kernel) h) l_int (pda_cons (pd_var (pv 0)) pda_nil)) (pd_var (pv 1))) (by rfl))))) (pdss_one (pds_ret (pd_var (pv 0)))))), fun ds Q ex h => ?_⟩)
  · obtain ⟨a, b, rfl, _⟩ := h
    rfl
  · obtain ⟨a, b, rfl, hb, q⟩ := h
    have hbits : Builtin.Int.intBits ((b.natAbs : Nat) : Int) ≤ 8999 := PyProof.Rows.intBits_le (by rw [Int.natAbs_natCast]; exact hb)
    have hB : b.natAbs < 2 ^ Builtin.Int.intBits ((b.natAbs : Nat) : Int) := by
      have z := bits_hi ((b.natAbs : Nat) : Int)
      rw [Int.natAbs_natCast] at z
      exact z
    rw [Nat.gcd_comm] at q
    walk_at "go"
    refine ⟨fun i env => ∃ (x y : Nat) (v : Sl), env = [.val (.int (x : Int)), .val (.int (y : Int)), v] ∧ Euc (Nat.gcd a.natAbs b.natAbs) b.natAbs i x y, fun _ => ⟨_, _, _, rfl, Euc.start _ _⟩, ?_, ?_⟩
    · rintro i _ env hx ⟨x, y, v, rfl, hE⟩
      obtain ⟨hi, rfl⟩ := rng_at hx
      walk_at "go"
      refine d_ite (fun c => ?_) (fun c => ?_)
      · have c1 : (y : Int) = 0 := of_decide_eq_true c
        have c2 : y = 0 := by omega
        subst c2
        rw [← hE.ret] at q
        walk_at "go"
        exact q
      · have c1 : ¬ (y : Int) = 0 := of_decide_eq_false c
        walk_at "go"
        have em : Int.fmod (x : Int) (y : Int) = ((x % y : Nat) : Int) := by
          rw [Int.fmod_eq_emod_of_nonneg _ (Int.natCast_nonneg _)]
          rfl
        exact fun _ => ⟨y, x % y, _, by rw [← em]; rfl, hE.step (by omega)⟩
    · rintro env ⟨x, y, v, rfl, hE⟩
      rw [rng_len] at hE
      generalize Builtin.Int.intBits ((b.natAbs : Nat) : Int) = n at hB hE
      rw [show ((2 : Int) * (n : Int) + 2).toNat = 2 * n + 2 by omega] at hE
      obtain ⟨_, e⟩ := hE.done hB
      rw [← e] at q
      walk_at "go"
      exact q

theorem fn_law_ratio (T : Txt LL K mg) (M : Mo cs sms cis K mg) : Nonempty (Fn P w K mg base (d_law_ratio.at_ K) 2 2 P_law_ratio) := by
  obtain ⟨F_law_gcd⟩ := fn_law_gcd (P := P) (w := w) (base := base) T M
  refine Fn.of (T.d 17 (d := d_law_ratio)) sc_law_ratio rfl (fun _ _ _ _ _ _ us hl => match us, hl with | [_, _], _ => rfl) (fun ds Q ex h => ?_) (fun fd cdv A outer s H E hr => ⟨_, pdss_cons (pds_set (i := 2) sc_law_ratio.nd rfl (by first | exact Or.inl rfl | exact Or.inr rfl) (pd_call F_law_gcd (hr.mono (by decide)) (by rfl) (T.g "_law_gcd") (T.k "_law_gcd") (takes_of rfl rfl rfl rfl) (pda_cons (pd_var (pv 0)) (pda_cons (pd_var (pv 1)) pda_nil)))) (pdss_cons (pds_if (pdt_cmp op_lt l_B0 (pd_var (pv 1)) (pd_int pe_int) (nomark _)) (pdss_one (pds_set (i := 2) sc_law_ratio.nd rfl (by first | exact Or.inl rfl | exact Or.inr rfl) (pd_un un_neg l_U (pd_var (pv 2))))) pdss_nil) (pdss_one (pds_ret (pd_tup (pda_cons (pd_op op_fdivZ l_I (pd_var (pv 0)) (pd_var (pv 2))) (pda_cons (pd_op op_fdivZ l_I (pd_var (pv 1)) (pd_var (pv 2))) pda_nil)))))), fun ds Q ex h => ?_⟩)
  · obtain ⟨t, b, rfl, _⟩ := h
    rfl
  · obtain ⟨t, b, rfl, hb, hs, q⟩ := h
    have hdv : ∀ i, CDivZ i (gs [t] b) := fun i => divZ (gs_ne hb) (Nat.lt_of_le_of_lt (gs_le hb) hs) (by decide) (by decide)
    have hd1 := hdv t
    have hd2 := hdv b
    walk_at "go"
    refine d_ite (fun c => ?_) (fun c => ?_)
    · have c1 : b < 0 := of_decide_eq_true c
      have e : -((Nat.gcd b.natAbs t.natAbs : Nat) : Int) = gs [t] b := by
        unfold gs
        rw [if_neg (by omega), cg1]
      rw [← e] at hd1 hd2
      walk_at "go"
      unfold nT nB at q
      rw [← e] at q
      exact q
    · have c1 : ¬ b < 0 := of_decide_eq_false c
      have e : ((Nat.gcd b.natAbs t.natAbs : Nat) : Int) = gs [t] b := by
        unfold gs
        rw [if_pos (by omega), cg1]
      rw [← e] at hd1 hd2
      walk_at "go"
      unfold nT nB at q
      rw [← e] at q
      exact q


def P_law_numbers : Prm := fun ds Q _ => ∃ ns : List Int, ds = [.lst (ns.map D.int)] ∧ ns.length ≤ 63 ∧ ∀ t b : Int, b ≠ 0 → t.natAbs < 2 ^ 4000 → b.natAbs < 2 ^ 4000 → Q (.lst [.int t, .int b])
theorem two_pick (x y : Int) (k : Int) : ∃ e : Int, atI [D.int x, D.int y] (k.fmod 2) = some (.int e) ∧ (e = x ∨ e = y) := by
  obtain ⟨z, e, hm⟩ := pick (l := [D.int x, D.int y]) (k := k.fmod 2) (n := 2) rfl (fmod_lo _ (by decide)) (fmod_hi _ (by decide))
  simp only [List.mem_cons, List.not_mem_nil, or_false] at hm
  rcases hm with rfl | rfl
  · exact ⟨_, e, .inl rfl⟩
  · exact ⟨_, e, .inr rfl⟩

theorem fn_law_numbers (T : Txt LL K mg) (M : Mo cs sms cis K mg) : Nonempty (Fn P w K mg base (d_law_numbers.at_ K) 3 1 P_law_numbers) := by
  obtain ⟨F_law_draws⟩ := fn_law_draws (P := P) (w := w) (base := base) T M
  obtain ⟨F_law_small⟩ := fn_law_small (P := P) (w := w) (base := base) T M
  obtain ⟨F_law_cell⟩ := fn_law_cell (P := P) (w := w) (base := base) T M
  refine Fn.of (T.d 18 (d := d_law_numbers)) sc_law_numbers rfl (fun _ _ _ _ _ _ us hl => match us, hl with | [_], _ => rfl) (fun ds Q ex h => ?_) (fun fd cdv A outer s H E hr => ⟨_, pdss_cons (pds_set (i := 1) sc_law_numbers.nd rfl (by first | exact Or.inl rfl | exact Or.inr rfl) (pd_call F_law_draws (hr.mono (by decide)) (by rfl) (T.g "_law_draws") (T.k "_law_draws") (takes_of rfl rfl rfl rfl) (pda_cons (pd_var (pv 0)) (pda_cons (pd_int pe_int) (pda_cons (pd_int pe_int) pda_nil))))) (pdss_cons (pds_set (i := 2) sc_law_numbers.nd rfl (by first | exact Or.inl rfl | exact Or.inr rfl) (pd_op op_modN l_I (pd_cb (fun h => pe_callTy call_int1 (by rfl) (T.f "int") (by decide +kernel) h) l_int (pda_cons (pd_ix ix_list l_ixL (pd_var (pv 1)) (pd_int pe_int) (fun _ _ => rfl)) pda_nil)) (pd_int pe_int))) (pdss_cons (pds_set (i := 3) sc_law_numbers.nd rfl (by first | exact Or.inl rfl | exact Or.inr rfl) (pd_op op_powZ l_I (pd_op op_powZ l_I (pd_int pe_int) (pd_int pe_int)) (pd_int pe_int))) (pdss_cons (pds_set (i := 4) sc_law_numbers.nd rfl (by first | exact Or.inl rfl | exact Or.inr rfl) (pd_ix ix_list l_ixL (pd_new (pdn_lst (pda_cons (pd_op op_powZ l_I (pd_int pe_int) (pd_int pe_int)) (pda_cons (pd_op op_powZ l_I (pd_int pe_int) (pd_int pe_int)) pda_nil)))) (pd_op op_modN l_I (pd_cb (fun h => pe_callTy call_int1 (by rfl) (T.f "int") (by decide +kernel) h) l_int (pda_cons (pd_ix ix_list l_ixL (pd_var (pv 1)) (pd_int pe_int) (fun _ _ => rfl)) pda_nil)) (pd_int pe_int)) (fun _ _ => rfl))) (pdss_cons (pds_for (passes_of rfl) rfl (pdi_range1 rfl (T.f "range") (pda_cons (pd_int pe_int) pda_nil)) (pdg_name (pg_name (i := 5) sc_law_numbers.nd rfl (by first | exact Or.inl rfl | exact Or.inr rfl))) (pdss_one (pds_set (i := 4) sc_law_numbers.nd rfl (by first | exact Or.inl rfl | exact Or.inr rfl) (pd_op op_mulZ l_I (pd_var (pv 4)) (pd_op op_powZ l_I (pd_int pe_int) (pd_int pe_int)))))) (pdss_cons (pds_lcN (i := 6) (own := [("k", 7)]) rfl sc_law_numbers.nd rfl rfl (sw_true rfl rfl rfl (by decide +kernel)) (pdi_range1 rfl (T.f "range") (pda_cons (pd_int pe_int) pda_nil)) (blkOk_by (N := ["script", "draws", "kind", "limit", "edge", "lap", "numbers", "k"]) (sc := defScope s_law_numbers) (by decide +kernel)) (by decide) (fun _ _ _ _ _ => (pdg_name (pg_name (i := 7) sc_law_numbers.nd rfl (Or.inl rfl)))) (fun _ _ _ _ _ => pdts_nil) (fun _ _ _ _ _ => pd_call F_law_small (hr.mono (by decide)) (by rfl) (T.g "_law_small") (T.k "_law_small") takes0 (pda_cons (pd_ix ix_list l_ixL (pd_call F_law_draws (hr.mono (by decide)) (by rfl) (T.g "_law_draws") (T.k "_law_draws") takes0 (pda_cons (pd_var (pv 0)) (pda_cons (pd_var (pv 7)) (pda_cons (pd_int pe_int) pda_nil)))) (pd_int pe_int) (fun _ _ => rfl)) pda_nil))) (pdss_cut (pds_if (PDW.pt (pdw_or (pdt_cmp op_eq l_eq (pd_var (pv 2)) (pd_int pe_int) (nomark _)) (pdw_or (pdt_cmp op_eq l_eq (pd_var (pv 2)) (pd_int pe_int) (nomark _)) (pdw_or1 (pdt_cmp op_eq l_eq (pd_var (pv 2)) (pd_int pe_int) (nomark _)))))) (pdss_one (pds_lcN (i := 6) (own := [("k", 7)]) rfl sc_law_numbers.nd rfl rfl (sw_true rfl rfl rfl (by decide +kernel)) (pdi_range1 rfl (T.f "range") (pda_cons (pd_int pe_int) pda_nil)) (blkOk_by (N := ["script", "draws", "kind", "limit", "edge", "lap", "numbers", "k"]) (sc := defScope s_law_numbers) (by decide +kernel)) (by decide) (fun _ _ _ _ _ => (pdg_name (pg_name (i := 7) sc_law_numbers.nd rfl (Or.inl rfl)))) (fun _ _ _ _ _ => pdts_nil) (fun _ _ _ _ _ => pd_op op_modN l_I (pd_cb (fun h => pe_callTy call_int1 (by rfl) (T.f "int") (by decide +kernel) h) l_int (pda_cons (pd_call F_law_cell (hr.mono (by decide)) (by rfl) (T.g "_law_cell") (T.k "_law_cell") takes0 (pda_cons (pd_var (pv 0)) (pda_cons (pd_var (pv 7)) pda_nil))) pda_nil)) (pd_var (pv 3))))) pdss_nil) (pdss_cut (pds_if (PDW.pt (pdw_or (pdt_cmp op_eq l_eq (pd_var (pv 2)) (pd_int pe_int) (nomark _)) (pdw_or1 (pdt_cmp op_eq l_eq (pd_var (pv 2)) (pd_int pe_int) (nomark _))))) (pdss_one (pds_put (i := 6) (kk := ⟨0, 0, 0, 0⟩) (fun h => pg_sub (pv 6) h set_list) (pd_op op_add l_I0 (pd_var (pv 4)) (pd_ix ix_list l_ixL (pd_new (pdn_lst (pda_cons (pd_int pe_int) (pda_cons (pd_int pe_int) (pda_cons (pd_un un_neg l_U (pd_int pe_int)) (pda_cons (pd_int pe_int) pda_nil)))))) (pd_op op_modN l_I (pd_cb (fun h => pe_callTy call_int1 (by rfl) (T.f "int") (by decide +kernel) h) l_int (pda_cons (pd_ix ix_list l_ixL (pd_var (pv 1)) (pd_int pe_int) (fun _ _ => rfl)) pda_nil)) (pd_int pe_int)) (fun _ _ => rfl))) (pd_op op_sub l_I0 (pd_var (pv 2)) (pd_int pe_int)))) pdss_nil) (pdss_cut (pds_if (pdt_cmp op_eq l_eq (pd_op op_modN l_I (pd_cb (fun h => pe_callTy call_int1 (by rfl) (T.f "int") (by decide +kernel) h) l_int (pda_cons (pd_ix ix_list l_ixL (pd_var (pv 1)) (pd_int pe_int) (fun _ _ => rfl)) pda_nil)) (pd_int pe_int)) (pd_int pe_int) (nomark _)) (pdss_one (pds_put (i := 6) (kk := ⟨0, 0, 0, 0⟩) (fun h => pg_sub (pv 6) h set_list) (pd_un un_neg l_U (pd_ixO ix_list (pv 6) (pd_int pe_int) (fun _ _ => rfl))) (pd_int pe_int))) pdss_nil) (pdss_cons (pds_if (pdt_cmp op_eq l_eq (pd_ixO ix_list (pv 6) (pd_int pe_int) (fun _ _ => rfl)) (pd_int pe_int) (nomark _)) (pdss_one (pds_put (i := 6) (kk := ⟨0, 0, 0, 0⟩) (fun h => pg_sub (pv 6) h set_list) (pd_int pe_int) (pd_int pe_int))) pdss_nil) (pdss_frz 6 (pdss_one (pds_ret (pd_var (pv 6)))))))))))))), fun ds Q ex h => ?_⟩)
  · obtain ⟨ns, rfl, _⟩ := h
    rfl
  · obtain ⟨ns, rfl, hl, q⟩ := h
    walk_at "go"
    intro zs hz hb
    have hzl : zs.length = 8 := by omega
    obtain ⟨z0, m0, _, e0⟩ := at_ex (l := zs) (k := 0) (by decide) (by omega)
    obtain ⟨z1, m1, _, e1⟩ := at_ex (l := zs) (k := 1) (by decide) (by omega)
    obtain ⟨z2, m2, _, e2⟩ := at_ex (l := zs) (k := 2) (by decide) (by omega)
    obtain ⟨z3, m3, _, e3⟩ := at_ex (l := zs) (k := 3) (by decide) (by omega)
    obtain ⟨e, ee, he⟩ := two_pick (10 ^ 49) (10 ^ 50) z2
    have hlim : ∀ v : Int, (v.fmod (((10 : Int) ^ (50 : Int).toNat) ^ (20 : Int).toNat)).natAbs < 2 ^ 4000 := fun v => by
      have a1 := fmod_lo v (j := ((10 : Int) ^ (50 : Int).toNat) ^ (20 : Int).toNat) (by decide +kernel)
      have a2 := fmod_hi v (j := ((10 : Int) ^ (50 : Int).toNat) ^ (20 : Int).toNat) (by decide +kernel)
      have a3 : ((10 : Int) ^ (50 : Int).toNat) ^ (20 : Int).toNat < ((2 ^ 4000 : Nat) : Int) := by decide +kernel
      generalize ((10 : Int) ^ (50 : Int).toNat) ^ (20 : Int).toNat = j at a1 a2 a3
      generalize (2 ^ 4000 : Nat) = m at a3 ⊢
      omega
    walk_at "go"
    refine ⟨fun i env => ∃ (e : Int) (v : Sl), env = [.val (.lst (ns.map D.int)), .val (.lst (zs.map D.int)), .val (.int (z0.fmod 8)), .val (.int (((10 : Int) ^ (50 : Int).toNat) ^ (20 : Int).toNat)), .val (.int e), v, .no, .no] ∧ e.natAbs < 2 ^ (167 * (i + 1)), fun _ => ⟨e, _, rfl, ?_⟩, ?_, ?_⟩
    · rcases he with rfl | rfl <;> decide +kernel
    · rintro i _ env hx ⟨e, v, rfl, hbe⟩
      obtain ⟨hi, rfl⟩ := rng_at hx
      have h10 : ((10 : Int) ^ (50 : Int).toNat).natAbs < 2 ^ 167 := by decide +kernel
      have hi' : i < 7 := by simpa using hi
      have hm : IntMulOk e ((fun (i j : Int) => i ^ j.toNat) 10 50) := mulW hbe h10 (by omega) (by decide) (by omega)
      walk_at "go"
      exact fun _ => ⟨_, _, rfl, abs_mul_lt hbe h10⟩
    rintro env ⟨e, v, rfl, hbe⟩
    have hbe : e.natAbs < 2 ^ 2000 := abs_up hbe (by rw [rng_len]; decide)
    walk_at "go"
    refine ⟨fun i z => ∃ v : Int, z = some (.int v) ∧ v.natAbs < 2 ^ 4000, ?_, ?_⟩
    · intro i x hx
      obtain ⟨hi, rfl⟩ := rng_at hx
      walk_at "go"
      intro ys hys hby
      obtain ⟨y0, n0, _, f0⟩ := at_ex (l := ys) (k := 0) (by decide) (by omega)
      have hy := hby y0 n0
      walk_at "go"
      exact fun v v0 v1 _ => ⟨v, rfl, abs_up (a := 6) (by omega) (by decide)⟩
    intro rs hrs hR
    obtain ⟨ms, em, hml, hmP⟩ := lc_map D.int (P := fun _ v => v.natAbs < 2 ^ 4000) hrs hR
    obtain ⟨a, b, rfl⟩ := len2 (by simpa [rng_len] using hml)
    have ha : a.natAbs < 2 ^ 4000 := hmP 0 a rfl
    have hb : b.natAbs < 2 ^ 4000 := hmP 1 b rfl
    rw [em]
    refine ⟨fun env => ∃ (a b : Int) (v : Sl), env = [.val (.lst (ns.map D.int)), .val (.lst (zs.map D.int)), .val (.int (z0.fmod 8)), .val (.int (((10 : Int) ^ (50 : Int).toNat) ^ (20 : Int).toNat)), .val (.int e), v, .own [.int a, .int b], .no] ∧ a.natAbs < 2 ^ 4000 ∧ b.natAbs < 2 ^ 4000, ?_, ?_⟩
    · walk_at "go"
      refine d_ite (fun c1 => ?_) (fun c1 => ?_)
      · walk_at "go"
        refine ⟨fun i z => ∃ v : Int, z = some (.int v) ∧ v.natAbs < 2 ^ 4000, ?_, ?_⟩
        · intro i x hx
          obtain ⟨hi, rfl⟩ := rng_at hx
          walk_at "go"
          intro v v0
          walk_at "go"
          exact fun _ => ⟨_, rfl, hlim v⟩
        · intro rs hrs hR
          obtain ⟨ms, em, hml, hmP⟩ := lc_map D.int (P := fun _ v => v.natAbs < 2 ^ 4000) hrs hR
          obtain ⟨a2, b2, rfl⟩ := len2 (by simpa [rng_len] using hml)
          rw [em]
          walk_at "go"
          exact fun _ => ⟨a2, b2, _, rfl, hmP 0 a2 rfl, hmP 1 b2 rfl⟩
      walk_at "go"
      refine d_ite (fun c2 => ?_) (fun c2 => ?_)
      · walk_at "go"
        refine ⟨fun i z => ∃ v : Int, z = some (.int v) ∧ v.natAbs < 2 ^ 4000, ?_, ?_⟩
        · intro i x hx
          obtain ⟨hi, rfl⟩ := rng_at hx
          walk_at "go"
          intro v v0
          walk_at "go"
          exact fun _ => ⟨_, rfl, hlim v⟩
        · intro rs hrs hR
          obtain ⟨ms, em, hml, hmP⟩ := lc_map D.int (P := fun _ v => v.natAbs < 2 ^ 4000) hrs hR
          obtain ⟨a2, b2, rfl⟩ := len2 (by simpa [rng_len] using hml)
          rw [em]
          walk_at "go"
          exact fun _ => ⟨a2, b2, _, rfl, hmP 0 a2 rfl, hmP 1 b2 rfl⟩
      walk_at "go"
      refine d_ite (fun c3 => ?_) (fun c3 => ?_)
      · walk_at "go"
        refine ⟨fun i z => ∃ v : Int, z = some (.int v) ∧ v.natAbs < 2 ^ 4000, ?_, ?_⟩
        · intro i x hx
          obtain ⟨hi, rfl⟩ := rng_at hx
          walk_at "go"
          intro v v0
          walk_at "go"
          exact fun _ => ⟨_, rfl, hlim v⟩
        · intro rs hrs hR
          obtain ⟨ms, em, hml, hmP⟩ := lc_map D.int (P := fun _ v => v.natAbs < 2 ^ 4000) hrs hR
          obtain ⟨a2, b2, rfl⟩ := len2 (by simpa [rng_len] using hml)
          rw [em]
          walk_at "go"
          exact fun _ => ⟨a2, b2, _, rfl, hmP 0 a2 rfl, hmP 1 b2 rfl⟩
      walk_at "go"
      exact fun _ => ⟨_, _, _, rfl, ha, hb⟩
    clear ha hb
    rintro env ⟨a, b, v, rfl, ha, hb⟩
    refine ⟨fun env => ∃ (a b : Int) (v : Sl), env = [.val (.lst (ns.map D.int)), .val (.lst (zs.map D.int)), .val (.int (z0.fmod 8)), .val (.int (((10 : Int) ^ (50 : Int).toNat) ^ (20 : Int).toNat)), .val (.int e), v, .own [.int a, .int b], .no] ∧ a.natAbs < 2 ^ 4000 ∧ b.natAbs < 2 ^ 4000, ?_, ?_⟩
    · obtain ⟨x4, hx4, hmem⟩ : ∃ x4 : Int, atI [D.int 0, D.int 0, D.int (-1), D.int 2] (z3.fmod 4) = some (.int x4) ∧ x4.natAbs < 3 := by
        obtain ⟨z, e, hm⟩ := pick (l := [D.int 0, D.int 0, D.int (-1), D.int 2]) (k := z3.fmod 4) (n := 4) rfl (fmod_lo _ (by decide)) (fmod_hi _ (by decide))
        simp only [List.mem_cons, List.not_mem_nil, or_false] at hm
        rcases hm with rfl | rfl | rfl | rfl <;> exact ⟨_, e, by decide⟩
      have hsum : (e + x4).natAbs < 2 ^ 4000 := abs_up (abs_add_lt hbe (abs_up (a := 2) (by omega) (by decide))) (by decide)
      walk_at "go"
      refine d_ite (fun c4 => ?_) (fun c4 => ?_)
      · have hk : z0.fmod 8 = 4 := of_decide_eq_true c4
        walk_at "go"
        rw [hk]
        walk_at "go"
        exact fun _ => ⟨_, _, _, rfl, hsum, hb⟩
      walk_at "go"
      refine d_ite (fun c5 => ?_) (fun c5 => ?_)
      · have hk : z0.fmod 8 = 5 := of_decide_eq_true c5
        walk_at "go"
        rw [hk]
        walk_at "go"
        exact fun _ => ⟨_, _, _, rfl, ha, hsum⟩
      walk_at "go"
      exact fun _ => ⟨_, _, _, rfl, ha, hb⟩
    clear ha hb
    rintro env ⟨a, b, v, rfl, ha, hb⟩
    refine ⟨fun env => ∃ (a b : Int) (v : Sl), env = [.val (.lst (ns.map D.int)), .val (.lst (zs.map D.int)), .val (.int (z0.fmod 8)), .val (.int (((10 : Int) ^ (50 : Int).toNat) ^ (20 : Int).toNat)), .val (.int e), v, .own [.int a, .int b], .no] ∧ a.natAbs < 2 ^ 4000 ∧ b.natAbs < 2 ^ 4000, ?_, ?_⟩
    · walk_at "go"
      refine d_ite (fun c1 => ?_) (fun c1 => ?_)
      · walk_at "go"
        exact fun _ => ⟨_, _, _, rfl, by rw [Int.natAbs_neg]; exact ha, hb⟩
      · walk_at "go"
        exact fun _ => ⟨_, _, _, rfl, ha, hb⟩
    clear ha hb
    rintro env ⟨a, b, v, rfl, ha, hb⟩
    walk_at "go"
    refine d_ite (fun c1 => ?_) (fun c1 => ?_)
    · walk_at "go"
      exact q _ _ (by decide) ha (by decide +kernel)
    · walk_at "go"
      exact q _ _ (of_decide_eq_false c1) ha hb
end
end K01

namespace K01
open PySem PySem.Spec PyProof.Rows L2 LR DL
section
variable {P : Program} {w : World} {K : PySem.W.Frag} {mg : Str → Option Value} {base : Heap}
local macro_rules | `(tactic| walk_at "side") => `(tactic| first | rfl | assumption | exact ⟨_, rfl⟩ | omega | exact mulL (by omega) (by omega) | exact mulR (by omega) (by omega) | exact mulF (by decide) (by decide) | exact ⟨by decide, by decide +kernel⟩ | decide | exact Nat.le_of_ble_eq_true rfl | (simp only [List.length_cons, List.length_nil, List.length_map, List.nil_append, List.cons_append, sizeLine_eq]; omega) | (simp only [List.map_cons, List.map_nil, List.nil_append, List.cons_append]; decide +kernel))
local macro_rules | `(tactic| walk_at "go") => `(tactic| repeat (first
  | refine ⟨_, rfl, ?_⟩
  | refine ⟨_, _, rfl, rfl, ?_⟩
  | refine ⟨_, _, rfl, ?_⟩
  | refine ⟨_, _, _, rfl, rfl, ?_⟩
  | refine ⟨_, _, _, rfl, ?_⟩
  | refine ⟨_, _, _, _, rfl, rfl, ?_⟩
  | refine ⟨_, _, _, _, rfl, ?_⟩
  | refine ⟨_, _, rfl, by assumption, ?_⟩
  | refine ⟨_, _, _, rfl, rfl, rfl, ?_⟩
  | refine ⟨_, _, _, rfl, rfl, by assumption, ?_⟩
  | refine ⟨_, _, _, rfl, rfl, by walk_at "side", by assumption, ?_⟩
  | refine ⟨_, _, _, rfl, rfl, by walk_at "side", rfl, ?_⟩
  | refine ⟨_, _, _, rfl, rfl, rfl, by assumption, ?_⟩
  | refine .inl ⟨_, rfl, ?_⟩
  | refine .inr ⟨_, rfl, ?_⟩
  | refine .inr (.inl ⟨_, rfl, ?_⟩)
  | refine .inr (.inr ⟨_, rfl, ?_⟩)
  | refine And.intro (by walk_at "side") ?_))


def P_law_written : Prm := fun ds Q _ => ∃ t b : Int, ds = [.tup [.int t, .int b]] ∧ 0 < b ∧ Q (.str (DX.wr t b))
def P_law_sign : Prm := fun ds Q _ => ∃ d r : Int, ds = [.int d, .int r] ∧ ∀ s : Str, s.length = 1 → OkS s → Q (.str s)
def P_law_spoilt : Prm := fun ds Q _ => ∃ (x : Str) (r k : Int) (z : Str), ds = [.str x, .int r, .int k, .str z] ∧ x.length ≤ 1000 ∧ z.length = 1 ∧ OkS x ∧ OkS z ∧ ∀ s : Str, s.length ≤ 10000 → OkS s → Q (.str s)
def P_law_odd : Prm := fun ds Q _ => ∃ d : Int, ds = [.int d] ∧ ∀ s : Str, s.length ≤ 10000 → OkS s → Q (.str s)
def P_law_many_digits : Prm := fun ds Q _ => ∃ zs : List Int, ds = [.lst (zs.map D.int)] ∧ zs.length = 44 ∧ ∀ s : Str, s.length ≤ 10000 → OkS s → Q (.str s)
def P_law_texts : Prm := fun ds Q _ => ∃ (ns : List Int) (x : Str), ds = [.lst (ns.map D.int), .str x] ∧ ns.length ≤ 63 ∧ x.length ≤ 1000 ∧ OkS x ∧ ∀ ys : List Str, (∀ y ∈ ys, y.length ≤ 10000 ∧ OkS y) → Q (.lst (ys.map D.str))

theorem fn_law_written (T : Txt LL K mg) (M : Mo cs sms cis K mg) : Nonempty (Fn P w K mg base (d_law_written.at_ K) 1 1 P_law_written) := by
  refine Fn.of (T.d 19 (d := d_law_written)) sc_law_written rfl (fun _ _ _ _ _ _ us hl => match us, hl with | [_], _ => rfl) (fun ds Q ex h => ?_) (fun fd cdv A outer s H E hr => ⟨_, pdss_cons (pds_set (i := 1) sc_law_written.nd rfl (by first | exact Or.inl rfl | exact Or.inr rfl) (pd_op op_powZ l_I (pd_op op_powZ l_I (pd_int pe_int) (pd_int pe_int)) (pd_int pe_int))) (pdss_cons (pds_if (PDW.pt (pdw_or (pdt_cmp op_ge l_B0 (pd_cb (fun h => pe_callB call_abs (by rfl) (T.f "abs") (by decide +kernel) h) l_abs (pda_cons (pd_ix ix_tup l_ixT (pd_var (pv 0)) (pd_int pe_int) (fun _ _ => rfl)) pda_nil)) (pd_var (pv 1)) (nomark _)) (pdw_or1 (pdt_cmp op_ge l_B0 (pd_ix ix_tup l_ixT (pd_var (pv 0)) (pd_int pe_int) (fun _ _ => rfl)) (pd_var (pv 1)) (nomark _))))) (pdss_one (pds_ret (pd_str pe_str))) pdss_nil) (pdss_cons (pds_if (pdt_cmp op_eq l_eq (pd_ix ix_tup l_ixT (pd_var (pv 0)) (pd_int pe_int) (fun _ _ => rfl)) (pd_int pe_int) (nomark _)) (pdss_one (pds_ret (pd_cb (fun h => pe_callTy call_str_int (by rfl) (T.f "str") (by decide +kernel) h) l_strI (pda_cons (pd_ix ix_tup l_ixT (pd_var (pv 0)) (pd_int pe_int) (fun _ _ => rfl)) pda_nil)))) pdss_nil) (pdss_one (pds_ret (pd_op op_add_str l_addS (pd_op op_add_str l_addS (pd_cb (fun h => pe_callTy call_str_int (by rfl) (T.f "str") (by decide +kernel) h) l_strI (pda_cons (pd_ix ix_tup l_ixT (pd_var (pv 0)) (pd_int pe_int) (fun _ _ => rfl)) pda_nil)) (pd_str pe_str)) (pd_cb (fun h => pe_callTy call_str_int (by rfl) (T.f "str") (by decide +kernel) h) l_strI (pda_cons (pd_ix ix_tup l_ixT (pd_var (pv 0)) (pd_int pe_int) (fun _ _ => rfl)) pda_nil))))))), fun ds Q ex h => ?_⟩)
  · obtain ⟨t, b, rfl, _⟩ := h
    rfl
  · obtain ⟨t, b, rfl, hb, q⟩ := h
    have e2 : (fun (i j : Int) => i ^ j.toNat) ((fun (i j : Int) => i ^ j.toNat) (10 : Int) (50 : Int)) (8 : Int) = 10 ^ 400 := by decide +kernel
    walk_at "go"
    refine d_ite (fun c1 => ?_) (fun c1 => ?_)
    · walk_at "go"
      rw [e2] at c1
      rw [DX.wr_long (.inl c1)] at q
      exact q
    walk_at "go"
    have eb : (b.natAbs : Int) = b := by omega
    refine d_ite (fun c2 => ?_) (fun c2 => ?_)
    · walk_at "go"
      rw [e2] at c2
      rw [DX.wr_long (.inr (by unfold DX.isLong; rw [eb]; exact c2))] at q
      exact q
    rw [e2] at c1 c2
    have h1 : DX.isLong t = false := c1
    have h2 : DX.isLong b = false := by unfold DX.isLong; rw [eb]; exact c2
    have lt := DX.long_log h1
    have lb := DX.long_log h2
    walk_at "go"
    refine d_ite (fun c => ?_) (fun c => ?_)
    · have e : b = 1 := of_decide_eq_true c
      subst e
      walk_at "go"
      rw [DX.wr_one h1 h2] at q
      exact q
    · have e : b ≠ 1 := of_decide_eq_false c
      obtain ⟨z1, z2, z3⟩ := DX.wr_sz h1 h2
      rw [Str.empty_append] at z2 z3
      rw [Str.length_append] at z2 z3
      walk_at "go"
      rw [DX.wr_two h1 h2 e hb, Str.empty_append] at q
      exact q

theorem fn_law_sign (T : Txt LL K mg) (M : Mo cs sms cis K mg) : Nonempty (Fn P w K mg base (d_law_sign.at_ K) 1 2 P_law_sign) := by
  refine Fn.of (T.d 20 (d := d_law_sign)) sc_law_sign rfl (fun _ _ _ _ _ _ us hl => match us, hl with | [_, _], _ => rfl) (fun ds Q ex h => ?_) (fun fd cdv A outer s H E hr => ⟨_, pdss_cons (pds_set (i := 2) sc_law_sign.nd rfl (by first | exact Or.inl rfl | exact Or.inr rfl) (pd_str pe_str)) (pdss_cons (pds_if (pdt_cmp op_eq l_eq (pd_op op_modN l_I (pd_cb (fun h => pe_callTy call_int1 (by rfl) (T.f "int") (by decide +kernel) h) l_int (pda_cons (pd_var (pv 1)) pda_nil)) (pd_int pe_int)) (pd_int pe_int) (nomark _)) (pdss_cons (pds_set (i := 2) sc_law_sign.nd rfl (by first | exact Or.inl rfl | exact Or.inr rfl) (pd_str pe_str)) (pdss_one (pds_set (i := 2) sc_law_sign.nd rfl (by first | exact Or.inl rfl | exact Or.inr rfl) (pd_op op_add_str l_addS (pd_var (pv 2)) (pd_str pe_str))))) pdss_nil) (pdss_one (pds_ret (pd_ix ix_str l_ixS (pd_var (pv 2)) (pd_op op_modN l_I (pd_cb (fun h => pe_callTy call_int1 (by rfl) (T.f "int") (by decide +kernel) h) l_int (pda_cons (pd_var (pv 0)) pda_nil)) (pd_cb (fun h => pe_callB call_len (by rfl) (T.f "len") (by decide +kernel) h) l_len (pda_cons (pd_var (pv 2)) pda_nil))) (fun _ _ => rfl))))), fun ds Q ex h => ?_⟩)
  · obtain ⟨d, r, rfl, _⟩ := h
    rfl
  · obtain ⟨d, r, rfl, q⟩ := h
    have fin : ∀ ch : Str, 0 < ch.length → OkS ch → ∃ c, atI ch.cps.toList (d.fmod (ch.length : Int)) = some c ∧ c < 1114112 := fun ch h0 ho => by
      obtain ⟨x, _, hm, e⟩ := at_ix (xs := ch.cps.toList) (k := d.fmod (ch.length : Int)) (fmod_lo _ (by omega)) (by rw [DX.len_list]; exact fmod_hi _ (by omega))
      exact ⟨x, e, ho x hm⟩
    walk_at "go"
    refine d_ite (fun c1 => ?_) (fun c1 => ?_)
    · obtain ⟨c, ec, hc⟩ := fin ((" !\"#$&'()*+,-./0123456789:;<=>?@ABCDEFGHIJKLMNOPQRSTUVWXYZ[\\]^_`" : Str) ++ ("abcdefghijklmnopqrstuvwxyz{|}~" : Str)) (by decide +kernel) (OkS.of (by decide +kernel))
      walk_at "go"
      exact q ⟨#[c]⟩ rfl (OkS.one hc)
    · obtain ⟨c, ec, hc⟩ := fin "0123456789/- +_." (by decide +kernel) (OkS.of (by decide +kernel))
      walk_at "go"
      exact q ⟨#[c]⟩ rfl (OkS.one hc)

theorem fn_law_spoilt (T : Txt LL K mg) (M : Mo cs sms cis K mg) : Nonempty (Fn P w K mg base (d_law_spoilt.at_ K) 1 4 P_law_spoilt) := by
  refine Fn.of (T.d 21 (d := d_law_spoilt)) sc_law_spoilt rfl (fun _ _ _ _ _ _ us hl => match us, hl with | [_, _, _, _], _ => rfl) (fun ds Q ex h => ?_) (fun fd cdv A outer s H E hr => ⟨_, pdss_cons (pds_set (i := 2) sc_law_spoilt.nd rfl (by first | exact Or.inl rfl | exact Or.inr rfl) (pd_op op_modN l_I (pd_cb (fun h => pe_callTy call_int1 (by rfl) (T.f "int") (by decide +kernel) h) l_int (pda_cons (pd_var (pv 2)) pda_nil)) (pd_op op_add l_I0 (pd_cb (fun h => pe_callB call_len (by rfl) (T.f "len") (by decide +kernel) h) l_len (pda_cons (pd_var (pv 0)) pda_nil)) (pd_int pe_int)))) (pdss_cons (pds_set (i := 1) sc_law_spoilt.nd rfl (by first | exact Or.inl rfl | exact Or.inr rfl) (pd_op op_modN l_I (pd_cb (fun h => pe_callTy call_int1 (by rfl) (T.f "int") (by decide +kernel) h) l_int (pda_cons (pd_var (pv 1)) pda_nil)) (pd_int pe_int))) (pdss_cons (pds_if (pdt_cmp op_eq l_eq (pd_var (pv 1)) (pd_int pe_int) (nomark _)) (pdss_one (pds_ret (pd_op op_add_str l_addS (pd_op op_add_str l_addS (pd_slS (pd_var (pv 0)) pdo_none (pdo_some (pd_var (pv 2)))) (pd_var (pv 3))) (pd_slS (pd_var (pv 0)) (pdo_some (pd_var (pv 2))) pdo_none)))) pdss_nil) (pdss_cons (pds_if (pdt_cmp op_eq l_eq (pd_var (pv 1)) (pd_int pe_int) (nomark _)) (pdss_one (pds_ret (pd_op op_add_str l_addS (pd_slS (pd_var (pv 0)) pdo_none (pdo_some (pd_var (pv 2)))) (pd_slS (pd_var (pv 0)) (pdo_some (pd_op op_add l_I0 (pd_var (pv 2)) (pd_int pe_int))) pdo_none)))) pdss_nil) (pdss_cons (pds_if (pdt_cmp op_eq l_eq (pd_var (pv 1)) (pd_int pe_int) (nomark _)) (pdss_one (pds_ret (pd_op op_add_str l_addS (pd_op op_add_str l_addS (pd_slS (pd_var (pv 0)) pdo_none (pdo_some (pd_var (pv 2)))) (pd_var (pv 3))) (pd_slS (pd_var (pv 0)) (pdo_some (pd_op op_add l_I0 (pd_var (pv 2)) (pd_int pe_int))) pdo_none)))) pdss_nil) (pdss_one (pds_ret (pd_op op_add_str l_addS (pd_var (pv 3)) (pd_var (pv 0))))))))), fun ds Q ex h => ?_⟩)
  · obtain ⟨x, r, k, z, rfl, _⟩ := h
    rfl
  · obtain ⟨x, r, k, z, rfl, hx, hz, ox, oz, q⟩ := h
    have c1 : ∀ lo hi : Option Int, (cutS x lo hi).length ≤ 1000 := fun lo hi => Nat.le_trans (cutS_length x lo hi) hx
    have l1 : ∀ (lo hi lo2 hi2 : Option Int), (cutS x lo hi).length + z.length ≤ sizeLine ∧ (cutS x lo hi ++ z).length + (cutS x lo2 hi2).length ≤ sizeLine ∧ (cutS x lo hi).length + (cutS x lo2 hi2).length ≤ sizeLine := fun lo hi lo2 hi2 => by
      have a := c1 lo hi
      have b := c1 lo2 hi2
      rw [Str.length_append, sizeLine_eq]
      omega
    have l2 : z.length + x.length ≤ sizeLine := by rw [sizeLine_eq]; omega
    have l3 : x.length ≤ sizeLine := by rw [sizeLine_eq]; omega
    walk_at "go"
    refine d_ite (fun c => ?_) (fun c => ?_)
    · walk_at "go"
      refine ⟨(l1 _ _ none none).1, ?_⟩
      walk_at "go"
      refine ⟨(l1 _ _ _ _).2.1, q _ ?_ (((ox.cut _ _).app oz).app (ox.cut _ _))⟩
      rw [Str.length_append, Str.length_append]
      have := c1 none (some (k.fmod ((x.length : Int) + 1)))
      have := c1 (some (k.fmod ((x.length : Int) + 1))) none
      omega
    walk_at "go"
    refine d_ite (fun c => ?_) (fun c => ?_)
    · walk_at "go"
      refine ⟨(l1 _ _ _ _).2.2, q _ ?_ ((ox.cut _ _).app (ox.cut _ _))⟩
      rw [Str.length_append]
      have := c1 none (some (k.fmod ((x.length : Int) + 1)))
      have := c1 (some (k.fmod ((x.length : Int) + 1) + 1)) none
      omega
    walk_at "go"
    refine d_ite (fun c => ?_) (fun c => ?_)
    · walk_at "go"
      refine ⟨(l1 _ _ none none).1, ?_⟩
      walk_at "go"
      refine ⟨(l1 _ _ _ _).2.1, q _ ?_ (((ox.cut _ _).app oz).app (ox.cut _ _))⟩
      rw [Str.length_append, Str.length_append]
      have := c1 none (some (k.fmod ((x.length : Int) + 1)))
      have := c1 (some (k.fmod ((x.length : Int) + 1) + 1)) none
      omega
    walk_at "go"
    refine q _ ?_ (oz.app ox)
    rw [Str.length_append]
    omega

theorem fn_law_odd (T : Txt LL K mg) (M : Mo cs sms cis K mg) : Nonempty (Fn P w K mg base (d_law_odd.at_ K) 1 1 P_law_odd) := by
  refine Fn.of (T.d 22 (d := d_law_odd)) sc_law_odd rfl (fun _ _ _ _ _ _ us hl => match us, hl with | [_], _ => rfl) (fun ds Q ex h => ?_) (fun fd cdv A outer s H E hr => ⟨_, pdss_cons (pds_set (i := 1) sc_law_odd.nd rfl (by first | exact Or.inl rfl | exact Or.inr rfl) (pd_new (pdn_lst (pda_cons (pd_str pe_str) (pda_cons (pd_str pe_str) (pda_cons (pd_str pe_str) (pda_cons (pd_str pe_str) (pda_cons (pd_str pe_str) (pda_cons (pd_str pe_str) (pda_cons (pd_str pe_str) (pda_cons (pd_str pe_str) (pda_cons (pd_str pe_str) (pda_cons (pd_str pe_str) (pda_cons (pd_str pe_str) (pda_cons (pd_str pe_str) (pda_cons (pd_str pe_str) (pda_cons (pd_str pe_str) (pda_cons (pd_str pe_str) (pda_cons (pd_str pe_str) pda_nil))))))))))))))))))) (pdss_cons (pds_set (i := 1) sc_law_odd.nd rfl (by first | exact Or.inl rfl | exact Or.inr rfl) (pd_new (pdn_catA (pd_var (pv 1)) (pd_new (pdn_lst (pda_cons (pd_str pe_str) (pda_cons (pd_str pe_str) (pda_cons (pd_str pe_str) (pda_cons (pd_str pe_str) (pda_cons (pd_str pe_str) (pda_cons (pd_str pe_str) (pda_cons (pd_str pe_str) (pda_cons (pd_str pe_str) (pda_cons (pd_str pe_str) (pda_cons (pd_str pe_str) (pda_cons (pd_str pe_str) (pda_cons (pd_str pe_str) (pda_cons (pd_str pe_str) pda_nil)))))))))))))))))) (pdss_cons (pds_set (i := 1) sc_law_odd.nd rfl (by first | exact Or.inl rfl | exact Or.inr rfl) (pd_new (pdn_catA (pd_var (pv 1)) (pd_new (pdn_lst (pda_cons (pd_str pe_str) (pda_cons (pd_str pe_str) (pda_cons (pd_str pe_str) (pda_cons (pd_str pe_str) (pda_cons (pd_str pe_str) (pda_cons (pd_str pe_str) (pda_cons (pd_str pe_str) (pda_cons (pd_str pe_str) (pda_cons (pd_str pe_str) (pda_cons (pd_str pe_str) (pda_cons (pd_str pe_str) pda_nil)))))))))))))))) (pdss_one (pds_ret (pd_ix ix_list l_ixL (pd_var (pv 1)) (pd_op op_modN l_I (pd_cb (fun h => pe_callTy call_int1 (by rfl) (T.f "int") (by decide +kernel) h) l_int (pda_cons (pd_var (pv 0)) pda_nil)) (pd_cb (fun h => pe_callB call_len (by rfl) (T.f "len") (by decide +kernel) h) l_len (pda_cons (pd_var (pv 1)) pda_nil))) (fun _ _ => rfl)))))), fun ds Q ex h => ?_⟩)
  · obtain ⟨d, rfl, _⟩ := h
    rfl
  · obtain ⟨d, rfl, q⟩ := h
    have hys : ∀ y ∈ ([("" : Str), ("long" : Str), ("2/4" : Str), ("3/1" : Str), ("1/0" : Str), ("-0" : Str), ("007" : Str), ("+1" : Str), (" 1" : Str), ("1 " : Str), ("1/" : Str), ("/2" : Str), ("-" : Str), ("--1" : Str), ("1/-2" : Str), ("1.0" : Str), ("0/1" : Str), ("1//2" : Str), ("1/2/3" : Str), ("1e3" : Str), ("1_0" : Str), ("-1/2" : Str), ("0" : Str), ("-7" : Str), ("0/0" : Str), ("-0/1" : Str), ("1/02" : Str), ("01/2" : Str), ("1/1" : Str), ("-3/6" : Str), ("1 /2" : Str), ("1/ 2" : Str), ("/" : Str), ("0x1" : Str), ("1,0" : Str), ("10" : Str), ("1/10" : Str), ("1/2/" : Str), ("- 1" : Str), ("00" : Str)] : List Str), y.length ≤ 10 ∧ OkS y := fun y hy => ⟨of_decide_eq_true (List.all_eq_true.mp (by decide +kernel : ([("" : Str), ("long" : Str), ("2/4" : Str), ("3/1" : Str), ("1/0" : Str), ("-0" : Str), ("007" : Str), ("+1" : Str), (" 1" : Str), ("1 " : Str), ("1/" : Str), ("/2" : Str), ("-" : Str), ("--1" : Str), ("1/-2" : Str), ("1.0" : Str), ("0/1" : Str), ("1//2" : Str), ("1/2/3" : Str), ("1e3" : Str), ("1_0" : Str), ("-1/2" : Str), ("0" : Str), ("-7" : Str), ("0/0" : Str), ("-0/1" : Str), ("1/02" : Str), ("01/2" : Str), ("1/1" : Str), ("-3/6" : Str), ("1 /2" : Str), ("1/ 2" : Str), ("/" : Str), ("0x1" : Str), ("1,0" : Str), ("10" : Str), ("1/10" : Str), ("1/2/" : Str), ("- 1" : Str), ("00" : Str)] : List Str).all (fun y => decide (y.length ≤ 10)) = true) y hy), all_okS (by decide +kernel) y hy⟩
    obtain ⟨s, e, hs, ho⟩ := pick_strQ (n := 40) (k := d.fmod 40) rfl hys (fmod_lo _ (by decide)) (fmod_hi _ (by decide))
    walk_at "go"
    exact q _ (by omega) ho

theorem fn_law_many_digits (T : Txt LL K mg) (M : Mo cs sms cis K mg) : Nonempty (Fn P w K mg base (d_law_many_digits.at_ K) 1 1 P_law_many_digits) := by
  refine Fn.of (T.d 23 (d := d_law_many_digits)) sc_law_many_digits rfl (fun _ _ _ _ _ _ us hl => match us, hl with | [_], _ => rfl) (fun ds Q ex h => ?_) (fun fd cdv A outer s H E hr => ⟨_, pdss_cons (pds_set (i := 1) sc_law_many_digits.nd rfl (by first | exact Or.inl rfl | exact Or.inr rfl) (pd_ix ix_list l_ixL (pd_new (pdn_lst (pda_cons (pd_int pe_int) (pda_cons (pd_int pe_int) (pda_cons (pd_int pe_int) (pda_cons (pd_int pe_int) (pda_cons (pd_int pe_int) (pda_cons (pd_int pe_int) (pda_cons (pd_int pe_int) (pda_cons (pd_int pe_int) pda_nil)))))))))) (pd_op op_modN l_I (pd_cb (fun h => pe_callTy call_int1 (by rfl) (T.f "int") (by decide +kernel) h) l_int (pda_cons (pd_ix ix_list l_ixL (pd_var (pv 0)) (pd_int pe_int) (fun _ _ => rfl)) pda_nil)) (pd_int pe_int)) (fun _ _ => rfl))) (pdss_cons (pds_set (i := 2) sc_law_many_digits.nd rfl (by first | exact Or.inl rfl | exact Or.inr rfl) (pd_op op_mulS l_mulS (pd_ix ix_str l_ixS (pd_str pe_str) (pd_op op_modN l_I (pd_cb (fun h => pe_callTy call_int1 (by rfl) (T.f "int") (by decide +kernel) h) l_int (pda_cons (pd_ix ix_list l_ixL (pd_var (pv 0)) (pd_int pe_int) (fun _ _ => rfl)) pda_nil)) (pd_int pe_int)) (fun _ _ => rfl)) (pd_var (pv 1)))) (pdss_one (pds_ret (pd_ix ix_list l_ixL (pd_new (pdn_lst (pda_cons (pd_var (pv 2)) (pda_cons (pd_op op_add_str l_addS (pd_str pe_str) (pd_var (pv 2))) (pda_cons (pd_op op_add_str l_addS (pd_var (pv 2)) (pd_str pe_str)) (pda_cons (pd_op op_add_str l_addS (pd_str pe_str) (pd_var (pv 2))) (pda_cons (pd_op op_add_str l_addS (pd_str pe_str) (pd_var (pv 2))) (pda_cons (pd_op op_add_str l_addS (pd_str pe_str) (pd_var (pv 2))) pda_nil)))))))) (pd_op op_modN l_I (pd_cb (fun h => pe_callTy call_int1 (by rfl) (T.f "int") (by decide +kernel) h) l_int (pda_cons (pd_ix ix_list l_ixL (pd_var (pv 0)) (pd_int pe_int) (fun _ _ => rfl)) pda_nil)) (pd_int pe_int)) (fun _ _ => rfl))))), fun ds Q ex h => ?_⟩)
  · obtain ⟨zs, rfl, _⟩ := h
    rfl
  · obtain ⟨zs, rfl, hzl, q⟩ := h
    obtain ⟨z1, m1, _, e1⟩ := at_ex (l := zs) (k := 1) (by decide) (by omega)
    obtain ⟨z2, m2, _, e2⟩ := at_ex (l := zs) (k := 2) (by decide) (by omega)
    obtain ⟨z3, m3, _, e3⟩ := at_ex (l := zs) (k := 3) (by decide) (by omega)
    obtain ⟨m, em, m0, m9⟩ := pick_int (ys := [399, 400, 401, 800, 1000, 4300, 4301, 5000]) (n := 8) (lo := 1) (hi := 5000) (k := z1.fmod 8) rfl (by decide) (fmod_lo _ (by decide)) (fmod_hi _ (by decide))
    obtain ⟨c, _, hcm, ec⟩ := at_ix (xs := ("123456789" : Str).cps.toList) (k := z2.fmod 9) (fmod_lo _ (by decide)) (fmod_hi _ (by decide))
    have hmul : (⟨#[c]⟩ : Str).length * m.toNat ≤ 16777216 := by
      show 1 * m.toNat ≤ _
      omega
    have hdg : (if m < 1 then Str.empty else (⟨(List.replicate m.toNat (⟨#[c]⟩ : Str).cps).foldl (· ++ ·) #[]⟩ : Str)).length ≤ 5000 := by
      refine Nat.le_trans (rep_len _ _) ?_
      show 1 * m.toNat ≤ _
      omega
    have odg : OkS (if m < 1 then Str.empty else (⟨(List.replicate m.toNat (⟨#[c]⟩ : Str).cps).foldl (· ++ ·) #[]⟩ : Str)) := OkS.rep (OkS.one ((OkS.of (by decide +kernel) : OkS ("123456789" : Str)) c hcm)) m
    have a1 := sz_two (a := ("-" : Str).length) (by decide +kernel) (Nat.le_trans hdg (by decide))
    have a2 := sz_two (b := ("/7" : Str).length) (Nat.le_trans hdg (by decide)) (by decide +kernel)
    have a3 := sz_two (a := ("1/" : Str).length) (by decide +kernel) (Nat.le_trans hdg (by decide))
    have a4 := sz_two (a := ("-2/" : Str).length) (by decide +kernel) (Nat.le_trans hdg (by decide))
    have a5 := sz_two (a := ("0" : Str).length) (by decide +kernel) (Nat.le_trans hdg (by decide))
    generalize hd : (if m < 1 then Str.empty else (⟨(List.replicate m.toNat (⟨#[c]⟩ : Str).cps).foldl (· ++ ·) #[]⟩ : Str)) = dg at hdg odg a1 a2 a3 a4 a5
    obtain ⟨s, es, hs, os⟩ := pick_strQ (P := fun y => y.length ≤ 10000 ∧ OkS y) (ys := [dg, ("-" : Str) ++ dg, dg ++ ("/7" : Str), ("1/" : Str) ++ dg, ("-2/" : Str) ++ dg, ("0" : Str) ++ dg]) (n := 6) (k := z3.fmod 6) rfl (fun y hy => by
      have b1 : ("-" : Str).length ≤ 3 := by decide +kernel
      have b2 : ("/7" : Str).length ≤ 3 := by decide +kernel
      have b3 : ("1/" : Str).length ≤ 3 := by decide +kernel
      have b4 : ("-2/" : Str).length ≤ 3 := by decide +kernel
      have b5 : ("0" : Str).length ≤ 3 := by decide +kernel
      simp only [List.mem_cons, List.not_mem_nil, or_false] at hy
      have o1 : OkS ("-" : Str) := OkS.of (by decide +kernel)
      have o2 : OkS ("/7" : Str) := OkS.of (by decide +kernel)
      have o3 : OkS ("1/" : Str) := OkS.of (by decide +kernel)
      have o4 : OkS ("-2/" : Str) := OkS.of (by decide +kernel)
      have o5 : OkS ("0" : Str) := OkS.of (by decide +kernel)
      rcases hy with rfl | rfl | rfl | rfl | rfl | rfl <;> (refine ⟨?_, ?_⟩; (first | omega | (simp only [Str.length_append]; omega)); (first | assumption | exact OkS.app (by assumption) (by assumption)))) (fmod_lo _ (by decide)) (fmod_hi _ (by decide))
    walk_at "go"
    rw [hd]
    walk_at "go"
    exact q _ hs os

theorem fn_law_texts (T : Txt LL K mg) (M : Mo cs sms cis K mg) : Nonempty (Fn P w K mg base (d_law_texts.at_ K) 3 2 P_law_texts) := by
  obtain ⟨F_law_draws⟩ := fn_law_draws (P := P) (w := w) (base := base) T M
  obtain ⟨F_law_sign⟩ := fn_law_sign (P := P) (w := w) (base := base) T M
  obtain ⟨F_law_spoilt⟩ := fn_law_spoilt (P := P) (w := w) (base := base) T M
  obtain ⟨F_law_odd⟩ := fn_law_odd (P := P) (w := w) (base := base) T M
  obtain ⟨F_law_many_digits⟩ := fn_law_many_digits (P := P) (w := w) (base := base) T M
  refine Fn.of (T.d 24 (d := d_law_texts)) sc_law_texts rfl (fun _ _ _ _ _ _ us hl => match us, hl with | [_, _], _ => rfl) (fun ds Q ex h => ?_) (fun fd cdv A outer s H E hr => ⟨_, pdss_cons (pds_set (i := 2) sc_law_texts.nd rfl (by first | exact Or.inl rfl | exact Or.inr rfl) (pd_call F_law_draws (hr.mono (by decide)) (by rfl) (T.g "_law_draws") (T.k "_law_draws") (takes_of rfl rfl rfl rfl) (pda_cons (pd_var (pv 0)) (pda_cons (pd_int pe_int) (pda_cons (pd_int pe_int) pda_nil))))) (pdss_cons (pds_set (i := 3) sc_law_texts.nd rfl (by first | exact Or.inl rfl | exact Or.inr rfl) (pd_op op_modN l_I (pd_cb (fun h => pe_callTy call_int1 (by rfl) (T.f "int") (by decide +kernel) h) l_int (pda_cons (pd_ix ix_list l_ixL (pd_var (pv 2)) (pd_int pe_int) (fun _ _ => rfl)) pda_nil)) (pd_int pe_int))) (pdss_cons (pds_if (pdt_cmp op_lt l_B0 (pd_var (pv 3)) (pd_int pe_int) (nomark _)) (pdss_cons (pds_set (i := 4) sc_law_texts.nd rfl (by first | exact Or.inl rfl | exact Or.inr rfl) (pd_op op_modN l_I (pd_cb (fun h => pe_callTy call_int1 (by rfl) (T.f "int") (by decide +kernel) h) l_int (pda_cons (pd_ix ix_list l_ixL (pd_var (pv 2)) (pd_int pe_int) (fun _ _ => rfl)) pda_nil)) (pd_int pe_int))) (pdss_cut (pds_if (pdt_cmp op_eq l_eq (pd_op op_modN l_I (pd_op op_fdivZ l_I (pd_cb (fun h => pe_callTy call_int1 (by rfl) (T.f "int") (by decide +kernel) h) l_int (pda_cons (pd_ix ix_list l_ixL (pd_var (pv 2)) (pd_int pe_int) (fun _ _ => rfl)) pda_nil)) (pd_int pe_int)) (pd_int pe_int)) (pd_int pe_int) (nomark _)) (pdss_one (pds_set (i := 4) sc_law_texts.nd rfl (by first | exact Or.inl rfl | exact Or.inr rfl) (pd_op op_modN l_I (pd_op op_fdivZ l_I (pd_cb (fun h => pe_callTy call_int1 (by rfl) (T.f "int") (by decide +kernel) h) l_int (pda_cons (pd_ix ix_list l_ixL (pd_var (pv 2)) (pd_int pe_int) (fun _ _ => rfl)) pda_nil)) (pd_int pe_int)) (pd_int pe_int)))) pdss_nil) (pdss_one (pds_ret (pd_new (pdn_lst (pda_cons (pd_m1 (fun h g => pe_join h g) l_join (pd_str pe_str) (pd_new (pdn_lc (own := [("d", 5)]) rfl sc_law_texts.nd (pdi_list (pd_new (pdn_slL (pd_var (pv 2)) (pdo_some (pd_int pe_int)) (pdo_some (pd_op op_add l_I0 (pd_int pe_int) (pd_var (pv 4))))))) (blkOk_by (N := ["script", "text", "draws", "kind", "size", "d", "at"]) (sc := defScope s_law_texts) (by decide +kernel)) (by decide) (fun _ _ _ _ _ => (pdg_name (pg_name (i := 5) sc_law_texts.nd rfl (Or.inl rfl)))) (fun _ _ _ _ _ => pdts_nil) (fun _ _ _ _ _ => pd_call F_law_sign (hr.mono (by decide)) (by rfl) (T.g "_law_sign") (T.k "_law_sign") takes0 (pda_cons (pd_var (pv 5)) (pda_cons (pd_ix ix_list l_ixL (pd_var (pv 2)) (pd_int pe_int) (fun _ _ => rfl)) pda_nil)))))) pda_nil))))))) pdss_nil) (pdss_cons (pds_if (pdt_cmp op_lt l_B0 (pd_var (pv 3)) (pd_int pe_int) (nomark _)) (pdss_one (pds_ret (pd_new (pdn_lst (pda_cons (pd_call F_law_spoilt (hr.mono (by decide)) (by rfl) (T.g "_law_spoilt") (T.k "_law_spoilt") (takes_of rfl rfl rfl rfl) (pda_cons (pd_var (pv 1)) (pda_cons (pd_ix ix_list l_ixL (pd_var (pv 2)) (pd_int pe_int) (fun _ _ => rfl)) (pda_cons (pd_ix ix_list l_ixL (pd_var (pv 2)) (pd_int pe_int) (fun _ _ => rfl)) (pda_cons (pd_call F_law_sign (hr.mono (by decide)) (by rfl) (T.g "_law_sign") (T.k "_law_sign") (takes_of rfl rfl rfl rfl) (pda_cons (pd_ix ix_list l_ixL (pd_var (pv 2)) (pd_int pe_int) (fun _ _ => rfl)) (pda_cons (pd_ix ix_list l_ixL (pd_var (pv 2)) (pd_int pe_int) (fun _ _ => rfl)) pda_nil))) pda_nil))))) pda_nil))))) pdss_nil) (pdss_cons (pds_if (pdt_cmp op_lt l_B0 (pd_var (pv 3)) (pd_int pe_int) (nomark _)) (pdss_one (pds_ret (pd_new (pdn_lc (own := [("at", 6)]) rfl sc_law_texts.nd (pdi_range1 rfl (T.f "range") (pda_cons (pd_int pe_int) pda_nil)) (blkOk_by (N := ["script", "text", "draws", "kind", "size", "d", "at"]) (sc := defScope s_law_texts) (by decide +kernel)) (by decide) (fun _ _ _ _ _ => (pdg_name (pg_name (i := 6) sc_law_texts.nd rfl (Or.inl rfl)))) (fun _ _ _ _ _ => pdts_nil) (fun _ _ _ _ _ => pd_call F_law_odd (hr.mono (by decide)) (by rfl) (T.g "_law_odd") (T.k "_law_odd") takes0 (pda_cons (pd_op op_add l_I0 (pd_ix ix_list l_ixL (pd_var (pv 2)) (pd_int pe_int) (fun _ _ => rfl)) (pd_var (pv 6))) pda_nil)))))) pdss_nil) (pdss_cons (pds_if (pdt_cmp op_eq l_eq (pd_var (pv 3)) (pd_int pe_int) (nomark _)) (pdss_one (pds_ret (pd_new (pdn_lst (pda_cons (pd_call F_law_many_digits (hr.mono (by decide)) (by rfl) (T.g "_law_many_digits") (T.k "_law_many_digits") (takes_of rfl rfl rfl rfl) (pda_cons (pd_var (pv 2)) pda_nil)) pda_nil))))) pdss_nil) (pdss_one (pds_ret (pd_new (pdn_lst (pda_cons (pd_op op_add_str l_addS (pd_op op_add_str l_addS (pd_cb (fun h => pe_callTy call_str_int (by rfl) (T.f "str") (by decide +kernel) h) l_strI (pda_cons (pd_op op_sub l_I0 (pd_op op_modN l_I (pd_cb (fun h => pe_callTy call_int1 (by rfl) (T.f "int") (by decide +kernel) h) l_int (pda_cons (pd_ix ix_list l_ixL (pd_var (pv 2)) (pd_int pe_int) (fun _ _ => rfl)) pda_nil)) (pd_int pe_int)) (pd_int pe_int)) pda_nil)) (pd_str pe_str)) (pd_cb (fun h => pe_callTy call_str_int (by rfl) (T.f "str") (by decide +kernel) h) l_strI (pda_cons (pd_op op_modN l_I (pd_cb (fun h => pe_callTy call_int1 (by rfl) (T.f "int") (by decide +kernel) h) l_int (pda_cons (pd_ix ix_list l_ixL (pd_var (pv 2)) (pd_int pe_int) (fun _ _ => rfl)) pda_nil)) (pd_int pe_int)) pda_nil))) pda_nil)))))))))), fun ds Q ex h => ?_⟩)
  · obtain ⟨ns, x, rfl, _⟩ := h
    rfl
  · obtain ⟨ns, x, rfl, hl, hx, ox, q⟩ := h
    walk_at "go"
    intro zs hz hb
    have hzl : zs.length = 44 := by omega
    obtain ⟨z0, m0, _, e0⟩ := at_ex (l := zs) (k := 0) (by decide) (by omega)
    obtain ⟨z1, m1, _, e1⟩ := at_ex (l := zs) (k := 1) (by decide) (by omega)
    obtain ⟨z2, m2, _, e2⟩ := at_ex (l := zs) (k := 2) (by decide) (by omega)
    obtain ⟨z3, m3, _, e3⟩ := at_ex (l := zs) (k := 3) (by decide) (by omega)
    obtain ⟨z4, m4, _, e4⟩ := at_ex (l := zs) (k := 4) (by decide) (by omega)
    
    walk_at "go"
    refine d_ite (fun c => ?_) (fun c => ?_)
    · walk_at "go"
      refine ⟨fun env => ∃ k : Int, env = [.val (.lst (ns.map D.int)), .val (.str x), .val (.lst (zs.map D.int)), .val (.int (z0.fmod 8)), .val (.int k), .no, .no], ?_, ?_⟩
      · walk_at "go"
        refine d_ite (fun c => ?_) (fun c => ?_)
        · walk_at "go"
          exact fun _ => ⟨_, rfl⟩
        · walk_at "go"
          exact fun _ => ⟨_, rfl⟩
      rintro env ⟨k, rfl⟩
      obtain ⟨ms, em, hml, hmm⟩ := cut_map D.int zs (some 3) (some (3 + k))
      walk_at "go"
      rw [em]
      refine ⟨Nat.lt_of_le_of_lt (by rw [List.length_map]; exact hml) (by rw [hzl]; decide), fun i z => ∃ s : Str, z = some (.str s) ∧ s.length = 1 ∧ OkS s, ?_, ?_⟩
      · intro i d hd
        obtain ⟨v, hv, rfl⟩ := map_at hd
        walk_at "go"
        exact fun s hs os _ => ⟨s, rfl, hs, os⟩
      · intro rs hrs hR
        obtain ⟨ys, ey, hyl, hyP⟩ := lc_map D.str (P := fun _ s => s.length = 1 ∧ OkS s) hrs hR
        rw [ey]
        have h1 : ∀ y ∈ ys, y.length = 1 := fun y hy => by
          obtain ⟨i, hi⟩ := List.getElem?_of_mem hy
          exact (hyP i y hi).1
        have h2 : ∀ y ∈ ys, OkS y := fun y hy => by
          obtain ⟨i, hi⟩ := List.getElem?_of_mem hy
          exact (hyP i y hi).2
        have hyl : ys.length ≤ 44 := by
          rw [List.length_map] at hyl
          omega
        have e0 : ("" : Str).length = 0 := by decide +kernel
        have hj : (ys.map fun x => x.length).sum + ys.length * ("" : Str).length ≤ 16777216 := by
          rw [ones_sum ys h1, e0]
          omega
        walk_at "go"
        refine q [_] fun y hy => ?_
        rw [List.mem_singleton.mp hy]
        exact ⟨by rw [PySem.W.KT.join_ones ys h1]; omega, OkS.joinE h2⟩
    walk_at "go"
    refine d_ite (fun c => ?_) (fun c => ?_)
    · walk_at "go"
      intro s hs os
      walk_at "go"
      intro y hy oy
      walk_at "go"
      exact q [y] fun w hw => by rw [List.mem_singleton.mp hw]; exact ⟨hy, oy⟩
    walk_at "go"
    refine d_ite (fun c => ?_) (fun c => ?_)
    · walk_at "go"
      refine ⟨fun i z => ∃ s : Str, z = some (.str s) ∧ s.length ≤ 10000 ∧ OkS s, ?_, ?_⟩
      · intro i d hd
        obtain ⟨hi, rfl⟩ := rng_at hd
        walk_at "go"
        exact fun s hs os _ => ⟨s, rfl, hs, os⟩
      · intro rs hrs hR
        obtain ⟨ys, ey, hyl, hyP⟩ := lc_map D.str (P := fun _ s => s.length ≤ 10000 ∧ OkS s) hrs hR
        rw [ey]
        refine q ys fun y hy => ?_
        obtain ⟨i, hi⟩ := List.getElem?_of_mem hy
        exact hyP i y hi
    walk_at "go"
    refine d_ite (fun c => ?_) (fun c => ?_)
    · walk_at "go"
      intro s hs os
      walk_at "go"
      exact q [s] fun w hw => by rw [List.mem_singleton.mp hw]; exact ⟨hs, os⟩
    have a1 := fmod_lo z1 (j := 64) (by decide)
    have a2 := fmod_hi z1 (j := 64) (by decide)
    have a3 := fmod_lo z2 (j := 64) (by decide)
    have a4 := fmod_hi z2 (j := 64) (by decide)
    have l1 : DX.isLong (z1.fmod 64 - 32) = false := DX.lt_long (Nat.lt_of_lt_of_le (show _ < 10 ^ 2 by omega) (Nat.pow_le_pow_right (by decide) (by decide)))
    have l2 : DX.isLong (z2.fmod 64) = false := DX.lt_long (Nat.lt_of_lt_of_le (show _ < 10 ^ 2 by omega) (Nat.pow_le_pow_right (by decide) (by decide)))
    have g1 := DX.long_log l1
    have g2 := DX.long_log l2
    have s1 := DX.str_len l1
    have s2 := DX.str_len l2
    have b1 : ("/" : Str).length = 1 := by decide +kernel
    have t1 : (Str.ofString (toString (z1.fmod 64 - 32))).length + ("/" : Str).length ≤ sizeLine := by rw [sizeLine_eq]; omega
    have t2 : (Str.ofString (toString (z1.fmod 64 - 32)) ++ ("/" : Str)).length + (Str.ofString (toString (z2.fmod 64))).length ≤ sizeLine := by rw [sizeLine_eq, Str.length_append]; omega
    walk_at "go"
    refine q [_] fun w hw => ?_
    rw [List.mem_singleton.mp hw]
    exact ⟨by rw [Str.length_append, Str.length_append]; omega, ((DX.str_ok _).app (OkS.of (by decide +kernel))).app (DX.str_ok _)⟩
end
end K01

namespace K01
open PySem PySem.Spec PyProof.Rows L2 LR DL
section
variable {P : Program} {w : World} {K : PySem.W.Frag} {mg : Str → Option Value} {base : Heap}
local macro_rules | `(tactic| walk_at "side") => `(tactic| first | rfl | assumption | exact ⟨_, rfl⟩ | omega | exact mulL (by omega) (by omega) | exact mulR (by omega) (by omega) | exact mulF (by decide) (by decide) | exact ⟨by decide, by decide +kernel⟩ | decide | exact Nat.le_of_ble_eq_true rfl | (simp only [List.length_cons, List.length_nil, List.length_map, List.nil_append, List.cons_append, sizeLine_eq]; omega) | (simp only [List.map_cons, List.map_nil, List.nil_append, List.cons_append]; decide +kernel))
local macro_rules | `(tactic| walk_at "go") => `(tactic| repeat (first
  | refine ⟨_, rfl, ?_⟩
  | refine ⟨_, _, rfl, rfl, ?_⟩
  | refine ⟨_, _, rfl, ?_⟩
  | refine ⟨_, _, _, rfl, rfl, ?_⟩
  | refine ⟨_, _, _, rfl, ?_⟩
  | refine ⟨_, _, _, _, rfl, rfl, ?_⟩
  | refine ⟨_, _, _, _, rfl, ?_⟩
  | refine ⟨_, _, rfl, by assumption, ?_⟩
  | refine ⟨_, _, _, rfl, rfl, rfl, ?_⟩
  | refine ⟨_, _, _, rfl, rfl, by assumption, ?_⟩
  | refine ⟨_, _, _, rfl, rfl, by walk_at "side", by assumption, ?_⟩
  | refine ⟨_, _, _, rfl, rfl, by walk_at "side", rfl, ?_⟩
  | refine ⟨_, _, _, rfl, rfl, rfl, by assumption, ?_⟩
  | refine .inl ⟨_, rfl, ?_⟩
  | refine .inr ⟨_, rfl, ?_⟩
  | refine .inr (.inl ⟨_, rfl, ?_⟩)
  | refine .inr (.inr ⟨_, rfl, ?_⟩)
  | refine And.intro (by walk_at "side") ?_))


abbrev cl (x : Str) : List Nat := x.cps.toList
open PySem.NumText (AllDigits digitsVal)
def Word (x : Str) : Prop := AllDigits (cl x) ∧ cl x ≠ [] ∧ x.length ≤ 400
def P_is_number : Prm := fun ds Q _ => ∃ x : Str, ds = [.str x] ∧ x.length ≤ sizeLine ∧ (Word x → Q (.bl true)) ∧ (¬ Word x → Q (.bl false))
def P_Ratio_read : Prm := fun ds Q ex => ∃ x : Str, ds = [.str x] ∧ x.length ≤ 100000 ∧ (∀ t b, DX.Low t b → cl x = DX.wl t b → Q (R t b)) ∧ ((∀ t b, DX.Low t b → cl x ≠ DX.wl t b) → ex "BadNumber" (xD sh_BadNumber [.str x]))
def P_law_digits : Prm := fun ds Q _ => ∃ x : Str, ds = [.str x] ∧ x.length ≤ 100000 ∧ (DX.Canon (cl x) → x.length ≤ 400 → Q (.int ((digitsVal (cl x) : Nat) : Int))) ∧ (¬ (DX.Canon (cl x) ∧ x.length ≤ 400) → Q (.int (-1)))
def P_law_reader : Prm := fun ds Q _ => ∃ x : Str, ds = [.str x] ∧ x.length ≤ 100000 ∧ (∀ t b, DX.Low t b → cl x = DX.wl t b → Q (.tup [.int t, .int b])) ∧ ((∀ t b, DX.Low t b → cl x ≠ DX.wl t b) → Q .non)
def P_law_is : Prm := fun ds Q _ => ∃ t b : Int, ds = [R t b, .tup [.int t, .int b]] ∧ Q (.bl true)
def P_law_shown : Prm := fun ds Q _ => ∃ t b : Int, ds = [R t b, .str (DX.wr t b)] ∧ 0 < b ∧ Q (.bl true)
def P_law_read : Prm := fun ds Q _ => ∃ (x : Str) (d : D), ds = [.str x, d] ∧ x.length ≤ 100000 ∧ OkS x ∧ ((∃ t b, d = .tup [.int t, .int b] ∧ DX.Low t b ∧ cl x = DX.wl t b) ∨ (d = .non ∧ ∀ t b, DX.Low t b → cl x ≠ DX.wl t b)) ∧ Q (.bl true)
theorem low_of {u v : Int} (hu : u.natAbs < 10 ^ 400) (hv : v.natAbs < 10 ^ 400) (h0 : v ≠ 0) : DX.Low (nT u v) (nB u v) := by
  have n := nrm_of (t := u) h0
  exact ⟨n.pos, n.cop, DX.lt_long (Nat.lt_of_le_of_lt (nT_le u v) hu), DX.lt_long (Nat.lt_of_le_of_lt (nB_le u v) hv)⟩
theorem low_id {t b : Int} (h : DX.Low t b) : nT t b = t ∧ nB t b = b := ⟨nT_nrm ⟨h.pos, h.cop⟩, nB_nrm ⟨h.pos, h.cop⟩⟩
theorem low_x {x : Str} {t b : Int} (h : DX.Low t b) : cl x = DX.wl t b ↔ DX.wr t b = x := by
  constructor
  · exact fun e => DX.str_ext (h.wr.trans e.symm)
  · exact fun e => by rw [← e]; exact h.wr
theorem word_lt {x : Str} (h : Word x) : digitsVal (cl x) < 10 ^ 400 := by
  refine Nat.lt_of_lt_of_le (DX.val_lt h.1) (Nat.pow_le_pow_right (by decide) ?_)
  rw [DX.len_list]
  exact h.2.2
theorem word_of {x : Str} {n : Nat} (e : cl x = DX.dig n) (h : n < 10 ^ 400) : Word x := ⟨by rw [e]; exact DX.dig_all n, by rw [e]; exact (DX.dig_canon n).ne, by
  rw [← DX.len_list]
  show (cl x).length ≤ 400
  rw [e]
  exact (DX.dig_len n 400 (by decide)).mpr h⟩
/-- the words of a text, for read -/
def Words (x p q : Str) : Prop := ∀ t b, DX.Low t b → cl x = DX.wl t b → cl p = DX.dig t.natAbs ∧ cl q = DX.dig b.natAbs
theorem words_of {x : Str} : (Txt.partition (Txt.removeprefix x ⟨#[45]⟩) ⟨#[47]⟩).1.length ≤ x.length ∧ (Txt.partition (Txt.removeprefix x ⟨#[45]⟩) ⟨#[47]⟩).2.2.length ≤ x.length ∧
    (((Txt.partition (Txt.removeprefix x ⟨#[45]⟩) ⟨#[47]⟩).2.1 = "" → Words x (Txt.partition (Txt.removeprefix x ⟨#[45]⟩) ⟨#[47]⟩).1 "1") ∧
    ((Txt.partition (Txt.removeprefix x ⟨#[45]⟩) ⟨#[47]⟩).2.1 ≠ "" → Words x (Txt.partition (Txt.removeprefix x ⟨#[45]⟩) ⟨#[47]⟩).1 (Txt.partition (Txt.removeprefix x ⟨#[45]⟩) ⟨#[47]⟩).2.2)) := by
  have hp := DX.pre_list x 45
  have hl : (Txt.removeprefix x ⟨#[45]⟩).length ≤ x.length := by
    rw [← DX.len_list, ← DX.len_list, hp]
    split
    · rw [List.length_drop]
      omega
    · exact Nat.le_refl _
  have hy : ∀ t b, cl x = DX.wl t b → (Txt.removeprefix x ⟨#[45]⟩).cps.toList = DX.dig t.natAbs ++ (if b = 1 then [] else 47 :: DX.dig b.natAbs) := fun t b e => by
    rw [hp]
    exact (DX.body_of e).1
  generalize Txt.removeprefix x ⟨#[45]⟩ = y at hy hl ⊢
  have l1 : (Txt.partition y ⟨#[47]⟩).1.length ≤ y.length ∧ (Txt.partition y ⟨#[47]⟩).2.2.length ≤ y.length := by
    have hs := congrArg Str.length (StrLaws.partition_sum y ⟨#[47]⟩)
    rw [Str.length_append, Str.length_append] at hs
    omega
  refine ⟨by omega, by omega, fun z t b hl e => ?_, fun z t b hl e => ?_⟩
  · have hyb := hy t b e
    by_cases hb : b = 1
    · subst hb
      rw [if_pos rfl, List.append_nil] at hyb
      rw [DX.part_no (by rw [hyb]; exact DX.dig_not (by decide))]
      exact ⟨hyb, by decide +kernel⟩
    · rw [if_neg hb] at hyb
      obtain ⟨h1, h2, h3⟩ := DX.part_yes hyb (DX.dig_not (by decide))
      rw [h2] at z
      exact absurd z (by decide +kernel)
  · have hyb := hy t b e
    by_cases hb : b = 1
    · subst hb
      rw [if_pos rfl, List.append_nil] at hyb
      rw [DX.part_no (by rw [hyb]; exact DX.dig_not (by decide))] at z
      exact absurd (show Str.empty = "" by decide +kernel) z
    · rw [if_neg hb] at hyb
      obtain ⟨h1, h2, h3⟩ := DX.part_yes hyb (DX.dig_not (by decide))
      exact ⟨h1, h3⟩

theorem fn_is_number (T : Txt LL K mg) (M : Mo cs sms cis K mg) : Nonempty (Fn P w K mg base (d_is_number.at_ K) 1 1 P_is_number) := by
  refine Fn.of (T.d 9 (d := d_is_number)) sc_is_number rfl (fun _ _ _ _ _ _ us hl => match us, hl with | [_], _ => rfl) (fun ds Q ex h => ?_) (fun fd cdv A outer s H E hr => ⟨_, pdss_one (pds_ret (pd_and (pd_cmp op_le l_B0 (pd_cb (fun h => pe_callB call_len (by rfl) (T.f "len") (by decide +kernel) h) l_len (pda_cons (pd_var (pv 0)) pda_nil)) (pd_int (pe_glob rfl (M.c "_MOST_DIGITS" 400).choose_spec ⟨_, rfl⟩)) (nomark _)) (pd_and (pd_m0 (fun h => pe_m0 PySem.F.slot_str_isascii PySem.F.type_str_isascii mt_isascii h) l_m0B (pd_var (pv 0))) (pd_one (pd_m0 (fun h => pe_m0 PySem.F.slot_str_isdigit PySem.F.type_str_isdigit mt_isdigit h) l_m0B (pd_var (pv 0))))))), fun ds Q ex h => ?_⟩)
  · obtain ⟨x, rfl, _⟩ := h
    rfl
  · obtain ⟨x, rfl, hx, q1, q0⟩ := h
    walk_at "go"
    refine d_ite (fun c => ?_) (fun c => ?_)
    · have c' : x.length ≤ 400 := by have := of_decide_eq_true c; omega
      walk_at "go"
      refine d_ite (fun c2 => ?_) (fun c2 => ?_)
      · walk_at "go"
        cases c3 : Txt.isdigit x with
        | true => exact q1 ⟨((DX.isnum_iff x).mp ⟨c2, c3⟩).1, ((DX.isnum_iff x).mp ⟨c2, c3⟩).2, c'⟩
        | false => exact q0 fun z => by rw [((DX.isnum_iff x).mpr ⟨z.1, z.2.1⟩).2] at c3; cases c3
      · walk_at "go"
        exact q0 fun z => by rw [((DX.isnum_iff x).mpr ⟨z.1, z.2.1⟩).1] at c2; cases c2
    · walk_at "go"
      exact q0 fun z => absurd z.2.2 (by have := of_decide_eq_false c; omega)

theorem fn_Ratio_read (T : Txt LL K mg) (M : Mo cs sms cis K mg) : Nonempty (Fn P w K mg base (d_Ratio_read.at_ K) 6 1 P_Ratio_read) := by
  obtain ⟨F_is_number⟩ := fn_is_number (P := P) (w := w) (base := base) T M
  obtain ⟨F_BadNumber⟩ := fx_BadNumber (P := P) (w := w) (base := base) T
  obtain ⟨⟨F_Ratio_init⟩, ⟨F_Ratio_init_d⟩⟩ := fn_Ratio_init (P := P) (w := w) (base := base) T M
  obtain ⟨F_Ratio_str⟩ := fn_Ratio_str (P := P) (w := w) (base := base) T M
  refine Fn.of (T.d 7 (d := d_Ratio_read)) sc_Ratio_read rfl (fun _ _ _ _ _ _ us hl => match us, hl with | [_], _ => rfl) (fun ds Q ex h => ?_) (fun fd cdv A outer s H E hr => ⟨_, pdss_cons (pds_asg (pd_m1 (fun h g => pe_partition h g) l_part (pd_m1 (fun h g => pe_m1 PySem.F.slot_str_removeprefix PySem.F.type_str_removeprefix mt_removeprefix h g) l_m1S (pd_var (pv 0)) (pd_str pe_str)) (pd_str pe_str)) (pdg_tup (by rfl) (pdgs_cons (pdg_name (pg_name (i := 1) sc_Ratio_read.nd rfl (by first | exact Or.inl rfl | exact Or.inr rfl))) (pdgs_cons (pdg_name (pg_name (i := 2) sc_Ratio_read.nd rfl (by first | exact Or.inl rfl | exact Or.inr rfl))) (pdgs_cons (pdg_name (pg_name (i := 3) sc_Ratio_read.nd rfl (by first | exact Or.inl rfl | exact Or.inr rfl))) pdgs_nil))))) (pdss_cut (pds_if (pdt_cmp op_eq l_eq (pd_var (pv 2)) (pd_str pe_str) (nomark _)) (pdss_one (pds_set (i := 3) sc_Ratio_read.nd rfl (by first | exact Or.inl rfl | exact Or.inr rfl) (pd_str pe_str))) pdss_nil) (pdss_cons (pds_if (PDW.pt (pdw_or (pdt_not (pdt_val (pd_call F_is_number (hr.mono (by decide)) (by rfl) (T.g "_is_number") (T.k "_is_number") (takes_of rfl rfl rfl rfl) (pda_cons (pd_var (pv 1)) pda_nil)))) (pdw_or (pdt_not (pdt_val (pd_call F_is_number (hr.mono (by decide)) (by rfl) (T.g "_is_number") (T.k "_is_number") (takes_of rfl rfl rfl rfl) (pda_cons (pd_var (pv 3)) pda_nil)))) (pdw_or1 (pdt_cmp op_eq l_eq (pd_cb (fun h => pe_callTy call_int_str (by rfl) (T.f "int") (by decide +kernel) h) l_intS (pda_cons (pd_var (pv 3)) pda_nil)) (pd_int pe_int) (nomark _)))))) (pdss_one (pds_raise rfl (takes_of rfl rfl rfl rfl) (fun h => pmk_oex (T.oex "BadNumber") (T.exI "BadNumber") (T.exT "BadNumber") F_BadNumber.ok (hr.mono (by decide)) F_BadNumber.bd .nil passL (by rfl) (T.g "BadNumber") h) (pda_cons (pd_var (pv 0)) pda_nil))) pdss_nil) (pdss_cons (pds_set (i := 4) sc_Ratio_read.nd rfl (by first | exact Or.inl rfl | exact Or.inr rfl) (pd_make (c := 0) (T.mkk "Ratio") F_Ratio_init (fun _ _ => .nil) (hr.mono (by decide)) (by rfl) (T.g "Ratio") (takes_of rfl rfl rfl rfl) (pda_cons (pd_ife (pdt_val (pd_m1 (fun h g => pe_m1 PySem.F.slot_str_startswith PySem.F.type_str_startswith mt_startswith h g) l_m1B (pd_var (pv 0)) (pd_str pe_str))) (pd_un un_neg l_U (pd_cb (fun h => pe_callTy call_int_str (by rfl) (T.f "int") (by decide +kernel) h) l_intS (pda_cons (pd_var (pv 1)) pda_nil))) (pd_cb (fun h => pe_callTy call_int_str (by rfl) (T.f "int") (by decide +kernel) h) l_intS (pda_cons (pd_var (pv 1)) pda_nil))) (pda_cons (pd_cb (fun h => pe_callTy call_int_str (by rfl) (T.f "int") (by decide +kernel) h) l_intS (pda_cons (pd_var (pv 3)) pda_nil)) pda_nil)))) (pdss_cons (pds_if (pdt_cmp op_ne l_ne (pd_cb (fun h => pe_callTy (call_strO (T.own "Ratio" "__str__") (T.fnn "Ratio" "__str__") F_Ratio_str.ok (hr.mono (by decide)) F_Ratio_str.bd passL) (by rfl) (T.f "str") (by decide +kernel) h) (l_strO (c := 0) F_Ratio_str.len) (pda_cons (pd_var (pv 4)) pda_nil)) (pd_var (pv 0)) (nomark _)) (pdss_one (pds_raise rfl (takes_of rfl rfl rfl rfl) (fun h => pmk_oex (T.oex "BadNumber") (T.exI "BadNumber") (T.exT "BadNumber") F_BadNumber.ok (hr.mono (by decide)) F_BadNumber.bd .nil passL (by rfl) (T.g "BadNumber") h) (pda_cons (pd_var (pv 0)) pda_nil))) pdss_nil) (pdss_one (pds_ret (pd_var (pv 4)))))))), fun ds Q ex h => ?_⟩)
  · obtain ⟨x, rfl, _⟩ := h
    rfl
  · obtain ⟨x, rfl, hx, qy, qn⟩ := h
    have hx0 : x.length ≤ sizeLine := by rw [sizeLine_eq]; omega
    have em : ("-" : Str) = ⟨#[45]⟩ := by decide +kernel
    have es : ("/" : Str) = ⟨#[47]⟩ := by decide +kernel
    obtain ⟨l1, l2, hw1, hw2⟩ := words_of (x := x)
    have hs := DX.starts_list x 45
    have hl0 : (Txt.removeprefix x ⟨#[45]⟩).length ≤ sizeLine := by
      have e := congrArg Str.length (StrLaws.partition_sum (Txt.removeprefix x ⟨#[45]⟩) ⟨#[47]⟩)
      rw [Str.length_append, Str.length_append] at e
      have e2 : (Txt.partition (Txt.removeprefix x ⟨#[45]⟩) ⟨#[47]⟩).2.1.length ≤ 1 := by
        rcases DX.part_any (Txt.removeprefix x ⟨#[45]⟩) 47 with h | h <;> rw [h.1] <;> decide
      rw [sizeLine_eq]
      omega
    rw [← em, ← es] at l1 l2 hw1 hw2
    rw [← em] at hl0 hs
    have ls : ∀ z : Str, z.length ≤ x.length → z.length ≤ sizeLine := fun z h => Nat.le_trans h hx0
    walk_at "go"
    generalize Txt.partition (Txt.removeprefix x "-") "/" = pq at l1 l2 hw1 hw2 ⊢
    obtain ⟨p, sl, q⟩ := pq
    refine ⟨fun env => ∃ p sl q : Str, env = [.val (.str x), .val (.str p), .val (.str sl), .val (.str q), .no] ∧ p.length ≤ sizeLine ∧ q.length ≤ sizeLine ∧ Words x p q, ?_, ?_⟩
    · walk_at "go"
      refine d_ite (fun c => ?_) (fun c => ?_)
      · walk_at "go"
        exact fun _ => ⟨_, _, _, rfl, ls _ l1, by decide +kernel, hw1 (of_decide_eq_true c)⟩
      · walk_at "go"
        exact fun _ => ⟨_, _, _, rfl, ls _ l1, ls _ l2, hw2 (of_decide_eq_false c)⟩
    clear l1 l2 hw1 hw2
    rintro env ⟨p, sl, q, rfl, hp, hq, hw⟩
    walk_at "go"
    refine ⟨fun w1 => ?_, fun w1 => ?_⟩
    · walk_at "go"
      refine ⟨fun w2 => ?_, fun w2 => ?_⟩
      · obtain ⟨i1, i3⟩ := DX.int_of w1.1 w1.2.1 w1.2.2
        obtain ⟨i2, i4⟩ := DX.int_of w2.1 w2.2.1 w2.2.2
        walk_at "go"
        refine d_ite (fun c => ?_) (fun c => ?_)
        · walk_at "go"
          refine qn fun t b hl e => ?_
          have k := (hw t b hl e).2
          have c' : ((digitsVal (cl q) : Nat) : Int) = 0 := of_decide_eq_true c
          rw [k, DX.dig_val] at c'
          have := hl.pos
          omega
        have hz : ((digitsVal (cl q) : Nat) : Int) ≠ 0 := of_decide_eq_false c
        have hv : (((digitsVal (cl q) : Nat) : Int)).natAbs < 10 ^ 400 := word_lt w2
        walk_at "go"
        refine d_ite (fun cs => ?_) (fun cs => ?_)
        · rw [hs] at cs
          have hst := of_decide_eq_true cs
          have hu : (-((digitsVal (cl p) : Nat) : Int)).natAbs < 10 ^ 400 := by
            rw [Int.natAbs_neg]
            exact word_lt w1
          have lw := low_of hu hv hz
          have hg : (gs [-((digitsVal (cl p) : Nat) : Int)] ((digitsVal (cl q) : Nat) : Int)).natAbs < 2 ^ 8999 := Nat.lt_of_le_of_lt (gs_le hz) (Nat.lt_trans hv (by decide +kernel))
          walk_at "go"
          refine ⟨fun z => absurd z hz, fun _ => ⟨hg, ?_⟩⟩
          have h0 := lw.pos
          walk_at "go"
          refine d_ite (fun c3 => ?_) (fun c3 => ?_)
          · walk_at "go"
            refine qn fun t b hl e => ?_
            have k3 : ¬ _ = x := of_decide_eq_false (Bool.not_eq_true' _ ▸ c3)
            refine k3 ((low_x lw).mp ?_)
            obtain ⟨h1, h2⟩ := hw t b hl e
            have ht : t < 0 := (DX.body_of e).2.mp hst
            have e1 : -((digitsVal (cl p) : Nat) : Int) = t := by
              rw [h1, DX.dig_val]
              omega
            have e2 : ((digitsVal (cl q) : Nat) : Int) = b := by
              have := hl.pos
              rw [h2, DX.dig_val]
              omega
            rw [e1, e2, (low_id hl).1, (low_id hl).2]
            exact e
          · walk_at "go"
            have k3 : _ = x := of_decide_eq_true (by simpa using c3)
            exact qy _ _ lw ((low_x lw).mpr k3)
        · rw [hs] at cs
          have hst := of_decide_eq_false cs
          have hu : (((digitsVal (cl p) : Nat) : Int)).natAbs < 10 ^ 400 := by
            skip
            exact word_lt w1
          have lw := low_of hu hv hz
          have hg : (gs [((digitsVal (cl p) : Nat) : Int)] ((digitsVal (cl q) : Nat) : Int)).natAbs < 2 ^ 8999 := Nat.lt_of_le_of_lt (gs_le hz) (Nat.lt_trans hv (by decide +kernel))
          walk_at "go"
          refine ⟨fun z => absurd z hz, fun _ => ⟨hg, ?_⟩⟩
          have h0 := lw.pos
          walk_at "go"
          refine d_ite (fun c3 => ?_) (fun c3 => ?_)
          · walk_at "go"
            refine qn fun t b hl e => ?_
            have k3 : ¬ _ = x := of_decide_eq_false (Bool.not_eq_true' _ ▸ c3)
            refine k3 ((low_x lw).mp ?_)
            obtain ⟨h1, h2⟩ := hw t b hl e
            have ht : ¬ t < 0 := fun z => hst ((DX.body_of e).2.mpr z)
            have e1 : ((digitsVal (cl p) : Nat) : Int) = t := by
              rw [h1, DX.dig_val]
              omega
            have e2 : ((digitsVal (cl q) : Nat) : Int) = b := by
              have := hl.pos
              rw [h2, DX.dig_val]
              omega
            rw [e1, e2, (low_id hl).1, (low_id hl).2]
            exact e
          · walk_at "go"
            have k3 : _ = x := of_decide_eq_true (by simpa using c3)
            exact qy _ _ lw ((low_x lw).mpr k3)
      · walk_at "go"
        exact qn fun t b hl e => w2 (word_of (hw t b hl e).2 (DX.long_lt hl.sb))
    · walk_at "go"
      exact qn fun t b hl e => w1 (word_of (hw t b hl e).1 (DX.long_lt hl.st))
end
end K01

namespace K01
open PySem PySem.Spec PyProof.Rows L2 LR DL
section
variable {P : Program} {w : World} {K : PySem.W.Frag} {mg : Str → Option Value} {base : Heap}
local macro_rules | `(tactic| walk_at "side") => `(tactic| first | rfl | assumption | exact ⟨_, rfl⟩ | omega | exact mulL (by omega) (by omega) | exact mulR (by omega) (by omega) | exact mulF (by decide) (by decide) | exact ⟨by decide, by decide +kernel⟩ | decide | exact Nat.le_of_ble_eq_true rfl | (simp only [List.length_cons, List.length_nil, List.length_map, List.nil_append, List.cons_append, sizeLine_eq]; omega) | (simp only [List.map_cons, List.map_nil, List.nil_append, List.cons_append]; decide +kernel))
local macro_rules | `(tactic| walk_at "go") => `(tactic| repeat (first
  | refine ⟨_, rfl, ?_⟩
  | refine ⟨_, _, rfl, rfl, ?_⟩
  | refine ⟨_, _, rfl, ?_⟩
  | refine ⟨_, _, _, rfl, rfl, ?_⟩
  | refine ⟨_, _, _, rfl, ?_⟩
  | refine ⟨_, _, _, _, rfl, rfl, ?_⟩
  | refine ⟨_, _, _, _, rfl, ?_⟩
  | refine ⟨_, _, rfl, by assumption, ?_⟩
  | refine ⟨_, _, _, rfl, rfl, rfl, ?_⟩
  | refine ⟨_, _, _, rfl, rfl, by assumption, ?_⟩
  | refine ⟨_, _, _, rfl, rfl, by walk_at "side", by assumption, ?_⟩
  | refine ⟨_, _, _, rfl, rfl, by walk_at "side", rfl, ?_⟩
  | refine ⟨_, _, _, rfl, rfl, rfl, by assumption, ?_⟩
  | refine .inl ⟨_, rfl, ?_⟩
  | refine .inr ⟨_, rfl, ?_⟩
  | refine .inr (.inl ⟨_, rfl, ?_⟩)
  | refine .inr (.inr ⟨_, rfl, ?_⟩)
  | refine And.intro (by walk_at "side") ?_))


open PySem.NumText (AllDigits digitsVal)
theorem signs10 (c : Nat) : DL.occ ("0123456789" : Str) ⟨#[c]⟩ = (decide (48 ≤ c) && decide (c ≤ 57)) := by
  unfold DL.occ
  rw [StrLaws.found_one]
  have e : ("0123456789" : Str).cps.toList = [48, 49, 50, 51, 52, 53, 54, 55, 56, 57] := by decide +kernel
  rw [e, Bool.eq_iff_iff, decide_eq_true_eq, Bool.and_eq_true, decide_eq_true_eq, decide_eq_true_eq]
  simp only [List.mem_cons, List.not_mem_nil, or_false]
  omega
theorem len_jl (c : Nat) : ∀ (qs : List (List Nat)) (q : List Nat), q ∈ qs → q.length ≤ (DX.jl c qs).length
  | [], _, h => by cases h
  | [p], q, h => by
    rw [List.mem_singleton.mp h]
    exact Nat.le_refl _
  | p :: p2 :: r, q, h => by
    show q.length ≤ (p ++ c :: DX.jl c (p2 :: r)).length
    rw [List.length_append, List.length_cons]
    rcases List.mem_cons.mp h with rfl | h
    · omega
    · have := len_jl c (p2 :: r) q h
      omega
theorem take_cs {cs : List Nat} {c : Nat} (h : cs.take 1 = [c]) : cs = c :: cs.drop 1 := by
  cases cs with
  | nil => cases h
  | cons a r =>
    have : a = c := (List.cons.inj h).1
    subst this
    rfl
/-- what the reader has at its end -/
theorem fin_wl {x y : Str} {v b : Nat} (hb : 0 < b) (hv : v < 10 ^ 400) (hb2 : b < 10 ^ 400) (hg : Nat.gcd b v = 1) (h0 : v = 0 → x = "0") (hy : cl y = DX.dig v ++ (if (b : Int) = 1 then [] else 47 :: DX.dig b)) :
    ((cl x).take 1 = [45] → cl y = (cl x).drop 1 → DX.Low (-(v : Int)) b ∧ cl x = DX.wl (-(v : Int)) b) ∧ (cl y = cl x → DX.Low v b ∧ cl x = DX.wl v b) := by
  have lo : ∀ t : Int, t.natAbs = v → DX.Low t b := fun t e => ⟨by omega, by rw [e]; exact hg, DX.lt_long (by rw [e]; exact hv), DX.lt_long hb2⟩
  refine ⟨fun h1 h2 => ⟨lo _ (by omega), ?_⟩, fun h2 => ⟨lo _ (by omega), ?_⟩⟩
  · have hv0 : v ≠ 0 := fun z => by
      have e : cl x = [48] := by rw [h0 z]; decide +kernel
      rw [e] at h1
      cases h1
    rw [take_cs h1, ← h2, hy]
    unfold DX.wl
    rw [DX.sg_neg (by omega), Int.natAbs_neg, Int.natAbs_natCast, Int.natAbs_natCast]
    rfl
  · rw [← h2, hy]
    unfold DX.wl
    rw [DX.sg_nn (by omega), Int.natAbs_natCast, Int.natAbs_natCast]
    rfl
/-- the parts of a text that is a written form -/
theorem parts_wl {x y : Str} {t b : Int} (hl : DX.Low t b) (e : cl x = DX.wl t b) (hy : cl y = if (cl x).take 1 = [45] then (cl x).drop 1 else cl x) : (Txt.split y ⟨#[47]⟩).map (fun p => p.cps.toList) = if b = 1 then [DX.dig t.natAbs] else [DX.dig t.natAbs, DX.dig b.natAbs] := by
  rw [(DX.body_of e).1] at hy
  by_cases hb : b = 1
  · rw [if_pos hb] at hy ⊢
    refine DX.split_is (by simp) (fun q hq => ?_) (hy.trans (List.append_nil _))
    rw [List.mem_singleton.mp hq]
    exact DX.dig_not (by decide)
  · rw [if_neg hb] at hy ⊢
    refine DX.split_is (by simp) (fun q hq => ?_) hy
    simp only [List.mem_cons, List.not_mem_nil, or_false] at hq
    rcases hq with rfl | rfl <;> exact DX.dig_not (by decide)
theorem wl_inj {t b t' b' : Int} (h : DX.Low t b) (h' : DX.Low t' b') (e : DX.wl t b = DX.wl t' b') : t = t' ∧ b = b' := by
  have k : ∀ {t b : Int}, DX.Low t b → (Txt.split (⟨(if (DX.wl t b).take 1 = [45] then (DX.wl t b).drop 1 else DX.wl t b).toArray⟩ : Str) ⟨#[47]⟩).map (fun p => p.cps.toList) = if b = 1 then [DX.dig t.natAbs] else [DX.dig t.natAbs, DX.dig b.natAbs] := fun {t b} h =>
    parts_wl (x := ⟨(DX.wl t b).toArray⟩) h rfl rfl
  have k1 := k h
  have k2 := k h'
  rw [e, k2] at k1
  have s1 := (DX.body_of (t := t) (b := b) rfl).2
  have s2 := (DX.body_of (t := t') (b := b') rfl).2
  rw [e] at s1
  have di : ∀ {a c : Nat}, DX.dig a = DX.dig c → a = c := fun {a c} z => by rw [← DX.dig_val a, z, DX.dig_val]
  have hs : t < 0 ↔ t' < 0 := s1.symm.trans s2
  have p := h.pos
  have p' := h'.pos
  by_cases hb : b = 1
  · by_cases hb' : b' = 1
    · rw [if_pos hb, if_pos hb'] at k1
      have := di (List.cons.inj k1).1
      omega
    · rw [if_pos hb, if_neg hb'] at k1
      cases (List.cons.inj k1).2
  · by_cases hb' : b' = 1
    · rw [if_neg hb, if_pos hb'] at k1
      cases (List.cons.inj k1).2
    · rw [if_neg hb, if_neg hb'] at k1
      obtain ⟨k3, k4⟩ := List.cons.inj k1
      have e3 := di k3
      have e4 := di (List.cons.inj k4).1
      omega

theorem nd_BadNumber : (sh_BadNumber.map (·.1)).Nodup := by decide +kernel
theorem xl_BadNumber_word (a0 : D) : (xD sh_BadNumber [a0]).lookup ("word" : Str) = some (.str "number" : D) := lookup_at (k := 0) nd_BadNumber rfl
theorem xl_BadNumber_text (a0 : D) : (xD sh_BadNumber [a0]).lookup ("text" : Str) = some (a0 : D) := lookup_at (k := 1) nd_BadNumber rfl

theorem fn_law_digits (T : Txt LL K mg) (M : Mo cs sms cis K mg) : Nonempty (Fn P w K mg base (d_law_digits.at_ K) 1 1 P_law_digits) := by
  refine Fn.of (T.d 25 (d := d_law_digits)) sc_law_digits rfl (fun _ _ _ _ _ _ us hl => match us, hl with | [_], _ => rfl) (fun ds Q ex h => ?_) (fun fd cdv A outer s H E hr => ⟨_, pdss_cut (pds_if (PDW.pt (pdw_or (pdt_cmp op_eq l_eq (pd_var (pv 0)) (pd_str pe_str) (nomark _)) (pdw_or (pdt_cmp op_gt l_B0 (pd_cb (fun h => pe_callB call_len (by rfl) (T.f "len") (by decide +kernel) h) l_len (pda_cons (pd_var (pv 0)) pda_nil)) (pd_int pe_int) (nomark _)) (pdw_or1 (PDW.pt (pdw_and (pdt_cmp op_eq l_eq (pd_ix ix_str l_ixS (pd_var (pv 0)) (pd_int pe_int) (fun _ _ => rfl)) (pd_str pe_str) (nomark _)) (pdw_and1 (pdt_cmp op_gt l_B0 (pd_cb (fun h => pe_callB call_len (by rfl) (T.f "len") (by decide +kernel) h) l_len (pda_cons (pd_var (pv 0)) pda_nil)) (pd_int pe_int) (nomark _))))))))) (pdss_one (pds_ret (pd_un un_neg l_U (pd_int pe_int)))) pdss_nil) (pdss_cons (pds_for (passes_of rfl) rfl (pdi_str (pd_var (pv 0))) (pdg_name (pg_name (i := 1) sc_law_digits.nd rfl (by first | exact Or.inl rfl | exact Or.inr rfl))) (pdss_one (pds_if (pdt_cmp op_notIn_str l_notInS (pd_var (pv 1)) (pd_str pe_str) (by rfl)) (pdss_one (pds_ret (pd_un un_neg l_U (pd_int pe_int)))) pdss_nil))) (pdss_one (pds_ret (pd_cb (fun h => pe_callTy call_int_str (by rfl) (T.f "int") (by decide +kernel) h) l_intS (pda_cons (pd_var (pv 0)) pda_nil))))), fun ds Q ex h => ?_⟩)
  · obtain ⟨x, rfl, _⟩ := h
    rfl
  · obtain ⟨x, rfl, hx, qy, qn⟩ := h
    have hx0 : x.length ≤ sizeLine := by rw [sizeLine_eq]; omega
    have hlen := DX.len_list x
    refine ⟨fun env => env = [.val (.str x), .no] ∧ x.length ≤ 400 ∧ ∃ c r, cl x = c :: r ∧ (c ≠ 48 ∨ r = []), ?_, ?_⟩
    · walk_at "go"
      refine d_ite (fun c1 => ?_) (fun c1 => ?_)
      · walk_at "go"
        refine qn fun z => z.1.ne ?_
        have e : x = "" := of_decide_eq_true c1
        rw [e]
        decide +kernel
      have hne : cl x ≠ [] := fun z => (of_decide_eq_false c1 : ¬ x = "") (DX.str_ext (z.trans (by decide +kernel)))
      obtain ⟨c0, r, ec⟩ : ∃ c r, cl x = c :: r := by
        cases h : cl x with
        | nil => exact absurd h hne
        | cons c r => exact ⟨c, r, rfl⟩
      have e0 : atI x.cps.toList 0 = some c0 := by
        show atI (cl x) 0 = some c0
        rw [ec]
        exact atI_nat (j := 0) rfl
      walk_at "go"
      refine d_ite (fun c2 => ?_) (fun c2 => ?_)
      · walk_at "go"
        exact qn fun z => absurd z.2 (by have := of_decide_eq_true c2; omega)
      have h400 : x.length ≤ 400 := by have := of_decide_eq_false c2; omega
      have eq0 : (⟨#[c0]⟩ : Str) = "0" ↔ c0 = 48 := by
        have e : ("0" : Str) = ⟨#[48]⟩ := by decide +kernel
        rw [e]
        exact ⟨fun z => by injection z with z; injection z with z; exact (List.cons.inj z).1, fun z => by rw [z]⟩
      walk_at "go"
      refine d_ite (fun c3 => ?_) (fun c3 => ?_)
      · have h48 := eq0.mp (of_decide_eq_true c3)
        walk_at "go"
        refine d_ite (fun c4 => ?_) (fun c4 => ?_)
        · walk_at "go"
          refine qn fun z => ?_
          have l1 : 1 < x.length := by have := of_decide_eq_true c4; omega
          rw [← hlen] at l1
          have ec' : x.cps.toList = c0 :: r := ec
          rcases z.1.hd with e | ⟨c, r', e, hc⟩
          · have e : x.cps.toList = [48] := e
            rw [e] at l1
            exact absurd l1 (by decide)
          · have e : x.cps.toList = c :: r' := e
            rw [ec'] at e
            have := (List.cons.inj e).1
            omega
        · walk_at "go"
          refine fun _ => ⟨rfl, h400, c0, r, ec, .inr ?_⟩
          have l1 : ¬ 1 < x.length := by have := of_decide_eq_false c4; omega
          have ec' : x.cps.toList = c0 :: r := ec
          rw [← hlen, ec', List.length_cons] at l1
          exact List.length_eq_zero_iff.mp (by omega)
      · walk_at "go"
        exact fun _ => ⟨rfl, h400, c0, r, ec, .inl fun z => (of_decide_eq_false c3) (eq0.mpr z)⟩
    rintro env ⟨rfl, h400, c0, r, ec, hc⟩
    walk_at "go"
    refine ⟨fun i env => ∃ v : Sl, env = [.val (.str x), v] ∧ ∀ c ∈ (cl x).take i, 48 ≤ c ∧ c ≤ 57, fun _ => ⟨_, rfl, fun c hc => by rw [List.take_zero] at hc; cases hc⟩, ?_, ?_⟩
    · rintro i d env hd ⟨v, rfl, hi⟩
      obtain ⟨c, hci, rfl⟩ := map_at hd
      walk_at "go"
      refine d_ite (fun c3 => ?_) (fun c3 => ?_)
      · walk_at "go"
        refine qn fun z => ?_
        have := z.1.all c (List.mem_of_getElem? hci)
        rw [signs10] at c3
        simp only [Bool.not_eq_true', Bool.and_eq_false_iff, decide_eq_false_iff_not] at c3
        omega
      · walk_at "go"
        refine fun _ => ⟨_, rfl, fun e he => ?_⟩
        rw [List.take_add_one] at he
        rcases List.mem_append.mp he with h | h
        · exact hi e h
        · have hci' : (cl x)[i]? = some c := hci
          rw [hci'] at h
          have : e = c := by simpa using h
          rw [this]
          rw [signs10] at c3
          simpa using c3
    · rintro env ⟨v, rfl, hi⟩
      have hl : (strD x).length = (cl x).length := by unfold strD; rw [List.length_map]
      rw [hl, List.take_length] at hi
      have hC : DX.Canon (cl x) := ⟨hi, by
        rcases hc with h | h
        · right
          have := hi c0 (by rw [ec]; exact List.mem_cons_self)
          exact ⟨c0, r, ec, by omega⟩
        · by_cases h48 : c0 = 48
          · left
            rw [ec, h, h48]
          · right
            have := hi c0 (by rw [ec]; exact List.mem_cons_self)
            exact ⟨c0, r, ec, by omega⟩⟩
      obtain ⟨i1, i3⟩ := DX.int_of hC.all hC.ne h400
      walk_at "go"
      exact qy hC h400

theorem fn_law_reader (T : Txt LL K mg) (M : Mo cs sms cis K mg) : Nonempty (Fn P w K mg base (d_law_reader.at_ K) 2 1 P_law_reader) := by
  obtain ⟨F_law_digits⟩ := fn_law_digits (P := P) (w := w) (base := base) T M
  obtain ⟨F_law_gcd⟩ := fn_law_gcd (P := P) (w := w) (base := base) T M
  refine Fn.of (T.d 26 (d := d_law_reader)) sc_law_reader rfl (fun _ _ _ _ _ _ us hl => match us, hl with | [_], _ => rfl) (fun ds Q ex h => ?_) (fun fd cdv A outer s H E hr => ⟨_, pdss_cons (pds_set (i := 1) sc_law_reader.nd rfl (by first | exact Or.inl rfl | exact Or.inr rfl) (pd_var (pv 0))) (pdss_cut (pds_if (pdt_cmp op_eq l_eq (pd_slS (pd_var (pv 0)) pdo_none (pdo_some (pd_int pe_int))) (pd_str pe_str) (nomark _)) (pdss_one (pds_set (i := 1) sc_law_reader.nd rfl (by first | exact Or.inl rfl | exact Or.inr rfl) (pd_slS (pd_var (pv 0)) (pdo_some (pd_int pe_int)) pdo_none))) pdss_nil) (pdss_cons (pds_set (i := 2) sc_law_reader.nd rfl (by first | exact Or.inl rfl | exact Or.inr rfl) (pd_new (pdn_m1 (fun h g => pe_split h g) l_split (pd_var (pv 1)) (pd_str pe_str)))) (pdss_cons (pds_set (i := 3) sc_law_reader.nd rfl (by first | exact Or.inl rfl | exact Or.inr rfl) (pd_call F_law_digits (hr.mono (by decide)) (by rfl) (T.g "_law_digits") (T.k "_law_digits") (takes_of rfl rfl rfl rfl) (pda_cons (pd_ix ix_list l_ixL (pd_var (pv 2)) (pd_int pe_int) (fun _ _ => rfl)) pda_nil))) (pdss_cut (pds_if (PDW.pt (pdw_or (pdt_cmp op_gt l_B0 (pd_cb (fun h => pe_callB call_len (by rfl) (T.f "len") (by decide +kernel) h) l_len (pda_cons (pd_var (pv 2)) pda_nil)) (pd_int pe_int) (nomark _)) (pdw_or (pdt_cmp op_lt l_B0 (pd_var (pv 3)) (pd_int pe_int) (nomark _)) (pdw_or1 (PDW.pt (pdw_and (pdt_cmp op_eq l_eq (pd_var (pv 3)) (pd_int pe_int) (nomark _)) (pdw_and1 (pdt_cmp op_ne l_ne (pd_var (pv 0)) (pd_str pe_str) (nomark _))))))))) (pdss_one (pds_ret (pd_non pe_non))) pdss_nil) (pdss_cons (pds_set (i := 4) sc_law_reader.nd rfl (by first | exact Or.inl rfl | exact Or.inr rfl) (pd_int pe_int)) (pdss_cut (pds_if (pdt_cmp op_eq l_eq (pd_cb (fun h => pe_callB call_len (by rfl) (T.f "len") (by decide +kernel) h) l_len (pda_cons (pd_var (pv 2)) pda_nil)) (pd_int pe_int) (nomark _)) (pdss_cons (pds_set (i := 4) sc_law_reader.nd rfl (by first | exact Or.inl rfl | exact Or.inr rfl) (pd_call F_law_digits (hr.mono (by decide)) (by rfl) (T.g "_law_digits") (T.k "_law_digits") (takes_of rfl rfl rfl rfl) (pda_cons (pd_ix ix_list l_ixL (pd_var (pv 2)) (pd_int pe_int) (fun _ _ => rfl)) pda_nil))) (pdss_one (pds_if (PDW.pt (pdw_or (pdt_cmp op_lt l_B0 (pd_var (pv 4)) (pd_int pe_int) (nomark _)) (pdw_or1 (pdt_cmp op_ne l_ne (pd_call F_law_gcd (hr.mono (by decide)) (by rfl) (T.g "_law_gcd") (T.k "_law_gcd") (takes_of rfl rfl rfl rfl) (pda_cons (pd_var (pv 3)) (pda_cons (pd_var (pv 4)) pda_nil))) (pd_int pe_int) (nomark _))))) (pdss_one (pds_ret (pd_non pe_non))) pdss_nil))) pdss_nil) (pdss_cons (pds_if (pdt_cmp op_ne l_ne (pd_var (pv 1)) (pd_var (pv 0)) (nomark _)) (pdss_one (pds_set (i := 3) sc_law_reader.nd rfl (by first | exact Or.inl rfl | exact Or.inr rfl) (pd_un un_neg l_U (pd_var (pv 3))))) pdss_nil) (pdss_one (pds_ret (pd_tup (pda_cons (pd_var (pv 3)) (pda_cons (pd_var (pv 4)) pda_nil)))))))))))), fun ds Q ex h => ?_⟩)
  · obtain ⟨x, rfl, _⟩ := h
    rfl
  · obtain ⟨x, rfl, hx, qy, qn⟩ := h
    have hx0 : x.length ≤ sizeLine := by rw [sizeLine_eq]; omega
    have hlen := DX.len_list x
    have c1 := DX.cut1 x
    have c2 := DX.cut2 x
    have em : ("-" : Str) = ⟨#[45]⟩ := by decide +kernel
    have es : ("/" : Str) = ⟨#[47]⟩ := by decide +kernel
    walk_at "go"
    refine ⟨fun env => ∃ y : Str, env = [.val (.str x), .val (.str y), .no, .no, .no] ∧ cl y = (if (cl x).take 1 = [45] then (cl x).drop 1 else cl x), ?_, ?_⟩
    · walk_at "go"
      have iff1 : cutS x none (some 1) = "-" ↔ (cl x).take 1 = [45] := by
        rw [em]
        exact ⟨fun z => by rw [z] at c1; exact c1.symm, fun z => DX.str_ext (c1.trans z)⟩
      refine d_ite (fun c => ?_) (fun c => ?_)
      · walk_at "go"
        exact fun _ => ⟨_, rfl, by rw [if_pos (iff1.mp (of_decide_eq_true c))]; exact c2⟩
      · walk_at "go"
        exact fun _ => ⟨_, rfl, by rw [if_neg fun z => of_decide_eq_false c (iff1.mpr z)]⟩
    rintro env ⟨y, rfl, hy⟩
    have hyl : y.length ≤ x.length := by
      rw [← DX.len_list, ← DX.len_list]
      show (cl y).length ≤ (cl x).length
      rw [hy]
      split
      · rw [List.length_drop]
        omega
      · exact Nat.le_refl _
    have hy2 : y.length + 2 ≤ sizeLine := by rw [sizeLine_eq]; omega
    have hw : ∀ t b, DX.Low t b → cl x = DX.wl t b → (Txt.split y ⟨#[47]⟩).map (fun p => p.cps.toList) = if b = 1 then [DX.dig t.natAbs] else [DX.dig t.natAbs, DX.dig b.natAbs] := fun t b hl e => parts_wl hl e hy
    have hj := DX.split_list y 47
    have hps : ∀ p ∈ Txt.split y ⟨#[47]⟩, p.length ≤ 100000 := fun p hp => by
      have := len_jl 47 ((Txt.split y ⟨#[47]⟩).map (fun p => p.cps.toList)) p.cps.toList (List.mem_map_of_mem (f := fun p : Str => p.cps.toList) hp)
      rw [hj, DX.len_list, DX.len_list] at this
      omega
    rw [← es] at hw hj hps
    walk_at "go"
    have hne : Txt.split y "/" ≠ [] := by
      rw [es]
      exact DX.split_ne y 47
    generalize Txt.split y "/" = ps at hw hj hps hne ⊢
    obtain ⟨p0, r, rfl⟩ : ∃ p r, ps = p :: r := by
      cases ps with
      | nil => exact absurd rfl hne
      | cons p r => exact ⟨p, r, rfl⟩
    have h0l := hps p0 List.mem_cons_self
    have ex0 : atI ((p0 :: r).map D.str) 0 = some (.str p0) := atI_nat (j := 0) rfl
    -- the written form, by its parts
    have w0 : ∀ t b, DX.Low t b → cl x = DX.wl t b → cl p0 = DX.dig t.natAbs ∧ (b = 1 → r = []) ∧ (b ≠ 1 → ∃ p1, r = [p1] ∧ cl p1 = DX.dig b.natAbs) := fun t b hl e => by
      have h := hw t b hl e
      rw [List.map_cons] at h
      by_cases hb : b = 1
      · rw [if_pos hb] at h
        exact ⟨(List.cons.inj h).1, fun _ => List.map_eq_nil_iff.mp (List.cons.inj h).2, fun z => absurd hb z⟩
      · rw [if_neg hb] at h
        refine ⟨(List.cons.inj h).1, fun z => absurd z hb, fun _ => ?_⟩
        cases r with
        | nil => cases (List.cons.inj h).2
        | cons p1 s =>
          have h2 := (List.cons.inj h).2
          rw [List.map_cons] at h2
          rw [List.map_eq_nil_iff.mp (List.cons.inj h2).2]
          exact ⟨p1, rfl, (List.cons.inj h2).1⟩
    have cn : ∀ (p : Str) (n : Nat), cl p = DX.dig n → n < 10 ^ 400 → DX.Canon (cl p) ∧ p.length ≤ 400 := fun p n e hn => ⟨by rw [e]; exact DX.dig_canon n, by
      rw [← DX.len_list]
      show (cl p).length ≤ 400
      rw [e]
      exact (DX.dig_len n 400 (by decide)).mpr hn⟩
    walk_at "go"
    refine ⟨fun k0 k0l => ?_, fun k0 => ?_⟩
    rotate_left
    · -- no number at first
      have bad : ∀ t b, DX.Low t b → cl x ≠ DX.wl t b := fun t b hl e => k0 (cn p0 _ (w0 t b hl e).1 (DX.long_lt hl.st))
      refine ⟨fun _ => False, ?_, fun env z => z.elim⟩
      walk_at "go"
      refine d_ite (fun c => ?_) (fun c => ?_)
      · walk_at "go"
        exact qn bad
      · walk_at "go"
        exact qn bad
    have v0 : digitsVal (cl p0) < 10 ^ 400 := (DX.canon_len k0 400 (by decide)).mp (by rw [← DX.len_list] at k0l; exact k0l)
    have d0 : DX.dig (digitsVal (cl p0)) = cl p0 := DX.dig_of k0
    refine ⟨fun env => env = [.val (.str x), .val (.str y), .val (.lst ((p0 :: r).map D.str)), .val (.int ((digitsVal (cl p0) : Nat) : Int)), .no] ∧ r.length ≤ 1 ∧ (digitsVal (cl p0) = 0 → x = "0"), ?_, ?_⟩
    · walk_at "go"
      refine d_ite (fun c => ?_) (fun c => ?_)
      · walk_at "go"
        refine qn fun t b hl e => ?_
        obtain ⟨_, a1, a2⟩ := w0 t b hl e
        have c' := of_decide_eq_true c
        rw [List.length_map] at c'
        by_cases hb : b = 1
        · rw [a1 hb] at c'
          exact absurd c' (by simp)
        · obtain ⟨p1, er, _⟩ := a2 hb
          rw [er] at c'
          exact absurd c' (by simp)
      have hr : r.length ≤ 1 := by
        have c' := of_decide_eq_false c
        rw [List.length_map, List.length_cons] at c'
        omega
      walk_at "go"
      refine d_ite (fun c0 => ?_) (fun c0 => ?_)
      · walk_at "go"
        have h0 : digitsVal (cl p0) = 0 := by
          have z : ((digitsVal (cl p0) : Nat) : Int) = 0 := of_decide_eq_true c0
          omega
        refine d_ite (fun c1 => ?_) (fun c1 => ?_)
        · walk_at "go"
          refine qn fun t b hl e => ?_
          have e1 := (w0 t b hl e).1
          rw [e1, DX.dig_val] at h0
          have ht : t = 0 := by omega
          have hb : b = 1 := by
            have g := hl.cop
            rw [h0, Nat.gcd_zero_right] at g
            have := hl.pos
            omega
          subst ht hb
          have hn : ¬ x = "0" := of_decide_eq_false (by simpa using c1)
          exact hn (DX.str_ext (e.trans (by decide +kernel)))
        · walk_at "go"
          exact fun _ => ⟨rfl, hr, fun _ => of_decide_eq_true (by simpa using c1)⟩
      · walk_at "go"
        refine fun _ => ⟨rfl, hr, fun z => absurd (show ((digitsVal (cl p0) : Nat) : Int) = 0 by omega) (of_decide_eq_false c0)⟩
    rintro env ⟨rfl, hr, hz⟩
    refine ⟨fun env => ∃ b : Nat, env = [.val (.str x), .val (.str y), .val (.lst ((p0 :: r).map D.str)), .val (.int ((digitsVal (cl p0) : Nat) : Int)), .val (.int (b : Int))] ∧ 0 < b ∧ b < 10 ^ 400 ∧ Nat.gcd b (digitsVal (cl p0)) = 1 ∧ cl y = DX.dig (digitsVal (cl p0)) ++ (if (b : Int) = 1 then [] else 47 :: DX.dig b), ?_, ?_⟩
    · walk_at "go"
      refine d_ite (fun c => ?_) (fun c => ?_)
      · have c' := of_decide_eq_true c
        rw [List.length_map, List.length_cons] at c'
        obtain ⟨p1, rfl⟩ : ∃ p1, r = [p1] := len1 (by omega)
        have h1l := hps p1 (by simp)
        have ex1 : atI ([p0, p1].map D.str) 1 = some (.str p1) := atI_nat (j := 1) rfl
        have hyj : cl y = cl p0 ++ 47 :: cl p1 := hj.symm
        walk_at "go"
        refine ⟨fun k1 k1l => ?_, fun k1 => ?_⟩
        rotate_left
        · walk_at "go"
          refine qn fun t b hl e => ?_
          obtain ⟨_, a1, a2⟩ := w0 t b hl e
          by_cases hb : b = 1
          · cases a1 hb
          · obtain ⟨p, er, ep⟩ := a2 hb
            have : p1 = p := (List.cons.inj er).1
            subst this
            exact k1 (cn p1 _ ep (DX.long_lt hl.sb))
        have v1 : digitsVal (cl p1) < 10 ^ 400 := (DX.canon_len k1 400 (by decide)).mp (by rw [← DX.len_list] at k1l; exact k1l)
        have d1 : DX.dig (digitsVal (cl p1)) = cl p1 := DX.dig_of k1
        have w1 : ∀ t b, DX.Low t b → cl x = DX.wl t b → b ≠ 1 ∧ digitsVal (cl p1) = b.natAbs ∧ digitsVal (cl p0) = t.natAbs := fun t b hl e => by
          obtain ⟨a0, a1, a2⟩ := w0 t b hl e
          have hb : b ≠ 1 := fun z => by cases a1 z
          obtain ⟨p, er, ep⟩ := a2 hb
          have : p1 = p := (List.cons.inj er).1
          subst this
          exact ⟨hb, by rw [ep, DX.dig_val], by rw [a0, DX.dig_val]⟩
        have vg : (((digitsVal (cl p1) : Nat) : Int)).natAbs < 2 ^ 8999 := Nat.lt_trans v1 (by decide +kernel)
        walk_at "go"
        refine d_ite (fun c2 => ?_) (fun c2 => ?_)
        · walk_at "go"
          refine qn fun t b hl e => ?_
          have := of_decide_eq_true c2
          have := w1 t b hl e
          have := hl.pos
          omega
        have g2 := of_decide_eq_false c2
        walk_at "go"
        refine d_ite (fun c3 => ?_) (fun c3 => ?_)
        · walk_at "go"
          refine qn fun t b hl e => ?_
          have c3' : ¬ (((Nat.gcd (digitsVal (cl p1)) (digitsVal (cl p0)) : Nat) : Int)) = 1 := of_decide_eq_false (by simpa using c3)
          obtain ⟨_, e1, e0⟩ := w1 t b hl e
          rw [e1, e0, hl.cop] at c3'
          exact c3' rfl
        · walk_at "go"
          have c3' : (((Nat.gcd (digitsVal (cl p1)) (digitsVal (cl p0)) : Nat) : Int)) = 1 := of_decide_eq_true (by simpa using c3)
          refine fun _ => ⟨digitsVal (cl p1), rfl, by omega, v1, by omega, ?_⟩
          rw [if_neg (by omega), d0, d1]
          exact hyj
      · have c' := of_decide_eq_false c
        rw [List.length_map, List.length_cons] at c'
        obtain rfl : r = [] := List.length_eq_zero_iff.mp (by omega)
        walk_at "go"
        refine fun _ => ⟨1, rfl, by decide, by decide +kernel, Nat.gcd_one_left _, ?_⟩
        rw [if_pos (show ((1 : Nat) : Int) = 1 from rfl), List.append_nil, d0]
        exact hj.symm
    rintro env ⟨b, rfl, hb, hb2, hg, hyb⟩
    obtain ⟨f1, f2⟩ := fin_wl hb v0 hb2 hg hz hyb
    walk_at "go"
    refine d_ite (fun c => ?_) (fun c => ?_)
    · walk_at "go"
      have c' : ¬ y = x := of_decide_eq_false (by simpa using c)
      by_cases h45 : (cl x).take 1 = [45]
      · obtain ⟨lw, ew⟩ := f1 h45 (by rw [hy, if_pos h45])
        exact qy _ _ lw ew
      · exact absurd (DX.str_ext (by have h := hy; rw [if_neg h45] at h; exact h)) c'
    · walk_at "go"
      have c' : y = x := of_decide_eq_true (by simpa using c)
      obtain ⟨lw, ew⟩ := f2 (by rw [c'])
      exact qy _ _ lw ew
end
end K01

namespace K01
open PySem PySem.Spec PyProof.Rows L2 LR DL
section
variable {P : Program} {w : World} {K : PySem.W.Frag} {mg : Str → Option Value} {base : Heap}
local macro_rules | `(tactic| walk_at "side") => `(tactic| first | rfl | assumption | exact ⟨_, rfl⟩ | omega | exact mulL (by omega) (by omega) | exact mulR (by omega) (by omega) | exact mulF (by decide) (by decide) | exact ⟨by decide, by decide +kernel⟩ | decide | exact Nat.le_of_ble_eq_true rfl | (simp only [List.length_cons, List.length_nil, List.length_map, List.nil_append, List.cons_append, sizeLine_eq]; omega) | (simp only [List.map_cons, List.map_nil, List.nil_append, List.cons_append]; decide +kernel))
local macro_rules | `(tactic| walk_at "go") => `(tactic| repeat (first
  | refine ⟨_, rfl, ?_⟩
  | refine ⟨_, _, rfl, rfl, ?_⟩
  | refine ⟨_, _, rfl, ?_⟩
  | refine ⟨_, _, _, rfl, rfl, ?_⟩
  | refine ⟨_, _, _, rfl, ?_⟩
  | refine ⟨_, _, _, _, rfl, rfl, ?_⟩
  | refine ⟨_, _, _, _, rfl, ?_⟩
  | refine ⟨_, _, rfl, by assumption, ?_⟩
  | refine ⟨_, _, _, rfl, rfl, rfl, ?_⟩
  | refine ⟨_, _, _, rfl, rfl, by assumption, ?_⟩
  | refine ⟨_, _, _, rfl, rfl, by walk_at "side", by assumption, ?_⟩
  | refine ⟨_, _, _, rfl, rfl, by walk_at "side", rfl, ?_⟩
  | refine ⟨_, _, _, rfl, rfl, rfl, by assumption, ?_⟩
  | refine .inl ⟨_, rfl, ?_⟩
  | refine .inr ⟨_, rfl, ?_⟩
  | refine .inr (.inl ⟨_, rfl, ?_⟩)
  | refine .inr (.inr ⟨_, rfl, ?_⟩)
  | refine And.intro (by walk_at "side") ?_))


theorem wl_hd {t b : Int} : ∃ c r, DX.wl t b = c :: r ∧ (c = 45 ∨ (48 ≤ c ∧ c ≤ 57)) := by
  unfold DX.wl DX.sg
  split
  · exact ⟨45, _, rfl, .inl rfl⟩
  · have hl : 0 < (DX.dig t.natAbs).length := List.length_pos_iff.mpr (DX.dig_canon t.natAbs).ne
    cases e : DX.dig t.natAbs with
    | nil =>
      rw [e] at hl
      cases hl
    | cons a s => exact ⟨a, _, rfl, .inr (DX.dig_all t.natAbs a (by rw [e]; exact List.mem_cons_self))⟩
theorem long_not : ∀ t b, DX.Low t b → cl ("long" : Str) ≠ DX.wl t b := fun t b _ e => by
  obtain ⟨c, r, h, hc⟩ := wl_hd (t := t) (b := b)
  have e2 : cl ("long" : Str) = [108, 111, 110, 103] := by decide +kernel
  rw [h, e2] at e
  have := (List.cons.inj e).1
  omega
theorem low_long {t b : Int} (h : DX.Low t b) : DX.wr t b ≠ "long" := fun z => long_not t b h (by rw [← z]; exact h.wr)
theorem wr_len {t b : Int} : (DX.wr t b).length ≤ 1000 := by
  by_cases h : DX.isLong t = true ∨ DX.isLong b = true
  · rw [DX.wr_long h]
    decide +kernel
  · have h1 : DX.isLong t = false := by cases e : DX.isLong t with
      | true => exact absurd (.inl e) h
      | false => rfl
    have h2 : DX.isLong b = false := by cases e : DX.isLong b with
      | true => exact absurd (.inr e) h
      | false => rfl
    unfold DX.wr
    rw [if_neg h]
    show (DX.wl t b).toArray.size ≤ 1000
    rw [List.size_toArray]
    unfold DX.wl
    have a := (DX.dig_len t.natAbs 400 (by decide)).mpr (DX.long_lt h1)
    have b := (DX.dig_len _ 400 (by decide)).mpr (DX.long_lt h2)
    have c : (DX.sg t).length ≤ 1 := by unfold DX.sg; split <;> simp
    rw [List.length_append, List.length_append]
    split
    · simp
      omega
    · rw [List.length_cons]
      omega
def far (i : Nat) : Int := ((10 : Int) ^ (50 : Int).toNat + 7) ^ (2 ^ i)
theorem far0 : far 0 = (10 : Int) ^ (50 : Int).toNat + 7 := by
  unfold far
  rw [Nat.pow_zero, Int.pow_succ, Int.pow_zero, Int.one_mul]
theorem far_succ (i : Nat) : far (i + 1) = far i * far i := by
  unfold far
  rw [Nat.pow_succ, Nat.mul_two, Int.pow_add]
theorem far_lt : ∀ i : Nat, (far i).natAbs < 2 ^ (167 * 2 ^ i)
  | 0 => by rw [far0]; decide +kernel
  | i + 1 => by
    rw [far_succ]
    refine Nat.lt_of_lt_of_le (abs_mul_lt (far_lt i) (far_lt i)) (Nat.pow_le_pow_right (by decide) ?_)
    rw [Nat.pow_succ]
    omega
theorem far_mul {i : Nat} (h : i < 7) : IntMulOk (far i) (far i) := by
  have h2 : 2 ^ i ≤ 2 ^ 6 := Nat.pow_le_pow_right (by decide) (by omega)
  have h3 : 0 < 2 ^ i := Nat.pow_pos (by decide)
  refine mulW (far_lt i) (far_lt i) (by omega) (by omega) (by omega)
theorem far_long : DX.isLong (far 7) = true := by decide +kernel
theorem far_ne : far 7 ≠ 0 := by decide +kernel
theorem gs_one (b : Int) : (gs [1] b).natAbs ≤ 1 := by
  rw [gs_abs, cg1]
  exact Nat.le_of_eq (Nat.gcd_one_right _)

theorem fn_law_is (T : Txt LL K mg) (M : Mo cs sms cis K mg) : Nonempty (Fn P w K mg base (d_law_is.at_ K) 2 2 P_law_is) := by
  obtain ⟨F_law_is_integer⟩ := fn_law_is_integer (P := P) (w := w) (base := base) T M
  refine Fn.of (T.d 27 (d := d_law_is)) sc_law_is rfl (fun _ _ _ _ _ _ us hl => match us, hl with | [_, _], _ => rfl) (fun ds Q ex h => ?_) (fun fd cdv A outer s H E hr => ⟨_, pdss_cons (pds_if (PDW.pt (pdw_or (pdt_not (pdt_val (pd_isi (cr := (.own 0)) M.isi M.cls (fun c h => by cases h; decide) (fun h => pe_callB call_isi (by rfl) (T.f "isinstance") (by decide +kernel) (pa_cons h (pa_cons (pe_glob (v := .ref (He.ga K "Ratio")) rfl (T.g "Ratio") rfl) pa_nil))) (pd_var (pv 0))))) (pdw_or (pdt_not (pdt_val (pd_call F_law_is_integer (hr.mono (by decide)) (by rfl) (T.g "_law_is_integer") (T.k "_law_is_integer") (takes_of rfl rfl rfl rfl) (pda_cons (pd_fld (c := 0) (k := 0) (T.cl "Ratio") (T.no "Ratio" "top") fk_Ratio_top (pd_var (pv 0))) pda_nil)))) (pdw_or1 (pdt_not (pdt_val (pd_call F_law_is_integer (hr.mono (by decide)) (by rfl) (T.g "_law_is_integer") (T.k "_law_is_integer") (takes_of rfl rfl rfl rfl) (pda_cons (pd_fld (c := 0) (k := 1) (T.cl "Ratio") (T.no "Ratio" "bottom") fk_Ratio_bottom (pd_var (pv 0))) pda_nil)))))))) (pdss_one (pds_ret (pd_bl pe_bl))) pdss_nil) (pdss_one (pds_ret (pd_and (pd_cmp op_eq l_eq (pd_fld (c := 0) (k := 0) (T.cl "Ratio") (T.no "Ratio" "top") fk_Ratio_top (pd_var (pv 0))) (pd_ix ix_tup l_ixT (pd_var (pv 1)) (pd_int pe_int) (fun _ _ => rfl)) (nomark _)) (pd_one (pd_cmp op_eq l_eq (pd_fld (c := 0) (k := 1) (T.cl "Ratio") (T.no "Ratio" "bottom") fk_Ratio_bottom (pd_var (pv 0))) (pd_ix ix_tup l_ixT (pd_var (pv 1)) (pd_int pe_int) (fun _ _ => rfl)) (nomark _)))))), fun ds Q ex h => ?_⟩)
  · obtain ⟨t, b, rfl, _⟩ := h
    rfl
  · obtain ⟨t, b, rfl, q⟩ := h
    walk_at "go"
    have e1 : decide (t = t) = true := decide_eq_true rfl
    have e2 : decide (b = b) = true := decide_eq_true rfl
    rw [e1]
    walk_at "go"
    rw [e2]
    exact q

theorem fn_law_shown (T : Txt LL K mg) (M : Mo cs sms cis K mg) : Nonempty (Fn P w K mg base (d_law_shown.at_ K) 5 2 P_law_shown) := by
  obtain ⟨F_Ratio_str⟩ := fn_Ratio_str (P := P) (w := w) (base := base) T M
  refine Fn.of (T.d 28 (d := d_law_shown)) sc_law_shown rfl (fun _ _ _ _ _ _ us hl => match us, hl with | [_, _], _ => rfl) (fun ds Q ex h => ?_) (fun fd cdv A outer s H E hr => ⟨_, pdss_cons (pds_set (i := 2) sc_law_shown.nd rfl (by first | exact Or.inl rfl | exact Or.inr rfl) (pd_cb (fun h => pe_callTy (call_strO (T.own "Ratio" "__str__") (T.fnn "Ratio" "__str__") F_Ratio_str.ok (hr.mono (by decide)) F_Ratio_str.bd passL) (by rfl) (T.f "str") (by decide +kernel) h) (l_strO (c := 0) F_Ratio_str.len) (pda_cons (pd_var (pv 0)) pda_nil))) (pdss_one (pds_ret (pd_and (pd_isi (cr := .str) M.isi M.cls (fun c h => nomatch h) (fun h => pe_callB call_isi (by rfl) (T.f "isinstance") (by decide +kernel) (pa_cons h (pa_cons (pe_bltn (v := .ty "str") (by rfl) (T.f "str") (by decide +kernel) rfl) pa_nil))) (pd_var (pv 2))) (pd_one (pd_cmp op_eq l_eq (pd_var (pv 2)) (pd_var (pv 1)) (nomark _)))))), fun ds Q ex h => ?_⟩)
  · obtain ⟨t, b, rfl, _⟩ := h
    rfl
  · obtain ⟨t, b, rfl, h0, q⟩ := h
    have e : decide (DX.wr t b = DX.wr t b) = true := decide_eq_true rfl
    walk_at "go"
    rw [e]
    exact q

theorem fn_law_read (T : Txt LL K mg) (M : Mo cs sms cis K mg) : Nonempty (Fn P w K mg base (d_law_read.at_ K) 7 2 P_law_read) := by
  obtain ⟨F_Ratio_read⟩ := fn_Ratio_read (P := P) (w := w) (base := base) T M
  obtain ⟨F_law_shown⟩ := fn_law_shown (P := P) (w := w) (base := base) T M
  obtain ⟨F_law_is⟩ := fn_law_is (P := P) (w := w) (base := base) T M
  refine Fn.of (T.d 29 (d := d_law_read)) sc_law_read rfl (fun _ _ _ _ _ _ us hl => match us, hl with | [_, _], _ => rfl) (fun ds Q ex h => ?_) (fun fd cdv A outer s H E hr => ⟨_, pdss_cons (pds_set (i := 2) sc_law_read.nd rfl (by first | exact Or.inl rfl | exact Or.inr rfl) (pd_non pe_non)) (pdss_cons (pds_set (i := 3) sc_law_read.nd rfl (by first | exact Or.inl rfl | exact Or.inr rfl) (pd_new (pdn_lst pda_nil))) (pdss_cons (pds_try (i := 4) (x := "BadNumber") rfl rfl sc_law_read.nd rfl rfl ⟨rfl, by decide, Or.inl (T.g "BadNumber")⟩ (T.exM "BadNumber") (takes_of rfl rfl rfl rfl) (fun W pn xe tk po => pdss_one (pds_set (i := 2) sc_law_read.nd rfl (by first | exact Or.inl rfl | exact Or.inr rfl) (pd_sm (by rfl) (T.g "Ratio") (M.sm "Ratio" "read") F_Ratio_read (hr.mono (by decide)) tk (pda_cons (pd_var (pv 0)) pda_nil)))) (fun a oe cls d pn hz hf => pdss_one (pds_set (i := 3) sc_law_read.nd rfl (by first | exact Or.inl rfl | exact Or.inr rfl) (pd_new (pdn_lst (pda_cons (pd_xf (i := 4) (x := "BadNumber") K rfl (pe_xf (T.exa "BadNumber").1 (T.no "BadNumber" "text") hz hf (pv 4))) (pda_cons (pd_xf (i := 4) (x := "BadNumber") K rfl (pe_xf (T.exa "BadNumber").1 (T.no "BadNumber" "word") hz hf (pv 4))) (pda_cons (pd_xi (i := 4) (x := "BadNumber") K rfl (.own (He.ga K "LastrowsError")) (pe_callB (call_isD (T.exa "BadNumber").2.1 hz hf) (by rfl) (T.f "isinstance") (by decide +kernel) (pa_cons (pv 4) (pa_cons (pe_glob (v := .ref (He.ga K "LastrowsError")) rfl (T.g "LastrowsError") rfl) pa_nil)))) (pda_cons (pd_xi (i := 4) (x := "BadNumber") K rfl (.ty "ValueError") (pe_callB (call_isD (T.exa "BadNumber").2.1 hz hf) (by rfl) (T.f "isinstance") (by decide +kernel) (pa_cons (pv 4) (pa_cons (pe_bltn (v := .ty "ValueError") (by rfl) (T.f "ValueError") (by decide +kernel) rfl) pa_nil)))) (pda_cons (pd_xi (i := 4) (x := "BadNumber") K rfl (.own (He.ga K "BadText")) (pe_callB (call_isD (T.exa "BadNumber").2.1 hz hf) (by rfl) (T.f "isinstance") (by decide +kernel) (pa_cons (pv 4) (pa_cons (pe_glob (v := .ref (He.ga K "BadText")) rfl (T.g "BadText") rfl) pa_nil)))) (pda_cons (pd_xi (i := 4) (x := "BadNumber") K rfl (.own (He.ga K "ZeroBottom")) (pe_callB (call_isD (T.exa "BadNumber").2.1 hz hf) (by rfl) (T.f "isinstance") (by decide +kernel) (pa_cons (pv 4) (pa_cons (pe_glob (v := .ref (He.ga K "ZeroBottom")) rfl (T.g "ZeroBottom") rfl) pa_nil)))) pda_nil))))))))))) (pdss_cons (pds_if (pdt_cmp op_isN l_isN (pd_var (pv 1)) (pd_non pe_non) (nomark _)) (pdss_one (pds_ret (pd_and (pd_cmp op_isN l_isN (pd_var (pv 2)) (pd_non pe_non) (nomark _)) (pd_one (pd_cmp (op_eqD (hr.units)) l_eqD (pd_var (pv 3)) (pd_new (pdn_lst (pda_cons (pd_var (pv 0)) (pda_cons (pd_str pe_str) (pda_cons (pd_bl pe_bl) (pda_cons (pd_bl pe_bl) (pda_cons (pd_bl pe_bl) (pda_cons (pd_bl pe_bl) pda_nil)))))))) (nomark _)))))) pdss_nil) (pdss_one (pds_ret (pd_and (pd_cmp (op_eqD (hr.units)) l_eqD (pd_var (pv 3)) (pd_new (pdn_lst pda_nil)) (nomark _)) (pd_and (pd_call F_law_is (hr.mono (by decide)) (by rfl) (T.g "_law_is") (T.k "_law_is") (takes_of rfl rfl rfl rfl) (pda_cons (pd_var (pv 2)) (pda_cons (pd_var (pv 1)) pda_nil))) (pd_one (pd_call F_law_shown (hr.mono (by decide)) (by rfl) (T.g "_law_shown") (T.k "_law_shown") (takes_of rfl rfl rfl rfl) (pda_cons (pd_var (pv 2)) (pda_cons (pd_var (pv 0)) pda_nil))))))))))), fun ds Q ex h => ?_⟩)
  · obtain ⟨x, d, rfl, _⟩ := h
    rfl
  · obtain ⟨x, d, rfl, hx, ox, hd, q⟩ := h
    have k1 := T.kie "BadNumber" "LastrowsError" true
    have k2 := T.kiv "BadNumber" "ValueError" true
    have k3 := T.kie "BadNumber" "BadText" false
    have k4 := T.kie "BadNumber" "ZeroBottom" false
    have l1 := xl_BadNumber_text (.str x)
    have l2 := xl_BadNumber_word (.str x)
    have okx : okD (.lst [.str x, .str "number", .bl true, .bl true, .bl false, .bl false]) = true := okD_of 1 (fun y hy => by
      simp only [List.mem_cons, List.not_mem_nil, or_false] at hy
      rcases hy with rfl | rfl | rfl | rfl | rfl | rfl
      · exact ox
      · exact OkS.of (by decide +kernel)
      all_goals exact trivial) (by decide)
    have ex0 := eqD_refl okx
    have ok0 : okD (.lst []) = true := okD_of 1 (fun y hy => by cases hy) (by decide)
    have ex1 := eqD_refl ok0
    walk_at "go"
    refine ⟨fun t b hl e => ?_, fun hno => ?_⟩
    · rcases hd with ⟨t', b', rfl, hl', e'⟩ | ⟨rfl, hno⟩
      · obtain ⟨rfl, rfl⟩ := wl_inj hl hl' (e.symm.trans e')
        have h0 := hl.pos
        have ew : DX.wr t b = x := (low_x hl).mp e
        subst ew
        walk_at "go"
        exact q
      · exact absurd e (hno t b hl)
    · rcases hd with ⟨t', b', rfl, hl', e'⟩ | ⟨rfl, _⟩
      · exact absurd e' (hno t' b' hl')
      · refine .inl ⟨rfl, fun a dd => ?_⟩
        walk_at "go"
        rw [ex0]
        exact q

theorem law_ok (T : Txt LL K mg) (M : Mo cs sms cis K mg) : ∃ fd : FuncData, (∀ (s : Shared) (v : Value), BindsTo s fd ⟨[v], []⟩ [("script", v)]) ∧ ∀ base : Heap, FnOk P w K mg base CX0 8 (d_law.at_ K) fd ["script"] (spLaw K) := by
  refine law_of (T.d 30 (d := d_law)) sc_law rfl (fun _ _ _ _ _ _ us hl => match us, hl with | [_], _ => rfl) (fun base fd cdv A outer s H E hr => ?_)
  obtain ⟨F_law_numbers⟩ := fn_law_numbers (P := P) (w := w) (base := base) T M
  obtain ⟨F_law_ratio⟩ := fn_law_ratio (P := P) (w := w) (base := base) T M
  obtain ⟨F_law_written⟩ := fn_law_written (P := P) (w := w) (base := base) T M
  obtain ⟨F_law_texts⟩ := fn_law_texts (P := P) (w := w) (base := base) T M
  obtain ⟨⟨F_Ratio_init⟩, ⟨F_Ratio_init_d⟩⟩ := fn_Ratio_init (P := P) (w := w) (base := base) T M
  obtain ⟨F_Ratio_mul⟩ := fn_Ratio_mul (P := P) (w := w) (base := base) T M
  obtain ⟨F_law_shown⟩ := fn_law_shown (P := P) (w := w) (base := base) T M
  obtain ⟨F_Ratio_over⟩ := fn_Ratio_over (P := P) (w := w) (base := base) T M
  obtain ⟨F_Ratio_neg⟩ := fn_Ratio_neg (P := P) (w := w) (base := base) T M
  obtain ⟨F_law_read⟩ := fn_law_read (P := P) (w := w) (base := base) T M
  obtain ⟨F_law_reader⟩ := fn_law_reader (P := P) (w := w) (base := base) T M
  obtain ⟨F_law_is⟩ := fn_law_is (P := P) (w := w) (base := base) T M
  refine ⟨_, pdss_cons (pds_set (i := 1) sc_law.nd rfl (by first | exact Or.inl rfl | exact Or.inr rfl) (pd_call F_law_numbers (hr.mono (by decide)) (by rfl) (T.g "_law_numbers") (T.k "_law_numbers") takes0 (pda_cons (pd_var (pv 0)) pda_nil))) (pdss_cons (pds_set (i := 2) sc_law.nd rfl (by first | exact Or.inl rfl | exact Or.inr rfl) (pd_call F_law_ratio (hr.mono (by decide)) (by rfl) (T.g "_law_ratio") (T.k "_law_ratio") takes0 (pda_cons (pd_ix ix_list l_ixL (pd_var (pv 1)) (pd_int pe_int) (fun _ _ => rfl)) (pda_cons (pd_ix ix_list l_ixL (pd_var (pv 1)) (pd_int pe_int) (fun _ _ => rfl)) pda_nil)))) (pdss_cons (pds_set (i := 3) sc_law.nd rfl (by first | exact Or.inl rfl | exact Or.inr rfl) (pd_call F_law_written (hr.mono (by decide)) (by rfl) (T.g "_law_written") (T.k "_law_written") takes0 (pda_cons (pd_var (pv 2)) pda_nil))) (pdss_cons (pds_set (i := 4) sc_law.nd rfl (by first | exact Or.inl rfl | exact Or.inr rfl) (pd_call F_law_texts (hr.mono (by decide)) (by rfl) (T.g "_law_texts") (T.k "_law_texts") takes0 (pda_cons (pd_var (pv 0)) (pda_cons (pd_var (pv 3)) pda_nil)))) (pdss_cons (pds_set (i := 5) sc_law.nd rfl (by first | exact Or.inl rfl | exact Or.inr rfl) (pd_make (c := 0) (T.mkk "Ratio") F_Ratio_init (fun _ _ => .nil) (hr.mono (by decide)) (by rfl) (T.g "Ratio") takes0 (pda_cons (pd_ix ix_list l_ixL (pd_var (pv 1)) (pd_int pe_int) (fun _ _ => rfl)) (pda_cons (pd_ix ix_list l_ixL (pd_var (pv 1)) (pd_int pe_int) (fun _ _ => rfl)) pda_nil)))) (pdss_cons (pds_set (i := 6) sc_law.nd rfl (by first | exact Or.inl rfl | exact Or.inr rfl) (pd_make (c := 0) (T.mkk "Ratio") F_Ratio_init_d dd_Ratio (hr.mono (by decide)) (by rfl) (T.g "Ratio") takes0 (pda_cons (pd_op op_add l_I0 (pd_op op_powZ l_I (pd_int pe_int) (pd_int pe_int)) (pd_int pe_int)) pda_nil))) (pdss_cons (pds_for (passes_of rfl) rfl (pdi_range1 rfl (T.f "range") (pda_cons (pd_int pe_int) pda_nil)) (pdg_name (pg_name (i := 7) sc_law.nd rfl (by first | exact Or.inl rfl | exact Or.inr rfl))) (pdss_one (pds_set (i := 6) sc_law.nd rfl (by first | exact Or.inl rfl | exact Or.inr rfl) (pd_op (op_binO (op := .Mult) (T.first "Ratio") (T.own "Ratio" "__mul__") (T.fnn "Ratio" "__mul__") F_Ratio_mul.ok (hr.mono (by decide)) F_Ratio_mul.bd passL) (l_binO (c := 0) F_Ratio_mul.len) (pd_var (pv 6)) (pd_var (pv 6)))))) (pdss_cons (pds_if (PDW.pt (pdw_or (pdt_not (pdt_val (pd_call F_law_shown (hr.mono (by decide)) (by rfl) (T.g "_law_shown") (T.k "_law_shown") takes0 (pda_cons (pd_var (pv 6)) (pda_cons (pd_str pe_str) pda_nil))))) (pdw_or (pdt_not (pdt_val (pd_call F_law_shown (hr.mono (by decide)) (by rfl) (T.g "_law_shown") (T.k "_law_shown") takes0 (pda_cons (pd_un (un_negO (T.own "Ratio" "__neg__") (T.fnn "Ratio" "__neg__") F_Ratio_neg.ok (hr.mono (by decide)) F_Ratio_neg.bd passL) (l_unO (c := 0) F_Ratio_neg.len) (pd_var (pv 6))) (pda_cons (pd_str pe_str) pda_nil))))) (pdw_or1 (pdt_not (pdt_val (pd_call F_law_shown (hr.mono (by decide)) (by rfl) (T.g "_law_shown") (T.k "_law_shown") takes0 (pda_cons (pd_meth (c := 0) (pd_make (c := 0) (T.mkk "Ratio") F_Ratio_init_d dd_Ratio (hr.mono (by decide)) (by rfl) (T.g "Ratio") takes0 (pda_cons (pd_int pe_int) pda_nil)) (T.cl "Ratio") (T.me "Ratio" "over") F_Ratio_over (hr.mono (by decide)) takes0 nm_Ratio_over (pda_cons (pd_var (pv 6)) pda_nil)) (pda_cons (pd_str pe_str) pda_nil))))))))) (pdss_one (pds_ret (pd_bl pe_bl))) pdss_nil) (pdss_cons (pds_for (passes_of rfl) rfl (pdi_range1 rfl (T.f "range") (pda_cons (pd_int pe_int) pda_nil)) (pdg_name (pg_name (i := 7) sc_law.nd rfl (by first | exact Or.inl rfl | exact Or.inr rfl))) (pdss_cons (pds_if (pdt_not (pdt_val (pd_call F_law_shown (hr.mono (by decide)) (by rfl) (T.g "_law_shown") (T.k "_law_shown") takes0 (pda_cons (pd_var (pv 5)) (pda_cons (pd_var (pv 3)) pda_nil))))) (pdss_one (pds_ret (pd_bl pe_bl))) pdss_nil) (pdss_cut (pds_if (PDW.pt (pdw_and (pdt_cmp op_eq l_eq (pd_var (pv 3)) (pd_str pe_str) (nomark _)) (pdw_and1 (pdt_not (pdt_val (pd_call F_law_read (hr.mono (by decide)) (by rfl) (T.g "_law_read") (T.k "_law_read") takes0 (pda_cons (pd_var (pv 3)) (pda_cons (pd_non pe_non) pda_nil)))))))) (pdss_one (pds_ret (pd_bl pe_bl))) pdss_nil) (pdss_cut (pds_if (PDW.pt (pdw_and (pdt_cmp op_ne l_ne (pd_var (pv 3)) (pd_str pe_str) (nomark _)) (pdw_and1 (pdt_not (pdt_val (pd_call F_law_read (hr.mono (by decide)) (by rfl) (T.g "_law_read") (T.k "_law_read") takes0 (pda_cons (pd_var (pv 3)) (pda_cons (pd_var (pv 2)) pda_nil)))))))) (pdss_one (pds_ret (pd_bl pe_bl))) pdss_nil) (pdss_one (pds_for (passes_of rfl) rfl (pdi_list (pd_var (pv 4))) (pdg_name (pg_name (i := 8) sc_law.nd rfl (by first | exact Or.inl rfl | exact Or.inr rfl))) (pdss_one (pds_if (pdt_not (pdt_val (pd_call F_law_read (hr.mono (by decide)) (by rfl) (T.g "_law_read") (T.k "_law_read") takes0 (pda_cons (pd_var (pv 8)) (pda_cons (pd_call F_law_reader (hr.mono (by decide)) (by rfl) (T.g "_law_reader") (T.k "_law_reader") takes0 (pda_cons (pd_var (pv 8)) pda_nil)) pda_nil))))) (pdss_one (pds_ret (pd_bl pe_bl))) pdss_nil)))))))) (pdss_one (pds_ret (pd_call F_law_is (hr.mono (by decide)) (by rfl) (T.g "_law_is") (T.k "_law_is") takes0 (pda_cons (pd_var (pv 5)) (pda_cons (pd_var (pv 2)) pda_nil))))))))))))), fun ns hl => ?_⟩
  have o1 : okD (.lst []) = true := okD_of 1 (fun y hy => by cases hy) (by decide)
  walk_at "go"
  intro t b hb ht hbs
  have hbs' : b.natAbs < 2 ^ 8999 := abs_up hbs (by decide)
  have hgs : (gs [t] b).natAbs < 2 ^ 8999 := Nat.lt_of_le_of_lt (gs_le hb) hbs'
  have h0 := nB_pos (t := t) hb
  have wl1 : (DX.wr (nT t b) (nB t b)).length ≤ 1000 := wr_len
  have wo := DX.wr_ok (nT t b) (nB t b)
  walk_at "go"
  intro ys hys
  walk_at "go"
  refine fun _ => ⟨hgs, ?_⟩
  walk_at "go"
  refine fun _ => ?_
  have n1 := Nrm.one ((10 : Int) ^ (50 : Int).toNat + 7)
  refine ⟨by rw [gs_nrm n1]; decide, ?_⟩
  rw [nT_nrm n1, nB_nrm n1]
  generalize hu : nT t b = u at *
  generalize hv : nB t b = v at *
  walk_at "go"
  refine ⟨fun i env => ∃ w : Sl, env = [.val (.lst (ns.map D.int)), .val (.lst [.int t, .int b]), .val (.tup [.int u, .int v]), .val (.str (DX.wr u v)), .val (.lst (ys.map D.str)), .val (R u v), .val (R (far i) 1), w, .no], fun _ => ⟨.no, by rw [far0]; rfl⟩, ?_, ?_⟩
  · rintro i _ env hx ⟨w, rfl⟩
    obtain ⟨hi, rfl⟩ := rng_at hx
    have hi' : i < 7 := by simpa using hi
    have m1 := far_mul hi'
    have n2 := Nrm.one (far i * far i)
    have g2 : (gs [far i * far i] (1 * 1)).natAbs < 2 ^ 8999 := by
      rw [show (1 : Int) * 1 = 1 from rfl, gs_nrm n2]
      decide
    walk_at "go"
    rw [show (1 : Int) * 1 = 1 from rfl, nT_nrm n2, nB_nrm n2, ← far_succ]
    exact fun _ => ⟨_, rfl⟩
  rintro env ⟨w, rfl⟩
  rw [show (rngD 0 (Int.toNat 7)).length = 7 from rng_len]
  have lf := far_long
  have lf2 : DX.isLong (-far 7) = true := by unfold DX.isLong at lf ⊢; rw [Int.natAbs_neg]; exact lf
  have fp : far 7 ≠ 0 := far_ne
  generalize far 7 = f at *
  walk_at "go"
  refine ⟨f, 1, by rw [DX.wr_long (.inl lf)], by decide, ?_⟩
  have n3 := Nrm.one f
  walk_at "go"
  refine ⟨-f, 1, by rw [DX.wr_long (.inl lf2)], by decide, ?_⟩
  walk_at "go"
  refine fun _ => ?_
  have n4 := Nrm.one 1
  refine ⟨by rw [gs_nrm n4]; decide, ?_⟩
  rw [nT_nrm n4, nB_nrm n4]
  walk_at "go"
  refine fun _ => ?_
  have e5 := gs_one (1 * f)
  refine ⟨by rw [show (1 : Int) * 1 = 1 from rfl]; exact Nat.lt_of_le_of_lt e5 (by decide), ?_⟩
  have l5 : DX.isLong (nB (1 * 1) (1 * f)) = true := by
    unfold DX.isLong at lf ⊢
    rw [show (1 : Int) * 1 = 1 from rfl, Int.one_mul, nB_abs]
    rw [show Nat.gcd f.natAbs (1 : Int).natAbs = 1 from Nat.gcd_one_right _, Nat.div_one]
    exact lf
  have p5 : 0 < nB (1 * 1) (1 * f) := nB_pos (by rw [Int.one_mul]; exact fp)
  refine ⟨_, _, by rw [DX.wr_long (.inr l5)], p5, ?_⟩
  walk_at "go"
  refine ⟨fun i env => ∃ w x : Sl, env = [.val (.lst (ns.map D.int)), .val (.lst [.int t, .int b]), .val (.tup [.int u, .int v]), .val (.str (DX.wr u v)), .val (.lst (ys.map D.str)), .val (R u v), .val (R f 1), w, x], fun _ => ⟨_, _, rfl⟩, ?_, ?_⟩
  rotate_left
  · rintro env ⟨w, x, rfl⟩
    walk_at "go"
    rfl
  rintro i _ env hx ⟨w, x, rfl⟩
  have wl2 : (DX.wr u v).length ≤ 100000 := by omega
  obtain ⟨hi, rfl⟩ := rng_at hx
  walk_at "go"
  refine ⟨fun env => ∃ w x : Sl, env = [.val (.lst (ns.map D.int)), .val (.lst [.int t, .int b]), .val (.tup [.int u, .int v]), .val (.str (DX.wr u v)), .val (.lst (ys.map D.str)), .val (R u v), .val (R f 1), w, x], ?_, ?_⟩
  · by_cases hL : DX.wr u v = "long"
    · have hd : (∃ t b, D.non = D.tup [.int t, .int b] ∧ DX.Low t b ∧ cl (DX.wr u v) = DX.wl t b) ∨ (D.non = D.non ∧ ∀ t b, DX.Low t b → cl (DX.wr u v) ≠ DX.wl t b) := .inr ⟨rfl, by rw [hL]; exact long_not⟩
      have dc : decide (DX.wr u v = "long") = true := decide_eq_true hL
      walk_at "go"
      rw [dc]
      walk_at "go"
      exact fun _ => ⟨_, _, rfl⟩
    · have dc : decide (DX.wr u v = "long") = false := decide_eq_false hL
      walk_at "go"
      rw [dc]
      walk_at "go"
      exact fun _ => ⟨_, _, rfl⟩
  rintro env ⟨w, x, rfl⟩
  refine ⟨fun env => ∃ w x : Sl, env = [.val (.lst (ns.map D.int)), .val (.lst [.int t, .int b]), .val (.tup [.int u, .int v]), .val (.str (DX.wr u v)), .val (.lst (ys.map D.str)), .val (R u v), .val (R f 1), w, x], ?_, ?_⟩
  · by_cases hL : DX.wr u v = "long"
    · have dc : decide (DX.wr u v = "long") = true := decide_eq_true hL
      walk_at "go"
      rw [dc]
      walk_at "go"
      exact fun _ => ⟨_, _, rfl⟩
    · have dc : decide (DX.wr u v = "long") = false := decide_eq_false hL
      have hs : ¬ (DX.isLong u = true ∨ DX.isLong v = true) := fun z => hL (DX.wr_long z)
      have lo : DX.Low u v := by
        have n := nrm_of (t := t) hb
        rw [hu, hv] at n
        exact ⟨n.pos, n.cop, by cases e : DX.isLong u with
          | true => exact absurd (.inl e) hs
          | false => rfl, by cases e : DX.isLong v with
          | true => exact absurd (.inr e) hs
          | false => rfl⟩
      have hd : (∃ t b, D.tup [.int u, .int v] = D.tup [.int t, .int b] ∧ DX.Low t b ∧ cl (DX.wr u v) = DX.wl t b) ∨ (D.tup [.int u, .int v] = D.non ∧ ∀ t b, DX.Low t b → cl (DX.wr u v) ≠ DX.wl t b) := .inl ⟨u, v, rfl, lo, lo.wr⟩
      walk_at "go"
      rw [dc]
      walk_at "go"
      exact fun _ => ⟨_, _, rfl⟩
  rintro env ⟨w, x, rfl⟩
  walk_at "go"
  refine ⟨fun i env => ∃ w x : Sl, env = [.val (.lst (ns.map D.int)), .val (.lst [.int t, .int b]), .val (.tup [.int u, .int v]), .val (.str (DX.wr u v)), .val (.lst (ys.map D.str)), .val (R u v), .val (R f 1), w, x], fun _ => ⟨_, _, rfl⟩, ?_, ?_⟩
  · rintro j y env hy ⟨w, x, rfl⟩
    obtain ⟨z, hz, rfl⟩ := map_at hy
    obtain ⟨hzl, hzo⟩ := hys z (List.mem_of_getElem? hz)
    have hzl2 : z.length ≤ 100000 := by omega
    walk_at "go"
    refine ⟨fun t' b' hl e => ?_, fun hno => ?_⟩
    · have hd : (∃ t b, D.tup [.int t', .int b'] = D.tup [.int t, .int b] ∧ DX.Low t b ∧ cl z = DX.wl t b) ∨ (D.tup [.int t', .int b'] = D.non ∧ ∀ t b, DX.Low t b → cl z ≠ DX.wl t b) := .inl ⟨t', b', rfl, hl, e⟩
      walk_at "go"
      exact fun _ => ⟨_, _, rfl⟩
    · have hd : (∃ t b, D.non = D.tup [.int t, .int b] ∧ DX.Low t b ∧ cl z = DX.wl t b) ∨ (D.non = D.non ∧ ∀ t b, DX.Low t b → cl z ≠ DX.wl t b) := .inr ⟨rfl, hno⟩
      walk_at "go"
      exact fun _ => ⟨_, _, rfl⟩
  · rintro env ⟨w, x, rfl⟩
    walk_at "go"
    exact fun _ => ⟨_, _, rfl⟩
end
end K01

namespace K01
open PySem PySem.Spec PyProof.Rows L2 LR DL

abbrev HRow : PySem.W.OpenRow := PySem.W.OpenLaw.row PySem.Challenge.rw_lastrows_k01_ratio_text
def ads : List Addr := (([394, 393, 387, 386, 380, 379, 373, 372, 366, 365, 359, 358, 352, 351, 347, 346, 340, 339, 333, 332, 326, 325, 319, 318, 312, 311, 307, 306, 300, 299, 293, 292, 286, 285, 279, 278, 272, 271, 265, 264, 258, 257, 251, 250, 244, 243, 233, 232, 229, 227] : List Addr) ++ ([226, 197, 196, 190, 189, 169, 168, 162, 161, 141, 140, 134, 124, 105, 104, 102, 101, 86, 85, 83, 82, 66, 65, 3, 2] : List Addr))
def mo : PySem.W.Frag → Bool := fun K => moB cs sms cis K
abbrev hk : PySem.W.Hook := hookA ads LL mo
def ob (s : PySem.W.SharedT) : AlL × Bool := LL.obsA ads mo (HandSHeadRun.getT s)
theorem ob_eq (s : PySem.W.SharedT) : ob s = hk.obs s.abs := Ls.obsA_eq (HandSHeadRun.getT_eq s)
def looseL : List Str := ((["gcd", "_wall", "LastrowsError", "ZeroBottom", "BadNumber", "BadText", "_MOST_DIGITS", "Ratio", "_is_long", "_is_number", "common_divisor", "_law_cell", "_law_mix", "_law_draws", "_law_small", "_law_is_integer", "_law_gcd", "_law_ratio", "_law_numbers", "_law_written", "_law_sign", "_law_spoilt", "_law_odd", "_law_many_digits", "_law_texts"] : List Str) ++ (["_law_digits", "_law_reader", "_law_is", "_law_shown", "_law_read"] : List Str))
theorem run (w : World) : HandSHeadRun.RunEqI HRow (PySem.W.view HRow.prog [33]) hk ob 3000 looseL w := by
  unfold HandSHeadRun.RunEqI
  kernel_rfl
end K01

open PySem PySem.W PySem.Calls PyProof.Rows
theorem PySem.Challenge.cw_lastrows_k01_ratio_text_holds : PySem.Challenge.rw_lastrows_k01_ratio_text.Holds := by
  w_on; o_law
  refine HandSHeadRun.head_imp (r := OpenLaw.row PySem.Challenge.rw_lastrows_k01_ratio_text) (q := view (OpenLaw.row PySem.Challenge.rw_lastrows_k01_ratio_text).prog [33]) (H := K01.hk) (ob := K01.ob) (M := 3000) (loose := K01.looseL) (d := HandSHeadRun.topDef (OpenLaw.row PySem.Challenge.rw_lastrows_k01_ratio_text).prog 33) (kwd := []) K01.ob_eq
    K01.run (by kernel_rfl) (by kernel_rfl) (by kernel_rfl) (by rfl) (by first | assumption | decide +kernel) (by decide +kernel) ⟨rfl, rfl, rfl, rfl, rfl, by decide +kernel⟩ ?hw ?hc
  case hw => w_witness2
  case hc =>
    refine L2.walk_ofE (l := PySem.Challenge.rw_lastrows_k01_ratio_text) (n := 63) (k := 8) (x := "script") (CX := L2.CX0) rfl (by decide) (by kernel_rfl) ⟨rfl, by decide, by decide⟩ ?F (fun _ _ _ _ z => z)
    intro w mg fa h Y G hmg0
    obtain ⟨K, KX, c, M⟩ := Y
    have hmg : mg ("law" : PySem.Str) = some (.ref fa) := by
      have e : (HandSHeadRun.topDef (OpenLaw.row PySem.Challenge.rw_lastrows_k01_ratio_text).prog 33).name = ("law" : PySem.Str) := by kernel_rfl
      rw [← e]
      exact hmg0
    have T : LR.Txt K01.LL K mg := LR.Txt.of KX G c
    have M2 : DL.Mo K01.cs K01.sms K01.cis K mg := DL.Mo.of KX G (fun c hc => T.clA _ (K01.cs_cl c hc)) M
    have ea : fa = He.ga K "law" := Value.ref.inj (Option.some.inj (hmg.symm.trans (T.g "law")))
    subst ea
    obtain ⟨fd, hb, hF⟩ := K01.law_ok (P := (PySem.Challenge.rw_lastrows_k01_ratio_text).prog) (w := w) T M2
    exact ⟨K, fd, DL.spLaw K, KX, hb, fun H a ns hl _ hS => ⟨a, ns, rfl, hS, hl, fun _ => rfl⟩, fun base _ _ => hF base⟩

