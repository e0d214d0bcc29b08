import PyProof.Rows.All
import Wide.All
import OpenK.AllK
import Wide.FinOn
import HandS.ForMost
import HandS.Exc
import HandS.ExcOwn
import HandS.ExcInit
import HandS.ExcField
import HandS.ExcIs
import HandS.TryOnly
import HandS.WordsExc
import HandS.IsInst
import HandS.Property
import HandS.Wide
import HandS.WideBits
import HandS.Gcd
import HandS.Flow
import HandS.Zip
import HandS.Codes
import KE.KOpsOwn
import HandS.Defaults
import HandS.Head0
import HandS.Head1
import HandS.Head2
import HandS.Head3
import HandS.HeadHook4
import HandS.HeadEnd
import HandS.FStr
import HandS.StrMore
import KE.KCallOwn
import KE.KxText
import PyProof.Rows.SeqMore
import HandS.TryMany
import PyProof.ListMulRight
import KE.KMathGC
import HandS.TupAny
import HandS.TupLe
import KE.GoesEnum
import HandS.Conv
import PySem.Challenge.RW_lastrows_k08_poly_ring
set_option Elab.async false
set_option linter.all false
set_option maxRecDepth 100000
set_option maxHeartbeats 4000000
namespace PySem.W
open PySem PySem.Spec PySem.Calls PyProof.Rows
section
variable {prog : Program} {w : World} {A : Around} {E : Value → Shared → Prop} {s : Shared} {K : Frag} {x D : Addr} {ox : Obj}
theorem kin_classD {Q : Option Value → Shared → Prop} (hga : findIn K (.ref D) "__getattribute__" = some (some (.builtin "BaseException.__getattribute__"))) (hgt : findIn K (.ref D) "__getattr__" = some none) (hsub : subIn K (.ref D) (.type "BaseException") = some true)
    (hdct : hasDictIn K D = true) (ha : findIn K (.ref D) "__class__" = some (some (.builtin "object.__class__")))
    (hn : specialIn K (.builtin "object.__class__") "__get__" = some (some (.builtin "getset_descriptor.__get__"))) (htk : takesIn K (.builtin "object.__class__") = some true) (hm : mroIn K D (.type "object") = some true)
    (X : K.In s.heap) {od : Obj} (I : InstAt s.heap x ox D (some od)) (h : Q (some (.ref D)) { s with toks := s.toks + 1 }) : wpAny (model prog w) A (getAttr? (.ref x) "__class__") Q E s := by
  have hf : findObj K D (some od) "__class__" = some (.bind (.builtin "getset_descriptor.__get__") (.builtin "object.__class__")) := findObj_data (by obtain ⟨cd, hc, _⟩ := any_some hdct; rw [hc]; rfl) ha hn htk
  obtain ⟨hp, g, d, t, os⟩ := s
  have L0 := I.type (M := model prog w)
  have L1 := looks_findIn (M := model prog w) X hga
  have L2 := looks_findIn (M := model prog w) X hgt
  have L3 := looks_find (M := model prog w) X I hf
  have sub : Looks (model prog w) hp (isInstance (.ref x) (.type "BaseException")) true := L0.andThen (looks_subIn X hsub)
  have hx0 : (false && onTheHeap (Value.builtin "BaseException.__getattribute__")) = false := rfl
  have hx2 : (Value.builtin "BaseException.__getattribute__" == Value.builtin "object.__getattribute__") = false := by decide +kernel
  have hx1 : (onTheHeap (Value.ref D) && Value.builtin "BaseException.__getattribute__" == Value.builtin "object.__getattribute__") = false := by rw [hx2]; rfl
  unfold getAttr? getAttrBy? getAttrBy
  refine wpAny_bind (wpAny_mkText (wpAny_bind (wpAny_attempt (wpAny_holding (wpAny_bind (L0.at (wpAny_bind (L1.at ?_))))))))
  show wpAny _ _ (if (onTheHeap (Value.ref D) && Value.builtin "BaseException.__getattribute__" == Value.builtin "object.__getattribute__") = true then _ else _) _ _ _
  rw [hx1, if_neg Bool.false_ne_true]
  unfold getAttrByItsOwn hookBefore
  refine wpAny_bind ?_
  rw [if_pos (show onTheHeap (Value.ref D) = true from rfl)]
  refine L2.at ?_
  refine wpAny_bind (wpAny_attempt (wpAny_holding ?_))
  unfold callGetattribute
  rw [hx0, if_neg Bool.false_ne_true]
  unfold boundAndCalled
  rw [PySem.F.excAttr_ValueError.ga.bind (.ref x)]
  refine wpAny_bind (wpAny_pure ?_)
  show wpAny _ _ (call (.builtin "BaseException.__getattribute__") [.ref x, .str "__class__" t]) _ _ _
  refine wpAny_call (codeAny_call_builtin PySem.F.excAttr_ValueError.ga.plain PySem.F.entry_bexc_ga ?_)
  refine @check_slot (model prog w) _ _ ⟨hp, g, d, t + 1, os⟩ "BaseException.__getattribute__" "BaseException" "__getattribute__" (.ref x) [.str "__class__" t] [] _ (by decide +kernel) (by decide +kernel) sub (PySem.F.args_bexc_ga (.ref x) (.str "__class__" t)) ?_
  unfold Builtin.«object.__getattribute__»
  refine wpAny_bind (wpAny_of_eq (a := ((Value.ref x : Value), [Value.str "__class__" t])) (by first | rfl | (simp only [slotArgs]; rfl)) ?_)
  refine wpAny_bind (wpAny_pure (wpAny_bind (L0.at (wpAny_bind (L3.at ?_)))))
  show wpAny _ _ (holding [Value.builtin "object.__class__"] (call (.builtin "getset_descriptor.__get__") [.builtin "object.__class__", .ref x, .ref D]) >>= ret) _ _ _
  refine wpAny_bind (wpAny_holding (wpAny_call (class_get (s := ⟨hp, g, d, t + 1, os⟩) (ox := ox) (od := some od) X I hm ?_)))
  refine wpAny_pure ?_
  show wpAny _ _ (handedOut (.ref D)) _ _ _
  rw [handedOut_of (v := .ref D) rfl]
  first
    | exact wpAny_pure (wpAny_pure h)
    | exact wpAny_pure h
    | exact wpAny_pure (wpAny_bind (wpAny_pure (wpAny_pure h)))
theorem kitx_excD (hga : findIn K (.ref D) "__getattribute__" = some (some (.builtin "BaseException.__getattribute__"))) (hgt : findIn K (.ref D) "__getattr__" = some none) (hsub : subIn K (.ref D) (.type "BaseException") = some true) (hdct : hasDictIn K D = true) (ha : findIn K (.ref D) "__class__" = some (some (.builtin "object.__class__")))
    (hn : specialIn K (.builtin "object.__class__") "__get__" = some (some (.builtin "getset_descriptor.__get__"))) (htk : takesIn K (.builtin "object.__class__") = some true) (hm : mroIn K D (.type "object") = some true) :
    KitX K (.ref x) (.ref D) (fun h => ∃ od : Obj, InstAt h x ox D (some od)) where
  ty := fun _ _ _ ⟨_, I⟩ => I.type
  it := fun _ _ X _ => by
    obtain ⟨cdD, hcD, _⟩ := any_some hdct
    unfold clsIn at hcD
    split at hcD
    · rename_i c' d' cd' sl' ho
      intro A' Q' E' s' k q
      unfold isType loadHead
      exact wpAny_bind (wpAny_loadPart (k _ _ (X _ _ ho)) (wpAny_pure q))
    · cases hcD
  ne := fun h tp dd its n sl X htp => by
    obtain ⟨cdD, hcD, _⟩ := any_some hdct
    refine Bool.eq_false_iff.mpr fun q => ?_
    have e : D = tp := Value.ref.inj (beq_iff_eq.mp q)
    subst e
    unfold clsIn at hcD
    split at hcD
    · rename_i c' d' cd' sl' ho
      have z := (X _ _ ho).symm.trans htp
      cases z
    · cases hcD
  ca := fun X ⟨_, I⟩ k => kin_classD hga hgt hsub hdct ha hn htk hm X I k
end
end PySem.W
namespace LR
open PySem PySem.Spec PyProof.Rows L2
/-- isinstance(e, c), e the exception that the suite holds (class cls, dict d) -/
def rIsD (K : PySem.W.Frag) (D a : Addr) (cls : Value) (d : Option Addr) : List V → Hp → VK → Prop := fun xs H Q => ∃ (c : V) (cv : Value) (b : Bool) (dd : Addr) (fs : List (Str × V)), xs = [.ref a, c] ∧ cls = .ref D ∧ d = some dd ∧ H dd = some (.xd fs) ∧ ClsV c cv ∧
  PySem.W.kitOne K (.ref D) cv = some b ∧ Q (.bl b) H
theorem call_isD {X : Cx} {a D : Addr} {cls : Value} {d : Option Addr} {oe : Obj} {pn : List (Addr × Obj)} (C : ExcC X.K D) (hz : Zc cls d oe) (hf : ∃ vs, oe.data = .fields vs) : CallR (X.suite a ((a, oe) :: pn)) (.builtin "isinstance") (rIsD X.K D a cls d) := by
  intro pins s σ H xs us Q I r h
  obtain ⟨c, cv, b, dd, fs, rfl, rfl, rfl, hd, hcv, e, q⟩ := h
  cases r with
  | cons rx rr =>
    cases rr with
    | cons rt rr =>
      cases rr
      cases rx
      have ec := hcv.eq rt
      subst ec
      obtain ⟨hget, _⟩ := I.pin (a, oe) (List.mem_append.mpr (.inl List.mem_cons_self))
      obtain ⟨vs, hv⟩ := hf
      have hx : ObjOk X.prog X.w H s.heap dd (.xd fs) := I.hok dd _ hd
      obtain ⟨mA, hns, hr⟩ := hx
      obtain ⟨od, ho, hl⟩ := lookIn_ns hns
      have J : PySem.W.InstAt s.heap a oe D (some od) := ⟨hget, hz.1, by unfold PySem.W.notCls; rw [hv] <;> rfl, by rw [hz.2]; exact ho⟩
      exact PySem.W.kia_one (PySem.W.kitx_excD C.hg C.hk C.hs C.hd C.ha C.hn C.ht C.hm) I.kIn ⟨od, J⟩ e (fun z => nomatch z) fun tk => ⟨.bl b, H, I.kept (t' := tk) fun _ _ z => z, rfl, q⟩
end LR
namespace LR
open PySem PySem.Spec PyProof.Rows L2
section
variable {X : Cx}
/-! wide ints -/
def CDivZ (_ j : Int) : Prop := j ≠ 0 ∧ j.natAbs.log2 < 9000
theorem op_fdivZ : OpR X (binaryOp .FloorDiv) (rI CDivZ fun i j => .int (i.fdiv j)) := opI fun i j _ _ _ _ _ hc q => floordiv_int hc.1 q (.inl (PyProof.noPylong_of_log2 hc.2))
def CPowZ (i j : Int) : Prop := 0 ≤ j ∧ (Builtin.Int.intBits i : Int) * j ≤ 2 ^ 27
theorem op_powZ : OpR X (binaryOp .Pow) (rI CPowZ fun i j => .int (i ^ j.toNat)) := opI fun i j _ _ _ _ _ hc q => pow_int hc.1 hc.2 q
end

/-! own operators -/
theorem cmpBack_of {v : V} {u : Value} {s : Shared} {Q : Value → Shared → Prop} (r : RelV v u) (h : Q u s) : PySem.W.CmpBack Q u s := by
  cases v with
  | non => cases (show u = Value.none from r); exact h
  | bl b => cases (show u = Value.bool b from r); exact h
  | int i => obtain ⟨t, rfl⟩ := (show ∃ t, u = Value.int i t from r); exact h
  | str x => obtain ⟨t, rfl⟩ := (show ∃ t, u = Value.str x t from r); exact h
  | byt b => obtain ⟨t, rfl⟩ := (show ∃ t, u = Value.bytes b t from r); exact h
  | flt b => obtain ⟨t, rfl⟩ := (show ∃ t, u = Value.float b t from r); exact h
  | ref a => cases (show u = Value.ref a from r); exact h
  | ty n => cases (show u = Value.type n from r); exact h

section
variable {X : Cx} {CX : CXT} {k : Nat} {C f : Addr} {fd : FuncData} {ps : List Str} {sp : Sp} {E : XK}
/-- x op y, two instances of one class, by its own method -/
def rBinO (C : Addr) (sp : Sp) (E : XK) : R2 := fun x y H Q => ∃ (a dx : Addr) (fs : List (Str × V)) (b dy : Addr) (gs : List (Str × V)), x = .ref a ∧ y = .ref b ∧ H a = some (.ins C dx fs) ∧ H b = some (.ins C dy gs) ∧ sp [.ref a, .ref b] H Q E
theorem op_binO {op : Operator} (hc : PySem.W.selfFirst X.K C = true) (hs : PySem.W.findIn X.K (.ref C) (PySem.dunder op.info.2) = some (some (.ref f))) (hf : PySem.W.isFn X.K (.ref f) = true)
    (F : FnOk X.prog X.w X.K X.mg X.base CX k f fd ps sp) (hr : Room k X.A) (hb : Binds X.K fd ps []) (hx : Passes CX X E) : OpR X (binaryOp op) (rBinO C sp E) := by
  intro pins s σ H x y v u Q I rx ry h
  obtain ⟨a, dx, fs, b, dy, gs, rfl, rfl, ha, hb', q⟩ := h
  cases rx
  cases ry
  obtain ⟨mA, J, _⟩ := ins_get I.hok ha
  obtain ⟨mB, J', _⟩ := ins_get I.hok hb'
  obtain ⟨od, J, _⟩ := J.look
  obtain ⟨od', J', _⟩ := J'.look
  obtain ⟨m, hF⟩ := I.fr
  refine PySem.W.binop_K hF I.ok.mod.kin J J'.type hc hs hf ?_
  exact wpAny_mono (run_fn F hr hb .nil hx I (vs := [.ref a, .ref b]) (.cons rfl (.cons rfl .nil)) q) (fun u s' z => by
    obtain ⟨v, H', I', r, q'⟩ := z
    exact cmpBack_of r ⟨v, H', I', r, q'⟩) fun _ _ e => e
/-- -x by its own method -/
def rUnO (C : Addr) (sp : Sp) (E : XK) : V → Hp → VK → Prop := fun x H Q => ∃ (a dx : Addr) (fs : List (Str × V)), x = .ref a ∧ H a = some (.ins C dx fs) ∧ sp [.ref a] H Q E
theorem un_negO (hs : PySem.W.findIn X.K (.ref C) "__neg__" = some (some (.ref f))) (hf : PySem.W.isFn X.K (.ref f) = true)
    (F : FnOk X.prog X.w X.K X.mg X.base CX k f fd ps sp) (hr : Room k X.A) (hb : Binds X.K fd ps []) (hx : Passes CX X E) : UnR X (unaryOp .USub) (rUnO C sp E) := by
  intro pins s σ H x v Q I rx h
  obtain ⟨a, dx, fs, rfl, ha, q⟩ := h
  cases rx
  obtain ⟨mA, J, _⟩ := ins_get I.hok ha
  obtain ⟨od, J, _⟩ := J.look
  obtain ⟨m, hF⟩ := I.fr
  refine PySem.W.ksp_neg hF I.ok.mod.kin J hs hf ?_
  exact run_fn F hr hb .nil hx I (vs := [.ref a]) (.cons rfl .nil) q
/-- x == y by its own method, y anything of a told type -/
def rCmpO (C : Addr) (sp : Sp) (E : XK) (K : PySem.W.Frag) : R2 := fun x y H Q => ∃ (a dx : Addr) (fs : List (Str × V)) (t : Value), x = .ref a ∧ H a = some (.ins C dx fs) ∧ TyX K H y t ∧ PySem.W.notFirst K C t = true ∧ sp [.ref a, y] H Q E
theorem op_eqO (hs : PySem.W.findIn X.K (.ref C) "__eq__" = some (some (.ref f))) (hf : PySem.W.isFn X.K (.ref f) = true)
    (F : FnOk X.prog X.w X.K X.mg X.base CX k f fd ps sp) (hr : Room k X.A) (hb : Binds X.K fd ps []) (hx : Passes CX X E) : OpR X (compareOp .Eq) (rCmpO C sp E X.K) := by
  intro pins s σ H x y v u Q I rx ry h
  obtain ⟨a, dx, fs, t, rfl, ha, ty, hn, q⟩ := h
  cases rx
  obtain ⟨P, Z, p, _⟩ := kit_of I ry ty
  obtain ⟨mA, J, _⟩ := ins_get I.hok ha
  obtain ⟨od, J, _⟩ := J.look
  obtain ⟨m, hF⟩ := I.fr
  show wpAny (model X.prog X.w) X.A (richCompare .Eq (.ref a) u) (EP X pins σ Q) X.xe s
  refine PySem.W.cmp_K (op := .Eq) (hu_of hr |> Nat.lt_of_succ_lt) hF I.ok.mod.kin J (Z.ty _ _ I.kIn p) hn hs hf ?_
  exact wpAny_mono (run_fn F hr hb .nil hx I (vs := [.ref a, y]) (.cons rfl (.cons ry .nil)) q) (fun u s' z => by
    obtain ⟨v, H', I', r, q'⟩ := z
    exact cmpBack_of r ⟨v, H', I', r, q'⟩) fun _ _ e => e
end

/-! != by an own __eq__ -/
section
open PySem.W PySem.Calls Builtin
variable {prog : Program} {w : World} {A : Around} {E : Value → Shared → Prop} {s : Shared} {K : PySem.W.Frag} {x C L f : Addr} {h₀ : Heap} {m : Str → Option Value} {ox : Obj} {od : Option Obj} {b tb : Value}
theorem ifBound_S {M : Model} {args : List Value} {name : Str} {id : String} {Q : Option Value → Shared → Prop} (X : K.In s.heap) (I : InstAt s.heap x ox C od) (hs : findIn K (.ref C) name = some (some (.builtin id)))
    (hb : ∀ self, bindSpecial (.builtin id) self = pure (.builtin id, [self])) (h : wpAny M A (call (.builtin id) (.ref x :: args)) (fun v => Q (some v)) E s) : wpAny M A (callSpecialIfBound? (.ref x) name args) Q E s := by
  simp only [callSpecialIfBound?, bindSpecialIfBound?]
  refine wpAny_holding (wpAny_bind (wpAny_bind (wpAny_bind (I.type.here ((looks_findIn X hs).here ?_)))))
  simp only [hb]
  refine wpAny_bind (wpAny_askSetting (wpAny_ite ?_))
  have fin : wpAny M A (call (.builtin id) ([.ref x] ++ args) >>= fun v => pure (some v)) Q E s := wpAny_bind (wpAny_mono h (fun v s' h' => wpAny_pure h') fun _ _ h' => h')
  split
  · exact wpAny_bind (wpAny_pure (wpAny_pure fin))
  · exact wpAny_tryCatch (wpAny_bind (wpAny_pure (wpAny_pure fin)))
theorem cmp_one {op : CmpOp} {Q : Value → Shared → Prop} (hu : A.units < cLine) (X : K.In s.heap) (I : InstAt s.heap x ox C od) (hb : Looks (model prog w) s.heap (typeOf b) tb) (hn : notFirst K C tb = true)
    (one : wpAny (model prog w) A (tryCompare (.ref x) (cmpInfo op).2.1 b) (fun r s' => ∃ v, r = some v ∧ Q v s') E s) : wpAny (model prog w) A (richCompare op (.ref x) b) Q E s := by
  unfold richCompare
  simp only [oneThing_ref]
  refine wpAny_holding (wpAny_bind (wpAny_cRoomFor hu ?_))
  refine wpAny_bind (I.type.here (wpAny_bind (hb.here ?_)))
  split
  · rename_i q
    have e : subIn K tb (.ref C) = some false := by
      rcases Bool.or_eq_true_iff.mp hn with e | e
      · rw [beq_iff_eq.mp e] at q; simp at q
      · exact beq_iff_eq.mp e
    refine wpAny_bind ((looks_subIn X e).here ?_)
    simp only [Bool.false_eq_true, if_false]
    refine wpAny_bind (wpAny_mono one (fun r s' z => ?_) fun _ _ e => e)
    obtain ⟨v, rfl, hq⟩ := z
    exact wpAny_pure hq
  · refine wpAny_bind (wpAny_pure ?_)
    simp only [Bool.false_eq_true, if_false]
    refine wpAny_bind (wpAny_mono one (fun r s' z => ?_) fun _ _ e => e)
    obtain ⟨v, rfl, hq⟩ := z
    exact wpAny_pure hq
theorem ne_try {Q : Option Value → Shared → Prop} (hu : A.units + 1 < cLine) (X : K.In s.heap) (I : InstAt s.heap x ox C od) (hn : findIn K (.ref C) "__ne__" = some (some (.builtin "object.__ne__"))) (ho : subIn K (.ref C) (.type "object") = some true)
    (hs : findIn K (.ref C) "__eq__" = some (some (.ref f))) (hf : isFn K (.ref f) = true)
    (h : wpAny (model prog w) A.in1 (call (.ref f) [.ref x, b]) (fun v s' => ∃ r, v = .bool r ∧ Q (some (.bool (!r))) s') E s) : wpAny (model prog w) A (tryCompare (.ref x) "__ne__" b) Q E s := by
  have SL : Slot "object" "__ne__" "object.__ne__" := .of (owner := "object") (n := "__ne__") (by rw [typeLookup_type, builtinLookup_eq_fast]; kernel_rfl) (by decide +kernel) (by decide +kernel) (by decide +kernel)
    (by first | exact .inl (by decide +kernel) | exact .inr (by decide +kernel)) (by rw [isSubtype_type]; kernel_rfl)
  simp only [tryCompare]
  refine wpAny_bind (ifBound_S X I hn SL.bind (wpAny_call (codeAny_call_builtin SL.plain PySem.F.cmpEntry_ne ?_)))
  refine @PySem.W.check_slot (model prog w) _ _ s "object.__ne__" "object" "__ne__" (.ref x) [b] [] _ PySem.F.cmpKind_ne PySem.F.cmpSplit_ne (I.type.andThen (looks_subIn X ho)) (PySem.F.cmpArgs_ne (.ref x) b) ?_
  unfold Builtin.«object.__ne__»
  refine wpAny_bind (wpAny_pure ?_)
  dsimp only
  refine wpAny_bind (wpAny_cRoomFor hu ?_)
  refine wpAny_bind (m := callSpecialIfBound? (.ref x) (Str.ofString "__eq__") [b]) (ifBound_K X I hs hf (wpAny_mono h (fun v s' hv => ?_) fun _ _ e => e))
  obtain ⟨r, rfl, hq⟩ := hv
  dsimp only
  refine wpAny_bind (m := truthy (.bool _)) (wpAny_truthy_bool ?_)
  first
    | exact wpAny_pure ⟨_, rfl, wpAny_pure hq⟩
    | exact wpAny_pure ⟨_, rfl, hq⟩
    | exact wpAny_pure (wpAny_pure hq)
    | exact wpAny_pure (wpAny_pure (wpAny_pure hq))
end

section
variable {X : Cx} {CX : CXT} {k : Nat} {C f : Addr} {fd : FuncData} {ps : List Str} {sp : Sp} {E : XK}
/-- x != y by its own == -/
def rNeO (C : Addr) (sp : Sp) (E : XK) (K : PySem.W.Frag) : R2 := fun x y H Q => ∃ (a dx : Addr) (fs : List (Str × V)) (t : Value), x = .ref a ∧ H a = some (.ins C dx fs) ∧ TyX K H y t ∧ PySem.W.notFirst K C t = true ∧
  sp [.ref a, y] H (fun v H' => ∃ b : Bool, v = .bl b ∧ Q (.bl (!b)) H') E
theorem op_neO (hn : PySem.W.findIn X.K (.ref C) "__ne__" = some (some (.builtin "object.__ne__"))) (ho : PySem.W.subIn X.K (.ref C) (.type "object") = some true)
    (hs : PySem.W.findIn X.K (.ref C) "__eq__" = some (some (.ref f))) (hf : PySem.W.isFn X.K (.ref f) = true)
    (F : FnOk X.prog X.w X.K X.mg X.base CX k f fd ps sp) (hr : Room (k + 1) X.A) (hb : Binds X.K fd ps []) (hx : Passes CX X.nox E) : OpR X (compareOp .NotEq) (rNeO C sp E X.K) := by
  intro pins s σ H x y v u Q I rx ry h
  obtain ⟨a, dx, fs, t, rfl, ha, ty, hnf, q⟩ := h
  cases rx
  obtain ⟨P, Z, p, _⟩ := kit_of I ry ty
  obtain ⟨mA, J, _⟩ := ins_get I.hok ha
  obtain ⟨od, J, _⟩ := J.look
  show wpAny (model X.prog X.w) X.A (richCompare .NotEq (.ref a) u) (EP X pins σ Q) X.xe s
  refine cmp_one (op := .NotEq) (hu_of hr |> Nat.lt_of_succ_lt) I.kIn J (Z.ty _ _ I.kIn p) hnf ?_
  have hl : [Value.ref a, u].length = ps.length := by
    rw [← F.len _ _ _ _ q]
    rfl
  refine ne_try (hu_of hr) I.kIn J hn ho hs hf (wpAny_call (codeAny_mono (F.run X.A.in1 X.stack s H ⟨[.ref a, u], []⟩ [.ref a, u] [.ref a, y] _ E hr.in1 I.env0.in1 (by simpa using hb s [.ref a, u] I.kIn (by simpa using hl)) (.cons rfl (.cons ry .nil)) q) fun r s' hq => ?_))
  cases r with
  | error er => exact False.elim (hx pins σ H s er s' (I.wish _) hq)
  | ok fl =>
    cases fl with
    | ret w =>
      obtain ⟨v, H', I', rv, b, rfl, q3⟩ := I.after hq
      cases rv
      exact ⟨b, rfl, _, rfl, .bl (!b), H', I', rfl, q3⟩
    | next => exact False.elim hq
    | brk => exact False.elim hq
    | cont => exact False.elim hq
/-- abs(x) by its own method -/
theorem call_absO (hs : PySem.W.findIn X.K (.ref C) "__abs__" = some (some (.ref f))) (hf : PySem.W.isFn X.K (.ref f) = true)
    (F : FnOk X.prog X.w X.K X.mg X.base CX k f fd ps sp) (hr : Room (k + 1) X.A) (hb : Binds X.K fd ps []) (hx : Passes CX X.nox E) : CallR X (.builtin "abs") (fun xs H Q => ∃ (a dx : Addr) (fs : List (Str × V)), xs = [.ref a] ∧ H a = some (.ins C dx fs) ∧ sp [.ref a] H Q E) := by
  intro pins s σ H xs us Q I r h
  obtain ⟨a, dx, fs, rfl, ha, q⟩ := h
  obtain ⟨u, rfl, ru⟩ := vals1 r
  cases ru
  obtain ⟨mA, J, _⟩ := ins_get I.hok ha
  obtain ⟨od, J, _⟩ := J.look
  have hl : [Value.ref a].length = ps.length := by
    rw [← F.len _ _ _ _ q]
    rfl
  refine PySem.Calls.call_function_entry kind_abs plain_abs entry_abs (args_abs _) ?_
  unfold Builtin.«abs»
  refine wpAny_bind (m := oneArg "abs" _) (wpAny_pure ?_)
  refine wpAny_bind (m := callSpecial? (.ref a) (Str.ofString "__abs__")) (PySem.W.special_fn I.kIn J hs (beq_iff_eq.mp hf) (wpAny_call (codeAny_mono (F.run X.A.in1 X.stack s H ⟨[.ref a], []⟩ [.ref a] [.ref a] _ E hr.in1 I.env0.in1 (by simpa using hb s [.ref a] I.kIn (by simpa using hl)) (.cons rfl .nil) q) fun r s' hq => ?_)))
  cases r with
  | error er => exact False.elim (hx pins σ H s er s' (I.wish _) hq)
  | ok fl =>
    cases fl with
    | ret w =>
      obtain ⟨v, H', I', rv, q3⟩ := I.after hq
      exact wpAny_pure ⟨_, rfl, v, H', I', rv, q3⟩
    | next => exact False.elim hq
    | brk => exact False.elim hq
    | cont => exact False.elim hq
end

/-! calls within a try -/
section
variable {X : Cx} {CX : CXT} {k : Nat} {C f : Addr} {fd : FuncData} {ps : List Str} {sp : Sp} {dvs : List V} {ds : List Value} {E : L2.St → XK} {x m : Str} {p pos apos : Pos} {e o : Expr} {es : List Expr} {ta : TE} {t : TA}
theorem run_makeS {pins : List (Addr × Obj)} {σ : L2.St} {H : Hp} {s : Shared} {Q : VK} {us : List Value} {vs : List V} (M : Mk X.K C f) (F : FnOk X.prog X.w X.K X.mg X.base CX k f fd ps sp) (hr : Room (k + 1) X.A) (hb : Binds X.K fd ps ds) (hd : Vals dvs ds)
    (hx : PassesAt CX X σ (E σ)) (I : Inv X pins σ H s) (r : Vals vs us)
    (h : ∀ x dx, H x = none → H dx = none → dx ≠ x → sp (.ref x :: (vs ++ dvs)) (upd (upd H dx (.own x)) x (.ins C dx [])) (fun v H2 => v = .non ∧ Q (.ref x) H2) (E σ)) :
    wpAny (model X.prog X.w) X.A (call (.ref C) us) (EP X pins σ Q) X.xe s := by
  have hq := h (s.heap.objs.size + 1) s.heap.objs.size (I.hok.fresh (Nat.le_succ _)) (I.hok.fresh (Nat.le_refl _)) (Nat.ne_of_lt (Nat.lt_succ_self _))
  have I2 := Inv.made (C := C) I
  have r2 : Vals (V.ref (s.heap.objs.size + 1) :: (vs ++ dvs)) (Value.ref (s.heap.objs.size + 1) :: (us ++ ds)) := .cons rfl (r.append hd)
  have hl : (Value.ref (s.heap.objs.size + 1) :: us ++ ds).length = ps.length := by
    have e := r2.length
    rw [F.len _ _ _ _ hq] at e
    exact e.symm
  refine wpAny_call (make_map (f := f) I.kIn M.makes M.init (beq_iff_eq.mp M.fn) (codeAny_mono (F.run _ X.stack _ _ ⟨Value.ref (s.heap.objs.size + 1) :: us, []⟩ (Value.ref (s.heap.objs.size + 1) :: (us ++ ds)) _ _ (E σ) (hr.make C us [])
    (I2.env0.make C us []) (hb _ (Value.ref (s.heap.objs.size + 1) :: us) I2.kIn hl) r2 hq) fun r s' hq' => ?_))
  cases r with
  | error e => exact hx pins _ _ e s' I2 hq'
  | ok fl =>
    cases fl with
    | ret u =>
      obtain ⟨v, H', I3, rv, ev, q3⟩ := I2.after hq'
      subst ev
      exact ⟨rv, ⟨V.ref (s.heap.objs.size + 1), H', I3, rfl, q3⟩⟩
    | next => exact False.elim hq'
    | brk => exact False.elim hq'
    | cont => exact False.elim hq'
def tMakeS (C : Addr) (sp : Sp) (dvs : List V) (E : L2.St → XK) (t : TA) : TE := fun σ H Q => t σ H fun vs H1 => ∀ x dx, H1 x = none → H1 dx = none → dx ≠ x →
  sp (.ref x :: (vs ++ dvs)) (upd (upd H1 dx (.own x)) x (.ins C dx [])) (fun v H2 => v = .non ∧ Q (.ref x) H2) (E σ)
theorem pe_makeS (M : Mk X.K C f) (F : FnOk X.prog X.w X.K X.mg X.base CX k f fd ps sp) (hr : Room (k + 1) X.A) (hg : Gl X x) (hm : X.mg x = some (.ref C)) (hb : Binds X.K fd ps ds) (hd : Vals dvs ds) (hx : ∀ σ, PassesAt CX X σ (E σ))
    (ha : PA X (e :: es) t) (hdb : (x == ("__debug__" : Str)) = false := by decide) (he : starEach (e :: es) X.env = (false, eval e X.env) :: starEach es X.env := by rfl) (hpl : (backTo pos (starEach es X.env)).any (·.1) = false := by rfl) :
    PE X (.Call (.Name x p) (e :: es) [] pos) (tMakeS C sp dvs E t) := by
  refine ⟨fun pins s σ H Q I h => ?_⟩
  refine wpAny_Call_Name_kw (ld_glob I hg hm ?_ hdb)
  refine PySem.W.callWith_K (h₀ := X.base) I.ok.mod.kin M.kp (thn (ha.run pos pins s σ H _ I h) fun us s1 ⟨vs, H1, I1, r, q⟩ => ⟨I1.kIn, ?_⟩) he hpl
  exact run_makeS M F hr hb hd (hx σ) I1 r q
/-- o.m(e, ..) within a try -/
def tMethS (C : Addr) (m : Str) (sp : Sp) (E : L2.St → XK) (ta : TE) (t : TA) : TE := fun σ H Q => ta σ H fun x H1 => ∃ a dx fs, x = .ref a ∧ H1 a = some (.ins C dx fs) ∧ fs.lookup m = none ∧ t σ H1 fun vs H2 => sp (x :: vs) H2 Q (E σ)
theorem pe_methS {pl : Sem Bool} (he : PE X o ta) (c : Cls X.K C) (hm : Meth X.K C m f)
    (F : FnOk X.prog X.w X.K X.mg X.base CX k f fd ps sp) (hr : Room k X.A) (hb : Binds X.K fd ps []) (hx : ∀ σ, PassesAt CX X σ (E σ)) (ha : PA X (e :: es) t)
    (hst : starEach (e :: es) X.env = (false, eval e X.env) :: starEach es X.env := by rfl) (hpl : (backTo pos (starEach es X.env)).any (·.1) = false := by rfl)
    (ht : eval (.Call (.Attribute o m apos) (e :: es) [] pos) X.env = (do
      let ov ← eval o X.env
      standAt apos.atName
      let (f, first) ← holding [ov] (getMethod ov m pl)
      callWith pos f first (backTo pos (starEach (e :: es) X.env)) (backToKw pos (keywordEach [] X.env))) := by rfl) :
    PE X (.Call (.Attribute o m apos) (e :: es) [] pos) (tMethS C m sp E ta t) := by
  refine ⟨fun pins s σ H Q I h => ?_⟩
  refine PySem.W.methodCall_KW (pl := pl) (thn (he.run pins s σ H _ I h) fun u s1 ⟨x, H1, I1, rx, a, dx, fs, ex, ea, l, q⟩ => ?_) ht
  subst ex
  obtain rfl : u = Value.ref a := rx
  refine getmeth_ok I1 ea c hm l ?_
  refine PySem.W.callWith_K (first := [.ref a]) (h₀ := X.base) I.ok.mod.kin hm.kp (thn (ha.run pos pins s1 σ H1 _ I1 q) fun us s2 ⟨vs, H2, I2, r, q2⟩ => ⟨I2.kIn, ?_⟩) hst hpl
  exact run_fnS (us := .ref a :: us) (vs := .ref a :: vs) F hr hb (hx σ) I2 (.cons rfl r) q2
/-- C(), an own exception made by its own __init__ -/
theorem pmk_oex0 {fI : Addr} {ps : List Str} {sp : Sp} (T : OexC X.K C) (iC : PySem.W.findIn X.K (.ref C) "__init__" = some (some (.ref fI))) (tI : PySem.W.typeIn X.K (.ref fI) = some (.type "function"))
    (F1 : FnOk X.prog X.w X.K X.mg X.base CX k fI fd ps sp) (hr : Room (k + 1) X.A) (hb : Binds X.K fd ps []) (hx : Passes CX X (fun _ _ _ => False)) (hg : Gl X x) (hm : X.mg x = some (.ref C))
    (hdb : (x == ("__debug__" : Str)) = false := by decide) :
    PMk X (.Call (.Name x p) [] [] pos) (tMkO C sp [] tNil) := by
  intro pins s σ H Q I h
  obtain ⟨nm, q, N, bs, bm, sn, sub, ab, col, dd, k0, k1, k2, k3, k5, hC, hbm⟩ := T.cls
  refine wpAny_Call_Name_kw (ld_glob I hg hm ?_ hdb)
  refine PySem.W.callWith_K0 I.kIn T.kC ?_
  show wpAny _ _ (call (.ref C) []) _ _ _
  obtain ⟨hz, q1⟩ := h
  obtain ⟨hp, g, dr, tk, os⟩ := s
  have hsz : hp.objs.size ≤ hp.objs.size + 1 := Nat.le_succ _
  have hn : H (hp.objs.size + 1) = none := I.hok.fresh hsz
  have hq := q1 (hp.objs.size + 1) hn
  have kk : ∀ b o, hp.get? b = some o → ((hp.push (PySem.W.kdv_tup [])).push (PySem.HandSPX.excO C hp.objs.size)).get? b = some o := fun b o e => Heap.get?_push_of_some _ (Heap.get?_push_of_some _ e)
  have hget : ((hp.push (PySem.W.kdv_tup [])).push (PySem.HandSPX.excO C hp.objs.size)).get? (hp.objs.size + 1) = some (PySem.HandSPX.excO C hp.objs.size) := by heap_get
  have I2 : Inv X pins σ (upd H (hp.objs.size + 1) (exo (hp.objs.size + 1) C none)) ⟨(hp.push (PySem.W.kdv_tup [])).push (PySem.HandSPX.excO C hp.objs.size), g, dr, tk, os⟩ :=
    I.laid (t' := tk) (a := hp.objs.size + 1) (o := exo (hp.objs.size + 1) C none) (h' := (hp.push (PySem.W.kdv_tup [])).push (PySem.HandSPX.excO C hp.objs.size)) kk hsz (exo_ok hget)
  have r2 : Vals [V.ref (hp.objs.size + 1)] [Value.ref (hp.objs.size + 1)] := .cons rfl .nil
  have hl : [Value.ref (hp.objs.size + 1)].length = ps.length := by
    have e := r2.length
    rw [← F1.len _ _ _ _ hq]
    rfl
  have hus : ([] : List Value).length ≤ sizeLine := by
    rw [sizeLine_eq]
    exact Nat.zero_le _
  refine wpAny_call (PySem.HandSPX.call_own F.excBase_ValueError (fun Y => PySem.HandSPX.refsVE_contains Y bm hbm) (I.kIn _ _ hC) (PySem.W.looks_findIn I.kIn iC) (fun self => PySem.W.bind_fn I.kIn self tI) hus
    (codeAny_mono (F1.run _ X.stack _ _ ⟨[Value.ref (hp.objs.size + 1)], []⟩ [Value.ref (hp.objs.size + 1)] [V.ref (hp.objs.size + 1)] _ (fun _ _ _ => False) (hr.make C [] []) (I2.env0.make C [] []) (by simpa using hb _ [Value.ref (hp.objs.size + 1)] I2.kIn (by simpa using hl)) r2 hq) fun r s' hq' => ?_))
  cases r with
  | error er => exact hx pins σ _ _ er s' I2 hq'
  | ok fl =>
    cases fl with
    | ret u =>
      obtain ⟨v, H2, os2, bare2, un2, hok2, rv, ev, d, fs, ea, ed, hd1, q2⟩ := hq'
      subst ev
      obtain ⟨h2, g2, d2, t2, os'⟩ := s'
      exact ⟨rv, mk_end (raises_own T.exC T.tyC) I hsz kk un2 hok2 os2 bare2 ea ed hd1 q2⟩
    | next => exact False.elim hq'
    | brk => exact False.elim hq'
    | cont => exact False.elim hq'
end
end LR

namespace LR
open PySem PySem.Spec PyProof.Rows L2
section
variable {X : Cx}
/-- * wherever the model lets it -/
theorem op_mulZ : OpR X (binaryOp .Mult) (rI IntMulOk fun i j => .int (i * j)) := opI fun _ _ _ _ _ _ _ hc q => mul_int q hc
end
theorem mulL {i j : Int} (h1 : -(2 ^ 63) ≤ i) (h2 : i ≤ 2 ^ 63) : IntMulOk i j := .of_left (PySem.intBits_le_64 (by omega) (by omega))
theorem mulR {i j : Int} (h1 : -(2 ^ 63) ≤ j) (h2 : j ≤ 2 ^ 63) : IntMulOk i j := .of_right (PySem.intBits_le_64 (by omega) (by omega))
theorem mulW {i j : Int} {a b : Nat} (ha : i.natAbs < 2 ^ a) (hb : j.natAbs < 2 ^ b) (h0 : 0 < a) (h1 : 0 < b) (h : a + b ≤ 1000000) : IntMulOk i j := (wide_mul ha hb h0 h1 h).ok
theorem divZ {i j : Int} {b : Nat} (h : j ≠ 0) (hb : j.natAbs < 2 ^ b) (h0 : 0 < b) (h9 : b ≤ 9000) : CDivZ i j := ⟨h, Nat.lt_of_lt_of_le (PySem.Flt.log2_lt_of h0 hb) h9⟩
/-! what is asked of the written part -/
def oexB (K : PySem.W.Frag) (C : Addr) : Bool := (match K.lookup C with
  | some ⟨.type "type", _, .cls cd, sl⟩ => (match cd.mro, sl.toList with
    | .ref C' :: bm, [_, _, _, _, some (.builtin n), _] => decide (C' = C) && (decide (n = "ValueError.__new__") && (!cd.hasDel && (cd.hasDict && PySem.HandSPX.refsVE bm)))
    | _, _ => false)
  | _ => false) && (decide (PySem.W.findIn K (.ref C) "__setattr__" = some (some (.builtin "object.__setattr__"))) && (decide (PySem.W.subIn K (.ref C) (.type "BaseException") = some true) &&
    (decide (PySem.W.typeIn K (.ref C) = some (.type "type")) && PySem.W.keepIn K (.ref C))))
theorem oexB_ok {K : PySem.W.Frag} {C : Addr} (h : oexB K C = true) : OexC K C := by
  obtain ⟨h1, h⟩ := Bool.and_eq_true_iff.mp h
  obtain ⟨h2, h⟩ := Bool.and_eq_true_iff.mp h
  obtain ⟨h3, h⟩ := Bool.and_eq_true_iff.mp h
  obtain ⟨h4, h5⟩ := Bool.and_eq_true_iff.mp h
  refine ⟨?_, of_decide_eq_true h2, of_decide_eq_true h3, of_decide_eq_true h4, h5⟩
  split at h1
  · rename_i dd cd sl ho
    split at h1
    · rename_i C' bm k0 k1 k2 k3 n k5 hm hs
      simp only [Bool.and_eq_true, decide_eq_true_eq, Bool.not_eq_true'] at h1
      obtain ⟨rfl, rfl, hdel, hdict, hv⟩ := h1
      obtain ⟨nm, bs, mro, ns, qn, hd, sn, sub, ab, col, dl⟩ := cd
      dsimp only at hm hdel hdict
      subst hm hdel hdict
      have hsl : sl = #[k0, k1, k2, k3, some (.builtin "ValueError.__new__"), k5] := by
        obtain ⟨l⟩ := sl
        dsimp only at hs
        rw [hs]
      subst hsl
      exact ⟨nm, qn, ns, bs, bm, sn, sub, ab, col, dd, k0, k1, k2, k3, k5, ho, hv⟩
    · cases h1
  · cases h1
def excB (K : PySem.W.Frag) (D : Addr) : Bool := decide (PySem.W.findIn K (.ref D) "__class__" = some (some (.builtin "object.__class__"))) && (decide (PySem.W.specialIn K (.builtin "object.__class__") "__get__" = some (some (.builtin "getset_descriptor.__get__"))) &&
  (decide (PySem.W.takesIn K (.builtin "object.__class__") = some true) && decide (PySem.W.mroIn K D (.type "object") = some true)))
theorem excB_ok {K : PySem.W.Frag} {D : Addr} (x : xfB K D = true) (h : excB K D = true) : ExcC K D := by
  obtain ⟨h1, h⟩ := Bool.and_eq_true_iff.mp h
  obtain ⟨h2, h⟩ := Bool.and_eq_true_iff.mp h
  obtain ⟨h3, h4⟩ := Bool.and_eq_true_iff.mp h
  have y := xfB_ok x
  exact ⟨y.ga, y.gg, y.exC, y.hdC, of_decide_eq_true h1, of_decide_eq_true h2, of_decide_eq_true h3, of_decide_eq_true h4⟩
/-- an own error class: made by its __init__, its fields read, asked by isinstance, named by except -/
def exAll (K : PySem.W.Frag) (x : Str) : Bool := oexB K (He.ga K x) && (xfB K (He.ga K x) && (excB K (He.ga K x) && (decide (PySem.W.findIn K (.ref (He.ga K x)) "__init__" = some (some (.ref (He.ma K (He.ga K x) "__init__")))) &&
  (decide (PySem.W.typeIn K (.ref (He.ma K (He.ga K x) "__init__")) = some (.type "function")) && decide (PySem.W.exmOne K (.ref (He.ga K x)) (.ref (He.ga K x)) = some true)))))
/-- an own class: its mro, its != -/
def clAll (K : PySem.W.Frag) (x : Str) : Bool := PySem.W.selfFirst K (He.ga K x) && (decide (PySem.W.findIn K (.ref (He.ga K x)) "__ne__" = some (some (.builtin "object.__ne__"))) && (decide (PySem.W.subIn K (.ref (He.ga K x)) (.type "object") = some true) &&
  (decide (PySem.W.findIn K (.ref (He.ga K x)) "__class__" = some (some (.builtin "object.__class__"))) && (decide (PySem.W.specialIn K (.builtin "object.__class__") "__get__" = some (some (.builtin "getset_descriptor.__get__"))) &&
  (decide (PySem.W.takesIn K (.builtin "object.__class__") = some true) && decide (PySem.W.mroIn K (He.ga K x) (.type "object") = some true))))))
/-- a property x.f: its record, its getter -/
def prAd (K : PySem.W.Frag) (x f : Str) : Addr := match PySem.W.findIn K (.ref (He.ga K x)) f with
  | some (some (.ref p)) => p
  | _ => 0
def prGet (K : PySem.W.Frag) (x f : Str) : Addr := match PySem.W.recIn K (prAd K x f) "property" with
  | some (.ref g :: _) => g
  | _ => 0
def prB (K : PySem.W.Frag) (x f : Str) : Bool := decide (PySem.W.findIn K (.ref (He.ga K x)) f = some (some (.ref (prAd K x f)))) && (decide (PySem.W.specialIn K (.ref (prAd K x f)) "__get__" = some (some (.builtin "property.__get__"))) &&
  (decide (PySem.W.takesIn K (.ref (prAd K x f)) = some true) && (match PySem.W.recIn K (prAd K x f) "property" with
    | some (.ref g :: _) => decide (g = prGet K x f)
    | _ => false)))
theorem prB_ok {K : PySem.W.Frag} {x f : Str} (h : prB K x f = true) : PropOf K (He.ga K x) f (prAd K x f) (prGet K x f) := by
  obtain ⟨h1, h⟩ := Bool.and_eq_true_iff.mp h
  obtain ⟨h2, h⟩ := Bool.and_eq_true_iff.mp h
  obtain ⟨h3, h4⟩ := Bool.and_eq_true_iff.mp h
  refine ⟨of_decide_eq_true h1, of_decide_eq_true h2, of_decide_eq_true h3, ?_⟩
  split at h4
  · rename_i g rest e
    exact ⟨rest, by rw [e, of_decide_eq_true h4]⟩
  · cases h4
/-- one def: its address in the written part, its name, qualified name, parameters, body, scope, defaults -/
structure Df where
  at_ : PySem.W.Frag → Addr
  name : Str
  qual : Str
  params : Arguments
  body : List Stmt
  scope : Scope
  dfl : List He.Dv := []
def fnWA (K : PySem.W.Frag) (f : Addr) : He.FnW := match K.lookup f with
  | some ⟨_, _, .func fd, _⟩ => some (fd.name, fd.qualname, fd.params, fd.body, fd.scope, fd.globals, fd.closure, fd.builtins)
  | _ => none
def Df.val (d : Df) : He.FnW := some (d.name, d.qual, d.params, .stmts d.body, d.scope, mainGlobals, [], builtinsNs)
def Df.dvs (K : PySem.W.Frag) (d : Df) : List V := d.dfl.map (He.Dv.v K)
def Df.ok (K : PySem.W.Frag) (d : Df) : Bool := PySem.W.keepIn K (.ref (d.at_ K)) && (match K.lookup (d.at_ K) with
  | some ⟨_, _, .func fd, _⟩ => PySem.W.codeIn K fd.code d.qual && He.dflB K fd.defaults (d.dvs K)
  | _ => false)
theorem Df.funD {K : PySem.W.Frag} {d : Df} (e : fnWA K (d.at_ K) = d.val) (c : d.ok K = true) : ∃ fd, FunD K d.name d.qual d.params d.body d.scope (d.dvs K) [] (d.at_ K) fd := by
  obtain ⟨kp, c2⟩ := Bool.and_eq_true_iff.mp c
  unfold fnWA at e
  cases q : K.lookup (d.at_ K) with
  | none =>
    rw [q] at c2
    exact absurd c2 Bool.false_ne_true
  | some o =>
    obtain ⟨oc, od, dt, osl⟩ := o
    rw [q] at c2 e
    cases dt with
    | func fd =>
      obtain ⟨n1, n2, n3, n4, n5, n6, n7, n8, n9, n10, n11, n12, n13, n14, n15⟩ := fd
      have e2 : (some (n1, n2, n3, n4, n5, n6, n7, n15) : He.FnW) = some (d.name, d.qual, d.params, .stmts d.body, d.scope, mainGlobals, [], builtinsNs) := e
      simp only [Option.some.injEq, Prod.mk.injEq] at e2
      obtain ⟨h1, h2, h3, h4, h5, h6, h7, h8⟩ := e2
      subst h1 h2 h3 h4 h5 h6 h7 h8
      obtain ⟨k1, k2⟩ := Bool.and_eq_true_iff.mp (show (PySem.W.codeIn K n13 d.qual && He.dflB K n8 (d.dvs K)) = true from c2)
      exact ⟨_, ⟨oc, od, n8, n9, n10, n11, n12, n13, n14, osl, rfl, q, k1, He.dflB_ok k2, .inl rfl⟩, kp⟩
    | _ => exact absurd c2 Bool.false_ne_true
/-- the lists of a law: global names (defs, classes), free ones, own classes, error classes, methods, attributes that no class holds, names of functions of other modules, answers of isinstance, properties; the defs -/
structure Ls where
  gl : List Str
  fr : List Str
  cl : List Str := []
  ex : List Str := []
  me : List (Str × Str) := []
  no : List (Str × Str) := []
  bl : List (Str × String) := []
  kit : List (Value × Str × Bool) := []
  kie : List (Str × Str × Bool) := []
  kiv : List (Str × String × Bool) := []
  pr : List (Str × Str) := []
  nf : List (Str × String) := []
  fn : List Df
def Ls.fa (L : Ls) : List He.Fa := L.gl.map He.Fa.glo ++ (L.gl.map He.Fa.keep ++ (L.fr.map He.Fa.free ++ (L.cl.map He.Fa.cls ++ (L.cl.map He.Fa.mkr ++ (L.me.map (fun p => He.Fa.meth p.1 p.2) ++ L.no.map (fun p => He.Fa.noat p.1 p.2))))))
def Ls.exb (L : Ls) (K : PySem.W.Frag) : Bool := L.cl.all (clAll K) && (L.ex.all (exAll K) && (L.bl.all (fun p => decide (PySem.W.nsIn K mainGlobals p.1 = some (some (.builtin p.2)))) && (L.kit.all (fun p => decide (PySem.W.kitOne K p.1 (.ref (He.ga K p.2.1)) = some p.2.2)) &&
  (L.kie.all (fun p => decide (PySem.W.kitOne K (.ref (He.ga K p.1)) (.ref (He.ga K p.2.1)) = some p.2.2)) && (L.kiv.all (fun p => decide (PySem.W.kitOne K (.ref (He.ga K p.1)) (.type p.2.1) = some p.2.2)) && (L.pr.all (fun p => prB K p.1 p.2) &&
  L.nf.all (fun p => PySem.W.notFirst K (He.ga K p.1) (.type p.2))))))))
def adrs : Nat → List Addr
  | 0 => []
  | n + 1 => n :: adrs n
abbrev AlL : Type := Bool × List He.FnW
def Ls.obs (L : Ls) (K : PySem.W.Frag) : AlL := ((L.fa.all fun f => f.ok K) && ((L.fn.all fun d => d.ok K) && L.exb K), L.fn.map fun d => fnWA K (d.at_ K))
def Ls.val (L : Ls) : AlL := (true, L.fn.map Df.val)
def Ls.obsG (n : Nat) (L : Ls) (g : Addr → Option Obj) : AlL := L.obs (He.frG g (adrs n))
def hookL (n : Nat) (L : Ls) : PySem.W.Hook where
  α := AlL
  obs := fun s => L.obsG n s.heap.get?
  val := fun _ => L.val
  says := fun _ h => ∃ K : PySem.W.Frag, K.In h ∧ L.obs K = L.val
  of := fun _ _ e => ⟨_, He.frG_in, e⟩
  keeps := fun _ _ _ ⟨K, hK, c⟩ k => ⟨K, PySem.W.Frag.In.keeps hK k, c⟩
theorem Ls.obsG_eq {n : Nat} {L : Ls} {g : Addr → Option Obj} {s : Shared} (h : ∀ a, g a = s.heap.get? a) : L.obsG n g = (hookL n L).obs s := by
  rw [show g = s.heap.get? from funext h] <;> rfl
structure Txt (L : Ls) (K : PySem.W.Frag) (mg : Str → Option Value) : Prop where
  gA : ∀ x ∈ L.gl, mg x = some (.ref (He.ga K x))
  kA : ∀ x ∈ L.gl, PySem.W.keepIn K (.ref (He.ga K x)) = true
  fA : ∀ x ∈ L.fr, mg x = none
  clA : ∀ x ∈ L.cl, Cls K (He.ga K x)
  mkA : ∀ x ∈ L.cl, Mk K (He.ga K x) (He.ma K (He.ga K x) "__init__")
  meA : ∀ p ∈ L.me, Meth K (He.ga K p.1) p.2 (He.ma K (He.ga K p.1) p.2)
  noA : ∀ p ∈ L.no, NoAttr K (He.ga K p.1) p.2
  c2A : ∀ x ∈ L.cl, clAll K x = true
  exA : ∀ x ∈ L.ex, exAll K x = true
  blA : ∀ p ∈ L.bl, mg p.1 = some (.builtin p.2)
  kitA : ∀ p ∈ L.kit, PySem.W.kitOne K p.1 (.ref (He.ga K p.2.1)) = some p.2.2
  kieA : ∀ p ∈ L.kie, PySem.W.kitOne K (.ref (He.ga K p.1)) (.ref (He.ga K p.2.1)) = some p.2.2
  kivA : ∀ p ∈ L.kiv, PySem.W.kitOne K (.ref (He.ga K p.1)) (.type p.2.1) = some p.2.2
  prA : ∀ p ∈ L.pr, prB K p.1 p.2 = true
  nfA : ∀ p ∈ L.nf, PySem.W.notFirst K (He.ga K p.1) (.type p.2) = true
  dA : ∀ (i : Nat) (d : Df), L.fn[i]? = some d → ∃ fd, FunD K d.name d.qual d.params d.body d.scope (d.dvs K) [] (d.at_ K) fd
theorem Txt.of {L : Ls} {K : PySem.W.Frag} {mg : Str → Option Value} {h : Heap} (X : K.In h) (G : h.Ns mainGlobals mg) (c : L.obs K = L.val) : Txt L K mg := by
  obtain ⟨c1, c2⟩ := Prod.mk.inj (show ((L.fa.all fun f => f.ok K) && ((L.fn.all fun d => d.ok K) && L.exb K), L.fn.map fun d => fnWA K (d.at_ K)) = (true, L.fn.map Df.val) from c)
  obtain ⟨c3, c4⟩ := Bool.and_eq_true_iff.mp c1
  obtain ⟨c5, m⟩ := Bool.and_eq_true_iff.mp c4
  have f : ∀ g ∈ L.fa, g.ok K = true := fun g hg => List.all_eq_true.mp c3 g hg
  unfold Ls.exb at m
  simp only [Bool.and_eq_true, List.all_eq_true, decide_eq_true_eq] at m
  obtain ⟨m1, m2, m3, m4, m5, m6, m7, m8⟩ := m
  have i1 : ∀ g ∈ L.gl.map He.Fa.glo, g ∈ L.fa := fun g hg => List.mem_append_left _ hg
  have i2 : ∀ g ∈ L.gl.map He.Fa.keep, g ∈ L.fa := fun g hg => List.mem_append_right _ (List.mem_append_left _ hg)
  have i3 : ∀ g ∈ L.fr.map He.Fa.free, g ∈ L.fa := fun g hg => List.mem_append_right _ (List.mem_append_right _ (List.mem_append_left _ hg))
  have i4 : ∀ g ∈ L.cl.map He.Fa.cls, g ∈ L.fa := fun g hg => List.mem_append_right _ (List.mem_append_right _ (List.mem_append_right _ (List.mem_append_left _ hg)))
  have i5 : ∀ g ∈ L.cl.map He.Fa.mkr, g ∈ L.fa := fun g hg => List.mem_append_right _ (List.mem_append_right _ (List.mem_append_right _ (List.mem_append_right _ (List.mem_append_left _ hg))))
  have i6 : ∀ g ∈ L.me.map (fun p => He.Fa.meth p.1 p.2), g ∈ L.fa := fun g hg => List.mem_append_right _ (List.mem_append_right _ (List.mem_append_right _ (List.mem_append_right _ (List.mem_append_right _ (List.mem_append_left _ hg)))))
  have i7 : ∀ g ∈ L.no.map (fun p => He.Fa.noat p.1 p.2), g ∈ L.fa := fun g hg => List.mem_append_right _ (List.mem_append_right _ (List.mem_append_right _ (List.mem_append_right _ (List.mem_append_right _ (List.mem_append_right _ hg)))))
  exact
    { gA := fun x hx => He.glo_ok X G (f _ (i1 _ (List.mem_map_of_mem hx)))
      kA := fun x hx => He.keep_ok (f _ (i2 _ (List.mem_map_of_mem hx)))
      fA := fun x hx => He.free_ok X G (f _ (i3 _ (List.mem_map_of_mem hx)))
      clA := fun x hx => He.cls_ok (f _ (i4 _ (List.mem_map_of_mem hx)))
      mkA := fun x hx => He.mkr_ok (f _ (i5 _ (List.mem_map_of_mem hx)))
      meA := fun p hp => He.meth_ok (f _ (i6 _ (List.mem_map_of_mem (f := fun p => He.Fa.meth p.1 p.2) hp)))
      noA := fun p hp => He.noat_ok (f _ (i7 _ (List.mem_map_of_mem (f := fun p => He.Fa.noat p.1 p.2) hp)))
      c2A := m1, exA := m2, blA := fun p hp => PySem.W.mg_of X G (m3 p hp), kitA := m4, kieA := m5, kivA := m6, prA := m7, nfA := m8
      dA := fun i d hd => by
        have e2 : (L.fn.map fun d => fnWA K (d.at_ K))[i]? = (L.fn.map Df.val)[i]? := by rw [c2]
        rw [List.getElem?_map, List.getElem?_map, hd] at e2
        exact Df.funD (Option.some.inj e2) (List.all_eq_true.mp c5 d (List.mem_of_getElem? hd)) }
section
variable {L : Ls} {K : PySem.W.Frag} {mg : Str → Option Value} (T : Txt L K mg)
include T
theorem Txt.g (x : Str) (h : x ∈ L.gl := by decide +kernel) : mg x = some (.ref (He.ga K x)) := T.gA x h
theorem Txt.k (x : Str) (h : x ∈ L.gl := by decide +kernel) : PySem.W.keepIn K (.ref (He.ga K x)) = true := T.kA x h
theorem Txt.f (x : Str) (h : x ∈ L.fr := by decide +kernel) : mg x = none := T.fA x h
theorem Txt.cl (x : Str) (h : x ∈ L.cl := by decide +kernel) : Cls K (He.ga K x) := T.clA x h
theorem Txt.mkk (x : Str) (h : x ∈ L.cl := by decide +kernel) : Mk K (He.ga K x) (He.ma K (He.ga K x) "__init__") := T.mkA x h
theorem Txt.me (x m : Str) (h : (x, m) ∈ L.me := by decide +kernel) : Meth K (He.ga K x) m (He.ma K (He.ga K x) m) := T.meA (x, m) h
theorem Txt.no (x m : Str) (h : (x, m) ∈ L.no := by decide +kernel) : NoAttr K (He.ga K x) m := T.noA (x, m) h
theorem Txt.b (x : Str) (y : String) (h : (x, y) ∈ L.bl := by decide +kernel) : mg x = some (.builtin y) := T.blA (x, y) h
theorem Txt.own (x m : Str) (h : (x, m) ∈ L.me := by decide +kernel) : PySem.W.findIn K (.ref (He.ga K x)) m = some (some (.ref (He.ma K (He.ga K x) m))) := (T.meA (x, m) h).at_
theorem Txt.fnn (x m : Str) (h : (x, m) ∈ L.me := by decide +kernel) : PySem.W.isFn K (.ref (He.ma K (He.ga K x) m)) = true := (T.meA (x, m) h).fn
theorem Txt.first (x : Str) (h : x ∈ L.cl := by decide +kernel) : PySem.W.selfFirst K (He.ga K x) = true := (Bool.and_eq_true_iff.mp (T.c2A x h)).1
theorem Txt.ne (x : Str) (h : x ∈ L.cl := by decide +kernel) : PySem.W.findIn K (.ref (He.ga K x)) "__ne__" = some (some (.builtin "object.__ne__")) := of_decide_eq_true (Bool.and_eq_true_iff.mp (Bool.and_eq_true_iff.mp (T.c2A x h)).2).1
theorem Txt.ob (x : Str) (h : x ∈ L.cl := by decide +kernel) : PySem.W.subIn K (.ref (He.ga K x)) (.type "object") = some true := of_decide_eq_true (Bool.and_eq_true_iff.mp (Bool.and_eq_true_iff.mp (Bool.and_eq_true_iff.mp (T.c2A x h)).2).2).1
/-- an instance of the class, for isinstance -/
theorem Txt.ty (x : Str) {H : Hp} {a dx : Addr} {fs : List (Str × V)} (e : H a = some (.ins (He.ga K x) dx fs)) (h : x ∈ L.cl := by decide +kernel) : TyX K H (.ref a) (.ref (He.ga K x)) := by
  have q := T.c2A x h
  unfold clAll at q
  simp only [Bool.and_eq_true, decide_eq_true_eq] at q
  obtain ⟨_, _, _, q4, q5, q6, q7⟩ := q
  exact .base (.ins e (T.clA x h) q4 q5 q6 q7)
theorem Txt.nfs (x : Str) (h : x ∈ L.cl := by decide +kernel) : PySem.W.notFirst K (He.ga K x) (.ref (He.ga K x)) = true := by
  unfold PySem.W.notFirst
  first
    | simp
    | rfl
theorem Txt.nf (x : Str) (t : String) (h : (x, t) ∈ L.nf := by decide +kernel) : PySem.W.notFirst K (He.ga K x) (.type t) = true := T.nfA (x, t) h
theorem Txt.oex (x : Str) (h : x ∈ L.ex := by decide +kernel) : OexC K (He.ga K x) := oexB_ok (Bool.and_eq_true_iff.mp (T.exA x h)).1
theorem Txt.exa (x : Str) (h : x ∈ L.ex := by decide +kernel) : XfC K (He.ga K x) ∧ ExcC K (He.ga K x) ∧ PySem.W.findIn K (.ref (He.ga K x)) "__init__" = some (some (.ref (He.ma K (He.ga K x) "__init__"))) ∧
    PySem.W.typeIn K (.ref (He.ma K (He.ga K x) "__init__")) = some (.type "function") ∧ PySem.W.exmOne K (.ref (He.ga K x)) (.ref (He.ga K x)) = some true := by
  obtain ⟨_, q⟩ := Bool.and_eq_true_iff.mp (T.exA x h)
  obtain ⟨q1, q⟩ := Bool.and_eq_true_iff.mp q
  obtain ⟨q2, q⟩ := Bool.and_eq_true_iff.mp q
  obtain ⟨q3, q⟩ := Bool.and_eq_true_iff.mp q
  obtain ⟨q4, q5⟩ := Bool.and_eq_true_iff.mp q
  exact ⟨xfB_ok q1, excB_ok q1 q2, of_decide_eq_true q3, of_decide_eq_true q4, of_decide_eq_true q5⟩
theorem Txt.exI (x : Str) (h : x ∈ L.ex := by decide +kernel) : PySem.W.findIn K (.ref (He.ga K x)) "__init__" = some (some (.ref (He.ma K (He.ga K x) "__init__"))) := (T.exa x h).2.2.1
theorem Txt.exT (x : Str) (h : x ∈ L.ex := by decide +kernel) : PySem.W.typeIn K (.ref (He.ma K (He.ga K x) "__init__")) = some (.type "function") := (T.exa x h).2.2.2.1
theorem Txt.exM (x : Str) (h : x ∈ L.ex := by decide +kernel) : PySem.W.exmOne K (.ref (He.ga K x)) (.ref (He.ga K x)) = some true := (T.exa x h).2.2.2.2
theorem Txt.kit (t : Value) (x : Str) (b : Bool) (h : (t, x, b) ∈ L.kit := by decide +kernel) : PySem.W.kitOne K t (.ref (He.ga K x)) = some b := T.kitA (t, x, b) h
theorem Txt.kie (y x : Str) (b : Bool) (h : (y, x, b) ∈ L.kie := by decide +kernel) : PySem.W.kitOne K (.ref (He.ga K y)) (.ref (He.ga K x)) = some b := T.kieA (y, x, b) h
theorem Txt.kiv (y : Str) (t : String) (b : Bool) (h : (y, t, b) ∈ L.kiv := by decide +kernel) : PySem.W.kitOne K (.ref (He.ga K y)) (.type t) = some b := T.kivA (y, t, b) h
theorem Txt.pr (x f : Str) (h : (x, f) ∈ L.pr := by decide +kernel) : PropOf K (He.ga K x) f (prAd K x f) (prGet K x f) := prB_ok (T.prA (x, f) h)
theorem Txt.d (i : Nat) {d : Df} (h : L.fn[i]? = some d := by rfl) : ∃ fd, FunD K d.name d.qual d.params d.body d.scope (d.dvs K) [] (d.at_ K) fd := T.dA i d h
end
/-- the def at f keeps its promise; all parameters written -/
def Ok (P : Program) (w : World) (K : PySem.W.Frag) (mg : Str → Option Value) (base : Heap) (f : Addr) (k : Nat) (ps : List Str) (sp : Sp) : Prop := ∃ fd, FnOk P w K mg base (L2.CX P w) k f fd ps sp ∧ Binds K fd ps []
theorem Ok.of {P : Program} {w : World} {K : PySem.W.Frag} {mg : Str → Option Value} {base : Heap} {x qual : Str} {params : Arguments} {body : List Stmt} {scope : Scope} {f : Addr} {N ps : List Str} {k : Nat} {sp : Sp}
    (h : ∃ fd, FunD K x qual params body scope [] [] f fd) (S : FnScope N ps scope)
    (hb : ∀ (kV doc pm : Value) (an : Option Addr) (cdv ct : Value) (us : List Value), us.length = ps.length → bindArgs (PySem.W.fnOf x qual params body scope .none kV doc pm an cdv ct) ⟨us, []⟩ = pure (ps.zip us))
    (len : ∀ vs H Q E, sp vs H Q E → vs.length = ps.length)
    (hbody : ∀ (fd : FuncData) (cdv : Value) (A : Around) (outer : List Env) (s : Shared) (H : Hp) (vs : List V) (Q : VK) (E : XK), Room k (A.deeper (envOfC qual scope s.heap.objs.size f cdv)) → sp vs H Q E →
      ∃ t, PSs (cxOf (L2.CX P w) P w K mg base N qual scope f cdv A outer s H E) body t ∧ t { nx := fun _ H' => Q .non H', rt := Q } (start N vs) H) : Ok P w K mg base f (k + 1) ps sp := by
  obtain ⟨fd, F⟩ := h
  exact ⟨fd, F.ok S len fun cdv A outer s H vs Q E hr hsp => hbody fd cdv A outer s H vs Q E hr hsp, F.bindsN hb⟩
/-! helpers -/
theorem ints_ix {ns : List Int} {i : Nat} {x : V} (h : (ns.map V.int)[i]? = some x) : ∃ z, ns[i]? = some z ∧ x = .int z := by
  rw [List.getElem?_map] at h
  cases e : ns[i]? with
  | none =>
    rw [e] at h
    cases h
  | some z =>
    rw [e] at h
    exact ⟨z, rfl, (Option.some.inj h).symm⟩
theorem cut_ints (ns : List Int) (lo hi : Option Int) : ∃ ms : List Int, cutV (ns.map V.int) lo hi = ms.map V.int ∧ ms.length ≤ ns.length ∧ ∀ z ∈ ms, z ∈ ns := by
  unfold cutV
  refine ⟨(ns.drop (HT.sIx (ns.map V.int).length 0 lo)).take (HT.sIx (ns.map V.int).length (ns.map V.int).length hi - HT.sIx (ns.map V.int).length 0 lo), ?_, ?_, fun z hz => List.mem_of_mem_drop (List.mem_of_mem_take hz)⟩
  · rw [List.map_take, List.map_drop]
  · rw [List.length_take, List.length_drop]
    omega
theorem at_ix {α : Type} {xs : List α} {k : Int} (h0 : 0 ≤ k) (h1 : k < (xs.length : Int)) : ∃ x, xs[k.toNat]? = some x ∧ x ∈ xs ∧ atI xs k = some x := by
  have hk : k.toNat < xs.length := by omega
  refine ⟨xs[k.toNat], List.getElem?_eq_getElem hk, List.getElem_mem hk, ?_⟩
  have e := atI_nat (List.getElem?_eq_getElem hk)
  rw [Int.toNat_of_nonneg h0] at e
  exact e
theorem at_ints {ns : List Int} {k : Int} (h0 : 0 ≤ k) (h1 : k < (ns.length : Int)) : ∃ z, z ∈ ns ∧ ns[k.toNat]? = some z ∧ atI (ns.map V.int) k = some (.int z) := by
  obtain ⟨x, e, _, q⟩ := at_ix (xs := ns.map V.int) h0 (by rw [List.length_map]; exact h1)
  obtain ⟨z, ez, rfl⟩ := ints_ix e
  exact ⟨z, List.mem_of_getElem? ez, ez, q⟩
theorem abs_nn (i : Int) : 0 ≤ (if i < 0 then -i else i) := by
  split <;> omega
theorem same_new {H : Hp} {p : Addr} {o : HO} (h : H p = none) : Same H (upd H p o) := fun b u e => by
  rw [upd_ne (ne_of_none e h)]
  exact e
theorem same_new' {H H1 : Hp} {p : Addr} {o : HO} (s : Same H H1) (h : H1 p = none) : Same H (upd H1 p o) := s.trans (same_new h)
/-- what H does not know may change -/
theorem same_mut {H H1 : Hp} {p : Addr} {o : HO} (s : Same H H1) (h : H p = none) : Same H (upd H1 p o) := fun b u e => by
  rw [upd_ne (ne_of_none e h)]
  exact s b u e
theorem fmod_lo (i : Int) {j : Int} (h : 0 < j) : 0 ≤ i.fmod j := Int.fmod_nonneg_of_pos i h
theorem fmod_hi (i : Int) {j : Int} (h : 0 < j) : i.fmod j < j := Int.fmod_lt_of_pos i h
theorem sz100 {n : Nat} (h : n ≤ 100000) : n < sizeLine := Nat.lt_of_le_of_lt h (by decide)
theorem mulF {a b j : Int} (h0 : 0 < b) (h1 : b ≤ 2 ^ 63) : IntMulOk (a.fmod b) j := mulL (Int.le_trans (by decide) (fmod_lo a h0)) (Int.le_trans (Int.le_of_lt (fmod_hi a h0)) h1)
theorem pside {p : Prop} (h : p) : p := h
/-- .. of a def whose last parameter has a default -/
def OkD (P : Program) (w : World) (K : PySem.W.Frag) (mg : Str → Option Value) (base : Heap) (f : Addr) (k : Nat) (ps : List Str) (dv : V) (sp : Sp) : Prop :=
  ∃ fd, FnOk P w K mg base (L2.CX P w) k f fd ps sp ∧ Binds K fd ps [] ∧ ∃ ds, Vals [dv] ds ∧ Binds K fd ps ds
theorem OkD.of {P : Program} {w : World} {K : PySem.W.Frag} {mg : Str → Option Value} {base : Heap} {x qual : Str} {params : Arguments} {body : List Stmt} {scope : Scope} {f : Addr} {N ps : List Str} {k : Nat} {sp : Sp} {dv : V}
    (h : ∃ fd, FunD K x qual params body scope [dv] [] f fd) (S : FnScope N ps scope)
    (hb : ∀ (n : Nat), (n = ps.length ∨ n + 1 = ps.length) → ∀ (T : Addr) (kV doc pm : Value) (an : Option Addr) (cdv ct : Value) (us its : List Value), us.length = n → its.length = 1 →
      ∃ k, bindArgs (PySem.W.fnOf x qual params body scope (.ref T) kV doc pm an cdv ct) ⟨us, []⟩ = seqItems? (.ref T) >>= k ∧ k (some its.toArray) = pure (ps.zip (us ++ its.drop (n + 1 - ps.length))))
    (h1 : 1 ≤ ps.length) (len : ∀ vs H Q E, sp vs H Q E → vs.length = ps.length)
    (hbody : ∀ (fd : FuncData) (cdv : Value) (A : Around) (outer : List Env) (s : Shared) (H : Hp) (vs : List V) (Q : VK) (E : XK), Room k (A.deeper (envOfC qual scope s.heap.objs.size f cdv)) → sp vs H Q E →
      ∃ t, PSs (cxOf (L2.CX P w) P w K mg base N qual scope f cdv A outer s H E) body t ∧ t { nx := fun _ H' => Q .non H', rt := Q } (start N vs) H) : OkD P w K mg base f (k + 1) ps dv sp := by
  obtain ⟨fd, F⟩ := h
  refine ⟨fd, F.ok S len fun cdv A outer s H vs Q E hr hsp => hbody fd cdv A outer s H vs Q E hr hsp, ?_, ?_⟩
  · obtain ⟨ds, v, b⟩ := F.binds1 (ps := ps) ps.length 1 (by simp) (by simp) (fun T kV doc pm an cdv ct us its hu hi => by
      obtain ⟨k, e1, e2⟩ := hb ps.length (.inl rfl) T kV doc pm an cdv ct us its hu hi
      rw [show ps.length + 1 - ps.length = 1 by omega] at e2
      exact ⟨k, e1, e2⟩)
    cases v
    exact b
  · obtain ⟨ds, v, b⟩ := F.binds1 (ps := ps) (ps.length - 1) 0 (by simp) (by simp; omega) (fun T kV doc pm an cdv ct us its hu hi => by
      obtain ⟨k, e1, e2⟩ := hb (ps.length - 1) (.inr (by omega)) T kV doc pm an cdv ct us its hu hi
      rw [show ps.length - 1 + 1 - ps.length = 0 by omega] at e2
      exact ⟨k, e1, e2⟩)
    exact ⟨ds, v, b⟩
end LR

namespace LR
open PySem PySem.Spec PyProof.Rows L2
/-! ### ratios in lowest terms -/
/-- the greatest common divisor of tops and bottom -/
def cg (ts : List Int) (b : Int) : Nat := ts.foldl (fun g t => Nat.gcd g t.natAbs) b.natAbs
/-- .. with the sign of the bottom -/
def gs (ts : List Int) (b : Int) : Int := if b > 0 then (cg ts b : Int) else -(cg ts b : Int)
def nT (t b : Int) : Int := t.fdiv (gs [t] b)
def nB (t b : Int) : Int := b.fdiv (gs [t] b)
structure Nrm (t b : Int) : Prop where
  pos : 0 < b
  cop : Nat.gcd b.natAbs t.natAbs = 1
theorem cg1 (t b : Int) : cg [t] b = Nat.gcd b.natAbs t.natAbs := rfl
theorem fold_one : ∀ ts : List Int, ts.foldl (fun g t => Nat.gcd g t.natAbs) 1 = 1
  | [] => rfl
  | t :: r => by
    show r.foldl (fun g t => Nat.gcd g t.natAbs) (Nat.gcd 1 t.natAbs) = 1
    rw [Nat.gcd_one_left]
    exact fold_one r
theorem cg_dvd (ts : List Int) (b : Int) : cg ts b ∣ b.natAbs ∧ ∀ t ∈ ts, cg ts b ∣ t.natAbs := by
  have key : ∀ (ts : List Int) (g : Nat), ts.foldl (fun g t => Nat.gcd g t.natAbs) g ∣ g ∧ ∀ t ∈ ts, ts.foldl (fun g t => Nat.gcd g t.natAbs) g ∣ t.natAbs := by
    intro ts
    induction ts with
    | nil => exact fun g => ⟨Nat.dvd_refl g, fun t h => by cases h⟩
    | cons a r ih =>
      intro g
      obtain ⟨h1, h2⟩ := ih (Nat.gcd g a.natAbs)
      refine ⟨Nat.dvd_trans h1 (Nat.gcd_dvd_left _ _), fun t ht => ?_⟩
      rcases List.mem_cons.mp ht with e | e
      · rw [e]
        exact Nat.dvd_trans h1 (Nat.gcd_dvd_right _ _)
      · exact h2 t e
  exact key ts b.natAbs
theorem cg_pos {ts : List Int} {b : Int} (h : b ≠ 0) : 0 < cg ts b := Nat.pos_of_dvd_of_pos (cg_dvd ts b).1 (by omega)
theorem cg_le {ts : List Int} {b : Int} (h : b ≠ 0) : cg ts b ≤ b.natAbs := Nat.le_of_dvd (by omega) (cg_dvd ts b).1
theorem gs_abs (ts : List Int) (b : Int) : (gs ts b).natAbs = cg ts b := by
  unfold gs
  split <;> omega
theorem gs_ne {ts : List Int} {b : Int} (h : b ≠ 0) : gs ts b ≠ 0 := by
  have q := gs_abs ts b
  have p := cg_pos (ts := ts) h
  omega
theorem gs_le {ts : List Int} {b : Int} (h : b ≠ 0) : (gs ts b).natAbs ≤ b.natAbs := by
  rw [gs_abs]
  exact cg_le h
theorem gs_dvd (t b : Int) : gs [t] b ∣ t ∧ gs [t] b ∣ b := by
  obtain ⟨h1, h2⟩ := cg_dvd [t] b
  constructor
  · exact Int.natAbs_dvd_natAbs.mp (by rw [gs_abs]; exact h2 t (List.mem_singleton.mpr rfl))
  · exact Int.natAbs_dvd_natAbs.mp (by rw [gs_abs]; exact h1)
theorem nT_ed (t b : Int) : nT t b = t / gs [t] b := Int.fdiv_eq_ediv_of_dvd (gs_dvd t b).1
theorem nB_ed (t b : Int) : nB t b = b / gs [t] b := Int.fdiv_eq_ediv_of_dvd (gs_dvd t b).2
theorem nT_abs (t b : Int) : (nT t b).natAbs = t.natAbs / Nat.gcd b.natAbs t.natAbs := by
  rw [nT_ed, Int.natAbs_ediv_of_dvd (gs_dvd t b).1, gs_abs, cg1]
theorem nB_abs (t b : Int) : (nB t b).natAbs = b.natAbs / Nat.gcd b.natAbs t.natAbs := by
  rw [nB_ed, Int.natAbs_ediv_of_dvd (gs_dvd t b).2, gs_abs, cg1]
theorem nT_le (t b : Int) : (nT t b).natAbs ≤ t.natAbs := Int.natAbs_fdiv_le_natAbs _ _
theorem nB_le (t b : Int) : (nB t b).natAbs ≤ b.natAbs := Int.natAbs_fdiv_le_natAbs _ _
theorem nB_pos {t b : Int} (h : b ≠ 0) : 0 < nB t b := by
  have e : nB t b * gs [t] b = b := by
    rw [nB_ed]
    exact Int.ediv_mul_cancel (gs_dvd t b).2
  have p := cg_pos (ts := [t]) h
  unfold gs at e
  split at e
  · rename_i hb
    rcases Int.lt_or_le 0 (nB t b) with q | q
    · exact q
    · have z : nB t b * (cg [t] b : Int) ≤ 0 := Int.mul_nonpos_of_nonpos_of_nonneg q (Int.natCast_nonneg _)
      omega
  · rename_i hb
    rcases Int.lt_or_le 0 (nB t b) with q | q
    · exact q
    · have z : 0 ≤ nB t b * -(cg [t] b : Int) := Int.mul_nonneg_of_nonpos_of_nonpos q (by omega)
      omega
theorem nrm_of {t b : Int} (h : b ≠ 0) : Nrm (nT t b) (nB t b) := by
  refine ⟨nB_pos h, ?_⟩
  rw [nT_abs, nB_abs]
  exact Nat.gcd_div_gcd_div_gcd_of_pos_left (by omega)
theorem gs_nrm {t b : Int} (h : Nrm t b) : gs [t] b = 1 := by
  unfold gs
  rw [if_pos h.pos, cg1, h.cop]
  rfl
theorem nT_nrm {t b : Int} (h : Nrm t b) : nT t b = t := by
  unfold nT
  rw [gs_nrm h, Int.fdiv_one]
theorem nB_nrm {t b : Int} (h : Nrm t b) : nB t b = b := by
  unfold nB
  rw [gs_nrm h, Int.fdiv_one]
theorem gs_neg (t b : Int) : gs [-t] b = gs [t] b := by
  unfold gs
  rw [cg1, cg1, Int.natAbs_neg]
theorem nT_neg (t b : Int) : nT (-t) b = -nT t b := by
  rw [nT_ed, nT_ed, gs_neg, Int.neg_ediv_of_dvd (gs_dvd t b).1]
theorem nB_neg (t b : Int) : nB (-t) b = nB t b := by
  unfold nB
  rw [gs_neg]
theorem Nrm.neg {t b : Int} (h : Nrm t b) : Nrm (-t) b := ⟨h.pos, by rw [Int.natAbs_neg]; exact h.cop⟩
theorem Nrm.abs {t b : Int} (h : Nrm t b) : Nrm (if t < 0 then -t else t) b := by
  split
  · exact h.neg
  · exact h
theorem Nrm.one (t : Int) : Nrm t 1 := ⟨by decide, Nat.gcd_one_left _⟩
theorem Nrm.zero {b : Int} (h : b ≠ 0) : nT 0 b = 0 ∧ nB 0 b = 1 := by
  have q := nrm_of (t := 0) h
  have e : nT 0 b = 0 := Int.zero_fdiv _
  refine ⟨e, ?_⟩
  have c := q.cop
  rw [e, show ((0 : Int)).natAbs = 0 from rfl, Nat.gcd_zero_right] at c
  have p := q.pos
  omega
/-! ### Euclid, turn by turn -/
theorem mod_half {n m : Nat} (h : m ≤ n) (hm : 0 < m) : 2 * (n % m) ≤ n := by
  have h1 : n % m < m := Nat.mod_lt _ hm
  have h2 : n % m + m * (n / m) = n := Nat.mod_add_div n m
  have h3 : 1 ≤ n / m := (Nat.one_le_div_iff hm).mpr h
  have h4 : m * 1 ≤ m * (n / m) := Nat.mul_le_mul_left m h3
  omega
/-- behind i turns, b not zero so far -/
structure Euc (g B i a b : Nat) : Prop where
  gcd : Nat.gcd a b = g
  lo : b * 2 ^ (i / 2) ≤ B
  up : 1 ≤ i → b < a ∧ a * 2 ^ ((i - 1) / 2) ≤ B
theorem Euc.start (a b : Nat) : Euc (Nat.gcd a b) b 0 a b := ⟨rfl, by simp, fun h => by omega⟩
theorem Euc.step {g B i a b : Nat} (h : Euc g B i a b) (hb : 0 < b) : Euc g B (i + 1) b (a % b) := by
  have hlt : a % b < b := Nat.mod_lt _ hb
  refine ⟨?_, ?_, fun _ => ⟨hlt, h.lo⟩⟩
  · rw [← h.gcd, Nat.gcd_comm a b, Nat.gcd_rec b a, Nat.gcd_comm b]
  · rcases Nat.lt_or_ge i 1 with h0 | h1
    · have e : i = 0 := by omega
      subst e
      have z := h.lo
      simp at z ⊢
      omega
    · obtain ⟨u1, u2⟩ := h.up h1
      rcases Nat.mod_two_eq_zero_or_one i with e | e
      · have e2 : (i + 1) / 2 = i / 2 := by omega
        rw [e2]
        exact Nat.le_trans (Nat.mul_le_mul_right _ (Nat.le_of_lt hlt)) h.lo
      · have e2 : (i + 1) / 2 = (i - 1) / 2 + 1 := by omega
        rw [e2, Nat.pow_succ]
        have z := mod_half (Nat.le_of_lt u1) hb
        have y : a % b * (2 ^ ((i - 1) / 2) * 2) = 2 * (a % b) * 2 ^ ((i - 1) / 2) := by
          rw [Nat.mul_comm (2 ^ ((i - 1) / 2)) 2, ← Nat.mul_assoc, Nat.mul_comm (a % b) 2]
        rw [y]
        exact Nat.le_trans (Nat.mul_le_mul_right _ z) u2
theorem Euc.done {g B n a b : Nat} (h : Euc g B (2 * n + 2) a b) (hB : B < 2 ^ n) : b = 0 ∧ a = g := by
  have e : (2 * n + 2) / 2 = n + 1 := by omega
  have z := h.lo
  rw [e, Nat.pow_succ] at z
  have hb : b = 0 := by
    rcases Nat.eq_zero_or_pos b with q | q
    · exact q
    · have y : 1 * (2 ^ n * 2) ≤ b * (2 ^ n * 2) := Nat.mul_le_mul_right _ q
      omega
  refine ⟨hb, ?_⟩
  have q := h.gcd
  rw [hb, Nat.gcd_zero_right] at q
  exact q
theorem Euc.ret {g B i a : Nat} (h : Euc g B i a 0) : a = g := by
  have q := h.gcd
  rw [Nat.gcd_zero_right] at q
  exact q
theorem bits_hi (i : Int) : i.natAbs < 2 ^ Builtin.Int.intBits i := by
  unfold Builtin.Int.intBits
  split
  · rename_i h
    have e : i = 0 := by simpa using h
    rw [e]
    decide
  · exact Nat.lt_log2_self
/-! sizes -/
theorem abs_mul_lt {i j : Int} {a b : Nat} (ha : i.natAbs < 2 ^ a) (hb : j.natAbs < 2 ^ b) : (i * j).natAbs < 2 ^ (a + b) := wide_lt ha hb
theorem abs_add_lt {i j : Int} {a : Nat} (ha : i.natAbs < 2 ^ a) (hb : j.natAbs < 2 ^ a) : (i + j).natAbs < 2 ^ (a + 1) := by
  rw [Nat.pow_succ]
  omega
theorem abs_sub_lt {i j : Int} {a : Nat} (ha : i.natAbs < 2 ^ a) (hb : j.natAbs < 2 ^ a) : (i - j).natAbs < 2 ^ (a + 1) := by
  rw [Nat.pow_succ]
  omega
theorem abs_up {i : Int} {a b : Nat} (ha : i.natAbs < 2 ^ a) (h : a ≤ b) : i.natAbs < 2 ^ b := Nat.lt_of_lt_of_le ha (Nat.pow_le_pow_right (by decide) h)
end LR

namespace LR
open PySem PySem.Spec PyProof.Rows L2
section
variable {X : Cx} {CX : CXT} {k : Nat} {C fI : Addr} {fd : FuncData} {ps : List Str} {sp : Sp} {ds : List Value} {dvs : List V} {x : Str} {p pos : Pos} {e : Expr} {es : List Expr} {ta : TA}
/-- C(..) as a value, C an own exception with its own __init__: the new exception is kept in sight, with its dict -/
def tMkX (C : Addr) (sp : Sp) (dvs : List V) (ta : TA) : TE := fun σ H Q => ta σ H fun vs H1 => vs.length ≤ 1000 ∧ ∀ a, H1 a = none → sp (.ref a :: (vs ++ dvs)) (upd H1 a (exo a C none)) (fun v H2 => v = .non ∧ Q (.ref a) H2) (fun _ _ _ => False)
theorem run_mkX {pins : List (Addr × Obj)} {σ : L2.St} {H1 : Hp} {s1 : Shared} {Q : VK} {us : List Value} {vs : List V} (T : OexC X.K C) (iC : PySem.W.findIn X.K (.ref C) "__init__" = some (some (.ref fI))) (tI : PySem.W.typeIn X.K (.ref fI) = some (.type "function"))
    (F1 : FnOk X.prog X.w X.K X.mg X.base CX k fI fd ps sp) (hr : Room (k + 1) X.A) (hb : Binds X.K fd ps ds) (hd : Vals dvs ds) (hx : Passes CX X (fun _ _ _ => False)) (I1 : Inv X pins σ H1 s1) (r1 : Vals vs us) (hz : vs.length ≤ 1000)
    (q1 : ∀ a, H1 a = none → sp (.ref a :: (vs ++ dvs)) (upd H1 a (exo a C none)) (fun v H2 => v = .non ∧ Q (.ref a) H2) (fun _ _ _ => False)) :
    wpAny (model X.prog X.w) X.A (call (.ref C) us) (EP X pins σ Q) X.xe s1 := by
  obtain ⟨nm, q, N, bs, bm, sn, sub, ab, col, dd, k0, k1, k2, k3, k5, hC, hbm⟩ := T.cls
  obtain ⟨hp, g, dr, tk, os⟩ := s1
  have hsz : hp.objs.size ≤ hp.objs.size + 1 := Nat.le_succ _
  have hn : H1 (hp.objs.size + 1) = none := I1.hok.fresh hsz
  have hq := q1 (hp.objs.size + 1) hn
  have kk : ∀ b o, hp.get? b = some o → ((hp.push (PySem.W.kdv_tup us)).push (PySem.HandSPX.excO C hp.objs.size)).get? b = some o := fun b o e => Heap.get?_push_of_some _ (Heap.get?_push_of_some _ e)
  have hget : ((hp.push (PySem.W.kdv_tup us)).push (PySem.HandSPX.excO C hp.objs.size)).get? (hp.objs.size + 1) = some (PySem.HandSPX.excO C hp.objs.size) := by heap_get
  have I2 : Inv X pins σ (upd H1 (hp.objs.size + 1) (exo (hp.objs.size + 1) C none)) ⟨(hp.push (PySem.W.kdv_tup us)).push (PySem.HandSPX.excO C hp.objs.size), g, dr, tk, os⟩ :=
    I1.laid (t' := tk) (a := hp.objs.size + 1) (o := exo (hp.objs.size + 1) C none) (h' := (hp.push (PySem.W.kdv_tup us)).push (PySem.HandSPX.excO C hp.objs.size)) kk hsz (exo_ok hget)
  have r2 : Vals (V.ref (hp.objs.size + 1) :: (vs ++ dvs)) (Value.ref (hp.objs.size + 1) :: (us ++ ds)) := .cons rfl (r1.append hd)
  have hl : (Value.ref (hp.objs.size + 1) :: us ++ ds).length = ps.length := by
    have e := r2.length
    rw [F1.len _ _ _ _ hq] at e
    exact e.symm
  have hus : us.length ≤ sizeLine := by
    rw [← Paired.length r1, sizeLine_eq]
    omega
  refine wpAny_call (PySem.HandSPX.call_own F.excBase_ValueError (fun Y => PySem.HandSPX.refsVE_contains Y bm hbm) (I1.kIn _ _ hC) (PySem.W.looks_findIn I1.kIn iC) (fun self => PySem.W.bind_fn I1.kIn self tI) hus
    (codeAny_mono (F1.run _ X.stack _ _ ⟨Value.ref (hp.objs.size + 1) :: us, []⟩ (Value.ref (hp.objs.size + 1) :: (us ++ ds)) _ _ (fun _ _ _ => False) (hr.make C us []) (I2.env0.make C us []) (hb _ (Value.ref (hp.objs.size + 1) :: us) I2.kIn hl) r2 hq) fun r s' hq' => ?_))
  cases r with
  | error er => exact hx pins σ _ _ er s' I2 hq'
  | ok fl =>
    cases fl with
    | ret u =>
      obtain ⟨v, H', I', rv, ev, q3⟩ := I2.after hq'
      subst ev
      exact ⟨rv, .ref (hp.objs.size + 1), H', I', rfl, q3⟩
    | next => exact False.elim hq'
    | brk => exact False.elim hq'
    | cont => exact False.elim hq'
theorem pe_mkX (T : OexC X.K C) (iC : PySem.W.findIn X.K (.ref C) "__init__" = some (some (.ref fI))) (tI : PySem.W.typeIn X.K (.ref fI) = some (.type "function"))
    (F1 : FnOk X.prog X.w X.K X.mg X.base CX k fI fd ps sp) (hr : Room (k + 1) X.A) (hb : Binds X.K fd ps ds) (hd : Vals dvs ds) (hx : Passes CX X (fun _ _ _ => False)) (hg : Gl X x) (hm : X.mg x = some (.ref C)) (ha : PA X (e :: es) ta)
    (hdb : (x == ("__debug__" : Str)) = false := by decide) (he : starEach (e :: es) X.env = (false, eval e X.env) :: starEach es X.env := by rfl) (hpl : (backTo pos (starEach es X.env)).any (·.1) = false := by rfl) :
    PE X (.Call (.Name x p) (e :: es) [] pos) (tMkX C sp dvs ta) := by
  refine ⟨fun pins s σ H Q I h => ?_⟩
  refine wpAny_Call_Name_kw (ld_glob I hg hm ?_ hdb)
  exact PySem.W.callWith_K (h₀ := X.base) I.ok.mod.kin T.kC (thn (ha.run pos pins s σ H _ I h) fun us s1 ⟨vs, H1, I1, r1, hz, q1⟩ => ⟨I1.kIn, run_mkX T iC tI F1 hr hb hd hx I1 r1 hz q1⟩) he hpl
theorem pe_mkX0 (T : OexC X.K C) (iC : PySem.W.findIn X.K (.ref C) "__init__" = some (some (.ref fI))) (tI : PySem.W.typeIn X.K (.ref fI) = some (.type "function"))
    (F1 : FnOk X.prog X.w X.K X.mg X.base CX k fI fd ps sp) (hr : Room (k + 1) X.A) (hb : Binds X.K fd ps ds) (hd : Vals dvs ds) (hx : Passes CX X (fun _ _ _ => False)) (hg : Gl X x) (hm : X.mg x = some (.ref C))
    (hdb : (x == ("__debug__" : Str)) = false := by decide) : PE X (.Call (.Name x p) [] [] pos) (tMkX C sp dvs tNil) := by
  refine ⟨fun pins s σ H Q I h => ?_⟩
  obtain ⟨hz, q1⟩ := h
  refine wpAny_Call_Name_kw (ld_glob I hg hm ?_ hdb)
  exact PySem.W.callWith_K0 I.kIn T.kC (run_mkX T iC tI F1 hr hb hd hx I .nil hz q1)
/-- an exception of the class at C at a, with these fields -/
def XvAt (H : Hp) (a C : Addr) (fs : List (Str × V)) : Prop := ∃ dx, H a = some (exo a C (some dx)) ∧ H dx = some (exd dx fs)
theorem XvAt.same {H H' : Hp} {a C : Addr} {fs : List (Str × V)} (h : XvAt H a C fs) (s : Same H H') : XvAt H' a C fs := let ⟨dx, e1, e2⟩ := h; ⟨dx, s _ _ e1, s _ _ e2⟩
theorem xv_inst {pins : List (Addr × Obj)} {σ : L2.St} {H : Hp} {s : Shared} {a : Addr} {fs : List (Str × V)} (I : Inv X pins σ H s) (h : XvAt H a C fs) : ∃ (oe od : Obj) (mA : Str → Option Value), PySem.W.InstAt s.heap a oe C (some od) ∧ (∀ f, PySem.W.lookIn f od = some (mA f)) ∧ ∀ f, RelO (fs.lookup f) (mA f) := by
  obtain ⟨dx, e1, e2⟩ := h
  obtain ⟨t1, ha⟩ := exo_at I.hok e1
  obtain ⟨mA, hns, hr⟩ := exd_at I.hok e2
  obtain ⟨od, ho, hl⟩ := lookIn_ns hns
  exact ⟨_, od, mA, ⟨ha, rfl, rfl, ho⟩, hl, hr⟩
/-- e.f of such a value -/
def tXv (C : Addr) (f : Str) (te : TE) : TE := fun σ H Q => te σ H fun x H1 => ∃ (a : Addr) (fs : List (Str × V)) (v : V), x = .ref a ∧ XvAt H1 a C fs ∧ fs.lookup f = some v ∧ Q v H1
theorem pe_xv {te : TE} {n : Str} (T : XfC X.K C) (hno : PySem.W.findIn X.K (.ref C) n = some none) (he : PE X e te) (hb : attributeBase e n X.env (eval e X.env) = eval e X.env := by rfl) : PE X (.Attribute e n pos) (tXv C n te) := by
  refine ⟨fun pins s σ H Q I h => ?_⟩
  refine attr_of hb (thn (he.run pins s σ H _ I h) fun u s1 hh => ?_)
  obtain ⟨x, H1, I1, rx, a, fs, v, ex, hv, l, q⟩ := hh
  subst ex
  obtain rfl : u = Value.ref a := rx
  obtain ⟨oe, od, mA, J, hl, hr⟩ := xv_inst I1 hv
  obtain ⟨u, hu, ru⟩ := RelO.some_of (v := v) (o := mA n) (by rw [← l]; exact hr n)
  exact HandSPX.exc_get I1.kIn J T.ga T.gg T.exC (PySem.W.findObj_own T.hdC hno rfl (by rw [hl, hu])) (handed_of ru) ⟨v, H1, I1.tok _, ru, q⟩
/-- isinstance(e, c) of such a value -/
def rIsX (K : PySem.W.Frag) : List V → Hp → VK → Prop := fun xs H Q => ∃ (a C : Addr) (fs : List (Str × V)) (c : V) (cv : Value) (b : Bool), xs = [.ref a, c] ∧ XvAt H a C fs ∧ ExcC K C ∧ ClsV c cv ∧ PySem.W.kitOne K (.ref C) cv = some b ∧ Q (.bl b) H
theorem call_isX : CallR X (.builtin "isinstance") (rIsX X.K) := by
  intro pins s σ H xs us Q I r h
  obtain ⟨a, D, fs, c, cv, b, rfl, hv, C, hcv, e, q⟩ := h
  cases r with
  | cons rx rr =>
    cases rr with
    | cons rt rr =>
      cases rr
      cases rx
      have ec := hcv.eq rt
      subst ec
      obtain ⟨oe, od, mA, J, _, _⟩ := xv_inst I hv
      exact PySem.W.kia_one (PySem.W.kitx_excD C.hg C.hk C.hs C.hd C.ha C.hn C.ht C.hm) I.kIn ⟨od, J⟩ e (fun z => nomatch z) fun tk => ⟨.bl b, H, I.kept (t' := tk) fun _ _ z => z, rfl, q⟩
end
end LR

namespace LR
open PySem PySem.Spec PyProof.Rows L2
/-- the hook over told addresses: those that the facts look at; more facts in `mo` -/
def Ls.obsA (as : List Addr) (L : Ls) (mo : PySem.W.Frag → Bool) (g : Addr → Option Obj) : AlL × Bool := (L.obs (He.frG g as), mo (He.frG g as))
def hookA (as : List Addr) (L : Ls) (mo : PySem.W.Frag → Bool) : PySem.W.Hook where
  α := AlL × Bool
  obs := fun s => L.obsA as mo s.heap.get?
  val := fun _ => (L.val, true)
  says := fun _ h => ∃ K : PySem.W.Frag, K.In h ∧ L.obs K = L.val ∧ mo K = true
  of := fun _ _ e => ⟨_, He.frG_in, (Prod.mk.inj e).1, (Prod.mk.inj e).2⟩
  keeps := fun _ _ _ ⟨K, hK, c⟩ k => ⟨K, PySem.W.Frag.In.keeps hK k, c⟩
theorem Ls.obsA_eq {as : List Addr} {L : Ls} {mo : PySem.W.Frag → Bool} {g : Addr → Option Obj} {s : Shared} (h : ∀ a, g a = s.heap.get? a) : L.obsA as mo g = (hookA as L mo).obs s := by
  rw [show g = s.heap.get? from funext h] <;> rfl
/-! the bases of a family of error classes -/
def mroOne (K : PySem.W.Frag) (root x : Str) : Bool := match PySem.W.clsIn K (He.ga K x) with
  | some cd => (cd.mro == (if x = root then [] else [Value.ref (He.ga K x)]) ++ [.ref (He.ga K root), .type "ValueError", .type "Exception", .type "BaseException", .type "object"]) && PySem.W.typeIn K (.ref (He.ga K x)) == some (.type "type")
  | none => false
def mroB (K : PySem.W.Frag) (root : Str) (xs : List Str) : Bool := xs.all (mroOne K root) && decide ((xs.map (He.ga K)).Nodup)
theorem inj_of {α β : Type} {f : α → β} : ∀ {xs : List α}, (xs.map f).Nodup → ∀ x ∈ xs, ∀ y ∈ xs, f x = f y → x = y
  | [], _, x, hx, _, _, _ => nomatch hx
  | a :: r, h, x, hx, y, hy, e => by
    rw [List.map_cons, List.nodup_cons] at h
    obtain ⟨h1, h2⟩ := h
    rcases List.mem_cons.mp hx with rfl | hx
    · rcases List.mem_cons.mp hy with rfl | hy
      · rfl
      · exact absurd (List.mem_map.mpr ⟨y, hy, e.symm⟩) h1
    · rcases List.mem_cons.mp hy with ey | hy
      · exact absurd (List.mem_map.mpr ⟨x, hx, e.trans (by rw [ey])⟩) h1
      · exact inj_of h2 x hx y hy e
theorem kit_ex {K : PySem.W.Frag} {root : Str} {xs : List Str} (h : mroB K root xs = true) {x y : Str} (hr : root ∈ xs) (hx : x ∈ xs) (hy : y ∈ xs) : PySem.W.kitOne K (.ref (He.ga K x)) (.ref (He.ga K y)) = some (decide (x = y) || decide (y = root)) := by
  obtain ⟨h1, h2⟩ := Bool.and_eq_true_iff.mp h
  have hn := of_decide_eq_true h2
  have m1 := List.all_eq_true.mp h1 x hx
  have m2 := List.all_eq_true.mp h1 y hy
  unfold PySem.W.kitOne
  by_cases e : x = y
  · subst e
    rw [if_pos (beq_iff_eq.mpr rfl), decide_eq_true rfl, Bool.true_or]
  · have ne : He.ga K x ≠ He.ga K y := fun z => e (inj_of hn x hx y hy z)
    rw [if_neg (fun z => ne (Value.ref.inj (beq_iff_eq.mp z)))]
    unfold mroOne at m1 m2
    cases c1 : PySem.W.clsIn K (He.ga K x) with
    | none =>
      rw [c1] at m1
      cases m1
    | some cd =>
      cases c2 : PySem.W.clsIn K (He.ga K y) with
      | none =>
        rw [c2] at m2
        cases m2
      | some cd2 =>
        rw [c1] at m1
        rw [c2] at m2
        dsimp only at m1 m2
        obtain ⟨m1, _⟩ := Bool.and_eq_true_iff.mp m1
        obtain ⟨_, m2⟩ := Bool.and_eq_true_iff.mp m2
        unfold PySem.W.kitCls
        dsimp only
        rw [if_pos (by rw [c2, m2]; rfl)]
        unfold PySem.W.subIn PySem.W.mroIn
        dsimp only
        rw [c1]
        show (if cd.mro.isEmpty then none else some (cd.mro.contains (.ref (He.ga K y)))) = _
        rw [beq_iff_eq.mp m1]
        have nx : (He.ga K y == He.ga K x) = false := beq_eq_false_iff_ne.mpr (Ne.symm ne)
        have d1 : decide (x = y) = false := decide_eq_false e
        rw [d1, Bool.false_or]
        have dr : decide (y = root) = (Value.ref (He.ga K y) == Value.ref (He.ga K root)) := by
          by_cases er : y = root
          · rw [er, decide_eq_true rfl]
            exact (beq_iff_eq.mpr rfl).symm
          · rw [decide_eq_false er]
            exact (beq_eq_false_iff_ne.mpr fun z => er (inj_of hn y hy root hr (Value.ref.inj z))).symm
        rw [dr]
        have n2 : (Value.ref (He.ga K y) == Value.ref (He.ga K x)) = false := beq_eq_false_iff_ne.mpr fun z => ne (Value.ref.inj z).symm
        have t : ∀ s : String, (Value.ref (He.ga K y) == Value.type s) = false := fun s => beq_eq_false_iff_ne.mpr fun z => nomatch z
        have ce : ∀ v : Value, ([] : List Value).contains v = false := fun _ => rfl
        by_cases ex : x = root
        · rw [if_pos ex, List.nil_append, if_neg (by simp)]
          simp only [List.contains_cons, t, Bool.or_false, ce]
        · rw [if_neg ex, if_neg (by simp)]
          simp only [List.cons_append, List.nil_append, List.contains_cons, n2, t, Bool.false_or, Bool.or_false, ce]
theorem kit_ve {K : PySem.W.Frag} {root : Str} {xs : List Str} (h : mroB K root xs = true) {x : Str} (hx : x ∈ xs) : PySem.W.kitOne K (.ref (He.ga K x)) (.type "ValueError") = some true := by
  obtain ⟨h1, h2⟩ := Bool.and_eq_true_iff.mp h
  have m1 := List.all_eq_true.mp h1 x hx
  unfold PySem.W.kitOne
  rw [if_neg (by intro z; cases beq_iff_eq.mp z)]
  unfold mroOne at m1
  cases c1 : PySem.W.clsIn K (He.ga K x) with
  | none =>
    rw [c1] at m1
    cases m1
  | some cd =>
    rw [c1] at m1
    dsimp only at m1
    obtain ⟨m1, _⟩ := Bool.and_eq_true_iff.mp m1
    unfold PySem.W.kitCls
    dsimp only
    rw [if_pos (by decide +kernel)]
    unfold PySem.W.subIn PySem.W.mroIn
    dsimp only
    rw [c1]
    show (if cd.mro.isEmpty then none else some (cd.mro.contains (.type "ValueError"))) = _
    rw [beq_iff_eq.mp m1]
    by_cases ex : x = root
    · rw [if_pos ex, List.nil_append, if_neg (by simp)]
      simp
    · rw [if_neg ex, if_neg (by simp)]
      simp
end LR

/-! the layer of data: values without the heap -/
namespace DL
open PySem PySem.Spec PyProof.Rows L2 LR
/-- data: what a value stands for -/
inductive D where
  | non | bl (b : Bool) | int (i : Int) | str (s : Str) | lst (l : List D) | tup (l : List D) | ins (c : Nat) (l : List D)
/-- the own classes by number, and their fields in the order of __init__ -/
def cname : Nat → Str
  | 0 => "Ratio" | 1 => "Vector" | 2 => "Matrix" | 3 => "Poly" | 4 => "Measure" | 5 => "Solution" | 6 => "Echelon" | 7 => "Task" | _ => ""
def shape : Nat → List Str
  | 0 => ["top", "bottom"] | 1 => ["tops", "bottom"] | 2 => ["tops", "bottom", "height", "width"] | 3 => ["tops", "bottom"] | 4 => ["matrix", "size", "triangle", "pivots"] | 5 => ["answer", "kernel", "bar"]
  | 6 => ["rows", "places", "scale", "turn"] | 7 => ["matrix", "side", "measure", "size"] | _ => []
/-- v stands for d, by what H knows -/
inductive Rep (K : PySem.W.Frag) (H : Hp) : V → D → Prop where
  | non : Rep K H .non .non
  | bl (b : Bool) : Rep K H (.bl b) (.bl b)
  | int (i : Int) : Rep K H (.int i) (.int i)
  | str (s : Str) : Rep K H (.str s) (.str s)
  | lst {a : Addr} {vs : List V} {l : List D} (h : SqL K H a vs) (n : vs.length = l.length) (r : ∀ (i : Nat) v d, vs[i]? = some v → l[i]? = some d → Rep K H v d) : Rep K H (.ref a) (.lst l)
  | tup {a : Addr} {vs : List V} {l : List D} (h : SqT K H a vs) (n : vs.length = l.length) (r : ∀ (i : Nat) v d, vs[i]? = some v → l[i]? = some d → Rep K H v d) : Rep K H (.ref a) (.tup l)
  | ins {a dx : Addr} {c : Nat} {vs : List V} {l : List D} (h : H a = some (.ins (He.ga K (cname c)) dx ((shape c).zip vs))) (m : (shape c).length = vs.length) (n : vs.length = l.length)
      (r : ∀ (i : Nat) v d, vs[i]? = some v → l[i]? = some d → Rep K H v d) : Rep K H (.ref a) (.ins c l)
def Reps (K : PySem.W.Frag) (H : Hp) (vs : List V) (l : List D) : Prop := vs.length = l.length ∧ ∀ (i : Nat) v d, vs[i]? = some v → l[i]? = some d → Rep K H v d
theorem sqT_same {K : PySem.W.Frag} {H H' : Hp} {a : Addr} {xs : List V} (e : Same H H') (h : SqT K H a xs) : SqT K H' a xs := by
  rcases h with (h | ⟨o, h⟩) | h
  · exact .inl (.inl (e _ _ h))
  · exact .inl (.inr ⟨o, e _ _ h⟩)
  · exact .inr h
section
variable {K : PySem.W.Frag} {H H' : Hp} {v : V} {d : D} {vs : List V} {l : List D}
theorem Rep.same (r : Rep K H v d) (s : Same H H') : Rep K H' v d := by
  induction r with
  | non => exact .non
  | bl b => exact .bl b
  | int i => exact .int i
  | str x => exact .str x
  | lst h n _ ih => exact .lst (s.seq h) n ih
  | tup h n _ ih => exact .tup (sqT_same s h) n ih
  | ins h m n _ ih => exact .ins (s _ _ h) m n ih
theorem Reps.same (r : Reps K H vs l) (s : Same H H') : Reps K H' vs l := ⟨r.1, fun i v d h1 h2 => (r.2 i v d h1 h2).same s⟩
theorem Reps.nil : Reps K H [] [] := ⟨rfl, fun i v d h => by simp at h⟩
theorem Reps.cons (r : Rep K H v d) (rs : Reps K H vs l) : Reps K H (v :: vs) (d :: l) := ⟨by simp [rs.1], fun i w e h1 h2 => by
  cases i with
  | zero =>
    simp at h1 h2
    subst h1 h2
    exact r
  | succ i =>
    simp at h1 h2
    exact rs.2 i w e h1 h2⟩
theorem Reps.app {ws : List V} {m : List D} (r : Reps K H vs l) (rs : Reps K H ws m) : Reps K H (vs ++ ws) (l ++ m) := by
  refine ⟨by simp [r.1, rs.1], fun i w e h1 h2 => ?_⟩
  by_cases hi : i < vs.length
  · rw [List.getElem?_append_left hi] at h1
    rw [List.getElem?_append_left (by rw [← r.1]; exact hi)] at h2
    exact r.2 i w e h1 h2
  · rw [List.getElem?_append_right (by omega)] at h1
    rw [List.getElem?_append_right (by rw [← r.1]; omega), ← r.1] at h2
    exact rs.2 _ w e h1 h2
theorem Reps.at (r : Reps K H vs l) {i : Nat} {d : D} (h : l[i]? = some d) : ∃ v, vs[i]? = some v ∧ Rep K H v d := by
  have hi : i < l.length := (List.getElem?_eq_some_iff.mp h).1
  have hv : vs[i]? = some (vs[i]'(by rw [r.1]; exact hi)) := List.getElem?_eq_getElem _
  exact ⟨_, hv, r.2 i _ d hv h⟩
theorem Reps.at' (r : Reps K H vs l) {i : Nat} {v : V} (h : vs[i]? = some v) : ∃ d, l[i]? = some d ∧ Rep K H v d := by
  have hi : i < vs.length := (List.getElem?_eq_some_iff.mp h).1
  have hv : l[i]? = some (l[i]'(by rw [← r.1]; exact hi)) := List.getElem?_eq_getElem _
  exact ⟨_, hv, r.2 i v _ h hv⟩
theorem Reps.one (r : Rep K H v d) : Reps K H [v] [d] := Reps.nil.cons r
theorem Reps.set {w : V} {e : D} (r : Reps K H vs l) (q : Rep K H w e) (j : Nat) : Reps K H (vs.set j w) (l.set j e) := by
  refine ⟨by simp [r.1], fun i x y h1 h2 => ?_⟩
  rw [List.getElem?_set] at h1 h2
  by_cases hij : j = i
  · subst hij
    simp only [if_true] at h1 h2
    by_cases hl : j < vs.length
    · rw [if_pos hl] at h1
      rw [if_pos (by rw [← r.1]; exact hl)] at h2
      cases h1
      cases h2
      exact q
    · rw [if_neg hl] at h1
      cases h1
  · rw [if_neg hij] at h1 h2
    exact r.2 i x y h1 h2
theorem Reps.cut (r : Reps K H vs l) (n m : Nat) : Reps K H ((vs.drop n).take m) ((l.drop n).take m) := by
  refine ⟨by simp [r.1], fun i x y h1 h2 => ?_⟩
  rw [List.getElem?_take] at h1 h2
  split at h1
  · rename_i hi
    rw [if_pos hi] at h2
    rw [List.getElem?_drop] at h1 h2
    exact r.2 _ x y h1 h2
  · cases h1
theorem Reps.ints {ns : List Int} (r : Reps K H vs (ns.map D.int)) : vs = ns.map V.int := by
  refine List.ext_getElem? fun i => ?_
  cases h : vs[i]? with
  | none =>
    have : vs.length ≤ i := List.getElem?_eq_none_iff.mp h
    rw [r.1, List.length_map] at this
    exact (List.getElem?_eq_none_iff.mpr (by rw [List.length_map]; exact this)).symm
  | some v =>
    obtain ⟨d, hd, q⟩ := r.at' h
    rw [List.getElem?_map] at hd
    cases e : ns[i]? with
    | none =>
      rw [e] at hd
      cases hd
    | some n =>
      rw [e] at hd
      cases hd
      cases q
      rw [List.getElem?_map, e]
      rfl
theorem Reps.of_ints (ns : List Int) : Reps K H (ns.map V.int) (ns.map D.int) := by
  refine ⟨by simp, fun i v d h1 h2 => ?_⟩
  rw [List.getElem?_map] at h1 h2
  cases e : ns[i]? with
  | none =>
    rw [e] at h1
    cases h1
  | some n =>
    rw [e] at h1 h2
    cases h1
    cases h2
    exact .int n
theorem Rep.lst_inv {v : V} {l : List D} (r : Rep K H v (.lst l)) : ∃ a vs, v = .ref a ∧ SqL K H a vs ∧ Reps K H vs l := by
  cases r with
  | lst h n q => exact ⟨_, _, rfl, h, n, q⟩
theorem Rep.tup_inv {v : V} {l : List D} (r : Rep K H v (.tup l)) : ∃ a vs, v = .ref a ∧ SqT K H a vs ∧ Reps K H vs l := by
  cases r with
  | tup h n q => exact ⟨_, _, rfl, h, n, q⟩
theorem Rep.ins_inv {v : V} {c : Nat} {l : List D} (r : Rep K H v (.ins c l)) : ∃ a dx vs, v = .ref a ∧ H a = some (.ins (He.ga K (cname c)) dx ((shape c).zip vs)) ∧ (shape c).length = vs.length ∧ Reps K H vs l := by
  cases r with
  | ins h m n q => exact ⟨_, _, _, rfl, h, m, n, q⟩
theorem Rep.int_inv {v : V} {i : Int} (r : Rep K H v (.int i)) : v = .int i := by cases r; rfl
theorem Rep.bl_inv {v : V} {b : Bool} (r : Rep K H v (.bl b)) : v = .bl b := by cases r; rfl
theorem Rep.str_inv {v : V} {s : Str} (r : Rep K H v (.str s)) : v = .str s := by cases r; rfl
theorem Rep.non_inv {v : V} (r : Rep K H v .non) : v = .non := by cases r; rfl
end
/-- what came: H' is H and new things; G' (of H') knows G (of H) and new things alone -/
structure Ext (G H G' H' : Hp) : Prop where
  hh : Same H H'
  gg : Same G G'
  sub : Same G' H'
  new : ∀ a, G' a ≠ none → G a = none → H a = none
theorem Ext.refl {G H : Hp} (s : Same G H) : Ext G H G H := ⟨.refl _, .refl _, s, fun _ h1 h2 => absurd h2 h1⟩
theorem Ext.trans {G H G1 H1 G2 H2 : Hp} (a : Ext G H G1 H1) (b : Ext G1 H1 G2 H2) : Ext G H G2 H2 := ⟨a.hh.trans b.hh, a.gg.trans b.gg, b.sub, fun x h1 h2 => by
  cases e : G1 x with
  | none => exact a.hh.free (b.new x h1 e)
  | some o => exact a.new x (by rw [e]; simp) h2⟩
/-- a new object, known -/
theorem Ext.nw {G H : Hp} {p : Addr} {o : HO} (s : Same G H) (n : H p = none) : Ext G H (upd G p o) (upd H p o) := by
  refine ⟨same_new n, same_new (s.free n), fun b u e => ?_, fun a h1 h2 => ?_⟩
  · by_cases hb : b = p
    · subst hb
      rw [upd_same] at e ⊢
      exact e
    · rw [upd_ne hb] at e ⊢
      exact s b u e
  · by_cases hb : a = p
    · subst hb
      exact n
    · rw [upd_ne hb] at h1
      exact absurd h2 h1
/-- a new object, not known -/
theorem Ext.hid {G H : Hp} {p : Addr} {o : HO} (s : Same G H) (n : H p = none) : Ext G H G (upd H p o) := ⟨same_new n, .refl _, same_new' s n, fun _ h1 h2 => absurd h2 h1⟩

def RepF (K : PySem.W.Frag) (G : Hp) (fv : List (Str × V)) (fs : List (Str × D)) : Prop := fv.map (·.1) = fs.map (·.1) ∧ Reps K G (fv.map (·.2)) (fs.map (·.2))
theorem RepF.same {K : PySem.W.Frag} {G G' : Hp} {fv : List (Str × V)} {fs : List (Str × D)} (r : RepF K G fv fs) (s : Same G G') : RepF K G' fv fs := ⟨r.1, r.2.same s⟩
/-- a slot: unknown, a value, a list of the def's own that nothing else knows, an object in the making, a caught error -/
inductive Sl where
  | no | val (d : D) | own (l : List D) | ob (p : Addr) (c : Nat) (fs : List (Str × D)) | exc (a dd : Addr) (x : Str) (fs : List (Str × D))
abbrev DE := List Sl
def SlOk (K : PySem.W.Frag) (H0 G H : Hp) (v : Option (Option V)) : Sl → Prop
  | .no => True
  | .val d => ∃ w, v = some (some w) ∧ Rep K G w d
  | .own l => ∃ p vs, v = some (some (.ref p)) ∧ H p = some (.lst vs) ∧ G p = none ∧ H0 p = none ∧ Reps K G vs l
  | .ob p c fs => ∃ dx fv, v = some (some (.ref p)) ∧ H p = some (.ins (He.ga K (cname c)) dx fv) ∧ G p = none ∧ H0 p = none ∧ RepF K G fv fs
  | .exc a dd x fs => ∃ fv, v = some (some (.ref a)) ∧ H dd = some (.xd fv) ∧ RepF K G fv fs
/-- a slot whose object may change -/
def mutS : Sl → Bool
  | .own _ => true | .ob _ _ _ => true | _ => false
/-- the state of a def's body: H0 and G0 at its entry -/
structure SR (K : PySem.W.Frag) (H0 G0 G H : Hp) (σ : L2.St) (env : DE) : Prop where
  same : Same H0 H
  sub : Same G H
  g0 : Same G0 G
  ext : ∀ a, G a ≠ none → G0 a = none → H0 a = none
  len : σ.length = env.length
  slot : ∀ (i : Nat) s, env[i]? = some s → SlOk K H0 G H (σ[i]?) s
  apart : ∀ (i j : Nat) s t p, i ≠ j → env[i]? = some s → env[j]? = some t → mutS s = true → mutS t = true → σ[i]? = some (some (.ref p)) → σ[j]? ≠ some (some (.ref p))
section
variable {K : PySem.W.Frag} {H0 G0 G H G' H' : Hp} {σ : L2.St} {env : DE}
theorem SlOk.ex {v : Option (Option V)} {s : Sl} (h : SlOk K H0 G H v s) (x : Ext G H G' H') : SlOk K H0 G' H' v s := by
  have nw : ∀ p o, H p = some o → G p = none → G' p = none := fun p o hp gp => by
    cases z : G' p with
    | none => rfl
    | some o' =>
      have := x.new p (by rw [z]; simp) gp
      rw [hp] at this
      cases this
  cases s with
  | no => trivial
  | val d =>
    obtain ⟨w, e, r⟩ := h
    exact ⟨w, e, r.same x.gg⟩
  | own l =>
    obtain ⟨p, vs, e, hp, gp, op, r⟩ := h
    exact ⟨p, vs, e, x.hh _ _ hp, nw p _ hp gp, op, r.same x.gg⟩
  | ob p c fs =>
    obtain ⟨dx, fv, e, hp, gp, op, r⟩ := h
    exact ⟨dx, fv, e, x.hh _ _ hp, nw p _ hp gp, op, r.same x.gg⟩
  | exc a dd x' fs =>
    obtain ⟨fv, e, hp, r⟩ := h
    exact ⟨fv, e, x.hh _ _ hp, r.same x.gg⟩
theorem SR.ex (S : SR K H0 G0 G H σ env) (x : Ext G H G' H') : SR K H0 G0 G' H' σ env := by
  refine ⟨S.same.trans x.hh, x.sub, S.g0.trans x.gg, fun a h1 h2 => ?_, S.len, fun i s h => (S.slot i s h).ex x, S.apart⟩
  cases e : G a with
  | none => exact S.same.free (x.new a h1 e)
  | some o => exact S.ext a (by rw [e]; simp) h2
theorem SR.val (S : SR K H0 G0 G H σ env) (i : Nat) (d : D) (h : env[i]? = some (.val d)) : ∃ v, σ[i]? = some (some v) ∧ Rep K G v d := S.slot i _ h
theorem SR.own (S : SR K H0 G0 G H σ env) (i : Nat) (l : List D) (h : env[i]? = some (.own l)) : ∃ p vs, σ[i]? = some (some (.ref p)) ∧ H p = some (.lst vs) ∧ G p = none ∧ H0 p = none ∧ Reps K G vs l := S.slot i _ h
theorem SR.all (S : SR K H0 G0 G H σ env) : Ext G0 H0 G H := ⟨S.same, S.g0, S.sub, S.ext⟩
theorem set_key {α : Type} {l : List α} {i j : Nat} {x s : α} (h : (l.set i x)[j]? = some s) : (j = i ∧ s = x ∧ i < l.length) ∨ (j ≠ i ∧ l[j]? = some s) := by
  rw [List.getElem?_set] at h
  by_cases hj : i = j
  · subst hj
    rw [if_pos rfl] at h
    split at h
    · rename_i hl
      cases h
      exact .inl ⟨rfl, rfl, hl⟩
    · cases h
  · rw [if_neg hj] at h
    exact .inr ⟨Ne.symm hj, h⟩
theorem set_at {α : Type} {l : List α} {i : Nat} {x : α} (h : i < l.length) : (l.set i x)[i]? = some x := by
  rw [List.getElem?_set, if_pos rfl, if_pos h]
theorem set_off {α : Type} {l : List α} {i j : Nat} {x : α} (h : j ≠ i) : (l.set i x)[j]? = l[j]? := by
  rw [List.getElem?_set, if_neg (Ne.symm h)]
/-- a slot is written; the new object, if it may change, is nowhere else -/
theorem SR.put (S : SR K H0 G0 G H σ env) (i : Nat) (v : Option V) (s : Sl) (h : SlOk K H0 G H (some v) s) (m : mutS s = true → ∀ (j : Nat) t p, env[j]? = some t → mutS t = true → j ≠ i → v = some (.ref p) → σ[j]? ≠ some (some (.ref p))) :
    SR K H0 G0 G H (σ.set i v) (env.set i s) := by
  refine ⟨S.same, S.sub, S.g0, S.ext, by simp [S.len], fun j t h' => ?_, fun j k t u p jk h1 h2 m1 m2 h3 => ?_⟩
  · rcases set_key h' with ⟨rfl, rfl, hl⟩ | ⟨hj, e1⟩
    · rw [set_at (by rw [S.len]; exact hl)]
      exact h
    · rw [set_off hj]
      exact S.slot j t e1
  · rcases set_key h1 with ⟨rfl, rfl, hl⟩ | ⟨hj, e1⟩
    · rw [set_at (by rw [S.len]; exact hl)] at h3
      rcases set_key h2 with ⟨rfl, rfl, _⟩ | ⟨hk, f1⟩
      · exact absurd rfl jk
      · rw [set_off hk]
        exact m m1 k u p f1 m2 hk (Option.some.inj h3)
    · rw [set_off hj] at h3
      rcases set_key h2 with ⟨rfl, rfl, hl⟩ | ⟨hk, f1⟩
      · rw [set_at (by rw [S.len]; exact hl)]
        intro z
        exact m m2 j t p e1 m1 hj (Option.some.inj z) h3
      · rw [set_off hk]
        exact S.apart j k t u p jk e1 f1 m1 m2 h3
theorem SR.set (S : SR K H0 G0 G H σ env) {i : Nat} {v : V} {d : D} (r : Rep K G v d) : SR K H0 G0 G H (σ.set i (some v)) (env.set i (.val d)) := S.put i (some v) (.val d) ⟨v, rfl, r⟩ (fun z => by cases z)
theorem SR.unset (S : SR K H0 G0 G H σ env) {i : Nat} {v : Option V} : SR K H0 G0 G H (σ.set i v) (env.set i .no) := S.put i v .no trivial (fun z => by cases z)
/-- the object that a slot may change, of no other address -/
theorem SlOk.mut_some {v : Option (Option V)} {s : Sl} (h : SlOk K H0 G H v s) (m : mutS s = true) : ∃ p o, v = some (some (.ref p)) ∧ H p = some o ∧ G p = none ∧ H0 p = none := by
  cases s with
  | own l => obtain ⟨p, vs, e, hp, gp, op, _⟩ := h; exact ⟨p, _, e, hp, gp, op⟩
  | ob p c fs => obtain ⟨dx, fv, e, hp, gp, op, _⟩ := h; exact ⟨p, _, e, hp, gp, op⟩
  | no => cases m
  | val d => cases m
  | exc a dd x fs => cases m
/-- a new list of the def's own -/
theorem SR.setOwn (S : SR K H0 G0 G H σ env) {i : Nat} {p : Addr} {vs : List V} {l : List D} (n : H p = none) (r : Reps K G vs l) : SR K H0 G0 G (upd H p (.lst vs)) (σ.set i (some (.ref p))) (env.set i (.own l)) := by
  have S1 : SR K H0 G0 G (upd H p (.lst vs)) σ env := S.ex (Ext.hid S.sub n)
  refine S1.put i _ _ ⟨p, vs, rfl, upd_same, S.sub.free n, S.same.free n, r⟩ fun _ j t q h1 h2 h3 h4 h5 => ?_
  cases h4
  obtain ⟨p', o, e, hp, _⟩ := (S.slot j t h1).mut_some h2
  rw [h5] at e
  cases e
  rw [n] at hp
  cases hp
/-- the object of a slot is changed -/
theorem SR.mut (S : SR K H0 G0 G H σ env) {i : Nat} {p : Addr} {o : HO} {s t : Sl} (he : env[i]? = some s) (ms : mutS s = true) (mt : mutS t = true) (hp : σ[i]? = some (some (.ref p))) (nx : ∀ fv, H p ≠ some (.xd fv))
    (h : SlOk K H0 G (upd H p o) (some (some (.ref p))) t) : SR K H0 G0 G (upd H p o) σ (env.set i t) := by
  obtain ⟨p', o', e3, hq, gp, op⟩ := (S.slot i s he).mut_some ms
  rw [hp] at e3
  cases e3
  refine ⟨same_mut S.same op, fun b u e => ?_, S.g0, S.ext, by simp [S.len], fun j u h' => ?_, fun j k u w q jk h1 h2 m1 m2 h3 => ?_⟩
  · rw [upd_ne (ne_of_none e gp)]
    exact S.sub b u e
  · rcases set_key h' with ⟨rfl, rfl, hl⟩ | ⟨hj, e1⟩
    · rw [hp]
      exact h
    · have w := S.slot j u e1
      cases u with
      | no => trivial
      | val d => exact w
      | own l =>
        obtain ⟨q, xs, e3, hq', gq, oq, rq'⟩ := w
        refine ⟨q, xs, e3, (upd_ne ?_).trans hq', gq, oq, rq'⟩
        intro z
        subst z
        exact S.apart j i _ _ q hj e1 he rfl ms e3 hp
      | ob q c fs =>
        obtain ⟨dx, xs, e3, hq', gq, oq, rq'⟩ := w
        refine ⟨dx, xs, e3, (upd_ne ?_).trans hq', gq, oq, rq'⟩
        intro z
        subst z
        exact S.apart j i _ _ q hj e1 he rfl ms e3 hp
      | exc a dd x fs =>
        obtain ⟨fv, e3, hd, r⟩ := w
        refine ⟨fv, e3, (upd_ne ?_).trans hd, r⟩
        intro z
        subst z
        exact nx _ hd
  · have w1 : ∃ u', env[j]? = some u' ∧ mutS u' = true := by
      rcases set_key h1 with ⟨rfl, rfl, _⟩ | ⟨hj, e1⟩
      · exact ⟨s, he, ms⟩
      · exact ⟨_, e1, m1⟩
    have w2 : ∃ u', env[k]? = some u' ∧ mutS u' = true := by
      rcases set_key h2 with ⟨rfl, rfl, _⟩ | ⟨hj, e1⟩
      · exact ⟨s, he, ms⟩
      · exact ⟨_, e1, m2⟩
    obtain ⟨l1, e1, f1⟩ := w1
    obtain ⟨l2, e2, f2⟩ := w2
    exact S.apart j k l1 l2 q jk e1 e2 f1 f2 h3
/-- a list of one's own is changed -/
theorem SR.mutL (S : SR K H0 G0 G H σ env) {i : Nat} {p : Addr} {ws : List V} {l m : List D} (he : env[i]? = some (.own l)) (hp : σ[i]? = some (some (.ref p))) (r : Reps K G ws m) : SR K H0 G0 G (upd H p (.lst ws)) σ (env.set i (.own m)) := by
  obtain ⟨p', vs, e3, hq, gp, op, rq⟩ := S.own i l he
  rw [hp] at e3
  cases e3
  exact S.mut he rfl rfl hp (fun fv z => by rw [hq] at z; cases z) ⟨p, ws, rfl, upd_same, gp, op, r⟩
/-- a list of one's own becomes a value -/
theorem SR.frz (S : SR K H0 G0 G H σ env) {i : Nat} {l : List D} (he : env[i]? = some (.own l)) : ∃ G', Same G G' ∧ SR K H0 G0 G' H σ (env.set i (.val (.lst l))) := by
  obtain ⟨p, vs, hp, hq, gp, op, rq⟩ := S.own i l he
  have gG : Same G (upd G p (.lst vs)) := same_new gp
  refine ⟨upd G p (.lst vs), gG, S.same, fun b u e => ?_, S.g0.trans gG, fun a h1 h2 => ?_, by simp [S.len], fun j u h' => ?_, fun j k u w q jk h1 h2 m1 m2 h3 => ?_⟩
  · by_cases hb : b = p
    · subst hb
      rw [upd_same] at e
      cases e
      exact hq
    · rw [upd_ne hb] at e
      exact S.sub b u e
  · by_cases hb : a = p
    · subst hb
      exact op
    · rw [upd_ne hb] at h1
      exact S.ext a h1 h2
  · rcases set_key h' with ⟨rfl, rfl, hl⟩ | ⟨hj, e1⟩
    · have r2 := rq.same gG
      exact ⟨_, hp, .lst (SqL.of upd_same) r2.1 r2.2⟩
    · have w := S.slot j u e1
      cases u with
      | no => trivial
      | val d =>
        obtain ⟨v, e2, r⟩ := w
        exact ⟨v, e2, r.same gG⟩
      | own m =>
        obtain ⟨q, xs, e3, hq', gq, oq, rq'⟩ := w
        refine ⟨q, xs, e3, hq', ?_, oq, rq'.same gG⟩
        rw [upd_ne]
        · exact gq
        · intro z
          subst z
          exact S.apart j i _ _ q hj e1 he rfl rfl e3 hp
      | ob q c fs =>
        obtain ⟨dx, xs, e3, hq', gq, oq, rq'⟩ := w
        refine ⟨dx, xs, e3, hq', ?_, oq, rq'.same gG⟩
        rw [upd_ne]
        · exact gq
        · intro z
          subst z
          exact S.apart j i _ _ q hj e1 he rfl rfl e3 hp
      | exc a dd x fs =>
        obtain ⟨fv, e3, hd, r⟩ := w
        exact ⟨fv, e3, hd, r.same gG⟩
  · rcases set_key h1 with ⟨rfl, rfl, _⟩ | ⟨hj, e1⟩
    · cases m1
    rcases set_key h2 with ⟨rfl, rfl, _⟩ | ⟨hk, f1⟩
    · cases m2
    exact S.apart j k u w q jk e1 f1 m1 m2 h3
end
end DL

namespace DL
open PySem PySem.Spec PyProof.Rows L2 LR
/-- an own error on its way: its class, its fields -/
abbrev EX := Str → List (Str × D) → Prop
abbrev DT := DE → (D → Prop) → EX → Prop
abbrev DTT := DE → (Bool → Prop) → EX → Prop
abbrev DTA := DE → (List D → Prop) → EX → Prop
def LkE (K : PySem.W.Frag) (H0 G0 G : Hp) (W : WX) (σ : L2.St) (env : DE) (ex : EX) : Prop :=
  ∀ (H' G' : Hp) (d : Addr) (x : Str) (fv : List (Str × V)) (fs : List (Str × D)), Same G G' → SR K H0 G0 G' H' σ env → H' d = some (.xd fv) → RepF K G' fv fs → ex x fs → W (.ref (He.ga K x)) (some d) σ H'
theorem LkE.mono {K : PySem.W.Frag} {H0 G0 G G1 : Hp} {W : WX} {σ : L2.St} {env : DE} {ex : EX} (h : LkE K H0 G0 G W σ env ex) (s : Same G G1) : LkE K H0 G0 G1 W σ env ex := fun H' G' d x fv fs s' => h H' G' d x fv fs (s.trans s')
theorem LkE.no {K : PySem.W.Frag} {H0 G0 G : Hp} {W : WX} {σ : L2.St} {env : DE} : LkE K H0 G0 G W σ env (fun _ _ => False) := fun _ _ _ _ _ _ _ _ _ _ h => h.elim
/-- what comes of an expression -/
def Got (K : PySem.W.Frag) (G H : Hp) (Q : D → Prop) (R : VK) : Prop := ∀ v H' G' d, Ext G H G' H' → Rep K G' v d → Q d → R v H'
def LE (X : Cx) (W : WX) (te : TE) (t : DT) : Prop := ∀ (H0 G0 G H : Hp) (σ : L2.St) (env : DE) (Q : D → Prop) (ex : EX) (R : VK), SR X.K H0 G0 G H σ env → LkE X.K H0 G0 G W σ env ex → t env Q ex → Got X.K G H Q R → te σ H R
def LT (X : Cx) (W : WX) (tt : TT) (t : DTT) : Prop := ∀ (H0 G0 G H : Hp) (σ : L2.St) (env : DE) (Q : Bool → Prop) (ex : EX) (R : Bool → Hp → Prop), SR X.K H0 G0 G H σ env → LkE X.K H0 G0 G W σ env ex → t env Q ex →
  (∀ b H' G', Ext G H G' H' → Q b → R b H') → tt σ H R
def LA (X : Cx) (W : WX) (ta : TA) (t : DTA) : Prop := ∀ (H0 G0 G H : Hp) (σ : L2.St) (env : DE) (Q : List D → Prop) (ex : EX) (R : List V → Hp → Prop), SR X.K H0 G0 G H σ env → LkE X.K H0 G0 G W σ env ex → t env Q ex →
  (∀ vs H' G' ds, Ext G H G' H' → Reps X.K G' vs ds → Q ds → R vs H') → ta σ H R
structure PD (X : Cx) (W : WX) (e : Expr) (t : DT) : Prop where
  of : ∃ te, PE X e te ∧ LE X W te t
structure PDT (X : Cx) (W : WX) (e : Expr) (t : DTT) : Prop where
  of : ∃ tt, PT X e tt ∧ LT X W tt t
structure PDW (X : Cx) (W : WX) (e : Expr) (t : DTT) : Prop where
  of : ∃ tt, PW X e tt ∧ LT X W tt t
structure PDA (X : Cx) (W : WX) (es : List Expr) (t : DTA) : Prop where
  of : ∃ ta, PA X es ta ∧ LA X W ta t
/-- a new list -/
def GotN (K : PySem.W.Frag) (G H : Hp) (Q : List D → Prop) (R : VK) : Prop := ∀ p vs H' H1 G' l, Ext G H G' H1 → H1 p = none → H' = upd H1 p (.lst vs) → Reps K G' vs l → Q l → R (.ref p) H'
abbrev DTN := DE → (List D → Prop) → EX → Prop
def LN (X : Cx) (W : WX) (te : TE) (t : DTN) : Prop := ∀ (H0 G0 G H : Hp) (σ : L2.St) (env : DE) (Q : List D → Prop) (ex : EX) (R : VK), SR X.K H0 G0 G H σ env → LkE X.K H0 G0 G W σ env ex → t env Q ex → GotN X.K G H Q R → te σ H R
structure PDN (X : Cx) (W : WX) (e : Expr) (t : DTN) : Prop where
  of : ∃ te, PE X e te ∧ LN X W te t
def dNew (t : DTN) : DT := fun env Q ex => t env (fun l => Q (.lst l)) ex
theorem LN.le {X : Cx} {W : WX} {te : TE} {t : DTN} (h : LN X W te t) : LE X W te (dNew t) := fun H0 G0 G H σ env Q ex R S L q g =>
  h H0 G0 G H σ env _ ex R S L q fun p vs H' H1 G' l x n e r ql => by
    subst e
    have x2 : Ext G' H1 (upd G' p (.lst vs)) (upd H1 p (.lst vs)) := Ext.nw x.sub n
    have r2 := r.same x2.gg
    exact g _ _ _ _ (x.trans x2) (.lst (SqL.of upd_same) r2.1 r2.2) ql
theorem pd_new {X : Cx} {W : WX} {e : Expr} {t : DTN} (h : PDN X W e t) : PD X W e (dNew t) := let ⟨te, h1, h2⟩ := h.of; ⟨te, h1, h2.le⟩
section
variable {X : Cx} {W : WX} {a b c e : Expr} {es : List Expr} {ta tb tc : DT} {t : DTA} {pos : Pos}
/-! names, constants -/
def dVar (i : Nat) : DT := fun env Q _ => ∃ d, env[i]? = some (.val d) ∧ Q d
theorem pd_var {i : Nat} (h : PE X e (tVar i)) : PD X W e (dVar i) := ⟨_, h, fun H0 G0 G H σ env Q ex R S L ⟨d, hd, q⟩ g => by
  obtain ⟨v, e1, r⟩ := S.val i d hd
  exact ⟨v, e1, g v H G d (.refl S.sub) r q⟩⟩
def dC (d : D) : DT := fun _ Q _ => Q d
theorem pd_int {i : Int} (h : PE X e (tC (.int i))) : PD X W e (dC (.int i)) := ⟨_, h, fun H0 G0 G H σ env Q ex R S L q g => g _ _ _ _ (.refl S.sub) (.int i) q⟩
theorem pd_bl {i : Bool} (h : PE X e (tC (.bl i))) : PD X W e (dC (.bl i)) := ⟨_, h, fun H0 G0 G H σ env Q ex R S L q g => g _ _ _ _ (.refl S.sub) (.bl i) q⟩
theorem pd_str {i : Str} (h : PE X e (tC (.str i))) : PD X W e (dC (.str i)) := ⟨_, h, fun H0 G0 G H σ env Q ex R S L q g => g _ _ _ _ (.refl S.sub) (.str i) q⟩
theorem pd_non (h : PE X e (tC .non)) : PD X W e (dC .non) := ⟨_, h, fun H0 G0 G H σ env Q ex R S L q g => g _ _ _ _ (.refl S.sub) .non q⟩
/-! operators by values -/
abbrev R2D := D → D → (D → Prop) → Prop
def L2R (K : PySem.W.Frag) (r : R2) (rD : R2D) : Prop := ∀ (G H : Hp) (x y : V) (a b : D) (Q : D → Prop) (R : VK), Same G H → Rep K G x a → Rep K G y b → rD a b Q → Got K G H Q R → r x y H R
def L1R (K : PySem.W.Frag) (r : V → Hp → VK → Prop) (rD : D → (D → Prop) → Prop) : Prop := ∀ (G H : Hp) (x : V) (a : D) (Q : D → Prop) (R : VK), Same G H → Rep K G x a → rD a Q → Got K G H Q R → r x H R
def LcR (K : PySem.W.Frag) (r : List V → Hp → VK → Prop) (rD : List D → (D → Prop) → Prop) : Prop := ∀ (G H : Hp) (vs : List V) (ds : List D) (Q : D → Prop) (R : VK), Same G H → Reps K G vs ds → rD ds Q → Got K G H Q R → r vs H R
def LcN (K : PySem.W.Frag) (r : List V → Hp → VK → Prop) (rD : List D → (List D → Prop) → Prop) : Prop := ∀ (G H : Hp) (vs : List V) (ds : List D) (Q : List D → Prop) (R : VK), Same G H → Reps K G vs ds → rD ds Q → GotN K G H Q R → r vs H R
def LmR (K : PySem.W.Frag) (r : V → List V → Hp → VK → Prop) (rD : D → List D → (D → Prop) → Prop) : Prop := ∀ (G H : Hp) (x : V) (vs : List V) (a : D) (ds : List D) (Q : D → Prop) (R : VK), Same G H → Rep K G x a → Reps K G vs ds → rD a ds Q → Got K G H Q R → r x vs H R
def dOp (r : R2D) (ta tb : DT) : DT := fun env Q ex => ta env (fun x => tb env (fun y => r x y Q) ex) ex
theorem le_op {r : R2} {rD : R2D} (hl : L2R X.K r rD) {sa sb : TE} (la : LE X W sa ta) (lb : LE X W sb tb) : LE X W (tOp r sa sb) (dOp rD ta tb) := fun H0 G0 G H σ env Q ex R S L q g =>
  la H0 G0 G H σ env _ ex _ S L q fun v H1 G1 d x1 r1 q1 => lb H0 G0 G1 H1 σ env _ ex _ (S.ex x1) (L.mono x1.gg) q1 fun u H2 G2 d2 x2 r2 q2 =>
    hl G2 H2 v u d d2 Q R x2.sub (r1.same x2.gg) r2 q2 fun w H3 G3 d3 x3 r3 q3 => g w H3 G3 d3 ((x1.trans x2).trans x3) r3 q3
theorem pd_op {op : Operator} {r : R2} {rD : R2D} (ho : OpR X (binaryOp op) r) (hl : L2R X.K r rD) (ha : PD X W a ta) (hb : PD X W b tb) : PD X W (.BinOp a op b pos) (dOp rD ta tb) :=
  let ⟨_, pa, la⟩ := ha.of; let ⟨_, pb, lb⟩ := hb.of; ⟨_, pe_op ho pa pb, le_op hl la lb⟩
theorem pd_ix {r : R2} {rD : R2D} (ho : IxR X r) (hl : L2R X.K r rD) (ha : PD X W a ta) (hb : PD X W b tb) (hp : PlainIx b) : PD X W (.Subscript a b pos) (dOp rD ta tb) :=
  let ⟨_, pa, la⟩ := ha.of; let ⟨_, pb, lb⟩ := hb.of; ⟨_, pe_ix ho pa pb hp, le_op hl la lb⟩
theorem pd_cmp {op : CmpOp} {r : R2} {rD : R2D} (ho : OpR X (compareOp op) r) (hl : L2R X.K r rD) (ha : PD X W a ta) (hb : PD X W b tb) (hm : behindInMarks op b = false) : PD X W (.Compare a [op] [b] pos) (dOp rD ta tb) :=
  let ⟨_, pa, la⟩ := ha.of; let ⟨_, pb, lb⟩ := hb.of; ⟨_, pe_cmpR ho pa pb hm, le_op hl la lb⟩
def dUn (r : D → (D → Prop) → Prop) (ta : DT) : DT := fun env Q ex => ta env (fun x => r x Q) ex
theorem le_un {r : V → Hp → VK → Prop} {rD : D → (D → Prop) → Prop} (hl : L1R X.K r rD) {sa : TE} (la : LE X W sa ta) : LE X W (tUn r sa) (dUn rD ta) := fun H0 G0 G H σ env Q ex R S L q g =>
  la H0 G0 G H σ env _ ex _ S L q fun v H1 G1 d x1 r1 q1 => hl G1 H1 v d Q R x1.sub r1 q1 fun w H3 G3 d3 x3 r3 q3 => g w H3 G3 d3 (x1.trans x3) r3 q3
theorem pd_un {op : UnaryOp} {r : V → Hp → VK → Prop} {rD : D → (D → Prop) → Prop} (ho : UnR X (unaryOp op) r) (hl : L1R X.K r rD) (ha : PD X W a ta) : PD X W (.UnaryOp op a pos) (dUn rD ta) :=
  let ⟨_, pa, la⟩ := ha.of; ⟨_, pe_un ho pa, le_un hl la⟩
/-! tests -/
def dTest (t : DT) : DTT := fun env Q ex => t env (fun d => ∃ k, d = .bl k ∧ Q k) ex
theorem lt_test {sa : TE} (la : LE X W sa ta) : LT X W (tTest sa) (dTest ta) := fun H0 G0 G H σ env Q ex R S L q g =>
  la H0 G0 G H σ env _ ex _ S L q fun v H1 G1 d x1 r1 ⟨k, e1, q1⟩ => ⟨k, by subst e1; exact r1.bl_inv, g k H1 G1 x1 q1⟩
theorem pdt_cmp {op : CmpOp} {r : R2} {rD : R2D} (ho : OpR X (compareOp op) r) (hl : L2R X.K r rD) (ha : PD X W a ta) (hb : PD X W b tb) (hm : behindInMarks op b = false) : PDT X W (.Compare a [op] [b] pos) (dTest (dOp rD ta tb)) :=
  let ⟨_, pa, la⟩ := ha.of; let ⟨_, pb, lb⟩ := hb.of; ⟨_, pt_cmpR ho pa pb hm, lt_test (le_op hl la lb)⟩
theorem pdt_val (ha : PD X W e ta) (h : ∀ (whole : Sem Value), PySem.isTrue e X.env whole = (do let v ← whole; standAt e.pos; holding [v] (truthy v)) := by intro _; rfl) : PDT X W e (dTest ta) :=
  let ⟨_, pa, la⟩ := ha.of; ⟨_, pt_val pa h, lt_test la⟩
/-- truth of a thing -/
def truD : D → Bool
  | .non => false | .bl b => b | .int i => i != 0 | .str s => s.length != 0 | .lst l => !l.isEmpty | .tup l => !l.isEmpty | .ins _ _ => true
def dTru (t : DT) : DTT := fun env Q ex => t env (fun d => (match d with | .lst _ => True | .tup _ => True | .int _ => True | .non => True | _ => False) ∧ Q (truD d)) ex
theorem emp_len {α β : Type} {l : List α} {m : List β} (h : l.length = m.length) : l.isEmpty = m.isEmpty := by
  cases l <;> cases m <;> first | rfl | (simp at h)
theorem pdt_truth (ha : PD X W e ta) (h : ∀ (whole : Sem Value), PySem.isTrue e X.env whole = (do let v ← whole; standAt e.pos; holding [v] (truthy v)) := by intro _; rfl) : PDT X W e (dTru ta) := by
  obtain ⟨sa, pa, la⟩ := ha.of
  refine ⟨_, pt_truth pa h, fun H0 G0 G H σ env Q ex R S L q g => la H0 G0 G H σ env _ ex _ S L q fun v H1 G1 d x1 r1 ⟨q0, q1⟩ => ⟨truD d, ?_, g _ H1 G1 x1 q1⟩⟩
  cases d with
  | non => rw [r1.non_inv]; rfl
  | int i => rw [r1.int_inv]; rfl
  | lst l =>
    obtain ⟨p, vs, rfl, h1, h2⟩ := (r1.same x1.sub).lst_inv
    exact .inl ⟨vs, h1, by unfold truD; rw [emp_len h2.1]⟩
  | tup l =>
    obtain ⟨p, vs, rfl, h1, h2⟩ := (r1.same x1.sub).tup_inv
    exact .inr (.inl ⟨vs, h1, by unfold truD; rw [emp_len h2.1]⟩)
  | bl b => exact q0.elim
  | str s => exact q0.elim
  | ins c l => exact q0.elim
def dNot (t : DTT) : DTT := fun env Q ex => t env (fun k => Q (!k)) ex
theorem pdt_not {t : DTT} (ha : PDT X W a t) : PDT X W (.UnaryOp .Not a pos) (dNot t) :=
  let ⟨_, pa, la⟩ := ha.of; ⟨_, pt_not pa, fun H0 G0 G H σ env Q ex R S L q g => la H0 G0 G H σ env _ ex _ S L q fun k H1 G1 x1 q1 => g _ H1 G1 x1 q1⟩
def dAnd (t u : DTT) : DTT := fun env Q ex => t env (fun k => if k = true then u env Q ex else Q false) ex
def dOr (t u : DTT) : DTT := fun env Q ex => t env (fun k => if k = true then Q true else u env Q ex) ex
theorem lt_and {sa sb : TT} {t u : DTT} (la : LT X W sa t) (lb : LT X W sb u) : LT X W (tAnd sa sb) (dAnd t u) := fun H0 G0 G H σ env Q ex R S L q g =>
  la H0 G0 G H σ env _ ex _ S L q fun k H1 G1 x1 q1 => by
    cases k with
    | true =>
      simp only [if_true] at q1 ⊢
      exact lb H0 G0 G1 H1 σ env _ ex _ (S.ex x1) (L.mono x1.gg) q1 fun j H2 G2 x2 q2 => g _ H2 G2 (x1.trans x2) q2
    | false => exact g _ H1 G1 x1 q1
theorem lt_or {sa sb : TT} {t u : DTT} (la : LT X W sa t) (lb : LT X W sb u) : LT X W (tOr sa sb) (dOr t u) := fun H0 G0 G H σ env Q ex R S L q g =>
  la H0 G0 G H σ env _ ex _ S L q fun k H1 G1 x1 q1 => by
    cases k with
    | true => exact g _ H1 G1 x1 q1
    | false => exact lb H0 G0 G1 H1 σ env _ ex _ (S.ex x1) (L.mono x1.gg) q1 fun j H2 G2 x2 q2 => g _ H2 G2 (x1.trans x2) q2
theorem pdw_and {rest : List Expr} {t u : DTT} (ha : PDT X W a t) (hb : PDW X W (.BoolOp .And (b :: rest) pos) u) : PDW X W (.BoolOp .And (a :: b :: rest) pos) (dAnd t u) :=
  let ⟨_, pa, la⟩ := ha.of; let ⟨_, pb, lb⟩ := hb.of; ⟨_, pw_and pa pb, lt_and la lb⟩
theorem pdw_or {rest : List Expr} {t u : DTT} (ha : PDT X W a t) (hb : PDW X W (.BoolOp .Or (b :: rest) pos) u) : PDW X W (.BoolOp .Or (a :: b :: rest) pos) (dOr t u) :=
  let ⟨_, pa, la⟩ := ha.of; let ⟨_, pb, lb⟩ := hb.of; ⟨_, pw_or pa pb, lt_or la lb⟩
theorem pdw_and1 {t : DTT} (ha : PDT X W a t) : PDW X W (.BoolOp .And [a] pos) t := let ⟨_, pa, la⟩ := ha.of; ⟨_, pw_and1 pa, la⟩
theorem pdw_or1 {t : DTT} (ha : PDT X W a t) : PDW X W (.BoolOp .Or [a] pos) t := let ⟨_, pa, la⟩ := ha.of; ⟨_, pw_or1 pa, la⟩
theorem PDW.pt {t : DTT} (ha : PDW X W e t) : PDT X W e t := let ⟨_, pa, la⟩ := ha.of; ⟨_, pa.pt, la⟩
/-- as values -/
def dAndV (ta tb : DT) : DT := fun env Q ex => ta env (fun x => ∃ k, x = .bl k ∧ if k = true then tb env Q ex else Q (.bl false)) ex
def dOrV (ta tb : DT) : DT := fun env Q ex => ta env (fun x => ∃ k, x = .bl k ∧ if k = true then Q (.bl true) else tb env Q ex) ex
def dNotV (ta : DT) : DT := fun env Q ex => ta env (fun x => ∃ k, x = .bl k ∧ Q (.bl (!k))) ex
theorem pd_and {rest : List Expr} (ha : PD X W a ta) (hb : PD X W (.BoolOp .And (b :: rest) pos) tb) : PD X W (.BoolOp .And (a :: b :: rest) pos) (dAndV ta tb) := by
  obtain ⟨_, pa, la⟩ := ha.of
  obtain ⟨_, pb, lb⟩ := hb.of
  refine ⟨_, pe_and pa pb, fun H0 G0 G H σ env Q ex R S L q g => la H0 G0 G H σ env _ ex _ S L q fun v H1 G1 d x1 r1 ⟨k, e1, q1⟩ => ?_⟩
  subst e1
  refine ⟨k, r1.bl_inv, ?_⟩
  cases k with
  | true => exact lb H0 G0 G1 H1 σ env _ ex _ (S.ex x1) (L.mono x1.gg) q1 fun v H2 G2 d x2 r2 q2 => g _ H2 G2 d (x1.trans x2) r2 q2
  | false => exact g _ H1 G1 _ x1 (.bl false) q1
theorem pd_or {rest : List Expr} (ha : PD X W a ta) (hb : PD X W (.BoolOp .Or (b :: rest) pos) tb) : PD X W (.BoolOp .Or (a :: b :: rest) pos) (dOrV ta tb) := by
  obtain ⟨_, pa, la⟩ := ha.of
  obtain ⟨_, pb, lb⟩ := hb.of
  refine ⟨_, pe_or pa pb, fun H0 G0 G H σ env Q ex R S L q g => la H0 G0 G H σ env _ ex _ S L q fun v H1 G1 d x1 r1 ⟨k, e1, q1⟩ => ?_⟩
  subst e1
  refine ⟨k, r1.bl_inv, ?_⟩
  cases k with
  | false => exact lb H0 G0 G1 H1 σ env _ ex _ (S.ex x1) (L.mono x1.gg) q1 fun v H2 G2 d x2 r2 q2 => g _ H2 G2 d (x1.trans x2) r2 q2
  | true => exact g _ H1 G1 _ x1 (.bl true) q1
theorem pd_one {op : BoolOp} (ha : PD X W a ta) : PD X W (.BoolOp op [a] pos) ta := let ⟨_, pa, la⟩ := ha.of; ⟨_, pe_one pa, la⟩
theorem pd_not (ha : PD X W a ta) : PD X W (.UnaryOp .Not a pos) (dNotV ta) := by
  obtain ⟨_, pa, la⟩ := ha.of
  refine ⟨_, pe_not pa, fun H0 G0 G H σ env Q ex R S L q g => la H0 G0 G H σ env _ ex _ S L q fun v H1 G1 d x1 r1 ⟨k, e1, q1⟩ => ?_⟩
  subst e1
  exact ⟨k, r1.bl_inv, g _ H1 G1 _ x1 (.bl _) q1⟩
def dIfE (t : DTT) (ta tb : DT) : DT := fun env Q ex => t env (fun k => if k = true then ta env Q ex else tb env Q ex) ex
theorem pd_ife {t : DTT} (hc : PDT X W c t) (ha : PD X W a ta) (hb : PD X W b tb) : PD X W (.IfExp c a b pos) (dIfE t ta tb) := by
  obtain ⟨_, pc, lc⟩ := hc.of
  obtain ⟨_, pa, la⟩ := ha.of
  obtain ⟨_, pb, lb⟩ := hb.of
  refine ⟨_, pe_ifExp pc pa pb, fun H0 G0 G H σ env Q ex R S L q g => lc H0 G0 G H σ env _ ex _ S L q fun k H1 G1 x1 q1 => ?_⟩
  cases k with
  | true => exact la H0 G0 G1 H1 σ env _ ex _ (S.ex x1) (L.mono x1.gg) q1 fun v H2 G2 d x2 r2 q2 => g _ H2 G2 d (x1.trans x2) r2 q2
  | false => exact lb H0 G0 G1 H1 σ env _ ex _ (S.ex x1) (L.mono x1.gg) q1 fun v H2 G2 d x2 r2 q2 => g _ H2 G2 d (x1.trans x2) r2 q2
/-! argument lists, displays -/
def dNil : DTA := fun _ Q _ => Q []
def dCons (ta : DT) (t : DTA) : DTA := fun env Q ex => ta env (fun x => t env (fun xs => Q (x :: xs)) ex) ex
theorem pda_nil : PDA X W [] dNil := ⟨_, pa_nil, fun H0 G0 G H σ env Q ex R S L q g => g [] H G [] (.refl S.sub) .nil q⟩
theorem pda_cons (ha : PD X W e ta) (hr : PDA X W es t) (hs : starEach (e :: es) X.env = (false, eval e X.env) :: starEach es X.env := by rfl) : PDA X W (e :: es) (dCons ta t) := by
  obtain ⟨_, pa, la⟩ := ha.of
  obtain ⟨_, pr, lr⟩ := hr.of
  refine ⟨_, pa_cons pa pr hs, fun H0 G0 G H σ env Q ex R S L q g => la H0 G0 G H σ env _ ex _ S L q fun v H1 G1 d x1 r1 q1 => ?_⟩
  exact lr H0 G0 G1 H1 σ env _ ex _ (S.ex x1) (L.mono x1.gg) q1 fun vs H2 G2 ds x2 r2 q2 => g _ H2 G2 (d :: ds) (x1.trans x2) (r2.cons (r1.same x2.gg)) q2
def dTup (t : DTA) : DT := fun env Q ex => t env (fun xs => xs.length ≤ sizeLine ∧ Q (.tup xs)) ex
theorem pd_tup {x1} (h : PDA X W es t) : PD X W (.Tuple es x1 pos) (dTup t) := by
  obtain ⟨_, pa, la⟩ := h.of
  refine ⟨_, pe_tup pa, fun H0 G0 G H σ env Q ex R S L q g => la H0 G0 G H σ env _ ex _ S L q fun vs H1 G1 ds x1 r1 ⟨z, q1⟩ => ⟨by rw [r1.1]; exact z, fun p n => ?_⟩⟩
  have x2 : Ext G1 H1 (upd G1 p (.tup vs)) (upd H1 p (.tup vs)) := Ext.nw x1.sub n
  have r2 := r1.same x2.gg
  exact g _ _ _ _ (x1.trans x2) (.tup (SqT.of upd_same) r2.1 r2.2) q1
def dLst (t : DTA) : DTN := fun env Q ex => t env (fun xs => xs.length ≤ sizeLine ∧ Q xs) ex
theorem pdn_lst (h : PDA X W es t) : PDN X W (.List es pos) (dLst t) := by
  obtain ⟨_, pa, la⟩ := h.of
  refine ⟨_, pe_lst pa, fun H0 G0 G H σ env Q ex R S L q g => la H0 G0 G H σ env _ ex _ S L q fun vs H1 G1 ds x1 r1 ⟨z, q1⟩ => ⟨by rw [r1.1]; exact z, fun p n => ?_⟩⟩
  exact g p vs _ H1 G1 ds x1 n rfl r1 q1
/-! calls of built-ins -/
def dCB (rD : List D → (D → Prop) → Prop) (t : DTA) : DT := fun env Q ex => t env (fun ds => rD ds Q) ex
theorem pd_cb {r : List V → Hp → VK → Prop} {rD : List D → (D → Prop) → Prop} (mk : ∀ {ta : TA}, PA X es ta → PE X c (tCB r ta)) (hl : LcR X.K r rD) (ha : PDA X W es t) : PD X W c (dCB rD t) := by
  obtain ⟨_, pa, la⟩ := ha.of
  refine ⟨_, mk pa, fun H0 G0 G H σ env Q ex R S L q g => la H0 G0 G H σ env _ ex _ S L q fun vs H1 G1 ds x1 r1 q1 => ?_⟩
  exact hl G1 H1 vs ds Q R x1.sub r1 q1 fun w H3 G3 d3 x3 r3 q3 => g w H3 G3 d3 (x1.trans x3) r3 q3
def dCN (rD : List D → (List D → Prop) → Prop) (t : DTA) : DTN := fun env Q ex => t env (fun ds => rD ds Q) ex
theorem pdn_cb {r : List V → Hp → VK → Prop} {rD : List D → (List D → Prop) → Prop} (mk : ∀ {ta : TA}, PA X es ta → PE X c (tCB r ta)) (hl : LcN X.K r rD) (ha : PDA X W es t) : PDN X W c (dCN rD t) := by
  obtain ⟨_, pa, la⟩ := ha.of
  refine ⟨_, mk pa, fun H0 G0 G H σ env Q ex R S L q g => la H0 G0 G H σ env _ ex _ S L q fun vs H1 G1 ds x1 r1 q1 => ?_⟩
  exact hl G1 H1 vs ds Q R x1.sub r1 q1 fun p vs' H3 H2 G3 l x3 n e r3 q3 => g p vs' H3 H2 G3 l (x1.trans x3) n e r3 q3
def dM0 (rD : D → List D → (D → Prop) → Prop) (to : DT) : DT := fun env Q ex => to env (fun x => (∃ s, x = .str s) ∧ rD x [] Q) ex
def dM1 (rD : D → List D → (D → Prop) → Prop) (to te : DT) : DT := fun env Q ex => to env (fun x => (∃ s, x = .str s) ∧ te env (fun y => rD x [y] Q) ex) ex
theorem pd_m0 {r : V → List V → Hp → VK → Prop} {rD : D → List D → (D → Prop) → Prop} (mk : ∀ {to : TE}, PE X a to → PE X c (tM0 r to)) (hl : LmR X.K r rD) (ha : PD X W a ta) : PD X W c (dM0 rD ta) := by
  obtain ⟨_, pa, la⟩ := ha.of
  refine ⟨_, mk pa, fun H0 G0 G H σ env Q ex R S L q g => la H0 G0 G H σ env _ ex _ S L q fun v H1 G1 d x1 r1 q1 => ?_⟩
  obtain ⟨⟨s, rfl⟩, q2⟩ := q1
  exact ⟨⟨s, r1.str_inv⟩, hl G1 H1 v [] _ [] Q R x1.sub r1 .nil q2 fun w H3 G3 d3 x3 r3 q3 => g w H3 G3 d3 (x1.trans x3) r3 q3⟩
theorem pd_m1 {r : V → List V → Hp → VK → Prop} {rD : D → List D → (D → Prop) → Prop} (mk : ∀ {to te : TE}, PE X a to → PE X b te → PE X c (tM1 r to te)) (hl : LmR X.K r rD) (ha : PD X W a ta) (hb : PD X W b tb) : PD X W c (dM1 rD ta tb) := by
  obtain ⟨_, pa, la⟩ := ha.of
  obtain ⟨_, pb, lb⟩ := hb.of
  refine ⟨_, mk pa pb, fun H0 G0 G H σ env Q ex R S L q g => la H0 G0 G H σ env _ ex _ S L q fun v H1 G1 d x1 r1 q1 => ?_⟩
  obtain ⟨⟨s, rfl⟩, q2⟩ := q1
  refine ⟨⟨s, r1.str_inv⟩, lb H0 G0 G1 H1 σ env _ ex _ (S.ex x1) (L.mono x1.gg) q2 fun u H2 G2 d2 x2 r2 q3 => ?_⟩
  exact hl G2 H2 v [u] _ [d2] Q R x2.sub (r1.same x2.gg) (.one r2) q3 fun w H3 G3 d3 x3 r3 q4 => g w H3 G3 d3 ((x1.trans x2).trans x3) r3 q4
/-- a method of a text that makes a new list -/
def LmN (K : PySem.W.Frag) (r : V → List V → Hp → VK → Prop) (rD : D → List D → (List D → Prop) → Prop) : Prop := ∀ (G H : Hp) (x : V) (vs : List V) (a : D) (ds : List D) (Q : List D → Prop) (R : VK), Same G H → Rep K G x a → Reps K G vs ds → rD a ds Q → GotN K G H Q R → r x vs H R
def dM1N (rD : D → List D → (List D → Prop) → Prop) (to te : DT) : DTN := fun env Q ex => to env (fun x => (∃ s, x = .str s) ∧ te env (fun y => rD x [y] Q) ex) ex
theorem pdn_m1 {r : V → List V → Hp → VK → Prop} {rD : D → List D → (List D → Prop) → Prop} (mk : ∀ {to te : TE}, PE X a to → PE X b te → PE X c (tM1 r to te)) (hl : LmN X.K r rD) (ha : PD X W a ta) (hb : PD X W b tb) : PDN X W c (dM1N rD ta tb) := by
  obtain ⟨_, pa, la⟩ := ha.of
  obtain ⟨_, pb, lb⟩ := hb.of
  refine ⟨_, mk pa pb, fun H0 G0 G H σ env Q ex R S L q g => la H0 G0 G H σ env _ ex _ S L q fun v H1 G1 d x1 r1 q1 => ?_⟩
  obtain ⟨⟨s, rfl⟩, q2⟩ := q1
  refine ⟨⟨s, r1.str_inv⟩, lb H0 G0 G1 H1 σ env _ ex _ (S.ex x1) (L.mono x1.gg) q2 fun u H2 G2 d2 x2 r2 q3 => ?_⟩
  exact hl G2 H2 v [u] _ [d2] Q R x2.sub (r1.same x2.gg) (.one r2) q3 fun p vs' H4 H3 G3 l x3 n e r3 q4 => g p vs' H4 H3 G3 l ((x1.trans x2).trans x3) n e r3 q4
end
end DL

namespace DL
open PySem PySem.Spec PyProof.Rows L2 LR
/-! ## fields -/
theorem lookup_zip {f : Str} {v : V} : ∀ {ks : List Str} {vs : List V} {k : Nat}, ks.Nodup → ks[k]? = some f → vs[k]? = some v → (ks.zip vs).lookup f = some v
  | [], _, _, _, h, _ => by simp at h
  | _ :: _, [], _, _, _, h => by simp at h
  | g :: ks, w :: vs, 0, _, h, h2 => by
    simp at h h2
    subst h h2
    have e : (g == g) = true := beq_self_eq_true g
    simp only [List.zip_cons_cons, List.lookup, e]
  | g :: ks, w :: vs, k + 1, hn, h, h2 => by
    rw [List.nodup_cons] at hn
    have h' : ks[k]? = some f := by simpa using h
    have ne : (f == g) = false := beq_eq_false_iff_ne.mpr fun z => hn.1 (by rw [← z]; exact List.mem_of_getElem? h')
    simp only [List.zip_cons_cons, List.lookup, ne]
    exact lookup_zip hn.2 h' (by simpa using h2)
theorem lookup_zip_none {f : Str} : ∀ {ks : List Str} {vs : List V}, f ∉ ks → (ks.zip vs).lookup f = none
  | [], _, _ => rfl
  | _ :: _, [], _ => rfl
  | g :: ks, w :: vs, h => by
    have ne : (f == g) = false := beq_eq_false_iff_ne.mpr fun z => h (by rw [z]; exact List.mem_cons_self)
    simp only [List.zip_cons_cons, List.lookup, ne]
    exact lookup_zip_none fun z => h (List.mem_cons_of_mem _ z)
section
variable {X : Cx} {W : WX} {a b c e : Expr} {es : List Expr} {ta tb tc : DT} {t : DTA} {pos : Pos}
def dFld (c k : Nat) (ta : DT) : DT := fun env Q ex => ta env (fun d => ∃ l x, d = .ins c l ∧ l[k]? = some x ∧ Q x) ex
theorem pd_fld {c k : Nat} {f : Str} (cl : Cls X.K (He.ga X.K (cname c))) (na : NoAttr X.K (He.ga X.K (cname c)) f) (fk : (shape c)[k]? = some f ∧ (shape c).Nodup) (ha : PD X W e ta)
    (hb : attributeBase e f X.env (eval e X.env) = eval e X.env := by rfl) : PD X W (.Attribute e f pos) (dFld c k ta) := by
  obtain ⟨_, pa, la⟩ := ha.of
  refine ⟨_, pe_fld pa hb, fun H0 G0 G H σ env Q ex R S L q g => la H0 G0 G H σ env _ ex _ S L q fun v H1 G1 d x1 r1 ⟨l, x, e1, hx, q1⟩ => ?_⟩
  subst e1
  obtain ⟨p, dx, vs, rfl, hp, hm, r2⟩ := r1.ins_inv
  obtain ⟨w, hw, rw⟩ := r2.at hx
  exact ⟨p, _, dx, _, w, rfl, x1.sub _ _ hp, cl, na, lookup_zip fk.2 fk.1 hw, g w H1 G1 x x1 rw q1⟩
/-! ## promises -/
abbrev Prm := List D → (D → Prop) → EX → Prop
/-- how an own error leaves -/
def Out (K : PySem.W.Frag) (G H : Hp) (ED : EX) (E : XK) : Prop := ∀ (H' G' : Hp) (d : Addr) (x : Str) (fv : List (Str × V)) (fs : List (Str × D)), Ext G H G' H' → H' d = some (.xd fv) → RepF K G' fv fs → ED x fs → E (.ref (He.ga K x)) (some d) H'
def spD (K : PySem.W.Frag) (n : Nat) (P : Prm) : Sp := fun vs H Q E => vs.length = n ∧ ∃ (G : Hp) (ds : List D) (QD : D → Prop) (ED : EX), Same G H ∧ Reps K G vs ds ∧ P ds QD ED ∧ Got K G H QD Q ∧ Out K G H ED E
theorem sp_call {K : PySem.W.Frag} {n : Nat} {H0 G0 G H : Hp} {σ : L2.St} {env : DE} {W : WX} {ex : EX} {P : Prm} {vs : List V} {ds : List D} {Q : D → Prop} {R : VK} (S : SR K H0 G0 G H σ env) (L : LkE K H0 G0 G W σ env ex) (hn : ∀ ds Q ex, P ds Q ex → ds.length = n) (r : Reps K G vs ds) (h : P ds Q ex) (g : Got K G H Q R) :
    spD K n P vs H R (WE W σ) := ⟨by rw [r.1]; exact hn _ _ _ h, G, ds, Q, ex, S.sub, r, h, g, fun H' G' d x fv fs xt e rf q => L H' G' d x fv fs xt.gg (S.ex xt) e rf q⟩
theorem sp_call0 {K : PySem.W.Frag} {n : Nat} {G H : Hp} {E : XK} {P : Prm} {vs : List V} {ds : List D} {Q : D → Prop} {R : VK} (s : Same G H) (hn : ∀ ds Q ex, P ds Q ex → ds.length = n) (r : Reps K G vs ds) (h : P ds Q (fun _ _ => False)) (g : Got K G H Q R) :
    spD K n P vs H R E := ⟨by rw [r.1]; exact hn _ _ _ h, G, ds, Q, _, s, r, h, g, fun H' G' d x fv fs xt e rf q => q.elim⟩
def dCall (P : Prm) (t : DTA) : DT := fun env Q ex => t env (fun ds => P ds Q ex) ex
/-- a def that keeps a promise on data; n parameters -/
structure Fn (P : Program) (w : World) (K : PySem.W.Frag) (mg : Str → Option Value) (base : Heap) (f : Addr) (k : Nat) (n : Nat) (Pm : Prm) where
  fd : FuncData
  ps : List Str
  ok : FnOk P w K mg base (L2.CX P w) k f fd ps (spD K n Pm)
  bd : Binds K fd ps []
  len : ∀ ds Q ex, Pm ds Q ex → ds.length = n
variable {k n : Nat} {f : Addr} {Pm : Prm} {x m : Str} {p apos : Pos} {o : Expr}
theorem pd_call (F : Fn X.prog X.w X.K X.mg X.base f k n Pm) (hr : Room k X.A) (hg : Gl X x) (hm : X.mg x = some (.ref f)) (hk : PySem.W.keepIn X.K (.ref f) = true) (tk : Takes X W) (ha : PDA X W (e :: es) t)
    (hdb : (x == ("__debug__" : Str)) = false := by decide) (he : starEach (e :: es) X.env = (false, eval e X.env) :: starEach es X.env := by rfl) (hpl : (backTo pos (starEach es X.env)).any (·.1) = false := by rfl) :
    PD X W (.Call (.Name x p) (e :: es) [] pos) (dCall Pm t) := by
  obtain ⟨_, pa, la⟩ := ha.of
  refine ⟨_, pe_callS F.ok hr hg hm hk F.bd (fun σ => passAt tk σ) pa hdb he hpl, fun H0 G0 G H σ env Q ex R S L q g => la H0 G0 G H σ env _ ex _ S L q fun vs H1 G1 ds x1 r1 q1 => ?_⟩
  exact sp_call (S.ex x1) (L.mono x1.gg) F.len r1 q1 fun v H2 G2 d x2 r2 q2 => g v H2 G2 d (x1.trans x2) r2 q2
theorem pd_call0 (F : Fn X.prog X.w X.K X.mg X.base f k n Pm) (hr : Room k X.A) (hg : Gl X x) (hm : X.mg x = some (.ref f)) (hk : PySem.W.keepIn X.K (.ref f) = true)
    (hdb : (x == ("__debug__" : Str)) = false := by decide) : PD X W (.Call (.Name x p) [] [] pos) (fun _ Q _ => Pm [] Q (fun _ _ => False)) :=
  ⟨_, pe_call0 F.ok hr hg hm hk F.bd .nil passL hdb, fun H0 G0 G H σ env Q ex R S L q g => sp_call0 S.sub F.len .nil q g⟩
/-- o.m(..) -/
def dMeth (c : Nat) (P : Prm) (ta : DT) (t : DTA) : DT := fun env Q ex => ta env (fun d => (∃ l, d = .ins c l) ∧ t env (fun ds => P (d :: ds) Q ex) ex) ex
theorem pd_meth {c : Nat} {pl : Sem Bool} (ho : PD X W o ta) (cl : Cls X.K (He.ga X.K (cname c))) (hm : Meth X.K (He.ga X.K (cname c)) m f) (F : Fn X.prog X.w X.K X.mg X.base f k n Pm) (hr : Room k X.A) (tk : Takes X W) (nm : m ∉ shape c) (ha : PDA X W (e :: es) t)
    (hst : starEach (e :: es) X.env = (false, eval e X.env) :: starEach es X.env := by rfl) (hpl : (backTo pos (starEach es X.env)).any (·.1) = false := by rfl)
    (ht : eval (.Call (.Attribute o m apos) (e :: es) [] pos) X.env = (do
      let ov ← eval o X.env
      standAt apos.atName
      let (f, first) ← holding [ov] (getMethod ov m pl)
      callWith pos f first (backTo pos (starEach (e :: es) X.env)) (backToKw pos (keywordEach [] X.env))) := by rfl) :
    PD X W (.Call (.Attribute o m apos) (e :: es) [] pos) (dMeth c Pm ta t) := by
  obtain ⟨_, po, lo⟩ := ho.of
  obtain ⟨_, pa, la⟩ := ha.of
  refine ⟨_, pe_methS po cl hm F.ok hr F.bd (fun σ => passAt tk σ) pa hst hpl ht, fun H0 G0 G H σ env Q ex R S L q g => lo H0 G0 G H σ env _ ex _ S L q fun v H1 G1 d x1 r1 q1 => ?_⟩
  obtain ⟨⟨l, rfl⟩, q2⟩ := q1
  obtain ⟨p, dx, ws, rfl, hp, hm', r2⟩ := id r1.ins_inv
  refine ⟨p, dx, _, rfl, x1.sub _ _ hp, lookup_zip_none nm, la H0 G0 G1 H1 σ env _ ex _ (S.ex x1) (L.mono x1.gg) q2 fun vs H2 G2 ds x2 r3 q3 => ?_⟩
  have x12 := x1.trans x2
  exact sp_call (S.ex x12) (L.mono x12.gg) F.len (r3.cons (r1.same x2.gg)) q3 fun v H3 G3 d x3 r4 q4 => g v H3 G3 d (x12.trans x3) r4 q4
/-- o.m() -/
theorem pe_meth0S {pl : Sem Bool} {C : Addr} {fd : FuncData} {ps : List Str} {sp : Sp} {E : L2.St → XK} {sa : TE} {CX : CXT} (he : PE X o sa) (c : Cls X.K C) (hm : Meth X.K C m f) (F : FnOk X.prog X.w X.K X.mg X.base CX k f fd ps sp) (hr : Room k X.A) (hb : Binds X.K fd ps []) (hx : ∀ σ, PassesAt CX X σ (E σ))
    (ht : eval (.Call (.Attribute o m apos) [] [] pos) X.env = (do
      let ov ← eval o X.env
      standAt apos.atName
      let (f, first) ← holding [ov] (getMethod ov m pl)
      callWith pos f first (backTo pos (starEach [] X.env)) (backToKw pos (keywordEach [] X.env))) := by rfl) :
    PE X (.Call (.Attribute o m apos) [] [] pos) (tMethS C m sp E sa tNil) := by
  refine ⟨fun pins s σ H Q I h => ?_⟩
  refine PySem.W.methodCall_KW (pl := pl) (thn (he.run pins s σ H _ I h) fun u s1 ⟨x, H1, I1, rx, a, dx, fs, ex, ea, l, q⟩ => ?_) ht
  subst ex
  obtain rfl : u = Value.ref a := rx
  refine getmeth_ok I1 ea c hm l ?_
  exact PySem.W.callWith_K0 (first := [.ref a]) I1.kIn hm.kp (run_fnS (us := [.ref a]) (vs := [.ref a]) F hr hb (hx σ) I1 (.cons rfl .nil) q)
theorem pd_meth0 {c : Nat} {pl : Sem Bool} (ho : PD X W o ta) (cl : Cls X.K (He.ga X.K (cname c))) (hm : Meth X.K (He.ga X.K (cname c)) m f) (F : Fn X.prog X.w X.K X.mg X.base f k n Pm) (hr : Room k X.A) (tk : Takes X W) (nm : m ∉ shape c)
    (ht : eval (.Call (.Attribute o m apos) [] [] pos) X.env = (do
      let ov ← eval o X.env
      standAt apos.atName
      let (f, first) ← holding [ov] (getMethod ov m pl)
      callWith pos f first (backTo pos (starEach [] X.env)) (backToKw pos (keywordEach [] X.env))) := by rfl) :
    PD X W (.Call (.Attribute o m apos) [] [] pos) (dMeth c Pm ta dNil) := by
  obtain ⟨_, po, lo⟩ := ho.of
  refine ⟨_, pe_meth0S po cl hm F.ok hr F.bd (fun σ => passAt tk σ) ht, fun H0 G0 G H σ env Q ex R S L q g => lo H0 G0 G H σ env _ ex _ S L q fun v H1 G1 d x1 r1 q1 => ?_⟩
  obtain ⟨⟨l, rfl⟩, q2⟩ := q1
  obtain ⟨p, dx, ws, rfl, hp, hm', r2⟩ := id r1.ins_inv
  refine ⟨p, dx, _, rfl, x1.sub _ _ hp, lookup_zip_none nm, ?_⟩
  exact sp_call (S.ex x1) (L.mono x1.gg) F.len (.one r1) q2 fun v H3 G3 d x3 r4 q4 => g v H3 G3 d (x1.trans x3) r4 q4
/-- o.f, a property -/
def dProp (c : Nat) (P : Prm) (ta : DT) : DT := fun env Q ex => ta env (fun d => (∃ l, d = .ins c l) ∧ P [d] Q (fun _ _ => False)) ex
theorem pd_prop {c : Nat} {f : Str} {ap g : Addr} (ho : PD X W e ta) (cl : Cls X.K (He.ga X.K (cname c))) (hp : PropOf X.K (He.ga X.K (cname c)) f ap g) (F : Fn X.prog X.w X.K X.mg X.base g k n Pm) (hr : Room (k + 1) X.A)
    (hab : attributeBase e f X.env (eval e X.env) = eval e X.env := by rfl) : PD X W (.Attribute e f pos) (dProp c Pm ta) := by
  obtain ⟨_, po, lo⟩ := ho.of
  refine ⟨_, pe_prop po cl hp F.ok hr F.bd .nil passL hab, fun H0 G0 G H σ env Q ex R S L q gg => lo H0 G0 G H σ env _ ex _ S L q fun v H1 G1 d x1 r1 q1 => ?_⟩
  obtain ⟨⟨l, rfl⟩, q2⟩ := q1
  obtain ⟨p, dx, ws, rfl, hp, hm', r2⟩ := id r1.ins_inv
  exact ⟨p, dx, _, rfl, x1.sub _ _ hp, sp_call0 x1.sub F.len (.one r1) q2 fun v H3 G3 d x3 r4 q4 => gg v H3 G3 d (x1.trans x3) r4 q4⟩
/-! ## objects made -/
/-- what an __init__ has done: the object at p stands for d -/
def Made (K : PySem.W.Frag) (G H : Hp) (p : Addr) (QD : D → Prop) (R : Hp → Prop) : Prop := ∀ (H' G' : Hp) (d : D), (∀ a o, H a = some o → a ≠ p → H' a = some o) → Same G G' → Same G' H' → (∀ a, G' a ≠ none → G a = none → H a = none ∨ a = p) → Rep K G' (.ref p) d → QD d → R H'
def OutI (K : PySem.W.Frag) (G H : Hp) (p : Addr) (ED : EX) (E : XK) : Prop := ∀ (H' G' : Hp) (d : Addr) (x : Str) (fv : List (Str × V)) (fs : List (Str × D)), (∀ a o, H a = some o → a ≠ p → H' a = some o) → Same G G' → Same G' H' → (∀ a, G' a ≠ none → G a = none → H a = none ∨ a = p) →
  H' d = some (.xd fv) → RepF K G' fv fs → ED x fs → E (.ref (He.ga K x)) (some d) H'
def spI (K : PySem.W.Frag) (c n : Nat) (P : Prm) : Sp := fun vs H Q E => ∃ (p dx : Addr) (us : List V) (G : Hp) (ds : List D) (QD : D → Prop) (ED : EX), vs = .ref p :: us ∧ us.length = n ∧ H p = some (.ins (He.ga K (cname c)) dx []) ∧ Same G H ∧ G p = none ∧ Reps K G us ds ∧ P ds QD ED ∧
  Made K G H p QD (fun H' => Q .non H') ∧ OutI K G H p ED E
structure FnI (P : Program) (w : World) (K : PySem.W.Frag) (mg : Str → Option Value) (base : Heap) (f : Addr) (k : Nat) (c n : Nat) (Pm : Prm) (dv : List V) (dd : List D) where
  fd : FuncData
  ps : List Str
  ok : FnOk P w K mg base (L2.CX P w) k f fd ps (spI K c n Pm)
  ds : List Value
  vd : Vals dv ds
  bd : Binds K fd ps ds
  len : ∀ ds Q ex, Pm ds Q ex → ds.length = n
def dMake (P : Prm) (dd : List D) (t : DTA) : DT := fun env Q ex => t env (fun ds => P (ds ++ dd) Q ex) ex
theorem pd_make {c : Nat} {dv : List V} {dd : List D} (M : Mk X.K (He.ga X.K (cname c)) f) (F : FnI X.prog X.w X.K X.mg X.base f k c n Pm dv dd) (hd : ∀ K H, Reps K H dv dd) (hr : Room (k + 1) X.A) (hg : Gl X x) (hm : X.mg x = some (.ref (He.ga X.K (cname c)))) (tk : Takes X W) (ha : PDA X W (e :: es) t)
    (hdb : (x == ("__debug__" : Str)) = false := by decide) (he : starEach (e :: es) X.env = (false, eval e X.env) :: starEach es X.env := by rfl) (hpl : (backTo pos (starEach es X.env)).any (·.1) = false := by rfl) :
    PD X W (.Call (.Name x p) (e :: es) [] pos) (dMake Pm dd t) := by
  obtain ⟨_, pa, la⟩ := ha.of
  refine ⟨_, pe_makeS M F.ok hr hg hm F.bd F.vd (fun σ => passAt tk σ) pa hdb he hpl, fun H0 G0 G H σ env Q ex R S L q g => la H0 G0 G H σ env _ ex _ S L q fun vs H1 G1 ds x1 r1 q1 => ?_⟩
  intro x dx nx nd ne
  have s0 : Same H1 (upd (upd H1 dx (.own x)) x (.ins (He.ga X.K (cname c)) dx [])) := fun a o h => by
    rw [upd_ne (ne_of_none h nx), upd_ne (ne_of_none h nd)]
    exact h
  have gx : G1 x = none := x1.sub.free nx
  have rr := r1.app (hd X.K G1)
  have back : ∀ a, (upd (upd H1 dx (.own x)) x (.ins (He.ga X.K (cname c)) dx [])) a = none ∨ a = x → H1 a = none := fun a h => by
    rcases h with h | h
    · by_cases h1 : a = x
      · subst h1; exact nx
      · rw [upd_ne h1] at h
        by_cases h2 : a = dx
        · subst h2; exact nd
        · rw [upd_ne h2] at h; exact h
    · subst h; exact nx
  have xt : ∀ H' G' : Hp, (∀ a o, (upd (upd H1 dx (.own x)) x (.ins (He.ga X.K (cname c)) dx [])) a = some o → a ≠ x → H' a = some o) → Same G1 G' → Same G' H' → (∀ a, G' a ≠ none → G1 a = none → (upd (upd H1 dx (.own x)) x (.ins (He.ga X.K (cname c)) dx [])) a = none ∨ a = x) → Ext G1 H1 G' H' := fun H' G' h1 h2 h3 h4 =>
    ⟨fun a o h => h1 a o (s0 a o h) (ne_of_none h nx), h2, h3, fun a h5 h6 => back a (h4 a h5 h6)⟩
  refine ⟨x, dx, vs ++ dv, G1, ds ++ dd, Q, ex, rfl, by rw [rr.1]; exact F.len _ _ _ q1, upd_same, x1.sub.trans s0, gx, rr, q1, fun H' G' d h1 h2 h3 h4 r q2 => ⟨rfl, g _ H' G' d (x1.trans (xt H' G' h1 h2 h3 h4)) r q2⟩, fun H' G' d x' fv fs h1 h2 h3 h4 e rf q2 => ?_⟩
  have z := xt H' G' h1 h2 h3 h4
  exact L H' G' d x' fv fs (x1.trans z).gg ((S.ex x1).ex z) e rf q2
end
end DL

namespace DL
open PySem PySem.Spec PyProof.Rows L2 LR
/-! ## what is walked -/
structure JOk (K : PySem.W.Frag) (J : It) (G : Hp) (items : List D) : Prop where
  go : ∀ (i : Nat) H, Same G H → i < items.length → J.go i H
  stop : ∀ H, Same G H → J.stop items.length H
  yld : ∀ (i : Nat) H G1 x H', Same G G1 → Same G1 H → i < items.length → J.yld i H x H' → ∃ G' d, items[i]? = some d ∧ Ext G1 H G' H' ∧ Rep K G' x d
abbrev DTI := DE → (List D → Prop) → EX → Prop
def LI (X : Cx) (W : WX) (ti : TI) (t : DTI) : Prop := ∀ (H0 G0 G H : Hp) (σ : L2.St) (env : DE) (Q : List D → Prop) (ex : EX) (R : It → Hp → Prop), SR X.K H0 G0 G H σ env → LkE X.K H0 G0 G W σ env ex → t env Q ex →
  (∀ J H' G' items, Ext G H G' H' → JOk X.K J G' items → Q items → R J H') → ti σ H R
structure PDI (X : Cx) (W : WX) (tg it : Expr) (t : DTI) : Prop where
  of : ∃ ti, PI X tg it ti ∧ LI X W ti t
theorem jok_list {K : PySem.W.Frag} {G : Hp} {a : Addr} {vs : List V} {l : List D} (h : SqL K G a vs) (r : Reps K G vs l) : JOk K (Itl K a) G l where
  go := fun i H s hi => ⟨vs, vs[i]'(by rw [r.1]; exact hi), s.seq h, List.getElem?_eq_getElem _⟩
  stop := fun H s => ⟨vs, s.seq h, by rw [r.1]; exact Nat.le_refl _⟩
  yld := fun i H G1 x H' s1 s2 hi ⟨e, y⟩ => by
    subst e
    have hx := y vs ((s1.trans s2).seq h)
    obtain ⟨d, hd, rd⟩ := r.at' hx
    exact ⟨G1, d, hd, .refl s2, rd.same s1⟩
theorem jok_tup {K : PySem.W.Frag} {G : Hp} {a : Addr} {vs : List V} {l : List D} (h : SqT K G a vs) (r : Reps K G vs l) : JOk K (Itt K a) G l where
  go := fun i H s hi => ⟨vs, vs[i]'(by rw [r.1]; exact hi), sqT_same s h, List.getElem?_eq_getElem _⟩
  stop := fun H s => ⟨vs, sqT_same s h, by rw [r.1]; exact Nat.le_refl _⟩
  yld := fun i H G1 x H' s1 s2 hi ⟨e, y⟩ => by
    subst e
    have hx := y vs (sqT_same (s1.trans s2) h)
    obtain ⟨d, hd, rd⟩ := r.at' hx
    exact ⟨G1, d, hd, .refl s2, rd.same s1⟩
def rngD (lo : Int) (n : Nat) : List D := (List.range n).map fun (i : Nat) => D.int (lo + i)
theorem jok_range {K : PySem.W.Frag} {G : Hp} {lo : Int} {n : Nat} : JOk K (Itr lo n) G (rngD lo n) where
  go := fun i H s hi => by show i < n; unfold rngD at hi; simpa using hi
  stop := fun H s => by show n ≤ _; unfold rngD; simp
  yld := fun i H G1 x H' s1 s2 hi ⟨e, y⟩ => by
    subst e y
    have hi' : i < n := by unfold rngD at hi; simpa using hi
    exact ⟨G1, _, by unfold rngD; simp [hi'], .refl s2, .int _⟩
theorem ext_pair {K : PySem.W.Frag} {G1 H : Hp} {T : Addr} {x y : V} {d e : D} (s : Same G1 H) (n : H T = none) (r1 : Rep K G1 x d) (r2 : Rep K G1 y e) : Ext G1 H (upd G1 T (.tup [x, y])) (upd H T (.tup [x, y])) ∧ Rep K (upd G1 T (.tup [x, y])) (.ref T) (.tup [d, e]) := by
  have x2 : Ext G1 H (upd G1 T (.tup [x, y])) (upd H T (.tup [x, y])) := Ext.nw s n
  have rr : Reps K (upd G1 T (.tup [x, y])) [x, y] [d, e] := (Reps.one (r2.same x2.gg)).cons (r1.same x2.gg)
  exact ⟨x2, .tup (SqT.of upd_same) rr.1 rr.2⟩
def enumD (l : List D) : List D := (List.range l.length).zipWith (fun (i : Nat) d => D.tup [.int i, d]) l
theorem enumD_len (l : List D) : (enumD l).length = l.length := by unfold enumD; simp
theorem enumD_at {l : List D} {i : Nat} {d : D} (h : l[i]? = some d) : (enumD l)[i]? = some (.tup [.int i, d]) := by
  have hi : i < l.length := (List.getElem?_eq_some_iff.mp h).1
  unfold enumD
  rw [List.getElem?_zipWith, h]
  simp [hi]
theorem jok_enum {K : PySem.W.Frag} {G : Hp} {a : Addr} {vs : List V} {l : List D} (h : SqL K G a vs) (r : Reps K G vs l) : JOk K (Ite K a) G (enumD l) where
  go := fun i H s hi => ⟨vs, vs[i]'(by rw [r.1]; rw [enumD_len] at hi; exact hi), s.seq h, List.getElem?_eq_getElem _⟩
  stop := fun H s => ⟨vs, s.seq h, by rw [r.1, enumD_len]; exact Nat.le_refl _⟩
  yld := fun i H G1 x H' s1 s2 hi ⟨T, x', e, n, e2, y⟩ => by
    subst e e2
    have hx := y vs ((s1.trans s2).seq h)
    obtain ⟨d, hd, rd⟩ := r.at' hx
    obtain ⟨x2, r2⟩ := ext_pair s2 n (.int (i : Nat)) (rd.same s1)
    exact ⟨_, _, enumD_at hd, x2, r2⟩
def zipD (l m : List D) : List D := l.zipWith (fun d e => D.tup [d, e]) m
theorem zipD_at {l m : List D} {i : Nat} {d e : D} (h : l[i]? = some d) (h2 : m[i]? = some e) : (zipD l m)[i]? = some (.tup [d, e]) := by
  unfold zipD
  rw [List.getElem?_zipWith, h, h2]
theorem zipD_len (l m : List D) : (zipD l m).length = min l.length m.length := by unfold zipD; simp
theorem jok_zip {K : PySem.W.Frag} {G : Hp} {a b : Addr} {vs us : List V} {l m : List D} (h : SqL K G a vs) (r : Reps K G vs l) (h2 : SqL K G b us) (r2 : Reps K G us m) : JOk K (Itz K a b) G (zipD l m) where
  go := fun i H s hi => by
    rw [zipD_len] at hi
    exact ⟨vs, us, vs[i]'(by rw [r.1]; omega), us[i]'(by rw [r2.1]; omega), s.seq h, s.seq h2, List.getElem?_eq_getElem _, List.getElem?_eq_getElem _⟩
  stop := fun H s => ⟨vs, us, s.seq h, s.seq h2, by rw [zipD_len, r.1, r2.1]; omega⟩
  yld := fun i H G1 x H' s1 s2 hi ⟨T, x', y', e, n, e2, y1, y2⟩ => by
    subst e e2
    have hx := y1 vs ((s1.trans s2).seq h)
    have hy := y2 us ((s1.trans s2).seq h2)
    obtain ⟨d, hd, rd⟩ := r.at' hx
    obtain ⟨d2, hd2, rd2⟩ := r2.at' hy
    obtain ⟨x3, r3⟩ := ext_pair s2 n (rd.same s1) (rd2.same s1)
    exact ⟨_, _, zipD_at hd hd2, x3, r3⟩
theorem jok_zipT {K : PySem.W.Frag} {G : Hp} {a b : Addr} {vs us : List V} {l m : List D} (h : SqT K G a vs) (r : Reps K G vs l) (h2 : SqT K G b us) (r2 : Reps K G us m) : JOk K (RZ.ItzT K a b) G (zipD l m) where
  go := fun i H s hi => by
    rw [zipD_len] at hi
    exact ⟨vs, us, vs[i]'(by rw [r.1]; omega), us[i]'(by rw [r2.1]; omega), sqT_same s h, sqT_same s h2, List.getElem?_eq_getElem _, List.getElem?_eq_getElem _⟩
  stop := fun H s => ⟨vs, us, sqT_same s h, sqT_same s h2, by rw [zipD_len, r.1, r2.1]; omega⟩
  yld := fun i H G1 x H' s1 s2 hi ⟨T, x', y', e, n, e2, y1, y2⟩ => by
    subst e e2
    have hx := y1 vs (sqT_same (s1.trans s2) h)
    have hy := y2 us (sqT_same (s1.trans s2) h2)
    obtain ⟨d, hd, rd⟩ := r.at' hx
    obtain ⟨d2, hd2, rd2⟩ := r2.at' hy
    obtain ⟨x3, r3⟩ := ext_pair s2 n (rd.same s1) (rd2.same s1)
    exact ⟨_, _, zipD_at hd hd2, x3, r3⟩
def strD (s : Str) : List D := s.cps.toList.map fun c => D.str ⟨#[c]⟩
theorem jok_str {K : PySem.W.Frag} {G : Hp} {s : Str} : JOk K (Its s) G (strD s) where
  go := fun i H _ hi => by show i < s.cps.size; unfold strD at hi; simpa using hi
  stop := fun H _ => by show s.cps.size ≤ _; unfold strD; simp
  yld := fun i H G1 x H' s1 s2 hi ⟨e, c, hc, ex⟩ => by
    subst e ex
    exact ⟨G1, .str ⟨#[c]⟩, by unfold strD; rw [List.getElem?_map, Array.getElem?_toList, hc]; rfl, .refl s2, .str _⟩
section
variable {X : Cx} {W : WX} {a b c e tg : Expr} {es : List Expr} {ta tb tc : DT} {t : DTA} {pos p : Pos}
def diL (ta : DT) : DTI := fun env Q ex => ta env (fun d => ∃ l, d = .lst l ∧ Q l) ex
def diT (ta : DT) : DTI := fun env Q ex => ta env (fun d => ∃ l, d = .tup l ∧ Q l) ex
theorem pdi_list (ha : PD X W e ta) : PDI X W tg e (diL ta) := by
  obtain ⟨_, pa, la⟩ := ha.of
  refine ⟨_, pi_list pa, fun H0 G0 G H σ env Q ex R S L q g => la H0 G0 G H σ env _ ex _ S L q fun v H1 G1 d x1 r1 ⟨l, e1, q1⟩ => ?_⟩
  subst e1
  obtain ⟨p, vs, rfl, h1, h2⟩ := r1.lst_inv
  exact ⟨p, rfl, ⟨vs, x1.sub.seq h1⟩, g _ H1 G1 l x1 (jok_list h1 h2) q1⟩
theorem pdi_tup (ha : PD X W e ta) : PDI X W tg e (diT ta) := by
  obtain ⟨_, pa, la⟩ := ha.of
  refine ⟨_, pi_tup pa, fun H0 G0 G H σ env Q ex R S L q g => la H0 G0 G H σ env _ ex _ S L q fun v H1 G1 d x1 r1 ⟨l, e1, q1⟩ => ?_⟩
  subst e1
  obtain ⟨p, vs, rfl, h1, h2⟩ := r1.tup_inv
  exact ⟨p, rfl, ⟨vs, sqT_same x1.sub h1⟩, g _ H1 G1 l x1 (jok_tup h1 h2) q1⟩
theorem pdi_str (ha : PD X W e ta) : PDI X W tg e (fun env Q ex => ta env (fun d => ∃ s, d = .str s ∧ Q (strD s)) ex) := by
  obtain ⟨_, pa, la⟩ := ha.of
  refine ⟨_, pi_str pa, fun H0 G0 G H σ env Q ex R S L q g => la H0 G0 G H σ env _ ex _ S L q fun v H1 G1 d x1 r1 ⟨l, e1, q1⟩ => ?_⟩
  subst e1
  exact ⟨l, r1.str_inv, g _ H1 G1 _ x1 jok_str q1⟩
def diR1 (t : DTA) : DTI := fun env Q ex => t env (fun ds => ∃ j : Int, ds = [.int j] ∧ -(2 ^ 62) ≤ j ∧ j < 2 ^ 62 ∧ Q (rngD 0 j.toNat)) ex
def diR2 (t : DTA) : DTI := fun env Q ex => t env (fun ds => ∃ i j : Int, ds = [.int i, .int j] ∧ (-(2 ^ 62) ≤ i ∧ i < 2 ^ 62 ∧ -(2 ^ 62) ≤ j ∧ j < 2 ^ 62) ∧ Q (rngD i (j - i).toNat)) ex
theorem reps1 {K : PySem.W.Frag} {G : Hp} {vs : List V} {d : D} (r : Reps K G vs [d]) : ∃ v, vs = [v] ∧ Rep K G v d := by
  obtain ⟨n, h⟩ := r
  match vs, n with
  | [v], _ => exact ⟨v, rfl, h 0 v d rfl rfl⟩
theorem reps2 {K : PySem.W.Frag} {G : Hp} {vs : List V} {d e : D} (r : Reps K G vs [d, e]) : ∃ v w, vs = [v, w] ∧ Rep K G v d ∧ Rep K G w e := by
  obtain ⟨n, h⟩ := r
  match vs, n with
  | [v, w], _ => exact ⟨v, w, rfl, h 0 v d rfl rfl, h 1 w e rfl rfl⟩
theorem pdi_range1 (hg : Gl X "range") (hm : X.mg "range" = none) (ha : PDA X W [a] t) (hs : starEach [a] X.env = [(false, eval a X.env)] := by rfl) : PDI X W tg (.Call (.Name "range" p) [a] [] pos) (diR1 t) := by
  obtain ⟨_, pa, la⟩ := ha.of
  refine ⟨_, pi_range1 hg hm pa hs, fun H0 G0 G H σ env Q ex R S L q g => la H0 G0 G H σ env _ ex _ S L q fun vs H1 G1 ds x1 r1 ⟨j, e1, h1, h2, q1⟩ => ?_⟩
  subst e1
  obtain ⟨v, rfl, r⟩ := reps1 r1
  exact ⟨j, by rw [r.int_inv], h1, h2, g _ H1 G1 _ x1 jok_range q1⟩
theorem pdi_range2 (hg : Gl X "range") (hm : X.mg "range" = none) (ha : PDA X W [a, b] t) (hs : starEach [a, b] X.env = [(false, eval a X.env), (false, eval b X.env)] := by rfl) (hs2 : starEach [b] X.env = [(false, eval b X.env)] := by rfl) :
    PDI X W tg (.Call (.Name "range" p) [a, b] [] pos) (diR2 t) := by
  obtain ⟨_, pa, la⟩ := ha.of
  refine ⟨_, pi_range2 hg hm pa hs hs2, fun H0 G0 G H σ env Q ex R S L q g => la H0 G0 G H σ env _ ex _ S L q fun vs H1 G1 ds x1 r1 ⟨i, j, e1, h1, q1⟩ => ?_⟩
  subst e1
  obtain ⟨v, w, rfl, r, r'⟩ := reps2 r1
  exact ⟨i, j, by rw [r.int_inv, r'.int_inv], h1, g _ H1 G1 _ x1 jok_range q1⟩
def diEnum (t : DTA) : DTI := fun env Q ex => t env (fun ds => ∃ l, ds = [.lst l] ∧ Q (enumD l)) ex
theorem pdi_enum {tpos : Pos} {elts : List Expr} {kk : Nat} (hg : Gl X "enumerate") (hm : X.mg "enumerate" = none) (ha : PDA X W [e] t) (hs : starEach [e] X.env = [(false, eval e X.env)] := by rfl) :
    PDI X W (.Tuple elts kk tpos) (.Call (.Name "enumerate" p) [e] [] pos) (diEnum t) := by
  obtain ⟨_, pa, la⟩ := ha.of
  refine ⟨_, pi_enum hg hm pa hs, fun H0 G0 G H σ env Q ex R S L q g => la H0 G0 G H σ env _ ex _ S L q fun vs H1 G1 ds x1 r1 ⟨l, e1, q1⟩ => ?_⟩
  subst e1
  obtain ⟨v, rfl, r⟩ := reps1 r1
  obtain ⟨p, ws, rfl, h1, h2⟩ := r.lst_inv
  exact ⟨p, ws, rfl, x1.sub.seq h1, g _ H1 G1 _ x1 (jok_enum h1 h2) q1⟩
def diZip (t : DTA) : DTI := fun env Q ex => t env (fun ds => (∃ l m, ds = [.lst l, .lst m] ∧ Q (zipD l m)) ∨ ∃ l m, ds = [.tup l, .tup m] ∧ Q (zipD l m)) ex
theorem pdi_zip {e2 : Expr} {tpos : Pos} {elts : List Expr} {kk : Nat} (hg : Gl X "zip") (hm : X.mg "zip" = none) (ha : PDA X W [e, e2] t)
    (hs : starEach [e, e2] X.env = (false, eval e X.env) :: starEach [e2] X.env := by rfl) (hpl : (backTo pos (starEach [e2] X.env)).any (·.1) = false := by rfl) :
    PDI X W (.Tuple elts kk tpos) (.Call (.Name "zip" p) [e, e2] [] pos) (diZip t) := by
  obtain ⟨_, pa, la⟩ := ha.of
  refine ⟨_, RZ.pi_zipA hg hm pa hs hpl, fun H0 G0 G H σ env Q ex R S L q g => la H0 G0 G H σ env _ ex _ S L q fun vs H1 G1 ds x1 r1 q0 => ?_⟩
  rcases q0 with ⟨l, m, e1, q1⟩ | ⟨l, m, e1, q1⟩
  · subst e1
    obtain ⟨v, w, rfl, r, r'⟩ := reps2 r1
    obtain ⟨p, ws, rfl, h1, h2⟩ := r.lst_inv
    obtain ⟨p', ws', rfl, h1', h2'⟩ := r'.lst_inv
    exact ⟨p, p', ws, ws', rfl, .inl ⟨x1.sub.seq h1, x1.sub.seq h1', g _ H1 G1 _ x1 (jok_zip h1 h2 h1' h2') q1⟩⟩
  · subst e1
    obtain ⟨v, w, rfl, r, r'⟩ := reps2 r1
    obtain ⟨p, ws, rfl, h1, h2⟩ := r.tup_inv
    obtain ⟨p', ws', rfl, h1', h2'⟩ := r'.tup_inv
    exact ⟨p, p', ws, ws', rfl, .inr ⟨sqT_same x1.sub h1, sqT_same x1.sub h1', g _ H1 G1 _ x1 (jok_zipT h1 h2 h1' h2') q1⟩⟩
/-! ## targets -/
abbrev DTG := D → DE → (DE → Prop) → Prop
abbrev DTGs := List D → DE → (DE → Prop) → Prop
/-- what a target stores lies in vs -/
def GIn (vs : List Nat) (g : TG) : Prop := ∀ v σ H (R R' : L2.St → Hp → Prop), (∀ σ2 H2, L2.wipe σ2 vs = L2.wipe σ vs → R σ2 H2 → R' σ2 H2) → g v σ H R → g v σ H R'
def GIns (vs : List Nat) (g : TGs) : Prop := ∀ us σ H (R R' : L2.St → Hp → Prop), (∀ σ2 H2, L2.wipe σ2 vs = L2.wipe σ vs → R σ2 H2 → R' σ2 H2) → g us σ H R → g us σ H R'
theorem wipe_get (σ : L2.St) : ∀ (vs : List Nat) (j : Nat), (L2.wipe σ vs)[j]? = if j ∈ vs then (σ[j]?).map (fun _ => none) else σ[j]?
  | [], j => by simp [L2.wipe]
  | v :: vs, j => by
    unfold L2.wipe
    rw [List.getElem?_set, wipe_get σ vs j, L2.wipe_length]
    by_cases h : v = j
    · subst h
      by_cases hl : v < σ.length
      · simp [hl]
      · simp [hl]
    · have h' : ¬ j = v := fun z => h z.symm
      simp [h, h']
theorem wipe_set {σ : L2.St} {vs : List Nat} {i : Nat} {x : Option V} (h : i ∈ vs) : L2.wipe (σ.set i x) vs = L2.wipe σ vs := by
  refine List.ext_getElem? fun j => ?_
  rw [wipe_get, wipe_get]
  by_cases hj : j ∈ vs
  · rw [if_pos hj, if_pos hj, List.getElem?_set]
    by_cases e : i = j
    · subst e
      rw [if_pos rfl]
      split
      · rename_i hl
        rw [List.getElem?_eq_getElem hl]
        rfl
      · rename_i hl
        rw [List.getElem?_eq_none (by omega)]
    · rw [if_neg e]
  · rw [if_neg hj, if_neg hj, List.getElem?_set, if_neg (fun z => hj (by rw [← z]; exact h))]
theorem wipe_wipe (σ : L2.St) (vs : List Nat) : L2.wipe (L2.wipe σ vs) vs = L2.wipe σ vs := by
  refine List.ext_getElem? fun j => ?_
  rw [wipe_get, wipe_get]
  by_cases hj : j ∈ vs
  · rw [if_pos hj, if_pos hj]
    cases σ[j]? <;> rfl
  · rw [if_neg hj, if_neg hj]
structure PDG (X : Cx) (tg : Expr) (ix : List Nat) (t : DTG) : Prop where
  of : ∃ g, PG X tg g ∧ (∀ (H0 G0 G H : Hp) (σ : L2.St) (env : DE) (v : V) (d : D) (Q : DE → Prop) (R : L2.St → Hp → Prop), SR X.K H0 G0 G H σ env → Rep X.K G v d → t d env Q → (∀ σ' env', SR X.K H0 G0 G H σ' env' → Q env' → R σ' H) → g v σ H R) ∧
    ∀ vs, (∀ i ∈ ix, i ∈ vs) → GIn vs g
structure PDGs (X : Cx) (tgs : List Expr) (ix : List Nat) (t : DTGs) : Prop where
  of : ∃ g, PGs X tgs g ∧ (∀ (H0 G0 G H : Hp) (σ : L2.St) (env : DE) (vs : List V) (ds : List D) (Q : DE → Prop) (R : L2.St → Hp → Prop), SR X.K H0 G0 G H σ env → Reps X.K G vs ds → t ds env Q → (∀ σ' env', SR X.K H0 G0 G H σ' env' → Q env' → R σ' H) → g vs σ H R) ∧
    ∀ vs, (∀ i ∈ ix, i ∈ vs) → GIns vs g
def dgName (i : Nat) : DTG := fun d env Q => Q (env.set i (.val d))
theorem pdg_name {i : Nat} (h : PG X tg (gName i)) : PDG X tg [i] (dgName i) := ⟨_, h, fun H0 G0 G H σ env v d Q R S r q g => g _ _ (S.set r) q, fun vs hv v σ H R R' k h => k _ _ (wipe_set (hv i (by simp))) h⟩
def dgNil : DTGs := fun ds env Q => ds = [] ∧ Q env
def dgCons (t : DTG) (u : DTGs) : DTGs := fun ds env Q => ∃ d r, ds = d :: r ∧ t d env (fun env' => u r env' Q)
theorem pdgs_nil : PDGs X [] [] dgNil := ⟨_, pgs_nil, fun H0 G0 G H σ env vs ds Q R S r ⟨e1, q⟩ g => by
  subst e1
  have : vs = [] := List.length_eq_zero_iff.mp r.1
  exact ⟨this, g _ _ S q⟩, fun vs _ us σ H R R' k ⟨h1, h2⟩ => ⟨h1, k _ _ rfl h2⟩⟩
theorem pdgs_cons {g : DTG} {u : DTGs} {ix jx : List Nat} (h : PDG X e ix g) (hs : PDGs X es jx u) (ha : (assignEach (e :: es) X.env).map (fun x => x.2) = assign e X.env :: (assignEach es X.env).map (fun x => x.2) := by rfl) : PDGs X (e :: es) (ix ++ jx) (dgCons g u) := by
  obtain ⟨_, pg, lg, ig⟩ := h.of
  obtain ⟨_, ps, ls, is⟩ := hs.of
  refine ⟨_, pgs_cons pg ps ha, fun H0 G0 G H σ env vs ds Q R S r ⟨d, l, e1, q⟩ g => ?_, fun vs hv us σ H R R' k ⟨v, r, h1, h2⟩ => ⟨v, r, h1, ig vs (fun i hi => hv i (List.mem_append_left _ hi)) v σ H _ _ (fun σ' H' e1 h => is vs (fun i hi => hv i (List.mem_append_right _ hi)) r σ' H' _ _ (fun σ2 H2 e2 h' => k σ2 H2 (e2.trans e1) h') h) h2⟩⟩
  subst e1
  match vs, r with
  | [], r => exact absurd r.1 (by simp)
  | v :: vs, r =>
    refine ⟨v, vs, rfl, lg H0 G0 G H σ env v d _ _ S (r.2 0 v d rfl rfl) q fun σ' env' S' q' => ?_⟩
    exact ls H0 G0 G H σ' env' vs l _ _ S' ⟨by have := r.1; simp at this; exact this, fun i v d h1 h2 => r.2 (i + 1) v d (by simpa using h1) (by simpa using h2)⟩ q' g
def dgTup (n : Nat) (t : DTGs) : DTG := fun d env Q => ∃ l, d = .tup l ∧ l.length = n ∧ t l env Q
theorem pdg_tup {k n : Nat} {u : DTGs} {ix : List Nat} (hc : X.calm = true) (hs : PDGs X es ix u) (hl : (assignEach es X.env).length = n := by rfl) (hf : (assignEach es X.env).findIdx? (fun x => x.1) = none := by rfl) : PDG X (.Tuple es k pos) ix (dgTup n u) := by
  obtain ⟨_, ps, ls, is⟩ := hs.of
  refine ⟨_, pg_tup hc ps hl hf, fun H0 G0 G H σ env v d Q R S r ⟨l, e1, hn, q⟩ g => ?_, fun vs hv v σ H R R' k ⟨a, xs, h1, h2, h3, h4⟩ => ⟨a, xs, h1, h2, h3, is vs hv xs σ H R R' k h4⟩⟩
  subst e1
  obtain ⟨p, ws, rfl, h1, h2⟩ := r.tup_inv
  exact ⟨p, ws, rfl, sqT_same S.sub h1, by rw [h2.1]; exact hn, ls H0 G0 G H σ env ws l _ _ S h2 q g⟩
/-! ## comprehensions -/
def wipeD (env : DE) : List Nat → DE
  | [] => env
  | v :: vs => (wipeD env vs).set v .no
theorem SR.wipe {K : PySem.W.Frag} {H0 G0 G H : Hp} {σ : L2.St} {env : DE} (S : SR K H0 G0 G H σ env) : ∀ vs : List Nat, SR K H0 G0 G H (L2.wipe σ vs) (wipeD env vs)
  | [] => S
  | v :: vs => (SR.wipe S vs).unset
end
structure PDTs (X : Cx) (ifs : List Expr) (t : DTT) : Prop where
  of : ∃ tt, PTs X ifs tt ∧ LT X (fun _ _ _ _ => False) tt t
def dYes : DTT := fun _ Q _ => Q true
theorem pdts_nil {X : Cx} : PDTs X [] dYes := ⟨_, pts_nil, fun H0 G0 G H σ env Q ex R S L q g => g true H G (.refl S.sub) q⟩
theorem pdts_one {X : Cx} {c : Expr} {t : DTT} (h : PDT X (fun _ _ _ _ => False) c t) : PDTs X [c] t := let ⟨_, pa, la⟩ := h.of; ⟨_, pts_one pa, la⟩
/-- [elt for target in iter if ..]: R what holds of what the i-th turn gives -/
def dLc (ti : DTI) (g : DTG) (tt : DTT) (te : DT) (vs : List Nat) : DTN := fun env Q ex => ti env (fun items => items.length < sizeLine ∧ ∃ R : Nat → Option D → Prop, (∀ (i : Nat) x, items[i]? = some x → g x (wipeD env vs) fun env2 => tt env2 (fun b =>
  if b = true then te env2 (fun d => True → R i (some d)) (fun _ _ => False) else True → R i none) (fun _ _ => False)) ∧ ∀ zs : List (Option D), zs.length = items.length → (∀ (i : Nat) z, zs[i]? = some z → R i z) → Q (zs.filterMap id)) ex
abbrev WN : WX := fun _ _ _ _ => False
theorem filt_snoc {α : Type} (zs : List (Option α)) (o : Option α) : (zs ++ [o]).filterMap id = zs.filterMap id ++ o.toList := by
  rw [List.filterMap_append]
  cases o <;> rfl
theorem snoc_all {α : Type} {zs : List α} {o : α} {i : Nat} {R : Nat → α → Prop} (hl : zs.length = i) (h : ∀ (j : Nat) z, zs[j]? = some z → R j z) (ho : R i o) : ∀ (j : Nat) z, (zs ++ [o])[j]? = some z → R j z := fun j z hz => by
  by_cases hj : j < zs.length
  · rw [List.getElem?_append_left hj] at hz
    exact h j z hz
  · rw [List.getElem?_append_right (by omega)] at hz
    have : j - zs.length = 0 := by
      have := (List.getElem?_eq_some_iff.mp hz).1
      simp at this
      omega
    rw [this] at hz
    cases hz
    rw [show j = i by omega]
    exact ho
theorem lc_lift {X : Cx} {W : WX} {ti : TI} {di : DTI} {g : TG} {dg : DTG} {tt : TT} {dt : DTT} {te : TE} {de : DT} {vs : List Nat} {Xb : Cx} (eK : Xb.K = X.K) (hi : LI X W ti di)
    (hg : ∀ (H0 G0 G H : Hp) (σ : L2.St) (env : DE) (v : V) (d : D) (Q : DE → Prop) (R : L2.St → Hp → Prop), SR X.K H0 G0 G H σ env → Rep X.K G v d → dg d env Q → (∀ σ' env', SR X.K H0 G0 G H σ' env' → Q env' → R σ' H) → g v σ H R)
    (hw : GIn vs g)
    (ht : LT Xb WN tt dt) (he : LE Xb WN te de) : LN X W (tLc ti g tt te vs) (dLc di dg dt de vs) := fun H0 G0 G H σ env Q ex R S L q gg =>
  hi H0 G0 G H σ env _ ex _ S L q fun J H1 G1 items x1 j ⟨hs, RR, step, q1⟩ => by
    intro Da nD
    have nG : G1 Da = none := x1.sub.free nD
    -- the invariant
    refine ⟨fun i m Hc => m = items.length - i ∧ i ≤ items.length ∧ ∃ (Hb Gc : Hp) (vs' : List V) (zs : List (Option D)), Ext G1 H1 Gc Hb ∧ Hb Da = none ∧ Hc = upd Hb Da (.lst vs') ∧ zs.length = i ∧ (∀ (j : Nat) z, zs[j]? = some z → RR j z) ∧ Reps X.K Gc vs' (zs.filterMap id), ⟨items.length, by simp, Nat.zero_le _, H1, G1, [], [], .refl x1.sub, nD, rfl, rfl, fun _ _ z => by simp at z, by simpa using Reps.nil⟩, ?_⟩
    rintro i m Hc ⟨rfl, hi', Hb, Gc, vs', zs, xb, nb, rfl, hzl, hzR, rr⟩
    have nGc : Gc Da = none := xb.sub.free nb
    have sG : Same Gc (upd Hb Da (.lst vs')) := same_new' xb.sub nb
    by_cases hlt : i < items.length
    · refine .inr ⟨j.go i _ (xb.gg.trans sG) hlt, fun Hn => i + 1 ≤ items.length ∧ ∃ (Hb' Gc' : Hp) (vs2 : List V) (zs2 : List (Option D)), Ext G1 H1 Gc' Hb' ∧ Hb' Da = none ∧ Hn = upd Hb' Da (.lst vs2) ∧ zs2.length = i + 1 ∧ (∀ (j : Nat) z, zs2[j]? = some z → RR j z) ∧ Reps X.K Gc' vs2 (zs2.filterMap id), fun H' h' => ⟨items.length - (i + 1), by omega, rfl, h'⟩, fun x H' y => ?_⟩
      obtain ⟨G2, d, hd, x2, r2⟩ := j.yld i _ Gc x H' xb.gg sG hlt y
      have st := step i d hd
      -- from here the heap is H', where Da still holds vs'
      have SB : SR X.K H0 G0 Gc (upd Hb Da (.lst vs')) σ env := (((S.ex x1).ex xb).ex (Ext.hid xb.sub nb))
      have SC := (SB.ex x2).wipe vs
      refine hw x _ H' _ _ (fun σ2 H2 e r => ⟨e.trans (wipe_wipe σ vs), r⟩) (hg H0 G0 G2 H' _ _ x d _ _ SC r2 st fun σ2 env2 S2 q2 => ?_)
      have key : ∀ H3 G3, Ext G2 H' G3 H3 → ∃ Hb3, H3 = upd Hb3 Da (.lst vs') ∧ Ext G1 H1 G3 Hb3 ∧ Hb3 Da = none ∧ Same Gc G3 := fun H3 G3 x3 => by
        have x23 := x2.trans x3
        have eD : H3 Da = some (.lst vs') := x23.hh _ _ upd_same
        have g3D : G3 Da = none := by
          cases z : G3 Da with
          | none => rfl
          | some o =>
            have := x23.new Da (by rw [z]; simp) nGc
            rw [upd_same] at this
            cases this
        refine ⟨fun b => if b = Da then none else H3 b, ?_, ⟨fun b u e => ?_, xb.gg.trans x23.gg, fun b u e => ?_, fun b h1 h2 => ?_⟩, if_pos rfl, x23.gg⟩
        · funext b
          by_cases hb : b = Da
          · subst hb
            rw [eD, upd_same]
          · rw [upd_ne hb]
            exact (if_neg hb).symm
        · have hb : b ≠ Da := ne_of_none e nD
          show (if b = Da then none else H3 b) = some u
          rw [if_neg hb]
          refine x23.hh _ _ ?_
          rw [upd_ne hb]
          exact xb.hh _ _ e
        · have hb : b ≠ Da := ne_of_none e g3D
          show (if b = Da then none else H3 b) = some u
          rw [if_neg hb]
          exact x23.sub _ _ e
        · cases z : Gc b with
          | some o => exact xb.new b (by rw [z]; simp) h2
          | none =>
            have := x23.new b h1 z
            by_cases hb : b = Da
            · subst hb; exact nD
            · rw [upd_ne hb] at this
              exact xb.hh.free this
      refine ht H0 G0 G2 H' σ2 env2 _ (fun _ _ => False) _ (by rw [eK]; exact S2) (fun _ _ _ _ _ _ _ _ _ _ z => z.elim) q2 fun bb H3 G3 x3 q3 => ?_
      cases bb with
      | true =>
        simp only [if_true] at q3 ⊢
        refine he H0 G0 G3 H3 σ2 env2 _ (fun _ _ => False) _ (by rw [eK]; exact S2.ex x3) (fun _ _ _ _ _ _ _ _ _ _ z => z.elim) q3 fun w H4 G4 d4 x4 r4 q4 => ?_
        obtain ⟨Hb4, e4, xb4, n4, s4⟩ := key H4 G4 (x3.trans x4)
        have lt : vs'.length < sizeLine := by
          rw [rr.1]
          exact Nat.lt_of_le_of_lt (List.length_filterMap_le _ _) (by omega)
        refine ⟨vs', by rw [e4, upd_same], lt, by omega, Hb4, G4, vs' ++ [w], zs ++ [some d4], xb4, n4, ?_, by simp [hzl], snoc_all hzl hzR (q4 trivial), ?_⟩
        · rw [e4]
          funext b
          by_cases hb : b = Da
          · subst hb
            rw [upd_same, upd_same]
          · rw [upd_ne hb, upd_ne hb, upd_ne hb]
        · rw [filt_snoc]
          rw [eK] at r4
          exact (rr.same s4).app (.one r4)
      | false =>
        simp only [Bool.false_eq_true, if_false] at q3 ⊢
        obtain ⟨Hb3, e3, xb3, n3, s3⟩ := key H3 G3 x3
        refine ⟨by omega, Hb3, G3, vs', zs ++ [none], xb3, n3, e3, by simp [hzl], snoc_all hzl hzR (q3 trivial), ?_⟩
        rw [filt_snoc]
        simpa using rr.same s3
    · have e : i = items.length := by omega
      subst e
      refine .inl ⟨j.stop _ (xb.gg.trans sG), ?_⟩
      exact gg Da vs' _ Hb Gc _ (x1.trans xb) nb rfl rr (q1 zs (by omega) hzR)
end DL

namespace DL
open PySem PySem.Spec PyProof.Rows L2 LR
/-! ## the same in many contexts -/
section
variable {ι : Type} {Xf : ι → Cx} {X : Cx} {W : WX} {e : Expr} {tg : Expr} {ifs : List Expr}
theorem pd_all {t : DT} (hK : ∀ i, (Xf i).K = X.K) (h : ∀ i, PD (Xf i) W e t) : ∃ te, (∀ i, PE (Xf i) e te) ∧ LE X W te t := by
  refine ⟨fun σ H Q => ∀ i, (h i).of.choose σ H Q, fun i => ⟨fun pins s σ H Q I q => (h i).of.choose_spec.1.run pins s σ H Q I (q i)⟩, fun H0 G0 G H σ env Q ex R S L q g i => ?_⟩
  exact (h i).of.choose_spec.2 H0 G0 G H σ env Q ex R (by rw [hK]; exact S) (by rw [hK]; exact L) q (by rw [hK]; exact g)
theorem pdts_all {t : DTT} (hK : ∀ i, (Xf i).K = X.K) (h : ∀ i, PDTs (Xf i) ifs t) : ∃ te, (∀ i, PTs (Xf i) ifs te) ∧ LT X WN te t := by
  refine ⟨fun σ H Q => ∀ i, (h i).of.choose σ H Q, fun i => ⟨fun pins s σ H Q I q => (h i).of.choose_spec.1.run pins s σ H Q I (q i)⟩, fun H0 G0 G H σ env Q ex R S L q g i => ?_⟩
  exact (h i).of.choose_spec.2 H0 G0 G H σ env Q ex R (by rw [hK]; exact S) (by rw [hK]; exact L) q g
theorem pdg_all {t : DTG} {ix : List Nat} (hK : ∀ i, (Xf i).K = X.K) (h : ∀ i, PDG (Xf i) tg ix t) : ∃ g, (∀ i, PG (Xf i) tg g) ∧ (∀ (H0 G0 G H : Hp) (σ : L2.St) (env : DE) (v : V) (d : D) (Q : DE → Prop) (R : L2.St → Hp → Prop), SR X.K H0 G0 G H σ env → Rep X.K G v d → t d env Q →
    (∀ σ' env', SR X.K H0 G0 G H σ' env' → Q env' → R σ' H) → g v σ H R) ∧ ∀ vs, (∀ i ∈ ix, i ∈ vs) → GIn vs g := by
  refine ⟨fun v σ H R => ∀ i, (h i).of.choose v σ H R, fun i => ⟨fun pins s σ H v u Q I r q => (h i).of.choose_spec.1.run pins s σ H v u Q I r (q i)⟩, fun H0 G0 G H σ env v d Q R S r q g i => ?_, fun vs hv v σ H R R' k q i => (h i).of.choose_spec.2.2 vs hv v σ H R R' k (q i)⟩
  exact (h i).of.choose_spec.2.1 H0 G0 G H σ env v d Q R (by rw [hK]; exact S) (by rw [hK]; exact r) q (by rw [hK]; exact g)
end
section
variable {X : Cx} {W : WX} {a b c e tg : Expr} {es : List Expr} {ta tb tc : DT} {t : DTA} {pos p : Pos}
theorem pdn_lc {elt iter : Expr} {ifs : List Expr} {scope : Scope} {own : List (Str × Nat)} {di : DTI} {dg : DTG} {dt : DTT} {de : DT} {ix : List Nat} (hc : X.calm = true) (hN : X.N.Nodup) (hi : PDI X W tg iter di) (ok : BlkOk X.N X.env.scope scope own) (hx : ∀ i ∈ ix, i ∈ own.map (·.2))
    (hg : ∀ (s : Shared) (H : Hp) (C : Addr) (cl : List (Str × Addr)) (fp : List Addr), PDG (X.blk s H scope (compEnvC scope cl C X.env) fp) tg ix dg) (ht : ∀ (s : Shared) (H : Hp) (C : Addr) (cl : List (Str × Addr)) (fp : List Addr), PDTs (X.blk s H scope (compEnvC scope cl C X.env) fp) ifs dt)
    (he : ∀ (s : Shared) (H : Hp) (C : Addr) (cl : List (Str × Addr)) (fp : List Addr), PD (X.blk s H scope (compEnvC scope cl C X.env) fp) WN elt de) (hs : ∀ x, foldedSetIterable iter X.env x = pure x := by intro _; rfl) :
    PDN X W (.ListComp elt [⟨tg, iter, ifs, 0⟩] scope pos) (dLc di dg dt de (own.map (·.2))) := by
  obtain ⟨ti, pi, li⟩ := hi.of
  let Xf : (Shared × Hp × Addr × List (Str × Addr) × List Addr) → Cx := fun q => X.blk q.1 q.2.1 scope (compEnvC scope q.2.2.2.1 q.2.2.1 X.env) q.2.2.2.2
  obtain ⟨g, pg, lg, ig⟩ := pdg_all (Xf := Xf) (X := X) (fun _ => rfl) fun q => hg q.1 q.2.1 q.2.2.1 q.2.2.2.1 q.2.2.2.2
  obtain ⟨tt, pt, lt⟩ := pdts_all (Xf := Xf) (X := X) (fun _ => rfl) fun q => ht q.1 q.2.1 q.2.2.1 q.2.2.2.1 q.2.2.2.2
  obtain ⟨te, pe, le⟩ := pd_all (Xf := Xf) (X := X) (fun _ => rfl) fun q => he q.1 q.2.1 q.2.2.1 q.2.2.2.1 q.2.2.2.2
  exact ⟨_, pe_lc hc hN pi ok (fun s H C cl fp => pg (s, H, C, cl, fp)) (fun s H C cl fp => pt (s, H, C, cl, fp)) (fun s H C cl fp => pe (s, H, C, cl, fp)) hs, lc_lift rfl li lg (ig _ hx) lt le⟩
/-! ## statements -/
structure DEnds where
  nx : DE → Prop
  rt : D → Prop
  bk : DE → Prop := fun _ => False
  ct : DE → Prop := fun _ => False
  ex : Str → List (Str × D) → DE → Prop := fun _ _ _ => False
abbrev DTS := DEnds → DE → Prop
/-- what the machine wants behind a statement, and what is wanted of the data -/
structure Lk (K : PySem.W.Frag) (H0 G0 G : Hp) (W : WX) (B : Ends) (E : DEnds) : Prop where
  nx : ∀ σ' H' G' env', Same G G' → SR K H0 G0 G' H' σ' env' → E.nx env' → B.nx σ' H'
  bk : ∀ σ' H' G' env', Same G G' → SR K H0 G0 G' H' σ' env' → E.bk env' → B.bk σ' H'
  ct : ∀ σ' H' G' env', Same G G' → SR K H0 G0 G' H' σ' env' → E.ct env' → B.ct σ' H'
  rt : ∀ v H' G' d, Same G G' → Ext G0 H0 G' H' → Rep K G' v d → E.rt d → B.rt v H'
  ex : ∀ (σ' : L2.St) (H' G' : Hp) env' (d : Addr) (x : Str) (fv : List (Str × V)) (fs : List (Str × D)), Same G G' → SR K H0 G0 G' H' σ' env' → H' d = some (.xd fv) → RepF K G' fv fs → E.ex x fs env' → W (.ref (He.ga K x)) (some d) σ' H'
theorem Lk.mono {K : PySem.W.Frag} {H0 G0 G G1 : Hp} {W : WX} {B : Ends} {E : DEnds} (h : Lk K H0 G0 G W B E) (s : Same G G1) : Lk K H0 G0 G1 W B E :=
  ⟨fun σ' H' G' env' s' => h.nx σ' H' G' env' (s.trans s'), fun σ' H' G' env' s' => h.bk σ' H' G' env' (s.trans s'), fun σ' H' G' env' s' => h.ct σ' H' G' env' (s.trans s'), fun v H' G' d s' => h.rt v H' G' d (s.trans s'), fun σ' H' G' env' d x fv fs s' => h.ex σ' H' G' env' d x fv fs (s.trans s')⟩
theorem Lk.le {K : PySem.W.Frag} {H0 G0 G : Hp} {W : WX} {B : Ends} {E : DEnds} (h : Lk K H0 G0 G W B E) (σ : L2.St) (env : DE) : LkE K H0 G0 G W σ env (fun x fs => E.ex x fs env) := fun H' G' d x fv fs s S e r q => h.ex σ H' G' env d x fv fs s S e r q
def LS (X : Cx) (W : WX) (ts : TS) (t : DTS) : Prop := ∀ (H0 G0 G H : Hp) (σ : L2.St) (env : DE) (B : Ends) (E : DEnds), SR X.K H0 G0 G H σ env → Lk X.K H0 G0 G W B E → t E env → ts B σ H
structure PDS (X : Cx) (W : WX) (st : Stmt) (t : DTS) : Prop where
  of : ∃ ts, PS X st ts ∧ LS X W ts t
structure PDSs (X : Cx) (W : WX) (st : List Stmt) (t : DTS) : Prop where
  of : ∃ ts, PSs X st ts ∧ LS X W ts t
variable {st : Stmt} {rest : List Stmt} {t1 t2 : DTS}
def dNext : DTS := fun E env => E.nx env
def dSeq (t u : DTS) : DTS := fun E env => t { E with nx := fun env' => u E env' } env
theorem pdss_nil : PDSs X W [] dNext := ⟨_, pss_nil, fun H0 G0 G H σ env B E S L q => L.nx _ _ _ _ (.refl _) S q⟩
theorem pdss_one (h : PDS X W st t1) : PDSs X W [st] t1 := let ⟨_, p, l⟩ := h.of; ⟨_, pss_one p, l⟩
theorem pdss_cons (h : PDS X W st t1) (hr : PDSs X W rest t2) : PDSs X W (st :: rest) (dSeq t1 t2) := by
  obtain ⟨_, p, l⟩ := h.of
  obtain ⟨_, pr, lr⟩ := hr.of
  refine ⟨_, pss_cons p pr, fun H0 G0 G H σ env B E S L q => l H0 G0 G H σ env _ { E with nx := fun env' => t2 E env' } S ⟨fun σ' H' G' env' s' S' q' => ?_, L.bk, L.ct, L.rt, L.ex⟩ q⟩
  exact lr H0 G0 G' H' σ' env' B E S' (L.mono s') q'
/-- a list of one's own is one no more -/
def dFrz (i : Nat) (t : DTS) : DTS := fun E env => ∃ l, env[i]? = some (.own l) ∧ t E (env.set i (.val (.lst l)))
theorem pdss_frz (i : Nat) (h : PDSs X W rest t1) : PDSs X W rest (dFrz i t1) := by
  obtain ⟨_, p, l⟩ := h.of
  refine ⟨_, p, fun H0 G0 G H σ env B E S L ⟨m, e, q⟩ => ?_⟩
  obtain ⟨G', s, S'⟩ := S.frz e
  exact l H0 G0 G' H σ _ B E S' (L.mono s) q
/-- a cut: what holds behind the first statement, said -/
def dCut (t u : DTS) : DTS := fun E env => ∃ M : DE → Prop, t { E with nx := fun e => True → M e } env ∧ ∀ env', M env' → u E env'
theorem pdss_cut (h : PDS X W st t1) (hr : PDSs X W rest t2) : PDSs X W (st :: rest) (dCut t1 t2) := by
  obtain ⟨_, p, l⟩ := h.of
  obtain ⟨_, pr, lr⟩ := hr.of
  refine ⟨_, pss_cons p pr, fun H0 G0 G H σ env B E S L ⟨M, q, k⟩ => l H0 G0 G H σ env _ { E with nx := fun e => True → M e } S ⟨fun σ' H' G' env' s' S' q' => ?_, L.bk, L.ct, L.rt, L.ex⟩ q⟩
  exact lr H0 G0 G' H' σ' env' B E S' (L.mono s') (k env' (q' trivial))
def dRet (ta : DT) : DTS := fun E env => ta env E.rt (fun x fs => E.ex x fs env)
theorem pds_ret (h : PD X W e ta) : PDS X W (.Return (some e) pos) (dRet ta) := by
  obtain ⟨_, p, l⟩ := h.of
  exact ⟨_, ps_ret p, fun H0 G0 G H σ env B E S L q => l H0 G0 G H σ env _ _ _ S (L.le σ env) q fun v H' G' d x r q' => L.rt v H' G' d x.gg (S.all.trans x) r q'⟩
theorem pds_retN : PDS X W (.Return none pos) (fun E _ => E.rt .non) := ⟨_, ps_retN, fun H0 G0 G H σ env B E S L q => L.rt _ _ _ _ (.refl _) S.all .non q⟩
def dSet (i : Nat) (ta : DT) : DTS := fun E env => ta env (fun d => E.nx (env.set i (.val d))) (fun x fs => E.ex x fs env)
theorem pds_set {i : Nat} {x : Str} {pos' : Pos} (h1 : X.N.Nodup) (h2 : X.N[i]? = some x) (h3 : L2.Loc X.env.scope x) (h : PD X W e ta) (h5 : swapsWith e (some (.Name x pos')) pos.line X.env = pure false := by rfl)
    (h6 : X.fn x = true ∨ X.env.scope.names.lookup x = some .local := by first | exact Or.inl rfl | exact Or.inr rfl) : PDS X W (.Assign [.Name x pos'] e pos) (dSet i ta) := by
  obtain ⟨_, p, l⟩ := h.of
  exact ⟨_, ps_set h1 h2 h3 p h5 h6, fun H0 G0 G H σ env B E S L q => l H0 G0 G H σ env _ _ _ S (L.le σ env) q fun v H' G' d x r q' => L.nx _ _ _ _ x.gg ((S.ex x).set r) q'⟩
def dSetN (i : Nat) (tn : DTN) : DTS := fun E env => tn env (fun l => E.nx (env.set i (.own l))) (fun x fs => E.ex x fs env)
theorem pds_setN {i : Nat} {x : Str} {pos' : Pos} {tn : DTN} (h1 : X.N.Nodup) (h2 : X.N[i]? = some x) (h3 : L2.Loc X.env.scope x) (h : PDN X W e tn) (h5 : swapsWith e (some (.Name x pos')) pos.line X.env = pure false := by rfl)
    (h6 : X.fn x = true ∨ X.env.scope.names.lookup x = some .local := by first | exact Or.inl rfl | exact Or.inr rfl) : PDS X W (.Assign [.Name x pos'] e pos) (dSetN i tn) := by
  obtain ⟨_, p, l⟩ := h.of
  refine ⟨_, ps_set h1 h2 h3 p h5 h6, fun H0 G0 G H σ env B E S L q => l H0 G0 G H σ env _ _ _ S (L.le σ env) q fun p vs H' H1 G' l x n e r q' => ?_⟩
  subst e
  exact L.nx _ _ _ _ x.gg ((S.ex x).setOwn n r) q'
/-- y = [.. for ..] (the comprehension on the right) -/
theorem pds_asgN {i : Nat} {tn : DTN} {te : TE} (hp : PS X st (tAsg te (gName i))) (hl : LN X W te tn) : PDS X W st (dSetN i tn) := by
  refine ⟨_, hp, fun H0 G0 G H σ env B E S L q => hl H0 G0 G H σ env _ _ _ S (L.le σ env) q fun p vs H' H1 G' l x n e r q' => ?_⟩
  subst e
  exact L.nx _ _ _ _ x.gg ((S.ex x).setOwn n r) q'
def dAsg (ta : DT) (g : DTG) : DTS := fun E env => ta env (fun d => g d env E.nx) (fun x fs => E.ex x fs env)
theorem pds_asg {g : DTG} {ix : List Nat} (h : PD X W e ta) (hg : PDG X tg ix g) (h1 : swapsWithSole [tg] e pos.line X.env = pure false := by rfl) (h2 : swappedStores [tg] e X.env = pure none := by rfl)
    (h3 : (assignEach [tg] X.env).map (fun x => x.2) = [assign tg X.env] := by rfl) : PDS X W (.Assign [tg] e pos) (dAsg ta g) := by
  obtain ⟨_, p, l⟩ := h.of
  obtain ⟨_, pg, lg, _⟩ := hg.of
  exact ⟨_, ps_asg p pg h1 h2 h3, fun H0 G0 G H σ env B E S L q => l H0 G0 G H σ env _ _ _ S (L.le σ env) q fun v H' G' d x r q' => lg H0 G0 G' H' σ env v d _ _ (S.ex x) r q' fun σ' env' S' q2 => L.nx _ _ _ _ x.gg S' q2⟩
def dPar (i j : Nat) (ta tb : DT) : DTS := fun E env => ta env (fun x => tb env (fun y => E.nx ((env.set i (.val x)).set j (.val y))) (fun x fs => E.ex x fs env)) (fun x fs => E.ex x fs env)
theorem pds_par {i j : Nat} {x y : Str} {px py pt pt2 : Pos} {kt k2 : Nat} (h0 : X.calm = true) (h1 : X.N.Nodup) (h2 : X.N[i]? = some x) (h3 : X.N[j]? = some y) (h4 : i ≠ j) (h5 : X.env.scope.names.lookup x = some .local) (h6 : X.env.scope.names.lookup y = some .local)
    (ha : PD X W a ta) (hb : PD X W b tb) (hsw : swappedStores [.Tuple [.Name x px, .Name y py] kt pt] (.Tuple [a, b] k2 pt2) X.env = pure (some [x, y]))
    (h7 : swapsWithSole [.Tuple [.Name x px, .Name y py] kt pt] (.Tuple [a, b] k2 pt2) pos.line X.env = pure false := by rfl)
    (hs : starEach [a, b] X.env = (false, eval a X.env) :: starEach [b] X.env := by rfl) (hs2 : starEach [b] X.env = (false, eval b X.env) :: starEach [] X.env := by rfl) :
    PDS X W (.Assign [.Tuple [.Name x px, .Name y py] kt pt] (.Tuple [a, b] k2 pt2) pos) (dPar i j ta tb) := by
  obtain ⟨_, pa, la⟩ := ha.of
  obtain ⟨_, pb, lb⟩ := hb.of
  refine ⟨_, ps_par h0 h1 h2 h3 h4 h5 h6 (pa_cons pa (pa_cons pb pa_nil hs2) hs) hsw h7, fun H0 G0 G H σ env B E S L q => la H0 G0 G H σ env _ _ _ S (L.le σ env) q fun v H1 G1 d x1 r1 q1 => ?_⟩
  refine lb H0 G0 G1 H1 σ env _ _ _ (S.ex x1) ((L.mono x1.gg).le σ env) q1 fun u H2 G2 d2 x2 r2 q2 => ?_
  have S2 := (S.ex x1).ex x2
  exact ⟨v, u, rfl, L.nx _ _ _ _ (x1.gg.trans x2.gg) ((S2.set (r1.same x2.gg)).set r2) q2⟩
def dAug (i : Nat) (f : Int → Int → Int) (ta : DT) : DTS := fun E env => ∃ n, env[i]? = some (.val (.int n)) ∧ ta env (fun d => ∃ m, d = .int m ∧ E.nx (env.set i (.val (.int (f n m))))) (fun x fs => E.ex x fs env)
theorem pds_aug {i : Nat} {x : Str} {op : Operator} {f : Int → Int → Int} {pos' : Pos} (h1 : X.N.Nodup) (h2 : X.N[i]? = some x) (h3 : L2.Loc X.env.scope x) (h : PD X W e ta) (ho : PIp X op (ipI f))
    (h6 : X.fn x = true ∨ X.env.scope.names.lookup x = some .local := by first | exact Or.inl rfl | exact Or.inr rfl) : PDS X W (.AugAssign (.Name x pos') op e pos) (dAug i f ta) := by
  obtain ⟨_, p, l⟩ := h.of
  refine ⟨_, ps_aug h1 h2 h3 p ho h6, fun H0 G0 G H σ env B E S L ⟨n, en, q⟩ => ?_⟩
  obtain ⟨v, ev, rv⟩ := S.val i _ en
  refine ⟨v, ev, l H0 G0 G H σ env _ _ _ S (L.le σ env) q fun u H' G' d x r ⟨m, em, q'⟩ => ?_⟩
  subst em
  exact ⟨n, m, rv.int_inv, r.int_inv, L.nx _ _ _ _ x.gg ((S.ex x).set (.int _)) q'⟩
def dDrop (ta : DT) : DTS := fun E env => ta env (fun _ => E.nx env) (fun x fs => E.ex x fs env)
theorem pds_expr (h : PD X W e ta) (h5 : swapsWith e none pos.line X.env = pure false := by rfl) : PDS X W (.Expr e pos) (dDrop ta) := by
  obtain ⟨_, p, l⟩ := h.of
  exact ⟨_, ps_expr p h5, fun H0 G0 G H σ env B E S L q => l H0 G0 G H σ env _ _ _ S (L.le σ env) q fun v H' G' d x r q' => L.nx _ _ _ _ x.gg (S.ex x) q'⟩
def dIfS (t : DTT) (t1 t2 : DTS) : DTS := fun E env => t env (fun k => if k = true then t1 E env else t2 E env) (fun x fs => E.ex x fs env)
theorem pds_if {A B : List Stmt} {t : DTT} (hc : PDT X W c t) (h1 : PDSs X W A t1) (h2 : PDSs X W B t2) : PDS X W (.If c A B pos) (dIfS t t1 t2) := by
  obtain ⟨_, pc, lc⟩ := hc.of
  obtain ⟨_, p1, l1⟩ := h1.of
  obtain ⟨_, p2, l2⟩ := h2.of
  refine ⟨_, ps_if pc p1 p2, fun H0 G0 G H σ env B E S L q => lc H0 G0 G H σ env _ _ _ S (L.le σ env) q fun k H1 G1 x1 q1 => ?_⟩
  cases k with
  | true => exact l1 H0 G0 G1 H1 σ env B E (S.ex x1) (L.mono x1.gg) q1
  | false => exact l2 H0 G0 G1 H1 σ env B E (S.ex x1) (L.mono x1.gg) q1
theorem pds_pass : PDS X W (.Pass pos) dNext := ⟨_, ps_pass, fun H0 G0 G H σ env B E S L q => L.nx _ _ _ _ (.refl _) S q⟩
theorem pds_break : PDS X W (.Break pos) (fun E env => E.bk env) := ⟨_, ps_break, fun H0 G0 G H σ env B E S L q => L.bk _ _ _ _ (.refl _) S q⟩
theorem pds_cont : PDS X W (.Continue pos) (fun E env => E.ct env) := ⟨_, ps_continue, fun H0 G0 G H σ env B E S L q => L.ct _ _ _ _ (.refl _) S q⟩
theorem pds_never : PDS X W st (fun _ _ => False) := ⟨_, ps_never, fun H0 G0 G H σ env B E S L q => q⟩
theorem pdss_never : PDSs X W rest (fun _ _ => False) := ⟨_, pss_never, fun H0 G0 G H σ env B E S L q => q⟩
/-- for: what holds ahead of each turn -/
def dFor (ti : DTI) (g : DTG) (tb : DTS) : DTS := fun E env => ti env (fun items => ∃ Inv : Nat → DE → Prop, (True → Inv 0 env) ∧ (∀ (i : Nat) x env', items[i]? = some x → Inv i env' → g x env' fun env2 => tb { E with nx := fun e => True → Inv (i + 1) e, ct := fun e => True → Inv (i + 1) e, bk := E.nx } env2) ∧
  ∀ env', Inv items.length env' → E.nx env') (fun x fs => E.ex x fs env)
theorem pds_for {iter : Expr} {body : List Stmt} {di : DTI} {g : DTG} {ix : List Nat} {tb : DTS} (hp : PassesOwn (model X.prog X.w) X.A X.env X.xe) (hc : X.calm = true) (hi : PDI X W tg iter di) (hg : PDG X tg ix g) (hb : PDSs X W body tb)
    (hs : ∀ x, foldedSetIterable iter X.env x = pure x := by intro _; rfl) : PDS X W (.For tg iter body [] pos) (dFor di g tb) := by
  obtain ⟨_, pi, li⟩ := hi.of
  obtain ⟨_, pg, lg, _⟩ := hg.of
  obtain ⟨_, pb, lb⟩ := hb.of
  refine ⟨_, ps_for hp hc pi pg pb hs, fun H0 G0 G H σ env B E S L q => li H0 G0 G H σ env _ _ _ S (L.le σ env) q fun J H1 G1 items x1 j ⟨Iv, i0, step, done⟩ => ?_⟩
  refine ⟨fun i m σ' H' => m = items.length - i ∧ i ≤ items.length ∧ ∃ G' env', Same G1 G' ∧ SR X.K H0 G0 G' H' σ' env' ∧ Iv i env', ⟨items.length, by simp, Nat.zero_le _, G1, env, .refl _, S.ex x1, i0 trivial⟩, ?_⟩
  rintro i m σ' H' ⟨rfl, hi', G', env', sg, S', iv⟩
  by_cases hlt : i < items.length
  · refine .inr ⟨j.go i _ (sg.trans S'.sub) hlt, fun σ2 H2 => ∃ G2 env2, Same G1 G2 ∧ SR X.K H0 G0 G2 H2 σ2 env2 ∧ Iv (i + 1) env2, fun σ2 H2 h2 => ⟨items.length - (i + 1), by omega, rfl, hlt, h2⟩, fun x H2 y => ?_⟩
    obtain ⟨G2, d, hd, x2, r2⟩ := j.yld i _ G' x H2 sg S'.sub hlt y
    refine lg H0 G0 G2 H2 σ' env' x d _ _ (S'.ex x2) r2 (step i d env' hd iv) fun σ3 env3 S3 q3 => ?_
    have s2 : Same G1 G2 := sg.trans x2.gg
    have L2' := L.mono (x1.gg.trans s2)
    exact lb H0 G0 G2 H2 σ3 env3 _ { E with nx := fun e => True → Iv (i + 1) e, ct := fun e => True → Iv (i + 1) e, bk := E.nx } S3 ⟨fun σ4 H4 G4 env4 s4 S4 q4 => ⟨G4, env4, s2.trans s4, S4, q4 trivial⟩, fun σ4 H4 G4 env4 s4 S4 q4 => L2'.nx _ _ _ _ s4 S4 q4, fun σ4 H4 G4 env4 s4 S4 q4 => ⟨G4, env4, s2.trans s4, S4, q4 trivial⟩, L2'.rt, L2'.ex⟩ q3
  · have e : i = items.length := by omega
    subst e
    exact .inl ⟨j.stop _ (sg.trans S'.sub), L.nx _ _ _ _ (x1.gg.trans sg) S' (done env' iv)⟩
/-- while: what holds ahead of each turn, with a measure -/
def dWhile (t : DTT) (tb : DTS) : DTS := fun E env => ∃ Inv : Nat → DE → Prop, (True → ∃ m, Inv m env) ∧ ∀ m env', Inv m env' → t env' (fun k => if k = true then tb { E with nx := fun e2 => True → ∃ m', m' < m ∧ Inv m' e2, ct := fun e2 => True → ∃ m', m' < m ∧ Inv m' e2, bk := E.nx } env' else E.nx env') (fun x fs => E.ex x fs env')
theorem pds_while {body : List Stmt} {t : DTT} {tb : DTS} (hp : PassesOwn (model X.prog X.w) X.A X.env X.xe) (hc : PDT X W c t) (hb : PDSs X W body tb) : PDS X W (.While c body [] pos) (dWhile t tb) := by
  obtain ⟨_, pc, lc⟩ := hc.of
  obtain ⟨_, pb, lb⟩ := hb.of
  refine ⟨_, ps_while hp pc pb, fun H0 G0 G H σ env B E S L ⟨Iv, i00, step⟩ => ?_⟩
  obtain ⟨m0, i0⟩ := i00 trivial
  refine ⟨fun m σ' H' => ∃ G' env', Same G G' ∧ SR X.K H0 G0 G' H' σ' env' ∧ Iv m env', ⟨m0, G, env, .refl _, S, i0⟩, ?_⟩
  rintro m σ' H' ⟨G', env', sg, S', iv⟩
  refine lc H0 G0 G' H' σ' env' _ _ _ S' ((L.mono sg).le σ' env') (step m env' iv) fun k H1 G1 x1 q1 => ?_
  have s1 := sg.trans x1.gg
  have L1 := L.mono s1
  cases k with
  | true =>
    simp only [if_true] at q1 ⊢
    refine ⟨fun σ2 H2 => ∃ m', m' < m ∧ ∃ G2 env2, Same G G2 ∧ SR X.K H0 G0 G2 H2 σ2 env2 ∧ Iv m' env2, fun σ2 H2 h => h, ?_⟩
    exact lb H0 G0 G1 H1 σ' env' _ { E with nx := fun e2 => True → ∃ m', m' < m ∧ Iv m' e2, ct := fun e2 => True → ∃ m', m' < m ∧ Iv m' e2, bk := E.nx } (S'.ex x1) ⟨fun σ4 H4 G4 env4 s4 S4 q => let ⟨m', hm, q4⟩ := q trivial; ⟨m', hm, G4, env4, s1.trans s4, S4, q4⟩, fun σ4 H4 G4 env4 s4 S4 q4 => L1.nx _ _ _ _ s4 S4 q4, fun σ4 H4 G4 env4 s4 S4 q => let ⟨m', hm, q4⟩ := q trivial; ⟨m', hm, G4, env4, s1.trans s4, S4, q4⟩, L1.rt, L1.ex⟩ q1
  | false => exact L1.nx _ _ _ _ (.refl _) (S'.ex x1) q1
/-! lists of one's own -/
def dApp (i : Nat) (ta : DT) : DTS := fun E env => ∃ l, env[i]? = some (.own l) ∧ ta env (fun d => l.length < sizeLine ∧ E.nx (env.set i (.own (l ++ [d])))) (fun x fs => E.ex x fs env)
theorem pds_app {i : Nat} {x : Str} {p1 p2 p3 : Pos} {te : TE → TE} (hv : ∀ {sa : TE}, PE X e sa → PE X c (tBM X.K "list" rAppend (tVar i) (tCons sa tNil))) (h : PD X W e ta) (h5 : swapsWith c none pos.line X.env = pure false := by rfl) : PDS X W (.Expr c pos) (dApp i ta) := by
  obtain ⟨_, p, l⟩ := h.of
  refine ⟨_, ps_expr (hv p) h5, fun H0 G0 G H σ env B E S L ⟨m, em, q⟩ => ?_⟩
  obtain ⟨pp, vs, e3, hp, gp, op, rr⟩ := S.own i m em
  refine ⟨_, e3, .inl ⟨rfl, _, SqL.of hp⟩, l H0 G0 G H σ env _ _ _ S (L.le σ env) q fun v H' G' d x r ⟨hl, q'⟩ => ?_⟩
  have S' := S.ex x
  refine ⟨pp, vs, v, rfl, rfl, x.hh _ _ hp, by rw [rr.1]; exact hl, ?_⟩
  exact L.nx _ _ _ _ x.gg (S'.mutL em e3 ((rr.same x.gg).app (.one r))) q'
def dIxO (i : Nat) (tb : DT) : DT := fun env Q ex => ∃ l, env[i]? = some (.own l) ∧ tb env (fun d => ∃ k x, d = .int k ∧ atI l k = some x ∧ Q x) ex
theorem atI_len {α β : Type} {l : List α} {m : List β} (h : l.length = m.length) {k : Int} {x : α} (e : atI l k = some x) : ∃ j, l[j]? = some x ∧ ixN m.length k = some j ∧ ixN l.length k = some j := by
  unfold atI at e
  cases q : ixN l.length k with
  | none =>
    rw [q] at e
    cases e
  | some j =>
    rw [q] at e
    exact ⟨j, e, by rw [← h]; exact q, rfl⟩
theorem Reps.ix {K : PySem.W.Frag} {G : Hp} {vs : List V} {l : List D} (r : Reps K G vs l) {k : Int} {x : D} (e : atI l k = some x) : ∃ v, atI vs k = some v ∧ Rep K G v x := by
  obtain ⟨j, h1, h2, _⟩ := atI_len (m := vs) r.1.symm e
  obtain ⟨v, hv, rv⟩ := r.at h1
  exact ⟨v, by unfold atI; rw [h2]; exact hv, rv⟩
theorem pd_ixO {i : Nat} (ho : IxR X (rIxL X.K)) (ha : PE X a (tVar i)) (hb : PD X W b tb) (hp : PlainIx b) : PD X W (.Subscript a b pos) (dIxO i tb) := by
  obtain ⟨_, pb, lb⟩ := hb.of
  refine ⟨_, pe_ix ho ha pb hp, fun H0 G0 G H σ env Q ex R S L ⟨m, em, q⟩ g => ?_⟩
  obtain ⟨pp, vs, e3, hp, gp, op, rr⟩ := S.own i m em
  refine ⟨_, e3, lb H0 G0 G H σ env _ ex _ S L q fun v H1 G1 d x1 r1 ⟨k, x, e1, e2, q1⟩ => ?_⟩
  subst e1
  obtain ⟨w, hw, rw⟩ := rr.ix e2
  exact ⟨pp, vs, k, w, rfl, r1.int_inv, SqL.of (x1.hh _ _ hp), hw, g w H1 G1 x x1 (rw.same x1.gg) q1⟩
def dLenO (i : Nat) : DT := fun env Q _ => ∃ l, env[i]? = some (.own l) ∧ Q (.int l.length)
theorem pd_lenO {i : Nat} (mk : ∀ {sa : TE}, PE X a sa → PE X c (tCB (fun xs H Q => ∃ x n, xs = [x] ∧ LenV X.K x H n ∧ Q (.int n) H) (tCons sa tNil))) (ha : PE X a (tVar i)) : PD X W c (dLenO i) := by
  refine ⟨_, mk ha, fun H0 G0 G H σ env Q ex R S L ⟨m, em, q⟩ g => ?_⟩
  obtain ⟨pp, vs, e3, hp, gp, op, rr⟩ := S.own i m em
  exact ⟨_, e3, _, m.length, rfl, .inl ⟨vs, SqL.of hp, rr.1.symm⟩, g _ _ _ _ (.refl S.sub) (.int _) q⟩
/-- xs[k] = e, xs the def's own -/
def dPut (i : Nat) (ta tb : DT) : DTS := fun E env => ta env (fun d => ∃ l, env[i]? = some (.own l) ∧ tb env (fun y => ∃ k j, y = .int k ∧ ixN l.length k = some j ∧ E.nx (env.set i (.own (l.set j d)))) (fun x fs => E.ex x fs env)) (fun x fs => E.ex x fs env)
theorem pds_put {i : Nat} {kk : Pos} (hv : ∀ {sb : TE}, PE X b sb → PG X tg (gSub (tVar i) sb rSetL)) (ha : PD X W e ta) (hb : PD X W b tb) (h1 : swapsWithSole [tg] e pos.line X.env = pure false := by rfl) (h2 : swappedStores [tg] e X.env = pure none := by rfl)
    (h3 : (assignEach [tg] X.env).map (fun x => x.2) = [assign tg X.env] := by rfl) : PDS X W (.Assign [tg] e pos) (dPut i ta tb) := by
  obtain ⟨_, pa, la⟩ := ha.of
  obtain ⟨_, pb, lb⟩ := hb.of
  refine ⟨_, ps_asg pa (hv pb) h1 h2 h3, fun H0 G0 G H σ env B E S L q => la H0 G0 G H σ env _ _ _ S (L.le σ env) q fun v H1 G1 d x1 r1 ⟨m, em, q1⟩ => ?_⟩
  have S1 := S.ex x1
  obtain ⟨pp, vs, e3, hp, gp, op, rr⟩ := S1.own i m em
  refine ⟨_, e3, lb H0 G0 G1 H1 σ env _ _ _ S1 ((L.mono x1.gg).le σ env) q1 fun u H2 G2 y x2 r2 ⟨k, j, ey, hj, q2⟩ => ?_⟩
  subst ey
  refine ⟨pp, vs, k, j, rfl, r2.int_inv, x2.hh _ _ hp, by rw [rr.1]; exact hj, ?_⟩
  exact L.nx _ _ _ _ (x1.gg.trans x2.gg) ((S1.ex x2).mutL em e3 ((rr.same x2.gg).set (r1.same x2.gg) j)) q2
/-- y = [.. for ..] -/
theorem pds_asgLc {i : Nat} {y : Str} {py spos : Pos} {elt iter : Expr} {ifs : List Expr} {scope : Scope} {own : List (Str × Nat)} {di : DTI} {dg : DTG} {dt : DTT} {de : DT} {ix : List Nat} (hc : X.calm = true) (hN : X.N.Nodup) (hy : X.N[i]? = some y) (hyl : X.env.scope.names.lookup y = some .local)
    (hsw : swapsWith (.ListComp elt [⟨tg, iter, ifs, 0⟩] scope pos) (some (.Name y py)) spos.line X.env = pure true) (hi : PDI X W tg iter di) (ok : BlkOk X.N X.env.scope scope own) (hx : ∀ i ∈ ix, i ∈ own.map (·.2))
    (hg : ∀ (s : Shared) (H : Hp) (C : Addr) (cl : List (Str × Addr)) (fp : List Addr), PDG (X.blk s H scope (compEnvC scope cl C X.env) fp) tg ix dg) (ht : ∀ (s : Shared) (H : Hp) (C : Addr) (cl : List (Str × Addr)) (fp : List Addr), PDTs (X.blk s H scope (compEnvC scope cl C X.env) fp) ifs dt)
    (he : ∀ (s : Shared) (H : Hp) (C : Addr) (cl : List (Str × Addr)) (fp : List Addr), PD (X.blk s H scope (compEnvC scope cl C X.env) fp) WN elt de) (hs : ∀ x, foldedSetIterable iter X.env x = pure x := by intro _; rfl) :
    PDS X W (.Assign [.Name y py] (.ListComp elt [⟨tg, iter, ifs, 0⟩] scope pos) spos) (dSetN i (dLc di dg dt de (own.map (·.2)))) ∧ PDS X W (.Assign [.Name y py] (.ListComp elt [⟨tg, iter, ifs, 0⟩] scope pos) spos) (dSet i (dNew (dLc di dg dt de (own.map (·.2))))) := by
  obtain ⟨ti, pi, li⟩ := hi.of
  let Xf : (Shared × Hp × Addr × List (Str × Addr) × List Addr) → Cx := fun q => X.blk q.1 q.2.1 scope (compEnvC scope q.2.2.2.1 q.2.2.1 X.env) q.2.2.2.2
  obtain ⟨g, pg, lg, ig⟩ := pdg_all (Xf := Xf) (X := X) (fun _ => rfl) fun q => hg q.1 q.2.1 q.2.2.1 q.2.2.2.1 q.2.2.2.2
  obtain ⟨tt, pt, lt⟩ := pdts_all (Xf := Xf) (X := X) (fun _ => rfl) fun q => ht q.1 q.2.1 q.2.2.1 q.2.2.2.1 q.2.2.2.2
  obtain ⟨te, pe, le⟩ := pd_all (Xf := Xf) (X := X) (fun _ => rfl) fun q => he q.1 q.2.1 q.2.2.1 q.2.2.2.1 q.2.2.2.2
  have P := ps_setLc (py := py) (spos := spos) hc hN hy hyl hsw pi ok (fun s H C cl fp => pg (s, H, C, cl, fp)) (fun s H C cl fp => pt (s, H, C, cl, fp)) (fun s H C cl fp => pe (s, H, C, cl, fp)) hs
  have l := lc_lift (W := W) rfl li lg (ig _ hx) lt le
  refine ⟨pds_asgN P l, ⟨_, P, fun H0 G0 G H σ env B E S L q => l.le H0 G0 G H σ env _ _ _ S (L.le σ env) q fun v H' G' d x r q' => L.nx _ _ _ _ x.gg ((S.ex x).set r) q'⟩⟩
theorem pds_lcN {i : Nat} {y : Str} {py spos : Pos} {elt iter : Expr} {ifs : List Expr} {scope : Scope} {own : List (Str × Nat)} {di : DTI} {dg : DTG} {dt : DTT} {de : DT} {ix : List Nat} (hc : X.calm = true) (hN : X.N.Nodup) (hy : X.N[i]? = some y) (hyl : X.env.scope.names.lookup y = some .local)
    (hsw : swapsWith (.ListComp elt [⟨tg, iter, ifs, 0⟩] scope pos) (some (.Name y py)) spos.line X.env = pure true) (hi : PDI X W tg iter di) (ok : BlkOk X.N X.env.scope scope own) (hx : ∀ i ∈ ix, i ∈ own.map (·.2))
    (hg : ∀ (s : Shared) (H : Hp) (C : Addr) (cl : List (Str × Addr)) (fp : List Addr), PDG (X.blk s H scope (compEnvC scope cl C X.env) fp) tg ix dg) (ht : ∀ (s : Shared) (H : Hp) (C : Addr) (cl : List (Str × Addr)) (fp : List Addr), PDTs (X.blk s H scope (compEnvC scope cl C X.env) fp) ifs dt)
    (he : ∀ (s : Shared) (H : Hp) (C : Addr) (cl : List (Str × Addr)) (fp : List Addr), PD (X.blk s H scope (compEnvC scope cl C X.env) fp) WN elt de) (hs : ∀ x, foldedSetIterable iter X.env x = pure x := by intro _; rfl) :
    PDS X W (.Assign [.Name y py] (.ListComp elt [⟨tg, iter, ifs, 0⟩] scope pos) spos) (dSetN i (dLc di dg dt de (own.map (·.2)))) := (pds_asgLc hc hN hy hyl hsw hi ok hx hg ht he hs).1
theorem pds_lcV {i : Nat} {y : Str} {py spos : Pos} {elt iter : Expr} {ifs : List Expr} {scope : Scope} {own : List (Str × Nat)} {di : DTI} {dg : DTG} {dt : DTT} {de : DT} {ix : List Nat} (hc : X.calm = true) (hN : X.N.Nodup) (hy : X.N[i]? = some y) (hyl : X.env.scope.names.lookup y = some .local)
    (hsw : swapsWith (.ListComp elt [⟨tg, iter, ifs, 0⟩] scope pos) (some (.Name y py)) spos.line X.env = pure true) (hi : PDI X W tg iter di) (ok : BlkOk X.N X.env.scope scope own) (hx : ∀ i ∈ ix, i ∈ own.map (·.2))
    (hg : ∀ (s : Shared) (H : Hp) (C : Addr) (cl : List (Str × Addr)) (fp : List Addr), PDG (X.blk s H scope (compEnvC scope cl C X.env) fp) tg ix dg) (ht : ∀ (s : Shared) (H : Hp) (C : Addr) (cl : List (Str × Addr)) (fp : List Addr), PDTs (X.blk s H scope (compEnvC scope cl C X.env) fp) ifs dt)
    (he : ∀ (s : Shared) (H : Hp) (C : Addr) (cl : List (Str × Addr)) (fp : List Addr), PD (X.blk s H scope (compEnvC scope cl C X.env) fp) WN elt de) (hs : ∀ x, foldedSetIterable iter X.env x = pure x := by intro _; rfl) :
    PDS X W (.Assign [.Name y py] (.ListComp elt [⟨tg, iter, ifs, 0⟩] scope pos) spos) (dSet i (dNew (dLc di dg dt de (own.map (·.2))))) := (pds_asgLc hc hN hy hyl hsw hi ok hx hg ht he hs).2
end
end DL

namespace DL
open PySem PySem.Spec PyProof.Rows L2 LR
/-! ## a def from its body -/
def start (n : Nat) (ds : List D) : DE := ds.map Sl.val ++ List.replicate (n - ds.length) .no
theorem sr_start {K : PySem.W.Frag} {G H : Hp} {N : List Str} {vs : List V} {ds : List D} (s : Same G H) (r : Reps K G vs ds) : SR K H G G H (L2.start N vs) (start N.length ds) := by
  refine ⟨.refl _, s, .refl _, fun a h1 h2 => absurd h2 h1, by simp [L2.start, start, r.1], fun i t h => ?_, fun i j s t p _ h1 _ m1 => ?_⟩
  · unfold start at h
    by_cases hi : i < ds.length
    · rw [List.getElem?_append_left (by simpa using hi), List.getElem?_map] at h
      obtain ⟨v, hv, rv⟩ := r.at (List.getElem?_eq_getElem hi)
      rw [List.getElem?_eq_getElem hi] at h
      cases h
      refine ⟨v, ?_, rv⟩
      show (vs.map some ++ _)[i]? = _
      rw [List.getElem?_append_left (by simp [r.1, hi]), List.getElem?_map, hv]
      rfl
    · rw [List.getElem?_append_right (by simp; omega), List.getElem?_replicate] at h
      split at h
      · cases h
        trivial
      · cases h
  · unfold start at h1
    by_cases hi : i < ds.length
    · rw [List.getElem?_append_left (by simpa using hi), List.getElem?_map, List.getElem?_eq_getElem hi] at h1
      cases h1
      cases m1
    · rw [List.getElem?_append_right (by simp; omega), List.getElem?_replicate] at h1
      split at h1
      · cases h1
        cases m1
      · cases h1
theorem Fn.of {P : Program} {w : World} {K : PySem.W.Frag} {mg : Str → Option Value} {base : Heap} {x qual : Str} {params : Arguments} {body : List Stmt} {scope : Scope} {f : Addr} {N ps : List Str} {k n : Nat} {Pm : Prm}
    (h : ∃ fd, FunD K x qual params body scope [] [] f fd) (S : FnScope N ps scope) (hn : ps.length = n)
    (hb : ∀ (kV doc pm : Value) (an : Option Addr) (cdv ct : Value) (us : List Value), us.length = ps.length → bindArgs (PySem.W.fnOf x qual params body scope .none kV doc pm an cdv ct) ⟨us, []⟩ = pure (ps.zip us))
    (len : ∀ ds Q ex, Pm ds Q ex → ds.length = n)
    (hbody : ∀ (fd : FuncData) (cdv : Value) (A : Around) (outer : List Env) (s : Shared) (H : Hp) (E : XK), Room k (A.deeper (envOfC qual scope s.heap.objs.size f cdv)) →
      ∃ t, PDSs (cxOf (L2.CX P w) P w K mg base N qual scope f cdv A outer s H E) (fun cls d _ H => E cls d H) body t ∧ ∀ ds Q ex, Pm ds Q ex → t { nx := fun _ => Q .non, rt := Q, ex := fun x fs _ => ex x fs } (start N.length ds)) :
    Nonempty (Fn P w K mg base f (k + 1) n Pm) := by
  suffices ok : Ok P w K mg base f (k + 1) ps (spD K n Pm) by
    obtain ⟨fd, F, b⟩ := ok
    exact ⟨⟨fd, ps, F, b, len⟩⟩
  refine Ok.of (P := P) (w := w) (mg := mg) (base := base) (k := k) (sp := spD K n Pm) h S hb (fun vs H Q E q => q.1.trans hn.symm) (fun fd cdv A outer s H vs Q E hr hs => ?_)
  · obtain ⟨t, pd, q⟩ := hbody fd cdv A outer s H E hr
    obtain ⟨ts, pts, l⟩ := pd.of
    obtain ⟨hv, G, ds, QD, ED, sG, rr, pm, got, out⟩ := hs
    refine ⟨ts, pts, l H G G H _ _ _ { nx := fun _ => QD .non, rt := QD, ex := fun x fs _ => ED x fs } (sr_start sG rr) ⟨fun σ' H' G' env' _ S' q' => ?_, fun σ' H' G' env' _ S' q' => q'.elim, fun σ' H' G' env' _ S' q' => q'.elim, fun v H' G' d _ x r q' => got v H' G' d x r q', fun σ' H' G' env' d x fv fs _ S' e r q' => out H' G' d x fv fs S'.all e r q'⟩ (q ds QD ED pm)⟩
    exact got _ _ _ _ S'.all .non q'
/-! ## an __init__ from its body -/
def startI (n : Nat) (p : Addr) (c : Nat) (ds : List D) : DE := .ob p c [] :: ds.map Sl.val ++ List.replicate (n - (ds.length + 1)) .no
theorem zip_of_map {α β : Type} : ∀ (l : List (α × β)), l = (l.map (·.1)).zip (l.map (·.2))
  | [] => rfl
  | (a, b) :: r => by
    show (a, b) :: r = (a, b) :: (r.map (·.1)).zip (r.map (·.2))
    rw [← zip_of_map r]
theorem sr_startI {K : PySem.W.Frag} {G H : Hp} {N : List Str} {vs : List V} {ds : List D} {p dx : Addr} {c : Nat} (s : Same G H) (hp : H p = some (.ins (He.ga K (cname c)) dx [])) (gp : G p = none) (r : Reps K G vs ds) :
    SR K (del H p) G G H (L2.start N (.ref p :: vs)) (startI N.length p c ds) := by
  have one : ∀ (i : Nat) (t : Sl), (startI N.length p c ds)[i]? = some t → (i = 0 ∧ t = .ob p c []) ∨ ((∃ d, t = .val d ∧ ∃ v, (L2.start N (.ref p :: vs))[i]? = some (some v) ∧ Rep K G v d) ∨ t = .no) := fun i t h => by
    cases i with
    | zero =>
      left
      unfold startI at h
      simp at h
      exact ⟨rfl, h.symm⟩
    | succ i =>
      right
      unfold startI at h
      rw [List.cons_append, List.getElem?_cons_succ] at h
      by_cases hi : i < ds.length
      · rw [List.getElem?_append_left (by simpa using hi), List.getElem?_map, List.getElem?_eq_getElem hi] at h
        cases h
        obtain ⟨v, hv, rv⟩ := r.at (List.getElem?_eq_getElem hi)
        refine .inl ⟨_, rfl, v, ?_, rv⟩
        show (some (V.ref p) :: vs.map some ++ _)[i + 1]? = _
        rw [List.cons_append, List.getElem?_cons_succ, List.getElem?_append_left (by simp [r.1, hi]), List.getElem?_map, hv]
        rfl
      · rw [List.getElem?_append_right (by simp; omega), List.getElem?_replicate] at h
        split at h
        · cases h
          exact .inr rfl
        · cases h
  refine ⟨fun a o h => ?_, s, .refl _, fun a h1 h2 => absurd h2 h1, by simp [L2.start, startI, r.1], fun i t h => ?_, fun i j s t q ij h1 h2 m1 m2 => ?_⟩
  · by_cases ha : a = p
    · subst ha
      rw [del_same] at h
      cases h
    · rw [del_ne ha] at h
      exact h
  · rcases one i t h with ⟨rfl, rfl⟩ | ⟨d, rfl, v, e, rv⟩ | rfl
    · exact ⟨dx, [], rfl, hp, gp, del_same, rfl, .nil⟩
    · exact ⟨v, e, rv⟩
    · trivial
  · rcases one i _ h1 with ⟨rfl, rfl⟩ | ⟨d, rfl, _⟩ | rfl
    · rcases one j _ h2 with ⟨rfl, rfl⟩ | ⟨d, rfl, _⟩ | rfl
      · exact absurd rfl ij
      · cases m2
      · cases m2
    · cases m1
    · cases m1
/-- what an __init__'s body is to reach -/
def endI (p : Addr) (c : Nat) (Q : D → Prop) : DE → Prop := fun env => ∃ fs, env[0]? = some (.ob p c fs) ∧ fs.map (·.1) = shape c ∧ Q (.ins c (fs.map (·.2)))
theorem FnI.body {P : Program} {w : World} {K : PySem.W.Frag} {mg : Str → Option Value} {base : Heap} {qual : Str} {scope : Scope} {f : Addr} {N : List Str} {c n : Nat} {Pm : Prm} {cdv : Value} {A : Around} {outer : List Env} {s : Shared} {H : Hp} {E : XK} {body : List Stmt} {t : DTS} {vs : List V} {Q : VK}
    (pd : PDSs (cxOf (L2.CX P w) P w K mg base N qual scope f cdv A outer s H E) (fun cls d _ H => E cls d H) body t) (q : ∀ p ds Q ex, Pm ds Q ex → t { nx := endI p c Q, rt := fun _ => False, ex := fun x fs _ => ex x fs } (startI N.length p c ds)) (hs : spI K c n Pm vs H Q E) :
    ∃ ts, PSs (cxOf (L2.CX P w) P w K mg base N qual scope f cdv A outer s H E) body ts ∧ ts { nx := fun _ H' => Q .non H', rt := Q } (L2.start N vs) H := by
  obtain ⟨ts, pts, l⟩ := pd.of
  obtain ⟨p, dx, us, G, ds, QD, ED, rfl, hl, hp, sG, gp, rr, pm, made, out⟩ := hs
  have keep : ∀ {H' : Hp}, Same (del H p) H' → ∀ a o, H a = some o → a ≠ p → H' a = some o := fun h a o e ne => h a o ((del_ne ne).trans e)
  have new : ∀ {G' : Hp}, (∀ a, G' a ≠ none → G a = none → del H p a = none) → ∀ a, G' a ≠ none → G a = none → H a = none ∨ a = p := fun h a h1 h2 => by
    by_cases ha : a = p
    · exact .inr ha
    · have := h a h1 h2
      rw [del_ne ha] at this
      exact .inl this
  refine ⟨ts, pts, l (del H p) G G H _ _ _ { nx := endI p c QD, rt := fun _ => False, ex := fun x fs _ => ED x fs } (sr_startI sG hp gp rr) ⟨fun σ' H' G' env' _ S' q' => ?_, fun σ' H' G' env' _ S' q' => q'.elim, fun σ' H' G' env' _ S' q' => q'.elim, fun v H' G' d _ x r q' => q'.elim, fun σ' H' G' env' d x fv fs _ S' e r q' => ?_⟩ (q p ds QD ED pm)⟩
  · obtain ⟨fs, e0, es, q2⟩ := q'
    obtain ⟨dx', fv, e1, hp', gp', _, rf⟩ := S'.slot 0 _ e0
    have gG : Same G' (upd G' p (.ins (He.ga K (cname c)) dx' fv)) := same_new gp'
    have hz : fv = (shape c).zip (fv.map (·.2)) := by
      have := zip_of_map fv
      rw [rf.1, es] at this
      exact this
    have rl : (fv.map (·.2)).length = (fs.map (·.2)).length := rf.2.1
    have ml : (shape c).length = (fv.map (·.2)).length := by rw [← es, rl]; simp
    refine made H' (upd G' p (.ins (He.ga K (cname c)) dx' fv)) _ (keep S'.same) (S'.g0.trans gG) (fun b u e => ?_) (fun a h1 h2 => ?_) (.ins (dx := dx') ?_ ml rl (rf.2.same gG).2) q2
    · by_cases hb : b = p
      · subst hb
        rw [upd_same] at e
        cases e
        exact hp'
      · rw [upd_ne hb] at e
        exact S'.sub b u e
    · by_cases ha : a = p
      · exact .inr ha
      · rw [upd_ne ha] at h1
        exact new S'.ext a h1 h2
    · rw [upd_same, ← hz]
  · exact out H' G' d x fv fs (keep S'.same) S'.g0 S'.sub (new S'.ext) e r q'
theorem spI_len {K : PySem.W.Frag} {c n : Nat} {Pm : Prm} {vs : List V} {H : Hp} {Q : VK} {E : XK} (h : spI K c n Pm vs H Q E) : vs.length = n + 1 := by
  obtain ⟨p, dx, us, G, ds, QD, ED, rfl, hl, _⟩ := h
  simp [hl]
/-- all parameters given -/
theorem FnI.of {P : Program} {w : World} {K : PySem.W.Frag} {mg : Str → Option Value} {base : Heap} {x qual : Str} {params : Arguments} {body : List Stmt} {scope : Scope} {f : Addr} {N ps : List Str} {k c n : Nat} {Pm : Prm}
    (h : ∃ fd, FunD K x qual params body scope [] [] f fd) (S : FnScope N ps scope) (hn : ps.length = n + 1)
    (hb : ∀ (kV doc pm : Value) (an : Option Addr) (cdv ct : Value) (us : List Value), us.length = ps.length → bindArgs (PySem.W.fnOf x qual params body scope .none kV doc pm an cdv ct) ⟨us, []⟩ = pure (ps.zip us))
    (len : ∀ ds Q ex, Pm ds Q ex → ds.length = n)
    (hbody : ∀ (fd : FuncData) (cdv : Value) (A : Around) (outer : List Env) (s : Shared) (H : Hp) (E : XK), Room k (A.deeper (envOfC qual scope s.heap.objs.size f cdv)) →
      ∃ t, PDSs (cxOf (L2.CX P w) P w K mg base N qual scope f cdv A outer s H E) (fun cls d _ H => E cls d H) body t ∧ ∀ p ds Q ex, Pm ds Q ex → t { nx := endI p c Q, rt := fun _ => False, ex := fun x fs _ => ex x fs } (startI N.length p c ds)) :
    Nonempty (FnI P w K mg base f (k + 1) c n Pm [] []) := by
  have ok := Ok.of (P := P) (w := w) (mg := mg) (base := base) (k := k) (sp := spI K c n Pm) h S hb (fun vs H Q E q => (spI_len q).trans hn.symm) (fun fd cdv A outer s H vs Q E hr hs => by
    obtain ⟨t, pd, q⟩ := hbody fd cdv A outer s H E hr
    exact FnI.body pd q hs)
  obtain ⟨fd, F, b⟩ := ok
  exact ⟨⟨fd, ps, F, [], .nil, b, len⟩⟩
/-- the last parameter may be left out -/
theorem FnI.ofD {P : Program} {w : World} {K : PySem.W.Frag} {mg : Str → Option Value} {base : Heap} {x qual : Str} {params : Arguments} {body : List Stmt} {scope : Scope} {f : Addr} {N ps : List Str} {k c n : Nat} {Pm : Prm} {dv : V} {dd : D}
    (h : ∃ fd, FunD K x qual params body scope [dv] [] f fd) (S : FnScope N ps scope) (hn : ps.length = n + 1)
    (hb : ∀ (n : Nat), (n = ps.length ∨ n + 1 = ps.length) → ∀ (T : Addr) (kV doc pm : Value) (an : Option Addr) (cdv ct : Value) (us its : List Value), us.length = n → its.length = 1 →
      ∃ k, bindArgs (PySem.W.fnOf x qual params body scope (.ref T) kV doc pm an cdv ct) ⟨us, []⟩ = seqItems? (.ref T) >>= k ∧ k (some its.toArray) = pure (ps.zip (us ++ its.drop (n + 1 - ps.length))))
    (len : ∀ ds Q ex, Pm ds Q ex → ds.length = n)
    (hbody : ∀ (fd : FuncData) (cdv : Value) (A : Around) (outer : List Env) (s : Shared) (H : Hp) (E : XK), Room k (A.deeper (envOfC qual scope s.heap.objs.size f cdv)) →
      ∃ t, PDSs (cxOf (L2.CX P w) P w K mg base N qual scope f cdv A outer s H E) (fun cls d _ H => E cls d H) body t ∧ ∀ p ds Q ex, Pm ds Q ex → t { nx := endI p c Q, rt := fun _ => False, ex := fun x fs _ => ex x fs } (startI N.length p c ds)) :
    Nonempty (FnI P w K mg base f (k + 1) c n Pm [] []) ∧ Nonempty (FnI P w K mg base f (k + 1) c n Pm [dv] [dd]) := by
  have ok := OkD.of (P := P) (w := w) (mg := mg) (base := base) (k := k) (sp := spI K c n Pm) h S hb (by omega) (fun vs H Q E q => (spI_len q).trans hn.symm) (fun fd cdv A outer s H vs Q E hr hs => by
    obtain ⟨t, pd, q⟩ := hbody fd cdv A outer s H E hr
    exact FnI.body pd q hs)
  obtain ⟨fd, F, b, ds, hv, b2⟩ := ok
  exact ⟨⟨⟨fd, ps, F, [], .nil, b, len⟩⟩, ⟨⟨fd, ps, F, ds, hv, b2, len⟩⟩⟩
/-! ## stores of fields -/
section
variable {X : Cx} {W : WX} {a b c e o tg : Expr} {es : List Expr} {ta tb tc : DT} {t : DTA} {pos p : Pos}
theorem putF_new {f : Str} {v : V} : ∀ {fv : List (Str × V)}, f ∉ fv.map (·.1) → putF f v fv = fv ++ [(f, v)]
  | [], _ => rfl
  | (g, w) :: r, h => by
    have h1 : g ≠ f := fun z => h (by simp [z])
    have h2 : f ∉ r.map (·.1) := fun z => h (by simp at z ⊢; exact .inr z)
    unfold putF
    rw [if_neg h1, putF_new h2]
    rfl
theorem RepF.snoc {K : PySem.W.Frag} {G : Hp} {fv : List (Str × V)} {fs : List (Str × D)} {f : Str} {v : V} {d : D} (r : RepF K G fv fs) (rv : Rep K G v d) : RepF K G (fv ++ [(f, v)]) (fs ++ [(f, d)]) := by
  refine ⟨by simp [r.1], ?_⟩
  rw [List.map_append, List.map_append]
  exact r.2.app (.one rv)
def dFst (i c : Nat) (f : Str) (ta : DT) : DTS := fun E env => ta env (fun d => ∃ p fs, env[i]? = some (.ob p c fs) ∧ fs.length < 1000 ∧ f ∉ fs.map (·.1) ∧ E.nx (env.set i (.ob p c (fs ++ [(f, d)])))) (fun x fs => E.ex x fs env)
theorem pds_fst {i c : Nat} {f : Str} {st : Stmt} (cl : Cls X.K (He.ga X.K (cname c))) (na : NoAttr X.K (He.ga X.K (cname c)) f) (mk : ∀ {te : TE}, PE X e te → PS X st (sFld X.K (tVar i) te f)) (h : PD X W e ta) : PDS X W st (dFst i c f ta) := by
  obtain ⟨_, p, l⟩ := h.of
  refine ⟨_, mk p, fun H0 G0 G H σ env B E S L q => l H0 G0 G H σ env _ _ _ S (L.le σ env) q fun v H1 G1 d x1 r1 ⟨pp, fs, ee, hl, nf, q1⟩ => ?_⟩
  have S1 := S.ex x1
  obtain ⟨dx, fv, e3, hp, gp, op, rf⟩ := S1.slot i _ ee
  refine ⟨_, e3, pp, _, dx, fv, rfl, hp, cl, na, ?_, ?_⟩
  · have := rf.2.1
    simp at this
    omega
  · rw [putF_new (by rw [rf.1]; exact nf)]
    exact L.nx _ _ _ _ x1.gg (S1.mut (t := .ob pp c (fs ++ [(f, _)])) ee rfl rfl e3 (fun fv z => by rw [hp] at z; cases z) ⟨dx, _, rfl, upd_same, gp, op, rf.snoc r1⟩) q1
/-! ## own errors -/
/-- where an error's fields come from: an argument, a word -/
abbrev Xsh := List (Str × (Nat ⊕ Str))
def xV (sh : Xsh) (ws : List V) : List (Str × V) := sh.map fun q => (q.1, match q.2 with | .inl k => ws.getD k .non | .inr w => .str w)
def xD (sh : Xsh) (ws : List D) : List (Str × D) := sh.map fun q => (q.1, match q.2 with | .inl k => ws.getD k .non | .inr w => .str w)
theorem x_rep {K : PySem.W.Frag} {G : Hp} (sh : Xsh) {ws : List V} {ds : List D} (r : Reps K G ws ds) : RepF K G (xV sh ws) (xD sh ds) := by
  refine ⟨by simp [xV, xD], by simp [xV, xD], fun i v d h1 h2 => ?_⟩
  unfold xV at h1
  unfold xD at h2
  rw [List.map_map, List.getElem?_map] at h1 h2
  cases e : sh[i]? with
  | none =>
    rw [e] at h1
    cases h1
  | some q =>
    rw [e] at h1 h2
    obtain ⟨f, s⟩ := q
    cases s with
    | inl k =>
      cases h1
      cases h2
      show Rep K G (ws.getD k .non) (ds.getD k .non)
      by_cases hk : k < ws.length
      · have hk' : k < ds.length := by rw [← r.1]; exact hk
        rw [List.getD_eq_getElem?_getD, List.getD_eq_getElem?_getD, List.getElem?_eq_getElem hk, List.getElem?_eq_getElem hk']
        exact r.2 k _ _ (List.getElem?_eq_getElem hk) (List.getElem?_eq_getElem hk')
      · rw [List.getD_eq_getElem?_getD, List.getD_eq_getElem?_getD, List.getElem?_eq_none (by omega), List.getElem?_eq_none (by rw [← r.1]; omega)]
        exact .non
    | inr w =>
      cases h1
      cases h2
      exact .str w
/-- the promise of an error's __init__ -/
def spX (K : PySem.W.Frag) (x : Str) (n : Nat) (sh : Xsh) : Sp := fun vs H Q _ => ∃ (a : Addr) (ws : List V), vs = .ref a :: ws ∧ ws.length = n ∧ H a = some (exo a (He.ga K x) none) ∧
  ∀ (H' : Hp) (dx : Addr), (∀ b o, H b = some o → b ≠ a → H' b = some o) → H dx = none → dx ≠ a → H' a = some (exo a (He.ga K x) (some dx)) → H' dx = some (exd dx (xV sh ws)) → Q .non H'
structure FnX (P : Program) (w : World) (K : PySem.W.Frag) (mg : Str → Option Value) (base : Heap) (f : Addr) (k : Nat) (x : Str) (n : Nat) (sh : Xsh) where
  fd : FuncData
  ps : List Str
  ok : FnOk P w K mg base (L2.CX P w) k f fd ps (spX K x n sh)
  bd : Binds K fd ps []
def dRaise (x : Str) (n : Nat) (sh : Xsh) (t : DTA) : DTS := fun E env => t env (fun ds => ds.length = n ∧ n ≤ 1000 ∧ E.ex x (xD sh ds) env) (fun x fs => E.ex x fs env)
theorem lk_raise {K : PySem.W.Frag} {H0 G0 G : Hp} {W : WX} {B : Ends} {E : DEnds} {σ : L2.St} {env : DE} {x : Str} {n : Nat} {sh : Xsh} {H1 G1 : Hp} {ws : List V} {ds : List D} {dvs : List V} (L : Lk K H0 G0 G W B E) (S : SR K H0 G0 G1 H1 σ env) (s : Same G G1) (r : Reps K G1 ws ds) (hn : ds.length = n) (q : E.ex x (xD sh ds) env) (hd : dvs = []) :
    ∀ a, H1 a = none → spX K x n sh (.ref a :: (ws ++ dvs)) (upd H1 a (exo a (He.ga K x) none)) (fun v H2 => v = .non ∧ ∃ d fs, H2 a = some (exo a (He.ga K x) (some d)) ∧ H2 d = some (exd d fs) ∧ H1 d = none ∧ W (.ref (He.ga K x)) (some d) σ (upd (del H2 a) d (.xd fs))) (fun _ _ _ => False) := by
  intro a na
  subst hd
  refine ⟨a, ws, by simp, by rw [r.1, hn], upd_same, fun H' dx keep nd ne ea ed => ⟨rfl, dx, _, ea, ed, ?_, ?_⟩⟩
  · rw [upd_ne ne] at nd
    exact nd
  · have nd1 : H1 dx = none := by rw [upd_ne ne] at nd; exact nd
    have x1 : Ext G1 H1 G1 (upd (del H' a) dx (.xd (xV sh ws))) := by
      refine ⟨fun b o e => ?_, .refl _, fun b o e => ?_, fun b h1 h2 => absurd h2 h1⟩
      · have hb1 : b ≠ dx := ne_of_none e nd1
        have hb2 : b ≠ a := ne_of_none e na
        rw [upd_ne hb1, del_ne hb2]
        exact keep b o ((upd_ne hb2).trans e) hb2
      · have e' := S.sub b o e
        have hb1 : b ≠ dx := ne_of_none e' nd1
        have hb2 : b ≠ a := ne_of_none e' na
        rw [upd_ne hb1, del_ne hb2]
        exact keep b o ((upd_ne hb2).trans e') hb2
    exact L.ex σ _ G1 env dx x _ _ s (S.ex x1) upd_same (x_rep sh r) q
theorem pds_raise {x : Str} {n : Nat} {sh : Xsh} {r : Expr} (hc : X.calm = true) (tk : Takes X W) (mk : ∀ {sa : TA}, PA X es sa → PMk X r (tMkO (He.ga X.K x) (spX X.K x n sh) [] sa)) (ha : PDA X W es t) : PDS X W (.Raise (some r) none pos) (dRaise x n sh t) := by
  obtain ⟨_, pa, la⟩ := ha.of
  refine ⟨_, ps_raise hc tk (mk pa), fun H0 G0 G H σ env B E S L q => la H0 G0 G H σ env _ _ _ S (L.le σ env) q fun vs H1 G1 ds x1 r1 ⟨hn, h3, q1⟩ => ⟨by rw [r1.1, hn]; exact h3, ?_⟩⟩
  exact lk_raise L (S.ex x1) x1.gg r1 hn q1 rfl
theorem pds_raise0 {x : Str} {sh : Xsh} {r : Expr} (hc : X.calm = true) (tk : Takes X W) (mk : PMk X r (tMkO (He.ga X.K x) (spX X.K x 0 sh) [] tNil)) : PDS X W (.Raise (some r) none pos) (fun E env => E.ex x (xD sh []) env) :=
  ⟨_, ps_raise hc tk mk, fun H0 G0 G H σ env B E S L q => ⟨Nat.zero_le _, lk_raise L S (.refl _) .nil rfl q rfl⟩⟩
/-! ## try, one clause -/
def dTry (K : PySem.W.Frag) (x : Str) (i : Nat) (tb : DTS) (ts : Addr → Value → Option Addr → DTS) : DTS := fun E env => tb { E with ex := fun y fs e => (y = x ∧ ∀ a dd, ts a (.ref (He.ga K x)) (some dd) { nx := fun e => E.nx (e.set i .no), rt := E.rt, bk := fun e => E.bk (e.set i .no), ct := fun e => E.ct (e.set i .no) } (e.set i (.exc a dd x fs))) ∨
  (PySem.W.exmOne K (.ref (He.ga K y)) (.ref (He.ga K x)) = some false ∧ E.ex y fs e) } env
theorem pds_try {x n : Str} {i : Nat} {body suite : List Stmt} {b₀ : Stmt} {np pos' : Pos} {tb : DTS} {ts : Addr → Value → Option Addr → DTS} (hs : X.stack = X.env :: X.outer) (hf : X.env.frame = some X.env.locals) (hN : X.N.Nodup) (hi : X.N[i]? = some n) (hln : X.env.kindOf n = some .local)
    (hc : Names X x (.ref (He.ga X.K x))) (hm : PySem.W.exmOne X.K (.ref (He.ga X.K x)) (.ref (He.ga X.K x)) = some true) (tk : Takes X W)
    (hb : ∀ (W' : WX) (pn : List (Addr × Obj)) (xe : Value → Shared → Prop), Takes (X.tr pn xe) W' → PassesOwn (model X.prog X.w) X.A X.env xe → PDSs (X.tr pn xe) W' body tb)
    (hsu : ∀ (a : Addr) (oe : Obj) (cls : Value) (d : Option Addr) (pn : List (Addr × Obj)), Zc cls d oe → (∃ vs, oe.data = .fields vs) → PDSs (X.suite a ((a, oe) :: pn)) WN (b₀ :: suite) (ts a cls d)) :
    PDS X W (.Try body [.ExceptHandler (some (.Name x np)) (some n) (b₀ :: suite) pos'] [] [] pos) (dTry X.K x i tb ts) := by
  refine ⟨_, ps_try_as (Wout := W) (tb := fun W' B σ H => ∀ pn xe (h1 : Takes (X.tr pn xe) W') (h2 : PassesOwn (model X.prog X.w) X.A X.env xe), (hb W' pn xe h1 h2).of.choose B σ H)
    (ts := fun a cls d B σ H => ∀ oe pn (h1 : Zc cls d oe) (h2 : ∃ vs, oe.data = .fields vs), (hsu a oe cls d pn h1 h2).of.choose B σ H) hs hf hN hi hln hc tk
    (fun W' pn xe h1 h2 => ⟨fun pins s σ H B I q => (hb W' pn xe h1 h2).of.choose_spec.1.run pins s σ H B I (q pn xe h1 h2)⟩)
    (fun a oe cls d pn h1 h2 => ⟨fun pins s σ H B I q => (hsu a oe cls d pn h1 h2).of.choose_spec.1.run pins s σ H B I (q oe pn h1 h2)⟩), fun H0 G0 G H σ env B E S L q => ?_⟩
  intro pn xe h1 h2
  refine (hb _ pn xe h1 h2).of.choose_spec.2 H0 G0 G H σ env _ { E with ex := fun y fs e => (y = x ∧ ∀ a dd, ts a (.ref (He.ga X.K x)) (some dd) { nx := fun e => E.nx (e.set i .no), rt := E.rt, bk := fun e => E.bk (e.set i .no), ct := fun e => E.ct (e.set i .no) } (e.set i (.exc a dd x fs))) ∨
    (PySem.W.exmOne X.K (.ref (He.ga X.K y)) (.ref (He.ga X.K x)) = some false ∧ E.ex y fs e) } S ⟨L.nx, L.bk, L.ct, L.rt, fun σ' H' G' env' dd y fv fs s' S' e r q' => ?_⟩ q
  rcases q' with ⟨rfl, q'⟩ | ⟨hn, q'⟩
  · refine ⟨true, hm, fun _ a na oe pn h1 h2 => ?_, fun z => Bool.noConfusion z⟩
    have S2 : SR X.K H0 G0 G' H' (σ'.set i (some (.ref a))) (env'.set i (.exc a dd y fs)) := S'.put i _ _ ⟨fv, rfl, e, r⟩ (fun z => by cases z)
    have L2 := L.mono s'
    exact (hsu a oe _ _ pn h1 h2).of.choose_spec.2 H0 G0 G' H' _ _ _ { nx := fun e => E.nx (e.set i .no), rt := E.rt, bk := fun e => E.bk (e.set i .no), ct := fun e => E.ct (e.set i .no) } S2 ⟨fun σ4 H4 G4 env4 s4 S4 q4 => L2.nx _ _ _ _ s4 S4.unset q4, fun σ4 H4 G4 env4 s4 S4 q4 => L2.bk _ _ _ _ s4 S4.unset q4, fun σ4 H4 G4 env4 s4 S4 q4 => L2.ct _ _ _ _ s4 S4.unset q4, L2.rt, fun _ _ _ _ _ _ _ _ _ _ _ _ z => z.elim⟩ (q' a dd)
  · exact ⟨false, hn, fun z => Bool.noConfusion z, fun _ => L.ex σ' H' G' env' dd y fv fs s' S' e r q'⟩
/-- e.f of a caught error -/
def dXf (K : PySem.W.Frag) (i : Nat) (x : Str) (f : Str) (a : Addr) (cls : Value) (d : Option Addr) : DT := fun env Q _ => ∃ dd fs y, env[i]? = some (.exc a dd x fs) ∧ cls = .ref (He.ga K x) ∧ d = some dd ∧ fs.lookup f = some y ∧ Q y
theorem lookup_rep {K : PySem.W.Frag} {G : Hp} {f : Str} {y : D} : ∀ {fs : List (Str × D)} {fv : List (Str × V)}, RepF K G fv fs → fs.lookup f = some y → ∃ v, fv.lookup f = some v ∧ Rep K G v y
  | [], _, _, h => by cases h
  | (g, z) :: fs, [], r, h => absurd r.1 (by simp)
  | (g, z) :: fs, (g', v) :: fv, r, h => by
    have e1 := r.1
    simp at e1
    obtain ⟨rfl, e1⟩ := e1
    by_cases hf : f = g'
    · have hb : (f == g') = true := beq_iff_eq.mpr hf
      simp only [List.lookup, hb] at h ⊢
      cases h
      exact ⟨v, rfl, r.2.2 0 v _ rfl rfl⟩
    · have hb : (f == g') = false := beq_eq_false_iff_ne.mpr hf
      simp only [List.lookup, hb] at h ⊢
      exact lookup_rep ⟨e1, by have := r.2.1; simp at this; simpa using this, fun i v d h1 h2 => r.2.2 (i + 1) v d (by simpa using h1) (by simpa using h2)⟩ h
theorem pd_xf {i : Nat} {x f : Str} {a : Addr} {cls : Value} {d : Option Addr} (K : PySem.W.Frag) (hK : X.K = K) (mk : PE X e (tXf a cls d (He.ga K x) f (tVar i))) : PD X W e (dXf K i x f a cls d) := by
  subst hK
  refine ⟨_, mk, fun H0 G0 G H σ env Q ex R S L ⟨dd, fs, y, e1, e2, e3, hl, q⟩ g => ?_⟩
  obtain ⟨fv, e4, hd, rf⟩ := S.slot i _ e1
  obtain ⟨v, hv, rv⟩ := lookup_rep rf hl
  exact ⟨_, e4, rfl, e2, dd, fv, v, e3, hd, hv, g v H G y (.refl S.sub) rv q⟩
/-- isinstance(e, C) of a caught error -/
def dXi (K : PySem.W.Frag) (i : Nat) (x : Str) (cv : Value) (a : Addr) (cls : Value) (d : Option Addr) : DT := fun env Q _ => ∃ dd fs b, env[i]? = some (.exc a dd x fs) ∧ cls = .ref (He.ga K x) ∧ d = some dd ∧ PySem.W.kitOne K (.ref (He.ga K x)) cv = some b ∧ Q (.bl b)
theorem pd_xi {i : Nat} {x : Str} {a : Addr} {cls cv : Value} {d : Option Addr} {c : V} (K : PySem.W.Frag) (hK : X.K = K) (hc : ClsV c cv) (mk : PE X e (tCB (rIsD K (He.ga K x) a cls d) (tCons (tVar i) (tCons (tC c) tNil)))) : PD X W e (dXi K i x cv a cls d) := by
  subst hK
  refine ⟨_, mk, fun H0 G0 G H σ env Q ex R S L ⟨dd, fs, b, e1, e2, e3, hk, q⟩ g => ?_⟩
  obtain ⟨fv, e4, hd, rf⟩ := S.slot i _ e1
  exact ⟨_, e4, c, cv, b, dd, fv, rfl, e2, e3, hd, hc, hk, g _ H G _ (.refl S.sub) (.bl b) q⟩
end
end DL

namespace DL
open PySem PySem.Spec PyProof.Rows L2 LR
section
variable {K : PySem.W.Frag} {X : Cx} {W : WX}
/-! ## ints -/
def dI (C : Int → Int → Prop) (f : Int → Int → Int) : R2D := fun a b Q => ∃ i j, a = .int i ∧ b = .int j ∧ C i j ∧ Q (.int (f i j))
def dI0 (f : Int → Int → Int) : R2D := fun a b Q => ∃ i j, a = .int i ∧ b = .int j ∧ Q (.int (f i j))
def dB0 (f : Int → Int → Bool) : R2D := fun a b Q => ∃ i j, a = .int i ∧ b = .int j ∧ Q (.bl (f i j))
theorem l_I {C : Int → Int → Prop} {f : Int → Int → Int} : L2R K (rI C fun i j => .int (f i j)) (dI C f) := fun G H x y a b Q R s r1 r2 ⟨i, j, e1, e2, c, q⟩ g => by
  subst e1 e2
  exact ⟨i, j, r1.int_inv, r2.int_inv, c, g _ H G _ (.refl s) (.int _) q⟩
theorem l_I0 {f : Int → Int → Int} : L2R K (rI0 fun i j => .int (f i j)) (dI0 f) := fun G H x y a b Q R s r1 r2 ⟨i, j, e1, e2, q⟩ g => by
  subst e1 e2
  exact ⟨i, j, r1.int_inv, r2.int_inv, g _ H G _ (.refl s) (.int _) q⟩
theorem l_B0 {f : Int → Int → Bool} : L2R K (rI0 fun i j => .bl (f i j)) (dB0 f) := fun G H x y a b Q R s r1 r2 ⟨i, j, e1, e2, q⟩ g => by
  subst e1 e2
  exact ⟨i, j, r1.int_inv, r2.int_inv, g _ H G _ (.refl s) (.bl _) q⟩
def dU (f : Int → Int) : D → (D → Prop) → Prop := fun a Q => ∃ i, a = .int i ∧ Q (.int (f i))
theorem l_U {f : Int → Int} : L1R K (rU fun i => .int (f i)) (dU f) := fun G H x a Q R s r ⟨i, e, q⟩ g => by
  subst e
  exact ⟨i, r.int_inv, g _ H G _ (.refl s) (.int _) q⟩
/-- == of scalars -/
def eqS : D → D → Option Bool
  | .non, .non => some true | .non, .int _ => some false | .int _, .non => some false | .non, .bl _ => some false | .bl _, .non => some false | .non, .str _ => some false | .str _, .non => some false
  | .int i, .int j => some (decide (i = j)) | .bl a, .bl b => some (a == b) | .str s, .str t => some (decide (s = t)) | .int _, .str _ => some false | .str _, .int _ => some false | .bl _, .str _ => some false | .str _, .bl _ => some false
  | _, _ => none
def dEq : R2D := fun a b Q => ∃ k, eqS a b = some k ∧ Q (.bl k)
def dNe : R2D := fun a b Q => ∃ k, eqS a b = some k ∧ Q (.bl (!k))
theorem eqS_ok {G : Hp} {x y : V} {a b : D} {k : Bool} (r1 : Rep K G x a) (r2 : Rep K G y b) (h : eqS a b = some k) : scal x y = true ∧ decide (x = y) = k := by
  cases a <;> cases b <;> first
    | (cases h; done)
    | (cases r1; cases r2; cases h; refine ⟨rfl, ?_⟩; first | (simp; done) | (rw [Bool.eq_iff_iff]; simp))
theorem l_eq : L2R K rEq dEq := fun G H x y a b Q R s r1 r2 ⟨k, e, q⟩ g => by
  obtain ⟨h1, h2⟩ := eqS_ok r1 r2 e
  exact ⟨h1, by rw [h2]; exact g _ H G _ (.refl s) (.bl _) q⟩
theorem l_ne : L2R K rNe dNe := fun G H x y a b Q R s r1 r2 ⟨k, e, q⟩ g => by
  obtain ⟨h1, h2⟩ := eqS_ok r1 r2 e
  exact ⟨h1, by rw [h2]; exact g _ H G _ (.refl s) (.bl _) q⟩
def isN : D → Bool
  | .non => true | _ => false
theorem isN_ok {G : Hp} {x : V} {a : D} (r : Rep K G x a) : decide (x = .non) = isN a := by
  cases r <;> simp [isN]
def dIsN : R2D := fun a b Q => b = .non ∧ Q (.bl (isN a))
def dNotN : R2D := fun a b Q => b = .non ∧ Q (.bl (!isN a))
theorem l_isN : L2R K (fun x y H Q => y = .non ∧ Q (.bl (decide (x = .non))) H) dIsN := fun G H x y a b Q R s r1 r2 ⟨e, q⟩ g => by
  subst e
  exact ⟨r2.non_inv, by rw [isN_ok r1]; exact g _ H G _ (.refl s) (.bl _) q⟩
theorem l_notN : L2R K (fun x y H Q => y = .non ∧ Q (.bl (!decide (x = .non))) H) dNotN := fun G H x y a b Q R s r1 r2 ⟨e, q⟩ g => by
  subst e
  exact ⟨r2.non_inv, by rw [isN_ok r1]; exact g _ H G _ (.refl s) (.bl _) q⟩
/-! ## texts, lists -/
def dAddS : R2D := fun a b Q => ∃ i j, a = .str i ∧ b = .str j ∧ i.length + j.length ≤ sizeLine ∧ Q (.str (i ++ j))
theorem l_addS : L2R K (fun x y H Q => ∃ i j, x = .str i ∧ y = .str j ∧ i.length + j.length ≤ sizeLine ∧ Q (.str (i ++ j)) H) dAddS := fun G H x y a b Q R s r1 r2 ⟨i, j, e1, e2, h, q⟩ g => by
  subst e1 e2
  exact ⟨i, j, r1.str_inv, r2.str_inv, h, g _ H G _ (.refl s) (.str _) q⟩
def occ (j i : Str) : Bool := !(Builtin.Str.occurrences j i 0 j.length 1).isEmpty
def dInS : R2D := fun a b Q => ∃ i j, a = .str i ∧ b = .str j ∧ Q (.bl (occ j i))
def dNotInS : R2D := fun a b Q => ∃ i j, a = .str i ∧ b = .str j ∧ Q (.bl (!occ j i))
theorem l_inS : L2R K (fun x y H Q => ∃ i j, x = .str i ∧ y = .str j ∧ Q (.bl (!(Builtin.Str.occurrences j i 0 j.length 1).isEmpty)) H) dInS := fun G H x y a b Q R s r1 r2 ⟨i, j, e1, e2, q⟩ g => by
  subst e1 e2
  exact ⟨i, j, r1.str_inv, r2.str_inv, g _ H G _ (.refl s) (.bl _) q⟩
theorem l_notInS : L2R K (fun x y H Q => ∃ i j, x = .str i ∧ y = .str j ∧ Q (.bl (!!(Builtin.Str.occurrences j i 0 j.length 1).isEmpty)) H) dNotInS := fun G H x y a b Q R s r1 r2 ⟨i, j, e1, e2, q⟩ g => by
  subst e1 e2
  exact ⟨i, j, r1.str_inv, r2.str_inv, g _ H G _ (.refl s) (.bl _) q⟩
def dIxL : R2D := fun a b Q => ∃ l k x, a = .lst l ∧ b = .int k ∧ atI l k = some x ∧ Q x
def dIxT : R2D := fun a b Q => ∃ l k x, a = .tup l ∧ b = .int k ∧ atI l k = some x ∧ Q x
def dIxS : R2D := fun a b Q => ∃ s k c, a = .str s ∧ b = .int k ∧ s.length ≤ sizeLine ∧ atI s.cps.toList k = some c ∧ Q (.str ⟨#[c]⟩)
theorem l_ixL : L2R K (rIxL K) dIxL := fun G H x y a b Q R s r1 r2 ⟨l, k, z, e1, e2, h, q⟩ g => by
  subst e1 e2
  obtain ⟨p, vs, rfl, h1, h2⟩ := r1.lst_inv
  obtain ⟨w, hw, rw⟩ := h2.ix h
  exact ⟨p, vs, k, w, rfl, r2.int_inv, s.seq h1, hw, g _ H G _ (.refl s) rw q⟩
theorem l_ixT : L2R K (rIxT K) dIxT := fun G H x y a b Q R s r1 r2 ⟨l, k, z, e1, e2, h, q⟩ g => by
  subst e1 e2
  obtain ⟨p, vs, rfl, h1, h2⟩ := r1.tup_inv
  obtain ⟨w, hw, rw⟩ := h2.ix h
  exact ⟨p, vs, k, w, rfl, r2.int_inv, sqT_same s h1, hw, g _ H G _ (.refl s) rw q⟩
theorem l_ixS : L2R K rIxS dIxS := fun G H x y a b Q R s r1 r2 ⟨l, k, z, e1, e2, h0, h, q⟩ g => by
  subst e1 e2
  exact ⟨l, k, z, r1.str_inv, r2.int_inv, h0, h, g _ H G _ (.refl s) (.str _) q⟩
/-! ### slices -/
abbrev DTO := DE → (Option Int → Prop) → EX → Prop
structure PDO (X : Cx) (W : WX) (e : Option Expr) (t : DTO) : Prop where
  of : ∃ to, PO X e to ∧ ∀ (H0 G0 G H : Hp) (σ : L2.St) (env : DE) (Q : Option Int → Prop) (ex : EX) (R : Option Int → Hp → Prop), SR X.K H0 G0 G H σ env → LkE X.K H0 G0 G W σ env ex → t env Q ex → (∀ o H' G', Ext G H G' H' → Q o → R o H') → to σ H R
def dNoPart : DTO := fun _ Q _ => Q none
def dPart (t : DT) : DTO := fun env Q ex => t env (fun d => ∃ i, d = .int i ∧ Q (some i)) ex
theorem pdo_none : PDO X W none dNoPart := ⟨_, po_none, fun H0 G0 G H σ env Q ex R S L q g => g _ H G (.refl S.sub) q⟩
theorem pdo_some {e : Expr} {t : DT} (h : PD X W e t) : PDO X W (some e) (dPart t) := by
  obtain ⟨_, p, l⟩ := h.of
  exact ⟨_, po_some p, fun H0 G0 G H σ env Q ex R S L q g => l H0 G0 G H σ env _ ex _ S L q fun v H1 G1 d x1 r1 ⟨i, e1, q1⟩ => ⟨i, by subst e1; exact r1.int_inv, g _ H1 G1 x1 q1⟩⟩
def dSl (r : D → Option Int → Option Int → (D → Prop) → Prop) (te : DT) (tl th : DTO) : DT := fun env Q ex => te env (fun x => tl env (fun l => th env (fun u => r x l u Q) ex) ex) ex
def dSlN (r : D → Option Int → Option Int → (List D → Prop) → Prop) (te : DT) (tl th : DTO) : DTN := fun env Q ex => te env (fun x => tl env (fun l => th env (fun u => r x l u Q) ex) ex) ex
def cutD (xs : List D) (lo hi : Option Int) : List D := (xs.drop (HT.sIx xs.length 0 lo)).take (HT.sIx xs.length xs.length hi - HT.sIx xs.length 0 lo)
theorem Reps.cutV {G : Hp} {vs : List V} {l : List D} (r : Reps K G vs l) (lo hi : Option Int) : Reps K G (L2.cutV vs lo hi) (cutD l lo hi) := by
  unfold L2.cutV cutD
  rw [r.1]
  exact r.cut _ _
def dCutL : D → Option Int → Option Int → (List D → Prop) → Prop := fun a lo hi Q => ∃ l, a = .lst l ∧ Q (cutD l lo hi)
theorem pdn_slL {e : Expr} {lo hi : Option Expr} {te : DT} {tl th : DTO} {pos p2 : Pos} (h : PD X W e te) (hl : PDO X W lo tl) (hh : PDO X W hi th) : PDN X W (.Subscript e (.Slice lo hi none p2) pos) (dSlN dCutL te tl th) := by
  obtain ⟨_, p, l⟩ := h.of
  obtain ⟨_, pl, ll⟩ := hl.of
  obtain ⟨_, ph, lh⟩ := hh.of
  refine ⟨_, pe_slice sl_list p pl ph, fun H0 G0 G H σ env Q ex R S L q g => l H0 G0 G H σ env _ ex _ S L q fun v H1 G1 d x1 r1 q1 => ?_⟩
  refine ll H0 G0 G1 H1 σ env _ ex _ (S.ex x1) (L.mono x1.gg) q1 fun o H2 G2 x2 q2 => ?_
  have x12 := x1.trans x2
  refine lh H0 G0 G2 H2 σ env _ ex _ (S.ex x12) (L.mono x12.gg) q2 fun u H3 G3 x3 q3 => ?_
  obtain ⟨m, e1, q4⟩ := q3
  subst e1
  obtain ⟨pp, vs, rfl, h1, h2⟩ := (r1.same (x2.gg.trans x3.gg)).lst_inv
  exact ⟨pp, vs, rfl, x3.sub.seq h1, fun p' n => g p' _ _ H3 G3 _ (x12.trans x3) n rfl (h2.cutV o u) q4⟩
def dCutS : D → Option Int → Option Int → (D → Prop) → Prop := fun a lo hi Q => ∃ s, a = .str s ∧ s.length ≤ sizeLine ∧ Q (.str (cutS s lo hi))
theorem pd_slS {e : Expr} {lo hi : Option Expr} {te : DT} {tl th : DTO} {pos p2 : Pos} (h : PD X W e te) (hl : PDO X W lo tl) (hh : PDO X W hi th) : PD X W (.Subscript e (.Slice lo hi none p2) pos) (dSl dCutS te tl th) := by
  obtain ⟨_, p, l⟩ := h.of
  obtain ⟨_, pl, ll⟩ := hl.of
  obtain ⟨_, ph, lh⟩ := hh.of
  refine ⟨_, pe_slice sl_str p pl ph, fun H0 G0 G H σ env Q ex R S L q g => l H0 G0 G H σ env _ ex _ S L q fun v H1 G1 d x1 r1 q1 => ?_⟩
  refine ll H0 G0 G1 H1 σ env _ ex _ (S.ex x1) (L.mono x1.gg) q1 fun o H2 G2 x2 q2 => ?_
  have x12 := x1.trans x2
  refine lh H0 G0 G2 H2 σ env _ ex _ (S.ex x12) (L.mono x12.gg) q2 fun u H3 G3 x3 q3 => ?_
  obtain ⟨m, e1, hz, q4⟩ := q3
  subst e1
  exact ⟨m, r1.str_inv, hz, g _ H3 G3 _ (x12.trans x3) (.str _) q4⟩
/-! ### lists made of lists -/
theorem l_list : LcN K (fun xs H Q => ∃ p ys, xs = [.ref p] ∧ (SqL K H p ys ∨ SqT K H p ys) ∧ ∀ l, H l = none → Q (.ref l) (upd H l (.lst ys))) (fun ds Q => ∃ l, (ds = [.lst l] ∨ ds = [.tup l]) ∧ Q l) := fun G H vs ds Q R s r ⟨l, e, q⟩ g => by
  rcases e with e | e
  · subst e
    obtain ⟨v, rfl, r1⟩ := reps1 r
    obtain ⟨p, ws, rfl, h1, h2⟩ := r1.lst_inv
    exact ⟨p, ws, rfl, .inl (s.seq h1), fun p' n => g p' _ _ H G _ (.refl s) n rfl h2 q⟩
  · subst e
    obtain ⟨v, rfl, r1⟩ := reps1 r
    obtain ⟨p, ws, rfl, h1, h2⟩ := r1.tup_inv
    exact ⟨p, ws, rfl, .inr (sqT_same s h1), fun p' n => g p' _ _ H G _ (.refl s) n rfl h2 q⟩
theorem l_tuple : LcR K (fun xs H Q => ∃ p ys, xs = [.ref p] ∧ ((SqL K H p ys ∧ ∀ l, H l = none → Q (.ref l) (upd H l (.tup ys))) ∨ (SqT K H p ys ∧ Q (.ref p) H))) (fun ds Q => ∃ l, (ds = [.lst l] ∨ ds = [.tup l]) ∧ Q (.tup l)) := fun G H vs ds Q R s r ⟨l, e, q⟩ g => by
  rcases e with e | e
  · subst e
    obtain ⟨v, rfl, r1⟩ := reps1 r
    obtain ⟨p, ws, rfl, h1, h2⟩ := r1.lst_inv
    refine ⟨p, ws, rfl, .inl ⟨s.seq h1, fun p' n => ?_⟩⟩
    have x2 : Ext G H (upd G p' (.tup ws)) (upd H p' (.tup ws)) := Ext.nw s n
    have r2 := h2.same x2.gg
    exact g _ _ _ _ x2 (.tup (SqT.of upd_same) r2.1 r2.2) q
  · subst e
    obtain ⟨v, rfl, r1⟩ := reps1 r
    obtain ⟨p, ws, rfl, h1, h2⟩ := id r1.tup_inv
    exact ⟨p, ws, rfl, .inr ⟨sqT_same s h1, g _ _ _ _ (.refl s) r1 q⟩⟩
/-- a list that stands in H by itself (not the script's) is what + and * want: both sides new lists -/
def dCat (ta tb : DTN) : DTN := fun env Q ex => ta env (fun l => tb env (fun m => l.length + m.length ≤ sizeLine ∧ Q (l ++ m)) ex) ex
theorem pdn_cat {a b : Expr} {ta tb : DTN} {pos : Pos} (ha : PDN X W a ta) (hb : PDN X W b tb) : PDN X W (.BinOp a .Add b pos) (dCat ta tb) := by
  obtain ⟨_, pa, la⟩ := ha.of
  obtain ⟨_, pb, lb⟩ := hb.of
  refine ⟨_, pe_op op_cat pa pb, fun H0 G0 G H σ env Q ex R S L q g => la H0 G0 G H σ env _ ex _ S L q fun p vs H' H1 G1 l x1 n e r1 q1 => ?_⟩
  subst e
  have x1' : Ext G H G1 (upd H1 p (.lst vs)) := x1.trans (Ext.hid x1.sub n)
  refine lb H0 G0 G1 _ σ env _ ex _ (S.ex x1') (L.mono x1'.gg) q1 fun p2 us H'' H2 G2 m x2 n2 e2 r2 ⟨hz, q2⟩ => ?_
  subst e2
  have hp : H2 p = some (.lst vs) := x2.hh _ _ upd_same
  refine ⟨p, p2, vs, us, rfl, rfl, (upd_ne (ne_of_none hp n2)).trans hp, upd_same, by rw [r1.1, r2.1]; exact hz, fun p3 n3 => ?_⟩
  exact g p3 _ _ _ G2 _ ((x1'.trans x2).trans (Ext.hid x2.sub n2)) n3 rfl ((r1.same x2.gg).app r2) q2
/-- a list at a name on the left -/
def dCatV (ta : DT) (tb : DTN) : DTN := fun env Q ex => ta env (fun d => ∃ l, d = .lst l ∧ tb env (fun m => l.length + m.length ≤ sizeLine ∧ Q (l ++ m)) ex) ex
def dRep (ta : DTN) (tb : DT) : DTN := fun env Q ex => ta env (fun l => tb env (fun d => ∃ k, d = .int k ∧ -(2 ^ 63) ≤ k ∧ k < 2 ^ 63 ∧ l.length * k.toNat ≤ sizeLine ∧ Q (List.replicate k.toNat l).flatten) ex) ex
theorem reps_flat {G : Hp} {vs : List V} {l : List D} (r : Reps K G vs l) : ∀ k : Nat, Reps K G (List.replicate k vs).flatten (List.replicate k l).flatten
  | 0 => by simpa using Reps.nil
  | k + 1 => by
    rw [List.replicate_succ, List.replicate_succ, List.flatten_cons, List.flatten_cons]
    exact r.app (reps_flat r k)
/-! ## calls -/
theorem l_len : LcR K (fun xs H Q => ∃ x n, xs = [x] ∧ LenV K x H n ∧ Q (.int n) H) (fun ds Q => (∃ l, ds = [.lst l] ∧ Q (.int l.length)) ∨ (∃ l, ds = [.tup l] ∧ Q (.int l.length)) ∨ ∃ s : Str, ds = [.str s] ∧ s.length ≤ sizeLine ∧ Q (.int s.length)) := fun G H vs ds Q R s r q g => by
  rcases q with ⟨l, e, q⟩ | ⟨l, e, q⟩ | ⟨z, e, hz, q⟩
  · subst e
    obtain ⟨v, rfl, r1⟩ := reps1 r
    obtain ⟨p, ws, rfl, h1, h2⟩ := r1.lst_inv
    exact ⟨_, _, rfl, .inl ⟨ws, s.seq h1, h2.1.symm⟩, g _ _ _ _ (.refl s) (.int _) q⟩
  · subst e
    obtain ⟨v, rfl, r1⟩ := reps1 r
    obtain ⟨p, ws, rfl, h1, h2⟩ := r1.tup_inv
    exact ⟨_, _, rfl, .inr ⟨ws, sqT_same s h1, h2.1.symm⟩, g _ _ _ _ (.refl s) (.int _) q⟩
  · subst e
    obtain ⟨v, rfl, r1⟩ := reps1 r
    rw [r1.str_inv]
    exact ⟨_, _, rfl, ⟨hz, rfl⟩, g _ _ _ _ (.refl s) (.int _) q⟩
theorem l_abs : LcR K (fun xs H Q => ∃ i, xs = [.int i] ∧ Q (.int (if i < 0 then -i else i)) H) (fun ds Q => ∃ i : Int, ds = [.int i] ∧ Q (.int (i.natAbs : Int))) := fun G H vs ds Q R s r ⟨i, e, q⟩ g => by
  subst e
  obtain ⟨v, rfl, r1⟩ := reps1 r
  refine ⟨i, by rw [r1.int_inv], ?_⟩
  rw [show (if i < 0 then -i else i) = (i.natAbs : Int) by split <;> omega]
  exact g _ _ _ _ (.refl s) (.int _) q
theorem l_int : LcR K (fun xs H Q => (∃ i, xs = [.int i] ∧ Q (.int i) H) ∨ ∃ k, xs = [.bl k] ∧ Q (.int (if k then 1 else 0)) H) (fun ds Q => (∃ i, ds = [.int i] ∧ Q (.int i)) ∨ ∃ k, ds = [.bl k] ∧ Q (.int (if k then 1 else 0))) := fun G H vs ds Q R s r q g => by
  rcases q with ⟨i, e, q⟩ | ⟨i, e, q⟩
  · subst e
    obtain ⟨v, rfl, r1⟩ := reps1 r
    exact .inl ⟨i, by rw [r1.int_inv], g _ _ _ _ (.refl s) (.int _) q⟩
  · subst e
    obtain ⟨v, rfl, r1⟩ := reps1 r
    exact .inr ⟨i, by rw [r1.bl_inv], g _ _ _ _ (.refl s) (.int _) q⟩
theorem l_strI : LcR K (fun xs H Q => ∃ i, xs = [.int i] ∧ i.natAbs.log2 < 1920 ∧ Q (.str (toString i)) H) (fun ds Q => ∃ i, ds = [.int i] ∧ i.natAbs.log2 < 1920 ∧ Q (.str (toString i))) := fun G H vs ds Q R s r ⟨i, e, h, q⟩ g => by
  subst e
  obtain ⟨v, rfl, r1⟩ := reps1 r
  exact ⟨i, by rw [r1.int_inv], h, g _ _ _ _ (.refl s) (.str _) q⟩
theorem l_intS : LcR K (fun xs H Q => ∃ a n, xs = [.str a] ∧ PySem.intText? a = some n ∧ a.length ≤ 640 ∧ Q (.int n) H) (fun ds Q => ∃ a n, ds = [.str a] ∧ PySem.intText? a = some n ∧ a.length ≤ 640 ∧ Q (.int n)) := fun G H vs ds Q R s r ⟨a, n, e, h, h2, q⟩ g => by
  subst e
  obtain ⟨v, rfl, r1⟩ := reps1 r
  exact ⟨a, n, by rw [r1.str_inv], h, h2, g _ _ _ _ (.refl s) (.int _) q⟩
theorem l_gcd : LcR K rGcd (fun ds Q => ∃ a b : Int, ds = [.int a, .int b] ∧ Q (.int ((Nat.gcd a.natAbs b.natAbs : Nat) : Int))) := fun G H vs ds Q R s r ⟨a, b, e, q⟩ g => by
  subst e
  obtain ⟨v, w, rfl, r1, r2⟩ := reps2 r
  exact ⟨a, b, by rw [r1.int_inv, r2.int_inv], g _ _ _ _ (.refl s) (.int _) q⟩
theorem l_sum : LcR K (rSum K) (fun ds Q => ∃ ns : List Int, (ds = [.lst (ns.map D.int)]) ∧ Q (.int ns.sum)) := fun G H vs ds Q R s r ⟨ns, e, q⟩ g => by
  subst e
  obtain ⟨v, rfl, r1⟩ := reps1 r
  obtain ⟨p, ws, rfl, h1, h2⟩ := r1.lst_inv
  rw [h2.ints] at h1
  exact ⟨p, ns, rfl, s.seq h1, g _ _ _ _ (.refl s) (.int _) q⟩
theorem l_max2 : LcR K (fun xs H Q => ∃ i j, xs = [.int i, .int j] ∧ Q (.int (if j > i then j else i)) H) (fun ds Q => ∃ i j : Int, ds = [.int i, .int j] ∧ Q (.int (max i j))) := fun G H vs ds Q R s r ⟨i, j, e, q⟩ g => by
  subst e
  obtain ⟨v, w, rfl, r1, r2⟩ := reps2 r
  refine ⟨i, j, by rw [r1.int_inv, r2.int_inv], ?_⟩
  rw [show (if j > i then j else i) = max i j by rw [Int.max_def]; split <;> split <;> omega]
  exact g _ _ _ _ (.refl s) (.int _) q
theorem l_min2 : LcR K (fun xs H Q => ∃ i j, xs = [.int i, .int j] ∧ Q (.int (if j < i then j else i)) H) (fun ds Q => ∃ i j : Int, ds = [.int i, .int j] ∧ Q (.int (min i j))) := fun G H vs ds Q R s r ⟨i, j, e, q⟩ g => by
  subst e
  obtain ⟨v, w, rfl, r1, r2⟩ := reps2 r
  refine ⟨i, j, by rw [r1.int_inv, r2.int_inv], ?_⟩
  rw [show (if j < i then j else i) = min i j by rw [Int.min_def]; split <;> split <;> omega]
  exact g _ _ _ _ (.refl s) (.int _) q
/-! ## methods of texts -/
theorem l_m1S {f : Str → Str → Str} {C : Str → Str → Prop} : LmR K (fun x xs H Q => ∃ a b, x = .str a ∧ xs = [.str b] ∧ C a b ∧ Q (.str (f a b)) H) (fun a ds Q => ∃ s z, a = .str s ∧ ds = [.str z] ∧ C s z ∧ Q (.str (f s z))) := fun G H x vs a ds Q R s r rs ⟨z, y, e1, e2, c, q⟩ g => by
  subst e1 e2
  obtain ⟨v, rfl, r1⟩ := reps1 rs
  exact ⟨z, y, r.str_inv, by rw [r1.str_inv], c, g _ _ _ _ (.refl s) (.str _) q⟩
theorem l_m0B {f : Str → Bool} : LmR K (fun x xs H Q => ∃ a, x = .str a ∧ xs = [] ∧ True ∧ Q (.bl (f a)) H) (fun a ds Q => ∃ s, a = .str s ∧ ds = [] ∧ Q (.bl (f s))) := fun G H x vs a ds Q R s r rs ⟨z, e1, e2, q⟩ g => by
  subst e1 e2
  have : vs = [] := List.length_eq_zero_iff.mp rs.1
  exact ⟨z, r.str_inv, this, trivial, g _ _ _ _ (.refl s) (.bl _) q⟩
theorem l_m1B {f : Str → Str → Bool} : LmR K (fun x xs H Q => ∃ a b, x = .str a ∧ xs = [.str b] ∧ Q (.bl (f a b)) H) (fun a ds Q => ∃ s z, a = .str s ∧ ds = [.str z] ∧ Q (.bl (f s z))) := fun G H x vs a ds Q R s r rs ⟨z, y, e1, e2, q⟩ g => by
  subst e1 e2
  obtain ⟨v, rfl, r1⟩ := reps1 rs
  exact ⟨z, y, r.str_inv, by rw [r1.str_inv], g _ _ _ _ (.refl s) (.bl _) q⟩
theorem l_part : LmR K (fun x xs H Q => ∃ a b, x = .str a ∧ xs = [.str b] ∧ (b.length == 0) = false ∧ a.length ≤ sizeLine ∧ ∀ p, H p = none → Q (.ref p) (upd H p (.tup [.str (Txt.partition a b).1, .str (Txt.partition a b).2.1, .str (Txt.partition a b).2.2])))
    (fun a ds Q => ∃ s z, a = .str s ∧ ds = [.str z] ∧ (z.length == 0) = false ∧ s.length ≤ sizeLine ∧ Q (.tup [.str (Txt.partition s z).1, .str (Txt.partition s z).2.1, .str (Txt.partition s z).2.2])) := fun G H x vs a ds Q R s r rs ⟨z, y, e1, e2, h1, h2, q⟩ g => by
  subst e1 e2
  obtain ⟨v, rfl, r1⟩ := reps1 rs
  refine ⟨z, y, r.str_inv, by rw [r1.str_inv], h1, h2, fun p n => ?_⟩
  have x2 : Ext G H (upd G p (.tup [.str (Txt.partition z y).1, .str (Txt.partition z y).2.1, .str (Txt.partition z y).2.2])) (upd H p (.tup [.str (Txt.partition z y).1, .str (Txt.partition z y).2.1, .str (Txt.partition z y).2.2])) := Ext.nw s n
  have rr : Reps K (upd G p (.tup [.str (Txt.partition z y).1, .str (Txt.partition z y).2.1, .str (Txt.partition z y).2.2])) [.str (Txt.partition z y).1, .str (Txt.partition z y).2.1, .str (Txt.partition z y).2.2] [.str (Txt.partition z y).1, .str (Txt.partition z y).2.1, .str (Txt.partition z y).2.2] :=
    ((Reps.one (.str _)).cons (.str _)).cons (.str _)
  exact g _ _ _ _ x2 (.tup (SqT.of upd_same) rr.1 rr.2) q
theorem reps_strs {G : Hp} (ys : List Str) : Reps K G (ys.map V.str) (ys.map D.str) := by
  refine ⟨by simp, fun i v d h1 h2 => ?_⟩
  rw [List.getElem?_map] at h1 h2
  cases e : ys[i]? with
  | none =>
    rw [e] at h1
    cases h1
  | some n =>
    rw [e] at h1 h2
    cases h1
    cases h2
    exact .str n
theorem Reps.strs {G : Hp} {vs : List V} {ys : List Str} (r : Reps K G vs (ys.map D.str)) : vs = ys.map V.str := by
  refine List.ext_getElem? fun i => ?_
  cases h : vs[i]? with
  | none =>
    have : vs.length ≤ i := List.getElem?_eq_none_iff.mp h
    rw [r.1, List.length_map] at this
    exact (List.getElem?_eq_none_iff.mpr (by rw [List.length_map]; exact this)).symm
  | some v =>
    obtain ⟨d, hd, q⟩ := r.at' h
    rw [List.getElem?_map] at hd
    cases e : ys[i]? with
    | none =>
      rw [e] at hd
      cases hd
    | some n =>
      rw [e] at hd
      cases hd
      cases q
      rw [List.getElem?_map, e]
      rfl
theorem l_split : LmN K (fun x xs H Q => ∃ a b, x = .str a ∧ xs = [.str b] ∧ (b.length == 0) = false ∧ a.length + 2 ≤ sizeLine ∧ rNewStrs (Txt.split a b) H Q) (fun a ds Q => ∃ s z, a = .str s ∧ ds = [.str z] ∧ (z.length == 0) = false ∧ s.length + 2 ≤ sizeLine ∧ Q ((Txt.split s z).map D.str)) :=
  fun G H x vs a ds Q R s r rs ⟨z, y, e1, e2, h1, h2, q⟩ g => by
  subst e1 e2
  obtain ⟨v, rfl, r1⟩ := reps1 rs
  exact ⟨z, y, r.str_inv, by rw [r1.str_inv], h1, h2, fun p n => g p _ _ H G _ (.refl s) n rfl (reps_strs _) q⟩
theorem l_join : LmR K (fun x xs H Q => ∃ a p ys, x = .str a ∧ xs = [.ref p] ∧ (SqL K H p (ys.map V.str) ∨ SqT K H p (ys.map V.str)) ∧ (ys.map (fun x => x.length)).sum + ys.length * a.length ≤ 16777216 ∧ Q (.str (Txt.join a ys)) H)
    (fun a ds Q => ∃ (s : Str) (ys : List Str), a = .str s ∧ ds = [.lst (ys.map D.str)] ∧ (ys.map (fun x => x.length)).sum + ys.length * s.length ≤ 16777216 ∧ Q (.str (Txt.join s ys))) := fun G H x vs a ds Q R s r rs ⟨z, ys, e1, e2, h, q⟩ g => by
  subst e1 e2
  obtain ⟨v, rfl, r1⟩ := reps1 rs
  obtain ⟨p, ws, rfl, h1, h2⟩ := r1.lst_inv
  rw [h2.strs] at h1
  exact ⟨z, p, ys, r.str_inv, rfl, .inl (s.seq h1), h, g _ _ _ _ (.refl s) (.str _) q⟩
/-! ## f-strings -/
inductive PDJ (X : Cx) (W : WX) : List Expr → List DT → Prop where
  | nil : PDJ X W [] []
  | cons {e : Expr} {t : DT} {es : List Expr} {ts : List DT} (h : PD X W e t) (r : PDJ X W es ts) : PDJ X W (e :: es) (t :: ts)
def dJs : List DT → Str → DE → (Str → Prop) → EX → Prop
  | [], acc, _, Q, _ => Q acc
  | t :: ts, acc, env, Q, ex => t env (fun d => ∃ y : Str, d = .str y ∧ (acc ++ y).length ≤ sizeLine ∧ dJs ts (acc ++ y) env Q ex) ex
theorem pdj {es : List Expr} {ts : List DT} (h : PDJ X W es ts) : ∃ ss, PJ X es ss ∧ ∀ (H0 G0 G H : Hp) (σ : L2.St) (env : DE) (Q : Str → Prop) (ex : EX) (R : Str → Hp → Prop) (acc : Str), SR X.K H0 G0 G H σ env → LkE X.K H0 G0 G W σ env ex → dJs ts acc env Q ex → (∀ o H' G', Ext G H G' H' → Q o → R o H') → tJs ss acc σ H R := by
  induction h with
  | nil => exact ⟨[], .nil, fun H0 G0 G H σ env Q ex R acc S L q g => g _ H G (.refl S.sub) q⟩
  | @cons e t es ts h _ ih =>
    obtain ⟨s, p, l⟩ := h.of
    obtain ⟨ss, ps, ls⟩ := ih
    refine ⟨s :: ss, .cons p ps, fun H0 G0 G H σ env Q ex R acc S L q g => l H0 G0 G H σ env _ ex _ S L q fun v H1 G1 d x1 r1 ⟨y, e1, hz, q1⟩ => ?_⟩
    subst e1
    exact ⟨y, r1.str_inv, hz, ls H0 G0 G1 H1 σ env Q ex R _ (S.ex x1) (L.mono x1.gg) q1 fun o H2 G2 x2 q2 => g o H2 G2 (x1.trans x2) q2⟩
def dJoined (ts : List DT) : DT := fun env Q ex => dJs ts Str.empty env (fun o => Q (.str o)) ex
theorem pd_joined {v1 v2 : Expr} {rest : List Expr} {ts : List DT} {pos : Pos} (h : PDJ X W (v1 :: v2 :: rest) ts) : PD X W (.JoinedStr (v1 :: v2 :: rest) pos) (dJoined ts) := by
  obtain ⟨ss, p, l⟩ := pdj h
  exact ⟨_, pe_joined p, fun H0 G0 G H σ env Q ex R S L q g => l H0 G0 G H σ env _ ex _ Str.empty S L q fun o H' G' x q' => g _ H' G' _ x (.str o) q'⟩
def dFmt (t : DT) : DT := fun env Q ex => t env (fun d => (∃ y : Str, d = .str y ∧ y.length ≤ sizeLine ∧ Q (.str y)) ∨ ∃ i : Int, d = .int i ∧ i.natAbs.log2 < 1920 ∧ Q (.str (toString i))) ex
theorem pd_fmt {e : Expr} {t : DT} {pos : Pos} (h : PD X W e t) : PD X W (.FormattedValue e (-1) none pos) (dFmt t) := by
  obtain ⟨_, p, l⟩ := h.of
  refine ⟨_, pe_fmt p, fun H0 G0 G H σ env Q ex R S L q g => l H0 G0 G H σ env _ ex _ S L q fun v H1 G1 d x1 r1 q1 => ?_⟩
  rcases q1 with ⟨y, e1, hz, q1⟩ | ⟨i, e1, hz, q1⟩
  · subst e1
    exact .inl ⟨y, r1.str_inv, hz, g _ H1 G1 _ x1 (.str _) q1⟩
  · subst e1
    exact .inr ⟨i, r1.int_inv, hz, g _ H1 G1 _ x1 (.str _) q1⟩
/-! ## data as a whole -/
mutual
def toP : D → PyData
  | .non => .none | .bl b => .bool b | .int i => .int i | .str s => .str s | .lst l => .list (toPs l) | .tup l => .tuple (toPs l) | .ins _ _ => .none
def toPs : List D → List PyData
  | [] => []
  | d :: r => toP d :: toPs r
end
mutual
def plainD : D → Bool
  | .ins _ _ => false | .lst l => plainDs l | .tup l => plainDs l | _ => true
def plainDs : List D → Bool
  | [] => true
  | d :: r => plainD d && plainDs r
end
theorem dpAll {H : Hp} {l : List D} : ∀ {m : List D} {vs : List V}, vs.length = m.length → plainDs m = true → (∀ (i : Nat) v d, vs[i]? = some v → m[i]? = some d → plainD d = true → Dp K H v (toP d)) → DpAll K H vs (toPs m)
  | [], [], _, _, _ => .nil
  | [], _ :: _, h, _, _ => by simp at h
  | _ :: _, [], h, _, _ => by simp at h
  | d :: m, v :: vs, h, hp, k => by
    rw [plainDs, Bool.and_eq_true] at hp
    rw [toPs]
    exact .cons (k 0 v d rfl rfl hp.1) (dpAll (l := l) (by simpa using h) hp.2 fun i v d h1 h2 => k (i + 1) v d (by simpa using h1) (by simpa using h2))
theorem Rep.dp {G H : Hp} {v : V} {d : D} (r : Rep K G v d) (s : Same G H) (hp : plainD d = true) : Dp K H v (toP d) := by
  induction r with
  | non => rw [toP]; exact .non
  | bl b => rw [toP]; exact .bl b
  | int i => rw [toP]; exact .int i
  | str x => rw [toP]; exact .str x
  | lst h n q ih =>
    rw [toP]
    rw [plainD] at hp
    exact .lst (s.seq h) (dpAll (l := []) n hp fun i v d h1 h2 h3 => ih i v d h1 h2 h3)
  | tup h n q ih =>
    rw [toP]
    rw [plainD] at hp
    exact .tup (sqT_same s h) (dpAll (l := []) n hp fun i v d h1 h2 h3 => ih i v d h1 h2 h3)
  | ins h m n q ih =>
    rw [plainD] at hp
    cases hp
def okD (d : D) : Bool := plainD d && SeqAt.shaped (toP d)
def eqD (a b : D) : Bool := PyData.eqv (toP a) (toP b)
def dEqD : R2D := fun a b Q => okD a = true ∧ okD b = true ∧ Q (.bl (eqD a b))
def dNeD : R2D := fun a b Q => okD a = true ∧ okD b = true ∧ Q (.bl (!eqD a b))
theorem l_eqD : L2R K (rEqD K) dEqD := fun G H x y a b Q R s r1 r2 ⟨h1, h2, q⟩ g => by
  obtain ⟨p1, s1⟩ := Bool.and_eq_true_iff.mp h1
  obtain ⟨p2, s2⟩ := Bool.and_eq_true_iff.mp h2
  exact ⟨_, _, r1.dp s p1, r2.dp s p2, s1, s2, g _ _ _ _ (.refl s) (.bl _) q⟩
theorem l_neD : L2R K (rNeD K) dNeD := fun G H x y a b Q R s r1 r2 ⟨h1, h2, q⟩ g => by
  obtain ⟨p1, s1⟩ := Bool.and_eq_true_iff.mp h1
  obtain ⟨p2, s2⟩ := Bool.and_eq_true_iff.mp h2
  exact ⟨_, _, r1.dp s p1, r2.dp s p2, s1, s2, g _ _ _ _ (.refl s) (.bl _) q⟩
end
end DL

namespace DL
open PySem PySem.Spec PyProof.Rows L2 LR
/-! ## isinstance -/
inductive Cr where
  | int | bool | str | list | tuple | own (c : Nat)
  deriving DecidableEq
def crV (K : PySem.W.Frag) : Cr → Value
  | .int => .type "int" | .bool => .type "bool" | .str => .type "str" | .list => .type "list" | .tuple => .type "tuple" | .own c => .ref (He.ga K (cname c))
def crW (K : PySem.W.Frag) : Cr → V
  | .int => .ty "int" | .bool => .ty "bool" | .str => .ty "str" | .list => .ty "list" | .tuple => .ty "tuple" | .own c => .ref (He.ga K (cname c))
theorem crClsV (K : PySem.W.Frag) (c : Cr) : ClsV (crW K c) (crV K c) := by
  cases c <;> first | exact .ty _ | exact .own _
def isD : D → Cr → Bool
  | .int _, .int => true | .bl _, .int => true | .bl _, .bool => true | .str _, .str => true | .lst _, .list => true | .tup _, .tuple => true | .ins c _, .own c' => c == c' | _, _ => false
def tyD (K : PySem.W.Frag) : D → Value
  | .non => .type "NoneType" | .bl _ => .type "bool" | .int _ => .type "int" | .str _ => .type "str" | .lst _ => .type "list" | .tup _ => .type "tuple" | .ins c _ => .ref (He.ga K (cname c))
def base6 : List String := ["NoneType", "bool", "int", "str", "list", "tuple"]
/-- the own classes cs: what isinstance and == ask of them -/
def isiB (cs : List Nat) (K : PySem.W.Frag) : Bool := cs.all fun c => clAll K (cname c) && (base6.all (fun t => decide (PySem.W.kitOne K (.type t) (.ref (He.ga K (cname c))) = some false) && (decide (PySem.W.kitOne K (.ref (He.ga K (cname c))) (.type t) = some false) && PySem.W.notFirst K (He.ga K (cname c)) (.type t))) &&
  cs.all fun c' => decide (PySem.W.kitOne K (.ref (He.ga K (cname c))) (.ref (He.ga K (cname c'))) = some (c == c')) && PySem.W.notFirst K (He.ga K (cname c)) (.ref (He.ga K (cname c'))))
structure Isi (cs : List Nat) (K : PySem.W.Frag) : Prop where
  cl : ∀ c ∈ cs, clAll K (cname c) = true
  k1 : ∀ c ∈ cs, ∀ t ∈ base6, PySem.W.kitOne K (.type t) (.ref (He.ga K (cname c))) = some false
  k2 : ∀ c ∈ cs, ∀ t ∈ base6, PySem.W.kitOne K (.ref (He.ga K (cname c))) (.type t) = some false
  n1 : ∀ c ∈ cs, ∀ t ∈ base6, PySem.W.notFirst K (He.ga K (cname c)) (.type t) = true
  k3 : ∀ c ∈ cs, ∀ c' ∈ cs, PySem.W.kitOne K (.ref (He.ga K (cname c))) (.ref (He.ga K (cname c'))) = some (c == c')
  n2 : ∀ c ∈ cs, ∀ c' ∈ cs, PySem.W.notFirst K (He.ga K (cname c)) (.ref (He.ga K (cname c'))) = true
theorem Isi.of {cs : List Nat} {K : PySem.W.Frag} (h : isiB cs K = true) : Isi cs K := by
  unfold isiB at h
  simp only [List.all_eq_true, Bool.and_eq_true, decide_eq_true_eq] at h
  exact ⟨fun c hc => (h c hc).1, fun c hc t ht => ((h c hc).2.1 t ht).1, fun c hc t ht => ((h c hc).2.1 t ht).2.1, fun c hc t ht => ((h c hc).2.1 t ht).2.2, fun c hc c' hc' => ((h c hc).2.2 c' hc').1, fun c hc c' hc' => ((h c hc).2.2 c' hc').2⟩
/-- a datum whose type is told -/
def kind (cs : List Nat) : D → Bool
  | .ins c _ => cs.contains c | _ => true
section
variable {K : PySem.W.Frag} {cs : List Nat}
theorem rep_ty {G H : Hp} {v : V} {d : D} (I : Isi cs K) (hc : ∀ c ∈ cs, Cls K (He.ga K (cname c))) (r : Rep K G v d) (s : Same G H) (hk : kind cs d = true) : TyX K H v (tyD K d) := by
  cases r with
  | non => exact .base .non
  | bl b => exact .base (.bl b)
  | int i => exact .base (.int i)
  | str x => exact .base (.str x)
  | lst h n q =>
    rcases s.seq h with (h | ⟨o, h⟩) | ⟨o, its, n', e1, e2, _⟩
    · exact .base (.lst h)
    · exact .base (.frz h)
    · exact .kList e1 e2
  | tup h n q =>
    rcases sqT_same s h with (h | ⟨o, h⟩) | ⟨o, its, n', e1, e2, _⟩
    · exact .base (.tup h)
    · exact .fTuple h
    · exact .kTuple e1 e2
  | @ins a dx c vs l h m n q =>
    have hcs : c ∈ cs := by unfold kind at hk; simpa using hk
    have z := I.cl c hcs
    unfold clAll at z
    simp only [Bool.and_eq_true, decide_eq_true_eq] at z
    obtain ⟨_, _, _, q4, q5, q6, q7⟩ := z
    exact .base (.ins (s _ _ h) (hc c hcs) q4 q5 q6 q7)
theorem kit_cr (I : Isi cs K) {d : D} {cr : Cr} (hk : kind cs d = true) (hcr : ∀ c, cr = .own c → c ∈ cs) : PySem.W.kitOne K (tyD K d) (crV K cr) = some (isD d cr) := by
  cases cr with
  | own c =>
    have hc := hcr c rfl
    cases d with
    | ins c' l =>
      have hcs : c' ∈ cs := by unfold kind at hk; simpa using hk
      exact I.k3 c' hcs c hc
    | non => exact I.k1 c hc "NoneType" (by decide)
    | bl b => exact I.k1 c hc "bool" (by decide)
    | int i => exact I.k1 c hc "int" (by decide)
    | str s => exact I.k1 c hc "str" (by decide)
    | lst l => exact I.k1 c hc "list" (by decide)
    | tup l => exact I.k1 c hc "tuple" (by decide)
  | int =>
    cases d with
    | ins c' l => exact I.k2 c' (by unfold kind at hk; simpa using hk) "int" (by decide)
    | non => exact kit_ty (a := "NoneType") (b := "int") (r := false) (by decide +kernel)
    | bl b => exact kit_ty (a := "bool") (b := "int") (r := true) (by decide +kernel)
    | int i => exact kit_ty (a := "int") (b := "int") (r := true) (by decide +kernel)
    | str s => exact kit_ty (a := "str") (b := "int") (r := false) (by decide +kernel)
    | lst l => exact kit_ty (a := "list") (b := "int") (r := false) (by decide +kernel)
    | tup l => exact kit_ty (a := "tuple") (b := "int") (r := false) (by decide +kernel)
  | bool =>
    cases d with
    | ins c' l => exact I.k2 c' (by unfold kind at hk; simpa using hk) "bool" (by decide)
    | non => exact kit_ty (a := "NoneType") (b := "bool") (r := false) (by decide +kernel)
    | bl b => exact kit_ty (a := "bool") (b := "bool") (r := true) (by decide +kernel)
    | int i => exact kit_ty (a := "int") (b := "bool") (r := false) (by decide +kernel)
    | str s => exact kit_ty (a := "str") (b := "bool") (r := false) (by decide +kernel)
    | lst l => exact kit_ty (a := "list") (b := "bool") (r := false) (by decide +kernel)
    | tup l => exact kit_ty (a := "tuple") (b := "bool") (r := false) (by decide +kernel)
  | str =>
    cases d with
    | ins c' l => exact I.k2 c' (by unfold kind at hk; simpa using hk) "str" (by decide)
    | non => exact kit_ty (a := "NoneType") (b := "str") (r := false) (by decide +kernel)
    | bl b => exact kit_ty (a := "bool") (b := "str") (r := false) (by decide +kernel)
    | int i => exact kit_ty (a := "int") (b := "str") (r := false) (by decide +kernel)
    | str s => exact kit_ty (a := "str") (b := "str") (r := true) (by decide +kernel)
    | lst l => exact kit_ty (a := "list") (b := "str") (r := false) (by decide +kernel)
    | tup l => exact kit_ty (a := "tuple") (b := "str") (r := false) (by decide +kernel)
  | list =>
    cases d with
    | ins c' l => exact I.k2 c' (by unfold kind at hk; simpa using hk) "list" (by decide)
    | non => exact kit_ty (a := "NoneType") (b := "list") (r := false) (by decide +kernel)
    | bl b => exact kit_ty (a := "bool") (b := "list") (r := false) (by decide +kernel)
    | int i => exact kit_ty (a := "int") (b := "list") (r := false) (by decide +kernel)
    | str s => exact kit_ty (a := "str") (b := "list") (r := false) (by decide +kernel)
    | lst l => exact kit_ty (a := "list") (b := "list") (r := true) (by decide +kernel)
    | tup l => exact kit_ty (a := "tuple") (b := "list") (r := false) (by decide +kernel)
  | tuple =>
    cases d with
    | ins c' l => exact I.k2 c' (by unfold kind at hk; simpa using hk) "tuple" (by decide)
    | non => exact kit_ty (a := "NoneType") (b := "tuple") (r := false) (by decide +kernel)
    | bl b => exact kit_ty (a := "bool") (b := "tuple") (r := false) (by decide +kernel)
    | int i => exact kit_ty (a := "int") (b := "tuple") (r := false) (by decide +kernel)
    | str s => exact kit_ty (a := "str") (b := "tuple") (r := false) (by decide +kernel)
    | lst l => exact kit_ty (a := "list") (b := "tuple") (r := false) (by decide +kernel)
    | tup l => exact kit_ty (a := "tuple") (b := "tuple") (r := true) (by decide +kernel)
end
section
variable {X : Cx} {W : WX} {a b c e o : Expr} {es : List Expr} {ta tb : DT} {t : DTA} {pos p apos : Pos} {cs : List Nat}
def dIsi (cs : List Nat) (cr : Cr) (ta : DT) : DT := fun env Q ex => ta env (fun d => kind cs d = true ∧ Q (.bl (isD d cr))) ex
theorem pd_isi {cr : Cr} (I : Isi cs X.K) (hc : ∀ c ∈ cs, Cls X.K (He.ga X.K (cname c))) (hcr : ∀ c, cr = .own c → c ∈ cs) (mk : ∀ {sa : TE}, PE X e sa → PE X c (tCB (rIsi X.K) (tCons sa (tCons (tC (crW X.K cr)) tNil)))) (ha : PD X W e ta) : PD X W c (dIsi cs cr ta) := by
  obtain ⟨_, pa, la⟩ := ha.of
  refine ⟨_, mk pa, fun H0 G0 G H σ env Q ex R S L q g => la H0 G0 G H σ env _ ex _ S L q fun v H1 G1 d x1 r1 ⟨hk, q1⟩ => ?_⟩
  exact ⟨v, _, _, _, _, rfl, crClsV _ cr, rep_ty I hc r1 x1.sub hk, kit_cr I hk hcr, g _ H1 G1 _ x1 (.bl _) q1⟩
/-- isinstance(x, (A, B)) -/
def dIsi2 (cs : List Nat) (c1 c2 : Cr) (ta : DT) : DT := fun env Q ex => ta env (fun d => kind cs d = true ∧ Q (.bl (isD d c1 || isD d c2))) ex
theorem pd_isi2 {c1 c2 : Cr} (I : Isi cs X.K) (hc : ∀ c ∈ cs, Cls X.K (He.ga X.K (cname c))) (hcr : ∀ c, c1 = .own c → c ∈ cs) (hcr2 : ∀ c, c2 = .own c → c ∈ cs)
    (mk : ∀ {sa : TE}, PE X e sa → PE X c (tCB (rIsiT X.K) (tCons sa (tCons (tTup (tCons (tC (crW X.K c1)) (tCons (tC (crW X.K c2)) tNil))) tNil)))) (ha : PD X W e ta) : PD X W c (dIsi2 cs c1 c2 ta) := by
  obtain ⟨_, pa, la⟩ := ha.of
  refine ⟨_, mk pa, fun H0 G0 G H σ env Q ex R S L q g => la H0 G0 G H σ env _ ex _ S L q fun v H1 G1 d x1 r1 ⟨hk, q1⟩ => ⟨by show 2 ≤ sizeLine; decide, fun pp n => ?_⟩⟩
  refine ⟨v, pp, _, _, [crV X.K c1, crV X.K c2], _, rfl, upd_same, .cons (crClsV _ c1) (.cons (crClsV _ c2) .nil), rep_ty I hc r1 (same_new' x1.sub n) hk, ?_, g _ _ G1 _ (x1.trans (Ext.hid x1.sub n)) (.bl _) q1⟩
  refine kitAny_cons (kit_cr I hk hcr) (fun h1 => ?_) (fun h1 => by rw [h1]; rfl)
  refine kitAny_cons (kit_cr I hk hcr2) (fun h2 => ?_) (fun h2 => by rw [h2, Bool.or_true])
  rw [h1, h2]
  rfl
/-! ## own operators -/
variable {k n : Nat} {f : Addr} {Pm : Prm} {x m : Str}
def dBinO (c : Nat) (P : Prm) : R2D := fun a b Q => (∃ l, a = .ins c l) ∧ (∃ l, b = .ins c l) ∧ P [a, b] Q (fun _ _ => False)
theorem l_binO {K : PySem.W.Frag} {c : Nat} {E : XK} (hn : ∀ ds Q ex, Pm ds Q ex → ds.length = 2) : L2R K (rBinO (He.ga K (cname c)) (spD K 2 Pm) E) (dBinO c Pm) := fun G H x y a b Q R s r1 r2 ⟨⟨l, e1⟩, ⟨m, e2⟩, q⟩ g => by
  subst e1 e2
  obtain ⟨p, dx, ws, rfl, hp, _, _⟩ := id r1.ins_inv
  obtain ⟨p', dx', ws', rfl, hp', _, _⟩ := id r2.ins_inv
  exact ⟨p, dx, _, p', dx', _, rfl, rfl, s _ _ hp, s _ _ hp', sp_call0 s hn ((Reps.one r2).cons r1) q g⟩
def dUnO (c : Nat) (P : Prm) : D → (D → Prop) → Prop := fun a Q => (∃ l, a = .ins c l) ∧ P [a] Q (fun _ _ => False)
theorem l_unO {K : PySem.W.Frag} {c : Nat} {E : XK} (hn : ∀ ds Q ex, Pm ds Q ex → ds.length = 1) : L1R K (rUnO (He.ga K (cname c)) (spD K 1 Pm) E) (dUnO c Pm) := fun G H x a Q R s r1 ⟨⟨l, e1⟩, q⟩ g => by
  subst e1
  obtain ⟨p, dx, ws, rfl, hp, _, _⟩ := id r1.ins_inv
  exact ⟨p, dx, _, rfl, s _ _ hp, sp_call0 s hn (Reps.one r1) q g⟩
theorem l_absO {K : PySem.W.Frag} {c : Nat} {E : XK} (hn : ∀ ds Q ex, Pm ds Q ex → ds.length = 1) : LcR K (fun xs H Q => ∃ (a dx : Addr) (fs : List (Str × V)), xs = [.ref a] ∧ H a = some (.ins (He.ga K (cname c)) dx fs) ∧ spD K 1 Pm [.ref a] H Q E) (fun ds Q => ∃ l, ds = [.ins c l] ∧ Pm ds Q (fun _ _ => False)) :=
  fun G H vs ds Q R s r ⟨l, e1, q⟩ g => by
  subst e1
  obtain ⟨v, rfl, r1⟩ := reps1 r
  obtain ⟨p, dx, ws, rfl, hp, _, _⟩ := id r1.ins_inv
  exact ⟨p, dx, _, rfl, s _ _ hp, sp_call0 s hn (Reps.one r1) q g⟩
/-- == by an own __eq__ -/
def dCmpO (cs : List Nat) (c : Nat) (P : Prm) : R2D := fun a b Q => (∃ l, a = .ins c l) ∧ kind cs b = true ∧ P [a, b] Q (fun _ _ => False)
theorem nf_of {K : PySem.W.Frag} (I : Isi cs K) {c : Nat} (hc : c ∈ cs) {d : D} (hk : kind cs d = true) : PySem.W.notFirst K (He.ga K (cname c)) (tyD K d) = true := by
  cases d with
  | ins c' l => exact I.n2 c hc c' (by unfold kind at hk; simpa using hk)
  | non => exact I.n1 c hc "NoneType" (by decide)
  | bl b => exact I.n1 c hc "bool" (by decide)
  | int i => exact I.n1 c hc "int" (by decide)
  | str s => exact I.n1 c hc "str" (by decide)
  | lst l => exact I.n1 c hc "list" (by decide)
  | tup l => exact I.n1 c hc "tuple" (by decide)
theorem l_cmpO {K : PySem.W.Frag} {c : Nat} {E : XK} (I : Isi cs K) (hcl : ∀ c ∈ cs, Cls K (He.ga K (cname c))) (hc : c ∈ cs) (hn : ∀ ds Q ex, Pm ds Q ex → ds.length = 2) : L2R K (rCmpO (He.ga K (cname c)) (spD K 2 Pm) E K) (dCmpO cs c Pm) := fun G H x y a b Q R s r1 r2 ⟨⟨l, e1⟩, hk, q⟩ g => by
  subst e1
  obtain ⟨p, dx, ws, rfl, hp, _, _⟩ := id r1.ins_inv
  exact ⟨p, dx, _, _, rfl, s _ _ hp, rep_ty I hcl r2 s hk, nf_of I hc hk, sp_call0 s hn ((Reps.one r2).cons r1) q g⟩
def dNeO (cs : List Nat) (c : Nat) (P : Prm) : R2D := fun a b Q => (∃ l, a = .ins c l) ∧ kind cs b = true ∧ P [a, b] (fun d => ∃ k, d = .bl k ∧ Q (.bl (!k))) (fun _ _ => False)
theorem l_neO {K : PySem.W.Frag} {c : Nat} {E : XK} (I : Isi cs K) (hcl : ∀ c ∈ cs, Cls K (He.ga K (cname c))) (hc : c ∈ cs) (hn : ∀ ds Q ex, Pm ds Q ex → ds.length = 2) : L2R K (rNeO (He.ga K (cname c)) (spD K 2 Pm) E K) (dNeO cs c Pm) := fun G H x y a b Q R s r1 r2 ⟨⟨l, e1⟩, hk, q⟩ g => by
  subst e1
  obtain ⟨p, dx, ws, rfl, hp, _, _⟩ := id r1.ins_inv
  refine ⟨p, dx, _, _, rfl, s _ _ hp, rep_ty I hcl r2 s hk, nf_of I hc hk, sp_call0 s hn ((Reps.one r2).cons r1) q fun v H' G' d x r ⟨kk, e, q'⟩ => ?_⟩
  subst e
  exact ⟨kk, r.bl_inv, g _ H' G' _ x (.bl _) q'⟩
/-- str(x) by an own __str__ -/
theorem call_strO {C : Addr} {fd : FuncData} {ps : List Str} {sp : Sp} {E : XK} {CX : CXT} (hs : PySem.W.findIn X.K (.ref C) "__str__" = some (some (.ref f))) (hf : PySem.W.isFn X.K (.ref f) = true)
    (F : FnOk X.prog X.w X.K X.mg X.base CX k f fd ps sp) (hr : Room (k + 2) X.A) (hb : Binds X.K fd ps []) (hx : Passes CX X.nox E) : CallR X (.type "str") (fun xs H Q => ∃ (a dx : Addr) (fs : List (Str × V)), xs = [.ref a] ∧ H a = some (.ins C dx fs) ∧ sp [.ref a] H (fun v H' => ∃ s : Str, v = .str s ∧ Q v H') E) := by
  intro pins s σ H xs us Q I r h
  obtain ⟨a, dx, fs, rfl, ha, q⟩ := h
  obtain ⟨u, rfl, ru⟩ := vals1 r
  cases ru
  obtain ⟨mA, J, _⟩ := ins_get I.hok ha
  obtain ⟨od, J, _⟩ := J.look
  have hl : [Value.ref a].length = ps.length := by
    rw [← F.len _ _ _ _ q]
    rfl
  have hu : X.A.in1.in1.units < cLine := hr.in1.in1.units0
  refine PySem.W.kso_call hu I.kIn J hs hf (wpAny_call (codeAny_mono (F.run X.A.in1.in1 X.stack s H ⟨[.ref a], []⟩ [.ref a] [.ref a] _ E hr.in1.in1 I.env0.in1.in1 (by simpa using hb s [.ref a] I.kIn (by simpa using hl)) (.cons rfl .nil) q) fun r s' hq => ?_))
  cases r with
  | error er => exact False.elim (hx pins σ H s er s' (I.wish _) hq)
  | ok fl =>
    cases fl with
    | ret w =>
      obtain ⟨v, H', I', rv, z, rfl, q3⟩ := I.after hq
      obtain ⟨t', rfl⟩ := rv
      exact ⟨.str z, H', I', ⟨t', rfl⟩, q3⟩
    | next => exact False.elim hq
    | brk => exact False.elim hq
    | cont => exact False.elim hq
theorem l_strO {K : PySem.W.Frag} {c : Nat} {E : XK} (hn : ∀ ds Q ex, Pm ds Q ex → ds.length = 1) : LcR K (fun xs H Q => ∃ (a dx : Addr) (fs : List (Str × V)), xs = [.ref a] ∧ H a = some (.ins (He.ga K (cname c)) dx fs) ∧ spD K 1 Pm [.ref a] H (fun v H' => ∃ s : Str, v = .str s ∧ Q v H') E)
    (fun ds Q => ∃ l, ds = [.ins c l] ∧ Pm ds (fun d => ∃ s, d = .str s ∧ Q d) (fun _ _ => False)) := fun G H vs ds Q R s r ⟨l, e1, q⟩ g => by
  subst e1
  obtain ⟨v, rfl, r1⟩ := reps1 r
  obtain ⟨p, dx, ws, rfl, hp, _, _⟩ := id r1.ins_inv
  refine ⟨p, dx, _, rfl, s _ _ hp, sp_call0 s hn (Reps.one r1) q fun v H' G' d x r ⟨z, e, q'⟩ => ?_⟩
  subst e
  exact ⟨z, r.str_inv, g _ H' G' _ x r q'⟩
/-! ## static methods -/
def smP (K : PySem.W.Frag) (x m : Str) : Addr := match PySem.W.findCls K (.ref (He.ga K x)) (.type "type") m with
  | some (.get _ (.ref p) _ _) => p
  | _ => 0
def smF (K : PySem.W.Frag) (x m : Str) : Addr := match PySem.W.recIn K (smP K x m) "staticmethod" with
  | some (.ref f :: _) => f
  | _ => 0
def smB (K : PySem.W.Frag) (x m : Str) : Bool := PySem.W.readsIn K (He.ga K x) (.type "type") && (decide (PySem.W.specialIn K (.ref (He.ga K x)) "__getattribute__" = some (some (.builtin "type.__getattribute__"))) && ((match PySem.W.findCls K (.ref (He.ga K x)) (.type "type") m with
    | some (.get g (.ref p) ob tp) => decide (g = .builtin "staticmethod.__get__") && (decide (p = smP K x m) && (decide (ob = .none) && decide (tp = .ref (He.ga K x))))
    | _ => false) && ((match PySem.W.recIn K (smP K x m) "staticmethod" with
    | some (.ref f :: _) => decide (f = smF K x m)
    | _ => false) && PySem.W.keepIn K (.ref (smF K x m)))))
structure SmOk (K : PySem.W.Frag) (x m : Str) : Prop where
  rd : PySem.W.readsIn K (He.ga K x) (.type "type") = true
  ga : PySem.W.specialIn K (.ref (He.ga K x)) "__getattribute__" = some (some (.builtin "type.__getattribute__"))
  at_ : PySem.W.findCls K (.ref (He.ga K x)) (.type "type") m = some (.get (.builtin "staticmethod.__get__") (.ref (smP K x m)) .none (.ref (He.ga K x)))
  rc : ∃ rest, PySem.W.recIn K (smP K x m) "staticmethod" = some (.ref (smF K x m) :: rest)
  kp : PySem.W.keepIn K (.ref (smF K x m)) = true
theorem SmOk.of {K : PySem.W.Frag} {x m : Str} (h : smB K x m = true) : SmOk K x m := by
  unfold smB at h
  simp only [Bool.and_eq_true, decide_eq_true_eq] at h
  obtain ⟨h1, h2, h3, h4, h5⟩ := h
  refine ⟨h1, h2, ?_, ?_, h5⟩
  · split at h3
    · rename_i g p ob tp e
      simp only [Bool.and_eq_true, decide_eq_true_eq] at h3
      obtain ⟨rfl, rfl, rfl, rfl⟩ := h3
      exact e
    · cases h3
  · split at h4
    · rename_i f rest e
      exact ⟨rest, by rw [e, of_decide_eq_true h4]⟩
    · cases h4
theorem getmethsm_ok {pins : List (Addr × Obj)} {σ : L2.St} {H : Hp} {s : Shared} {A : Around} {E : Value → Shared → Prop} {pl : Sem Bool} {Q : Value × List Value → Shared → Prop} (I : L2.Inv X pins σ H s) (r : SmOk X.K x m)
    (h : ∀ s', L2.Inv X pins σ H s' → Q (.ref (smF X.K x m), []) s') : wpAny (model X.prog X.w) A (getMethod (.ref (He.ga X.K x)) m pl) Q E s := by
  obtain ⟨rest, hp⟩ := r.rc
  refine PySem.W.method_cls I.kIn r.ga (PySem.W.cls_bind I.kIn r.rd r.at_ ?_)
  exact wpAny_call (PySem.W.sm_get (s := { s with toks := s.toks + 1 }) I.kIn hp (PySem.W.handed_on rfl (h _ (I.tok _))))
def tSm (sp : Sp) (E : L2.St → XK) (t : TA) : TE := fun σ H Q => t σ H fun vs H1 => sp vs H1 Q (E σ)
theorem pe_sm {pl : Sem Bool} {fd : FuncData} {ps : List Str} {sp : Sp} {E : L2.St → XK} {CX : CXT} {sa : TA} (hg : Gl X x) (hm : X.mg x = some (.ref (He.ga X.K x))) (r : SmOk X.K x m) (F : FnOk X.prog X.w X.K X.mg X.base CX k (smF X.K x m) fd ps sp) (hr : Room k X.A) (hb : Binds X.K fd ps []) (hx : ∀ σ, PassesAt CX X σ (E σ)) (ha : PA X (e :: es) sa)
    (hdb : (x == ("__debug__" : Str)) = false := by decide)
    (hst : starEach (e :: es) X.env = (false, eval e X.env) :: starEach es X.env := by rfl) (hpl : (backTo pos (starEach es X.env)).any (·.1) = false := by rfl)
    (ht : eval (.Call (.Attribute (.Name x p) m apos) (e :: es) [] pos) X.env = (do
      let ov ← eval (.Name x p) X.env
      standAt apos.atName
      let (f, first) ← holding [ov] (getMethod ov m pl)
      callWith pos f first (backTo pos (starEach (e :: es) X.env)) (backToKw pos (keywordEach [] X.env))) := by rfl) :
    PE X (.Call (.Attribute (.Name x p) m apos) (e :: es) [] pos) (tSm sp E sa) := by
  refine ⟨fun pins s σ H Q I h => ?_⟩
  refine PySem.W.methodCall_KW (pl := pl) (ld_glob I hg hm ?_ hdb) ht
  refine getmethsm_ok I r fun s1 I1 => ?_
  refine PySem.W.callWith_K (first := []) (h₀ := X.base) I1.ok.mod.kin r.kp (thn (ha.run pos pins s1 σ H _ I1 h) fun us s2 ⟨vs, H2, I2, rv, q2⟩ => ⟨I2.kIn, ?_⟩) hst hpl
  exact run_fnS (us := us) (vs := vs) F hr hb (hx σ) I2 rv q2
theorem pd_sm {pl : Sem Bool} (hg : Gl X x) (hm : X.mg x = some (.ref (He.ga X.K x))) (r : SmOk X.K x m) (F : Fn X.prog X.w X.K X.mg X.base (smF X.K x m) k n Pm) (hr : Room k X.A) (tk : Takes X W) (ha : PDA X W (e :: es) t)
    (hdb : (x == ("__debug__" : Str)) = false := by decide)
    (hst : starEach (e :: es) X.env = (false, eval e X.env) :: starEach es X.env := by rfl) (hpl : (backTo pos (starEach es X.env)).any (·.1) = false := by rfl)
    (ht : eval (.Call (.Attribute (.Name x p) m apos) (e :: es) [] pos) X.env = (do
      let ov ← eval (.Name x p) X.env
      standAt apos.atName
      let (f, first) ← holding [ov] (getMethod ov m pl)
      callWith pos f first (backTo pos (starEach (e :: es) X.env)) (backToKw pos (keywordEach [] X.env))) := by rfl) :
    PD X W (.Call (.Attribute (.Name x p) m apos) (e :: es) [] pos) (dCall Pm t) := by
  obtain ⟨_, pa, la⟩ := ha.of
  refine ⟨_, pe_sm hg hm r F.ok hr F.bd (fun σ => passAt tk σ) pa hdb hst hpl ht, fun H0 G0 G H σ env Q ex R S L q g => la H0 G0 G H σ env _ ex _ S L q fun vs H1 G1 ds x1 r1 q1 => ?_⟩
  exact sp_call (S.ex x1) (L.mono x1.gg) F.len r1 q1 fun v H2 G2 d x2 r2 q2 => g v H2 G2 d (x1.trans x2) r2 q2
theorem foldl_sz (a : Array Nat) : ∀ (n : Nat) (acc : Array Nat), ((List.replicate n a).foldl (· ++ ·) acc).size = acc.size + n * a.size
  | 0, acc => by simp
  | n + 1, acc => by
    rw [List.replicate_succ, List.foldl_cons, foldl_sz a n, Array.size_append, Nat.add_mul]
    omega
theorem szrep (z : Str) (i : Int) (hs : z.length * i.toNat ≤ 16777216) (h0 : sizeLine = 16777216) : (⟨(List.replicate i.toNat z.cps).foldl (· ++ ·) #[]⟩ : Str).length ≤ sizeLine := by
  show ((List.replicate i.toNat z.cps).foldl (· ++ ·) #[]).size ≤ sizeLine
  rw [foldl_sz]
  have : z.cps.size * i.toNat ≤ 16777216 := hs
  rw [Nat.mul_comm] at this
  simp
  omega
/-- text * int -/
theorem op_mulS : OpR X (binaryOp .Mult) (fun x y H Q => ∃ z i, x = .str z ∧ y = .int i ∧ z.length ≤ 100000 ∧ -(2 ^ 63) ≤ i ∧ i ≤ 100000 ∧ z.length * i.toNat ≤ 16777216 ∧ Q (.str (if i < 1 then Str.empty else ⟨(List.replicate i.toNat z.cps).foldl (· ++ ·) #[]⟩)) H) := by
  intro pins s σ H x y v u Q I rx ry h
  obtain ⟨z, i, rfl, rfl, hz, h0, h1, hs, q⟩ := h
  obtain ⟨t, rfl⟩ := rx
  obtain ⟨t', rfl⟩ := ry
  have hs' : sizeLine = 16777216 := sizeLine_eq
  refine PySem.P.mul_str ?_ (fun h2 h3 => ?_) (fun h2 h3 => ?_) ?_
  · rw [decide_eq_false (by omega), decide_eq_false (by omega)]
    rfl
  · have h4 : (100000 : Int) ≤ (2 ^ 63 - 1) / i := by
      rw [Int.le_ediv_iff_mul_le (by omega)]
      omega
    omega
  · unfold PySem.Builtin.Str.tooLong
    rw [decide_eq_false (by omega)]
  · split
    · exact ⟨by decide, .str _, H, I.tok _, ⟨_, rfl⟩, by rw [if_pos (by assumption)] at q; exact q⟩
    · rw [if_neg (by assumption)] at q
      split
      · rename_i h5
        have ez : (⟨(List.replicate i.toNat z.cps).foldl (· ++ ·) #[]⟩ : Str) = z := by
          rcases Bool.or_eq_true_iff.mp h5 with h6 | h6
          · have h7 : i = 1 := beq_iff_eq.mp h6
            subst h7
            show (⟨(List.replicate 1 z.cps).foldl (· ++ ·) #[]⟩ : Str) = z
            simp [List.replicate]
          · have h7 : z.cps = #[] := Array.size_eq_zero_iff.mp (beq_iff_eq.mp h6)
            have h8 : (List.replicate i.toNat z.cps).foldl (· ++ ·) #[] = #[] := Array.size_eq_zero_iff.mp (by rw [foldl_sz, h7]; rfl)
            rw [h8, ← h7]
        rw [ez] at q
        exact ⟨.str _, H, I, ⟨_, rfl⟩, q⟩
      · exact ⟨szrep z i hs (by omega), .str _, H, I.tok _, ⟨_, rfl⟩, q⟩
def dMulS : R2D := fun a b Q => ∃ z i, a = .str z ∧ b = .int i ∧ z.length ≤ 100000 ∧ -(2 ^ 63) ≤ i ∧ i ≤ 100000 ∧ z.length * i.toNat ≤ 16777216 ∧ Q (.str (if i < 1 then Str.empty else ⟨(List.replicate i.toNat z.cps).foldl (· ++ ·) #[]⟩))
theorem l_mulS {K : PySem.W.Frag} : L2R K (fun x y H Q => ∃ z i, x = .str z ∧ y = .int i ∧ z.length ≤ 100000 ∧ -(2 ^ 63) ≤ i ∧ i ≤ 100000 ∧ z.length * i.toNat ≤ 16777216 ∧ Q (.str (if i < 1 then Str.empty else ⟨(List.replicate i.toNat z.cps).foldl (· ++ ·) #[]⟩)) H) dMulS :=
  fun G H x y a b Q R s r1 r2 ⟨z, i, e1, e2, h1, h2, h3, h4, q⟩ g => by
  subst e1 e2
  exact ⟨z, i, r1.str_inv, r2.int_inv, h1, h2, h3, h4, g _ H G _ (.refl s) (.str _) q⟩
end
/-! ## more facts of the text -/
def ciB (K : PySem.W.Frag) (x : Str) (n : Int) : Bool := match PySem.W.nsIn K mainGlobals x with
  | some (some (.int m _)) => m == n
  | _ => false
def moB (cs : List Nat) (sms : List (Str × Str)) (cis : List (Str × Int)) (K : PySem.W.Frag) : Bool := isiB cs K && (sms.all (fun p => smB K p.1 p.2) && cis.all fun p => ciB K p.1 p.2)
structure Mo (cs : List Nat) (sms : List (Str × Str)) (cis : List (Str × Int)) (K : PySem.W.Frag) (mg : Str → Option Value) : Prop where
  isi : Isi cs K
  cls : ∀ c ∈ cs, Cls K (He.ga K (cname c))
  smA : ∀ p ∈ sms, SmOk K p.1 p.2
  ciA : ∀ p ∈ cis, ∃ t, mg p.1 = some (.int p.2 t)
theorem Mo.of {cs : List Nat} {sms : List (Str × Str)} {cis : List (Str × Int)} {K : PySem.W.Frag} {mg : Str → Option Value} {h : Heap} (X : K.In h) (G : h.Ns mainGlobals mg) (hc : ∀ c ∈ cs, Cls K (He.ga K (cname c))) (m : moB cs sms cis K = true) : Mo cs sms cis K mg := by
  obtain ⟨m1, m2⟩ := Bool.and_eq_true_iff.mp m
  obtain ⟨m2, m3⟩ := Bool.and_eq_true_iff.mp m2
  refine ⟨Isi.of m1, hc, fun p hp => SmOk.of (List.all_eq_true.mp m2 p hp), fun p hp => ?_⟩
  have z := List.all_eq_true.mp m3 p hp
  unfold ciB at z
  split at z
  · rename_i n t e
    rw [← beq_iff_eq.mp z]
    exact ⟨t, PySem.W.mg_of X G e⟩
  · cases z
section
variable {cs : List Nat} {sms : List (Str × Str)} {cis : List (Str × Int)} {K : PySem.W.Frag} {mg : Str → Option Value} (M : Mo cs sms cis K mg)
include M
theorem Mo.sm (x m : Str) (h : (x, m) ∈ sms := by decide +kernel) : SmOk K x m := M.smA (x, m) h
theorem Mo.c (x : Str) (n : Int) (h : (x, n) ∈ cis := by decide +kernel) : ∃ t, mg x = some (.int n t) := M.ciA (x, n) h
end
end DL

namespace DL
open PySem PySem.Spec PyProof.Rows L2 LR
/-- the law's own promise -/
def spLaw (K : PySem.W.Frag) : Sp := fun vs H Q _ => ∃ (a : Addr) (ns : List Int), vs = [.ref a] ∧ SqL K H a (ns.map V.int) ∧ ns.length ≤ 63 ∧ ∀ H', Q (.bl true) H'
theorem law_of {P : Program} {w : World} {K : PySem.W.Frag} {mg : Str → Option Value} {x qual : Str} {params : Arguments} {body : List Stmt} {scope : Scope} {f : Addr} {N ps : List Str} {k : Nat}
    (h : ∃ fd, FunD K x qual params body scope [] [] f fd) (S : FnScope N ps scope) (hps : ps = ([("script" : Str)] : List Str))
    (hb : ∀ (kV doc pm : Value) (an : Option Addr) (cdv ct : Value) (us : List Value), us.length = ps.length → bindArgs (PySem.W.fnOf x qual params body scope .none kV doc pm an cdv ct) ⟨us, []⟩ = pure (ps.zip us))
    (hbody : ∀ (base : Heap) (fd : FuncData) (cdv : Value) (A : Around) (outer : List Env) (s : Shared) (H : Hp) (E : XK), Room k (A.deeper (envOfC qual scope s.heap.objs.size f cdv)) →
      ∃ t, PDSs (cxOf CX0 P w K mg base N qual scope f cdv A outer s H E) WN body t ∧ ∀ ns : List Int, ns.length ≤ 63 → t { nx := fun _ => False, rt := fun d => d = .bl true } (start N.length [.lst (ns.map .int)])) :
    ∃ fd : FuncData, (∀ (s : Shared) (v : Value), BindsTo s fd ⟨[v], []⟩ [("script", v)]) ∧ ∀ base : Heap, FnOk P w K mg base CX0 (k + 1) f fd ["script"] (spLaw K) := by
  obtain ⟨fd, F⟩ := h
  subst hps
  refine ⟨fd, fun s v => FunD.bindsA (ps := ["script"]) F (fun kV doc pm an cdv ct us hl => hb kV doc pm an cdv ct us hl) s [v] rfl, fun base => ?_⟩
  refine F.ok S (fun vs H Q E h => ?_) (fun cdv A outer s H vs Q E hr h => ?_)
  · obtain ⟨a, ns, rfl, _⟩ := h
    rfl
  · obtain ⟨a, ns, rfl, hS, hl, q⟩ := h
    obtain ⟨t, pd, ht⟩ := hbody base fd cdv A outer s H E hr
    obtain ⟨ts, pts, l⟩ := pd.of
    have rr : Reps K H [.ref a] [.lst (ns.map .int)] := .one (.lst hS (by simp) (Reps.of_ints ns).2)
    refine ⟨ts, pts, l H H H H _ _ _ { nx := fun _ => False, rt := fun d => d = .bl true } (sr_start (.refl _) rr) ⟨fun σ' H' G' env' _ S' q' => q'.elim, fun σ' H' G' env' _ S' q' => q'.elim, fun σ' H' G' env' _ S' q' => q'.elim, fun v H' G' d _ x r q' => ?_, fun σ' H' G' env' d x fv fs _ S' e r q' => q'.elim⟩ (ht ns hl)⟩
    subst q'
    rw [r.bl_inv]
    exact q _
/-- n.bit_length() -/
def dBits (ta : DT) : DT := fun env Q ex => ta env (fun d => ∃ i : Int, d = .int i ∧ Q (.int ((Builtin.Int.intBits i : Nat) : Int))) ex
theorem pd_bits {X : Cx} {W : WX} {o : Expr} {ta : DT} {apos pos : Pos} (h : PD X W o ta) (hbase : attributeBase o "bit_length" X.env (eval o X.env) = eval o X.env := by rfl) (hline : (apos.endLine == pos.line) = true := by rfl) : PD X W (.Call (.Attribute o "bit_length" apos) [] [] pos) (dBits ta) := by
  obtain ⟨_, p, l⟩ := h.of
  refine ⟨_, pe_bits p hbase hline, fun H0 G0 G H σ env Q ex R S L q g => l H0 G0 G H σ env _ ex _ S L q fun v H1 G1 d x1 r1 ⟨i, e1, q1⟩ => ?_⟩
  subst e1
  exact ⟨i, r1.int_inv, g _ H1 G1 _ x1 (.int _) q1⟩
/-! ## helpers for readings -/
theorem len0 {α : Type} {ws : List α} (h : ws.length = 0) : ws = [] := List.length_eq_zero_iff.mp h
theorem len1 {α : Type} {ws : List α} (h : ws.length = 1) : ∃ a, ws = [a] := List.length_eq_one_iff.mp h
theorem len2 {α : Type} {ws : List α} (h : ws.length = 2) : ∃ a b, ws = [a, b] := match ws, h with | [a, b], _ => ⟨a, b, rfl⟩
theorem len3 {α : Type} {ws : List α} (h : ws.length = 3) : ∃ a b c, ws = [a, b, c] := match ws, h with | [a, b, c], _ => ⟨a, b, c, rfl⟩

theorem d_ite {c : Bool} {p q : Prop} (h1 : c = true → p) (h2 : c = false → q) : if c = true then p else q := by
  cases c with
  | true => exact h1 rfl
  | false => exact h2 rfl
theorem at_map {α : Type} {f : α → D} {l : List α} {k : Int} {x : α} (h0 : 0 ≤ k) (h : l[k.toNat]? = some x) : atI (l.map f) k = some (f x) := by
  have e := atI_nat (xs := l.map f) (j := k.toNat) (v := f x) (by rw [List.getElem?_map, h]; rfl)
  rwa [Int.toNat_of_nonneg h0] at e
theorem at_ex {l : List Int} {k : Int} (h0 : 0 ≤ k) (h1 : k < (l.length : Int)) : ∃ z, z ∈ l ∧ l[k.toNat]? = some z ∧ atI (l.map D.int) k = some (.int z) := by
  have hk : k.toNat < l.length := by omega
  exact ⟨l[k.toNat], List.getElem_mem hk, List.getElem?_eq_getElem hk, at_map h0 (List.getElem?_eq_getElem hk)⟩
theorem map_at {α : Type} {f : α → D} {l : List α} {i : Nat} {d : D} (h : (l.map f)[i]? = some d) : ∃ x, l[i]? = some x ∧ d = f x := by
  rw [List.getElem?_map] at h
  cases e : l[i]? with
  | none =>
    rw [e] at h
    cases h
  | some x =>
    rw [e] at h
    exact ⟨x, rfl, (Option.some.inj h).symm⟩
theorem rng_at {lo : Int} {n i : Nat} {d : D} (h : (rngD lo n)[i]? = some d) : i < n ∧ d = .int (lo + i) := by
  unfold rngD at h
  obtain ⟨x, e, rfl⟩ := map_at h
  obtain ⟨hx, hi⟩ := List.getElem?_eq_some_iff.mp e
  have hi' : i < n := by simpa using hx
  rw [List.getElem_range] at hi
  exact ⟨hi', by rw [hi]⟩
theorem rng_len {lo : Int} {n : Nat} : (rngD lo n).length = n := by simp [rngD]
/-- a comprehension without an if: what holds of the i-th -/
theorem lc_all {α : Type} {n : Nat} {zs : List (Option α)} {R : Nat → α → Prop} (hl : zs.length = n) (h : ∀ (i : Nat) z, zs[i]? = some z → ∃ d, z = some d ∧ R i d) : ∃ l : List α, zs.filterMap id = l ∧ l.length = n ∧ ∀ (i : Nat) d, l[i]? = some d → R i d := by
  have key : ∀ (zs : List (Option α)) (o : Nat), (∀ (i : Nat) z, zs[i]? = some z → ∃ d, z = some d ∧ R (o + i) d) → (zs.filterMap id).length = zs.length ∧ ∀ (i : Nat) d, (zs.filterMap id)[i]? = some d → R (o + i) d := by
    intro zs
    induction zs with
    | nil => exact fun o _ => ⟨rfl, fun i d h => by simp at h⟩
    | cons a r ih =>
      intro o h
      obtain ⟨d, rfl, hd⟩ := h 0 a rfl
      obtain ⟨h1, h2⟩ := ih (o + 1) fun i z hz => by
        have := h (i + 1) z (by simpa using hz)
        rwa [show o + (i + 1) = o + 1 + i by omega] at this
      refine ⟨by simp [h1], fun i e he => ?_⟩
      cases i with
      | zero =>
        simp at he
        subst he
        exact hd
      | succ i =>
        have := h2 i e (by simpa using he)
        rwa [show o + 1 + i = o + (i + 1) by omega] at this
  obtain ⟨h1, h2⟩ := key zs 0 fun i z hz => by simpa using h i z hz
  exact ⟨_, rfl, h1.trans hl, fun i d hd => by simpa using h2 i d hd⟩
/-- .. of the kind f, with P -/
theorem lc_map {α : Type} (f : α → D) {P : Nat → α → Prop} {n : Nat} {zs : List (Option D)} (hl : zs.length = n) (h : ∀ (i : Nat) z, zs[i]? = some z → ∃ v, z = some (f v) ∧ P i v) : ∃ ms : List α, zs.filterMap id = ms.map f ∧ ms.length = n ∧ ∀ (i : Nat) m, ms[i]? = some m → P i m := by
  have key : ∀ (zs : List (Option D)) (o : Nat), (∀ (i : Nat) z, zs[i]? = some z → ∃ v, z = some (f v) ∧ P (o + i) v) → ∃ ms : List α, zs.filterMap id = ms.map f ∧ ms.length = zs.length ∧ ∀ (i : Nat) m, ms[i]? = some m → P (o + i) m := by
    intro zs
    induction zs with
    | nil => exact fun o _ => ⟨[], rfl, rfl, fun i m h => by simp at h⟩
    | cons a r ih =>
      intro o h
      obtain ⟨v, rfl, hv⟩ := h 0 a rfl
      obtain ⟨ms, h1, h2, h3⟩ := ih (o + 1) fun i z hz => by
        have := h (i + 1) z (by simpa using hz)
        rwa [show o + (i + 1) = o + 1 + i by omega] at this
      refine ⟨v :: ms, by simp [h1], by simp [h2], fun i m hm => ?_⟩
      cases i with
      | zero =>
        simp at hm
        subst hm
        exact hv
      | succ i =>
        have := h3 i m (by simpa using hm)
        rwa [show o + 1 + i = o + (i + 1) by omega] at this
  obtain ⟨ms, h1, h2, h3⟩ := key zs 0 fun i z hz => by simpa using h i z hz
  exact ⟨ms, h1, h2.trans hl, fun i m hm => by simpa using h3 i m hm⟩
theorem pick {l : List D} {k : Int} {n : Nat} (hn : l.length = n) (h0 : 0 ≤ k) (h1 : k < n) : ∃ x, atI l k = some x ∧ x ∈ l := by
  obtain ⟨x, _, hm, e⟩ := at_ix (xs := l) h0 (by omega)
  exact ⟨x, e, hm⟩
theorem filt_some {α β : Type} (f : α → β) (l : List α) : (l.map fun x => some (f x)).filterMap id = l.map f := by
  induction l with
  | nil => rfl
  | cons a r ih => simp [ih]
theorem cut_map {α : Type} (f : α → D) (l : List α) (lo hi : Option Int) : ∃ m : List α, cutD (l.map f) lo hi = m.map f ∧ m.length ≤ l.length ∧ ∀ z ∈ m, z ∈ l := by
  unfold cutD
  refine ⟨(l.drop (HT.sIx (l.map f).length 0 lo)).take (HT.sIx (l.map f).length (l.map f).length hi - HT.sIx (l.map f).length 0 lo), ?_, ?_, fun z hz => List.mem_of_mem_drop (List.mem_of_mem_take hz)⟩
  · rw [List.map_take, List.map_drop]
  · rw [List.length_take, List.length_drop]
    omega
end DL

namespace DL
open PySem PySem.Spec PyProof.Rows L2 LR
section
variable {X : Cx} {W : WX} {a b c e : Expr} {ta tb : DT} {pos : Pos}
/-- list + list, whatever the lists are -/
def rCatL (K : PySem.W.Frag) : R2 := fun x y H Q => ∃ l b xs zs, x = .ref l ∧ y = .ref b ∧ SqL K H l xs ∧ SqL K H b zs ∧ xs.length + zs.length ≤ sizeLine ∧ ∀ p, H p = none → Q (.ref p) (upd H p (.lst (xs ++ zs)))
theorem op_catL : OpR X (binaryOp .Add) (rCatL X.K) := by
  intro pins s σ H x y v u Q I rx ry h
  obtain ⟨l, b, xs, zs, rfl, rfl, hH, hB, hz, q⟩ := h
  cases rx
  cases ry
  obtain ⟨its, r, p1, _⟩ := I.list hH
  obtain ⟨its2, r2, p2, _⟩ := I.list hB
  obtain ⟨⟨cls, dd, data, sl⟩, n, ho, hc, hdd, hd⟩ := _root_.id p1
  obtain ⟨⟨cls2, dd2, data2, sl2⟩, n2, ho2, hc2, hdd2, hd2⟩ := _root_.id p2
  simp only at hc hd hdd hc2 hd2 hdd2
  subst hc hd hdd hc2 hd2 hdd2
  have e : its.toArray ++ its2.toArray = (its ++ its2).toArray := by simp
  have hz' : its.length + its2.length ≤ sizeLine := by rw [← r.length, ← r2.length]; exact hz
  refine concat_meets ⟨_, ho, rfl⟩ ⟨_, ho2, rfl⟩ noFill_list_add seq_list_add PySem.F.slot_list_add PySem.F.entry_list_add (PySem.F.args_list_add_2 _ _) (list_addW l b its.toArray its2.toArray n n2 none none sl sl2 (by simpa using hz')) ⟨ho, ho2, ?_⟩
  rw [e]
  exact ⟨.ref _, _, I.lnew (t' := s.toks) (r.append r2) (by rw [List.length_append]; omega), rfl, q _ I.fresh⟩
def dCatA (ta tb : DT) : DTN := fun env Q ex => ta env (fun x => ∃ l, x = .lst l ∧ tb env (fun y => ∃ m, y = .lst m ∧ l.length + m.length ≤ sizeLine ∧ Q (l ++ m)) ex) ex
theorem pdn_catA (ha : PD X W a ta) (hb : PD X W b tb) : PDN X W (.BinOp a .Add b pos) (dCatA ta tb) := by
  obtain ⟨_, pa, la⟩ := ha.of
  obtain ⟨_, pb, lb⟩ := hb.of
  refine ⟨_, pe_op op_catL pa pb, fun H0 G0 G H σ env Q ex R S L q g => la H0 G0 G H σ env _ ex _ S L q fun v H1 G1 d x1 r1 ⟨l, e1, q1⟩ => ?_⟩
  subst e1
  refine lb H0 G0 G1 H1 σ env _ ex _ (S.ex x1) (L.mono x1.gg) q1 fun u H2 G2 d2 x2 r2 ⟨m, e2, hz, q2⟩ => ?_
  subst e2
  obtain ⟨p, vs, rfl, h1, h2⟩ := (r1.same x2.gg).lst_inv
  obtain ⟨p2, us, rfl, h3, h4⟩ := r2.lst_inv
  exact ⟨p, p2, vs, us, rfl, rfl, x2.sub.seq h1, x2.sub.seq h3, by rw [h2.1, h4.1]; exact hz, fun p3 n3 => g p3 _ _ H2 G2 _ (x1.trans x2) n3 rfl (h2.app h4) q2⟩
theorem pdn_rep {tn : DTN} (ha : PDN X W a tn) (hb : PD X W b tb) : PDN X W (.BinOp a .Mult b pos) (dRep tn tb) := by
  obtain ⟨_, pa, la⟩ := ha.of
  obtain ⟨_, pb, lb⟩ := hb.of
  refine ⟨_, pe_op op_rep pa pb, fun H0 G0 G H σ env Q ex R S L q g => la H0 G0 G H σ env _ ex _ S L q fun p vs H' H1 G1 l x1 n e r1 q1 => ?_⟩
  subst e
  have x1' : Ext G H G1 (upd H1 p (.lst vs)) := x1.trans (Ext.hid x1.sub n)
  refine lb H0 G0 G1 _ σ env _ ex _ (S.ex x1') (L.mono x1'.gg) q1 fun u H2 G2 d2 x2 r2 ⟨k, e2, h1, h2, hz, q2⟩ => ?_
  subst e2
  exact ⟨p, k, vs, rfl, r2.int_inv, x2.hh _ _ upd_same, h1, h2, by rw [r1.1]; exact hz, fun p3 n3 => g p3 _ _ H2 G2 _ (x1'.trans x2) n3 rfl (reps_flat (r1.same x2.gg) _) q2⟩
end
/-! data that == may ask -/
def OkS (x : Str) : Prop := ∀ c ∈ x.cps.toList, c < 1114112
theorem OkS.ok {x : Str} (h : OkS x) : PyData.strOk x = true := by
  unfold PyData.strOk
  rw [← Array.all_toList, List.all_eq_true]
  exact fun c hc => decide_eq_true (h c hc)
theorem OkS.of {x : Str} (h : x.cps.toList.all (fun c => decide (c < 1114112)) = true) : OkS x := fun c hc => of_decide_eq_true (List.all_eq_true.mp h c hc)
theorem OkS.app {x y : Str} (h : OkS x) (g : OkS y) : OkS (x ++ y) := fun c hc => by
  rw [Str.cps_append, Array.toList_append] at hc
  rcases List.mem_append.mp hc with h1 | h1
  · exact h c h1
  · exact g c h1
theorem OkS.sub {x y : Str} (h : OkS x) (g : ∀ c ∈ y.cps.toList, c ∈ x.cps.toList) : OkS y := fun c hc => h c (g c hc)
theorem OkS.cut {x : Str} (h : OkS x) (lo hi : Option Int) : OkS (cutS x lo hi) := h.sub fun c hc => by
  unfold cutS at hc
  exact List.mem_of_mem_drop (List.mem_of_mem_take (by simpa using hc))
theorem OkS.rep {x : Str} (h : OkS x) (i : Int) : OkS (if i < 1 then Str.empty else (⟨(List.replicate i.toNat x.cps).foldl (· ++ ·) #[]⟩ : Str)) := by
  split
  · intro c hc
    cases hc
  · have key : ∀ (n : Nat) (acc : Array Nat) (c : Nat), c ∈ ((List.replicate n x.cps).foldl (· ++ ·) acc).toList → c ∈ acc.toList ∨ c ∈ x.cps.toList := by
      intro n
      induction n with
      | zero => exact fun acc c hc => .inl hc
      | succ n ih =>
        intro acc c hc
        rw [List.replicate_succ, List.foldl_cons] at hc
        rcases ih _ c hc with h1 | h1
        · rw [Array.toList_append] at h1
          exact List.mem_append.mp h1
        · exact .inr h1
    intro c hc
    rcases key _ _ c hc with h1 | h1
    · cases h1
    · exact h c h1
theorem OkS.one {c : Nat} (h : c < 1114112) : OkS ⟨#[c]⟩ := fun d hd => by
  have e : d = c := List.mem_singleton.mp hd
  rw [e]
  exact h
theorem OkS.join0 : ∀ ys : List Str, (∀ y ∈ ys, OkS y) → OkS (Str.join ("" : Str) ys)
  | [], _ => fun c hc => by cases hc
  | [y], h => h y List.mem_cons_self
  | y :: z :: r, h => by
    show OkS (y ++ ("" : Str) ++ Str.join ("" : Str) (z :: r))
    exact ((h y List.mem_cons_self).app (OkS.of (by decide +kernel))).app (OkS.join0 (z :: r) fun w hw => h w (List.mem_cons_of_mem _ hw))
theorem OkS.joinE {ys : List Str} (h : ∀ y ∈ ys, OkS y) : OkS (Txt.join ("" : Str) ys) := by
  show OkS (Builtin.Str.glued ("" : Str) ys)
  rw [StrLaws.glued_eq_join]
  exact OkS.join0 ys h
def okN : Nat → D → Prop
  | _, .non => True
  | _, .bl _ => True
  | _, .int _ => True
  | _, .str s => OkS s
  | _, .ins _ _ => False
  | n + 1, .lst l => ∀ x ∈ l, okN n x
  | n + 1, .tup l => ∀ x ∈ l, okN n x
  | 0, .lst _ => False
  | 0, .tup _ => False
theorem okN_all {n : Nat} (ih : ∀ d, okN n d → plainD d = true ∧ (toP d).canLay0 = true ∧ (toP d).depth ≤ n) : ∀ l : List D, (∀ x ∈ l, okN n x) → plainDs l = true ∧ PyData.canLayAll0 (toPs l) = true ∧ PyData.depthAll (toPs l) ≤ n
  | [], _ => ⟨rfl, rfl, Nat.zero_le _⟩
  | d :: r, h => by
    obtain ⟨a1, a2, a3⟩ := ih d (h d List.mem_cons_self)
    obtain ⟨b1, b2, b3⟩ := okN_all ih r fun x hx => h x (List.mem_cons_of_mem _ hx)
    refine ⟨by rw [plainDs, a1, b1]; rfl, ?_, ?_⟩
    · rw [toPs, PyData.canLayAll0, a2, b2]
      rfl
    · rw [toPs, PyData.depthAll]
      exact Nat.max_le.mpr ⟨a3, b3⟩
theorem okN_ok : ∀ (n : Nat) (d : D), okN n d → plainD d = true ∧ (toP d).canLay0 = true ∧ (toP d).depth ≤ n
  | n, .non, _ => by refine ⟨rfl, ?_, ?_⟩ <;> rw [toP] <;> first | rfl | exact Nat.zero_le _
  | n, .bl _, _ => by refine ⟨rfl, ?_, ?_⟩ <;> rw [toP] <;> first | rfl | exact Nat.zero_le _
  | n, .int _, _ => by refine ⟨rfl, ?_, ?_⟩ <;> rw [toP] <;> first | rfl | exact Nat.zero_le _
  | n, .str s, h => by
    have h : OkS s := by cases n <;> exact h
    refine ⟨rfl, ?_, ?_⟩ <;> rw [toP]
    · exact h.ok
    · exact Nat.zero_le _
  | n, .ins _ _, h => by cases n <;> exact h.elim
  | n + 1, .lst l, h => by
    obtain ⟨b1, b2, b3⟩ := okN_all (okN_ok n) l h
    refine ⟨by rw [plainD]; exact b1, ?_, ?_⟩ <;> rw [toP]
    · exact b2
    · exact Nat.succ_le_succ b3
  | n + 1, .tup l, h => by
    obtain ⟨b1, b2, b3⟩ := okN_all (okN_ok n) l h
    refine ⟨by rw [plainD]; exact b1, ?_, ?_⟩ <;> rw [toP]
    · exact b2
    · exact Nat.succ_le_succ b3
  | 0, .lst _, h => h.elim
  | 0, .tup _, h => h.elim
theorem okD_of {d : D} (n : Nat) (h : okN n d) (hn : n ≤ 64) : okD d = true := by
  obtain ⟨h1, h2, h3⟩ := okN_ok n d h
  unfold okD SeqAt.shaped
  rw [h1, h2, decide_eq_true (Nat.le_trans h3 hn)]
  rfl
theorem eqD_refl {d : D} (h : okD d = true) : eqD d d = true := SeqAt.eqv_refl _ (SeqAt.canLay_of_shaped (Bool.and_eq_true_iff.mp h).2)
/-- a field of an error by its place -/
theorem lookup_at {f : Str} {y : D} : ∀ {fs : List (Str × D)} {k : Nat}, (fs.map (·.1)).Nodup → fs[k]? = some (f, y) → fs.lookup f = some y
  | [], _, _, h => by simp at h
  | (g, z) :: fs, 0, _, h => by
    simp at h
    obtain ⟨rfl, rfl⟩ := h
    have e : (g == g) = true := beq_self_eq_true g
    simp only [List.lookup, e]
  | (g, z) :: fs, k + 1, hn, h => by
    rw [List.map_cons, List.nodup_cons] at hn
    have h' : fs[k]? = some (f, y) := by simpa using h
    have ne : (f == g) = false := beq_eq_false_iff_ne.mpr fun e => hn.1 (by rw [← e]; exact List.mem_map.mpr ⟨_, List.mem_of_getElem? h', rfl⟩)
    simp only [List.lookup, ne]
    exact lookup_at hn.2 h'
/-- the i-th of some texts -/
theorem pick_str {ys : List Str} {n B : Nat} {k : Int} (hn : ys.length = n) (hB : ys.all (fun s => decide (s.length ≤ B)) = true) (h0 : 0 ≤ k) (h1 : k < n) : ∃ s : Str, atI (ys.map D.str) k = some (.str s) ∧ s.length ≤ B := by
  obtain ⟨x, e, hm⟩ := pick (l := ys.map D.str) (n := n) (by rw [List.length_map]; exact hn) h0 h1
  obtain ⟨s, hs, rfl⟩ := List.mem_map.mp hm
  exact ⟨s, e, of_decide_eq_true (List.all_eq_true.mp hB s hs)⟩
theorem pick_strP {ys : List Str} {n B : Nat} {k : Int} (hn : ys.length = n) (hB : ∀ y ∈ ys, y.length ≤ B) (h0 : 0 ≤ k) (h1 : k < n) : ∃ s : Str, atI (ys.map D.str) k = some (.str s) ∧ s.length ≤ B := by
  obtain ⟨x, e, hm⟩ := pick (l := ys.map D.str) (n := n) (by rw [List.length_map]; exact hn) h0 h1
  obtain ⟨s, hs, rfl⟩ := List.mem_map.mp hm
  exact ⟨s, e, hB s hs⟩
/-- .. with what all of them are -/
theorem pick_strQ {ys : List Str} {n : Nat} {k : Int} {P : Str → Prop} (hn : ys.length = n) (hB : ∀ y ∈ ys, P y) (h0 : 0 ≤ k) (h1 : k < n) : ∃ s : Str, atI (ys.map D.str) k = some (.str s) ∧ P s := by
  obtain ⟨x, e, hm⟩ := pick (l := ys.map D.str) (n := n) (by rw [List.length_map]; exact hn) h0 h1
  obtain ⟨s, hs, rfl⟩ := List.mem_map.mp hm
  exact ⟨s, e, hB s hs⟩
theorem all_okS {ys : List Str} (h : ys.all (fun s => s.cps.toList.all fun c => decide (c < 1114112)) = true) : ∀ y ∈ ys, OkS y := fun y hy => OkS.of (List.all_eq_true.mp h y hy)
theorem pick_int {ys : List Int} {n : Nat} {lo hi k : Int} (hn : ys.length = n) (hB : ys.all (fun m => decide (lo ≤ m) && decide (m ≤ hi)) = true) (h0 : 0 ≤ k) (h1 : k < n) : ∃ m : Int, atI (ys.map D.int) k = some (.int m) ∧ lo ≤ m ∧ m ≤ hi := by
  obtain ⟨x, e, hm⟩ := pick (l := ys.map D.int) (n := n) (by rw [List.length_map]; exact hn) h0 h1
  obtain ⟨m, hs, rfl⟩ := List.mem_map.mp hm
  have := List.all_eq_true.mp hB m hs
  rw [Bool.and_eq_true, decide_eq_true_eq, decide_eq_true_eq] at this
  exact ⟨m, e, this⟩
/-- text * int -/
theorem rep_len (z : Str) (i : Int) : (if i < 1 then Str.empty else (⟨(List.replicate i.toNat z.cps).foldl (· ++ ·) #[]⟩ : Str)).length ≤ z.length * i.toNat := by
  split
  · exact Nat.zero_le _
  · show ((List.replicate i.toNat z.cps).foldl (· ++ ·) #[]).size ≤ _
    rw [foldl_sz, Nat.mul_comm]
    simp [Str.length]
theorem sz_two {a b : Nat} (ha : a ≤ 1000000) (hb : b ≤ 1000000) : a + b ≤ sizeLine := by rw [sizeLine_eq]; omega
theorem ones_sum : ∀ ys : List Str, (∀ y ∈ ys, y.length = 1) → (ys.map (·.length)).sum = ys.length
  | [], _ => rfl
  | y :: ys, h => by
    have e := ones_sum ys fun z hz => h z (List.mem_cons_of_mem _ hz)
    have e1 := h y List.mem_cons_self
    simp only [List.map_cons, List.sum_cons, List.length_cons]
    omega
end DL

namespace DL
open PySem PySem.Spec PyProof.Rows L2 LR
/-! ## lists lent -/
/-- a thing that holds no list -/
inductive NoL : D → Prop
  | non : NoL .non
  | bl (b : Bool) : NoL (.bl b)
  | int (i : Int) : NoL (.int i)
  | str (s : Str) : NoL (.str s)
  | tup {l : List D} (h : ∀ x ∈ l, NoL x) : NoL (.tup l)
  | ins {c : Nat} {l : List D} (h : ∀ x ∈ l, NoL x) : NoL (.ins c l)
theorem NoL.ints (ns : List Int) : ∀ x ∈ ns.map D.int, NoL x := fun x hx => by
  obtain ⟨n, _, rfl⟩ := List.mem_map.mp hx
  exact .int n
theorem NoL.two {x y : D} (h1 : NoL x) (h2 : NoL y) : ∀ z ∈ [x, y], NoL z := fun z hz => by
  simp only [List.mem_cons, List.not_mem_nil, or_false] at hz
  rcases hz with rfl | rfl <;> assumption
theorem NoL.vec {c : Nat} {ns : List Int} {b : Int} : NoL (.ins c [.tup (ns.map D.int), .int b]) := .ins (NoL.two (.tup (NoL.ints ns)) (.int b))
theorem Rep.cut {K : PySem.W.Frag} {G G' : Hp} {p : Addr} {ws : List V} (hp : G p = some (.lst ws)) (hs : ∀ a, a ≠ p → G' a = G a) {v : V} {d : D} (r : Rep K G v d) : NoL d → Rep K G' v d := by
  induction r with
  | non => exact fun _ => .non
  | bl b => exact fun _ => .bl b
  | int i => exact fun _ => .int i
  | str x => exact fun _ => .str x
  | lst h n _ ih => exact fun z => by cases z
  | @tup a vs l h n _ ih =>
    intro z
    cases z with
    | tup z =>
      refine .tup ?_ n fun i v d h1 h2 => ih i v d h1 h2 (z d (List.mem_of_getElem? h2))
      rcases h with (h | ⟨o, h⟩) | h
      · have ne : a ≠ p := fun e => by
          rw [e, hp] at h
          cases h
        exact .inl (.inl ((hs a ne).trans h))
      · have ne : a ≠ p := fun e => by
          rw [e, hp] at h
          cases h
        exact .inl (.inr ⟨o, (hs a ne).trans h⟩)
      · exact .inr h
  | @ins a dx c vs l h m n _ ih =>
    intro z
    cases z with
    | ins z =>
      have ne : a ≠ p := fun e => by
        rw [e, hp] at h
        cases h
      exact .ins ((hs a ne).trans h) m n fun i v d h1 h2 => ih i v d h1 h2 (z d (List.mem_of_getElem? h2))
section
variable {K : PySem.W.Frag} {H0 G0 G H : Hp} {σ : L2.St} {env : DE}
theorem SR.lend (S : SR K H0 G0 G H σ env) {i : Nat} {l : List D} (he : env[i]? = some (.own l)) : ∃ (p : Addr) (vs : List V), G p = none ∧ H p = some (.lst vs) ∧ SR K H0 G0 (upd G p (.lst vs)) H σ (env.set i (.val (.lst l))) := by
  obtain ⟨p, vs, hp, hq, gp, op, rq⟩ := S.own i l he
  have gG : Same G (upd G p (.lst vs)) := same_new gp
  refine ⟨p, vs, gp, hq, S.same, fun b u e => ?_, S.g0.trans gG, fun a h1 h2 => ?_, by simp [S.len], fun j u h' => ?_, fun j k u w q jk h1 h2 m1 m2 h3 => ?_⟩
  · by_cases hb : b = p
    · subst hb
      rw [upd_same] at e
      cases e
      exact hq
    · rw [upd_ne hb] at e
      exact S.sub b u e
  · by_cases hb : a = p
    · subst hb
      exact op
    · rw [upd_ne hb] at h1
      exact S.ext a h1 h2
  · rcases set_key h' with ⟨rfl, rfl, hl⟩ | ⟨hj, e1⟩
    · have r2 := rq.same gG
      exact ⟨_, hp, .lst (SqL.of upd_same) r2.1 r2.2⟩
    · have w := S.slot j u e1
      cases u with
      | no => trivial
      | val d =>
        obtain ⟨v, e2, r⟩ := w
        exact ⟨v, e2, r.same gG⟩
      | own m =>
        obtain ⟨q, xs, e3, hq', gq, oq, rq'⟩ := w
        refine ⟨q, xs, e3, hq', ?_, oq, rq'.same gG⟩
        rw [upd_ne]
        · exact gq
        · intro z
          subst z
          exact S.apart j i _ _ q hj e1 he rfl rfl e3 hp
      | ob q c fs =>
        obtain ⟨dx, xs, e3, hq', gq, oq, rq'⟩ := w
        refine ⟨dx, xs, e3, hq', ?_, oq, rq'.same gG⟩
        rw [upd_ne]
        · exact gq
        · intro z
          subst z
          exact S.apart j i _ _ q hj e1 he rfl rfl e3 hp
      | exc a dd x fs =>
        obtain ⟨fv, e3, hd, r⟩ := w
        exact ⟨fv, e3, hd, r.same gG⟩
  · rcases set_key h1 with ⟨rfl, rfl, _⟩ | ⟨hj, e1⟩
    · cases m1
    rcases set_key h2 with ⟨rfl, rfl, _⟩ | ⟨hk, f1⟩
    · cases m2
    exact S.apart j k u w q jk e1 f1 m1 m2 h3
/-- behind the loan -/
theorem Ext.back {H' G' : Hp} {p : Addr} {vs : List V} (gp : G p = none) (x : Ext (upd G p (.lst vs)) H G' H') : Ext G H (fun a => if a = p then none else G' a) H' := by
  refine ⟨x.hh, fun a o e => ?_, fun a o e => ?_, fun a h1 h2 => ?_⟩
  · have ne : a ≠ p := ne_of_none e gp
    show (if a = p then none else G' a) = some o
    rw [if_neg ne]
    exact x.gg a o ((upd_ne ne).trans e)
  · by_cases ne : a = p
    · rw [if_pos ne] at e
      cases e
    · rw [if_neg ne] at e
      exact x.sub a o e
  · by_cases ne : a = p
    · rw [if_pos ne] at h1
      exact absurd rfl h1
    · rw [if_neg ne] at h1
      exact x.new a h1 ((upd_ne ne).trans h2)
end
section
variable {X : Cx} {W : WX} {a b c e : Expr} {es : List Expr} {ta tb tc : DT} {t : DTA} {pos : Pos}
def dLend (i : Nat) (ta : DT) : DT := fun env Q _ => ∃ l, env[i]? = some (.own l) ∧ ta (env.set i (.val (.lst l))) (fun d => NoL d ∧ Q d) (fun _ _ => False)
def dLendT (i : Nat) (t : DTT) : DTT := fun env Q _ => ∃ l, env[i]? = some (.own l) ∧ t (env.set i (.val (.lst l))) Q (fun _ _ => False)
theorem pd_lend (i : Nat) (h : PD X W e ta) : PD X W e (dLend i ta) := by
  obtain ⟨_, pa, la⟩ := h.of
  refine ⟨_, pa, fun H0 G0 G H σ env Q ex R S L ⟨l, hl, q⟩ g => ?_⟩
  obtain ⟨p, vs, gp, hp, S1⟩ := S.lend hl
  refine la H0 G0 _ H σ _ _ _ R S1 LkE.no q fun v H2 G2 d x r ⟨nl, q2⟩ => ?_
  exact g v H2 _ d (x.back gp) (r.cut (x.gg _ _ upd_same) (fun a ne => if_neg ne) nl) q2
theorem pdt_lend {t : DTT} (i : Nat) (h : PDT X W e t) : PDT X W e (dLendT i t) := by
  obtain ⟨_, pa, la⟩ := h.of
  refine ⟨_, pa, fun H0 G0 G H σ env Q ex R S L ⟨l, hl, q⟩ g => ?_⟩
  obtain ⟨p, vs, gp, hp, S1⟩ := S.lend hl
  exact la H0 G0 _ H σ _ _ _ R S1 LkE.no q fun v H2 G2 x q2 => g v H2 _ (x.back gp) q2
end
end DL

namespace PySem.W
open PySem PySem.Calls PyProof.Rows
section
variable {prog : Program} {w : World} {A : Around} {E : Value → Shared → Prop} {s : Shared} {K : Frag} {x y C D f f0 g : Addr} {ox oy : Obj} {od oyd : Option Obj}
/-- x op b, two own classes: the left one's method answers -/
theorem two_own {op : Operator} {b : Value} {rc rd : Option Value} {Q : Value → Shared → Prop} (X : K.In s.heap) (I : InstAt s.heap x ox C od) (hb : Looks (model prog w) s.heap (typeOf b) (.ref D)) (hne : C ≠ D) (hc : selfFirst K C = true) (hd : selfFirst K D = true)
    (hs : findIn K (.ref C) (PySem.dunder op.info.2) = some (some (.ref f))) (hf : isFn K (.ref f) = true) (hr : findIn K (.ref C) (dunderR op.info.2) = some rc) (hp : rc = none ∨ ∃ z : Addr, rc = some (.ref z))
    (hs2 : findIn K (.ref D) (PySem.dunder op.info.2) = some (some (.ref g))) (hr2 : findIn K (.ref D) (dunderR op.info.2) = some rd) (hp2 : rd = none ∨ ∃ z : Addr, rd = some (.ref z)) (hsub : subIn K (.ref D) (.ref C) = some false)
    (h : wpAny (model prog w) A (call (.ref f) [.ref x, b]) (CmpBack Q) E s) : wpAny (model prog w) A (binaryOp op (.ref x) b) Q E s := by
  obtain ⟨cd, rest, hcd, hm⟩ := ksp_first hc
  obtain ⟨cd2, rest2, hcd2, hm2⟩ := ksp_first hd
  rcases hi : op.info with ⟨sym, nm⟩
  rw [hi] at hs hr hs2 hr2
  dsimp only at hs hr hs2 hr2
  have one := ksp_try X I hs hf h
  obtain ⟨hh, gn, dr, tk, os⟩ := s
  have l1 : Looks (model prog w) hh (typeOf (.ref x)) (.ref C) := I.type
  have l2 : Looks (model prog w) hh (typeOf b) (.ref D) := hb
  have l3 : Looks (model prog w) hh (fillsNumberSlot (.ref C) nm) true := fills_K X hcd hm hs
  have l4 : Looks (model prog w) hh (fillsNumberSlot (.ref D) nm) true := fills_K X hcd2 hm2 hs2
  have l5 : Looks (model prog w) hh (isSubtype (.ref D) (.ref C)) false := looks_subIn X hsub
  have l6 : Looks (model prog w) hh (numberSlotInPython (.ref C) nm) true := ksp_inPy X hs hr hp
  have l7 : Looks (model prog w) hh (numberSlotInPython (.ref D) nm) true := ksp_inPy X hs2 hr2 hp2
  have ne : (Value.ref C == Value.ref D) = false := beq_eq_false_iff_ne.mpr fun z => hne (Value.ref.inj z)
  simp only [binaryOp, hi]
  refine wpAny_holding (wpAny_bind ?_)
  unfold binaryOp1
  refine wpAny_bind (l1.at (wpAny_bind (l2.at (wpAny_bind (l3.at ?_)))))
  simp only [ne, Bool.false_eq_true, if_false]
  ksp_lk
  refine wpAny_mono one (fun r s' hr' => ?_) fun _ _ e => e
  obtain ⟨v, rfl, hq⟩ := hr'
  ksp_lk
  exact hq
theorem try_none {Q : Option Value → Shared → Prop} {name : Str} {b : Value} (X : K.In s.heap) (I : InstAt s.heap x ox C od) (hs : findIn K (.ref C) name = some (some (.ref f))) (hf : isFn K (.ref f) = true)
    (h : wpAny (model prog w) A (call (.ref f) [.ref x, b]) (fun v s' => v = .notImplemented ∧ Q none s') E s) : wpAny (model prog w) A (tryMethod (.ref x) name b) Q E s := by
  unfold tryMethod
  refine wpAny_bind (special_fn X I hs (beq_iff_eq.mp hf) (wpAny_mono h (fun v s' hv => ?_) fun _ _ e => e))
  obtain ⟨rfl, hq⟩ := hv
  exact wpAny_pure hq
/-- x op y, two own classes: the left one's method declines, the right one's reflected method answers -/
theorem two_refl {op : Operator} {rd : Option Value} {Q : Value → Shared → Prop} (X : K.In s.heap) (I : InstAt s.heap x ox D od) (J : InstAt s.heap y oy C oyd) (hne : D ≠ C) (hc : selfFirst K C = true) (hd : selfFirst K D = true)
    (hs : findIn K (.ref D) (PySem.dunder op.info.2) = some (some (.ref f0))) (hf0 : isFn K (.ref f0) = true) (hr : findIn K (.ref D) (dunderR op.info.2) = some rd) (hp : rd = none ∨ ∃ z : Addr, rd = some (.ref z))
    (hs2 : findIn K (.ref C) (PySem.dunder op.info.2) = some (some (.ref g))) (hr2 : findIn K (.ref C) (dunderR op.info.2) = some (some (.ref f))) (hf : isFn K (.ref f) = true) (hsub : subIn K (.ref C) (.ref D) = some false)
    (h : wpAny (model prog w) A (call (.ref f0) [.ref x, .ref y]) (fun v s1 => v = .notImplemented ∧ K.In s1.heap ∧ (∃ o d, InstAt s1.heap x o D d) ∧ (∃ o d, InstAt s1.heap y o C d) ∧ wpAny (model prog w) A (call (.ref f) [.ref y, .ref x]) (CmpBack Q) E s1) E s) :
    wpAny (model prog w) A (binaryOp op (.ref x) (.ref y)) Q E s := by
  obtain ⟨cd, rest, hcd, hm⟩ := ksp_first hd
  obtain ⟨cd2, rest2, hcd2, hm2⟩ := ksp_first hc
  rcases hi : op.info with ⟨sym, nm⟩
  rw [hi] at hs hr hs2 hr2
  dsimp only at hs hr hs2 hr2
  have one : ∀ {R : Option Value → Shared → Prop}, (∀ s1, K.In s1.heap → (∃ o d, InstAt s1.heap x o D d) → (∃ o d, InstAt s1.heap y o C d) → wpAny (model prog w) A (call (.ref f) [.ref y, .ref x]) (CmpBack Q) E s1 → R none s1) → wpAny (model prog w) A (tryMethod (.ref x) (PySem.dunder nm) (.ref y)) R E s := fun k =>
    try_none X I hs hf0 (wpAny_mono h (fun v s1 z => ⟨z.1, k s1 z.2.1 z.2.2.1 z.2.2.2.1 z.2.2.2.2⟩) fun _ _ e => e)
  obtain ⟨hh, gn, dr, tk, os⟩ := s
  have l1 : Looks (model prog w) hh (typeOf (.ref x)) (.ref D) := I.type
  have l2 : Looks (model prog w) hh (typeOf (.ref y)) (.ref C) := J.type
  have l3 : Looks (model prog w) hh (fillsNumberSlot (.ref D) nm) true := fills_K X hcd hm hs
  have l4 : Looks (model prog w) hh (fillsNumberSlot (.ref C) nm) true := fills_K X hcd2 hm2 hs2
  have l5 : Looks (model prog w) hh (isSubtype (.ref C) (.ref D)) false := looks_subIn X hsub
  have l6 : Looks (model prog w) hh (numberSlotInPython (.ref D) nm) true := ksp_inPy X hs hr hp
  have l7 : Looks (model prog w) hh (numberSlotInPython (.ref C) nm) true := ksp_inPy X hs2 hr2 (.inr ⟨_, rfl⟩)
  have ne : (Value.ref D == Value.ref C) = false := beq_eq_false_iff_ne.mpr fun z => hne (Value.ref.inj z)
  simp only [binaryOp, hi]
  refine wpAny_holding (wpAny_bind ?_)
  unfold binaryOp1
  refine wpAny_bind (l1.at (wpAny_bind (l2.at (wpAny_bind (l3.at ?_)))))
  simp only [ne, Bool.false_eq_true, if_false]
  ksp_lk
  refine one fun s1 X1 ⟨o1, d1, I1⟩ ⟨o2, d2, J1⟩ z => ?_
  have two := ksp_try X1 J1 hr2 hf z
  obtain ⟨hh1, gn1, dr1, tk1, os1⟩ := s1
  have m1 : Looks (model prog w) hh1 (typeOf (.ref x)) (.ref D) := I1.type
  have m2 : Looks (model prog w) hh1 (typeOf (.ref y)) (.ref C) := J1.type
  simp only [if_true]
  refine wpAny_bind (m1.at (wpAny_bind (m2.at ?_)))
  simp only [ne, Bool.false_eq_true, if_false]
  ksp_lk
  refine wpAny_mono two (fun r s' hr' => ?_) fun _ _ e => e
  obtain ⟨v, rfl, hq⟩ := hr'
  ksp_lk
  exact hq
theorem int_mul_own (i : Int) (t : Tok) (y dy : Addr) : Meets (Builtin.«int.__mul__» ⟨[.int i t, .ref y], []⟩) (fun _ R s => s.heap.get? y = some (instObj C dy) ∧ R (.ok (.ret Value.notImplemented)) s) :=
  .of_wp fun prog w A R s h => by
    obtain ⟨hh, gn, dr, tk, os⟩ := s
    obtain ⟨hl, h⟩ := h
    wp_walk
    exact ⟨_, rfl, h⟩
/-- a op y, a of a built-in type, y of an own class with a reflected method, where the type's own method declines -/
theorem blt_refl {op : Operator} {a : Value} {T : String} {Q : Value → Shared → Prop} (ha : typeOf a = pure (.type T)) (X : K.In s.heap) (J : InstAt s.heap y oy C oyd) (hc : selfFirst K C = true) (hfill : fillsNumberSlot (.type T) op.info.2 = pure true)
    (one : ∀ {R : Option Value → Shared → Prop}, R none s → wpAny (model prog w) A (tryMethod a (PySem.dunder op.info.2) (.ref y)) R E s)
    (hs2 : findIn K (.ref C) (PySem.dunder op.info.2) = some (some (.ref g))) (hr2 : findIn K (.ref C) (dunderR op.info.2) = some (some (.ref f))) (hf : isFn K (.ref f) = true) (hsub : subIn K (.ref C) (.type T) = some false)
    (h : wpAny (model prog w) A (call (.ref f) [.ref y, a]) (CmpBack Q) E s) : wpAny (model prog w) A (binaryOp op a (.ref y)) Q E s := by
  obtain ⟨cd2, rest2, hcd2, hm2⟩ := ksp_first hc
  rcases hi : op.info with ⟨sym, nm⟩
  rw [hi] at hs2 hr2 hfill one
  dsimp only at hs2 hr2 hfill one
  have two := ksp_try X J hr2 hf h
  obtain ⟨hh, gn, dr, tk, os⟩ := s
  have l1 : Looks (model prog w) hh (typeOf a) (.type T) := Looks.of_pure ha
  have l2 : Looks (model prog w) hh (typeOf (.ref y)) (.ref C) := J.type
  have l3 : Looks (model prog w) hh (fillsNumberSlot (.type T) nm) true := Looks.of_pure hfill
  have l4 : Looks (model prog w) hh (fillsNumberSlot (.ref C) nm) true := fills_K X hcd2 hm2 hs2
  have l5 : Looks (model prog w) hh (isSubtype (.ref C) (.type T)) false := looks_subIn X hsub
  have l6 : Looks (model prog w) hh (numberSlotInPython (.type T) nm) false := Looks.of_pure rfl
  have ne : (Value.type T == Value.ref C) = false := beq_eq_false_iff_ne.mpr fun z => by cases z
  simp only [binaryOp, hi]
  refine wpAny_holding (wpAny_bind ?_)
  unfold binaryOp1
  refine wpAny_bind (l1.at (wpAny_bind (l2.at (wpAny_bind (l3.at ?_)))))
  simp only [ne, Bool.false_eq_true, if_false]
  ksp_lk
  refine one ?_
  ksp_lk
  refine wpAny_mono two (fun r s' hr' => ?_) fun _ _ e => e
  obtain ⟨v, rfl, hq⟩ := hr'
  ksp_lk
  exact hq
theorem int_call {dy : Addr} {i : Int} {t : Tok} {R : Value → Shared → Prop} (J : s.heap.get? y = some (instObj C dy)) (k : R .notImplemented s) : wpAny (model prog w) A (call (.builtin "int.__mul__") [.int i t, .ref y]) R E s :=
  call_meets F.slot_int_mul (typeIs_int s i t) F.entry_int_mul (F.args_int_mul_2 _ _) (int_mul_own (C := C) i t y dy) ⟨J, k⟩
theorem int_declines {dy : Addr} {i : Int} {t : Tok} {R : Option Value → Shared → Prop} (J : s.heap.get? y = some (instObj C dy)) (k : R none s) : wpAny (model prog w) A (tryMethod (.int i t) (PySem.dunder "mul") (.ref y)) R E s := by
  have hT := typeIs_int s i t
  have hS := F.slot_int_mul
  have z := @wpAny_tryMethod_declines (model prog w) A E s (.int i t) (.ref y) "int" (PySem.dunder "mul") "int.__mul__" R hT hS
  exact z (int_call J ⟨rfl, k⟩)
theorem int_refl {dy : Addr} {i : Int} {t : Tok} {Q : Value → Shared → Prop} (X : K.In s.heap) (J : InstAt s.heap y (instObj C dy) C oyd) (hc : selfFirst K C = true)
    (hs2 : findIn K (.ref C) (PySem.dunder "mul") = some (some (.ref g))) (hr2 : findIn K (.ref C) (dunderR "mul") = some (some (.ref f))) (hf : isFn K (.ref f) = true) (hsub : subIn K (.ref C) (.type "int") = some false)
    (h : wpAny (model prog w) A (call (.ref f) [.ref y, .int i t]) (CmpBack Q) E s) : wpAny (model prog w) A (binaryOp .Mult (.int i t) (.ref y)) Q E s := by
  have e : Operator.info .Mult = ("*", "mul") := rfl
  refine blt_refl (op := .Mult) (T := "int") (g := g) rfl X J hc ?_ (fun {R} k => ?_) ?_ ?_ hf hsub h
  · rw [e]
    exact F.fills_int_mul
  · rw [e]
    exact int_declines J.at_ k
  · rw [e]
    exact hs2
  · rw [e]
    exact hr2
end
end PySem.W
namespace DL
open PySem PySem.Spec PyProof.Rows L2 LR
/-! ## operators of mixed kinds -/
def binB (K : PySem.W.Frag) (nm : String) (C : Addr) : Bool := PySem.W.selfFirst K C && ((match PySem.W.findIn K (.ref C) (PySem.dunder nm) with
    | some (some (.ref _)) => true
    | _ => false) && (match PySem.W.findIn K (.ref C) (dunderR nm) with
    | some none => true
    | some (some (.ref _)) => true
    | _ => false))
structure BinC (K : PySem.W.Frag) (nm : String) (C : Addr) : Prop where
  fst : PySem.W.selfFirst K C = true
  fn : ∃ f : Addr, PySem.W.findIn K (.ref C) (PySem.dunder nm) = some (some (.ref f))
  rf : ∃ rc, PySem.W.findIn K (.ref C) (dunderR nm) = some rc ∧ (rc = none ∨ ∃ z : Addr, rc = some (.ref z))
theorem BinC.of {K : PySem.W.Frag} {nm : String} {C : Addr} (h : binB K nm C = true) : BinC K nm C := by
  unfold binB at h
  obtain ⟨h1, h2⟩ := Bool.and_eq_true_iff.mp h
  obtain ⟨h2, h3⟩ := Bool.and_eq_true_iff.mp h2
  refine ⟨h1, ?_, ?_⟩
  · split at h2
    · rename_i f e
      exact ⟨f, e⟩
    · cases h2
  · split at h3
    · rename_i e
      exact ⟨_, e, .inl rfl⟩
    · rename_i f e
      exact ⟨_, e, .inr ⟨f, rfl⟩⟩
    · cases h3
abbrev gc (K : PySem.W.Frag) (c : Nat) : Addr := He.ga K (cname c)
def mixB (K : PySem.W.Frag) (nm : String) (cs : List Nat) : Bool := cs.all (fun c => binB K nm (gc K c) && ((decide (PySem.W.subIn K (.type "int") (.ref (gc K c)) = some false) && decide (PySem.W.subIn K (.ref (gc K c)) (.type "int") = some false)) &&
    cs.all fun d => decide (c = d) || (decide (gc K c ≠ gc K d) && decide (PySem.W.subIn K (.ref (gc K d)) (.ref (gc K c)) = some false)))) &&
  ((PySem.W.findIn K (.type "int") (PySem.dunder nm)).isSome && (PySem.W.findIn K (.type "int") (dunderR nm)).isSome)
structure Mix (K : PySem.W.Frag) (nm : String) (cs : List Nat) : Prop where
  bin : ∀ c ∈ cs, BinC K nm (gc K c)
  ti : ∀ c ∈ cs, PySem.W.subIn K (.type "int") (.ref (gc K c)) = some false ∧ PySem.W.subIn K (.ref (gc K c)) (.type "int") = some false
  ne : ∀ c ∈ cs, ∀ d ∈ cs, c ≠ d → gc K c ≠ gc K d ∧ PySem.W.subIn K (.ref (gc K d)) (.ref (gc K c)) = some false
  io : (∃ fo, PySem.W.findIn K (.type "int") (PySem.dunder nm) = some fo) ∧ ∃ ro, PySem.W.findIn K (.type "int") (dunderR nm) = some ro
theorem Mix.of {K : PySem.W.Frag} {nm : String} {cs : List Nat} (h : mixB K nm cs = true) : Mix K nm cs := by
  unfold mixB at h
  obtain ⟨h1, h2⟩ := Bool.and_eq_true_iff.mp h
  obtain ⟨h2, h3⟩ := Bool.and_eq_true_iff.mp h2
  have k := fun c hc => Bool.and_eq_true_iff.mp (List.all_eq_true.mp h1 c hc)
  refine ⟨fun c hc => .of (k c hc).1, fun c hc => ?_, fun c hc d hd cd => ?_, Option.isSome_iff_exists.mp h2, Option.isSome_iff_exists.mp h3⟩
  · obtain ⟨z, _⟩ := Bool.and_eq_true_iff.mp (k c hc).2
    obtain ⟨z1, z2⟩ := Bool.and_eq_true_iff.mp z
    exact ⟨of_decide_eq_true z1, of_decide_eq_true z2⟩
  · obtain ⟨_, z⟩ := Bool.and_eq_true_iff.mp (k c hc).2
    have z := List.all_eq_true.mp z d hd
    rw [decide_eq_false cd, Bool.false_or] at z
    obtain ⟨z1, z2⟩ := Bool.and_eq_true_iff.mp z
    exact ⟨of_decide_eq_true z1, of_decide_eq_true z2⟩
section
variable {X : Cx} {W : WX} {a b e : Expr} {ta tb : DT} {sa sb : TE} {pos : Pos} {k : Nat} {f : Addr} {Pm : Prm} {fd : FuncData} {ps : List Str} {sp : Sp} {E : L2.St → XK} {CX : CXT} {c : Nat} {cs : List Nat} {op : Operator}
abbrev R2S := L2.St → R2
def OpS (X : Cx) (op : Operator) (r : R2S) : Prop := ∀ (pins : List (Addr × Obj)) (s : Shared) (σ : L2.St) (H : Hp) (x y : V) (v u : Value) (Q : VK), Inv X pins σ H s → RelV x v → RelV y u → r σ x y H Q →
    wpAny (model X.prog X.w) X.A (binaryOp op v u) (EP X pins σ Q) X.xe s
def tOpS (r : R2S) (ta tb : TE) : TE := fun σ H Q => ta σ H fun x H1 => tb σ H1 fun y H2 => r σ x y H2 Q
theorem pe_opS {r : R2S} (ho : OpS X op r) (ha : PE X a sa) (hb : PE X b sb) : PE X (.BinOp a op b pos) (tOpS r sa sb) :=
  ⟨fun pins s σ H Q I h => wpAny_BinOp (binT ha hb I h fun v u s2 x y H2 I2 rx ry q => ho pins s2 σ H2 x y v u Q I2 rx ry q)⟩
/-- own instance op thing -/
def rMixO (K : PySem.W.Frag) (cs : List Nat) (c : Nat) (sp : Sp) (E : L2.St → XK) : R2S := fun σ x y H Q => ∃ (a dx : Addr) (fs : List (Str × V)), x = .ref a ∧ H a = some (.ins (gc K c) dx fs) ∧
  ((∃ i, y = .int i) ∨ ∃ d ∈ cs, ∃ (b dy : Addr) (gs : List (Str × V)), y = .ref b ∧ H b = some (.ins (gc K d) dy gs)) ∧ sp [.ref a, y] H Q (E σ)
theorem ret_back {pins : List (Addr × Obj)} {σ : L2.St} {Q : VK} {m : Sem Value} {A : Around} {s : Shared} {xe : Value → Shared → Prop} (h : wpAny (model X.prog X.w) A m (EP X pins σ Q) xe s) : wpAny (model X.prog X.w) A m (PySem.W.CmpBack (EP X pins σ Q)) xe s :=
  wpAny_mono h (fun u s' z => by
    obtain ⟨v, H', I', r, q'⟩ := z
    exact cmpBack_of r ⟨v, H', I', r, q'⟩) fun _ _ e => e
theorem op_mixO (M : Mix X.K op.info.2 cs) (hc : c ∈ cs) (hs : PySem.W.findIn X.K (.ref (gc X.K c)) (PySem.dunder op.info.2) = some (some (.ref f))) (hf : PySem.W.isFn X.K (.ref f) = true)
    (F : FnOk X.prog X.w X.K X.mg X.base CX k f fd ps sp) (hr : Room k X.A) (hb : Binds X.K fd ps []) (hx : ∀ σ, PassesAt CX X σ (E σ)) : OpS X op (rMixO X.K cs c sp E) := by
  intro pins s σ H x y v u Q I rx ry h
  obtain ⟨a, dx, fs, rfl, ha, ho, q⟩ := h
  cases rx
  obtain ⟨mA, J, _⟩ := ins_get I.hok ha
  obtain ⟨od, J, _⟩ := J.look
  obtain ⟨m, hF⟩ := I.fr
  obtain ⟨rc, hr1, hr2⟩ := (M.bin c hc).rf
  have go := ret_back (run_fnS (us := [.ref a, u]) (vs := [.ref a, y]) F hr hb (hx σ) I (.cons rfl (.cons ry .nil)) q)
  rcases ho with ⟨i, rfl⟩ | ⟨d, hd, b, dy, gs, rfl, hb'⟩
  · obtain ⟨t, rfl⟩ := ry
    obtain ⟨⟨fo, h1⟩, ⟨ro, h2⟩⟩ := M.io
    exact PySem.W.ksp_binT (T := "int") hF I.ok.mod.kin J rfl (M.bin c hc).fst hs hf hr1 hr2 h1 h2 (M.ti c hc).1 go
  · cases ry
    obtain ⟨mB, J', _⟩ := ins_get I.hok hb'
    obtain ⟨od', J', _⟩ := J'.look
    by_cases hcd : c = d
    · subst hcd
      exact PySem.W.binop_K hF I.ok.mod.kin J J'.type (M.bin c hc).fst hs hf go
    · obtain ⟨n1, n2⟩ := M.ne c hc d hd hcd
      obtain ⟨g, hg⟩ := (M.bin d hd).fn
      obtain ⟨rd, hd1, hd2⟩ := (M.bin d hd).rf
      exact PySem.W.two_own I.kIn J J'.type n1 (M.bin c hc).fst (M.bin d hd).fst hs hf hr1 hr2 hg hd1 hd2 n2 go
def dOpX (r : D → D → (D → Prop) → EX → Prop) (ta tb : DT) : DT := fun env Q ex => ta env (fun x => tb env (fun y => r x y Q ex) ex) ex
def othD (cs : List Nat) : D → Bool
  | .int _ => true | .ins c _ => cs.contains c | _ => false
def dMixO (cs : List Nat) (c : Nat) (P : Prm) : D → D → (D → Prop) → EX → Prop := fun a b Q ex => (∃ l, a = .ins c l) ∧ othD cs b = true ∧ P [a, b] Q ex
theorem pd_mixO (M : Mix X.K op.info.2 cs) (hc : c ∈ cs) (hs : PySem.W.findIn X.K (.ref (gc X.K c)) (PySem.dunder op.info.2) = some (some (.ref f))) (hf : PySem.W.isFn X.K (.ref f) = true)
    (F : Fn X.prog X.w X.K X.mg X.base f k 2 Pm) (hr : Room k X.A) (tk : Takes X W) (ha : PD X W a ta) (hb : PD X W b tb) : PD X W (.BinOp a op b pos) (dOpX (dMixO cs c Pm) ta tb) := by
  obtain ⟨_, pa, la⟩ := ha.of
  obtain ⟨_, pb, lb⟩ := hb.of
  refine ⟨_, pe_opS (op_mixO M hc hs hf F.ok hr F.bd (fun σ => passAt tk σ)) pa pb, fun H0 G0 G H σ env Q ex R S L q g => la H0 G0 G H σ env _ ex _ S L q fun v H1 G1 d x1 r1 q1 => ?_⟩
  refine lb H0 G0 G1 H1 σ env _ ex _ (S.ex x1) (L.mono x1.gg) q1 fun u H2 G2 d2 x2 r2 ⟨⟨l, e1⟩, hk, q2⟩ => ?_
  subst e1
  have x12 := x1.trans x2
  obtain ⟨p, dx, ws, rfl, hp, _, _⟩ := id (r1.same x2.gg).ins_inv
  refine ⟨p, dx, _, rfl, x2.sub _ _ hp, ?_, sp_call (S.ex x12) (L.mono x12.gg) F.len ((Reps.one r2).cons (r1.same x2.gg)) q2 fun w H3 G3 d3 x3 r3 q3 => g w H3 G3 d3 (x12.trans x3) r3 q3⟩
  cases d2 with
  | int i => exact .inl ⟨i, r2.int_inv⟩
  | ins c' m =>
    obtain ⟨p', dx', ws', rfl, hp', _, _⟩ := id r2.ins_inv
    exact .inr ⟨c', List.contains_iff_mem.mp hk, p', dx', _, rfl, x2.sub _ _ hp'⟩
  | non => cases hk
  | bl b => cases hk
  | str s => cases hk
  | lst l => cases hk
  | tup l => cases hk
/-! int * own -/
def rRefI (K : PySem.W.Frag) (c : Nat) (sp : Sp) (E : L2.St → XK) : R2S := fun σ x y H Q => ∃ (i : Int) (b dy : Addr) (gs : List (Str × V)), x = .int i ∧ y = .ref b ∧ H b = some (.ins (gc K c) dy gs) ∧ sp [.ref b, .int i] H Q (E σ)
theorem op_refI (M : Mix X.K "mul" cs) (hc : c ∈ cs) (hs : PySem.W.findIn X.K (.ref (gc X.K c)) (dunderR "mul") = some (some (.ref f))) (hf : PySem.W.isFn X.K (.ref f) = true)
    (F : FnOk X.prog X.w X.K X.mg X.base CX k f fd ps sp) (hr : Room k X.A) (hb : Binds X.K fd ps []) (hx : ∀ σ, PassesAt CX X σ (E σ)) : OpS X .Mult (rRefI X.K c sp E) := by
  intro pins s σ H x y v u Q I rx ry h
  obtain ⟨i, b, dy, gs, rfl, rfl, hb', q⟩ := h
  obtain ⟨t, rfl⟩ := rx
  cases ry
  obtain ⟨mB, J, _⟩ := ins_get I.hok hb'
  obtain ⟨od, J, _⟩ := J.look
  obtain ⟨g, hg⟩ := (M.bin c hc).fn
  exact PySem.W.int_refl I.kIn J (M.bin c hc).fst hg hs hf (M.ti c hc).2 (ret_back (run_fnS (us := [.ref b, .int i t]) (vs := [.ref b, .int i]) F hr hb (hx σ) I (.cons rfl (.cons ⟨t, rfl⟩ .nil)) q))
def dRefI (c : Nat) (P : Prm) : D → D → (D → Prop) → EX → Prop := fun a b Q ex => (∃ i, a = .int i) ∧ (∃ l, b = .ins c l) ∧ P [b, a] Q ex
theorem pd_refI (M : Mix X.K "mul" cs) (hc : c ∈ cs) (hs : PySem.W.findIn X.K (.ref (gc X.K c)) (dunderR "mul") = some (some (.ref f))) (hf : PySem.W.isFn X.K (.ref f) = true)
    (F : Fn X.prog X.w X.K X.mg X.base f k 2 Pm) (hr : Room k X.A) (tk : Takes X W) (ha : PD X W a ta) (hb : PD X W b tb) : PD X W (.BinOp a .Mult b pos) (dOpX (dRefI c Pm) ta tb) := by
  obtain ⟨_, pa, la⟩ := ha.of
  obtain ⟨_, pb, lb⟩ := hb.of
  refine ⟨_, pe_opS (op_refI M hc hs hf F.ok hr F.bd (fun σ => passAt tk σ)) pa pb, fun H0 G0 G H σ env Q ex R S L q g => la H0 G0 G H σ env _ ex _ S L q fun v H1 G1 d x1 r1 q1 => ?_⟩
  refine lb H0 G0 G1 H1 σ env _ ex _ (S.ex x1) (L.mono x1.gg) q1 fun u H2 G2 d2 x2 r2 ⟨⟨i, e1⟩, ⟨l, e2⟩, q2⟩ => ?_
  subst e1 e2
  have x12 := x1.trans x2
  obtain ⟨p, dx, ws, rfl, hp, _, _⟩ := id r2.ins_inv
  have ei := r1.int_inv
  subst ei
  exact ⟨i, p, dx, _, rfl, rfl, x2.sub _ _ hp, sp_call (S.ex x12) (L.mono x12.gg) F.len ((Reps.one (.int i)).cons r2) q2 fun w H3 G3 d3 x3 r3 q3 => g w H3 G3 d3 (x12.trans x3) r3 q3⟩
end
/-! ## a method that declines -/
structure Nim (P : Program) (w : World) (K : PySem.W.Frag) (mg : Str → Option Value) (base : Heap) (f : Addr) (k : Nat) (C : D → Prop) : Prop where
  run : ∀ (A : Around) (outer : List Env) (s : Shared) (H G : Hp) (x y : V) (u v : Value) (a b : D), Room k A → Env0 P w K mg base A outer s H → RelV x u → RelV y v → Same G H → Rep K G x a → Rep K G y b → C b →
    codeAny (model P w) A (.call (.ref f) ⟨[u, v], []⟩) (fun r s' => r = .ok (.ret .notImplemented) ∧ CE outer P w H s (fun _ H' => ∃ G', Ext G H G' H') .none s') s
theorem Nim.of {P : Program} {w : World} {K : PySem.W.Frag} {mg : Str → Option Value} {base : Heap} {x qual : Str} {params : Arguments} {body rest : List Stmt} {scope : Scope} {f : Addr} {N ps : List Str} {k : Nat} {C : D → Prop} {c : Expr} {p1 p2 p3 : Pos}
    (h : ∃ fd, FunD K x qual params body scope [] [] f fd) (S : FnScope N ps scope) (hn : ps.length = 2)
    (hb : ∀ (kV doc pm : Value) (an : Option Addr) (cdv ct : Value) (us : List Value), us.length = ps.length → bindArgs (PySem.W.fnOf x qual params body scope .none kV doc pm an cdv ct) ⟨us, []⟩ = pure (ps.zip us))
    (hbd : body = .If c [.Return (some (.Name "NotImplemented" p1)) p2] [] p3 :: rest) (hm : mg "NotImplemented" = none)
    (hbody : ∀ (cdv : Value) (A : Around) (outer : List Env) (s : Shared) (H : Hp), Room k (A.deeper (envOfC qual scope s.heap.objs.size f cdv)) →
      Gl (cxOf CX0 P w K mg base N qual scope f cdv A outer s H (fun _ _ _ => False)) "NotImplemented" ∧ ∃ t, PDT (cxOf CX0 P w K mg base N qual scope f cdv A outer s H (fun _ _ _ => False)) WN c t ∧ ∀ a b, C b → t (start N.length [a, b]) (fun q => q = true) (fun _ _ => False)) :
    Nim P w K mg base f (k + 1) C := by
  obtain ⟨fd, F⟩ := h
  refine ⟨fun A outer s H G x0 y0 u v a b hr e0 ru rv sG ra rb hC => ?_⟩
  have bd := FunD.bindsA (ps := ps) F (fun kV doc pm an cdv ct us hl => hb kV doc pm an cdv ct us hl) s [u, v] (by rw [hn]; rfl)
  obtain ⟨oc, od, dV, kV, doc, pm, an, cdv, ct, osl, rfl, lk, hcd, _, _⟩ := F.ex
  have rr : Vals [x0, y0] [u, v] := .cons ru (.cons rv .nil)
  have kin : K.In s.heap := e0.mod.kin.keeps fun b o e => (e0.bs b o e).1
  have noL : s.heap.NoLimit := e0.mod.nolimit.keeps fun b o e => (e0.bs b o e).1
  have kinds : ∀ z ∈ ps.zip [u, v], scope.names.lookup z.1 = some .local ∨ (scope.names.lookup z.1 = some .cell ∧ ((cellsFrom (s.heap.objs.size + 1) scope.names []).lookup z.1).isSome = true) := fun z hz =>
    (S.par z.1 (List.of_mem_zip (a := z.1) (b := z.2) hz).1).imp id fun q => ⟨q, PySem.W.cellsFrom_some _ _ _ (.inl q)⟩
  refine codeAny_call_function hr.depth (kin _ _ lk) rfl S.co S.gen rfl (PySem.W.codeRec_of kin hcd) (bd _ _ _ _ ?_)
  refine wpAny_newFunctionEnv_cells S.kind kinds fun env he s1 xc => ?_
  subst he
  refine ⟨noL.keeps xc.toInCall.keep, codeAny_func ?_⟩
  obtain ⟨hg, t, pd, hq⟩ := hbody cdv A outer s H (hr.deeper _)
  obtain ⟨tt, pt, lt⟩ := pd.of
  have I : Inv (cxOf CX0 P w K mg base N qual scope f cdv A outer s H (fun _ _ _ => False)) [] (L2.start N [x0, y0]) H s1 := inv_start S hr.hd e0 (by rw [hn]; rfl) rr xc
  have go := lt H G G H _ _ _ _ (fun b H' => b = true ∧ ∃ G', Ext G H G' H') (sr_start sG ((Reps.one rb).cons ra)) LkE.no (hq a b hC) fun b H' G' x' q' => ⟨q', G', x'⟩
  have main : wpAny (model P w) (A.deeper (envOfC qual scope s.heap.objs.size f cdv)) (execs body (envOfC qual scope s.heap.objs.size f cdv)) (fun fl s' => fl = .ret .notImplemented ∧ ∃ H' G', Inv (cxOf CX0 P w K mg base N qual scope f cdv A outer s H (fun _ _ _ => False)) [] (L2.start N [x0, y0]) H' s' ∧ Ext G H G' H')
      (cxOf CX0 P w K mg base N qual scope f cdv A outer s H (fun _ _ _ => False)).xe s1 := by
    rw [hbd]
    refine wpAny_execs_cons (wpAny_If (thn (pt.run [] s1 _ H _ I go) fun d s2 z => ?_))
    obtain ⟨H2, I2, rfl, G2, x2⟩ := z
    refine wpAny_execs_cons (wpAny_Return_some (ld_blt (u := .notImplemented) I2 hg hm (by decide +kernel) ?_))
    exact ⟨rfl, H2, G2, I2, x2⟩
  refine wpAny_mono main (fun fl s' z => ?_) fun e s' z => ?_
  · obtain ⟨rfl, H', G', J, x'⟩ := z
    exact ⟨rfl, .non, H', J.os, J.bare, J.base, J.hok, rfl, G', x'⟩
  · exact wpAny_mono z (fun _ _ q => q.elim) fun _ _ q => q.elim
section
variable {X : Cx} {W : WX} {a b e : Expr} {ta tb : DT} {sa sb : TE} {pos : Pos} {k k0 : Nat} {f f0 : Addr} {Pm : Prm} {fd : FuncData} {ps : List Str} {sp : Sp} {E : L2.St → XK} {CX : CXT} {c d : Nat} {cs : List Nat} {op : Operator} {C : D → Prop}
/-- own * own, the left one's method declines -/
def rRefN (K : PySem.W.Frag) (d c : Nat) (C : D → Prop) (sp : Sp) (E : L2.St → XK) : R2S := fun σ x y H Q => ∃ (G : Hp) (dx' dy' : D) (a dx : Addr) (fs : List (Str × V)) (b dy : Addr) (gs : List (Str × V)), Same G H ∧ Rep K G x dx' ∧ Rep K G y dy' ∧ C dy' ∧ x = .ref a ∧ H a = some (.ins (gc K d) dx fs) ∧ y = .ref b ∧ H b = some (.ins (gc K c) dy gs) ∧
  ∀ H' G', Ext G H G' H' → sp [.ref b, .ref a] H' Q (E σ)
theorem op_refN (M : Mix X.K op.info.2 cs) (hc : c ∈ cs) (hd : d ∈ cs) (hcd : d ≠ c) (hs0 : PySem.W.findIn X.K (.ref (gc X.K d)) (PySem.dunder op.info.2) = some (some (.ref f0))) (hf0 : PySem.W.isFn X.K (.ref f0) = true) (N : Nim X.prog X.w X.K X.mg X.base f0 k0 C) (hr0 : Room k0 X.A)
    (hs : PySem.W.findIn X.K (.ref (gc X.K c)) (dunderR op.info.2) = some (some (.ref f))) (hf : PySem.W.isFn X.K (.ref f) = true)
    (F : FnOk X.prog X.w X.K X.mg X.base CX k f fd ps sp) (hr : Room k X.A) (hb : Binds X.K fd ps []) (hx : ∀ σ, PassesAt CX X σ (E σ)) : OpS X op (rRefN X.K d c C sp E) := by
  intro pins s σ H x y v u Q I rx ry h
  obtain ⟨G, d1, d2, a, dx, fs, b, dy, gs, sG, r1, r2, hC, rfl, ha, rfl, hb', q⟩ := h
  cases rx
  cases ry
  have inst : ∀ {H' : Hp} {s' : Shared} {p dp : Addr} {n : Nat} {hs : List (Str × V)}, Inv X pins σ H' s' → H' p = some (.ins (gc X.K n) dp hs) → ∃ o dd, PySem.W.InstAt s'.heap p o (gc X.K n) dd := fun J e => by
    obtain ⟨mA, Z, _⟩ := ins_get J.hok e
    obtain ⟨od, Z, _⟩ := Z.look
    exact ⟨_, _, Z⟩
  obtain ⟨o1, q1, J1⟩ := inst I ha
  obtain ⟨o2, q2, J2⟩ := inst I hb'
  obtain ⟨n1, _⟩ := M.ne d hd c hc hcd
  obtain ⟨_, n2⟩ := M.ne d hd c hc hcd
  obtain ⟨rd, hd1, hd2⟩ := (M.bin d hd).rf
  obtain ⟨g, hg⟩ := (M.bin c hc).fn
  refine PySem.W.two_refl I.kIn J1 J2 n1 (M.bin c hc).fst (M.bin d hd).fst hs0 hf0 hd1 hd2 hg hs hf n2 (wpAny_call (codeAny_mono (N.run X.A X.stack s H G (.ref a) (.ref b) (.ref a) (.ref b) d1 d2 hr0 I.env0 rfl rfl sG r1 r2 hC) fun r s1 z => ?_))
  obtain ⟨rfl, z⟩ := z
  obtain ⟨_, H1, I1, _, G1, x1⟩ := I.after z
  exact ⟨rfl, I1.kIn, inst I1 (x1.hh _ _ ha), inst I1 (x1.hh _ _ hb'), ret_back (run_fnS (us := [.ref b, .ref a]) (vs := [.ref b, .ref a]) F hr hb (hx σ) I1 (.cons rfl (.cons rfl .nil)) (q H1 G1 x1))⟩
def dRefN (d c : Nat) (C : D → Prop) (P : Prm) : D → D → (D → Prop) → EX → Prop := fun a b Q ex => (∃ l, a = .ins d l) ∧ (∃ l, b = .ins c l) ∧ C b ∧ P [b, a] Q ex
theorem pd_refN (M : Mix X.K op.info.2 cs) (hc : c ∈ cs) (hd : d ∈ cs) (hcd : d ≠ c) (hs0 : PySem.W.findIn X.K (.ref (gc X.K d)) (PySem.dunder op.info.2) = some (some (.ref f0))) (hf0 : PySem.W.isFn X.K (.ref f0) = true) (N : Nim X.prog X.w X.K X.mg X.base f0 k0 C) (hr0 : Room k0 X.A)
    (hs : PySem.W.findIn X.K (.ref (gc X.K c)) (dunderR op.info.2) = some (some (.ref f))) (hf : PySem.W.isFn X.K (.ref f) = true)
    (F : Fn X.prog X.w X.K X.mg X.base f k 2 Pm) (hr : Room k X.A) (tk : Takes X W) (ha : PD X W a ta) (hb : PD X W b tb) : PD X W (.BinOp a op b pos) (dOpX (dRefN d c C Pm) ta tb) := by
  obtain ⟨_, pa, la⟩ := ha.of
  obtain ⟨_, pb, lb⟩ := hb.of
  refine ⟨_, pe_opS (op_refN M hc hd hcd hs0 hf0 N hr0 hs hf F.ok hr F.bd (fun σ => passAt tk σ)) pa pb, fun H0 G0 G H σ env Q ex R S L q g => la H0 G0 G H σ env _ ex _ S L q fun v H1 G1 d' x1 r1 q1 => ?_⟩
  refine lb H0 G0 G1 H1 σ env _ ex _ (S.ex x1) (L.mono x1.gg) q1 fun u H2 G2 d2 x2 r2 ⟨⟨i, e1⟩, ⟨l, e2⟩, hC, q2⟩ => ?_
  subst e1 e2
  have x12 := x1.trans x2
  have r1' := r1.same x2.gg
  obtain ⟨p, dx, ws, rfl, hp, _, _⟩ := id r1'.ins_inv
  obtain ⟨p', dx', ws', rfl, hp', _, _⟩ := id r2.ins_inv
  refine ⟨G2, _, _, p, dx, _, p', dx', _, x2.sub, r1', r2, hC, rfl, x2.sub _ _ hp, rfl, x2.sub _ _ hp', fun H' G' x' => ?_⟩
  have x3 := x12.trans x'
  exact sp_call (S.ex x3) (L.mono x3.gg) F.len ((Reps.one (r1'.same x'.gg)).cons (r2.same x'.gg)) q2 fun w H3 G3 d3 x4 r3 q3 => g w H3 G3 d3 (x3.trans x4) r3 q3
end
end DL

/-! several clauses, each with a name -/
namespace LR
open PySem PySem.Spec PyProof.Rows L2
abbrev ClA := Value × Nat × (Addr → Value → Option Addr → TS)
def offS (i : Nat) (D : Ends) : Ends := { nx := fun σ H => D.nx (σ.set i none) H, rt := D.rt, bk := fun σ H => D.bk (σ.set i none) H, ct := fun σ H => D.ct (σ.set i none) H }
def wAll (K : PySem.W.Frag) (Wout : WX) (D : Ends) : List ClA → WX
  | [] => Wout
  | q :: r => fun cls d σ H => ∃ b, PySem.W.exmOne K cls q.1 = some b ∧ (b = true → ∀ a, H a = none → q.2.2 a cls d (offS q.2.1 D) (σ.set q.2.1 (some (.ref a))) H) ∧ (b = false → wAll K Wout D r cls d σ H)
inductive HdA (X : Cx) : List ExceptHandler → List ClA → Prop
  | nil : HdA X [] []
  | cons {x n : Str} {c : Value} {i : Nat} {ts : Addr → Value → Option Addr → TS} {st : Stmt} {sts : List Stmt} {np ps : Pos} {hds : List ExceptHandler} {l : List ClA} (hc : Names X x c) (hi : X.N[i]? = some n) (hk : X.env.kindOf n = some .local)
      (hsu : ∀ (a : Addr) (oe : Obj) (cls : Value) (d : Option Addr) (pn : List (Addr × Obj)), Zc cls d oe → (∃ vs, oe.data = .fields vs) → PSs (X.suite a ((a, oe) :: pn)) (st :: sts) (ts a cls d)) (r : HdA X hds l) :
      HdA X (.ExceptHandler (some (.Name x np)) (some n) (st :: sts) ps :: hds) ((c, i, ts) :: l)
section
variable {X : Cx} {body : List Stmt} {h0 : ExceptHandler} {hds : List ExceptHandler} {l : List ClA} {pos : Pos} {tb : WX → TS} {Wout : WX}
theorem ps_tryN (hs : X.stack = X.env :: X.outer) (hf : X.env.frame = some X.env.locals) (hN : X.N.Nodup) (tk : Takes X Wout)
    (hb : ∀ (W : WX) (pn : List (Addr × Obj)) (xe : Value → Shared → Prop), Takes (X.tr pn xe) W → PassesOwn (model X.prog X.w) X.A X.env xe → PSs (X.tr pn xe) body (tb W)) (hh : HdA X (h0 :: hds) l) :
    PS X (.Try body (h0 :: hds) [] [] pos) (fun D σ H => tb (wAll X.K Wout D l) D σ H) := by
  refine ⟨fun pins s σ H D I h => wpAny_Try_except (wpAny_mono ((hb (wAll X.K Wout D l) (X.pn ++ pins) (fun e s₁ => wpAny (model X.prog X.w) X.A (noteFrame e X.env) (fun _ s₂ => wpAny (model X.prog X.w) X.A (setFlight e none) (fun _ s₃ =>
    wpAny (model X.prog X.w) X.A (handleBy e X.env (h0 :: hds)) (SP X pins D) X.xe s₃) X.xe s₂) X.xe s₁) (fun u s' xx => ?_) PassesOwn.looking).run [] s σ H D (I.toTry _) h) (fun f s1 z => ?_) fun e s1 he => he)⟩
  · obtain ⟨a, B, sI, pins', σ1, H1, cls, d, rfl, J', nb, up, sky, na, os, ag, wish⟩ := xx
    have J : Inv X pins σ1 H1 sI := J'.ofTry I.ok
    have frs0 : X.A.frames = some (X.env :: X.outer) := I.ok.frames.trans (by rw [hs])
    refine Sky.land Zc.steady frs0 hf (hs ▸ sky) fun h3 fl3 up3 => ?_
    have u3 := up.trans up3
    obtain ⟨o3, v3, e3, z3, d3⟩ := fl3.there
    have away : a ∉ frs (X.env :: X.outer) := fun hm => by
      obtain ⟨_, o', e', hnf⟩ := fl3.2.2.1.mem hm
      rw [e3] at e'
      cases e'
      exact hnf _ d3
    have awL : a ≠ X.env.locals := fun z => away (List.mem_filterMap.mpr ⟨X.env, List.mem_cons_self, by rw [hf, z]⟩)
    have awF : a ∉ X.fs := fun hm => by
      obtain ⟨e, he, q⟩ := List.mem_filterMap.mp hm
      exact away (List.mem_filterMap.mpr ⟨e, List.mem_cons_of_mem _ he, q⟩)
    have J3 : Inv X pins σ1 H1 { s' with heap := h3 } := J.landed nb fl3.1 u3 os ag
    have S3 := J3.suite e3 d3 na awL awF
    have ty : PySem.W.Looks (model X.prog X.w) h3 (typeOf (.ref a)) cls := fun A Q E s k q => wpAny_typeOf_ref (k _ _ e3) (z3.1.symm ▸ q)
    suffices go : ∀ {hs' : List ExceptHandler} {l' : List ClA}, HdA X hs' l' → wAll X.K Wout D l' cls d σ1 H1 → wpAny (model X.prog X.w) X.A (handleBy (.ref a) X.env hs') (SP X pins D) X.xe { s' with heap := h3 } from go hh wish
    intro hs' l' hk
    induction hk with
    | nil =>
      intro wish
      refine wpAny_handleBy_nil ?_
      obtain ⟨_, _, _, _, _, T, _, _, he, _, hd, h1, _⟩ := id fl3
      unfold PySem.passOn
      refine wpAny_bind (wpAny_field he hd h1 ?_)
      rw [if_neg (by simp)]
      have up_ : wpAny (model X.prog X.w) X.A (setFlight (.ref a) X.env.frame) (fun _ s4 => wpAny (model X.prog X.w) X.A (throw (.ref a) : Sem Flow) (SP X pins D) X.xe s4) X.xe { s' with heap := h3 } := by
        rw [hf]
        exact HandSPX.setFlight_upZ fl3 fun h4 hh4 up4 => wpAny_throw (tk _ _ ⟨a, B, sI, pins, σ1, H1, cls, d, rfl, J, nb, u3.trans up4, .inr (.inr (hs ▸ hh4)), na, os, ag, wish⟩)
      first
        | exact wpAny_bind up_
        | exact wpAny_bind (wpAny_pure (wpAny_bind up_))
    | @cons x n c i ts st sts np ps hs2 l2 hc hi hkn hsu r ih =>
      intro ⟨b, hb1, hyes, hno⟩
      refine wpAny_handleBy_cons (codeAny_handlers_test ?_) (by intro q; cases q)
      have named : ∀ {Q E : Value → Shared → Prop}, Q c { s' with heap := h3 } → wpAny (model X.prog X.w) (X.A.mark (some (.ref a))) (eval (.Name x np) X.env) Q E { s' with heap := h3 } := fun {Q E} q =>
        match hc with
        | ⟨g, dbg, .inl m⟩ => ld_glob (X := X.suite a ((a, o3) :: (X.pn ++ pins))) S3 g m q dbg
        | ⟨g, dbg, .inr ⟨m, bv, nn⟩⟩ => ld_blt (X := X.suite a ((a, o3) :: (X.pn ++ pins))) S3 g m bv q nn dbg
      refine named ((PySem.W.exm_one (M := model X.prog X.w) J3.kIn ty hb1).here ?_)
      cases b with
      | false => exact ih (hno rfl)
      | true =>
        refine codeAny_handlers_suite_as (HandSPX.lands_againZ fl3 fun h4 fl4 up4 => ?_)
        obtain ⟨o4, v4, e4, z4, d4⟩ := fl4.there
        have J4 : Inv X pins σ1 H1 { s' with heap := h4 } := J.landed nb fl4.1 (u3.trans up4) os ag
        have S4 := J4.suite e4 d4 na awL awF
        refine store_ok (X := X.suite a ((a, o4) :: (X.pn ++ pins))) (v := .ref a) S4 hN hi (.inl hkn) rfl (fun s5 S5 => ?_) (.inr hkn)
        refine wpAny_mono ((hsu a o4 cls d (X.pn ++ pins) z4 ⟨_, d4⟩).run [] s5 _ H1 _ S5 (hyes rfl a na)) (fun f s6 z => ?_) fun _ _ z => z.elim
        have off : ∀ {σ6 : L2.St} {H6 : Hp} {Q : Shared → Prop}, Inv (X.suite a ((a, o4) :: (X.pn ++ pins))) [] σ6 H6 s6 → (∀ s7, Inv X pins (σ6.set i none) H6 s7 → Q s7) →
          wpAny (model X.prog X.w) X.A (do bindName X.env n .none; unbindBehindTheSuite X.env n ps) (fun _ s7 => Q s7) X.xe s6 := fun S6 hq => gone_ok (S6.unsuite I.ok) hN hi hkn hq
        cases f with
        | next => exact match z with | ⟨_, _, S6, q6⟩ => off S6 fun s7 J7 => ⟨_, _, J7, q6⟩
        | brk => exact match z with | ⟨_, _, S6, q6⟩ => off S6 fun s7 J7 => ⟨_, _, J7, q6⟩
        | cont => exact match z with | ⟨_, _, S6, q6⟩ => off S6 fun s7 J7 => ⟨_, _, J7, q6⟩
        | ret u => exact match z with | ⟨_, _, _, S6, r6, q6⟩ => off S6 fun s7 J7 => ⟨_, _, _, J7, r6, q6⟩
  · cases f with
    | next => exact match z with | ⟨_, _, J', q⟩ => wpAny_execs_nil ⟨_, _, J'.ofTry I.ok, q⟩
    | brk => exact match z with | ⟨_, _, J', q⟩ => ⟨_, _, J'.ofTry I.ok, q⟩
    | cont => exact match z with | ⟨_, _, J', q⟩ => ⟨_, _, J'.ofTry I.ok, q⟩
    | ret u => exact match z with | ⟨_, _, _, J', r, q⟩ => ⟨_, _, _, J'.ofTry I.ok, r, q⟩
end
/-! any(xs) of a tuple of ints; lcm -/
section
variable {X : Cx}
def rAnyT (K : PySem.W.Frag) : List V → Hp → VK → Prop := fun vs H Q => ∃ (a : Addr) (ns : List Int), vs = [V.ref a] ∧ SqT K H a (ns.map V.int) ∧ Q (.bl (ns.any (· != 0))) H
theorem any_at : ∀ ns : List Int, (List.range ns.length).any (fun i => ns.getD i 0 != 0) = ns.any (· != 0)
  | [] => rfl
  | b :: bs => by
    rw [List.length_cons, List.range_succ_eq_map, List.any_cons, List.any_map, List.any_cons, ← any_at bs]
    rfl
theorem truth_ints {prog : Program} {w : World} {A : Around} {ns : List Int} {its : List Value} (r : Vals (ns.map V.int) its) : TruthOf prog w A (fun i v => its.toArray[i]? = some v) (fun i => ns.getD i 0 != 0) := fun i v s Q E hv hq => by
  have hv' : its[i]? = some v := by simpa using hv
  have hl := r.length
  have hi : i < (ns.map V.int).length := by
    rw [hl]
    exact (List.getElem?_eq_some_iff.mp hv').1
  obtain ⟨u, hu, ru⟩ := r.get (List.getElem?_eq_getElem hi)
  rw [hv'] at hu
  cases hu
  rw [List.getElem_map] at ru
  obtain ⟨t, rfl⟩ := ru
  have hi' : i < ns.length := by simpa using hi
  have e : ns.getD i 0 = ns[i] := by rw [List.getD_eq_getElem?_getD, List.getElem?_eq_getElem hi']; rfl
  dsimp only at hq
  rw [e] at hq
  exact PyProof.Rows.truthy_int hq
theorem cr_anyT (hc : X.calm = true) : CallR X (.builtin "any") (rAnyT X.K) := by
  intro pins s σ H vs us Q I r h
  obtain ⟨a, ns, rfl, hs, q⟩ := h
  obtain ⟨its, rv, hl, _⟩ := I.tuple hs
  rw [Vals.ref1 r]
  have ht : s.heap.IsTuple a its.toArray := hl
  have hlt : a < s.heap.objs.size := by
    obtain ⟨_, e, _⟩ := id ht
    exact Heap.lt_size e
  refine call_any_walk (wpAny_pyIter_tuple ht ?_)
  refine ⟨_, _, _, _, _, _, _, rfl, Walks.tuple (A := X.A.in1) (I.ok.hd hc) _ a (Nat.ne_of_lt hlt) its.toArray, ⟨⟨_, Heap.get?_push_size _ rfl, rfl, rfl⟩, ht.push _⟩, truth_ints rv, fun h' tk hk => ?_⟩
  refine ⟨.bl _, H, I.kept fun b o eo => hk b o (fun hm => ?_) (Heap.get?_push_of_some _ eo), ?_, q⟩
  · have e1 := List.mem_singleton.mp hm
    exact absurd (e1 ▸ Heap.lt_size eo) (Nat.lt_irrefl _)
  · show Value.bool _ = Value.bool _
    rw [← any_at, List.size_toArray, ← rv.length, List.length_map]
def rLcm : List V → Hp → VK → Prop := fun vs H Q => ∃ a b : Int, vs = [.int a, .int b] ∧ a.natAbs < 2 ^ 64 ∧ b.natAbs < 2 ^ 64 ∧ Q (.int ((Nat.lcm a.natAbs b.natAbs : Nat) : Int)) H
theorem cr_lcm : CallR X (.builtin "math.lcm") rLcm := by
  intro pins s σ H vs us Q I r h
  obtain ⟨a, b, rfl, ha, hb, q⟩ := h
  obtain ⟨t, u, rfl⟩ := Vals.int2 r
  exact PySem.W.mc_lcm ha hb fun _ => ⟨.int _, H, I.tok _, ⟨_, rfl⟩, q⟩
/-! len(x), x[i] by own methods -/
variable {CX : CXT} {k : Nat} {C f : Addr} {fd : FuncData} {ps : List Str} {sp : Sp} {E : XK} {a b : Expr} {ta tb : TE} {pos : Pos}
def rLenO (C : Addr) (sp : Sp) (E : XK) : List V → Hp → VK → Prop := fun xs H Q => ∃ (a dx : Addr) (fs : List (Str × V)), xs = [.ref a] ∧ H a = some (.ins C dx fs) ∧ sp [.ref a] H (fun v H' => ∃ n : Int, v = .int n ∧ 0 ≤ n ∧ n < 2 ^ 63 ∧ Q v H') E
theorem call_lenO (hs : PySem.W.findIn X.K (.ref C) "__len__" = some (some (.ref f))) (hf : PySem.W.isFn X.K (.ref f) = true)
    (F : FnOk X.prog X.w X.K X.mg X.base CX k f fd ps sp) (hr : Room (k + 1) X.A) (hb : Binds X.K fd ps []) (hx : Passes CX X.nox E) : CallR X (.builtin "len") (rLenO C sp E) := by
  intro pins s σ H xs us Q I r h
  obtain ⟨a, dx, fs, rfl, ha, q⟩ := h
  obtain ⟨u, rfl, ru⟩ := vals1 r
  cases ru
  obtain ⟨mA, J, _⟩ := ins_get I.hok ha
  obtain ⟨od, J, _⟩ := J.look
  obtain ⟨m, hF⟩ := I.fr
  have hl : [Value.ref a].length = ps.length := (F.len _ _ _ _ q).symm ▸ rfl
  refine PySem.W.len_K hF I.ok.mod.kin J hs hf (wpAny_call (codeAny_mono (F.run X.A.in1 X.stack s H ⟨[.ref a], []⟩ [.ref a] [.ref a] _ E hr.in1 I.env0.in1 (by simpa using hb s [.ref a] I.kIn (by simpa using hl)) (.cons rfl .nil) q) fun r s' z => ?_))
  cases r with
  | error er => exact (hx pins σ H s er s' (I.wish _) z).elim
  | ok fl =>
    cases fl with
    | ret w =>
      obtain ⟨v, H', I', rv, n, rfl, h0, h1, q3⟩ := I.after z
      obtain ⟨t, rfl⟩ := rv
      exact ⟨⟨h0, h1⟩, .int n, H', I'.tok _, ⟨_, rfl⟩, q3⟩
    | next => exact z.elim
    | brk => exact z.elim
    | cont => exact z.elim
/-- what stands in an index, as Python code's own __getitem__ sees it -/
def OwnIx (b : Expr) : Prop := ∀ o i, subscripted b true o i = runValue (.builtin "lifetime.subscript" ⟨[o, i], []⟩)
def rIxO (C : Addr) (sp : Sp) (E : XK) : R2 := fun x y H Q => ∃ (a dx : Addr) (fs : List (Str × V)), x = .ref a ∧ H a = some (.ins C dx fs) ∧ sp [.ref a, y] H Q E
theorem pe_ixO (hs : PySem.W.findIn X.K (.ref C) "__getitem__" = some (some (.ref f))) (hfn : PySem.W.fnIn X.K f = true) (hf : PySem.W.isFn X.K (.ref f) = true)
    (F : FnOk X.prog X.w X.K X.mg X.base CX k f fd ps sp) (hr : Room (k + 1) X.A) (hb : Binds X.K fd ps []) (hx : Passes CX X.nox E) (ha : PE X a ta) (hbx : PE X b tb) (ho : OwnIx b) : PE X (.Subscript a b pos) (tOp (rIxO C sp E) ta tb) := by
  refine ⟨fun pins s σ H Q I h => Subscript_ (binT ha hbx I h fun v u s2 x y H2 I2 rx ry ⟨p, dx, fs, e, hp, q⟩ => ?_)⟩
  subst e
  cases rx
  obtain ⟨mA, J, _⟩ := ins_get I2.hok hp
  obtain ⟨od, J, _⟩ := J.look
  obtain ⟨m, hF⟩ := I2.fr
  have hl : [Value.ref p, u].length = ps.length := (F.len _ _ _ _ q).symm ▸ rfl
  refine PySem.W.sub_K hF I2.ok.mod.kin J hs hfn hf (wpAny_call (codeAny_mono (F.run X.A.in1 X.stack s2 H2 ⟨[.ref p, u], []⟩ [.ref p, u] [.ref p, y] _ E hr.in1 I2.env0.in1 (by simpa using hb s2 [.ref p, u] I2.kIn (by simpa using hl)) (.cons rfl (.cons ry .nil)) q) fun r s' z => ?_)) (ho _ _)
  cases r with
  | error er => exact (hx pins σ H2 s2 er s' (I2.wish _) z).elim
  | ok fl =>
    cases fl with
    | ret w => exact I2.after z
    | next => exact z.elim
    | brk => exact z.elim
    | cont => exact z.elim
/-! a walk over a list or a tuple -/
theorem PI.or {tg it : Expr} {t u : TI} (h : PI X tg it t) (g : PI X tg it u) : PI X tg it (fun σ H R => t σ H R ∨ u σ H R) := ⟨fun pins s σ H R I q => by
  rcases q with q | q
  · exact h.run pins s σ H R I q
  · exact g.run pins s σ H R I q⟩
end
end LR

namespace DL
open PySem PySem.Spec PyProof.Rows L2 LR
/-! ## == of lists of ints -/
theorem eqv_ints : ∀ ms ns : List Int, PyData.eqvAll (toPs (ms.map D.int)) (toPs (ns.map D.int)) = decide (ms = ns)
  | [], [] => by simp [toPs, PyData.eqvAll]
  | [], n :: ns => by simp [toPs, PyData.eqvAll]
  | m :: ms, [] => by simp [toPs, PyData.eqvAll]
  | m :: ms, n :: ns => by
    rw [List.map_cons, List.map_cons, toPs, toPs, PyData.eqvAll, eqv_ints ms ns, toP, toP, PyData.eqv, Bool.eq_iff_iff]
    simp
theorem eqD_lst (ms ns : List Int) : eqD (.lst (ms.map D.int)) (.lst (ns.map D.int)) = decide (ms = ns) := by
  unfold eqD
  rw [toP, toP, PyData.eqv, eqv_ints]
theorem eqD_tup (ms ns : List Int) : eqD (.tup (ms.map D.int)) (.tup (ns.map D.int)) = decide (ms = ns) := by
  unfold eqD
  rw [toP, toP, PyData.eqv, eqv_ints]
theorem okD_lst (ms : List Int) : okD (.lst (ms.map D.int)) = true := okD_of 1 (fun y hy => by
  obtain ⟨m, _, rfl⟩ := List.mem_map.mp hy
  exact trivial) (by decide)
theorem okD_tup (ms : List Int) : okD (.tup (ms.map D.int)) = true := okD_of 1 (fun y hy => by
  obtain ⟨m, _, rfl⟩ := List.mem_map.mp hy
  exact trivial) (by decide)
/-- whether a class of errors is another, by isinstance's answer -/
theorem exm_no {K : PySem.W.Frag} {x y : Str} (c : ExcC K (He.ga K y)) (h : PySem.W.kitOne K (.ref (He.ga K x)) (.ref (He.ga K y)) = some false) : PySem.W.exmOne K (.ref (He.ga K x)) (.ref (He.ga K y)) = some false := by
  unfold PySem.W.exmOne
  rw [if_pos (by rw [c.hs]; rfl)]
  unfold PySem.W.kitOne at h
  split at h
  · cases h
  · exact h
theorem fn_in {K : PySem.W.Frag} {x qual : Str} {params : Arguments} {body : List Stmt} {scope : Scope} {dvs : List V} {f : Addr} (h : ∃ fd, FunD K x qual params body scope dvs [] f fd) : PySem.W.fnIn K f = true := by
  obtain ⟨fd, F⟩ := h
  obtain ⟨oc, od, dV, kV, doc, pm, an, cdv, ct, osl, rfl, lk, _⟩ := F.ex
  unfold PySem.W.fnIn
  rw [lk]
section
variable {X : Cx} {W : WX} {a b c e tg : Expr} {es : List Expr} {ta tb tc : DT} {t : DTA} {pos p : Pos} {K : PySem.W.Frag} {k : Nat} {f : Addr} {Pm : Prm}
/-! ## a walk over a list or a tuple at a name -/
def diSeq (i : Nat) : DTI := fun env Q _ => ∃ l, (env[i]? = some (.val (.lst l)) ∨ env[i]? = some (.val (.tup l))) ∧ Q l
theorem pdi_seq {i : Nat} (hv : PE X e (tVar i)) : PDI X W tg e (diSeq i) := ⟨_, PI.or (pi_list hv) (pi_tup hv), fun H0 G0 G H σ env Q ex R S L ⟨l, hl, q⟩ g => by
  rcases hl with hl | hl
  · obtain ⟨v, ev, r⟩ := S.val i _ hl
    obtain ⟨p, vs, rfl, h1, h2⟩ := r.lst_inv
    exact .inl ⟨_, ev, p, rfl, ⟨vs, S.sub.seq h1⟩, g _ H G l (.refl S.sub) (jok_list h1 h2) q⟩
  · obtain ⟨v, ev, r⟩ := S.val i _ hl
    obtain ⟨p, vs, rfl, h1, h2⟩ := r.tup_inv
    exact .inr ⟨_, ev, p, rfl, ⟨vs, sqT_same S.sub h1⟩, g _ H G l (.refl S.sub) (jok_tup h1 h2) q⟩⟩
/-! ## any, lcm, len, x[i] -/
theorem l_anyT : LcR K (rAnyT K) (fun ds Q => ∃ ns : List Int, ds = [.tup (ns.map D.int)] ∧ Q (.bl (ns.any (· != 0)))) := fun G H vs ds Q R s r ⟨ns, e, q⟩ g => by
  subst e
  obtain ⟨v, rfl, r1⟩ := reps1 r
  obtain ⟨p, ws, rfl, h1, h2⟩ := r1.tup_inv
  rw [h2.ints] at h1
  exact ⟨p, ns, rfl, sqT_same s h1, g _ _ _ _ (.refl s) (.bl _) q⟩
theorem l_lcm : LcR K rLcm (fun ds Q => ∃ a b : Int, ds = [.int a, .int b] ∧ a.natAbs < 2 ^ 64 ∧ b.natAbs < 2 ^ 64 ∧ Q (.int ((Nat.lcm a.natAbs b.natAbs : Nat) : Int))) := fun G H vs ds Q R s r ⟨a, b, e, h1, h2, q⟩ g => by
  subst e
  obtain ⟨v, w, rfl, r1, r2⟩ := reps2 r
  exact ⟨a, b, by rw [r1.int_inv, r2.int_inv], h1, h2, g _ _ _ _ (.refl s) (.int _) q⟩
theorem l_lenO {c : Nat} {E : XK} (hn : ∀ ds Q ex, Pm ds Q ex → ds.length = 1) : LcR K (rLenO (He.ga K (cname c)) (spD K 1 Pm) E) (fun ds Q => ∃ l, ds = [.ins c l] ∧ Pm ds (fun d => ∃ n : Int, d = .int n ∧ 0 ≤ n ∧ n < 2 ^ 63 ∧ Q d) (fun _ _ => False)) := fun G H vs ds Q R s r ⟨l, e1, q⟩ g => by
  subst e1
  obtain ⟨v, rfl, r1⟩ := reps1 r
  obtain ⟨p, dx, ws, rfl, hp, _, _⟩ := id r1.ins_inv
  refine ⟨p, dx, _, rfl, s _ _ hp, sp_call0 s hn (Reps.one r1) q fun v H' G' d x r ⟨n, e, h0, h1, q'⟩ => ?_⟩
  subst e
  exact ⟨n, r.int_inv, h0, h1, g _ H' G' _ x r q'⟩
def dIxC (c : Nat) (P : Prm) : R2D := fun a b Q => (∃ l, a = .ins c l) ∧ P [a, b] Q (fun _ _ => False)
theorem l_ixC {c : Nat} {E : XK} (hn : ∀ ds Q ex, Pm ds Q ex → ds.length = 2) : L2R K (rIxO (He.ga K (cname c)) (spD K 2 Pm) E) (dIxC c Pm) := fun G H x y a b Q R s r1 r2 ⟨⟨l, e1⟩, q⟩ g => by
  subst e1
  obtain ⟨p, dx, ws, rfl, hp, _, _⟩ := id r1.ins_inv
  exact ⟨p, dx, _, rfl, s _ _ hp, sp_call0 s hn ((Reps.one r2).cons r1) q g⟩
theorem pd_ixC {c : Nat} (hs : PySem.W.findIn X.K (.ref (He.ga X.K (cname c))) "__getitem__" = some (some (.ref f))) (hfn : PySem.W.fnIn X.K f = true) (hf : PySem.W.isFn X.K (.ref f) = true)
    (F : Fn X.prog X.w X.K X.mg X.base f k 2 Pm) (hr : Room (k + 1) X.A) (ha : PD X W a ta) (hb : PD X W b tb) (ho : OwnIx b) : PD X W (.Subscript a b pos) (dOp (dIxC c Pm) ta tb) :=
  let ⟨_, pa, la⟩ := ha.of; let ⟨_, pb, lb⟩ := hb.of; ⟨_, pe_ixO (E := fun _ _ _ => False) hs hfn hf F.ok hr F.bd passL pa pb ho, le_op (l_ixC F.len) la lb⟩
/-! ## try with several clauses -/
abbrev ClD := Str × Nat × (Addr → Value → Option Addr → DTS)
def offD (i : Nat) (E : DEnds) : DEnds := { nx := fun e => E.nx (e.set i .no), rt := E.rt, bk := fun e => E.bk (e.set i .no), ct := fun e => E.ct (e.set i .no) }
def dCl (K : PySem.W.Frag) (E : DEnds) (y : Str) (fs : List (Str × D)) (e : DE) : List ClD → Prop
  | [] => E.ex y fs e
  | q :: r => (y = q.1 ∧ ∀ a dd, q.2.2 a (.ref (He.ga K q.1)) (some dd) (offD q.2.1 E) (e.set q.2.1 (.exc a dd q.1 fs))) ∨ (PySem.W.exmOne K (.ref (He.ga K y)) (.ref (He.ga K q.1)) = some false ∧ dCl K E y fs e r)
def dTryN (K : PySem.W.Frag) (l : List ClD) (tb : DTS) : DTS := fun E env => tb { E with ex := fun y fs e => dCl K E y fs e l } env
inductive HdD (X : Cx) : List ExceptHandler → List ClD → Prop
  | nil : HdD X [] []
  | cons {x n : Str} {i : Nat} {ts : Addr → Value → Option Addr → DTS} {st : Stmt} {sts : List Stmt} {np ps : Pos} {hds : List ExceptHandler} {l : List ClD} (hc : Names X x (.ref (He.ga X.K x))) (hm : PySem.W.exmOne X.K (.ref (He.ga X.K x)) (.ref (He.ga X.K x)) = some true)
      (hi : X.N[i]? = some n) (hk : X.env.kindOf n = some .local) (hsu : ∀ (a : Addr) (oe : Obj) (cls : Value) (d : Option Addr) (pn : List (Addr × Obj)), Zc cls d oe → (∃ vs, oe.data = .fields vs) → PDSs (X.suite a ((a, oe) :: pn)) WN (st :: sts) (ts a cls d)) (r : HdD X hds l) :
      HdD X (.ExceptHandler (some (.Name x np)) (some n) (st :: sts) ps :: hds) ((x, i, ts) :: l)
theorem HdD.lift {hds : List ExceptHandler} {l : List ClD} (h : HdD X hds l) : ∃ l' : List ClA, HdA X hds l' ∧ ∀ (W : WX) (H0 G0 G : Hp) (B : Ends) (E : DEnds), Lk X.K H0 G0 G W B E → ∀ (σ' : L2.St) (H' G' : Hp) (env' : DE) (dd : Addr) (y : Str) (fv : List (Str × V)) (fs : List (Str × D)), Same G G' →
    SR X.K H0 G0 G' H' σ' env' → H' dd = some (.xd fv) → RepF X.K G' fv fs → dCl X.K E y fs env' l → wAll X.K W B l' (.ref (He.ga X.K y)) (some dd) σ' H' := by
  induction h with
  | nil => exact ⟨[], .nil, fun W H0 G0 G B E L σ' H' G' env' dd y fv fs s S e r q => L.ex σ' H' G' env' dd y fv fs s S e r q⟩
  | @cons x n i ts st sts np ps hds l hc hm hi hk hsu r ih =>
    obtain ⟨l', h', go⟩ := ih
    refine ⟨(.ref (He.ga X.K x), i, fun a cls d B σ H => ∀ oe pn (h1 : Zc cls d oe) (h2 : ∃ vs, oe.data = .fields vs), (hsu a oe cls d pn h1 h2).of.choose B σ H) :: l', .cons hc hi hk (fun a oe cls d pn h1 h2 => ⟨fun pins s σ H B I q => (hsu a oe cls d pn h1 h2).of.choose_spec.1.run pins s σ H B I (q oe pn h1 h2)⟩) h', ?_⟩
    intro W H0 G0 G B E L σ' H' G' env' dd y fv fs s S e rf q
    rcases q with ⟨rfl, q⟩ | ⟨hn, q⟩
    · refine ⟨true, hm, fun _ a na oe pn h1 h2 => ?_, fun z => Bool.noConfusion z⟩
      have S2 := S.put i (some (.ref a)) (.exc a dd y fs) ⟨fv, rfl, e, rf⟩ (fun z => by cases z)
      have L2 := L.mono s
      exact (hsu a oe _ _ pn h1 h2).of.choose_spec.2 H0 G0 G' H' _ _ _ (offD i E) S2 ⟨fun σ4 H4 G4 env4 s4 S4 q4 => L2.nx _ _ _ _ s4 S4.unset q4, fun σ4 H4 G4 env4 s4 S4 q4 => L2.bk _ _ _ _ s4 S4.unset q4, fun σ4 H4 G4 env4 s4 S4 q4 => L2.ct _ _ _ _ s4 S4.unset q4, L2.rt, fun _ _ _ _ _ _ _ _ _ _ _ _ z => z.elim⟩ (q a dd)
    · exact ⟨false, hn, fun z => Bool.noConfusion z, fun _ => go W H0 G0 G B E L σ' H' G' env' dd y fv fs s S e rf q⟩
theorem pds_tryN {body : List Stmt} {h0 : ExceptHandler} {hds : List ExceptHandler} {l : List ClD} {tb : DTS} (hs : X.stack = X.env :: X.outer) (hf : X.env.frame = some X.env.locals) (hN : X.N.Nodup) (tk : Takes X W)
    (hb : ∀ (W' : WX) (pn : List (Addr × Obj)) (xe : Value → Shared → Prop), Takes (X.tr pn xe) W' → PassesOwn (model X.prog X.w) X.A X.env xe → PDSs (X.tr pn xe) W' body tb) (hh : HdD X (h0 :: hds) l) : PDS X W (.Try body (h0 :: hds) [] [] pos) (dTryN X.K l tb) := by
  obtain ⟨l', h', go⟩ := hh.lift
  refine ⟨_, ps_tryN (Wout := W) (tb := fun W' B σ H => ∀ pn xe (h1 : Takes (X.tr pn xe) W') (h2 : PassesOwn (model X.prog X.w) X.A X.env xe), (hb W' pn xe h1 h2).of.choose B σ H) hs hf hN tk
    (fun W' pn xe h1 h2 => ⟨fun pins s σ H B I q => (hb W' pn xe h1 h2).of.choose_spec.1.run pins s σ H B I (q pn xe h1 h2)⟩) h', fun H0 G0 G H σ env B E S L q pn xe h1 h2 => ?_⟩
  exact (hb _ pn xe h1 h2).of.choose_spec.2 H0 G0 G H σ env _ { E with ex := fun y fs e => dCl X.K E y fs e l } S ⟨L.nx, L.bk, L.ct, L.rt, fun σ' H' G' env' dd y fv fs s' S' e r q' => go W H0 G0 G B E L σ' H' G' env' dd y fv fs s' S' e r q'⟩ q
end
end DL
namespace DL
open PySem PySem.Spec PyProof.Rows L2 LR
theorem dm_Mult : PySem.dunder (Operator.info .Mult).2 = ("__mul__" : Str) := by decide +kernel
theorem dm_Add : PySem.dunder (Operator.info .Add).2 = ("__add__" : Str) := by decide +kernel
theorem dm_Sub : PySem.dunder (Operator.info .Sub).2 = ("__sub__" : Str) := by decide +kernel
theorem dm_FloorDiv : PySem.dunder (Operator.info .FloorDiv).2 = ("__floordiv__" : Str) := by decide +kernel
theorem dr_Mult : dunderR (Operator.info .Mult).2 = ("__rmul__" : Str) := by decide +kernel
theorem dr_mul : dunderR "mul" = ("__rmul__" : Str) := by decide +kernel
def mixesB (l : List (String × List Nat)) (K : PySem.W.Frag) : Bool := l.all fun p => mixB K p.1 p.2
structure Mo2 (cs : List Nat) (sms : List (Str × Str)) (cis : List (Str × Int)) (mxs : List (String × List Nat)) (K : PySem.W.Frag) (mg : Str → Option Value) : Prop extends Mo cs sms cis K mg where
  mxA : ∀ p ∈ mxs, Mix K p.1 p.2
def mo2B (cs : List Nat) (sms : List (Str × Str)) (cis : List (Str × Int)) (mxs : List (String × List Nat)) (K : PySem.W.Frag) : Bool := moB cs sms cis K && mixesB mxs K
theorem Mo2.of {cs : List Nat} {sms : List (Str × Str)} {cis : List (Str × Int)} {mxs : List (String × List Nat)} {K : PySem.W.Frag} {mg : Str → Option Value} {h : Heap} (X : K.In h) (G : h.Ns mainGlobals mg) (hc : ∀ c ∈ cs, Cls K (He.ga K (cname c))) (m : mo2B cs sms cis mxs K = true) : Mo2 cs sms cis mxs K mg :=
  let ⟨m1, m2⟩ := Bool.and_eq_true_iff.mp m
  { Mo.of X G hc m1 with mxA := fun p hp => Mix.of (List.all_eq_true.mp m2 p hp) }
theorem Mo2.mx {cs : List Nat} {sms : List (Str × Str)} {cis : List (Str × Int)} {mxs : List (String × List Nat)} {K : PySem.W.Frag} {mg : Str → Option Value} (M : Mo2 cs sms cis mxs K mg) (nm : String) (l : List Nat) (h : (nm, l) ∈ mxs := by decide +kernel) : Mix K nm l := M.mxA (nm, l) h
end DL

namespace DL
open PySem PySem.Spec PyProof.Rows L2 LR
/-! ## lowest terms of a list of ints over a bottom -/
def lT (ts : List Int) (b : Int) : List Int := ts.map fun t => t.fdiv (gs ts b)
def lB (ts : List Int) (b : Int) : Int := b.fdiv (gs ts b)
def Bd (n : Nat) (ts : List Int) : Prop := ∀ t ∈ ts, t.natAbs < 2 ^ n
/-- in lowest terms, its numbers below 2 ^ n -/
structure Vec (n : Nat) (ts : List Int) (b : Int) : Prop where
  ne : ts ≠ []
  len : ts.length ≤ 1000
  pos : 0 < b
  cop : cg ts b = 1
  bd : Bd n ts
  sb : b.natAbs < 2 ^ n
theorem Bd.up {n m : Nat} {ts : List Int} (h : Bd n ts) (k : n ≤ m) : Bd m ts := fun t ht => abs_up (h t ht) k
theorem Vec.up {n m : Nat} {ts : List Int} {b : Int} (h : Vec n ts b) (k : n ≤ m) : Vec m ts b := ⟨h.ne, h.len, h.pos, h.cop, h.bd.up k, abs_up h.sb k⟩
theorem map_is {α β : Type} {f : α → β} {ts : List α} {ms : List β} (hl : ms.length = ts.length) (h : ∀ (i : Nat) m, ms[i]? = some m → ∃ t, ts[i]? = some t ∧ m = f t) : ms = ts.map f := by
  refine List.ext_getElem? fun i => ?_
  rw [List.getElem?_map]
  cases e : ms[i]? with
  | none =>
    rw [List.getElem?_eq_none (by have := List.getElem?_eq_none_iff.mp e; omega)]
    rfl
  | some m =>
    obtain ⟨t, h1, h2⟩ := h i m e
    rw [h1, h2]
    rfl
theorem fold_scale (k : Nat) : ∀ (ts : List Int) (z : Int) (n : Nat), z.natAbs = k → (ts.map fun t => z * t).foldl (fun g t => Nat.gcd g t.natAbs) (k * n) = k * ts.foldl (fun g t => Nat.gcd g t.natAbs) n
  | [], _, _, _ => rfl
  | t :: ts, z, n, hz => by
    rw [List.map_cons, List.foldl_cons, List.foldl_cons, Int.natAbs_mul, hz, Nat.gcd_mul_left]
    exact fold_scale k ts z _ hz
theorem cg_scale (ts : List Int) (b z : Int) : cg (ts.map fun t => z * t) (z * b) = z.natAbs * cg ts b := by
  unfold cg
  rw [Int.natAbs_mul]
  exact fold_scale _ ts z _ rfl
theorem gs_scale {ts : List Int} {b z : Int} (hb : b ≠ 0) (hz : z ≠ 0) : gs (ts.map fun t => z * t) (z * b) = z * gs ts b := by
  unfold gs
  rw [cg_scale]
  have e : ((z.natAbs * cg ts b : Nat) : Int) = (z.natAbs : Int) * (cg ts b : Int) := by push_cast; rfl
  rw [e]
  rcases Int.lt_or_gt_of_ne hb with hb | hb <;> rcases Int.lt_or_gt_of_ne hz with hz | hz
  · rw [if_pos (Int.mul_pos_of_neg_of_neg hz hb), if_neg (by omega), show (z.natAbs : Int) = -z by omega, Int.neg_mul, Int.mul_neg]
  · rw [if_neg (by have := Int.mul_neg_of_pos_of_neg hz hb; omega), if_neg (by omega), show (z.natAbs : Int) = z by omega, Int.mul_neg]
  · rw [if_neg (by have := Int.mul_neg_of_neg_of_pos hz hb; omega), if_pos hb, show (z.natAbs : Int) = -z by omega, Int.neg_mul, Int.neg_neg]
  · rw [if_pos (Int.mul_pos hz hb), if_pos hb, show (z.natAbs : Int) = z by omega]
theorem gs_dvds (ts : List Int) (b : Int) : (∀ t ∈ ts, gs ts b ∣ t) ∧ gs ts b ∣ b := by
  obtain ⟨h1, h2⟩ := cg_dvd ts b
  exact ⟨fun t ht => Int.natAbs_dvd_natAbs.mp (by rw [gs_abs]; exact h2 t ht), Int.natAbs_dvd_natAbs.mp (by rw [gs_abs]; exact h1)⟩
theorem fdiv_of {g s : Int} (h : g ≠ 0) : (g * s).fdiv g = s := by rw [Int.fdiv_eq_ediv_of_dvd (Int.dvd_mul_right g s), Int.mul_ediv_cancel_left s h]
theorem lT_mul (ts : List Int) {b : Int} (h : b ≠ 0) : (lT ts b).map (fun t => gs ts b * t) = ts := by
  unfold lT
  rw [List.map_map]
  have k : ∀ t ∈ ts, ((fun t => gs ts b * t) ∘ fun t => t.fdiv (gs ts b)) t = id t := fun t ht => by
    obtain ⟨s, hs⟩ := (gs_dvds ts b).1 t ht
    show gs ts b * t.fdiv (gs ts b) = t
    rw [congrArg (fun z => z.fdiv (gs ts b)) hs, fdiv_of (gs_ne h), ← hs]
  rw [List.map_congr_left k, List.map_id]
theorem lB_mul (ts : List Int) {b : Int} (h : b ≠ 0) : gs ts b * lB ts b = b := by
  unfold lB
  obtain ⟨s, hs⟩ := (gs_dvds ts b).2
  rw [congrArg (fun z => z.fdiv (gs ts b)) hs, fdiv_of (gs_ne h), ← hs]
theorem low_scale {ts : List Int} {b z : Int} (hb : b ≠ 0) (hz : z ≠ 0) : lT (ts.map fun t => z * t) (z * b) = lT ts b ∧ lB (ts.map fun t => z * t) (z * b) = lB ts b := by
  have hg := gs_ne (ts := ts) hb
  have hzg : z * gs ts b ≠ 0 := Int.mul_ne_zero hz hg
  unfold lT lB
  rw [gs_scale hb hz]
  constructor
  · rw [List.map_map]
    refine List.map_congr_left fun t ht => ?_
    obtain ⟨s, hs⟩ := (gs_dvds ts b).1 t ht
    show (z * t).fdiv (z * gs ts b) = t.fdiv (gs ts b)
    rw [show z * t = (z * gs ts b) * s by rw [Int.mul_assoc, ← hs], fdiv_of hzg, congrArg (fun y => y.fdiv (gs ts b)) hs, fdiv_of hg]
  · obtain ⟨s, hs⟩ := (gs_dvds ts b).2
    rw [show z * b = (z * gs ts b) * s by rw [Int.mul_assoc, ← hs], fdiv_of hzg, congrArg (fun y => y.fdiv (gs ts b)) hs, fdiv_of hg]
/-- equal fractions, equal lowest terms -/
theorem low_cross {ts us : List Int} {b c : Int} (hb : b ≠ 0) (hc : c ≠ 0) (h : ts.map (fun t => c * t) = us.map fun t => b * t) : lT ts b = lT us c ∧ lB ts b = lB us c := by
  obtain ⟨h1, h2⟩ := low_scale (ts := ts) (b := b) (z := c) hb hc
  obtain ⟨h3, h4⟩ := low_scale (ts := us) (b := c) (z := b) hc hb
  rw [h, Int.mul_comm c b] at h1 h2
  exact ⟨h1.symm.trans h3, h2.symm.trans h4⟩
theorem lB_pos {ts : List Int} {b : Int} (h : b ≠ 0) : 0 < lB ts b := by
  have e := lB_mul ts h
  have hp : 0 < cg ts b := cg_pos h
  unfold gs at e
  by_cases hb : b > 0
  · rw [if_pos hb] at e
    have : 0 < (cg ts b : Int) * lB ts b := by rw [e]; exact hb
    exact Int.pos_of_mul_pos_right this (by omega) |> fun z => z
  · rw [if_neg hb] at e
    have e2 : (cg ts b : Int) * -lB ts b = b := by rw [Int.mul_neg, ← Int.neg_mul]; exact e
    have e3 : 0 < (cg ts b : Int) * lB ts b := by rw [Int.mul_neg] at e2; omega
    exact Int.pos_of_mul_pos_right e3 (by omega)
theorem low_cop {ts : List Int} {b : Int} (h : b ≠ 0) : cg (lT ts b) (lB ts b) = 1 := by
  have e := cg_scale (lT ts b) (lB ts b) (gs ts b)
  rw [lT_mul ts h, lB_mul ts h, gs_abs] at e
  have hp : 0 < cg ts b := cg_pos h
  exact (Nat.mul_eq_left (Nat.ne_of_gt hp)).mp e.symm
theorem low_bd {n : Nat} {ts : List Int} {b : Int} (h : Bd n ts) : Bd n (lT ts b) := fun t ht => by
  unfold lT at ht
  obtain ⟨s, hs, rfl⟩ := List.mem_map.mp ht
  exact Nat.lt_of_le_of_lt (Int.natAbs_fdiv_le_natAbs _ _) (h s hs)
theorem low_len (ts : List Int) (b : Int) : (lT ts b).length = ts.length := by
  unfold lT
  rw [List.length_map]
theorem low_vec {n : Nat} {ts : List Int} {b : Int} (h : b ≠ 0) (hn : ts ≠ []) (hl : ts.length ≤ 1000) (ht : Bd n ts) (hs : b.natAbs < 2 ^ n) : Vec n (lT ts b) (lB ts b) :=
  ⟨fun z => hn (List.length_eq_zero_iff.mp (by rw [← low_len ts b, z]; rfl)), by rw [low_len]; exact hl, lB_pos h, low_cop h, low_bd ht, Nat.lt_of_le_of_lt (Int.natAbs_fdiv_le_natAbs _ _) hs⟩
theorem Vec.gs {n : Nat} {ts : List Int} {b : Int} (v : Vec n ts b) : LR.gs ts b = 1 := by
  unfold LR.gs
  rw [if_pos v.pos, v.cop]
  rfl
theorem Vec.low {n : Nat} {ts : List Int} {b : Int} (v : Vec n ts b) : lT ts b = ts ∧ lB ts b = b := by
  unfold lT lB
  rw [v.gs]
  exact ⟨by rw [List.map_congr_left (g := id) (fun t _ => Int.fdiv_one t), List.map_id], Int.fdiv_one b⟩
def negT (ts : List Int) : List Int := ts.map fun t => -t
theorem cg_neg (ts : List Int) (b : Int) : cg (negT ts) b = cg ts b := by
  unfold cg negT
  rw [List.foldl_map]
  congr 1
  funext g t
  rw [Int.natAbs_neg]
theorem Vec.neg {n : Nat} {ts : List Int} {b : Int} (v : Vec n ts b) : Vec n (negT ts) b :=
  ⟨fun z => v.ne (by unfold negT at z; exact List.map_eq_nil_iff.mp z), by unfold negT; rw [List.length_map]; exact v.len, v.pos, by rw [cg_neg]; exact v.cop, fun t ht => by
    unfold negT at ht
    obtain ⟨s, hs, rfl⟩ := List.mem_map.mp ht
    rw [Int.natAbs_neg]
    exact v.bd s hs, v.sb⟩
theorem gs_one' (ts : List Int) : LR.gs ts 1 = 1 := by
  unfold LR.gs
  rw [if_pos (by decide)]
  show ((ts.foldl (fun g t => Nat.gcd g t.natAbs) 1 : Nat) : Int) = 1
  rw [fold_one]
  rfl
theorem low_one (ts : List Int) : lT ts 1 = ts ∧ lB ts 1 = 1 := by
  unfold lT lB
  rw [gs_one']
  exact ⟨by rw [List.map_congr_left (g := id) (fun t _ => Int.fdiv_one t), List.map_id], Int.fdiv_one 1⟩
end DL

namespace DL
open PySem PySem.Spec PyProof.Rows L2 LR
/-! ## products of polynomials, by their coefficients -/
abbrev Cf := Nat → Int
def cf (ts : List Int) : Cf := fun k => ts.getD k 0
def tl (f : Cf) : Cf := fun k => f (k + 1)
def sm (z : Int) (f : Cf) : Cf := fun k => z * f k
def ad (f g : Cf) : Cf := fun k => f k + g k
def cv (f h : Cf) : Cf
  | 0 => f 0 * h 0
  | k + 1 => f 0 * h (k + 1) + cv (tl f) h k
theorem cv_ad : ∀ (k : Nat) (f g h : Cf), cv (ad f g) h k = cv f h k + cv g h k
  | 0, f, g, h => by
    show (f 0 + g 0) * h 0 = _
    rw [Int.add_mul]
    rfl
  | k + 1, f, g, h => by
    show (f 0 + g 0) * h (k + 1) + cv (ad (tl f) (tl g)) h k = (f 0 * h (k + 1) + cv (tl f) h k) + (g 0 * h (k + 1) + cv (tl g) h k)
    rw [cv_ad k, Int.add_mul]
    omega
theorem cv_sm : ∀ (k : Nat) (z : Int) (f h : Cf), cv (sm z f) h k = z * cv f h k
  | 0, z, f, h => Int.mul_assoc z (f 0) (h 0)
  | k + 1, z, f, h => by
    show z * f 0 * h (k + 1) + cv (sm z (tl f)) h k = z * (f 0 * h (k + 1) + cv (tl f) h k)
    rw [cv_sm k, Int.mul_assoc, Int.mul_add]
theorem cv_sm2 : ∀ (k : Nat) (z : Int) (f h : Cf), cv f (sm z h) k = z * cv f h k
  | 0, z, f, h => by
    show f 0 * (z * h 0) = z * (f 0 * h 0)
    exact Int.mul_left_comm _ _ _
  | k + 1, z, f, h => by
    show f 0 * (z * h (k + 1)) + cv (tl f) (sm z h) k = z * (f 0 * h (k + 1) + cv (tl f) h k)
    rw [cv_sm2 k, Int.mul_add, Int.mul_left_comm]
theorem cv_last : ∀ (k : Nat) (f h : Cf), cv f h (k + 1) = cv f (tl h) k + f (k + 1) * h 0
  | 0, f, h => rfl
  | k + 1, f, h => by
    show f 0 * h (k + 2) + cv (tl f) h (k + 1) = (f 0 * h (k + 2) + cv (tl f) (tl h) k) + f (k + 2) * h 0
    rw [cv_last k (tl f) h]
    show f 0 * h (k + 2) + (cv (tl f) (tl h) k + f (k + 2) * h 0) = _
    omega
theorem cv_comm : ∀ (k : Nat) (f h : Cf), cv f h k = cv h f k
  | 0, f, h => Int.mul_comm _ _
  | k + 1, f, h => by
    rw [cv_last k f h]
    show _ = h 0 * f (k + 1) + cv (tl h) f k
    rw [cv_comm k f (tl h), Int.mul_comm (f (k + 1)), Int.add_comm]
theorem tl_cv (f g : Cf) : tl (cv f g) = ad (sm (f 0) (tl g)) (cv (tl f) g) := rfl
theorem cv_assoc : ∀ (k : Nat) (f g h : Cf), cv (cv f g) h k = cv f (cv g h) k
  | 0, f, g, h => Int.mul_assoc _ _ _
  | k + 1, f, g, h => by
    show f 0 * g 0 * h (k + 1) + cv (tl (cv f g)) h k = f 0 * (g 0 * h (k + 1) + cv (tl g) h k) + cv (tl f) (cv g h) k
    rw [tl_cv, cv_ad, cv_sm, cv_assoc k, Int.mul_add, Int.mul_assoc]
    omega
theorem cv_zero : ∀ (k : Nat) (f h : Cf), (∀ i, f i = 0) → cv f h k = 0
  | 0, f, h, z => by
    show f 0 * h 0 = 0
    rw [z 0, Int.zero_mul]
  | k + 1, f, h, z => by
    show f 0 * h (k + 1) + cv (tl f) h k = 0
    rw [z 0, Int.zero_mul, cv_zero k (tl f) h fun i => z (i + 1)]
    rfl
/-! fractions of polynomials with a number below -/
/-- f / b and g / c are the same -/
def PEq (f : Cf) (b : Int) (g : Cf) (c : Int) : Prop := ∀ k, c * f k = b * g k
theorem PEq.refl (f : Cf) (b : Int) : PEq f b f b := fun _ => rfl
theorem PEq.symm {f g : Cf} {b c : Int} (h : PEq f b g c) : PEq g c f b := fun k => (h k).symm
theorem PEq.trans {f g h : Cf} {b c d : Int} (hc : c ≠ 0) (p : PEq f b g c) (q : PEq g c h d) : PEq f b h d := fun k => by
  refine Int.eq_of_mul_eq_mul_left hc ?_
  rw [Int.mul_left_comm, p k, Int.mul_left_comm c b, ← q k, Int.mul_left_comm]
theorem PEq.mul {f f' g g' : Cf} {b b' c c' : Int} (p : PEq f b f' b') (q : PEq g c g' c') : PEq (cv f g) (b * c) (cv f' g') (b' * c') := fun k => by
  have e1 : sm b' f = sm b f' := funext p
  have e2 : sm c' g = sm c g' := funext q
  have h1 : b' * c' * cv f g k = cv (sm b' f) (sm c' g) k := by rw [cv_sm, cv_sm2, Int.mul_assoc]
  have h2 : b * c * cv f' g' k = cv (sm b f') (sm c g') k := by rw [cv_sm, cv_sm2, Int.mul_assoc]
  rw [h1, h2, e1, e2]
theorem PEq.add {f f' g g' : Cf} {b b' c c' : Int} (p : PEq f b f' b') (q : PEq g c g' c') : PEq (ad (sm c f) (sm b g)) (b * c) (ad (sm c' f') (sm b' g')) (b' * c') := fun k => by
  have h1 := p k
  have h2 := q k
  show b' * c' * (c * f k + b * g k) = b * c * (c' * f' k + b' * g' k)
  rw [Int.mul_add, Int.mul_add]
  have e1 : b' * c' * (c * f k) = b * c * (c' * f' k) := by
    have : b' * c' * (c * f k) = c * c' * (b' * f k) := by simp only [Int.mul_assoc, Int.mul_comm, Int.mul_left_comm]
    rw [this, h1]
    simp only [Int.mul_assoc, Int.mul_comm, Int.mul_left_comm]
  have e2 : b' * c' * (b * g k) = b * c * (b' * g' k) := by
    have : b' * c' * (b * g k) = b * b' * (c' * g k) := by simp only [Int.mul_assoc, Int.mul_comm, Int.mul_left_comm]
    rw [this, h2]
    simp only [Int.mul_assoc, Int.mul_comm, Int.mul_left_comm]
  rw [e1, e2]
/-! without the zeros at the end -/
def trim : List Int → List Int
  | [] => []
  | t :: ts => match trim ts with
    | [] => if t = 0 then [] else [t]
    | s => t :: s
theorem trim_nil {t : Int} {ts : List Int} (e : trim ts = []) : trim (t :: ts) = if t = 0 then [] else [t] := by
  show (match trim ts with | [] => if t = 0 then [] else [t] | s => t :: s) = _
  rw [e]
theorem trim_cons {t a : Int} {ts r : List Int} (e : trim ts = a :: r) : trim (t :: ts) = t :: a :: r := by
  show (match trim ts with | [] => if t = 0 then [] else [t] | s => t :: s) = _
  rw [e]
theorem trim_cf : ∀ ts : List Int, cf (trim ts) = cf ts
  | [] => rfl
  | t :: ts => by
    have ih := trim_cf ts
    funext k
    cases e : trim ts with
    | nil =>
      rw [e] at ih
      rw [trim_nil e]
      cases k with
      | zero =>
        by_cases h : t = 0
        · rw [if_pos h, h]
          rfl
        · rw [if_neg h]
          rfl
      | succ k =>
        have := congrFun ih k
        by_cases h : t = 0
        · rw [if_pos h]
          exact this
        · rw [if_neg h]
          exact this
    | cons a r =>
      rw [e] at ih
      rw [trim_cons e]
      cases k with
      | zero => rfl
      | succ k => exact congrFun ih k
theorem trim_last : ∀ (ts : List Int) (n : Nat), (trim ts).length = n + 1 → cf (trim ts) n ≠ 0
  | [], n, h => by cases h
  | t :: ts, n, h => by
    cases e : trim ts with
    | nil =>
      rw [trim_nil e] at h ⊢
      by_cases ht : t = 0
      · rw [if_pos ht] at h
        cases h
      · rw [if_neg ht] at h ⊢
        have : n = 0 := by simpa using h.symm
        subst this
        exact ht
    | cons a r =>
      rw [trim_cons e] at h ⊢
      have hn : r.length + 1 = n := by simpa using h
      subst hn
      have := trim_last ts r.length (by rw [e]; rfl)
      rw [e] at this
      exact this
theorem cf_ge {ts : List Int} {k : Nat} (h : ts.length ≤ k) : cf ts k = 0 := by
  unfold cf
  rw [List.getD_eq_getElem?_getD, List.getElem?_eq_none h]
  rfl
theorem cf_at {ts : List Int} {k : Nat} {t : Int} (h : ts[k]? = some t) : cf ts k = t := by
  unfold cf
  rw [List.getD_eq_getElem?_getD, h]
  rfl
theorem trim_le {ts us : List Int} (h : ∀ k, cf us k = 0 → cf ts k = 0) : (trim ts).length ≤ (trim us).length := by
  cases e : (trim ts).length with
  | zero => exact Nat.zero_le _
  | succ n =>
    have h1 := trim_last ts n e
    rw [trim_cf] at h1
    refine Nat.lt_of_not_le fun z => h1 (h n ?_)
    rw [← trim_cf us]
    exact cf_ge z
/-- a polynomial's own form -/
def pT (ts : List Int) (b : Int) : List Int := lT (trim ts) b
def pB (ts : List Int) (b : Int) : Int := lB (trim ts) b
theorem poly_cross {ts us : List Int} {b c : Int} (hb : b ≠ 0) (hc : c ≠ 0) (h : PEq (cf ts) b (cf us) c) : pT ts b = pT us c ∧ pB ts b = pB us c := by
  have hl : (trim ts).length = (trim us).length := Nat.le_antisymm (trim_le fun k z => by
    have := h k
    rw [z, Int.mul_zero] at this
    exact (Int.mul_eq_zero.mp this).resolve_left hc) (trim_le fun k z => by
    have := h k
    rw [z, Int.mul_zero] at this
    exact (Int.mul_eq_zero.mp this.symm).resolve_left hb)
  refine low_cross hb hc (List.ext_getElem? fun i => ?_)
  rw [List.getElem?_map, List.getElem?_map]
  by_cases hi : i < (trim ts).length
  · have e1 := List.getElem?_eq_getElem hi
    have e2 := List.getElem?_eq_getElem (l := trim us) (i := i) (by omega)
    have h1 := cf_at e1
    have h2 := cf_at e2
    rw [trim_cf] at h1 h2
    rw [e1, e2, ← h1, ← h2]
    exact congrArg some (h i)
  · rw [List.getElem?_eq_none (by omega), List.getElem?_eq_none (by omega)]
    rfl
theorem cf_map (z : Int) (ts : List Int) : cf (ts.map fun t => z * t) = sm z (cf ts) := by
  funext k
  show (ts.map fun t => z * t).getD k 0 = z * ts.getD k 0
  rw [List.getD_eq_getElem?_getD, List.getD_eq_getElem?_getD, List.getElem?_map]
  cases ts[k]? with
  | none => exact (Int.mul_zero z).symm
  | some t => rfl
theorem low_cf (ts : List Int) {b : Int} (h : b ≠ 0) : PEq (cf (lT ts b)) (lB ts b) (cf ts) b := fun k => by
  have e1 := congrFun (cf_map (gs ts b) (lT ts b)) k
  rw [lT_mul ts h] at e1
  have e2 := lB_mul ts h
  refine Int.eq_of_mul_eq_mul_left (gs_ne (ts := ts) h) ?_
  rw [e1]
  show gs ts b * (b * cf (lT ts b) k) = gs ts b * (lB ts b * (gs ts b * cf (lT ts b) k))
  rw [← Int.mul_assoc (gs ts b) (lB ts b), e2, Int.mul_left_comm]
theorem poly_cf (ts : List Int) {b : Int} (h : b ≠ 0) : PEq (cf (pT ts b)) (pB ts b) (cf ts) b := by
  have := low_cf (trim ts) h
  rw [trim_cf] at this
  exact this
end DL

namespace DL
open PySem PySem.Spec PyProof.Rows L2 LR
section
variable {X : Cx} {W : WX} {a b c e tg : Expr} {es : List Expr} {ta tb tc : DT} {t : DTA} {pos p : Pos} {K : PySem.W.Frag}
/-! range(i, j, -1) -/
def dwnD (i : Int) (n : Nat) : List D := (List.range n).map fun (k : Nat) => D.int (i + (k : Int) * (-1))
theorem dwn_len {i : Int} {n : Nat} : (dwnD i n).length = n := by simp [dwnD]
theorem dwn_at {i : Int} {n k : Nat} {d : D} (h : (dwnD i n)[k]? = some d) : k < n ∧ d = .int (i - (k : Int)) := by
  unfold dwnD at h
  obtain ⟨x, e, rfl⟩ := map_at h
  obtain ⟨hx, hi⟩ := List.getElem?_eq_some_iff.mp e
  have hi' : k < n := by simpa using hx
  rw [List.getElem_range] at hi
  subst hi
  exact ⟨hi', by rw [show i + (k : Int) * (-1) = i - (k : Int) by omega]⟩
theorem jok_dwn {G : Hp} {i : Int} {n : Nat} : JOk K (Itc i (-1) n) G (dwnD i n) where
  go := fun k H s hk => by rw [dwn_len] at hk; exact hk
  stop := fun H s => by rw [dwn_len]; exact Nat.le_refl _
  yld := fun k H G1 x H' s1 s2 hk ⟨e, y⟩ => by
    subst e
    subst y
    rw [dwn_len] at hk
    refine ⟨G1, _, ?_, .refl s2, .int _⟩
    unfold dwnD
    rw [List.getElem?_map, List.getElem?_range hk]
    rfl
def diRd (t : DTA) : DTI := fun env Q ex => t env (fun ds => ∃ i j : Int, ds = [.int i, .int j, .int (-1)] ∧ (-(2 ^ 62) ≤ i ∧ i < 2 ^ 62 ∧ -(2 ^ 62) ≤ j ∧ j < 2 ^ 62) ∧ Q (dwnD i (i - j).toNat)) ex
theorem pdi_rangeD (hg : Gl X "range") (hm : X.mg "range" = none) (ha : PDA X W [a, b, c] t) (hs : starEach [a, b, c] X.env = (false, eval a X.env) :: starEach [b, c] X.env := by rfl) (hpl : (backTo pos (starEach [b, c] X.env)).any (·.1) = false := by rfl) :
    PDI X W tg (.Call (.Name "range" p) [a, b, c] [] pos) (diRd t) := by
  obtain ⟨_, pa, la⟩ := ha.of
  refine ⟨_, pi_range3 hg hm pa hs hpl, fun H0 G0 G H σ env Q ex R S L q g => la H0 G0 G H σ env _ ex _ S L q fun vs H1 G1 ds x1 r1 ⟨i, j, e1, ⟨h1, h2, h3, h4⟩, q1⟩ => ?_⟩
  subst e1
  have ev : vs = [.int i, .int j, .int (-1)] := Reps.ints (ns := [i, j, -1]) r1
  exact ⟨i, j, -1, (i - j).toNat, ev, RgC.neg h1 h2 h3 h4, g _ H1 G1 _ x1 jok_dwn q1⟩
/-! a slice of a list or a tuple -/
def dSlq : D → Option Int → Option Int → (D → Prop) → Prop := fun a lo hi Q => ∃ l, (a = .lst l ∧ Q (.lst (cutD l lo hi))) ∨ (a = .tup l ∧ Q (.tup (cutD l lo hi)))
theorem pd_slq {lo hi : Option Expr} {te : DT} {tl th : DTO} {p2 : Pos} (h : PD X W e te) (hl : PDO X W lo tl) (hh : PDO X W hi th) : PD X W (.Subscript e (.Slice lo hi none p2) pos) (dSl dSlq te tl th) := by
  obtain ⟨_, pe, le⟩ := h.of
  obtain ⟨_, pl, ll⟩ := hl.of
  obtain ⟨_, ph, lh⟩ := hh.of
  refine ⟨_, pe_slice (SlR.or sl_list sl_tupA) pe pl ph, fun H0 G0 G H σ env Q ex R S L q g => le H0 G0 G H σ env _ ex _ S L q fun v H1 G1 d x1 r1 q1 => ?_⟩
  refine ll H0 G0 G1 H1 σ env _ ex _ (S.ex x1) (L.mono x1.gg) q1 fun o H2 G2 x2 q2 => ?_
  have x12 := x1.trans x2
  refine lh H0 G0 G2 H2 σ env _ ex _ (S.ex x12) (L.mono x12.gg) q2 fun u H3 G3 x3 q3 => ?_
  have r3 := r1.same (x2.gg.trans x3.gg)
  obtain ⟨l, ⟨e1, q4⟩ | ⟨e1, q4⟩⟩ := q3
  · subst e1
    obtain ⟨pp, vs, rfl, h1, h2⟩ := r3.lst_inv
    refine .inl ⟨pp, vs, rfl, x3.sub.seq h1, fun p' n => ?_⟩
    have x4 : Ext G3 H3 (upd G3 p' (.lst (L2.cutV vs o u))) (upd H3 p' (.lst (L2.cutV vs o u))) := Ext.nw x3.sub n
    have r4 := (h2.cutV o u).same x4.gg
    exact g _ _ _ _ ((x12.trans x3).trans x4) (.lst (SqL.of upd_same) r4.1 r4.2) q4
  · subst e1
    obtain ⟨pp, vs, rfl, h1, h2⟩ := id r3.tup_inv
    refine .inr ⟨pp, vs, rfl, sqT_same x3.sub h1, fun hw => ?_, fun hw p' n => ?_⟩
    · have e5 : cutD l o u = l := by
        unfold cutD
        rw [← h2.1, hw.1, hw.2, List.drop_zero, Nat.sub_zero, h2.1, List.take_length]
      rw [e5] at q4
      exact g _ _ _ _ (x12.trans x3) r3 q4
    · have x4 : Ext G3 H3 (upd G3 p' (.tup (L2.cutV vs o u))) (upd H3 p' (.tup (L2.cutV vs o u))) := Ext.nw x3.sub n
      have r4 := (h2.cutV o u).same x4.gg
      exact g _ _ _ _ ((x12.trans x3).trans x4) (.tup (SqT.of upd_same) r4.1 r4.2) q4
/-! xs.pop() -/
def dPop (i : Nat) : DTS := fun E env => ∃ m y, env[i]? = some (.own (m ++ [y])) ∧ E.nx (env.set i (.own m))
theorem reps_pop {G : Hp} {vs : List V} {m : List D} {y : D} (r : Reps K G vs (m ++ [y])) : ∃ v, vs[vs.length - 1]? = some v ∧ Reps K G vs.dropLast m := by
  have hl := r.1
  rw [List.length_append] at hl
  have hl' : vs.length = m.length + 1 := hl
  refine ⟨vs[vs.length - 1]'(by omega), List.getElem?_eq_getElem _, by rw [List.length_dropLast]; omega, fun i v d h1 h2 => r.2 i v d ?_ ?_⟩
  · have hi := (List.getElem?_eq_some_iff.mp h1).1
    rw [List.length_dropLast] at hi
    rw [List.getElem?_dropLast, if_pos (by omega)] at h1
    exact h1
  · have hi := (List.getElem?_eq_some_iff.mp h2).1
    rw [List.getElem?_append_left hi]
    exact h2
theorem pds_pop {i : Nat} (hv : PE X c (tBM0 X.K "list" rPop (tVar i))) (h5 : swapsWith c none pos.line X.env = pure false := by rfl) : PDS X W (.Expr c pos) (dPop i) := by
  refine ⟨_, ps_expr hv h5, fun H0 G0 G H σ env B E S L ⟨m, y, em, q⟩ => ?_⟩
  obtain ⟨pp, vs, e3, hp, gp, op, rr⟩ := S.own i _ em
  obtain ⟨v, hv, r2⟩ := reps_pop rr
  refine ⟨_, e3, .inl ⟨rfl, _, SqL.of hp⟩, pp, vs, v, rfl, rfl, hp, hv, ?_⟩
  exact L.nx _ _ _ _ (.refl _) (S.mutL em e3 r2) q
/-! is of bools -/
def dIsB : R2D := fun a b Q => ∃ x y, a = .bl x ∧ b = .bl y ∧ Q (.bl (decide (x = y)))
def dIsNB : R2D := fun a b Q => ∃ x y, a = .bl x ∧ b = .bl y ∧ Q (.bl (!decide (x = y)))
theorem l_isB : L2R K (fun x y H Q => ∃ a b, x = .bl a ∧ y = .bl b ∧ Q (.bl (decide (a = b))) H) dIsB := fun G H x y a b Q R s r1 r2 ⟨i, j, e1, e2, q⟩ g => by
  subst e1 e2
  exact ⟨i, j, r1.bl_inv, r2.bl_inv, g _ H G _ (.refl s) (.bl _) q⟩
theorem l_isNB : L2R K (fun x y H Q => ∃ a b, x = .bl a ∧ y = .bl b ∧ Q (.bl (!decide (a = b))) H) dIsNB := fun G H x y a b Q R s r1 r2 ⟨i, j, e1, e2, q⟩ g => by
  subst e1 e2
  exact ⟨i, j, r1.bl_inv, r2.bl_inv, g _ H G _ (.refl s) (.bl _) q⟩
end
end DL

/-! enumerate of a tuple -/
namespace LR
open PySem PySem.Spec PyProof.Rows L2
set_option maxHeartbeats 1000000 in
theorem meets_enum1 {v : Value} {o : Obj} {B : Heap → Prop} (b : Begins v o B) : Meets (Builtin.«enumerate.__new__» ⟨[.type "enumerate", v], []⟩) (fun _ R s => B s.heap ∧
    R (.ok (.ret (.ref (s.heap.push o).objs.size))) { s with heap := (s.heap.push o).push { cls := .type "enumerate", data := .fields #[.none, .bool false, .ref s.heap.objs.size, rawInt 0, .none, .none] } }) :=
  .of_wp fun prog w A R s h => by
    obtain ⟨hh, gn, dr, tk, os⟩ := s
    obtain ⟨h1, h⟩ := h
    have sub := sub_enumerate
    have go : ∀ {A' : Around} {E Q : Value → Shared → Prop}, Q (.ref hh.objs.size) ⟨hh.push o, gn, dr, tk, os⟩ → wpAny (model prog w) A' (pyIter v) Q E ⟨hh, gn, dr, tk, os⟩ := fun q => b.iter prog w _ _ ⟨hh, gn, dr, tk, os⟩ _ h1 q
    wp_walk using go
    refine wpAny_stack_any fun st => wpAny_pure ?_
    split
    · rename_i c _ _ _ _ _
      cases (c == Value.type "enumerate") <;> (wp_walk using go; exact ⟨_, rfl, h⟩)
    · wp_walk using go
      exact ⟨_, rfl, h⟩
theorem enum1 {prog : Program} {w : World} {A : Around} {E : Value → Shared → Prop} {s : Shared} {v : Value} {o : Obj} {B : Heap → Prop} {Q : Value → Shared → Prop} (b : Begins v o B) (h1 : B s.heap)
    (h : ∀ h', IsEnum h' (s.heap.objs.size + 1) s.heap.objs.size 0 .none → h'.get? s.heap.objs.size = some o → h'.objs.size = s.heap.objs.size + 2 → (∀ a ob, s.heap.get? a = some ob → h'.get? a = some ob) → Q (.ref (s.heap.objs.size + 1)) { s with heap := h' }) :
    wpAny (model prog w) A (call (.type "enumerate") [v]) Q E s := by
  refine callType_new F.called_enumerate (by decide) (F.typeCall_enumerate_1 _) (F.newCall_enumerate_1 _) (fun obj => F.args_object_init_2 obj _) F.entry_enumerate_new (meets_enum1 b) ⟨h1, ?_⟩
  have sz : (s.heap.push o).objs.size = s.heap.objs.size + 1 := Heap.size_push ..
  have he := Heap.get?_push_size (s.heap.push o) (o := { cls := .type "enumerate", data := .fields #[.none, .bool false, .ref s.heap.objs.size, rawInt 0, .none, .none] }) rfl
  show _ ∧ _
  rw [sz] at he ⊢
  exact ⟨⟨_, he, rfl⟩, h _ he (Heap.get?_push_of_some _ (Heap.get?_push_size _ b.free)) (by rw [Heap.size_push, sz]) fun a ob x => Heap.get?_push_of_some _ (Heap.get?_push_of_some _ x)⟩
def IteT (K : PySem.W.Frag) (a : Addr) : It :=
  ⟨fun i H => ∃ (xs : List V) (x : V), SqT K H a xs ∧ xs[i]? = some x, fun i H v H' => ∃ T x, v = .ref T ∧ H T = none ∧ H' = upd H T (.tup [.int (i : Nat), x]) ∧ ∀ xs, SqT K H a xs → xs[i]? = some x, fun i H => ∃ xs : List V, SqT K H a xs ∧ xs.length ≤ i⟩
theorem turn_enumT {P : Program} {w : World} {K : PySem.W.Frag} {elts : List Expr} {kk : Nat} {tpos : Pos} (a e it : Addr) (ha : a ≠ it) (ha2 : a ≠ e) :
    Turn P w K (.Tuple elts kk tpos) (IteT K a) [e, it] e (fun i h => (∃ old, IsEnum h e it ((i : Nat) : Int) old) ∧ h.IsTupleIter it a i ∧ e ≠ it) where
  mem := by simp
  obj := fun i h ⟨⟨old, he⟩, ⟨o, ho, hc, hd⟩, _⟩ b hb => by
    rcases (by simpa using hb : b = e ∨ b = it) with rfl | rfl
    · exact ⟨_, he, fun v q => nomatch q⟩
    · exact ⟨o, ho, fun v q => by rw [hd] at q; cases q⟩
  keep := fun i h h' ⟨⟨old, he⟩, hi, hne⟩ k => ⟨⟨old, k e (by simp) _ he⟩, hi.at fun o q => k it (by simp) o q, hne⟩
  item := by
    intro X hP hw hK hc i pins s σ H E I hf ⟨⟨old, he⟩, hit, hne⟩ ⟨xs, x, hq, hx⟩
    subst hP hw hK
    obtain ⟨its, rv, p, hz⟩ := I.tuple hq
    obtain ⟨u, hu, ru⟩ := rv.get hx
    have ht : s.heap.IsTuple a its.toArray := p
    have hel : e < s.heap.objs.size := Heap.lt_size he
    have hil : it < s.heap.objs.size := by
      obtain ⟨_, q, _⟩ := id hit
      exact Heap.lt_size q
    have hlt : i < its.toArray.size := by
      have := (List.getElem?_eq_some_iff.mp hu).1
      simpa using this
    have D := Draws.tuple (prog := X.prog) (w := X.w) (A := X.A.in1) (I.ok.hd hc) it a ha its.toArray
    refine wpAny_pyNext_enum_itemD D he ⟨hit, ht⟩ hlt hne (by simp [hne, Ne.symm ha2]) fun x' h' tk hP ho hs' hT hsz hk => ?_
    have ex : x' = u := by
      have e1 : its[i]? = some x' := by simpa using hP
      rw [hu] at e1
      exact (Option.some.inj e1).symm
    subst ex
    refine ⟨_, rfl, wpAny_letOwnedTupleGo_enum (s := { s with heap := h', toks := tk + 1 }) ho fun h'' he' sb => ?_⟩
    have hT2 : h''.get? s.heap.objs.size = some { cls := .type "tuple", data := .seq #[.int i tk, x'] } := (sb.2 _ (Nat.ne_of_gt hel)).trans hT
    have new : ObjOk X.prog X.w (upd H s.heap.objs.size (.tup [.int (i : Nat), x])) h'' s.heap.objs.size (.tup [.int (i : Nat), x]) := ⟨by show 2 ≤ sizeLine; decide, [.int i tk, x'], .cons ⟨_, rfl⟩ (.cons ru .nil), ⟨_, hT2, rfl, _, rfl⟩⟩
    have I1 : Inv X pins σ (upd H s.heap.objs.size (.tup [.int (i : Nat), x])) { s with heap := h'', toks := tk + 1 } :=
      I.turnedNew (ch := [e, it]) (fun b ob hb q => (sb.2 b fun z => hb (by simp [z])).trans (hk b ob (fun z => hb (by simp [z])) (fun z => hb (by simp [z])) q)) hf (Nat.le_refl _) new
    refine ⟨.ref s.heap.objs.size, _, I1, rfl, ⟨_, x, rfl, I.hok.fresh (Nat.le_refl _), rfl, fun ys hy => by rw [I.tuple_inj hy hq]; exact hx⟩, ⟨⟨x', ?_⟩, hs'.1.at fun o q => (sb.2 it (Ne.symm hne)).trans q, hne⟩, fun b hb => ?_⟩
    · rw [show ((i + 1 : Nat) : Int) = (i : Int) + 1 by omega]
      exact he'
    · have hb' : b < s.heap.objs.size := by
        rcases (by simpa using hb : b = e ∨ b = it) with rfl | rfl
        · exact hel
        · exact hil
      rw [upd_ne (Nat.ne_of_lt hb')]
      exact (hf b hb).1
  done := by
    intro X hP hw hK hc i pins s σ H E I hf ⟨⟨old, he⟩, hit, hne⟩ ⟨xs, hq, hx⟩
    subst hP hw hK
    obtain ⟨its, rv, p, hz⟩ := I.tuple hq
    have ht : s.heap.IsTuple a its.toArray := p
    obtain ⟨f0, f1, f2, f3, f4, f5⟩ := hf it (by simp)
    have hl := rv.length
    have hT : s.TypeIs (.ref e) "enumerate" := ⟨_, he, rfl⟩
    unfold pyNext
    refine wpAny_bind (wpAny_attempt (wpAny_callSpecial?_slot (name := Str.ofString "__next__") hT F.slot_enumerate_next (wpAny_call_entry F.slot_enumerate_next hT F.entry_enumerate_next ?_ (F.args_enumerate_next_1 _))))
    show wpAny _ _ (field (.ref e) 2 >>= _) _ _ _
    refine wpAny_bind (wpAny_field he rfl (x := .ref it) rfl ?_)
    refine wpAny_bind (wpAny_nextOf_tuple_end (I.ok.hd hc) hit ht (by simp; omega) fun h' x he' hx' => ?_)
    obtain ⟨o, ho, hc'⟩ := hx'
    refine wpAny_bind (wpAny_isInstance (T := "StopIteration") (b := true) ⟨o, ho, hc'⟩ isSubtype_stop ?_)
    exact wpAny_pure ⟨rfl, I.turned (t' := s.toks) (fun b o hb q => he' b o hb q) f0 f1 f3 f4 f5⟩
  self := fun A i s Q E ⟨⟨_, he⟩, _⟩ h => wpAny_pyIter_enum he h
def iEnumT (K : PySem.W.Frag) (ta : TA) : TI := fun σ H R => ta σ H fun vs H1 => ∃ a xs, vs = [.ref a] ∧ SqT K H1 a xs ∧ R (IteT K a) H1
theorem pi_enumT {X : Cx} {e : Expr} {ta : TA} {p pos tpos : Pos} {elts : List Expr} {kk : Nat} (hg : Gl X "enumerate") (hm : X.mg "enumerate" = none) (ha : PA X [e] ta) (hs : starEach [e] X.env = [(false, eval e X.env)] := by rfl) :
    PI X (.Tuple elts kk tpos) (.Call (.Name "enumerate" p) [e] [] pos) (iEnumT X.K ta) := by
  refine ⟨fun pins s σ H R I h => ?_⟩
  refine Call_ (ld_blt I hg hm boot_enumerate (PyProof.Rows.callWith_type1 (thn (ha.run pos pins s σ H _ I h) fun us s1 ⟨vs, H1, I1, r1, a, xs, ex, hq, q⟩ => ?_) hs rfl))
  subst ex
  cases r1 with
  | cons r rr =>
    cases rr
    cases r
    obtain ⟨its, rv, p', hz⟩ := I1.tuple hq
    have ht : s1.heap.IsTuple a its.toArray := p'
    have hlt : a < s1.heap.objs.size := by
      obtain ⟨_, q, _⟩ := id ht
      exact Heap.lt_size q
    refine enum1 (begins_tuple a its.toArray) ht fun h' he hit hsz hk => wpAny_pyIter_enum he ?_
    have I2 : Inv X pins σ H1 { s1 with heap := h' } := I1.kept (t' := s1.toks) hk
    refine ⟨s1.heap.objs.size + 1, [s1.heap.objs.size + 1, s1.heap.objs.size], _, _, H1, rfl, I2, turn_enumT a (s1.heap.objs.size + 1) s1.heap.objs.size (Nat.ne_of_lt hlt) (Nat.ne_of_lt (Nat.lt_succ_of_lt hlt)), ⟨⟨.none, he⟩, ⟨_, hit, rfl, rfl⟩, Nat.succ_ne_self _⟩, fun b hb => ?_, q⟩
    have hle : s1.heap.objs.size ≤ b := by
      rcases (by simpa using hb : b = s1.heap.objs.size + 1 ∨ b = s1.heap.objs.size) with rfl | rfl
      · exact Nat.le_add_right _ _
      · exact Nat.le_refl _
    exact I1.fpOk hle (I1.hok.fresh hle)
end LR

namespace DL
open PySem PySem.Spec PyProof.Rows L2 LR
section
variable {X : Cx} {W : WX} {a b c e tg : Expr} {es : List Expr} {ta tb tc : DT} {t : DTA} {pos p : Pos} {K : PySem.W.Frag}
/-! enumerate of a tuple -/
theorem jok_enumT {G : Hp} {a : Addr} {vs : List V} {l : List D} (h : SqT K G a vs) (r : Reps K G vs l) : JOk K (IteT K a) G (enumD l) where
  go := fun i H s hi => ⟨vs, vs[i]'(by rw [r.1]; rw [enumD_len] at hi; exact hi), sqT_same s h, List.getElem?_eq_getElem _⟩
  stop := fun H s => ⟨vs, sqT_same s h, by rw [r.1, enumD_len]; exact Nat.le_refl _⟩
  yld := fun i H G1 x H' s1 s2 hi ⟨T, x', e, n, e2, y⟩ => by
    subst e e2
    have hx := y vs (sqT_same (s1.trans s2) h)
    obtain ⟨d, hd, rd⟩ := r.at' hx
    obtain ⟨x2, r2⟩ := ext_pair s2 n (.int (i : Nat)) (rd.same s1)
    exact ⟨_, _, enumD_at hd, x2, r2⟩
def diEnumT (t : DTA) : DTI := fun env Q ex => t env (fun ds => ∃ l, ds = [.tup l] ∧ Q (enumD l)) ex
theorem pdi_enumT {tpos : Pos} {elts : List Expr} {kk : Nat} (hg : Gl X "enumerate") (hm : X.mg "enumerate" = none) (ha : PDA X W [e] t) (hs : starEach [e] X.env = [(false, eval e X.env)] := by rfl) :
    PDI X W (.Tuple elts kk tpos) (.Call (.Name "enumerate" p) [e] [] pos) (diEnumT t) := by
  obtain ⟨_, pa, la⟩ := ha.of
  refine ⟨_, pi_enumT hg hm pa hs, fun H0 G0 G H σ env Q ex R S L q g => la H0 G0 G H σ env _ ex _ S L q fun vs H1 G1 ds x1 r1 ⟨l, e1, q1⟩ => ?_⟩
  subst e1
  obtain ⟨v, rfl, r⟩ := reps1 r1
  obtain ⟨p, ws, rfl, h1, h2⟩ := r.tup_inv
  exact ⟨p, ws, rfl, sqT_same x1.sub h1, g _ H1 G1 _ x1 (jok_enumT h1 h2) q1⟩
/-! list(range(n)) -/
def dLRg (ta : DT) : DTN := fun env Q ex => ta env (fun d => ∃ n : Nat, d = .int n ∧ n ≤ 2 ^ 24 ∧ Q (rngD 0 n)) ex
theorem pdn_lrg {p2 pos2 : Pos} (hc : X.calm = true) (hg : Gl X "list") (hm : X.mg "list" = none) (hg2 : Gl X "range") (hm2 : X.mg "range" = none) (ha : PD X W a ta)
    (na : starEach [a] X.env = (false, eval a X.env) :: starEach [] X.env := by rfl) (na2 : starEach [.Call (.Name "range" p) [a] [] pos] X.env = (false, eval (.Call (.Name "range" p) [a] [] pos) X.env) :: starEach [] X.env := by rfl) :
    PDN X W (.Call (.Name "list" p2) [.Call (.Name "range" p) [a] [] pos] [] pos2) (dLRg ta) := by
  obtain ⟨_, pa, la⟩ := ha.of
  refine ⟨_, pe_listRg hc hg hm (prg_1 hg2 hm2 pa na) na2, fun H0 G0 G H σ env Q ex R S L q g => la H0 G0 G H σ env _ ex _ S L q fun v H1 G1 d x1 r1 ⟨n, e1, hn, q1⟩ => ?_⟩
  subst e1
  refine ⟨n, r1.int_inv, ⟨by decide, by decide, by omega, by omega, by omega⟩, fun q hq => ?_⟩
  have er : rgV 0 n = (((List.range n).map fun (i : Nat) => (0 : Int) + (i : Int))).map V.int := by
    unfold rgV
    rw [List.map_map, show ((n : Int) - 0).toNat = n by omega]
    rfl
  have ed : rngD 0 n = (((List.range n).map fun (i : Nat) => (0 : Int) + (i : Int))).map D.int := by
    unfold rngD
    rw [List.map_map]
    rfl
  exact g q _ _ H1 G1 _ x1 hq rfl (by rw [er, ed]; exact Reps.of_ints _) q1
/-! a clause for a class of errors of which the error's own class is one -/
abbrev ClE := Str × Str × Nat × (Addr → Value → Option Addr → DTS)
def dClE (K : PySem.W.Frag) (E : DEnds) (z : Str) (fs : List (Str × D)) (e : DE) : List ClE → Prop
  | [] => E.ex z fs e
  | q :: r => (z = q.2.1 ∧ ∀ a dd, q.2.2.2 a (.ref (He.ga K q.2.1)) (some dd) (offD q.2.2.1 E) (e.set q.2.2.1 (.exc a dd q.2.1 fs))) ∨ (PySem.W.exmOne K (.ref (He.ga K z)) (.ref (He.ga K q.1)) = some false ∧ dClE K E z fs e r)
def dTryE (K : PySem.W.Frag) (l : List ClE) (tb : DTS) : DTS := fun E env => tb { E with ex := fun z fs e => dClE K E z fs e l } env
/-- x the clause's class, y the class of the error that comes -/
inductive HdE (X : Cx) : List ExceptHandler → List ClE → Prop
  | nil : HdE X [] []
  | cons {x y n : Str} {i : Nat} {ts : Addr → Value → Option Addr → DTS} {st : Stmt} {sts : List Stmt} {np ps : Pos} {hds : List ExceptHandler} {l : List ClE} (hc : Names X x (.ref (He.ga X.K x))) (hm : PySem.W.exmOne X.K (.ref (He.ga X.K y)) (.ref (He.ga X.K x)) = some true)
      (hi : X.N[i]? = some n) (hk : X.env.kindOf n = some .local) (hsu : ∀ (a : Addr) (oe : Obj) (cls : Value) (d : Option Addr) (pn : List (Addr × Obj)), Zc cls d oe → (∃ vs, oe.data = .fields vs) → PDSs (X.suite a ((a, oe) :: pn)) WN (st :: sts) (ts a cls d)) (r : HdE X hds l) :
      HdE X (.ExceptHandler (some (.Name x np)) (some n) (st :: sts) ps :: hds) ((x, y, i, ts) :: l)
theorem HdE.lift {hds : List ExceptHandler} {l : List ClE} (h : HdE X hds l) : ∃ l' : List ClA, HdA X hds l' ∧ ∀ (W : WX) (H0 G0 G : Hp) (B : Ends) (E : DEnds), Lk X.K H0 G0 G W B E → ∀ (σ' : L2.St) (H' G' : Hp) (env' : DE) (dd : Addr) (z : Str) (fv : List (Str × V)) (fs : List (Str × D)), Same G G' →
    SR X.K H0 G0 G' H' σ' env' → H' dd = some (.xd fv) → RepF X.K G' fv fs → dClE X.K E z fs env' l → wAll X.K W B l' (.ref (He.ga X.K z)) (some dd) σ' H' := by
  induction h with
  | nil => exact ⟨[], .nil, fun W H0 G0 G B E L σ' H' G' env' dd z fv fs s S e r q => L.ex σ' H' G' env' dd z fv fs s S e r q⟩
  | @cons x y n i ts st sts np ps hds l hc hm hi hk hsu r ih =>
    obtain ⟨l', h', go⟩ := ih
    refine ⟨(.ref (He.ga X.K x), i, fun a cls d B σ H => ∀ oe pn (h1 : Zc cls d oe) (h2 : ∃ vs, oe.data = .fields vs), (hsu a oe cls d pn h1 h2).of.choose B σ H) :: l', .cons hc hi hk (fun a oe cls d pn h1 h2 => ⟨fun pins s σ H B I q => (hsu a oe cls d pn h1 h2).of.choose_spec.1.run pins s σ H B I (q oe pn h1 h2)⟩) h', ?_⟩
    intro W H0 G0 G B E L σ' H' G' env' dd z fv fs s S e rf q
    rcases q with ⟨rfl, q⟩ | ⟨hn, q⟩
    · refine ⟨true, hm, fun _ a na oe pn h1 h2 => ?_, fun z => Bool.noConfusion z⟩
      have S2 := S.put i (some (.ref a)) (.exc a dd z fs) ⟨fv, rfl, e, rf⟩ (fun z => by cases z)
      have L2 := L.mono s
      exact (hsu a oe _ _ pn h1 h2).of.choose_spec.2 H0 G0 G' H' _ _ _ (offD i E) S2 ⟨fun σ4 H4 G4 env4 s4 S4 q4 => L2.nx _ _ _ _ s4 S4.unset q4, fun σ4 H4 G4 env4 s4 S4 q4 => L2.bk _ _ _ _ s4 S4.unset q4, fun σ4 H4 G4 env4 s4 S4 q4 => L2.ct _ _ _ _ s4 S4.unset q4, L2.rt, fun _ _ _ _ _ _ _ _ _ _ _ _ z => z.elim⟩ (q a dd)
    · exact ⟨false, hn, fun z => Bool.noConfusion z, fun _ => go W H0 G0 G B E L σ' H' G' env' dd z fv fs s S e rf q⟩
theorem pds_tryE {body : List Stmt} {h0 : ExceptHandler} {hds : List ExceptHandler} {l : List ClE} {tb : DTS} (hs : X.stack = X.env :: X.outer) (hf : X.env.frame = some X.env.locals) (hN : X.N.Nodup) (tk : Takes X W)
    (hb : ∀ (W' : WX) (pn : List (Addr × Obj)) (xe : Value → Shared → Prop), Takes (X.tr pn xe) W' → PassesOwn (model X.prog X.w) X.A X.env xe → PDSs (X.tr pn xe) W' body tb) (hh : HdE X (h0 :: hds) l) : PDS X W (.Try body (h0 :: hds) [] [] pos) (dTryE X.K l tb) := by
  obtain ⟨l', h', go⟩ := hh.lift
  refine ⟨_, ps_tryN (Wout := W) (tb := fun W' B σ H => ∀ pn xe (h1 : Takes (X.tr pn xe) W') (h2 : PassesOwn (model X.prog X.w) X.A X.env xe), (hb W' pn xe h1 h2).of.choose B σ H) hs hf hN tk
    (fun W' pn xe h1 h2 => ⟨fun pins s σ H B I q => (hb W' pn xe h1 h2).of.choose_spec.1.run pins s σ H B I (q pn xe h1 h2)⟩) h', fun H0 G0 G H σ env B E S L q pn xe h1 h2 => ?_⟩
  exact (hb _ pn xe h1 h2).of.choose_spec.2 H0 G0 G H σ env _ { E with ex := fun z fs e => dClE X.K E z fs e l } S ⟨L.nx, L.bk, L.ct, L.rt, fun σ' H' G' env' dd z fv fs s' S' e r q' => go W H0 G0 G B E L σ' H' G' env' dd z fv fs s' S' e r q'⟩ q
end
/-- facts of classes of errors, one under another -/
structure Mo3 (cs : List Nat) (sms : List (Str × Str)) (cis : List (Str × Int)) (mxs : List (String × List Nat)) (exs : List (Str × Str)) (K : PySem.W.Frag) (mg : Str → Option Value) : Prop extends Mo2 cs sms cis mxs K mg where
  exA : ∀ p ∈ exs, PySem.W.exmOne K (.ref (He.ga K p.1)) (.ref (He.ga K p.2)) = some true
def mo3B (cs : List Nat) (sms : List (Str × Str)) (cis : List (Str × Int)) (mxs : List (String × List Nat)) (exs : List (Str × Str)) (K : PySem.W.Frag) : Bool := mo2B cs sms cis mxs K && exs.all fun p => decide (PySem.W.exmOne K (.ref (He.ga K p.1)) (.ref (He.ga K p.2)) = some true)
theorem Mo3.of {cs : List Nat} {sms : List (Str × Str)} {cis : List (Str × Int)} {mxs : List (String × List Nat)} {exs : List (Str × Str)} {K : PySem.W.Frag} {mg : Str → Option Value} {h : Heap} (X : K.In h) (G : h.Ns mainGlobals mg) (hc : ∀ c ∈ cs, Cls K (He.ga K (cname c))) (m : mo3B cs sms cis mxs exs K = true) : Mo3 cs sms cis mxs exs K mg :=
  let ⟨m1, m2⟩ := Bool.and_eq_true_iff.mp m
  { Mo2.of X G hc m1 with exA := fun p hp => of_decide_eq_true (List.all_eq_true.mp m2 p hp) }
theorem Mo3.exm {cs : List Nat} {sms : List (Str × Str)} {cis : List (Str × Int)} {mxs : List (String × List Nat)} {exs : List (Str × Str)} {K : PySem.W.Frag} {mg : Str → Option Value} (M : Mo3 cs sms cis mxs exs K mg) (x y : Str) (h : (x, y) ∈ exs := by decide +kernel) : PySem.W.exmOne K (.ref (He.ga K x)) (.ref (He.ga K y)) = some true := M.exA (x, y) h
theorem dm_Pow : PySem.dunder (Operator.info .Pow).2 = ("__pow__" : Str) := by decide +kernel
end DL

namespace DL
open PySem PySem.Spec PyProof.Rows L2 LR
section
variable {X : Cx} {W : WX} {e tg : Expr} {u v : DTI} {K : PySem.W.Frag}
/-! a walk over what is a list or a tuple -/
def eith (b : Bool) (A B : Prop) : Prop := match b with | true => A | false => B
theorem eith_l {A B : Prop} (h : A) : ∃ b, eith b A B := ⟨true, h⟩
theorem eith_r {A B : Prop} (h : B) : ∃ b, eith b A B := ⟨false, h⟩
theorem pdi_or (ha : PDI X W tg e u) (hb : PDI X W tg e v) : PDI X W tg e (fun env Q ex => ∃ b, eith b (u env Q ex) (v env Q ex)) := by
  obtain ⟨ta, pa, la⟩ := ha.of
  obtain ⟨tb, pb, lb⟩ := hb.of
  refine ⟨_, PI.or pa pb, fun H0 G0 G H σ env Q ex R S L q g => ?_⟩
  obtain ⟨b, q⟩ := q
  cases b with
  | true => exact .inl (la H0 G0 G H σ env Q ex R S L q g)
  | false => exact .inr (lb H0 G0 G H σ env Q ex R S L q g)
end
end DL

namespace DL
open PySem PySem.Spec PyProof.Rows L2 LR
section
variable {X : Cx} {K : PySem.W.Frag}
/-! x[i] where x is a list or a tuple -/
theorem ix_or {r q : R2} (h : IxR X r) (g : IxR X q) : IxR X (fun x y H Q => r x y H Q ∨ q x y H Q) := by
  intro ve se pins s σ H x y v u Q I r1 r2 z op
  rcases z with z | z
  · exact h ve se pins s σ H x y v u Q I r1 r2 z op
  · exact g ve se pins s σ H x y v u Q I r1 r2 z op
def itemsD : D → List D
  | .lst l => l | .tup l => l | _ => []
def dIxQ : R2D := fun a b Q => ∃ k x, b = .int k ∧ atI (itemsD a) k = some x ∧ Q x
theorem l_ixQ : L2R K (fun x y H Q => rIxL K x y H Q ∨ rIxT K x y H Q) dIxQ := fun G H x y a b Q R s r1 r2 ⟨k, z, e2, h, q⟩ g => by
  cases a with
  | lst l => exact .inl (l_ixL G H x y _ b Q R s r1 r2 ⟨l, k, z, rfl, e2, h, q⟩ g)
  | tup l => exact .inr (l_ixT G H x y _ b Q R s r1 r2 ⟨l, k, z, rfl, e2, h, q⟩ g)
  | _ => exact absurd h (by
      show ¬ atI [] k = some z
      intro h
      simp [atI] at h)
end
end DL

namespace K08
open PySem PySem.Spec PyProof.Rows L2 LR DL
def top (i : Nat) : Stmt := PySem.Challenge.pw_lastrows_k08_poly_ring.main.body.getD i (.Pass ⟨0, 0, 0, 0⟩)
abbrev s_ZeroBottom_init : Stmt := inClass (top 4) 0
abbrev s_Empty_init : Stmt := inClass (top 7) 0
abbrev s_ZeroPoly_init : Stmt := inClass (top 11) 0
abbrev s_Ratio_init : Stmt := inClass (top 14) 0
abbrev s_Ratio_mul : Stmt := inClass (top 14) 3
abbrev s_Ratio_eq : Stmt := inClass (top 14) 6
abbrev s_common_divisor : Stmt := top 17
abbrev s_common_bottom : Stmt := top 18
abbrev s_over_one_bottom : Stmt := top 19
abbrev s_is_factor : Stmt := top 20
abbrev s_as_ratio : Stmt := top 21
abbrev s_Vector_init : Stmt := inClass (top 23) 0
abbrev s_Vector_eq : Stmt := inClass (top 23) 9
abbrev s_Poly_init : Stmt := inClass (top 33) 0
abbrev s_Poly_len : Stmt := inClass (top 33) 1
abbrev s_Poly_getitem : Stmt := inClass (top 33) 2
abbrev s_Poly_add : Stmt := inClass (top 33) 4
abbrev s_Poly_sub : Stmt := inClass (top 33) 5
abbrev s_Poly_neg : Stmt := inClass (top 33) 6
abbrev s_Poly_mul : Stmt := inClass (top 33) 7
abbrev s_Poly_rmul : Stmt := inClass (top 33) 8
abbrev s_Poly_floordiv : Stmt := inClass (top 33) 9
abbrev s_Poly_pow : Stmt := inClass (top 33) 10
abbrev s_Poly_eq : Stmt := inClass (top 33) 11
abbrev s_Poly_remainder : Stmt := inClass (top 33) 14
abbrev s_Poly_monic : Stmt := inClass (top 33) 16
abbrev s_Poly_degree : Stmt := inClass (top 33) 17
abbrev s_Poly_is_zero : Stmt := inClass (top 33) 18
abbrev s_Poly_x : Stmt := inClass (top 33) 19
abbrev s_Poly_constant : Stmt := inClass (top 33) 20
abbrev s_Poly_of : Stmt := inClass (top 33) 21
abbrev s_padded : Stmt := top 34
abbrev s_product : Stmt := top 35
abbrev s_division : Stmt := top 37
abbrev s_law_cell : Stmt := top 39
abbrev s_law_mix : Stmt := top 40
abbrev s_law_draws : Stmt := top 41
abbrev s_law_small : Stmt := top 42
abbrev s_law_is_integer : Stmt := top 43
abbrev s_law_gcd : Stmt := top 44
abbrev s_law_low : Stmt := top 45
abbrev s_law_ratio : Stmt := top 46
abbrev s_law_ratio_of : Stmt := top 47
abbrev s_law_integers : Stmt := top 48
abbrev s_law_poly_of : Stmt := top 49
abbrev s_law_trim : Stmt := top 50
abbrev s_law_drawn : Stmt := top 51
abbrev s_law_great : Stmt := top 52
abbrev s_law_sum : Stmt := top 53
abbrev s_law_product : Stmt := top 54
abbrev s_law_told : Stmt := top 55
abbrev s_law_made : Stmt := top 56
abbrev s_law_fields : Stmt := top 57
abbrev s_law_ring_kept : Stmt := top 58
abbrev s_law_multiples : Stmt := top 59
abbrev s_law_division : Stmt := top 60
abbrev s_law_barred : Stmt := top 61
abbrev s_law_no_bottom : Stmt := top 62
abbrev s_law_statics : Stmt := top 63
abbrev s_law_equalities : Stmt := top 64
abbrev s_law : Stmt := top 65
theorem sc_ZeroBottom_init : FnScope ["self"] ["self"] (defScope s_ZeroBottom_init) := ⟨rfl, rfl, rfl, by decide +kernel, rfl, by decide +kernel, by decide +kernel⟩
theorem sc_Empty_init : FnScope ["self"] ["self"] (defScope s_Empty_init) := ⟨rfl, rfl, rfl, by decide +kernel, rfl, by decide +kernel, by decide +kernel⟩
theorem sc_ZeroPoly_init : FnScope ["self"] ["self"] (defScope s_ZeroPoly_init) := ⟨rfl, rfl, rfl, by decide +kernel, rfl, by decide +kernel, by decide +kernel⟩
theorem sc_Ratio_init : FnScope ["self", "top", "bottom", "divisor"] ["self", "top", "bottom"] (defScope s_Ratio_init) := ⟨rfl, rfl, rfl, by decide +kernel, rfl, by decide +kernel, by decide +kernel⟩
theorem sc_Ratio_mul : FnScope ["self", "other"] ["self", "other"] (defScope s_Ratio_mul) := ⟨rfl, rfl, rfl, by decide +kernel, rfl, by decide +kernel, by decide +kernel⟩
theorem sc_Ratio_eq : FnScope ["self", "other"] ["self", "other"] (defScope s_Ratio_eq) := ⟨rfl, rfl, rfl, by decide +kernel, rfl, by decide +kernel, by decide +kernel⟩
theorem sc_common_divisor : FnScope ["tops", "bottom", "found", "top"] ["tops", "bottom"] (defScope s_common_divisor) := ⟨rfl, rfl, rfl, by decide +kernel, rfl, by decide +kernel, by decide +kernel⟩
theorem sc_common_bottom : FnScope ["bottoms", "found", "bottom"] ["bottoms"] (defScope s_common_bottom) := ⟨rfl, rfl, rfl, by decide +kernel, rfl, by decide +kernel, by decide +kernel⟩
theorem sc_over_one_bottom : FnScope ["ratios", "bottom", "ratio"] ["ratios"] (defScope s_over_one_bottom) := ⟨rfl, rfl, rfl, by decide +kernel, rfl, by decide +kernel, by decide +kernel⟩
theorem sc_is_factor : FnScope ["thing"] ["thing"] (defScope s_is_factor) := ⟨rfl, rfl, rfl, by decide +kernel, rfl, by decide +kernel, by decide +kernel⟩
theorem sc_as_ratio : FnScope ["factor"] ["factor"] (defScope s_as_ratio) := ⟨rfl, rfl, rfl, by decide +kernel, rfl, by decide +kernel, by decide +kernel⟩
theorem sc_Vector_init : FnScope ["self", "tops", "bottom", "divisor", "top"] ["self", "tops", "bottom"] (defScope s_Vector_init) := ⟨rfl, rfl, rfl, by decide +kernel, rfl, by decide +kernel, by decide +kernel⟩
theorem sc_Vector_eq : FnScope ["self", "other"] ["self", "other"] (defScope s_Vector_eq) := ⟨rfl, rfl, rfl, by decide +kernel, rfl, by decide +kernel, by decide +kernel⟩
theorem sc_Poly_init : FnScope ["self", "tops", "bottom", "count", "divisor", "top"] ["self", "tops", "bottom"] (defScope s_Poly_init) := ⟨rfl, rfl, rfl, by decide +kernel, rfl, by decide +kernel, by decide +kernel⟩
theorem sc_Poly_len : FnScope ["self"] ["self"] (defScope s_Poly_len) := ⟨rfl, rfl, rfl, by decide +kernel, rfl, by decide +kernel, by decide +kernel⟩
theorem sc_Poly_getitem : FnScope ["self", "at"] ["self", "at"] (defScope s_Poly_getitem) := ⟨rfl, rfl, rfl, by decide +kernel, rfl, by decide +kernel, by decide +kernel⟩
theorem sc_Poly_add : FnScope ["self", "other", "many", "left", "right", "tops", "one", "two"] ["self", "other"] (defScope s_Poly_add) := ⟨rfl, rfl, rfl, by decide +kernel, rfl, by decide +kernel, by decide +kernel⟩
theorem sc_Poly_sub : FnScope ["self", "other"] ["self", "other"] (defScope s_Poly_sub) := ⟨rfl, rfl, rfl, by decide +kernel, rfl, by decide +kernel, by decide +kernel⟩
theorem sc_Poly_neg : FnScope ["self"] ["self"] (defScope s_Poly_neg) := ⟨rfl, rfl, rfl, by decide +kernel, rfl, by decide +kernel, by decide +kernel⟩
theorem sc_Poly_mul : FnScope ["self", "other", "factor", "top"] ["self", "other"] (defScope s_Poly_mul) := ⟨rfl, rfl, rfl, by decide +kernel, rfl, by decide +kernel, by decide +kernel⟩
theorem sc_Poly_rmul : FnScope ["self", "other"] ["self", "other"] (defScope s_Poly_rmul) := ⟨rfl, rfl, rfl, by decide +kernel, rfl, by decide +kernel, by decide +kernel⟩
theorem sc_Poly_floordiv : FnScope ["self", "other", "quotient", "_"] ["self", "other"] (defScope s_Poly_floordiv) := ⟨rfl, rfl, rfl, by decide +kernel, rfl, by decide +kernel, by decide +kernel⟩
theorem sc_Poly_pow : FnScope ["self", "other", "power", "_"] ["self", "other"] (defScope s_Poly_pow) := ⟨rfl, rfl, rfl, by decide +kernel, rfl, by decide +kernel, by decide +kernel⟩
theorem sc_Poly_eq : FnScope ["self", "other"] ["self", "other"] (defScope s_Poly_eq) := ⟨rfl, rfl, rfl, by decide +kernel, rfl, by decide +kernel, by decide +kernel⟩
theorem sc_Poly_remainder : FnScope ["self", "other", "_", "rest"] ["self", "other"] (defScope s_Poly_remainder) := ⟨rfl, rfl, rfl, by decide +kernel, rfl, by decide +kernel, by decide +kernel⟩
theorem sc_Poly_monic : FnScope ["self"] ["self"] (defScope s_Poly_monic) := ⟨rfl, rfl, rfl, by decide +kernel, rfl, by decide +kernel, by decide +kernel⟩
theorem sc_Poly_degree : FnScope ["self"] ["self"] (defScope s_Poly_degree) := ⟨rfl, rfl, rfl, by decide +kernel, rfl, by decide +kernel, by decide +kernel⟩
theorem sc_Poly_is_zero : FnScope ["self"] ["self"] (defScope s_Poly_is_zero) := ⟨rfl, rfl, rfl, by decide +kernel, rfl, by decide +kernel, by decide +kernel⟩
theorem sc_Poly_x : FnScope [] [] (defScope s_Poly_x) := ⟨rfl, rfl, rfl, by decide +kernel, rfl, by decide +kernel, by decide +kernel⟩
theorem sc_Poly_constant : FnScope ["ratio"] ["ratio"] (defScope s_Poly_constant) := ⟨rfl, rfl, rfl, by decide +kernel, rfl, by decide +kernel, by decide +kernel⟩
theorem sc_Poly_of : FnScope ["ratios", "tops", "bottom"] ["ratios"] (defScope s_Poly_of) := ⟨rfl, rfl, rfl, by decide +kernel, rfl, by decide +kernel, by decide +kernel⟩
theorem sc_padded : FnScope ["tops", "many"] ["tops", "many"] (defScope s_padded) := ⟨rfl, rfl, rfl, by decide +kernel, rfl, by decide +kernel, by decide +kernel⟩
theorem sc_product : FnScope ["left", "right", "tops", "i", "one", "j", "two"] ["left", "right"] (defScope s_product) := ⟨rfl, rfl, rfl, by decide +kernel, rfl, by decide +kernel, by decide +kernel⟩
theorem sc_division : FnScope ["p", "q", "lead", "many", "factor", "_", "rest", "top", "shares", "shift", "share", "k", "bottom"] ["p", "q"] (defScope s_division) := ⟨rfl, rfl, rfl, by decide +kernel, rfl, by decide +kernel, by decide +kernel⟩
theorem sc_law_cell : FnScope ["script", "k", "total", "cell"] ["script", "k"] (defScope s_law_cell) := ⟨rfl, rfl, rfl, by decide +kernel, rfl, by decide +kernel, by decide +kernel⟩
theorem sc_law_mix : FnScope ["cell", "k", "at", "x"] ["cell", "k", "at"] (defScope s_law_mix) := ⟨rfl, rfl, rfl, by decide +kernel, rfl, by decide +kernel, by decide +kernel⟩
theorem sc_law_draws : FnScope ["script", "k", "many", "cell", "digits", "out", "at"] ["script", "k", "many"] (defScope s_law_draws) := ⟨rfl, rfl, rfl, by decide +kernel, rfl, by decide +kernel, by decide +kernel⟩
theorem sc_law_small : FnScope ["d"] ["d"] (defScope s_law_small) := ⟨rfl, rfl, rfl, by decide +kernel, rfl, by decide +kernel, by decide +kernel⟩
theorem sc_law_is_integer : FnScope ["x"] ["x"] (defScope s_law_is_integer) := ⟨rfl, rfl, rfl, by decide +kernel, rfl, by decide +kernel, by decide +kernel⟩
theorem sc_law_gcd : FnScope ["a", "b", "turns"] ["a", "b"] (defScope s_law_gcd) := ⟨rfl, rfl, rfl, by decide +kernel, rfl, by decide +kernel, by decide +kernel⟩
theorem sc_law_low : FnScope ["tops", "bottom", "part", "top"] ["tops", "bottom"] (defScope s_law_low) := ⟨rfl, rfl, rfl, by decide +kernel, rfl, by decide +kernel, by decide +kernel⟩
theorem sc_law_ratio : FnScope ["top", "bottom", "part"] ["top", "bottom"] (defScope s_law_ratio) := ⟨rfl, rfl, rfl, by decide +kernel, rfl, by decide +kernel, by decide +kernel⟩
theorem sc_law_ratio_of : FnScope ["x"] ["x"] (defScope s_law_ratio_of) := ⟨rfl, rfl, rfl, by decide +kernel, rfl, by decide +kernel, by decide +kernel⟩
theorem sc_law_integers : FnScope ["xs", "x"] ["xs"] (defScope s_law_integers) := ⟨rfl, rfl, rfl, by decide +kernel, rfl, by decide +kernel, by decide +kernel⟩
theorem sc_law_poly_of : FnScope ["p"] ["p"] (defScope s_law_poly_of) := ⟨rfl, rfl, rfl, by decide +kernel, rfl, by decide +kernel, by decide +kernel⟩
theorem sc_law_trim : FnScope ["tops", "bottom", "rest", "turns"] ["tops", "bottom"] (defScope s_law_trim) := ⟨rfl, rfl, rfl, by decide +kernel, rfl, by decide +kernel, by decide +kernel⟩
theorem sc_law_drawn : FnScope ["draws", "count", "factor", "bottom", "tops", "d", "k"] ["draws"] (defScope s_law_drawn) := ⟨rfl, rfl, rfl, by decide +kernel, rfl, by decide +kernel, by decide +kernel⟩
theorem sc_law_great : FnScope ["script", "k", "count", "tops", "at"] ["script", "k", "count"] (defScope s_law_great) := ⟨rfl, rfl, rfl, by decide +kernel, rfl, by decide +kernel, by decide +kernel⟩
theorem sc_law_sum : FnScope ["p", "q", "factor", "tops", "k", "top"] ["p", "q", "factor"] (defScope s_law_sum) := ⟨rfl, rfl, rfl, by decide +kernel, rfl, by decide +kernel, by decide +kernel⟩
theorem sc_law_product : FnScope ["p", "q", "tops", "k", "i", "j"] ["p", "q"] (defScope s_law_product) := ⟨rfl, rfl, rfl, by decide +kernel, rfl, by decide +kernel, by decide +kernel⟩
theorem sc_law_told : FnScope ["x", "due", "told"] ["x", "due"] (defScope s_law_told) := ⟨rfl, rfl, rfl, by decide +kernel, rfl, by decide +kernel, by decide +kernel⟩
theorem sc_law_made : FnScope ["raw", "handed", "made"] ["raw"] (defScope s_law_made) := ⟨rfl, rfl, rfl, by decide +kernel, rfl, by decide +kernel, by decide +kernel⟩
theorem sc_law_fields : FnScope ["p", "a", "size", "k", "got", "top"] ["p", "a"] (defScope s_law_fields) := ⟨rfl, rfl, rfl, by decide +kernel, rfl, by decide +kernel, by decide +kernel⟩
theorem sc_law_ring_kept : FnScope ["p", "q", "a", "b", "top", "both", "square", "seven"] ["p", "q", "a", "b"] (defScope s_law_ring_kept) := ⟨rfl, rfl, rfl, by decide +kernel, rfl, by decide +kernel, by decide +kernel⟩
theorem sc_law_multiples : FnScope ["p", "a", "r", "number", "due", "top"] ["p", "a", "r", "number"] (defScope s_law_multiples) := ⟨rfl, rfl, rfl, by decide +kernel, rfl, by decide +kernel, by decide +kernel⟩
theorem sc_law_division : FnScope ["p", "q", "a", "b", "quotient", "rest", "back"] ["p", "q", "a", "b"] (defScope s_law_division) := ⟨rfl, rfl, rfl, by decide +kernel, rfl, by decide +kernel, by decide +kernel⟩
theorem sc_law_barred : FnScope ["p", "zero", "first", "second", "third", "told", "e"] ["p", "zero"] (defScope s_law_barred) := ⟨rfl, rfl, rfl, by decide +kernel, rfl, by decide +kernel, by decide +kernel⟩
theorem sc_law_no_bottom : FnScope ["tops", "handed", "seen", "told", "e"] ["tops"] (defScope s_law_no_bottom) := ⟨rfl, rfl, rfl, by decide +kernel, rfl, by decide +kernel, by decide +kernel⟩
theorem sc_law_statics : FnScope ["draws", "ratios", "own", "k", "top", "bottom", "at", "count", "made"] ["draws"] (defScope s_law_statics) := ⟨rfl, rfl, rfl, by decide +kernel, rfl, by decide +kernel, by decide +kernel⟩
theorem sc_law_equalities : FnScope ["p", "q", "a", "b", "same", "unlike", "twin", "v"] ["p", "q", "a", "b"] (defScope s_law_equalities) := ⟨rfl, rfl, rfl, by decide +kernel, rfl, by decide +kernel, by decide +kernel⟩
theorem sc_law : FnScope ["script", "menu", "kind", "second", "k", "first", "a", "b", "p", "q", "r", "zero"] ["script"] (defScope s_law) := ⟨rfl, rfl, rfl, by decide +kernel, rfl, by decide +kernel, by decide +kernel⟩
abbrev d_ZeroBottom_init : Df := ⟨(fun K => He.ma K (He.ga K "ZeroBottom") "__init__"), "__init__", "ZeroBottom.__init__", defArgs s_ZeroBottom_init, defBody s_ZeroBottom_init, defScope s_ZeroBottom_init, []⟩
abbrev d_Empty_init : Df := ⟨(fun K => He.ma K (He.ga K "Empty") "__init__"), "__init__", "Empty.__init__", defArgs s_Empty_init, defBody s_Empty_init, defScope s_Empty_init, []⟩
abbrev d_ZeroPoly_init : Df := ⟨(fun K => He.ma K (He.ga K "ZeroPoly") "__init__"), "__init__", "ZeroPoly.__init__", defArgs s_ZeroPoly_init, defBody s_ZeroPoly_init, defScope s_ZeroPoly_init, []⟩
abbrev d_Ratio_init : Df := ⟨(fun K => He.ma K (He.ga K "Ratio") "__init__"), "__init__", "Ratio.__init__", defArgs s_Ratio_init, defBody s_Ratio_init, defScope s_Ratio_init, [.int 1]⟩
abbrev d_Ratio_mul : Df := ⟨(fun K => He.ma K (He.ga K "Ratio") "__mul__"), "__mul__", "Ratio.__mul__", defArgs s_Ratio_mul, defBody s_Ratio_mul, defScope s_Ratio_mul, []⟩
abbrev d_Ratio_eq : Df := ⟨(fun K => He.ma K (He.ga K "Ratio") "__eq__"), "__eq__", "Ratio.__eq__", defArgs s_Ratio_eq, defBody s_Ratio_eq, defScope s_Ratio_eq, []⟩
abbrev d_common_divisor : Df := ⟨(fun K => He.ga K "common_divisor"), "common_divisor", "common_divisor", defArgs s_common_divisor, defBody s_common_divisor, defScope s_common_divisor, []⟩
abbrev d_common_bottom : Df := ⟨(fun K => He.ga K "common_bottom"), "common_bottom", "common_bottom", defArgs s_common_bottom, defBody s_common_bottom, defScope s_common_bottom, []⟩
abbrev d_over_one_bottom : Df := ⟨(fun K => He.ga K "over_one_bottom"), "over_one_bottom", "over_one_bottom", defArgs s_over_one_bottom, defBody s_over_one_bottom, defScope s_over_one_bottom, []⟩
abbrev d_is_factor : Df := ⟨(fun K => He.ga K "is_factor"), "is_factor", "is_factor", defArgs s_is_factor, defBody s_is_factor, defScope s_is_factor, []⟩
abbrev d_as_ratio : Df := ⟨(fun K => He.ga K "as_ratio"), "as_ratio", "as_ratio", defArgs s_as_ratio, defBody s_as_ratio, defScope s_as_ratio, []⟩
abbrev d_Vector_init : Df := ⟨(fun K => He.ma K (He.ga K "Vector") "__init__"), "__init__", "Vector.__init__", defArgs s_Vector_init, defBody s_Vector_init, defScope s_Vector_init, [.int 1]⟩
abbrev d_Vector_eq : Df := ⟨(fun K => He.ma K (He.ga K "Vector") "__eq__"), "__eq__", "Vector.__eq__", defArgs s_Vector_eq, defBody s_Vector_eq, defScope s_Vector_eq, []⟩
abbrev d_Poly_init : Df := ⟨(fun K => He.ma K (He.ga K "Poly") "__init__"), "__init__", "Poly.__init__", defArgs s_Poly_init, defBody s_Poly_init, defScope s_Poly_init, [.int 1]⟩
abbrev d_Poly_len : Df := ⟨(fun K => He.ma K (He.ga K "Poly") "__len__"), "__len__", "Poly.__len__", defArgs s_Poly_len, defBody s_Poly_len, defScope s_Poly_len, []⟩
abbrev d_Poly_getitem : Df := ⟨(fun K => He.ma K (He.ga K "Poly") "__getitem__"), "__getitem__", "Poly.__getitem__", defArgs s_Poly_getitem, defBody s_Poly_getitem, defScope s_Poly_getitem, []⟩
abbrev d_Poly_add : Df := ⟨(fun K => He.ma K (He.ga K "Poly") "__add__"), "__add__", "Poly.__add__", defArgs s_Poly_add, defBody s_Poly_add, defScope s_Poly_add, []⟩
abbrev d_Poly_sub : Df := ⟨(fun K => He.ma K (He.ga K "Poly") "__sub__"), "__sub__", "Poly.__sub__", defArgs s_Poly_sub, defBody s_Poly_sub, defScope s_Poly_sub, []⟩
abbrev d_Poly_neg : Df := ⟨(fun K => He.ma K (He.ga K "Poly") "__neg__"), "__neg__", "Poly.__neg__", defArgs s_Poly_neg, defBody s_Poly_neg, defScope s_Poly_neg, []⟩
abbrev d_Poly_mul : Df := ⟨(fun K => He.ma K (He.ga K "Poly") "__mul__"), "__mul__", "Poly.__mul__", defArgs s_Poly_mul, defBody s_Poly_mul, defScope s_Poly_mul, []⟩
abbrev d_Poly_rmul : Df := ⟨(fun K => He.ma K (He.ga K "Poly") "__rmul__"), "__rmul__", "Poly.__rmul__", defArgs s_Poly_rmul, defBody s_Poly_rmul, defScope s_Poly_rmul, []⟩
abbrev d_Poly_floordiv : Df := ⟨(fun K => He.ma K (He.ga K "Poly") "__floordiv__"), "__floordiv__", "Poly.__floordiv__", defArgs s_Poly_floordiv, defBody s_Poly_floordiv, defScope s_Poly_floordiv, []⟩
abbrev d_Poly_pow : Df := ⟨(fun K => He.ma K (He.ga K "Poly") "__pow__"), "__pow__", "Poly.__pow__", defArgs s_Poly_pow, defBody s_Poly_pow, defScope s_Poly_pow, []⟩
abbrev d_Poly_eq : Df := ⟨(fun K => He.ma K (He.ga K "Poly") "__eq__"), "__eq__", "Poly.__eq__", defArgs s_Poly_eq, defBody s_Poly_eq, defScope s_Poly_eq, []⟩
abbrev d_Poly_remainder : Df := ⟨(fun K => He.ma K (He.ga K "Poly") "remainder"), "remainder", "Poly.remainder", defArgs s_Poly_remainder, defBody s_Poly_remainder, defScope s_Poly_remainder, []⟩
abbrev d_Poly_monic : Df := ⟨(fun K => He.ma K (He.ga K "Poly") "monic"), "monic", "Poly.monic", defArgs s_Poly_monic, defBody s_Poly_monic, defScope s_Poly_monic, []⟩
abbrev d_Poly_degree : Df := ⟨(fun K => prGet K "Poly" "degree"), "degree", "Poly.degree", defArgs s_Poly_degree, defBody s_Poly_degree, defScope s_Poly_degree, []⟩
abbrev d_Poly_is_zero : Df := ⟨(fun K => prGet K "Poly" "is_zero"), "is_zero", "Poly.is_zero", defArgs s_Poly_is_zero, defBody s_Poly_is_zero, defScope s_Poly_is_zero, []⟩
abbrev d_Poly_x : Df := ⟨(fun K => smF K "Poly" "x"), "x", "Poly.x", defArgs s_Poly_x, defBody s_Poly_x, defScope s_Poly_x, []⟩
abbrev d_Poly_constant : Df := ⟨(fun K => smF K "Poly" "constant"), "constant", "Poly.constant", defArgs s_Poly_constant, defBody s_Poly_constant, defScope s_Poly_constant, []⟩
abbrev d_Poly_of : Df := ⟨(fun K => smF K "Poly" "of"), "of", "Poly.of", defArgs s_Poly_of, defBody s_Poly_of, defScope s_Poly_of, []⟩
abbrev d_padded : Df := ⟨(fun K => He.ga K "_padded"), "_padded", "_padded", defArgs s_padded, defBody s_padded, defScope s_padded, []⟩
abbrev d_product : Df := ⟨(fun K => He.ga K "_product"), "_product", "_product", defArgs s_product, defBody s_product, defScope s_product, []⟩
abbrev d_division : Df := ⟨(fun K => He.ga K "_division"), "_division", "_division", defArgs s_division, defBody s_division, defScope s_division, []⟩
abbrev d_law_cell : Df := ⟨(fun K => He.ga K "_law_cell"), "_law_cell", "_law_cell", defArgs s_law_cell, defBody s_law_cell, defScope s_law_cell, []⟩
abbrev d_law_mix : Df := ⟨(fun K => He.ga K "_law_mix"), "_law_mix", "_law_mix", defArgs s_law_mix, defBody s_law_mix, defScope s_law_mix, []⟩
abbrev d_law_draws : Df := ⟨(fun K => He.ga K "_law_draws"), "_law_draws", "_law_draws", defArgs s_law_draws, defBody s_law_draws, defScope s_law_draws, []⟩
abbrev d_law_small : Df := ⟨(fun K => He.ga K "_law_small"), "_law_small", "_law_small", defArgs s_law_small, defBody s_law_small, defScope s_law_small, []⟩
abbrev d_law_is_integer : Df := ⟨(fun K => He.ga K "_law_is_integer"), "_law_is_integer", "_law_is_integer", defArgs s_law_is_integer, defBody s_law_is_integer, defScope s_law_is_integer, []⟩
abbrev d_law_gcd : Df := ⟨(fun K => He.ga K "_law_gcd"), "_law_gcd", "_law_gcd", defArgs s_law_gcd, defBody s_law_gcd, defScope s_law_gcd, []⟩
abbrev d_law_low : Df := ⟨(fun K => He.ga K "_law_low"), "_law_low", "_law_low", defArgs s_law_low, defBody s_law_low, defScope s_law_low, []⟩
abbrev d_law_ratio : Df := ⟨(fun K => He.ga K "_law_ratio"), "_law_ratio", "_law_ratio", defArgs s_law_ratio, defBody s_law_ratio, defScope s_law_ratio, []⟩
abbrev d_law_ratio_of : Df := ⟨(fun K => He.ga K "_law_ratio_of"), "_law_ratio_of", "_law_ratio_of", defArgs s_law_ratio_of, defBody s_law_ratio_of, defScope s_law_ratio_of, []⟩
abbrev d_law_integers : Df := ⟨(fun K => He.ga K "_law_integers"), "_law_integers", "_law_integers", defArgs s_law_integers, defBody s_law_integers, defScope s_law_integers, []⟩
abbrev d_law_poly_of : Df := ⟨(fun K => He.ga K "_law_poly_of"), "_law_poly_of", "_law_poly_of", defArgs s_law_poly_of, defBody s_law_poly_of, defScope s_law_poly_of, []⟩
abbrev d_law_trim : Df := ⟨(fun K => He.ga K "_law_trim"), "_law_trim", "_law_trim", defArgs s_law_trim, defBody s_law_trim, defScope s_law_trim, []⟩
abbrev d_law_drawn : Df := ⟨(fun K => He.ga K "_law_drawn"), "_law_drawn", "_law_drawn", defArgs s_law_drawn, defBody s_law_drawn, defScope s_law_drawn, []⟩
abbrev d_law_great : Df := ⟨(fun K => He.ga K "_law_great"), "_law_great", "_law_great", defArgs s_law_great, defBody s_law_great, defScope s_law_great, []⟩
abbrev d_law_sum : Df := ⟨(fun K => He.ga K "_law_sum"), "_law_sum", "_law_sum", defArgs s_law_sum, defBody s_law_sum, defScope s_law_sum, []⟩
abbrev d_law_product : Df := ⟨(fun K => He.ga K "_law_product"), "_law_product", "_law_product", defArgs s_law_product, defBody s_law_product, defScope s_law_product, []⟩
abbrev d_law_told : Df := ⟨(fun K => He.ga K "_law_told"), "_law_told", "_law_told", defArgs s_law_told, defBody s_law_told, defScope s_law_told, []⟩
abbrev d_law_made : Df := ⟨(fun K => He.ga K "_law_made"), "_law_made", "_law_made", defArgs s_law_made, defBody s_law_made, defScope s_law_made, []⟩
abbrev d_law_fields : Df := ⟨(fun K => He.ga K "_law_fields"), "_law_fields", "_law_fields", defArgs s_law_fields, defBody s_law_fields, defScope s_law_fields, []⟩
abbrev d_law_ring_kept : Df := ⟨(fun K => He.ga K "_law_ring_kept"), "_law_ring_kept", "_law_ring_kept", defArgs s_law_ring_kept, defBody s_law_ring_kept, defScope s_law_ring_kept, []⟩
abbrev d_law_multiples : Df := ⟨(fun K => He.ga K "_law_multiples"), "_law_multiples", "_law_multiples", defArgs s_law_multiples, defBody s_law_multiples, defScope s_law_multiples, []⟩
abbrev d_law_division : Df := ⟨(fun K => He.ga K "_law_division"), "_law_division", "_law_division", defArgs s_law_division, defBody s_law_division, defScope s_law_division, []⟩
abbrev d_law_barred : Df := ⟨(fun K => He.ga K "_law_barred"), "_law_barred", "_law_barred", defArgs s_law_barred, defBody s_law_barred, defScope s_law_barred, []⟩
abbrev d_law_no_bottom : Df := ⟨(fun K => He.ga K "_law_no_bottom"), "_law_no_bottom", "_law_no_bottom", defArgs s_law_no_bottom, defBody s_law_no_bottom, defScope s_law_no_bottom, []⟩
abbrev d_law_statics : Df := ⟨(fun K => He.ga K "_law_statics"), "_law_statics", "_law_statics", defArgs s_law_statics, defBody s_law_statics, defScope s_law_statics, []⟩
abbrev d_law_equalities : Df := ⟨(fun K => He.ga K "_law_equalities"), "_law_equalities", "_law_equalities", defArgs s_law_equalities, defBody s_law_equalities, defScope s_law_equalities, []⟩
abbrev d_law : Df := ⟨(fun K => He.ga K "law"), "law", "law", defArgs s_law, defBody s_law, defScope s_law, []⟩
def fnL : List Df := (([d_ZeroBottom_init, d_Empty_init, d_ZeroPoly_init, d_Ratio_init, d_Ratio_mul, d_Ratio_eq, d_common_divisor, d_common_bottom, d_over_one_bottom, d_is_factor, d_as_ratio, d_Vector_init, d_Vector_eq, d_Poly_init, d_Poly_len, d_Poly_getitem, d_Poly_add, d_Poly_sub, d_Poly_neg, d_Poly_mul, d_Poly_rmul, d_Poly_floordiv, d_Poly_pow, d_Poly_eq, d_Poly_remainder] : List Df) ++ ([d_Poly_monic, d_Poly_degree, d_Poly_is_zero, d_Poly_x, d_Poly_constant, d_Poly_of, d_padded, d_product, d_division, d_law_cell, d_law_mix, d_law_draws, d_law_small, d_law_is_integer, d_law_gcd, d_law_low, d_law_ratio, d_law_ratio_of, d_law_integers, d_law_poly_of, d_law_trim, d_law_drawn, d_law_great, d_law_sum, d_law_product] : List Df) ++ ([d_law_told, d_law_made, d_law_fields, d_law_ring_kept, d_law_multiples, d_law_division, d_law_barred, d_law_no_bottom, d_law_statics, d_law_equalities, d_law] : List Df))
def LL : Ls where
  gl := ((["LastrowsError", "ZeroBottom", "BadNumber", "BadText", "Empty", "RaggedRows", "SizeMismatch", "NotSquare", "ZeroPoly", "Ratio", "Vector", "Matrix", "Poly", "common_divisor", "common_bottom", "over_one_bottom", "is_factor", "as_ratio", "_padded", "_product", "_division", "_law_cell", "_law_mix", "_law_draws", "_law_small"] : List Str) ++ (["_law_is_integer", "_law_gcd", "_law_low", "_law_ratio", "_law_ratio_of", "_law_integers", "_law_poly_of", "_law_trim", "_law_drawn", "_law_great", "_law_sum", "_law_product", "_law_told", "_law_made", "_law_fields", "_law_ring_kept", "_law_multiples", "_law_division", "_law_barred", "_law_no_bottom", "_law_statics", "_law_equalities", "law"] : List Str))
  fr := ["NotImplemented", "len", "abs", "int", "bool", "str", "range", "isinstance", "list", "tuple", "zip", "enumerate", "sum", "max", "any", "ValueError"]
  cl := ["Ratio", "Vector", "Matrix", "Poly"]
  ex := ((["Empty", "ZeroBottom", "ZeroPoly"] : List Str))
  me := (([("Ratio", "__init__"), ("Ratio", "__mul__"), ("Ratio", "__eq__"), ("Vector", "__init__"), ("Vector", "__eq__"), ("Poly", "__init__"), ("Poly", "__len__"), ("Poly", "__getitem__"), ("Poly", "__add__"), ("Poly", "__sub__"), ("Poly", "__neg__"), ("Poly", "__mul__"), ("Poly", "__rmul__"), ("Poly", "__floordiv__"), ("Poly", "__pow__"), ("Poly", "__eq__"), ("Poly", "remainder"), ("Poly", "monic")] : List (Str × Str)))
  no := (([("Ratio", "top"), ("Ratio", "bottom"), ("Vector", "tops"), ("Vector", "bottom"), ("Matrix", "tops"), ("Matrix", "bottom"), ("Matrix", "height"), ("Matrix", "width"), ("Poly", "tops"), ("Poly", "bottom"), ("Empty", "word"), ("ZeroBottom", "word"), ("ZeroPoly", "word")] : List (Str × Str)))
  bl := [("gcd", "math.gcd"), ("lcm", "math.lcm")]
  kit := []
  kie := (([("ZeroPoly", "LastrowsError", true), ("ZeroPoly", "ZeroBottom", false), ("ZeroPoly", "ZeroPoly", true), ("ZeroPoly", "Empty", false), ("ZeroBottom", "LastrowsError", true), ("ZeroBottom", "ZeroPoly", false)] : List (Str × Str × Bool)))
  kiv := (([("ZeroPoly", "ValueError", true), ("ZeroBottom", "ValueError", true)] : List (Str × String × Bool)))
  pr := (([("Poly", "degree"), ("Poly", "is_zero")] : List (Str × Str)))
  nf := []
  fn := fnL
def cs : List Nat := [0, 1, 2, 3]
theorem cs_cl : ∀ c ∈ cs, cname c ∈ LL.cl := by decide +kernel
def sms : List (Str × Str) := [("Poly", "constant"), ("Poly", "of"), ("Poly", "x")]
def cis : List (Str × Int) := [("_MOST_DIGITS", 400)]
def mxs : List (String × List Nat) := [("add", [3]), ("sub", [3]), ("mul", [0, 3]), ("floordiv", [3]), ("pow", [3])]
def exs : List (Str × Str) := [("ZeroPoly", "LastrowsError")]
theorem fk_Ratio_top : (shape 0)[0]? = some ("top" : Str) ∧ (shape 0).Nodup := ⟨rfl, by decide +kernel⟩
theorem fk_Ratio_bottom : (shape 0)[1]? = some ("bottom" : Str) ∧ (shape 0).Nodup := ⟨rfl, by decide +kernel⟩
theorem dd_Ratio : ∀ K H, Reps K H [.int 1] [.int 1] := fun _ _ => .one (.int 1)
theorem fk_Vector_tops : (shape 1)[0]? = some ("tops" : Str) ∧ (shape 1).Nodup := ⟨rfl, by decide +kernel⟩
theorem fk_Vector_bottom : (shape 1)[1]? = some ("bottom" : Str) ∧ (shape 1).Nodup := ⟨rfl, by decide +kernel⟩
theorem dd_Vector : ∀ K H, Reps K H [.int 1] [.int 1] := fun _ _ => .one (.int 1)
theorem fk_Matrix_tops : (shape 2)[0]? = some ("tops" : Str) ∧ (shape 2).Nodup := ⟨rfl, by decide +kernel⟩
theorem fk_Matrix_bottom : (shape 2)[1]? = some ("bottom" : Str) ∧ (shape 2).Nodup := ⟨rfl, by decide +kernel⟩
theorem fk_Matrix_height : (shape 2)[2]? = some ("height" : Str) ∧ (shape 2).Nodup := ⟨rfl, by decide +kernel⟩
theorem fk_Matrix_width : (shape 2)[3]? = some ("width" : Str) ∧ (shape 2).Nodup := ⟨rfl, by decide +kernel⟩
theorem dd_Matrix : ∀ K H, Reps K H [.int 1] [.int 1] := fun _ _ => .one (.int 1)
theorem fk_Poly_tops : (shape 3)[0]? = some ("tops" : Str) ∧ (shape 3).Nodup := ⟨rfl, by decide +kernel⟩
theorem fk_Poly_bottom : (shape 3)[1]? = some ("bottom" : Str) ∧ (shape 3).Nodup := ⟨rfl, by decide +kernel⟩
theorem dd_Poly : ∀ K H, Reps K H [.int 1] [.int 1] := fun _ _ => .one (.int 1)
theorem nm_Ratio___init__ : ("__init__" : Str) ∉ shape 0 := by decide +kernel
theorem nm_Ratio___mul__ : ("__mul__" : Str) ∉ shape 0 := by decide +kernel
theorem nm_Ratio___eq__ : ("__eq__" : Str) ∉ shape 0 := by decide +kernel
theorem nm_Vector___init__ : ("__init__" : Str) ∉ shape 1 := by decide +kernel
theorem nm_Vector___eq__ : ("__eq__" : Str) ∉ shape 1 := by decide +kernel
theorem nm_Poly___init__ : ("__init__" : Str) ∉ shape 3 := by decide +kernel
theorem nm_Poly___len__ : ("__len__" : Str) ∉ shape 3 := by decide +kernel
theorem nm_Poly___getitem__ : ("__getitem__" : Str) ∉ shape 3 := by decide +kernel
theorem nm_Poly___add__ : ("__add__" : Str) ∉ shape 3 := by decide +kernel
theorem nm_Poly___sub__ : ("__sub__" : Str) ∉ shape 3 := by decide +kernel
theorem nm_Poly___neg__ : ("__neg__" : Str) ∉ shape 3 := by decide +kernel
theorem nm_Poly___mul__ : ("__mul__" : Str) ∉ shape 3 := by decide +kernel
theorem nm_Poly___rmul__ : ("__rmul__" : Str) ∉ shape 3 := by decide +kernel
theorem nm_Poly___floordiv__ : ("__floordiv__" : Str) ∉ shape 3 := by decide +kernel
theorem nm_Poly___pow__ : ("__pow__" : Str) ∉ shape 3 := by decide +kernel
theorem nm_Poly___eq__ : ("__eq__" : Str) ∉ shape 3 := by decide +kernel
theorem nm_Poly_remainder : ("remainder" : Str) ∉ shape 3 := by decide +kernel
theorem nm_Poly_monic : ("monic" : Str) ∉ shape 3 := by decide +kernel
end K08

namespace K08
open PySem PySem.Spec PyProof.Rows L2 LR DL

abbrev HRow : PySem.W.OpenRow := PySem.W.OpenLaw.row PySem.Challenge.rw_lastrows_k08_poly_ring
def ads : List Addr := (([1115, 1114, 1110, 1109, 1103, 1102, 1098, 1097, 1091, 1090, 1084, 1083, 1077, 1076, 1072, 1071, 1067, 1066, 1060, 1059, 1053, 1052, 1046, 1045, 1041, 1040, 1034, 1033, 1029, 1028, 1024, 1023, 1017, 1016, 1010, 1009, 1003, 1002, 996, 995, 989, 988, 984, 983, 977, 976, 970, 969, 963, 962] : List Addr) ++ ([956, 955, 949, 948, 942, 941, 930, 929, 923, 922, 912, 911, 900, 898, 897, 890, 888, 887, 880, 878, 877, 871, 870, 869, 863, 862, 861, 855, 854, 841, 840, 822, 821, 815, 814, 808, 807, 801, 800, 794, 793, 789, 788, 782, 781, 775, 774, 763, 762, 756] : List Addr) ++ ([755, 749, 748, 744, 706, 705, 539, 510, 509, 449, 448, 392, 391, 387, 379, 378, 372, 371, 365, 364, 360, 359, 353, 352, 328, 327, 278, 277, 257, 256, 236, 235, 229, 219, 218, 216, 215, 200, 181, 162, 143, 142, 140, 139, 124, 105, 86, 85, 83, 82] : List Addr) ++ ([66, 65, 3, 2] : List Addr))
def mo : PySem.W.Frag → Bool := fun K => mo3B cs sms cis mxs exs K
abbrev hk : PySem.W.Hook := hookA ads LL mo
def ob (s : PySem.W.SharedT) : AlL × Bool := LL.obsA ads mo (HandSHeadRun.getT s)
theorem ob_eq (s : PySem.W.SharedT) : ob s = hk.obs s.abs := Ls.obsA_eq (HandSHeadRun.getT_eq s)
def looseL : List Str := ((["gcd", "lcm", "_wall", "LastrowsError", "ZeroBottom", "BadNumber", "BadText", "Empty", "RaggedRows", "SizeMismatch", "NotSquare", "ZeroPoly", "_MOST_DIGITS", "Ratio", "_is_long", "_is_number", "common_divisor", "common_bottom", "over_one_bottom", "is_factor", "as_ratio", "Vector", "sum_of_products", "_check_lengths", "Matrix"] : List Str) ++ (["from_rows", "check_square", "check_sizes", "_check_rows", "Poly", "_padded", "_product", "_value", "_division", "_law_cell", "_law_mix", "_law_draws", "_law_small", "_law_is_integer", "_law_gcd", "_law_low", "_law_ratio", "_law_ratio_of", "_law_integers", "_law_poly_of", "_law_trim", "_law_drawn", "_law_great", "_law_sum", "_law_product"] : List Str) ++ (["_law_told", "_law_made", "_law_fields", "_law_ring_kept", "_law_multiples", "_law_division", "_law_barred", "_law_no_bottom", "_law_statics", "_law_equalities"] : List Str))
theorem run (w : World) : HandSHeadRun.RunEqI HRow (PySem.W.view HRow.prog [65]) hk ob 10000 looseL w := by
  unfold HandSHeadRun.RunEqI
  kernel_rfl
end K08

namespace DL
open PySem PySem.Spec PyProof.Rows L2 LR
theorem trim_snoc0 : ∀ us : List Int, trim (us ++ [0]) = trim us
  | [] => rfl
  | t :: us => by
    have ih := trim_snoc0 us
    cases e : trim us with
    | nil => rw [List.cons_append, trim_nil (ih.trans e), trim_nil e]
    | cons a r => rw [List.cons_append, trim_cons (ih.trans e), trim_cons e]
theorem trim_snoc {z : Int} (hz : z ≠ 0) : ∀ us : List Int, trim (us ++ [z]) = us ++ [z]
  | [] => by
    show trim [z] = [z]
    rw [trim_nil (ts := []) rfl, if_neg hz]
  | t :: us => by
    have ih := trim_snoc hz us
    obtain ⟨a, r, e⟩ : ∃ a r, us ++ [z] = a :: r := by cases us with
      | nil => exact ⟨_, _, rfl⟩
      | cons a r => exact ⟨_, _, rfl⟩
    rw [List.cons_append, trim_cons (ih.trans e), e]
theorem take_snoc {ts : List Int} {m : Nat} {z : Int} (h : ts[m]? = some z) : ts.take (m + 1) = ts.take m ++ [z] := by
  rw [List.take_succ, h]
  rfl
theorem trim_take0 {ts : List Int} {m : Nat} (h : ts[m]? = some 0) : trim (ts.take (m + 1)) = trim (ts.take m) := by
  rw [take_snoc h]
  exact trim_snoc0 _
theorem trim_take {ts : List Int} {m : Nat} {z : Int} (h : ts[m]? = some z) (hz : z ≠ 0) : trim (ts.take (m + 1)) = ts.take (m + 1) := by
  rw [take_snoc h]
  exact trim_snoc hz _
theorem trim_mem : ∀ (ts : List Int), (trim ts).length ≤ ts.length ∧ ∀ t ∈ trim ts, t ∈ ts
  | [] => ⟨Nat.le_refl _, fun t h => h⟩
  | t :: ts => by
    obtain ⟨h1, h2⟩ := trim_mem ts
    cases e : trim ts with
    | nil =>
      rw [trim_nil e]
      by_cases ht : t = 0
      · rw [if_pos ht]
        exact ⟨Nat.zero_le _, fun z hz => by cases hz⟩
      · rw [if_neg ht]
        exact ⟨by simp, fun z hz => by
          rw [List.mem_singleton.mp hz]
          exact List.mem_cons_self⟩
    | cons a r =>
      rw [e] at h1 h2
      rw [trim_cons e]
      refine ⟨by simpa using h1, fun z hz => ?_⟩
      rcases List.mem_cons.mp hz with rfl | hz
      · exact List.mem_cons_self
      · exact List.mem_cons_of_mem _ (h2 z hz)
theorem trim_self {us : List Int} (h : ∀ n, us.length = n + 1 → cf us n ≠ 0) : trim us = us := by
  rcases List.eq_nil_or_concat us with rfl | ⟨vs, z, e⟩
  · rfl
  · rw [List.concat_eq_append] at e
    subst e
    have := h vs.length (by simp)
    rw [cf_at (t := z) (by simp)] at this
    exact trim_snoc this vs
/-! a polynomial in its own form, its numbers below 2 ^ n -/
structure Pol (n : Nat) (ts : List Int) (b : Int) : Prop where
  len : ts.length ≤ 1000
  pos : 0 < b
  cop : cg ts b = 1
  nz : trim ts = ts
  bd : Bd n ts
  sb : b.natAbs < 2 ^ n
theorem Pol.gs {n : Nat} {ts : List Int} {b : Int} (v : Pol n ts b) : LR.gs ts b = 1 := by
  unfold LR.gs
  rw [if_pos v.pos, v.cop]
  rfl
theorem Pol.low {n : Nat} {ts : List Int} {b : Int} (v : Pol n ts b) : pT ts b = ts ∧ pB ts b = b := by
  unfold pT pB lT lB
  rw [v.nz, v.gs]
  exact ⟨by rw [List.map_congr_left (g := id) (fun t _ => Int.fdiv_one t), List.map_id], Int.fdiv_one b⟩
theorem Pol.up {n m : Nat} {ts : List Int} {b : Int} (h : Pol n ts b) (k : n ≤ m) : Pol m ts b := ⟨h.len, h.pos, h.cop, h.nz, h.bd.up k, abs_up h.sb k⟩
theorem Pol.ne {n : Nat} {ts : List Int} {b : Int} (h : Pol n ts b) : b ≠ 0 := Int.ne_of_gt h.pos
theorem Pol.last {n : Nat} {ts : List Int} {b : Int} (h : Pol n ts b) {k : Nat} (e : ts.length = k + 1) : cf ts k ≠ 0 := by
  have := trim_last ts k (by rw [h.nz]; exact e)
  rw [h.nz] at this
  exact this
theorem pT_len (ts : List Int) (b : Int) : (pT ts b).length ≤ ts.length := by
  unfold pT
  rw [low_len]
  exact (trim_mem ts).1
theorem pol_of {n : Nat} {ts : List Int} {b : Int} (h : b ≠ 0) (hl : ts.length ≤ 1000) (ht : Bd n ts) (hs : b.natAbs < 2 ^ n) : Pol n (pT ts b) (pB ts b) :=
  ⟨Nat.le_trans (pT_len ts b) hl, lB_pos h, low_cop h, trim_self fun k e z => by
    have e1 : (trim ts).length = k + 1 := by rw [← e]; unfold pT; rw [low_len]
    have h1 := poly_cf ts h k
    rw [z, Int.mul_zero] at h1
    have h2 := trim_last ts k e1
    rw [trim_cf] at h2
    exact (Int.mul_ne_zero (Int.ne_of_gt (lB_pos h)) h2) h1.symm, low_bd fun t m => ht t ((trim_mem ts).2 t m), Nat.lt_of_le_of_lt (Int.natAbs_fdiv_le_natAbs _ _) hs⟩
/-! lists by their coefficients -/
theorem cf_range (N : Nat) (F : Cf) : cf ((List.range N).map F) = fun k => if k < N then F k else 0 := by
  funext k
  by_cases h : k < N
  · rw [if_pos h]
    exact cf_at (by rw [List.getElem?_map, List.getElem?_range h]; rfl)
  · rw [if_neg h]
    exact cf_ge (by simp; omega)
theorem range_is {us : List Int} {N : Nat} {F : Cf} (hl : us.length = N) (h : ∀ (i : Nat) u, us[i]? = some u → u = F i) : us = (List.range N).map F := by
  refine List.ext_getElem? fun i => ?_
  rw [List.getElem?_map]
  by_cases hi : i < N
  · rw [List.getElem?_range hi, List.getElem?_eq_getElem (by omega)]
    exact congrArg some (h i _ (List.getElem?_eq_getElem (by omega)))
  · rw [List.getElem?_eq_none (by omega), List.getElem?_eq_none (by simp; omega)]
    rfl
def mono (z : Int) (i : Nat) : Cf := fun k => if k = i then z else 0
theorem cf_take {ts : List Int} {i : Nat} {z : Int} (h : ts[i]? = some z) : cf (ts.take (i + 1)) = ad (cf (ts.take i)) (mono z i) := by
  funext k
  have hi := (List.getElem?_eq_some_iff.mp h).1
  show _ = cf (ts.take i) k + (if k = i then z else 0)
  rcases Nat.lt_trichotomy k i with h1 | h1 | h1
  · have e := List.getElem?_eq_getElem (l := ts) (i := k) (by omega)
    rw [if_neg (by omega), cf_at (t := ts[k]) (by rw [List.getElem?_take_of_lt (by omega)]; exact e), cf_at (t := ts[k]) (by rw [List.getElem?_take_of_lt h1]; exact e)]
    exact (Int.add_zero _).symm
  · subst h1
    rw [if_pos rfl, cf_ge (ts := ts.take k) (by rw [List.length_take]; omega), cf_at (t := z) (by rw [List.getElem?_take_of_lt (by omega)]; exact h)]
    exact (Int.zero_add _).symm
  · rw [if_neg (by omega), cf_ge (by rw [List.length_take]; omega), cf_ge (by rw [List.length_take]; omega)]
    rfl
theorem cv_mono : ∀ (k i : Nat) (z : Int) (h : Cf), cv (mono z i) h k = if k < i then 0 else z * h (k - i)
  | 0, 0, z, h => rfl
  | 0, i + 1, z, h => by
    show (0 : Int) * h 0 = _
    rw [Int.zero_mul, if_pos (Nat.succ_pos _)]
  | k + 1, 0, z, h => by
    have z1 : ∀ i, tl (mono z 0) i = 0 := fun i => (if_neg (Nat.succ_ne_zero i) : (if i + 1 = 0 then z else 0) = 0)
    show z * h (k + 1) + cv (tl (mono z 0)) h k = _
    rw [cv_zero k (tl (mono z 0)) h z1]
    exact Int.add_zero _
  | k + 1, i + 1, z, h => by
    have e : tl (mono z (i + 1)) = mono z i := by
      funext j
      show (if j + 1 = i + 1 then z else 0) = if j = i then z else 0
      by_cases hj : j = i
      · rw [if_pos hj, if_pos (by omega)]
      · rw [if_neg hj, if_neg (by omega)]
    show (0 : Int) * h (k + 1) + cv (tl (mono z (i + 1))) h k = _
    rw [e, cv_mono k i, Int.zero_mul, Int.zero_add, Nat.add_sub_add_right]
    by_cases hk : k < i
    · rw [if_pos hk, if_pos (by omega)]
    · rw [if_neg hk, if_neg (by omega)]
theorem cv_sup : ∀ (k n m : Nat) (f h : Cf), (∀ i, n ≤ i → f i = 0) → (∀ i, m ≤ i → h i = 0) → n + m ≤ k + 1 → cv f h k = 0
  | 0, n, m, f, h, hf, hh, e => by
    show f 0 * h 0 = 0
    rcases Nat.eq_zero_or_pos n with e1 | e1
    · rw [hf 0 (by omega), Int.zero_mul]
    · rw [hh 0 (by omega), Int.mul_zero]
  | k + 1, n, m, f, h, hf, hh, e => by
    rcases Nat.eq_zero_or_pos n with e1 | e1
    · exact cv_zero _ f h fun i => hf i (by omega)
    · show f 0 * h (k + 1) + cv (tl f) h k = 0
      rw [hh (k + 1) (by omega), Int.mul_zero, cv_sup k (n - 1) m (tl f) h (fun i hi => hf (i + 1) (by omega)) hh (by omega)]
      rfl
theorem cv_abs : ∀ (k : Nat) (f h : Cf) (a b : Nat), (∀ i, (f i).natAbs ≤ a) → (∀ i, (h i).natAbs ≤ b) → (cv f h k).natAbs ≤ (k + 1) * (a * b)
  | 0, f, h, a, b, hf, hh => by
    show (f 0 * h 0).natAbs ≤ _
    rw [Int.natAbs_mul, Nat.zero_add, Nat.one_mul]
    exact Nat.mul_le_mul (hf 0) (hh 0)
  | k + 1, f, h, a, b, hf, hh => by
    show (f 0 * h (k + 1) + cv (tl f) h k).natAbs ≤ _
    have h1 := cv_abs k (tl f) h a b (fun i => hf (i + 1)) hh
    have h2 : (f 0 * h (k + 1)).natAbs ≤ a * b := by rw [Int.natAbs_mul]; exact Nat.mul_le_mul (hf 0) (hh _)
    have h3 := Int.natAbs_add_le (f 0 * h (k + 1)) (cv (tl f) h k)
    rw [Nat.succ_mul (k + 1)]
    omega
theorem cf_bd {n : Nat} {ts : List Int} (h : Bd n ts) (k : Nat) : (cf ts k).natAbs < 2 ^ n := by
  cases e : ts[k]? with
  | none =>
    rw [cf_ge (List.getElem?_eq_none_iff.mp e)]
    exact Nat.two_pow_pos n
  | some t =>
    rw [cf_at e]
    exact h t (List.mem_of_getElem? e)
theorem cv_bd {n m k : Nat} {f h : Cf} (hf : ∀ i, (f i).natAbs < 2 ^ n) (hh : ∀ i, (h i).natAbs < 2 ^ m) (hk : k < 4096) : (cv f h k).natAbs < 2 ^ (n + m + 12) := by
  have p1 : 0 < 2 ^ n := Nat.two_pow_pos n
  have p2 : 0 < 2 ^ m := Nat.two_pow_pos m
  have h1 := cv_abs k f h (2 ^ n - 1) (2 ^ m - 1) (fun i => Nat.le_sub_one_of_lt (hf i)) (fun i => Nat.le_sub_one_of_lt (hh i))
  have h2 : (2 ^ n - 1) * (2 ^ m - 1) < 2 ^ n * 2 ^ m := Nat.mul_lt_mul'' (by omega) (by omega)
  have h3 : (k + 1) * ((2 ^ n - 1) * (2 ^ m - 1)) ≤ 4096 * ((2 ^ n - 1) * (2 ^ m - 1)) := Nat.mul_le_mul_right _ (by omega)
  rw [Nat.pow_add, Nat.pow_add]
  omega
/-- the product's numbers -/
def prodT (ts us : List Int) : List Int := (List.range (ts.length + us.length - 1)).map (cv (cf ts) (cf us))
theorem cf_prod (ts us : List Int) : cf (prodT ts us) = cv (cf ts) (cf us) := by
  unfold prodT
  rw [cf_range]
  funext k
  by_cases h : k < ts.length + us.length - 1
  · exact if_pos h
  · rw [if_neg h]
    exact (cv_sup k ts.length us.length _ _ (fun i hi => cf_ge hi) (fun i hi => cf_ge hi) (by omega)).symm
theorem prod_bd {n m : Nat} {ts us : List Int} (h1 : Bd n ts) (h2 : Bd m us) (l1 : ts.length ≤ 1000) (l2 : us.length ≤ 1000) : Bd (n + m + 12) (prodT ts us) := fun t ht => by
  obtain ⟨k, hk, rfl⟩ := List.mem_map.mp ht
  exact cv_bd (fun i => cf_bd h1 i) (fun i => cf_bd h2 i) (by have := List.mem_range.mp hk; omega)
theorem prod_len (ts us : List Int) : (prodT ts us).length = ts.length + us.length - 1 := by unfold prodT; simp

/-! cut, law's list forms -/
theorem cut_take {α : Type} (f : α → D) (l : List α) {m : Nat} (hm : m ≤ l.length) (hs : m < 2 ^ 62) : cutD (l.map f) none (some (m : Int)) = (l.take m).map f := by
  have e0 : HT.sIx (l.map f).length 0 none = 0 := rfl
  have e1 : HT.sIx (l.map f).length (l.map f).length (some (m : Int)) = m := by
    rw [HT.sIx_nat, List.length_map]
    omega
  unfold cutD
  rw [e0, e1, List.drop_zero, Nat.sub_zero, ← List.map_take]
end DL

namespace K08
open PySem PySem.Spec PyProof.Rows L2 LR DL
section
variable {P : Program} {w : World} {K : PySem.W.Frag} {mg : Str → Option Value} {base : Heap}
local macro_rules | `(tactic| walk_at "side") => `(tactic| first | rfl | assumption | exact ⟨_, rfl⟩ | omega | exact mulL (by omega) (by omega) | exact mulR (by omega) (by omega) | exact mulF (by decide) (by decide) | exact ⟨by decide, by decide +kernel⟩ | decide | exact Nat.le_of_ble_eq_true rfl | (simp only [List.length_cons, List.length_nil, List.length_map, List.nil_append, List.cons_append, sizeLine_eq]; omega) | (simp only [List.map_cons, List.map_nil, List.nil_append, List.cons_append]; decide +kernel))
local macro_rules | `(tactic| walk_at "go") => `(tactic| repeat (first
  | refine ⟨_, rfl, ?_⟩
  | refine ⟨_, _, rfl, rfl, ?_⟩
  | refine ⟨_, _, rfl, ?_⟩
  | refine ⟨_, _, _, rfl, rfl, ?_⟩
  | refine ⟨_, _, _, rfl, ?_⟩
  | refine ⟨_, _, _, _, rfl, rfl, ?_⟩
  | refine ⟨_, _, _, _, rfl, ?_⟩
  | refine ⟨_, _, rfl, by assumption, ?_⟩
  | refine ⟨_, _, _, rfl, rfl, rfl, ?_⟩
  | refine ⟨_, _, _, rfl, rfl, by assumption, ?_⟩
  | refine ⟨_, _, _, rfl, rfl, by walk_at "side", by assumption, ?_⟩
  | refine ⟨_, _, _, rfl, rfl, by walk_at "side", rfl, ?_⟩
  | refine ⟨_, _, _, rfl, rfl, rfl, by assumption, ?_⟩
  | refine .inl ⟨_, rfl, ?_⟩
  | refine .inr ⟨_, rfl, ?_⟩
  | refine .inr (.inl ⟨_, rfl, ?_⟩)
  | refine .inr (.inr ⟨_, rfl, ?_⟩)
  | refine ⟨_, .inl rfl, ?_⟩
  | refine ⟨_, .inr rfl, ?_⟩
  | refine ⟨_, (by assumption : _ ∨ _), ?_⟩
  | refine .inr ⟨_, _, rfl, ?_⟩
  | refine .inl ⟨_, _, rfl, ?_⟩
  | refine And.intro (by walk_at "side") ?_))


def P_law_cell : Prm := fun ds Q _ => ∃ (ns : List Int) (k : Int), ds = [.lst (ns.map D.int), .int k] ∧ 0 ≤ k ∧ k ≤ 1000 ∧ ns.length ≤ 63 ∧ ∀ v : Int, 0 ≤ v → Q (.int v)
def P_law_mix : Prm := fun ds Q _ => ∃ (c k t : Int), ds = [.int c, .int k, .int t] ∧ 0 ≤ k ∧ k ≤ 1000 ∧ 0 ≤ t ∧ t ≤ 1000 ∧ ∀ v : Int, 0 ≤ v → v < 1024 → Q (.int v)
def P_law_draws : Prm := fun ds Q _ => ∃ (ns : List Int) (k m : Int), ds = [.lst (ns.map D.int), .int k, .int m] ∧ 0 ≤ k ∧ k ≤ 1000 ∧ 0 ≤ m ∧ m ≤ 1000 ∧ ns.length ≤ 63 ∧ ∀ zs : List Int, (zs.length : Int) = m → (∀ z ∈ zs, 0 ≤ z ∧ z < 1024) → Q (.lst (zs.map D.int))
def P_law_small : Prm := fun ds Q _ => ∃ d : Int, ds = [.int d] ∧ 0 ≤ d ∧ d < 1024 ∧ ∀ v : Int, -32 ≤ v → v ≤ 31 → Q (.int v)
def P_law_is_integer : Prm := fun ds Q _ => ∃ i : Int, ds = [.int i] ∧ Q (.bl true)
def P_law_gcd : Prm := fun ds Q _ => ∃ a b : Int, ds = [.int a, .int b] ∧ b.natAbs < 2 ^ 8999 ∧ Q (.int ((Nat.gcd b.natAbs a.natAbs : Nat) : Int))
def P_law_ratio : Prm := fun ds Q _ => ∃ t b : Int, ds = [.int t, .int b] ∧ b ≠ 0 ∧ b.natAbs < 2 ^ 8999 ∧ Q (.tup [.int (nT t b), .int (nB t b)])

theorem fn_law_cell (T : Txt LL K mg) (M : Mo3 cs sms cis mxs exs K mg) : Nonempty (Fn P w K mg base (d_law_cell.at_ K) 1 2 P_law_cell) := by
  refine Fn.of (T.d 34 (d := d_law_cell)) sc_law_cell rfl (fun _ _ _ _ _ _ us hl => match us, hl with | [_, _], _ => rfl) (fun ds Q ex h => ?_) (fun fd cdv A outer s H E hr => ⟨_, pdss_cons (pds_if (pdt_cmp op_lt l_B0 (pd_var (pv 1)) (pd_cb (fun h => pe_callB call_len (by rfl) (T.f "len") (by decide +kernel) h) l_len (pda_cons (pd_var (pv 0)) pda_nil)) (nomark _)) (pdss_one (pds_ret (pd_cb (fun h => pe_callB call_abs (by rfl) (T.f "abs") (by decide +kernel) h) l_abs (pda_cons (pd_ix ix_list l_ixL (pd_var (pv 0)) (pd_var (pv 1)) (fun _ _ => rfl)) pda_nil)))) pdss_nil) (pdss_cons (pds_set (i := 2) sc_law_cell.nd rfl (by first | exact Or.inl rfl | exact Or.inr rfl) (pd_int pe_int)) (pdss_cons (pds_for (passes_of rfl) rfl (pdi_list (pd_new (pdn_slL (pd_var (pv 0)) pdo_none (pdo_some (pd_int pe_int))))) (pdg_name (pg_name (i := 3) sc_law_cell.nd rfl (by first | exact Or.inl rfl | exact Or.inr rfl))) (pdss_one (pds_set (i := 2) sc_law_cell.nd rfl (by first | exact Or.inl rfl | exact Or.inr rfl) (pd_op op_modN l_I (pd_cb (fun h => pe_callTy call_int1 (by rfl) (T.f "int") (by decide +kernel) h) l_int (pda_cons (pd_op op_add l_I0 (pd_op op_mulZ l_I (pd_var (pv 2)) (pd_int pe_int)) (pd_op op_modN l_I (pd_cb (fun h => pe_callTy call_int1 (by rfl) (T.f "int") (by decide +kernel) h) l_int (pda_cons (pd_cb (fun h => pe_callB call_abs (by rfl) (T.f "abs") (by decide +kernel) h) l_abs (pda_cons (pd_var (pv 3)) pda_nil)) pda_nil)) (pd_int pe_int))) pda_nil)) (pd_int pe_int))))) (pdss_one (pds_ret (pd_op op_add l_I0 (pd_op op_add l_I0 (pd_op op_mulZ l_I (pd_var (pv 2)) (pd_int pe_int)) (pd_op op_mulZ l_I (pd_var (pv 1)) (pd_int pe_int))) (pd_int pe_int)))))), fun ds Q ex h => ?_⟩)
  · obtain ⟨ns, k, rfl, _⟩ := h
    rfl
  · obtain ⟨ns, k, rfl, h0, h1, hl, q⟩ := h
    walk_at "go"
    refine d_ite (fun c => ?_) (fun c => ?_)
    · have c' := of_decide_eq_true c
      simp only [List.length_map] at c'
      obtain ⟨z, _, _, hz⟩ := at_ex (l := ns) h0 c'
      walk_at "go"
      exact q _ (by omega)
    walk_at "go"
    obtain ⟨ms, em, _, _⟩ := cut_map D.int ns none (some 8)
    refine ⟨fun i env => ∃ (t : Int) (v : Sl), env = [.val (.lst (ns.map D.int)), .val (.int k), .val (.int t), v] ∧ 0 ≤ t ∧ t < 1000003, fun _ => ⟨5, _, rfl, by decide, by decide⟩, ?_, ?_⟩
    · rintro i x env hx ⟨t, v, rfl, t0, t1⟩
      rw [em] at hx
      obtain ⟨z, _, rfl⟩ := map_at hx
      walk_at "go"
      exact fun _ => ⟨_, _, rfl, fmod_lo _ (by decide), fmod_hi _ (by decide)⟩
    · rintro env ⟨t, v, rfl, t0, t1⟩
      walk_at "go"
      exact q _ (by omega)

theorem fn_law_mix (T : Txt LL K mg) (M : Mo3 cs sms cis mxs exs K mg) : Nonempty (Fn P w K mg base (d_law_mix.at_ K) 1 3 P_law_mix) := by
  refine Fn.of (T.d 35 (d := d_law_mix)) sc_law_mix rfl (fun _ _ _ _ _ _ us hl => match us, hl with | [_, _, _], _ => rfl) (fun ds Q ex h => ?_) (fun fd cdv A outer s H E hr => ⟨_, pdss_cons (pds_set (i := 3) sc_law_mix.nd rfl (by first | exact Or.inl rfl | exact Or.inr rfl) (pd_op op_modN l_I (pd_cb (fun h => pe_callTy call_int1 (by rfl) (T.f "int") (by decide +kernel) h) l_int (pda_cons (pd_op op_add l_I0 (pd_op op_add l_I0 (pd_op op_add l_I0 (pd_op op_mulZ l_I (pd_var (pv 0)) (pd_int pe_int)) (pd_op op_mulZ l_I (pd_var (pv 1)) (pd_int pe_int))) (pd_op op_mulZ l_I (pd_var (pv 2)) (pd_int pe_int))) (pd_int pe_int)) pda_nil)) (pd_int pe_int))) (pdss_cons (pds_set (i := 3) sc_law_mix.nd rfl (by first | exact Or.inl rfl | exact Or.inr rfl) (pd_op op_modN l_I (pd_cb (fun h => pe_callTy call_int1 (by rfl) (T.f "int") (by decide +kernel) h) l_int (pda_cons (pd_op op_add l_I0 (pd_op op_add l_I0 (pd_op op_mulZ l_I (pd_var (pv 3)) (pd_var (pv 3))) (pd_op op_mulZ l_I (pd_var (pv 2)) (pd_int pe_int))) (pd_int pe_int)) pda_nil)) (pd_int pe_int))) (pdss_cons (pds_set (i := 3) sc_law_mix.nd rfl (by first | exact Or.inl rfl | exact Or.inr rfl) (pd_op op_modN l_I (pd_cb (fun h => pe_callTy call_int1 (by rfl) (T.f "int") (by decide +kernel) h) l_int (pda_cons (pd_op op_add l_I0 (pd_op op_add l_I0 (pd_op op_mulZ l_I (pd_var (pv 3)) (pd_var (pv 3))) (pd_op op_mulZ l_I (pd_var (pv 1)) (pd_int pe_int))) (pd_int pe_int)) pda_nil)) (pd_int pe_int))) (pdss_one (pds_ret (pd_op op_modN l_I (pd_cb (fun h => pe_callTy call_int1 (by rfl) (T.f "int") (by decide +kernel) h) l_int (pda_cons (pd_var (pv 3)) pda_nil)) (pd_int pe_int)))))), fun ds Q ex h => ?_⟩)
  · obtain ⟨c, k, t, rfl, _⟩ := h
    rfl
  · obtain ⟨c, k, t, rfl, k0, k1, t0, t1, q⟩ := h
    walk_at "go"
    exact q _ (fmod_lo _ (by decide)) (fmod_hi _ (by decide))

theorem fn_law_draws (T : Txt LL K mg) (M : Mo3 cs sms cis mxs exs K mg) : Nonempty (Fn P w K mg base (d_law_draws.at_ K) 2 3 P_law_draws) := by
  obtain ⟨F_law_cell⟩ := fn_law_cell (P := P) (w := w) (base := base) T M
  obtain ⟨F_law_mix⟩ := fn_law_mix (P := P) (w := w) (base := base) T M
  refine Fn.of (T.d 36 (d := d_law_draws)) sc_law_draws rfl (fun _ _ _ _ _ _ us hl => match us, hl with | [_, _, _], _ => rfl) (fun ds Q ex h => ?_) (fun fd cdv A outer s H E hr => ⟨_, pdss_cons (pds_set (i := 3) sc_law_draws.nd rfl (by first | exact Or.inl rfl | exact Or.inr rfl) (pd_call F_law_cell (hr.mono (by decide)) (by rfl) (T.g "_law_cell") (T.k "_law_cell") (takes_of rfl rfl rfl rfl) (pda_cons (pd_var (pv 0)) (pda_cons (pd_var (pv 1)) pda_nil)))) (pdss_cons (pds_set (i := 4) sc_law_draws.nd rfl (by first | exact Or.inl rfl | exact Or.inr rfl) (pd_cmp op_ge l_B0 (pd_var (pv 3)) (pd_op op_powZ l_I (pd_int pe_int) (pd_int pe_int)) (nomark _))) (pdss_cons (pds_setN (i := 5) sc_law_draws.nd rfl (by first | exact Or.inl rfl | exact Or.inr rfl) (pdn_lst pda_nil)) (pdss_cons (pds_for (passes_of rfl) rfl (pdi_range1 rfl (T.f "range") (pda_cons (pd_var (pv 2)) pda_nil)) (pdg_name (pg_name (i := 6) sc_law_draws.nd rfl (by first | exact Or.inl rfl | exact Or.inr rfl))) (pdss_one (pds_if (PDW.pt (pdw_and (pdt_val (pd_var (pv 4))) (pdw_and1 (pdt_cmp op_gt l_B0 (pd_var (pv 3)) (pd_int pe_int) (nomark _))))) (pdss_cons (pds_app (i := 5) (te := id) (p1 := ⟨0, 0, 0, 0⟩) (p2 := ⟨0, 0, 0, 0⟩) (p3 := ⟨0, 0, 0, 0⟩) (x := "") (fun h => pe_bm PySem.F.plainAttrs_list PySem.F.slot_list_append PySem.F.type_list_append mt_append (pv 5) (pa_cons h pa_nil)) (pd_op op_modN l_I (pd_cb (fun h => pe_callTy call_int1 (by rfl) (T.f "int") (by decide +kernel) h) l_int (pda_cons (pd_var (pv 3)) pda_nil)) (pd_int pe_int))) (pdss_one (pds_set (i := 3) sc_law_draws.nd rfl (by first | exact Or.inl rfl | exact Or.inr rfl) (pd_op op_fdivZ l_I (pd_var (pv 3)) (pd_int pe_int))))) (pdss_one (pds_app (i := 5) (te := id) (p1 := ⟨0, 0, 0, 0⟩) (p2 := ⟨0, 0, 0, 0⟩) (p3 := ⟨0, 0, 0, 0⟩) (x := "") (fun h => pe_bm PySem.F.plainAttrs_list PySem.F.slot_list_append PySem.F.type_list_append mt_append (pv 5) (pa_cons h pa_nil)) (pd_call F_law_mix (hr.mono (by decide)) (by rfl) (T.g "_law_mix") (T.k "_law_mix") (takes_of rfl rfl rfl rfl) (pda_cons (pd_var (pv 3)) (pda_cons (pd_var (pv 1)) (pda_cons (pd_var (pv 6)) pda_nil))))))))) (pdss_frz 5 (pdss_one (pds_ret (pd_var (pv 5)))))))), fun ds Q ex h => ?_⟩)
  · obtain ⟨ns, k, m, rfl, _⟩ := h
    rfl
  · obtain ⟨ns, k, m, rfl, k0, k1, m0, m1, hl, q⟩ := h
    walk_at "go"
    intro v v0
    walk_at "go"
    refine ⟨fun i env => ∃ (c : Int) (zs : List Int) (dg : Bool) (u : Sl), env = [.val (.lst (ns.map D.int)), .val (.int k), .val (.int m), .val (.int c), .val (.bl dg), .own (zs.map D.int), u] ∧ zs.length = i ∧ ∀ z ∈ zs, 0 ≤ z ∧ z < 1024, fun _ => ⟨v, [], _, _, rfl, rfl, fun z hz => by cases hz⟩, ?_, ?_⟩
    · rintro i x env hx ⟨c, zs, dg, u, rfl, hz, hb⟩
      obtain ⟨hi, rfl⟩ := rng_at hx
      have ne : ∀ (z : Int), 0 ≤ z → z < 1024 → ∀ d ∈ zs ++ [z], 0 ≤ d ∧ d < 1024 := fun z z0 z1 d hd => by
        rcases List.mem_append.mp hd with e | e
        · exact hb d e
        · rw [List.mem_singleton.mp e]
          exact ⟨z0, z1⟩
      have hlen : (zs.map D.int).length < sizeLine := by rw [List.length_map]; exact sz100 (by omega)
      have app : ∀ z : Int, zs.map D.int ++ [D.int z] = (zs ++ [z]).map D.int := fun z => by rw [List.map_append]; rfl
      have cnt : ∀ z : Int, (zs ++ [z]).length = i + 1 := fun z => by rw [List.length_append, hz]; rfl
      walk_at "go"
      refine d_ite (fun e => ?_) (fun e => ?_)
      · walk_at "go"
        refine d_ite (fun e => ?_) (fun e => ?_)
        · walk_at "go"
          exact fun _ => ⟨_, zs ++ [_], dg, _, by rw [← app]; rfl, cnt _, ne _ (fmod_lo _ (by decide)) (fmod_hi _ (by decide))⟩
        · walk_at "go"
          intro v v0 v1
          walk_at "go"
          exact fun _ => ⟨_, zs ++ [v], dg, _, by rw [← app]; rfl, cnt _, ne _ v0 v1⟩
      · walk_at "go"
        intro v v0 v1
        walk_at "go"
        exact fun _ => ⟨_, zs ++ [v], dg, _, by rw [← app]; rfl, cnt _, ne _ v0 v1⟩
    · rintro env ⟨c, zs, dg, u, rfl, hz, hb⟩
      rw [rng_len] at hz
      walk_at "go"
      exact q zs (by omega) hb

theorem fn_law_small (T : Txt LL K mg) (M : Mo3 cs sms cis mxs exs K mg) : Nonempty (Fn P w K mg base (d_law_small.at_ K) 1 1 P_law_small) := by
  refine Fn.of (T.d 37 (d := d_law_small)) sc_law_small rfl (fun _ _ _ _ _ _ us hl => match us, hl with | [_], _ => rfl) (fun ds Q ex h => ?_) (fun fd cdv A outer s H E hr => ⟨_, pdss_cons (pds_if (pdt_cmp op_eq l_eq (pd_op op_modN l_I (pd_cb (fun h => pe_callTy call_int1 (by rfl) (T.f "int") (by decide +kernel) h) l_int (pda_cons (pd_var (pv 0)) pda_nil)) (pd_int pe_int)) (pd_int pe_int) (nomark _)) (pdss_one (pds_ret (pd_op op_sub l_I0 (pd_op op_modN l_I (pd_cb (fun h => pe_callTy call_int1 (by rfl) (T.f "int") (by decide +kernel) h) l_int (pda_cons (pd_op op_fdivZ l_I (pd_var (pv 0)) (pd_int pe_int)) pda_nil)) (pd_int pe_int)) (pd_int pe_int)))) pdss_nil) (pdss_one (pds_ret (pd_op op_sub l_I0 (pd_op op_modN l_I (pd_cb (fun h => pe_callTy call_int1 (by rfl) (T.f "int") (by decide +kernel) h) l_int (pda_cons (pd_var (pv 0)) pda_nil)) (pd_int pe_int)) (pd_int pe_int)))), fun ds Q ex h => ?_⟩)
  · obtain ⟨d, rfl, _⟩ := h
    rfl
  · obtain ⟨d, rfl, d0, d1, q⟩ := h
    walk_at "go"
    refine d_ite (fun c => ?_) (fun c => ?_)
    · walk_at "go"
      have a1 := fmod_lo (d.fdiv 16) (j := 64) (by decide)
      have a2 := fmod_hi (d.fdiv 16) (j := 64) (by decide)
      exact q _ (by omega) (by omega)
    · walk_at "go"
      have a1 := fmod_lo d (j := 7) (by decide)
      have a2 := fmod_hi d (j := 7) (by decide)
      exact q _ (by omega) (by omega)

theorem fn_law_is_integer (T : Txt LL K mg) (M : Mo3 cs sms cis mxs exs K mg) : Nonempty (Fn P w K mg base (d_law_is_integer.at_ K) 1 1 P_law_is_integer) := by
  refine Fn.of (T.d 38 (d := d_law_is_integer)) sc_law_is_integer rfl (fun _ _ _ _ _ _ us hl => match us, hl with | [_], _ => rfl) (fun ds Q ex h => ?_) (fun fd cdv A outer s H E hr => ⟨_, pdss_one (pds_ret (pd_and (pd_isi (cr := .int) M.isi M.cls (fun c h => nomatch h) (fun h => pe_callB call_isi (by rfl) (T.f "isinstance") (by decide +kernel) (pa_cons h (pa_cons (pe_bltn (v := .ty "int") (by rfl) (T.f "int") (by decide +kernel) rfl) pa_nil))) (pd_var (pv 0))) (pd_one (pd_not (pd_isi (cr := .bool) M.isi M.cls (fun c h => nomatch h) (fun h => pe_callB call_isi (by rfl) (T.f "isinstance") (by decide +kernel) (pa_cons h (pa_cons (pe_bltn (v := .ty "bool") (by rfl) (T.f "bool") (by decide +kernel) rfl) pa_nil))) (pd_var (pv 0))))))), fun ds Q ex h => ?_⟩)
  · obtain ⟨i, rfl, _⟩ := h
    rfl
  · obtain ⟨i, rfl, q⟩ := h
    walk_at "go"
    exact q

theorem fn_law_gcd (T : Txt LL K mg) (M : Mo3 cs sms cis mxs exs K mg) : Nonempty (Fn P w K mg base (d_law_gcd.at_ K) 1 2 P_law_gcd) := by
  refine Fn.of (T.d 39 (d := d_law_gcd)) sc_law_gcd rfl (fun _ _ _ _ _ _ us hl => match us, hl with | [_, _], _ => rfl) (fun ds Q ex h => ?_) (fun fd cdv A outer s H E hr => ⟨_, pdss_cons (pds_set (i := 0) sc_law_gcd.nd rfl (by first | exact Or.inl rfl | exact Or.inr rfl) (pd_cb (fun h => pe_callB call_abs (by rfl) (T.f "abs") (by decide +kernel) h) l_abs (pda_cons (pd_var (pv 0)) pda_nil))) (pdss_cons (pds_set (i := 1) sc_law_gcd.nd rfl (by first | exact Or.inl rfl | exact Or.inr rfl) (pd_cb (fun h => pe_callB call_abs (by rfl) (T.f "abs") (by decide +kernel) h) l_abs (pda_cons (pd_var (pv 1)) pda_nil))) (pdss_cons (pds_for (passes_of rfl) rfl (pdi_range1 rfl (T.f "range") (pda_cons (pd_op op_add l_I0 (pd_op op_mulZ l_I (pd_int pe_int) (pd_bits (pd_var (pv 1)))) (pd_int pe_int)) pda_nil)) (pdg_name (pg_name (i := 2) sc_law_gcd.nd rfl (by first | exact Or.inl rfl | exact Or.inr rfl))) (pdss_cons (pds_if (pdt_cmp op_eq l_eq (pd_var (pv 1)) (pd_int pe_int) (nomark _)) (pdss_one (pds_ret (pd_var (pv 0)))) pdss_nil) (pdss_one (pds_par (i := 0) (j := 1) (by rfl) sc_law_gcd.nd rfl rfl (by decide) rfl rfl (pd_var (pv 1)) (pd_op op_modN l_I (pd_cb (fun h => pe_callTy call_int1 (by rfl) (T.f "int") (by decide +kernel) h) l_int (pda_cons (pd_var (pv 0)) pda_nil)) (pd_var (pv 1))) (by rfl))))) (pdss_one (pds_ret (pd_var (pv 0)))))), fun ds Q ex h => ?_⟩)
  · obtain ⟨a, b, rfl, _⟩ := h
    rfl
  · obtain ⟨a, b, rfl, hb, q⟩ := h
    have hbits : Builtin.Int.intBits ((b.natAbs : Nat) : Int) ≤ 8999 := PyProof.Rows.intBits_le (by rw [Int.natAbs_natCast]; exact hb)
    have hB : b.natAbs < 2 ^ Builtin.Int.intBits ((b.natAbs : Nat) : Int) := by
      have z := bits_hi ((b.natAbs : Nat) : Int)
      rw [Int.natAbs_natCast] at z
      exact z
    rw [Nat.gcd_comm] at q
    walk_at "go"
    refine ⟨fun i env => ∃ (x y : Nat) (v : Sl), env = [.val (.int (x : Int)), .val (.int (y : Int)), v] ∧ Euc (Nat.gcd a.natAbs b.natAbs) b.natAbs i x y, fun _ => ⟨_, _, _, rfl, Euc.start _ _⟩, ?_, ?_⟩
    · rintro i _ env hx ⟨x, y, v, rfl, hE⟩
      obtain ⟨hi, rfl⟩ := rng_at hx
      walk_at "go"
      refine d_ite (fun c => ?_) (fun c => ?_)
      · have c1 : (y : Int) = 0 := of_decide_eq_true c
        have c2 : y = 0 := by omega
        subst c2
        rw [← hE.ret] at q
        walk_at "go"
        exact q
      · have c1 : ¬ (y : Int) = 0 := of_decide_eq_false c
        walk_at "go"
        have em : Int.fmod (x : Int) (y : Int) = ((x % y : Nat) : Int) := by
          rw [Int.fmod_eq_emod_of_nonneg _ (Int.natCast_nonneg _)]
          rfl
        exact fun _ => ⟨y, x % y, _, by rw [← em]; rfl, hE.step (by omega)⟩
    · rintro env ⟨x, y, v, rfl, hE⟩
      rw [rng_len] at hE
      generalize Builtin.Int.intBits ((b.natAbs : Nat) : Int) = n at hB hE
      rw [show ((2 : Int) * (n : Int) + 2).toNat = 2 * n + 2 by omega] at hE
      obtain ⟨_, e⟩ := hE.done hB
      rw [← e] at q
      walk_at "go"
      exact q

theorem fn_law_ratio (T : Txt LL K mg) (M : Mo3 cs sms cis mxs exs K mg) : Nonempty (Fn P w K mg base (d_law_ratio.at_ K) 2 2 P_law_ratio) := by
  obtain ⟨F_law_gcd⟩ := fn_law_gcd (P := P) (w := w) (base := base) T M
  refine Fn.of (T.d 41 (d := d_law_ratio)) sc_law_ratio rfl (fun _ _ _ _ _ _ us hl => match us, hl with | [_, _], _ => rfl) (fun ds Q ex h => ?_) (fun fd cdv A outer s H E hr => ⟨_, pdss_cons (pds_set (i := 2) sc_law_ratio.nd rfl (by first | exact Or.inl rfl | exact Or.inr rfl) (pd_call F_law_gcd (hr.mono (by decide)) (by rfl) (T.g "_law_gcd") (T.k "_law_gcd") (takes_of rfl rfl rfl rfl) (pda_cons (pd_var (pv 0)) (pda_cons (pd_var (pv 1)) pda_nil)))) (pdss_cons (pds_if (pdt_cmp op_lt l_B0 (pd_var (pv 1)) (pd_int pe_int) (nomark _)) (pdss_one (pds_set (i := 2) sc_law_ratio.nd rfl (by first | exact Or.inl rfl | exact Or.inr rfl) (pd_un un_neg l_U (pd_var (pv 2))))) pdss_nil) (pdss_one (pds_ret (pd_tup (pda_cons (pd_op op_fdivZ l_I (pd_var (pv 0)) (pd_var (pv 2))) (pda_cons (pd_op op_fdivZ l_I (pd_var (pv 1)) (pd_var (pv 2))) pda_nil)))))), fun ds Q ex h => ?_⟩)
  · obtain ⟨t, b, rfl, _⟩ := h
    rfl
  · obtain ⟨t, b, rfl, hb, hs, q⟩ := h
    have hdv : ∀ i, CDivZ i (gs [t] b) := fun i => divZ (gs_ne hb) (Nat.lt_of_le_of_lt (gs_le hb) hs) (by decide) (by decide)
    have hd1 := hdv t
    have hd2 := hdv b
    walk_at "go"
    refine d_ite (fun c => ?_) (fun c => ?_)
    · have c1 : b < 0 := of_decide_eq_true c
      have e : -((Nat.gcd b.natAbs t.natAbs : Nat) : Int) = gs [t] b := by
        unfold gs
        rw [if_neg (by omega), cg1]
      rw [← e] at hd1 hd2
      walk_at "go"
      unfold nT nB at q
      rw [← e] at q
      exact q
    · have c1 : ¬ b < 0 := of_decide_eq_false c
      have e : ((Nat.gcd b.natAbs t.natAbs : Nat) : Int) = gs [t] b := by
        unfold gs
        rw [if_pos (by omega), cg1]
      rw [← e] at hd1 hd2
      walk_at "go"
      unfold nT nB at q
      rw [← e] at q
      exact q


def P_law_low : Prm := fun ds Q _ => ∃ (ts : List Int) (b : Int), ds = [.lst (ts.map D.int), .int b] ∧ b ≠ 0 ∧ b.natAbs < 2 ^ 8999 ∧ (∀ t ∈ ts, t.natAbs < 2 ^ 8999) ∧ ts.length ≤ 4000 ∧ Q (.tup [.lst ((lT ts b).map D.int), .int (lB ts b)])
def P_law_trim : Prm := fun ds Q _ => ∃ (ts : List Int) (b : Int), ds = [.lst (ts.map D.int), .int b] ∧ b ≠ 0 ∧ b.natAbs < 2 ^ 8999 ∧ Bd 8999 ts ∧ ts.length ≤ 4000 ∧ Q (.tup [.lst ((pT ts b).map D.int), .int (pB ts b)])
def P_law_integers : Prm := fun ds Q _ => ∃ (ts : List Int), ds = [.tup (ts.map D.int)] ∧ Q (.bl true)
abbrev R (t b : Int) : D := .ins 0 [.int t, .int b]
abbrev V (ts : List Int) (b : Int) : D := .ins 1 [.tup (ts.map D.int), .int b]
abbrev PO (ts : List Int) (b : Int) : D := .ins 3 [.tup (ts.map D.int), .int b]
/-- numbers above, and one below -/
abbrev TB (ts : List Int) (b : Int) : D := .tup [.lst (ts.map D.int), .int b]

theorem fn_law_low (T : Txt LL K mg) (M : Mo3 cs sms cis mxs exs K mg) : Nonempty (Fn P w K mg base (d_law_low.at_ K) 2 2 P_law_low) := by
  obtain ⟨F_law_gcd⟩ := fn_law_gcd (P := P) (w := w) (base := base) T M
  refine Fn.of (T.d 40 (d := d_law_low)) sc_law_low rfl (fun _ _ _ _ _ _ us hl => match us, hl with | [_, _], _ => rfl) (fun ds Q ex h => ?_) (fun fd cdv A outer s H E hr => ⟨_, pdss_cons (pds_set (i := 2) sc_law_low.nd rfl (by first | exact Or.inl rfl | exact Or.inr rfl) (pd_cb (fun h => pe_callB call_abs (by rfl) (T.f "abs") (by decide +kernel) h) l_abs (pda_cons (pd_var (pv 1)) pda_nil))) (pdss_cons (pds_for (passes_of rfl) rfl (pdi_list (pd_var (pv 0))) (pdg_name (pg_name (i := 3) sc_law_low.nd rfl (by first | exact Or.inl rfl | exact Or.inr rfl))) (pdss_one (pds_set (i := 2) sc_law_low.nd rfl (by first | exact Or.inl rfl | exact Or.inr rfl) (pd_call F_law_gcd (hr.mono (by decide)) (by rfl) (T.g "_law_gcd") (T.k "_law_gcd") (takes_of rfl rfl rfl rfl) (pda_cons (pd_var (pv 2)) (pda_cons (pd_var (pv 3)) pda_nil)))))) (pdss_cut (pds_if (pdt_cmp op_lt l_B0 (pd_var (pv 1)) (pd_int pe_int) (nomark _)) (pdss_one (pds_set (i := 2) sc_law_low.nd rfl (by first | exact Or.inl rfl | exact Or.inr rfl) (pd_un un_neg l_U (pd_var (pv 2))))) pdss_nil) (pdss_one (pds_ret (pd_tup (pda_cons (pd_new (pdn_lc (own := [("top", 3)]) rfl sc_law_low.nd (pdi_list (pd_var (pv 0))) (blkOk_by (N := ["tops", "bottom", "part", "top"]) (sc := defScope s_law_low) (by decide +kernel)) (by decide) (fun _ _ _ _ _ => (pdg_name (pg_name (i := 3) sc_law_low.nd rfl (Or.inl rfl)))) (fun _ _ _ _ _ => pdts_nil) (fun _ _ _ _ _ => pd_op op_fdivZ l_I (pd_var (pv 3)) (pd_var (pv 2))))) (pda_cons (pd_op op_fdivZ l_I (pd_var (pv 1)) (pd_var (pv 2))) pda_nil))))))), fun ds Q ex h => ?_⟩)
  · obtain ⟨ts, b, rfl, _⟩ := h
    rfl
  · obtain ⟨ts, b, rfl, hb, hs, ht, hl, q⟩ := h
    have hg : (gs ts b).natAbs < 2 ^ 8999 := Nat.lt_of_le_of_lt (gs_le hb) hs
    walk_at "go"
    refine ⟨fun i env => ∃ (f : Nat) (v : Sl), env = [.val (.lst (ts.map D.int)), .val (.int b), .val (.int f), v] ∧ (ts.drop i).foldl (fun g t => Nat.gcd g t.natAbs) f = cg ts b, fun _ => ⟨b.natAbs, _, rfl, rfl⟩, ?_, ?_⟩
    · rintro i x env hx ⟨f, v, rfl, hf⟩
      obtain ⟨z, hz, rfl⟩ := map_at hx
      have hi : i < ts.length := (List.getElem?_eq_some_iff.mp hz).1
      have ez : ts[i] = z := (List.getElem?_eq_some_iff.mp hz).2
      have hzs : z.natAbs < 2 ^ 8999 := ht z (by rw [← ez]; exact List.getElem_mem hi)
      rw [List.drop_eq_getElem_cons hi, List.foldl_cons, ez] at hf
      walk_at "go"
      exact fun _ => ⟨Nat.gcd f z.natAbs, _, by rw [Nat.gcd_comm z.natAbs]; rfl, hf⟩
    · rintro env ⟨f, v, rfl, hf⟩
      rw [List.length_map, List.drop_length] at hf
      have hf : f = cg ts b := hf
      have hd : ∀ i, CDivZ i (gs ts b) := fun i => divZ (gs_ne hb) hg (by decide) (by decide)
      have fin : ∀ (g : Int), g = gs ts b → True := fun _ _ => trivial
      walk_at "go"
      refine ⟨fun env => ∃ v : Sl, env = [.val (.lst (ts.map D.int)), .val (.int b), .val (.int (gs ts b)), v], ?_, ?_⟩
      · walk_at "go"
        refine d_ite (fun c => ?_) (fun c => ?_)
        · have c' : b < 0 := of_decide_eq_true c
          have e : -(f : Int) = gs ts b := by
            unfold gs
            rw [if_neg (by omega), ← hf]
          walk_at "go"
          rw [e]
          exact fun _ => ⟨_, rfl⟩
        · have c' : ¬ b < 0 := of_decide_eq_false c
          have e : (f : Int) = gs ts b := by
            unfold gs
            rw [if_pos (by omega), ← hf]
          walk_at "go"
          rw [e]
          exact fun _ => ⟨_, rfl⟩
      rintro env ⟨v, rfl⟩
      have hd2 := hd b
      walk_at "go"
      refine ⟨fun i z => ∃ t : Int, ts[i]? = some t ∧ z = some (.int (t.fdiv (gs ts b))), ?_, ?_⟩
      · rintro i x hx
        obtain ⟨z, hz, rfl⟩ := map_at hx
        have hd3 := hd z
        walk_at "go"
        exact fun _ => ⟨z, hz, rfl⟩
      · intro zs hl2 hz
        obtain ⟨ms, e, hm, hm2⟩ := lc_map D.int (P := fun i v => ∃ t : Int, ts[i]? = some t ∧ v = t.fdiv (gs ts b)) hl2 (fun i z h => by
          obtain ⟨t, h1, h2⟩ := hz i z h
          exact ⟨_, h2, t, h1, rfl⟩)
        have em : ms = lT ts b := map_is (by rw [hm, List.length_map]) hm2
        rw [e, em]
        walk_at "go"
        exact q

theorem fn_law_trim (T : Txt LL K mg) (M : Mo3 cs sms cis mxs exs K mg) : Nonempty (Fn P w K mg base (d_law_trim.at_ K) 3 2 P_law_trim) := by
  obtain ⟨F_law_low⟩ := fn_law_low (P := P) (w := w) (base := base) T M
  refine Fn.of (T.d 45 (d := d_law_trim)) sc_law_trim rfl (fun _ _ _ _ _ _ us hl => match us, hl with | [_, _], _ => rfl) (fun ds Q ex h => ?_) (fun fd cdv A outer s H E hr => ⟨_, pdss_cons (pds_setN (i := 2) sc_law_trim.nd rfl (by first | exact Or.inl rfl | exact Or.inr rfl) (pdn_cb (fun h => pe_callTy call_list_of (by rfl) (T.f "list") (by decide +kernel) h) l_list (pda_cons (pd_var (pv 0)) pda_nil))) (pdss_cut (pds_for (passes_of rfl) rfl (pdi_range1 rfl (T.f "range") (pda_cons (pd_cb (fun h => pe_callB call_len (by rfl) (T.f "len") (by decide +kernel) h) l_len (pda_cons (pd_var (pv 0)) pda_nil)) pda_nil)) (pdg_name (pg_name (i := 3) sc_law_trim.nd rfl (by first | exact Or.inl rfl | exact Or.inr rfl))) (pdss_cons (pds_if (pdt_cmp op_ne l_ne (pd_ixO ix_list (pv 2) (pd_op op_sub l_I0 (pd_lenO (fun h => pe_callB call_len (by rfl) (T.f "len") (by decide +kernel) (pa_cons h pa_nil)) (pv 2)) (pd_int pe_int)) (fun _ _ => rfl)) (pd_int pe_int) (nomark _)) (pdss_one pds_break) pdss_nil) (pdss_one (pds_pop (i := 2) (pe_bm0 PySem.F.plainAttrs_list PySem.F.slot_list_pop PySem.F.type_list_pop mt_pop (pv 2)))))) (pdss_frz 2 (pdss_one (pds_ret (pd_call F_law_low (hr.mono (by decide)) (by rfl) (T.g "_law_low") (T.k "_law_low") (takes_of rfl rfl rfl rfl) (pda_cons (pd_var (pv 2)) (pda_cons (pd_var (pv 1)) pda_nil))))))), fun ds Q ex h => ?_⟩)
  · obtain ⟨ts, b, rfl, _⟩ := h
    rfl
  · obtain ⟨ts, b, rfl, hb, hs, ht, hl, q⟩ := h
    have hls : ts.length < sizeLine := sz100 (by omega)
    walk_at "go"
    refine ⟨fun env => ∃ v : Sl, env = [.val (.lst (ts.map D.int)), .val (.int b), .own ((trim ts).map D.int), v], ?_, ?_⟩
    · walk_at "go"
      refine ⟨fun i env => ∃ (v : Sl) (us : List Int), env = [.val (.lst (ts.map D.int)), .val (.int b), .own (us.map D.int), v] ∧ us.length + i = ts.length ∧ trim us = trim ts, fun _ => ⟨_, ts, rfl, rfl, rfl⟩, ?_, ?_⟩
      · rintro i x env hx ⟨v, us, rfl, hul, hut⟩
        obtain ⟨hi, rfl⟩ := rng_at hx
        rw [List.length_map, Int.toNat_natCast] at hi
        rcases List.eq_nil_or_concat us with rfl | ⟨vs, z, e⟩
        · exact absurd hul (by simp; omega)
        rw [List.concat_eq_append] at e
        subst e
        rw [List.length_append, List.length_singleton] at hul
        have e1 : (vs ++ [z])[vs.length]? = some z := by simp
        have e2 : ((vs ++ [z]).map D.int).length = vs.length + 1 := by simp
        have e3 : (((vs.length + 1 : Nat) : Int) - 1) = ((vs.length : Nat) : Int) := by omega
        have e4 := at_map (f := D.int) (k := (vs.length : Int)) (by omega) (by rw [Int.toNat_natCast]; exact e1)
        have e5 : (vs ++ [z]).map D.int = vs.map D.int ++ [D.int z] := by simp
        walk_at "go"
        rw [e2, e3]
        walk_at "go"
        refine d_ite (fun c => ?_) (fun c => ?_)
        · have hz : z ≠ 0 := fun e => by rw [decide_eq_true e] at c; cases c
          walk_at "go"
          rw [← hut, trim_snoc hz]
          exact fun _ => ⟨_, rfl⟩
        · have hz : z = 0 := Decidable.byContradiction fun e => by rw [decide_eq_false e] at c; cases c
          subst hz
          rw [trim_snoc0] at hut
          walk_at "go"
          exact ⟨_, _, congrArg (fun l => some (Sl.own l)) e5, fun _ => ⟨_, vs, rfl, by omega, hut⟩⟩
      · rintro env ⟨v, us, rfl, hul, hut⟩
        rw [rng_len, List.length_map, Int.toNat_natCast] at hul
        have : us = [] := List.length_eq_zero_iff.mp (by omega)
        subst this
        rw [← hut]
        exact fun _ => ⟨_, rfl⟩
    rintro env ⟨v, rfl⟩
    obtain ⟨l1, l2⟩ := trim_mem ts
    walk_at "go"
    exact ⟨fun t m => ht t (l2 t m), by omega, q⟩

theorem fn_law_integers (T : Txt LL K mg) (M : Mo3 cs sms cis mxs exs K mg) : Nonempty (Fn P w K mg base (d_law_integers.at_ K) 2 1 P_law_integers) := by
  obtain ⟨F_law_is_integer⟩ := fn_law_is_integer (P := P) (w := w) (base := base) T M
  refine Fn.of (T.d 43 (d := d_law_integers)) sc_law_integers rfl (fun _ _ _ _ _ _ us hl => match us, hl with | [_], _ => rfl) (fun ds Q ex h => ?_) (fun fd cdv A outer s H E hr => ⟨_, pdss_cons (pds_if (pdt_not (pdt_val (pd_isi (cr := .tuple) M.isi M.cls (fun c h => nomatch h) (fun h => pe_callB call_isi (by rfl) (T.f "isinstance") (by decide +kernel) (pa_cons h (pa_cons (pe_bltn (v := .ty "tuple") (by rfl) (T.f "tuple") (by decide +kernel) rfl) pa_nil))) (pd_var (pv 0))))) (pdss_one (pds_ret (pd_bl pe_bl))) pdss_nil) (pdss_cons (pds_for (passes_of rfl) rfl (pdi_tup (pd_var (pv 0))) (pdg_name (pg_name (i := 1) sc_law_integers.nd rfl (by first | exact Or.inl rfl | exact Or.inr rfl))) (pdss_one (pds_if (pdt_not (pdt_val (pd_call F_law_is_integer (hr.mono (by decide)) (by rfl) (T.g "_law_is_integer") (T.k "_law_is_integer") (takes_of rfl rfl rfl rfl) (pda_cons (pd_var (pv 1)) pda_nil)))) (pdss_one (pds_ret (pd_bl pe_bl))) pdss_nil))) (pdss_one (pds_ret (pd_bl pe_bl)))), fun ds Q ex h => ?_⟩)
  · obtain ⟨ts, rfl, _⟩ := h
    rfl
  · obtain ⟨ts, rfl, q⟩ := h
    walk_at "go"
    refine ⟨fun i env => ∃ v : Sl, env = [.val (.tup (ts.map D.int)), v], fun _ => ⟨_, rfl⟩, ?_, ?_⟩
    · rintro i x env hx ⟨v, rfl⟩
      obtain ⟨z, hz, rfl⟩ := map_at hx
      walk_at "go"
      exact fun _ => ⟨_, rfl⟩
    · rintro env ⟨v, rfl⟩
      walk_at "go"
      exact q
end
end K08

namespace K08
open PySem PySem.Spec PyProof.Rows L2 LR DL
section
variable {P : Program} {w : World} {K : PySem.W.Frag} {mg : Str → Option Value} {base : Heap}
local macro_rules | `(tactic| walk_at "side") => `(tactic| first | rfl | assumption | exact ⟨_, rfl⟩ | omega | exact mulL (by omega) (by omega) | exact mulR (by omega) (by omega) | exact mulF (by decide) (by decide) | exact ⟨by decide, by decide +kernel⟩ | decide | exact Nat.le_of_ble_eq_true rfl | (simp only [List.length_cons, List.length_nil, List.length_map, List.nil_append, List.cons_append, sizeLine_eq]; omega) | (simp only [List.map_cons, List.map_nil, List.nil_append, List.cons_append]; decide +kernel))
local macro_rules | `(tactic| walk_at "go") => `(tactic| repeat (first
  | refine ⟨_, rfl, ?_⟩
  | refine ⟨_, _, rfl, rfl, ?_⟩
  | refine ⟨_, _, rfl, ?_⟩
  | refine ⟨_, _, _, rfl, rfl, ?_⟩
  | refine ⟨_, _, _, rfl, ?_⟩
  | refine ⟨_, _, _, _, rfl, rfl, ?_⟩
  | refine ⟨_, _, _, _, rfl, ?_⟩
  | refine ⟨_, _, rfl, by assumption, ?_⟩
  | refine ⟨_, _, _, rfl, rfl, rfl, ?_⟩
  | refine ⟨_, _, _, rfl, rfl, by assumption, ?_⟩
  | refine ⟨_, _, _, rfl, rfl, by walk_at "side", by assumption, ?_⟩
  | refine ⟨_, _, _, rfl, rfl, by walk_at "side", rfl, ?_⟩
  | refine ⟨_, _, _, rfl, rfl, rfl, by assumption, ?_⟩
  | refine .inl ⟨_, rfl, ?_⟩
  | refine .inr ⟨_, rfl, ?_⟩
  | refine .inr (.inl ⟨_, rfl, ?_⟩)
  | refine .inr (.inr ⟨_, rfl, ?_⟩)
  | refine ⟨_, .inl rfl, ?_⟩
  | refine ⟨_, .inr rfl, ?_⟩
  | refine ⟨_, (by assumption : _ ∨ _), ?_⟩
  | refine .inr ⟨_, _, rfl, ?_⟩
  | refine .inl ⟨_, _, rfl, ?_⟩
  | refine And.intro (by walk_at "side") ?_))

def sh_ZeroBottom : Xsh := [("word", .inr "bottom")]
theorem fx_ZeroBottom (T : Txt LL K mg) : Nonempty (FnX P w K mg base (d_ZeroBottom_init.at_ K) 1 "ZeroBottom" 0 sh_ZeroBottom) := by
  suffices ok : Ok P w K mg base (d_ZeroBottom_init.at_ K) 1 ["self"] (DL.spX K "ZeroBottom" 0 sh_ZeroBottom) by
    obtain ⟨fd, F, b⟩ := ok
    exact ⟨⟨fd, _, F, b⟩⟩
  refine Ok.of (T.d 0 (d := d_ZeroBottom_init)) sc_ZeroBottom_init (fun _ _ _ _ _ _ us hl => match us, hl with | [_], _ => rfl) (fun vs H Q E h => ?_) (fun fd cdv A outer s H vs Q E hr h => ?_)
  · obtain ⟨a, ws, rfl, hn, _⟩ := h
    exact congrArg (· + 1) hn
  · obtain ⟨a, ws, rfl, hn, ha, q⟩ := h
    obtain rfl := len0 hn
    refine ⟨_, pss_one (ps_ost (pv 0) pe_str), ?_⟩
    refine ⟨_, rfl, a, _, rfl, T.oex "ZeroBottom", T.no "ZeroBottom" "word", .inl ⟨ha, fun dx nd ne => ?_⟩⟩
    exact q _ dx (fun b o e nb => (upd_ne nb).trans ((upd_ne (ne_of_none e nd)).trans e)) nd ne (upd_same) ((upd_ne ne).trans upd_same)

def sh_ZeroPoly : Xsh := [("word", .inr "poly")]
theorem fx_ZeroPoly (T : Txt LL K mg) : Nonempty (FnX P w K mg base (d_ZeroPoly_init.at_ K) 1 "ZeroPoly" 0 sh_ZeroPoly) := by
  suffices ok : Ok P w K mg base (d_ZeroPoly_init.at_ K) 1 ["self"] (DL.spX K "ZeroPoly" 0 sh_ZeroPoly) by
    obtain ⟨fd, F, b⟩ := ok
    exact ⟨⟨fd, _, F, b⟩⟩
  refine Ok.of (T.d 2 (d := d_ZeroPoly_init)) sc_ZeroPoly_init (fun _ _ _ _ _ _ us hl => match us, hl with | [_], _ => rfl) (fun vs H Q E h => ?_) (fun fd cdv A outer s H vs Q E hr h => ?_)
  · obtain ⟨a, ws, rfl, hn, _⟩ := h
    exact congrArg (· + 1) hn
  · obtain ⟨a, ws, rfl, hn, ha, q⟩ := h
    obtain rfl := len0 hn
    refine ⟨_, pss_one (ps_ost (pv 0) pe_str), ?_⟩
    refine ⟨_, rfl, a, _, rfl, T.oex "ZeroPoly", T.no "ZeroPoly" "word", .inl ⟨ha, fun dx nd ne => ?_⟩⟩
    exact q _ dx (fun b o e nb => (upd_ne nb).trans ((upd_ne (ne_of_none e nd)).trans e)) nd ne (upd_same) ((upd_ne ne).trans upd_same)

def sh_Empty : Xsh := [("word", .inr "empty")]
theorem fx_Empty (T : Txt LL K mg) : Nonempty (FnX P w K mg base (d_Empty_init.at_ K) 1 "Empty" 0 sh_Empty) := by
  suffices ok : Ok P w K mg base (d_Empty_init.at_ K) 1 ["self"] (DL.spX K "Empty" 0 sh_Empty) by
    obtain ⟨fd, F, b⟩ := ok
    exact ⟨⟨fd, _, F, b⟩⟩
  refine Ok.of (T.d 1 (d := d_Empty_init)) sc_Empty_init (fun _ _ _ _ _ _ us hl => match us, hl with | [_], _ => rfl) (fun vs H Q E h => ?_) (fun fd cdv A outer s H vs Q E hr h => ?_)
  · obtain ⟨a, ws, rfl, hn, _⟩ := h
    exact congrArg (· + 1) hn
  · obtain ⟨a, ws, rfl, hn, ha, q⟩ := h
    obtain rfl := len0 hn
    refine ⟨_, pss_one (ps_ost (pv 0) pe_str), ?_⟩
    refine ⟨_, rfl, a, _, rfl, T.oex "Empty", T.no "Empty" "word", .inl ⟨ha, fun dx nd ne => ?_⟩⟩
    exact q _ dx (fun b o e nb => (upd_ne nb).trans ((upd_ne (ne_of_none e nd)).trans e)) nd ne (upd_same) ((upd_ne ne).trans upd_same)


/-- a list or a tuple of ints -/
def Sq (s : D) (ts : List Int) : Prop := s = .lst (ts.map D.int) ∨ s = .tup (ts.map D.int)
theorem Sq.at {s : D} {ts : List Int} (h : Sq s ts) : some (Sl.val s) = some (.val (.lst (ts.map D.int))) ∨ some (Sl.val s) = some (.val (.tup (ts.map D.int))) := h.imp (fun e => by rw [e]) (fun e => by rw [e])
theorem okD_tup (ts : List Int) : okD (.tup (ts.map D.int)) = true := okD_of 1 (fun y hy => by
  obtain ⟨p, _, rfl⟩ := List.mem_map.mp hy
  exact trivial) (by decide)
def P_common_divisor : Prm := fun ds Q _ => ∃ (s : D) (ts : List Int) (b : Int), ds = [s, .int b] ∧ Sq s ts ∧ Q (.int (gs ts b))
def P_Ratio_init : Prm := fun ds Q ex => ∃ (t b : Int), ds = [.int t, .int b] ∧ (b = 0 → ex "ZeroBottom" (xD sh_ZeroBottom [])) ∧ (b ≠ 0 → (gs [t] b).natAbs < 2 ^ 8999 ∧ Q (R (nT t b) (nB t b)))
def P_Ratio_eq : Prm := fun ds Q _ => ∃ (t b u c : Int), ds = [R t b, R u c] ∧ Q (.bl (decide (t = u) && decide (b = c)))
def P_Vector_init : Prm := fun ds Q _ => ∃ (s : D) (ts : List Int) (b : Int), ds = [s, .int b] ∧ Sq s ts ∧ ts.length ≤ 4000 ∧ ts ≠ [] ∧ b ≠ 0 ∧ b.natAbs < 2 ^ 8999 ∧ Q (V (lT ts b) (lB ts b))
def P_Vector_eq : Prm := fun ds Q _ => ∃ (ts : List Int) (b : Int) (d : D), ds = [V ts b, d] ∧ kind cs d = true ∧ isD d (.own 1) = false ∧ Q (.bl false)
def P_Poly_init : Prm := fun ds Q ex => ∃ (s : D) (ts : List Int) (b : Int), ds = [s, .int b] ∧ Sq s ts ∧ ts.length ≤ 4000 ∧ (b = 0 → ex "ZeroBottom" (xD sh_ZeroBottom [])) ∧ (b ≠ 0 → b.natAbs < 2 ^ 8999 ∧ Q (PO (pT ts b) (pB ts b)))
def P_Poly_len : Prm := fun ds Q _ => ∃ (ts : List Int) (b : Int), ds = [PO ts b] ∧ ts.length ≤ 4000 ∧ Q (.int ts.length)
def P_Poly_getitem : Prm := fun ds Q _ => ∃ (ts : List Int) (b k : Int), ds = [PO ts b, .int k] ∧ 0 ≤ k ∧ 0 < b ∧ b.natAbs < 2 ^ 8999 ∧ Q (R (nT (cf ts k.toNat) b) (nB (cf ts k.toNat) b))
def P_Poly_eq : Prm := fun ds Q _ => ∃ (ts : List Int) (b : Int) (d : D), ds = [PO ts b, d] ∧ kind cs d = true ∧ ((∃ us c, d = PO us c ∧ Q (.bl (decide (ts = us) && decide (b = c)))) ∨ (isD d (.own 3) = false ∧ Q (.bl false)))
def P_Poly_degree : Prm := fun ds Q _ => ∃ (ts : List Int) (b : Int), ds = [PO ts b] ∧ ts.length ≤ 4000 ∧ Q (.int ((ts.length : Int) - 1))
def P_Poly_is_zero : Prm := fun ds Q _ => ∃ (ts : List Int) (b : Int), ds = [PO ts b] ∧ ts.length ≤ 4000 ∧ Q (.bl (decide (ts = [])))
def P_Poly_x : Prm := fun ds Q _ => ds = [] ∧ Q (PO [0, 1] 1)
/-- a factor: an int or a ratio -/
def Fac (d : D) (p q : Int) : Prop := (d = .int p ∧ q = 1) ∨ (d = R p q ∧ 0 < q)
def P_is_factor : Prm := fun ds Q _ => ∃ (d : D) (p q : Int), ds = [d] ∧ Fac d p q ∧ Q (.bl true)
def P_as_ratio : Prm := fun ds Q _ => ∃ (d : D) (p q : Int), ds = [d] ∧ Fac d p q ∧ Q (R p q)
theorem zero_low {b : Int} (hb : 0 < b) : nT 0 b = nT 0 1 ∧ nB 0 b = nB 0 1 := by
  obtain ⟨h1, h2⟩ := low_cross (ts := [0]) (us := [0]) (b := b) (c := 1) (by omega) (by decide) (by simp)
  exact ⟨List.cons.inj h1 |>.1, h2⟩

theorem fn_common_divisor (T : Txt LL K mg) (M : Mo3 cs sms cis mxs exs K mg) : Nonempty (Fn P w K mg base (d_common_divisor.at_ K) 1 2 P_common_divisor) := by
  refine Fn.of (T.d 6 (d := d_common_divisor)) sc_common_divisor rfl (fun _ _ _ _ _ _ us hl => match us, hl with | [_, _], _ => rfl) (fun ds Q ex h => ?_) (fun fd cdv A outer s H E hr => ⟨_, pdss_cons (pds_set (i := 2) sc_common_divisor.nd rfl (by first | exact Or.inl rfl | exact Or.inr rfl) (pd_cb (fun h => pe_callB call_abs (by rfl) (T.f "abs") (by decide +kernel) h) l_abs (pda_cons (pd_var (pv 1)) pda_nil))) (pdss_cons (pds_for (passes_of rfl) rfl (pdi_seq (pv 0)) (pdg_name (pg_name (i := 3) sc_common_divisor.nd rfl (by first | exact Or.inl rfl | exact Or.inr rfl))) (pdss_cons (pds_if (pdt_cmp op_eq l_eq (pd_var (pv 2)) (pd_int pe_int) (nomark _)) (pdss_one pds_break) pdss_nil) (pdss_one (pds_set (i := 2) sc_common_divisor.nd rfl (by first | exact Or.inl rfl | exact Or.inr rfl) (pd_cb (fun h => pe_callBfun cr_gcd (by rfl) (T.b "gcd" "math.gcd") h) l_gcd (pda_cons (pd_var (pv 2)) (pda_cons (pd_var (pv 3)) pda_nil))))))) (pdss_one (pds_ret (pd_ife (pdt_cmp op_gt l_B0 (pd_var (pv 1)) (pd_int pe_int) (nomark _)) (pd_var (pv 2)) (pd_un un_neg l_U (pd_var (pv 2))))))), fun ds Q ex h => ?_⟩)
  · obtain ⟨s, ts, b, rfl, _⟩ := h
    rfl
  · obtain ⟨s, ts, b, rfl, hS, q⟩ := h
    have hs := hS.at
    walk_at "go"
    refine ⟨fun i env => ∃ (f : Nat) (v : Sl), env = [.val s, .val (.int b), .val (.int f), v] ∧ (ts.drop i).foldl (fun g t => Nat.gcd g t.natAbs) f = cg ts b, fun _ => ⟨_, _, rfl, rfl⟩, ?_, ?_⟩
    · rintro i x env hx ⟨f, v, rfl, hf⟩
      obtain ⟨z, hz, rfl⟩ := map_at hx
      have hi : i < ts.length := (List.getElem?_eq_some_iff.mp hz).1
      have ez : ts[i] = z := (List.getElem?_eq_some_iff.mp hz).2
      rw [List.drop_eq_getElem_cons hi, List.foldl_cons, ez] at hf
      walk_at "go"
      refine d_ite (fun c => ?_) (fun c => ?_)
      · have c1 : (f : Int) = 1 := of_decide_eq_true c
        have c2 : f = 1 := by omega
        subst c2
        rw [Nat.gcd_one_left, fold_one] at hf
        walk_at "go"
        refine d_ite (fun c => ?_) (fun c => ?_)
        · have c' : b > 0 := of_decide_eq_true c
          have e : gs ts b = 1 := by
            unfold gs
            rw [if_pos c', ← hf]
            rfl
          rw [e] at q
          walk_at "go"
          exact q
        · have c' : ¬ b > 0 := of_decide_eq_false c
          have e : gs ts b = -1 := by
            unfold gs
            rw [if_neg c', ← hf]
            rfl
          rw [e] at q
          walk_at "go"
          exact q
      · walk_at "go"
        exact fun _ => ⟨_, _, rfl, hf⟩
    · rintro env ⟨f, v, rfl, hf⟩
      rw [List.length_map, List.drop_length] at hf
      have hf : f = cg ts b := hf
      walk_at "go"
      refine d_ite (fun c => ?_) (fun c => ?_)
      · have c' : b > 0 := of_decide_eq_true c
        have e : gs ts b = f := by
          unfold gs
          rw [if_pos c', ← hf]
        rw [e] at q
        walk_at "go"
        exact q
      · have c' : ¬ b > 0 := of_decide_eq_false c
        have e : gs ts b = -f := by
          unfold gs
          rw [if_neg c', ← hf]
        rw [e] at q
        walk_at "go"
        exact q

theorem fn_Ratio_init (T : Txt LL K mg) (M : Mo3 cs sms cis mxs exs K mg) : Nonempty (FnI P w K mg base (d_Ratio_init.at_ K) 4 0 2 P_Ratio_init [] []) ∧ Nonempty (FnI P w K mg base (d_Ratio_init.at_ K) 4 0 2 P_Ratio_init [.int 1] [.int 1]) := by
  obtain ⟨F_ZeroBottom⟩ := fx_ZeroBottom (P := P) (w := w) (base := base) T
  obtain ⟨F_common_divisor⟩ := fn_common_divisor (P := P) (w := w) (base := base) T M
  refine FnI.ofD (T.d 3 (d := d_Ratio_init)) sc_Ratio_init rfl (fun n hn _ _ _ _ _ _ _ us its hu hi => ?_) (fun ds Q ex h => ?_) (fun fd cdv A outer s H E hr => ⟨_, pdss_cons (pds_if (pdt_cmp op_eq l_eq (pd_var (pv 2)) (pd_int pe_int) (nomark _)) (pdss_one (pds_raise0 rfl (takes_of rfl rfl rfl rfl) (pmk_oex0 (T.oex "ZeroBottom") (T.exI "ZeroBottom") (T.exT "ZeroBottom") F_ZeroBottom.ok (hr.mono (by decide)) F_ZeroBottom.bd passL (by rfl) (T.g "ZeroBottom")))) pdss_nil) (pdss_cons (pds_set (i := 3) sc_Ratio_init.nd rfl (by first | exact Or.inl rfl | exact Or.inr rfl) (pd_call F_common_divisor (hr.mono (by decide)) (by rfl) (T.g "common_divisor") (T.k "common_divisor") (takes_of rfl rfl rfl rfl) (pda_cons (pd_new (pdn_lst (pda_cons (pd_var (pv 1)) pda_nil))) (pda_cons (pd_var (pv 2)) pda_nil)))) (pdss_cons (pds_fst (i := 0) (c := 0) (f := "top") (T.cl "Ratio") (T.no "Ratio" "top") (fun h => ps_fld (pv 0) h rfl) (pd_op op_fdivZ l_I (pd_var (pv 1)) (pd_var (pv 3)))) (pdss_one (pds_fst (i := 0) (c := 0) (f := "bottom") (T.cl "Ratio") (T.no "Ratio" "bottom") (fun h => ps_fld (pv 0) h rfl) (pd_op op_fdivZ l_I (pd_var (pv 2)) (pd_var (pv 3))))))), fun p ds Q ex h => ?_⟩)
  · have hn : n = 3 ∨ n + 1 = 3 := hn
    rcases hn with rfl | hn
    · exact match us, hu, its, hi with | [_, _, _], _, [_], _ => ⟨_, rfl, rfl⟩
    · obtain rfl : n = 2 := by omega
      exact match us, hu, its, hi with | [_, _], _, [_], _ => ⟨_, rfl, rfl⟩
  · obtain ⟨t, b, rfl, _⟩ := h
    rfl
  · obtain ⟨t, b, rfl, q0, q⟩ := h
    walk_at "go"
    refine d_ite (fun c => ?_) (fun c => ?_)
    · walk_at "go"
      exact q0 (of_decide_eq_true c)
    · have c' : b ≠ 0 := of_decide_eq_false c
      obtain ⟨hg, q⟩ := q c'
      have hd : CDivZ t (gs [t] b) := divZ (gs_ne c') hg (by decide) (by decide)
      have hd2 : CDivZ b (gs [t] b) := divZ (gs_ne c') hg (by decide) (by decide)
      walk_at "go"
      refine ⟨_, [t], b, rfl, .inl rfl, ?_⟩
      walk_at "go"
      exact q

theorem fn_Ratio_eq (T : Txt LL K mg) (M : Mo3 cs sms cis mxs exs K mg) : Nonempty (Fn P w K mg base (d_Ratio_eq.at_ K) 1 2 P_Ratio_eq) := by
  refine Fn.of (T.d 5 (d := d_Ratio_eq)) sc_Ratio_eq rfl (fun _ _ _ _ _ _ us hl => match us, hl with | [_, _], _ => rfl) (fun ds Q ex h => ?_) (fun fd cdv A outer s H E hr => ⟨_, pdss_one (pds_ret (pd_and (pd_isi (cr := (.own 0)) M.isi M.cls (fun c h => by cases h; decide) (fun h => pe_callB call_isi (by rfl) (T.f "isinstance") (by decide +kernel) (pa_cons h (pa_cons (pe_glob (v := .ref (He.ga K "Ratio")) rfl (T.g "Ratio") rfl) pa_nil))) (pd_var (pv 1))) (pd_and (pd_cmp op_eq l_eq (pd_fld (c := 0) (k := 0) (T.cl "Ratio") (T.no "Ratio" "top") fk_Ratio_top (pd_var (pv 0))) (pd_fld (c := 0) (k := 0) (T.cl "Ratio") (T.no "Ratio" "top") fk_Ratio_top (pd_var (pv 1))) (nomark _)) (pd_one (pd_cmp op_eq l_eq (pd_fld (c := 0) (k := 1) (T.cl "Ratio") (T.no "Ratio" "bottom") fk_Ratio_bottom (pd_var (pv 0))) (pd_fld (c := 0) (k := 1) (T.cl "Ratio") (T.no "Ratio" "bottom") fk_Ratio_bottom (pd_var (pv 1))) (nomark _)))))), fun ds Q ex h => ?_⟩)
  · obtain ⟨t, b, u, c, rfl, _⟩ := h
    rfl
  · obtain ⟨t, b, u, c, rfl, q⟩ := h
    walk_at "go"
    by_cases h1 : t = u
    · rw [decide_eq_true h1] at q ⊢
      rw [Bool.true_and] at q
      walk_at "go"
      exact q
    · rw [decide_eq_false h1] at q ⊢
      rw [Bool.false_and] at q
      exact q

theorem fn_Vector_init (T : Txt LL K mg) (M : Mo3 cs sms cis mxs exs K mg) : Nonempty (FnI P w K mg base (d_Vector_init.at_ K) 4 1 2 P_Vector_init [] []) ∧ Nonempty (FnI P w K mg base (d_Vector_init.at_ K) 4 1 2 P_Vector_init [.int 1] [.int 1]) := by
  obtain ⟨F_Empty⟩ := fx_Empty (P := P) (w := w) (base := base) T
  obtain ⟨F_ZeroBottom⟩ := fx_ZeroBottom (P := P) (w := w) (base := base) T
  obtain ⟨F_common_divisor⟩ := fn_common_divisor (P := P) (w := w) (base := base) T M
  refine FnI.ofD (T.d 11 (d := d_Vector_init)) sc_Vector_init rfl (fun n hn _ _ _ _ _ _ _ us its hu hi => ?_) (fun ds Q ex h => ?_) (fun fd cdv A outer s H E hr => ⟨_, pdss_cons (pds_if (pdt_cmp op_eq l_eq (pd_cb (fun h => pe_callB call_len (by rfl) (T.f "len") (by decide +kernel) h) l_len (pda_cons (pd_var (pv 1)) pda_nil)) (pd_int pe_int) (nomark _)) (pdss_one (pds_raise0 rfl (takes_of rfl rfl rfl rfl) (pmk_oex0 (T.oex "Empty") (T.exI "Empty") (T.exT "Empty") F_Empty.ok (hr.mono (by decide)) F_Empty.bd passL (by rfl) (T.g "Empty")))) pdss_nil) (pdss_cons (pds_if (pdt_cmp op_eq l_eq (pd_var (pv 2)) (pd_int pe_int) (nomark _)) (pdss_one (pds_raise0 rfl (takes_of rfl rfl rfl rfl) (pmk_oex0 (T.oex "ZeroBottom") (T.exI "ZeroBottom") (T.exT "ZeroBottom") F_ZeroBottom.ok (hr.mono (by decide)) F_ZeroBottom.bd passL (by rfl) (T.g "ZeroBottom")))) pdss_nil) (pdss_cons (pds_set (i := 3) sc_Vector_init.nd rfl (by first | exact Or.inl rfl | exact Or.inr rfl) (pd_call F_common_divisor (hr.mono (by decide)) (by rfl) (T.g "common_divisor") (T.k "common_divisor") (takes_of rfl rfl rfl rfl) (pda_cons (pd_var (pv 1)) (pda_cons (pd_var (pv 2)) pda_nil)))) (pdss_cons (pds_fst (i := 0) (c := 1) (f := "tops") (T.cl "Vector") (T.no "Vector" "tops") (fun h => ps_fld (pv 0) h rfl) (pd_cb (fun h => pe_callTy call_tuple_of (by rfl) (T.f "tuple") (by decide +kernel) h) l_tuple (pda_cons (pd_new (pdn_lc (own := [("top", 4)]) rfl sc_Vector_init.nd (pdi_seq (pv 1)) (blkOk_by (N := ["self", "tops", "bottom", "divisor", "top"]) (sc := defScope s_Vector_init) (by decide +kernel)) (by decide) (fun _ _ _ _ _ => (pdg_name (pg_name (i := 4) sc_Vector_init.nd rfl (Or.inl rfl)))) (fun _ _ _ _ _ => pdts_nil) (fun _ _ _ _ _ => pd_op op_fdivZ l_I (pd_var (pv 4)) (pd_var (pv 3))))) pda_nil))) (pdss_one (pds_fst (i := 0) (c := 1) (f := "bottom") (T.cl "Vector") (T.no "Vector" "bottom") (fun h => ps_fld (pv 0) h rfl) (pd_op op_fdivZ l_I (pd_var (pv 2)) (pd_var (pv 3)))))))), fun p ds Q ex h => ?_⟩)
  · have hn : n = 3 ∨ n + 1 = 3 := hn
    rcases hn with rfl | hn
    · exact match us, hu, its, hi with | [_, _, _], _, [_], _ => ⟨_, rfl, rfl⟩
    · obtain rfl : n = 2 := by omega
      exact match us, hu, its, hi with | [_, _], _, [_], _ => ⟨_, rfl, rfl⟩
  · obtain ⟨s, ts, b, rfl, _⟩ := h
    rfl
  · obtain ⟨s, ts, b, rfl, hS, hl, hn, hb, hbs, q⟩ := h
    have hs := hS.at
    have key : ∀ {p : Prop}, (∀ k : Int, k = ts.length → p) → p := fun h => h _ rfl
    have hls : ts.length < sizeLine := sz100 (by omega)
    have hpos : 0 < ts.length := List.length_pos_iff.mpr hn
    have dn : decide ((((ts.map D.int).length : Nat) : Int) = 0) = false := decide_eq_false (by rw [List.length_map]; omega)
    have go : ∀ {p : Prop}, p → p := fun h => h
    rcases hS with rfl | rfl
    all_goals
      walk_at "go"
      rw [dn]
      walk_at "go"
      have db : decide (b = 0) = false := decide_eq_false hb
      rw [db]
      have hg : (gs ts b).natAbs < 2 ^ 8999 := Nat.lt_of_le_of_lt (gs_le hb) hbs
      have hd : ∀ i, CDivZ i (gs ts b) := fun i => divZ (gs_ne hb) hg (by decide) (by decide)
      have hdb := hd b
      walk_at "go"
      refine ⟨_, ts, b, rfl, by first | exact .inl rfl | exact .inr rfl, ?_⟩
      walk_at "go"
      refine ⟨fun i z => ∃ t : Int, ts[i]? = some t ∧ z = some (.int (t.fdiv (gs ts b))), ?_, ?_⟩
      · rintro i x hx
        obtain ⟨z, hz, rfl⟩ := map_at hx
        have hd3 := hd z
        walk_at "go"
        exact fun _ => ⟨z, hz, rfl⟩
      · intro zs hl2 hz
        obtain ⟨ms, e, hm, hm2⟩ := lc_map D.int (P := fun i v => ∃ t : Int, ts[i]? = some t ∧ v = t.fdiv (gs ts b)) hl2 (fun i z h => by
          obtain ⟨t, h1, h2⟩ := hz i z h
          exact ⟨_, h2, t, h1, rfl⟩)
        have em : ms = lT ts b := map_is (by rw [hm, List.length_map]) hm2
        rw [e, em]
        walk_at "go"
        exact q

theorem fn_Vector_eq (T : Txt LL K mg) (M : Mo3 cs sms cis mxs exs K mg) : Nonempty (Fn P w K mg base (d_Vector_eq.at_ K) 1 2 P_Vector_eq) := by
  refine Fn.of (T.d 12 (d := d_Vector_eq)) sc_Vector_eq rfl (fun _ _ _ _ _ _ us hl => match us, hl with | [_, _], _ => rfl) (fun ds Q ex h => ?_) (fun fd cdv A outer s H E hr => ⟨_, pdss_one (pds_ret (pd_and (pd_isi (cr := (.own 1)) M.isi M.cls (fun c h => by cases h; decide) (fun h => pe_callB call_isi (by rfl) (T.f "isinstance") (by decide +kernel) (pa_cons h (pa_cons (pe_glob (v := .ref (He.ga K "Vector")) rfl (T.g "Vector") rfl) pa_nil))) (pd_var (pv 1))) (pd_and (pd_cmp (op_eqD (hr.units)) l_eqD (pd_fld (c := 1) (k := 0) (T.cl "Vector") (T.no "Vector" "tops") fk_Vector_tops (pd_var (pv 0))) (pd_fld (c := 1) (k := 0) (T.cl "Vector") (T.no "Vector" "tops") fk_Vector_tops (pd_var (pv 1))) (nomark _)) (pd_one (pd_cmp op_eq l_eq (pd_fld (c := 1) (k := 1) (T.cl "Vector") (T.no "Vector" "bottom") fk_Vector_bottom (pd_var (pv 0))) (pd_fld (c := 1) (k := 1) (T.cl "Vector") (T.no "Vector" "bottom") fk_Vector_bottom (pd_var (pv 1))) (nomark _)))))), fun ds Q ex h => ?_⟩)
  · obtain ⟨ts, b, d, rfl, _⟩ := h
    rfl
  · obtain ⟨ts, b, d, rfl, hk, hd, q⟩ := h
    walk_at "go"
    rw [hd]
    exact q

theorem fn_Poly_init (T : Txt LL K mg) (M : Mo3 cs sms cis mxs exs K mg) : Nonempty (FnI P w K mg base (d_Poly_init.at_ K) 4 3 2 P_Poly_init [] []) ∧ Nonempty (FnI P w K mg base (d_Poly_init.at_ K) 4 3 2 P_Poly_init [.int 1] [.int 1]) := by
  obtain ⟨F_ZeroBottom⟩ := fx_ZeroBottom (P := P) (w := w) (base := base) T
  obtain ⟨F_common_divisor⟩ := fn_common_divisor (P := P) (w := w) (base := base) T M
  refine FnI.ofD (T.d 13 (d := d_Poly_init)) sc_Poly_init rfl (fun n hn _ _ _ _ _ _ _ us its hu hi => ?_) (fun ds Q ex h => ?_) (fun fd cdv A outer s H E hr => ⟨_, pdss_cons (pds_if (pdt_cmp op_eq l_eq (pd_var (pv 2)) (pd_int pe_int) (nomark _)) (pdss_one (pds_raise0 rfl (takes_of rfl rfl rfl rfl) (pmk_oex0 (T.oex "ZeroBottom") (T.exI "ZeroBottom") (T.exT "ZeroBottom") F_ZeroBottom.ok (hr.mono (by decide)) F_ZeroBottom.bd passL (by rfl) (T.g "ZeroBottom")))) pdss_nil) (pdss_cons (pds_set (i := 3) sc_Poly_init.nd rfl (by first | exact Or.inl rfl | exact Or.inr rfl) (pd_cb (fun h => pe_callB call_len (by rfl) (T.f "len") (by decide +kernel) h) l_len (pda_cons (pd_var (pv 1)) pda_nil))) (pdss_cut (pds_while (passes_of rfl) (PDW.pt (pdw_and (pdt_cmp op_gt l_B0 (pd_var (pv 3)) (pd_int pe_int) (nomark _)) (pdw_and1 (pdt_cmp op_eq l_eq (pd_ix (ix_or ix_list ix_tup) l_ixQ (pd_var (pv 1)) (pd_op op_sub l_I0 (pd_var (pv 3)) (pd_int pe_int)) (fun _ _ => rfl)) (pd_int pe_int) (nomark _))))) (pdss_one (pds_aug (i := 3) sc_Poly_init.nd rfl (by first | exact Or.inl rfl | exact Or.inr rfl) (pd_int pe_int) ip_sub))) (pdss_cons (pds_set (i := 4) sc_Poly_init.nd rfl (by first | exact Or.inl rfl | exact Or.inr rfl) (pd_call F_common_divisor (hr.mono (by decide)) (by rfl) (T.g "common_divisor") (T.k "common_divisor") (takes_of rfl rfl rfl rfl) (pda_cons (pd_slq (pd_var (pv 1)) pdo_none (pdo_some (pd_var (pv 3)))) (pda_cons (pd_var (pv 2)) pda_nil)))) (pdss_cons (pds_fst (i := 0) (c := 3) (f := "tops") (T.cl "Poly") (T.no "Poly" "tops") (fun h => ps_fld (pv 0) h rfl) (pd_cb (fun h => pe_callTy call_tuple_of (by rfl) (T.f "tuple") (by decide +kernel) h) l_tuple (pda_cons (pd_new (pdn_lc (own := [("top", 5)]) rfl sc_Poly_init.nd (pdi_or (pdi_list (pd_slq (pd_var (pv 1)) pdo_none (pdo_some (pd_var (pv 3))))) (pdi_tup (pd_slq (pd_var (pv 1)) pdo_none (pdo_some (pd_var (pv 3)))))) (blkOk_by (N := ["self", "tops", "bottom", "count", "divisor", "top"]) (sc := defScope s_Poly_init) (by decide +kernel)) (by decide) (fun _ _ _ _ _ => (pdg_name (pg_name (i := 5) sc_Poly_init.nd rfl (Or.inl rfl)))) (fun _ _ _ _ _ => pdts_nil) (fun _ _ _ _ _ => pd_op op_fdivZ l_I (pd_var (pv 5)) (pd_var (pv 4))))) pda_nil))) (pdss_one (pds_fst (i := 0) (c := 3) (f := "bottom") (T.cl "Poly") (T.no "Poly" "bottom") (fun h => ps_fld (pv 0) h rfl) (pd_op op_fdivZ l_I (pd_var (pv 2)) (pd_var (pv 4))))))))), fun p ds Q ex h => ?_⟩)
  · have hn : n = 3 ∨ n + 1 = 3 := hn
    rcases hn with rfl | hn
    · exact match us, hu, its, hi with | [_, _, _], _, [_], _ => ⟨_, rfl, rfl⟩
    · obtain rfl : n = 2 := by omega
      exact match us, hu, its, hi with | [_, _], _, [_], _ => ⟨_, rfl, rfl⟩
  · obtain ⟨s, ts, b, rfl, _⟩ := h
    rfl
  · obtain ⟨s, ts, b, rfl, hS, hl, q0, q⟩ := h
    have hls : ts.length < sizeLine := sz100 (by omega)
    by_cases hb : b = 0
    · subst hb
      walk_at "go"
      exact q0 rfl
    have db : decide (b = 0) = false := decide_eq_false hb
    obtain ⟨hs, q⟩ := q hb
    rcases hS with rfl | rfl
    · walk_at "go"
      rw [db]
      walk_at "go"
      refine ⟨fun env => ∃ m : Nat, env = [.ob p 3 [], .val (.lst (ts.map D.int)), .val (.int b), .val (.int (m : Int)), .no, .no] ∧ m ≤ ts.length ∧ trim ts = ts.take m, ?_, ?_⟩
      · refine ⟨fun n env => ∃ m : Nat, env = [.ob p 3 [], .val (.lst (ts.map D.int)), .val (.int b), .val (.int (m : Int)), .no, .no] ∧ m ≤ ts.length ∧ n = m ∧ trim (ts.take m) = trim ts, fun _ => ⟨ts.length, ts.length, by rw [List.length_map]; rfl, Nat.le_refl _, rfl, by rw [List.take_length]⟩, ?_⟩
        rintro n env ⟨m, rfl, hm, rfl, ht⟩
        walk_at "go"
        refine d_ite (fun c1 => ?_) (fun c1 => ?_)
        · have c1' : (n : Int) > 0 := of_decide_eq_true c1
          obtain ⟨z, _, hz1, hz⟩ := at_ex (l := ts) (k := (n : Int) - 1) (by omega) (by omega)
          rw [show ((n : Int) - 1).toNat = n - 1 by omega] at hz1
          have en : n - 1 + 1 = n := by omega
          walk_at "go"
          refine d_ite (fun c2 => ?_) (fun c2 => ?_)
          · have c2' : z = 0 := of_decide_eq_true c2
            subst c2'
            have e2 := trim_take0 hz1
            rw [en] at e2
            walk_at "go"
            exact fun _ => ⟨n - 1, by omega, n - 1, by rw [show ((n - 1 : Nat) : Int) = (n : Int) - 1 by omega]; rfl, by omega, rfl, e2.symm.trans ht⟩
          · have c2' : z ≠ 0 := of_decide_eq_false c2
            have e2 := trim_take hz1 c2'
            rw [en] at e2
            walk_at "go"
            exact fun _ => ⟨n, rfl, hm, ht.symm.trans e2⟩
        · have c1' : ¬ (n : Int) > 0 := of_decide_eq_false c1
          have : n = 0 := by omega
          subst this
          walk_at "go"
          exact fun _ => ⟨0, rfl, hm, ht.symm⟩
      rintro env ⟨m, rfl, hm, ht⟩
      have em := cut_take D.int ts hm (by omega)
      have hg : (gs (trim ts) b).natAbs < 2 ^ 8999 := Nat.lt_of_le_of_lt (gs_le hb) hs
      have hd : ∀ i, CDivZ i (gs (trim ts) b) := fun i => divZ (gs_ne hb) hg (by decide) (by decide)
      have hdb := hd b
      rw [← ht] at em
      have hu : (trim ts).length ≤ 4000 := Nat.le_trans (trim_mem ts).1 hl
      walk_at "go"
      refine ⟨_, .inl ⟨rfl, ?_⟩⟩
      rw [em]
      walk_at "go"
      refine ⟨_, trim ts, b, rfl, .inl rfl, ?_⟩
      walk_at "go"
      refine eith_l ?_
      walk_at "go"
      refine ⟨_, .inl ⟨rfl, ?_⟩⟩
      rw [em]
      walk_at "go"
      refine ⟨fun i z => ∃ t : Int, (trim ts)[i]? = some t ∧ z = some (.int (t.fdiv (gs (trim ts) b))), ?_, ?_⟩
      · rintro i x hx
        obtain ⟨z, hz, rfl⟩ := map_at hx
        have hd3 := hd z
        walk_at "go"
        exact fun _ => ⟨z, hz, rfl⟩
      intro zs hl2 hz
      obtain ⟨ms, e, hm', hm2⟩ := lc_map D.int (P := fun i v => ∃ t : Int, (trim ts)[i]? = some t ∧ v = t.fdiv (gs (trim ts) b)) hl2 (fun i z h => by
        obtain ⟨t, h1, h2⟩ := hz i z h
        exact ⟨_, h2, t, h1, rfl⟩)
      have em2 : ms = pT ts b := map_is (by rw [hm', List.length_map]) hm2
      rw [e, em2]
      walk_at "go"
      exact q
    · walk_at "go"
      rw [db]
      walk_at "go"
      refine ⟨fun env => ∃ m : Nat, env = [.ob p 3 [], .val (.tup (ts.map D.int)), .val (.int b), .val (.int (m : Int)), .no, .no] ∧ m ≤ ts.length ∧ trim ts = ts.take m, ?_, ?_⟩
      · refine ⟨fun n env => ∃ m : Nat, env = [.ob p 3 [], .val (.tup (ts.map D.int)), .val (.int b), .val (.int (m : Int)), .no, .no] ∧ m ≤ ts.length ∧ n = m ∧ trim (ts.take m) = trim ts, fun _ => ⟨ts.length, ts.length, by rw [List.length_map]; rfl, Nat.le_refl _, rfl, by rw [List.take_length]⟩, ?_⟩
        rintro n env ⟨m, rfl, hm, rfl, ht⟩
        walk_at "go"
        refine d_ite (fun c1 => ?_) (fun c1 => ?_)
        · have c1' : (n : Int) > 0 := of_decide_eq_true c1
          obtain ⟨z, _, hz1, hz⟩ := at_ex (l := ts) (k := (n : Int) - 1) (by omega) (by omega)
          rw [show ((n : Int) - 1).toNat = n - 1 by omega] at hz1
          have en : n - 1 + 1 = n := by omega
          walk_at "go"
          refine d_ite (fun c2 => ?_) (fun c2 => ?_)
          · have c2' : z = 0 := of_decide_eq_true c2
            subst c2'
            have e2 := trim_take0 hz1
            rw [en] at e2
            walk_at "go"
            exact fun _ => ⟨n - 1, by omega, n - 1, by rw [show ((n - 1 : Nat) : Int) = (n : Int) - 1 by omega]; rfl, by omega, rfl, e2.symm.trans ht⟩
          · have c2' : z ≠ 0 := of_decide_eq_false c2
            have e2 := trim_take hz1 c2'
            rw [en] at e2
            walk_at "go"
            exact fun _ => ⟨n, rfl, hm, ht.symm.trans e2⟩
        · have c1' : ¬ (n : Int) > 0 := of_decide_eq_false c1
          have : n = 0 := by omega
          subst this
          walk_at "go"
          exact fun _ => ⟨0, rfl, hm, ht.symm⟩
      rintro env ⟨m, rfl, hm, ht⟩
      have em := cut_take D.int ts hm (by omega)
      have hg : (gs (trim ts) b).natAbs < 2 ^ 8999 := Nat.lt_of_le_of_lt (gs_le hb) hs
      have hd : ∀ i, CDivZ i (gs (trim ts) b) := fun i => divZ (gs_ne hb) hg (by decide) (by decide)
      have hdb := hd b
      rw [← ht] at em
      have hu : (trim ts).length ≤ 4000 := Nat.le_trans (trim_mem ts).1 hl
      walk_at "go"
      refine ⟨_, .inr ⟨rfl, ?_⟩⟩
      rw [em]
      walk_at "go"
      refine ⟨_, trim ts, b, rfl, .inr rfl, ?_⟩
      walk_at "go"
      refine eith_r ?_
      walk_at "go"
      refine ⟨_, .inr ⟨rfl, ?_⟩⟩
      rw [em]
      walk_at "go"
      refine ⟨fun i z => ∃ t : Int, (trim ts)[i]? = some t ∧ z = some (.int (t.fdiv (gs (trim ts) b))), ?_, ?_⟩
      · rintro i x hx
        obtain ⟨z, hz, rfl⟩ := map_at hx
        have hd3 := hd z
        walk_at "go"
        exact fun _ => ⟨z, hz, rfl⟩
      intro zs hl2 hz
      obtain ⟨ms, e, hm', hm2⟩ := lc_map D.int (P := fun i v => ∃ t : Int, (trim ts)[i]? = some t ∧ v = t.fdiv (gs (trim ts) b)) hl2 (fun i z h => by
        obtain ⟨t, h1, h2⟩ := hz i z h
        exact ⟨_, h2, t, h1, rfl⟩)
      have em2 : ms = pT ts b := map_is (by rw [hm', List.length_map]) hm2
      rw [e, em2]
      walk_at "go"
      exact q

theorem fn_Poly_len (T : Txt LL K mg) (M : Mo3 cs sms cis mxs exs K mg) : Nonempty (Fn P w K mg base (d_Poly_len.at_ K) 1 1 P_Poly_len) := by
  refine Fn.of (T.d 14 (d := d_Poly_len)) sc_Poly_len rfl (fun _ _ _ _ _ _ us hl => match us, hl with | [_], _ => rfl) (fun ds Q ex h => ?_) (fun fd cdv A outer s H E hr => ⟨_, pdss_one (pds_ret (pd_cb (fun h => pe_callB call_len (by rfl) (T.f "len") (by decide +kernel) h) l_len (pda_cons (pd_fld (c := 3) (k := 0) (T.cl "Poly") (T.no "Poly" "tops") fk_Poly_tops (pd_var (pv 0))) pda_nil))), fun ds Q ex h => ?_⟩)
  · obtain ⟨ts, b, rfl, _⟩ := h
    rfl
  · obtain ⟨ts, b, rfl, hl, q⟩ := h
    walk_at "go"
    rw [List.length_map]
    exact q

theorem fn_Poly_getitem (T : Txt LL K mg) (M : Mo3 cs sms cis mxs exs K mg) : Nonempty (Fn P w K mg base (d_Poly_getitem.at_ K) 6 2 P_Poly_getitem) := by
  obtain ⟨⟨F_Ratio_init⟩, ⟨F_Ratio_init_d⟩⟩ := fn_Ratio_init (P := P) (w := w) (base := base) T M
  refine Fn.of (T.d 15 (d := d_Poly_getitem)) sc_Poly_getitem rfl (fun _ _ _ _ _ _ us hl => match us, hl with | [_, _], _ => rfl) (fun ds Q ex h => ?_) (fun fd cdv A outer s H E hr => ⟨_, pdss_cons (pds_if (pdt_cmp op_ge l_B0 (pd_var (pv 1)) (pd_cb (fun h => pe_callB call_len (by rfl) (T.f "len") (by decide +kernel) h) l_len (pda_cons (pd_fld (c := 3) (k := 0) (T.cl "Poly") (T.no "Poly" "tops") fk_Poly_tops (pd_var (pv 0))) pda_nil)) (nomark _)) (pdss_one (pds_ret (pd_make (c := 0) (T.mkk "Ratio") F_Ratio_init_d dd_Ratio (hr.mono (by decide)) (by rfl) (T.g "Ratio") (takes_of rfl rfl rfl rfl) (pda_cons (pd_int pe_int) pda_nil)))) pdss_nil) (pdss_one (pds_ret (pd_make (c := 0) (T.mkk "Ratio") F_Ratio_init (fun _ _ => .nil) (hr.mono (by decide)) (by rfl) (T.g "Ratio") (takes_of rfl rfl rfl rfl) (pda_cons (pd_ix ix_tup l_ixT (pd_fld (c := 3) (k := 0) (T.cl "Poly") (T.no "Poly" "tops") fk_Poly_tops (pd_var (pv 0))) (pd_var (pv 1)) (fun _ _ => rfl)) (pda_cons (pd_fld (c := 3) (k := 1) (T.cl "Poly") (T.no "Poly" "bottom") fk_Poly_bottom (pd_var (pv 0))) pda_nil))))), fun ds Q ex h => ?_⟩)
  · obtain ⟨ts, b, k, rfl, _⟩ := h
    rfl
  · obtain ⟨ts, b, k, rfl, k0, hb, hs, q⟩ := h
    walk_at "go"
    refine d_ite (fun c => ?_) (fun c => ?_)
    · have c' := of_decide_eq_true c
      rw [List.length_map] at c'
      rw [cf_ge (show ts.length ≤ k.toNat by omega), (zero_low hb).1, (zero_low hb).2] at q
      walk_at "go"
      exact fun _ => ⟨by decide +kernel, q⟩
    · have c' := of_decide_eq_false c
      rw [List.length_map] at c'
      obtain ⟨z, _, hk, _⟩ := at_ex (l := ts) k0 (by omega)
      have e := at_map (f := D.int) k0 hk
      rw [cf_at hk] at q
      have hb' : b ≠ 0 := by omega
      have hg : (gs [z] b).natAbs < 2 ^ 8999 := Nat.lt_of_le_of_lt (gs_le hb') hs
      walk_at "go"
      exact fun _ => ⟨hg, q⟩

theorem fn_Poly_eq (T : Txt LL K mg) (M : Mo3 cs sms cis mxs exs K mg) : Nonempty (Fn P w K mg base (d_Poly_eq.at_ K) 1 2 P_Poly_eq) := by
  refine Fn.of (T.d 23 (d := d_Poly_eq)) sc_Poly_eq rfl (fun _ _ _ _ _ _ us hl => match us, hl with | [_, _], _ => rfl) (fun ds Q ex h => ?_) (fun fd cdv A outer s H E hr => ⟨_, pdss_one (pds_ret (pd_and (pd_isi (cr := (.own 3)) M.isi M.cls (fun c h => by cases h; decide) (fun h => pe_callB call_isi (by rfl) (T.f "isinstance") (by decide +kernel) (pa_cons h (pa_cons (pe_glob (v := .ref (He.ga K "Poly")) rfl (T.g "Poly") rfl) pa_nil))) (pd_var (pv 1))) (pd_and (pd_cmp (op_eqD (hr.units)) l_eqD (pd_fld (c := 3) (k := 0) (T.cl "Poly") (T.no "Poly" "tops") fk_Poly_tops (pd_var (pv 0))) (pd_fld (c := 3) (k := 0) (T.cl "Poly") (T.no "Poly" "tops") fk_Poly_tops (pd_var (pv 1))) (nomark _)) (pd_one (pd_cmp op_eq l_eq (pd_fld (c := 3) (k := 1) (T.cl "Poly") (T.no "Poly" "bottom") fk_Poly_bottom (pd_var (pv 0))) (pd_fld (c := 3) (k := 1) (T.cl "Poly") (T.no "Poly" "bottom") fk_Poly_bottom (pd_var (pv 1))) (nomark _)))))), fun ds Q ex h => ?_⟩)
  · obtain ⟨ts, b, d, rfl, _⟩ := h
    rfl
  · obtain ⟨ts, b, d, rfl, hk, q⟩ := h
    rcases q with ⟨us, c, rfl, q⟩ | ⟨hd, q⟩
    · have o1 := okD_tup ts
      have o2 := okD_tup us
      walk_at "go"
      rw [eqD_tup]
      by_cases h1 : ts = us
      · rw [decide_eq_true h1] at q ⊢
        rw [Bool.true_and] at q
        walk_at "go"
        exact q
      · rw [decide_eq_false h1] at q ⊢
        rw [Bool.false_and] at q
        exact q
    · walk_at "go"
      rw [hd]
      exact q

theorem fn_Poly_degree (T : Txt LL K mg) (M : Mo3 cs sms cis mxs exs K mg) : Nonempty (Fn P w K mg base (d_Poly_degree.at_ K) 1 1 P_Poly_degree) := by
  refine Fn.of (T.d 26 (d := d_Poly_degree)) sc_Poly_degree rfl (fun _ _ _ _ _ _ us hl => match us, hl with | [_], _ => rfl) (fun ds Q ex h => ?_) (fun fd cdv A outer s H E hr => ⟨_, pdss_one (pds_ret (pd_op op_sub l_I0 (pd_cb (fun h => pe_callB call_len (by rfl) (T.f "len") (by decide +kernel) h) l_len (pda_cons (pd_fld (c := 3) (k := 0) (T.cl "Poly") (T.no "Poly" "tops") fk_Poly_tops (pd_var (pv 0))) pda_nil)) (pd_int pe_int))), fun ds Q ex h => ?_⟩)
  · obtain ⟨ts, b, rfl, _⟩ := h
    rfl
  · obtain ⟨ts, b, rfl, hl, q⟩ := h
    walk_at "go"
    rw [List.length_map]
    exact q

theorem fn_Poly_is_zero (T : Txt LL K mg) (M : Mo3 cs sms cis mxs exs K mg) : Nonempty (Fn P w K mg base (d_Poly_is_zero.at_ K) 1 1 P_Poly_is_zero) := by
  refine Fn.of (T.d 27 (d := d_Poly_is_zero)) sc_Poly_is_zero rfl (fun _ _ _ _ _ _ us hl => match us, hl with | [_], _ => rfl) (fun ds Q ex h => ?_) (fun fd cdv A outer s H E hr => ⟨_, pdss_one (pds_ret (pd_cmp op_eq l_eq (pd_cb (fun h => pe_callB call_len (by rfl) (T.f "len") (by decide +kernel) h) l_len (pda_cons (pd_fld (c := 3) (k := 0) (T.cl "Poly") (T.no "Poly" "tops") fk_Poly_tops (pd_var (pv 0))) pda_nil)) (pd_int pe_int) (nomark _))), fun ds Q ex h => ?_⟩)
  · obtain ⟨ts, b, rfl, _⟩ := h
    rfl
  · obtain ⟨ts, b, rfl, hl, q⟩ := h
    have e : decide ((((ts.map D.int).length : Nat) : Int) = 0) = decide (ts = []) := by
      rw [List.length_map]
      cases ts with
      | nil => rfl
      | cons a r => exact (decide_eq_false (by simp; omega)).trans (decide_eq_false (by simp)).symm
    walk_at "go"
    rw [e]
    exact q

theorem fn_is_factor (T : Txt LL K mg) (M : Mo3 cs sms cis mxs exs K mg) : Nonempty (Fn P w K mg base (d_is_factor.at_ K) 1 1 P_is_factor) := by
  refine Fn.of (T.d 9 (d := d_is_factor)) sc_is_factor rfl (fun _ _ _ _ _ _ us hl => match us, hl with | [_], _ => rfl) (fun ds Q ex h => ?_) (fun fd cdv A outer s H E hr => ⟨_, pdss_one (pds_ret (pd_isi2 (c1 := .int) (c2 := (.own 0)) M.isi M.cls (fun c h => nomatch h) (fun c h => by cases h; decide) (fun h => pe_callB call_isiT (by rfl) (T.f "isinstance") (by decide +kernel) (pa_cons h (pa_cons (pe_tup (pa_cons (pe_bltn (v := .ty "int") (by rfl) (T.f "int") (by decide +kernel) rfl) (pa_cons (pe_glob (v := .ref (He.ga K "Ratio")) rfl (T.g "Ratio") rfl) pa_nil))) pa_nil))) (pd_var (pv 0)))), fun ds Q ex h => ?_⟩)
  · obtain ⟨d, p, q, rfl, _⟩ := h
    rfl
  · obtain ⟨d, p, q, rfl, hf, qq⟩ := h
    rcases hf with ⟨rfl, rfl⟩ | ⟨rfl, hq⟩
    all_goals
      walk_at "go"
      exact qq

theorem fn_as_ratio (T : Txt LL K mg) (M : Mo3 cs sms cis mxs exs K mg) : Nonempty (Fn P w K mg base (d_as_ratio.at_ K) 6 1 P_as_ratio) := by
  obtain ⟨⟨F_Ratio_init⟩, ⟨F_Ratio_init_d⟩⟩ := fn_Ratio_init (P := P) (w := w) (base := base) T M
  refine Fn.of (T.d 10 (d := d_as_ratio)) sc_as_ratio rfl (fun _ _ _ _ _ _ us hl => match us, hl with | [_], _ => rfl) (fun ds Q ex h => ?_) (fun fd cdv A outer s H E hr => ⟨_, pdss_one (pds_ret (pd_ife (pdt_val (pd_isi (cr := .int) M.isi M.cls (fun c h => nomatch h) (fun h => pe_callB call_isi (by rfl) (T.f "isinstance") (by decide +kernel) (pa_cons h (pa_cons (pe_bltn (v := .ty "int") (by rfl) (T.f "int") (by decide +kernel) rfl) pa_nil))) (pd_var (pv 0)))) (pd_make (c := 0) (T.mkk "Ratio") F_Ratio_init_d dd_Ratio (hr.mono (by decide)) (by rfl) (T.g "Ratio") (takes_of rfl rfl rfl rfl) (pda_cons (pd_var (pv 0)) pda_nil)) (pd_var (pv 0)))), fun ds Q ex h => ?_⟩)
  · obtain ⟨d, p, q, rfl, _⟩ := h
    rfl
  · obtain ⟨d, p, q, rfl, hf, qq⟩ := h
    rcases hf with ⟨rfl, rfl⟩ | ⟨rfl, hq⟩
    · walk_at "go"
      have n1 := Nrm.one p
      refine fun _ => ⟨by rw [gs_nrm n1]; decide, ?_⟩
      rw [nT_nrm n1, nB_nrm n1]
      exact qq
    · walk_at "go"
      exact qq
end
end K08

namespace DL
open PySem PySem.Spec PyProof.Rows L2 LR
/-! a product in the making: the tops before i whole, of the top z at i the first j -/
def partP (ts us : List Int) (i : Nat) (z : Int) (j : Nat) : Cf := fun k => cv (cf (ts.take i)) (cf us) k + if k < i then 0 else z * cf (us.take j) (k - i)
theorem cf_nil (k : Nat) : cf [] k = 0 := rfl
theorem part_zero (ts us : List Int) (i : Nat) (z : Int) : partP ts us i z 0 = cv (cf (ts.take i)) (cf us) := by
  funext k
  show cv (cf (ts.take i)) (cf us) k + (if k < i then 0 else z * cf (us.take 0) (k - i)) = _
  rw [List.take_zero, cf_nil, Int.mul_zero, ite_self, Int.add_zero]
theorem part_full {ts us : List Int} {i : Nat} {z : Int} (h : ts[i]? = some z) : partP ts us i z us.length = cv (cf (ts.take (i + 1))) (cf us) := by
  funext k
  rw [cf_take h, cv_ad, cv_mono]
  show cv (cf (ts.take i)) (cf us) k + (if k < i then 0 else z * cf (us.take us.length) (k - i)) = _
  rw [List.take_length]
theorem part_step {ts us : List Int} {i j : Nat} {z w : Int} (h : us[j]? = some w) (k : Nat) : partP ts us i z (j + 1) k = if k = i + j then partP ts us i z j (i + j) + z * w else partP ts us i z j k := by
  show cv (cf (ts.take i)) (cf us) k + (if k < i then 0 else z * cf (us.take (j + 1)) (k - i)) = if k = i + j then cv (cf (ts.take i)) (cf us) (i + j) + (if i + j < i then 0 else z * cf (us.take j) (i + j - i)) + z * w else cv (cf (ts.take i)) (cf us) k + (if k < i then 0 else z * cf (us.take j) (k - i))
  rw [cf_take h]
  show _ + (if k < i then 0 else z * (cf (us.take j) (k - i) + (if k - i = j then w else 0))) = _
  by_cases h1 : k = i + j
  · subst h1
    have n1 : ¬ (i + j < i) := by omega
    have e1 : i + j - i = j := by omega
    rw [if_pos (rfl : i + j = i + j), if_neg n1, if_neg n1, e1, if_pos (rfl : j = j), Int.mul_add, Int.add_assoc]
  · rw [if_neg h1]
    by_cases h2 : k < i
    · rw [if_pos h2, if_pos h2]
    · rw [if_neg h2, if_neg h2, if_neg (by omega), Int.add_zero]
theorem set_range {N p : Nat} {F F' : Cf} {v : Int} (h : ∀ k, F' k = if k = p then v else F k) : ((List.range N).map F).set p v = (List.range N).map F' := by
  refine List.ext_getElem? fun k => ?_
  rw [List.getElem?_set, List.getElem?_map, List.getElem?_map, List.length_map, List.length_range]
  by_cases hk : k < N
  · rw [List.getElem?_range hk]
    by_cases e : p = k
    · subst e
      rw [if_pos rfl, if_pos hk]
      show some v = some (F' p)
      rw [h, if_pos rfl]
    · rw [if_neg e]
      show some (F k) = some (F' k)
      rw [h, if_neg (fun z => e z.symm)]
  · rw [List.getElem?_eq_none (by simpa using hk)]
    by_cases e : p = k
    · rw [if_pos e, if_neg (by omega)]
      rfl
    · rw [if_neg e]
      rfl
theorem range_at {N p : Nat} {F : Cf} (h : p < N) : ((List.range N).map F)[p]? = some (F p) := by
  rw [List.getElem?_map, List.getElem?_range h]
  rfl
theorem rep_zero (N : Nat) : List.replicate N (0 : Int) = (List.range N).map (cv (cf []) (cf [])) := by
  refine (List.eq_replicate_iff.mpr ⟨by simp, fun b hb => ?_⟩).symm
  obtain ⟨k, _, rfl⟩ := List.mem_map.mp hb
  exact cv_zero k _ _ fun i => rfl
theorem zeros_is {zs : List Int} {N : Nat} (ts us : List Int) (hl : zs.length = N) (h : ∀ z ∈ zs, z = 0) : zs = (List.range N).map (cv (cf (ts.take 0)) (cf us)) := by
  refine range_is hl fun i u e => ?_
  rw [h u (List.mem_of_getElem? e), List.take_zero]
  exact (cv_zero i _ _ fun i => rfl).symm
theorem ixN_nat {n k : Nat} (h : k < n) : ixN n ((k : Nat) : Int) = some k := by
  unfold ixN
  rw [if_pos (Int.natCast_nonneg k)]
  first | (rw [Int.toNat_natCast, if_pos (by omega)]) | (simp; omega)
/-- the sum's and the product's numbers, as the law makes them -/
def sumT (ts : List Int) (b : Int) (us : List Int) (c f : Int) : List Int := (List.range (ts.length + us.length)).map fun k => cf ts k * c + f * cf us k * b
def prodL (ts us : List Int) : List Int := (List.range (ts.length + us.length)).map (cv (cf ts) (cf us))
theorem cf_sumT (ts : List Int) (b : Int) (us : List Int) (c f : Int) : cf (sumT ts b us c f) = fun k => cf ts k * c + f * cf us k * b := by
  unfold sumT
  rw [cf_range]
  funext k
  by_cases h : k < ts.length + us.length
  · exact if_pos h
  · rw [if_neg h, cf_ge (show ts.length ≤ k by omega), cf_ge (show us.length ≤ k by omega)]
    simp
theorem cf_prodL (ts us : List Int) : cf (prodL ts us) = cv (cf ts) (cf us) := by
  unfold prodL
  rw [cf_range]
  funext k
  by_cases h : k < ts.length + us.length
  · exact if_pos h
  · rw [if_neg h]
    exact (cv_sup k ts.length us.length _ _ (fun i hi => cf_ge hi) (fun i hi => cf_ge hi) (by omega)).symm
theorem prodL_len (ts us : List Int) : (prodL ts us).length = ts.length + us.length := by unfold prodL; simp
theorem sumT_len (ts : List Int) (b : Int) (us : List Int) (c f : Int) : (sumT ts b us c f).length = ts.length + us.length := by unfold sumT; simp
theorem prodL_bd {n m : Nat} {ts us : List Int} (h1 : Bd n ts) (h2 : Bd m us) (l1 : ts.length ≤ 2000) (l2 : us.length ≤ 2000) : Bd (n + m + 12) (prodL ts us) := fun t ht => by
  obtain ⟨k, hk, rfl⟩ := List.mem_map.mp ht
  exact cv_bd (fun i => cf_bd h1 i) (fun i => cf_bd h2 i) (by have := List.mem_range.mp hk; omega)
/-! zips, multiples, sums, powers -/
theorem zip_at {ts us : List Int} {i : Nat} {d : D} (h : (zipD (ts.map D.int) (us.map D.int))[i]? = some d) : ∃ x y, ts[i]? = some x ∧ us[i]? = some y ∧ d = .tup [.int x, .int y] := by
  unfold zipD at h
  rw [List.getElem?_zipWith] at h
  rw [List.getElem?_map, List.getElem?_map] at h
  cases e1 : ts[i]? with
  | none =>
    rw [e1] at h
    cases h
  | some x =>
    cases e2 : us[i]? with
    | none =>
      rw [e1, e2] at h
      cases h
    | some y =>
      rw [e1, e2] at h
      exact ⟨x, y, rfl, rfl, (Option.some.inj h).symm⟩
theorem zip_is {f : Int → Int → Int} {ts us ms : List Int} (hl : ms.length = (List.zipWith f ts us).length) (h : ∀ (i : Nat) m, ms[i]? = some m → ∃ x y, ts[i]? = some x ∧ us[i]? = some y ∧ m = f x y) : ms = List.zipWith f ts us := by
  refine List.ext_getElem? fun i => ?_
  rw [List.getElem?_zipWith]
  cases e : ms[i]? with
  | none =>
    have h1 := List.getElem?_eq_none_iff.mp e
    rw [hl, List.length_zipWith] at h1
    cases e1 : ts[i]? with
    | none => rfl
    | some x =>
      cases e2 : us[i]? with
      | none => rfl
      | some y =>
        have a1 := (List.getElem?_eq_some_iff.mp e1).1
        have a2 := (List.getElem?_eq_some_iff.mp e2).1
        omega
  | some m =>
    obtain ⟨x, y, h1, h2, h3⟩ := h i m e
    rw [h1, h2, h3]
theorem zip_len {ts us : List Int} : (zipD (ts.map D.int) (us.map D.int)).length = min ts.length us.length := by
  unfold zipD
  rw [List.length_zipWith, List.length_map, List.length_map]
def mulT (ts : List Int) (p : Int) : List Int := ts.map fun t => t * p
theorem cf_mulT (ts : List Int) (p : Int) : cf (mulT ts p) = sm p (cf ts) := by
  rw [← cf_map]
  exact congrArg cf (List.map_congr_left fun t _ => Int.mul_comm t p)
theorem Pol.neg {n : Nat} {ts : List Int} {b : Int} (v : Pol n ts b) : Pol n (negT ts) b :=
  have e : cf (negT ts) = sm (-1) (cf ts) := by
    rw [← cf_map]
    exact congrArg cf (List.map_congr_left fun t _ => by omega)
  ⟨by unfold negT; rw [List.length_map]; exact v.len, v.pos, by rw [cg_neg]; exact v.cop, trim_self fun k h z => by
    unfold negT at h
    rw [List.length_map] at h
    rw [e] at z
    exact v.last h (by have z' : -1 * cf ts k = 0 := z; omega), fun t ht => by
    obtain ⟨u, hu, rfl⟩ := List.mem_map.mp ht
    rw [Int.natAbs_neg]
    exact v.bd u hu, v.sb⟩
theorem neg_low {n : Nat} {ts : List Int} {b : Int} (v : Pol n ts b) : pT (mulT ts (-1)) (b * 1) = negT ts ∧ pB (mulT ts (-1)) (b * 1) = b := by
  have e : mulT ts (-1) = negT ts := List.map_congr_left fun t _ => by omega
  rw [e, Int.mul_one]
  exact v.neg.low
def addP (ts : List Int) (b : Int) (us : List Int) (c : Int) : List Int := (List.range (max ts.length us.length)).map fun k => cf ts k * c + cf us k * b
/-- powers -/
def pw (f : Cf) : Nat → Cf
  | 0 => cf [1]
  | e + 1 => cv (pw f e) f
theorem neg_at {ts : List Int} {n : Nat} (h : ts.length = n + 1) : atI (ts.map D.int) (-1) = some (.int (cf ts n)) := by
  have h1 : ts[n]? = some ts[n] := List.getElem?_eq_getElem (by omega)
  have h2 := at_map (f := D.int) (l := ts) (k := (n : Int)) (by omega) (by rw [Int.toNat_natCast]; exact h1)
  rw [cf_at h1]
  rw [← h2]
  unfold atI
  have e1 : ixN (ts.map D.int).length (-1) = some n := by
    unfold ixN
    rw [if_neg (by decide), if_pos (by rw [List.length_map]; omega), List.length_map]
    congr 1
    omega
  have e2 : ixN (ts.map D.int).length (n : Int) = some n := ixN_nat (by rw [List.length_map]; omega)
  rw [e1, e2]
end DL

namespace K08
open PySem PySem.Spec PyProof.Rows L2 LR DL
section
variable {P : Program} {w : World} {K : PySem.W.Frag} {mg : Str → Option Value} {base : Heap}
local macro_rules | `(tactic| walk_at "side") => `(tactic| first | with_reducible assumption | exact Bsame.mk (by with_reducible rfl) | omega | rfl | assumption | exact ⟨_, rfl⟩ | exact mulL (by omega) (by omega) | exact mulR (by omega) (by omega) | exact mulF (by decide) (by decide) | exact ⟨by decide, by decide +kernel⟩ | decide | exact Nat.le_of_ble_eq_true rfl | (simp only [List.length_cons, List.length_nil, List.length_map, List.nil_append, List.cons_append, sizeLine_eq]; omega) | (simp only [List.map_cons, List.map_nil, List.nil_append, List.cons_append]; decide +kernel))
local macro_rules | `(tactic| walk_at "go") => `(tactic| repeat (first
  | refine ⟨_, rfl, ?_⟩
  | refine ⟨_, _, rfl, rfl, ?_⟩
  | refine ⟨_, _, rfl, ?_⟩
  | refine ⟨_, _, _, rfl, rfl, ?_⟩
  | refine ⟨_, _, _, rfl, ?_⟩
  | refine ⟨_, _, _, _, rfl, rfl, ?_⟩
  | refine ⟨_, _, _, _, rfl, ?_⟩
  | refine ⟨_, _, rfl, by assumption, ?_⟩
  | refine ⟨_, _, _, rfl, rfl, rfl, ?_⟩
  | refine ⟨_, _, _, rfl, rfl, by assumption, ?_⟩
  | refine ⟨_, _, _, rfl, rfl, by walk_at "side", by assumption, ?_⟩
  | refine ⟨_, _, _, rfl, rfl, by walk_at "side", rfl, ?_⟩
  | refine ⟨_, _, _, rfl, rfl, rfl, by assumption, ?_⟩
  | refine .inl ⟨_, rfl, ?_⟩
  | refine .inr ⟨_, rfl, ?_⟩
  | refine .inr (.inl ⟨_, rfl, ?_⟩)
  | refine .inr (.inr ⟨_, rfl, ?_⟩)
  | refine ⟨_, .inl rfl, ?_⟩
  | refine ⟨_, .inr rfl, ?_⟩
  | refine .inr ⟨_, _, rfl, ?_⟩
  | refine .inl ⟨_, _, rfl, ?_⟩
  | refine And.intro (by walk_at "side") ?_))


theorem mul4 {t u : Int} (h1 : t.natAbs < 2 ^ 4000) (h2 : u.natAbs < 2 ^ 4000) : IntMulOk t u := mulW h1 h2 (by decide) (by decide) (by decide)
theorem mul45 {t u : Int} (h1 : t.natAbs < 2 ^ 4500) (h2 : u.natAbs < 2 ^ 4500) : IntMulOk t u := mulW h1 h2 (by decide) (by decide) (by decide)
def P_law_sum : Prm := fun ds Q _ => ∃ (ts : List Int) (b : Int) (us : List Int) (c f : Int), ds = [TB ts b, TB us c, .int f] ∧ Bd 4000 ts ∧ Bd 4000 us ∧ b.natAbs < 2 ^ 4000 ∧ c.natAbs < 2 ^ 4000 ∧ -100 ≤ f ∧ f ≤ 100 ∧ ts.length ≤ 2000 ∧ us.length ≤ 2000 ∧
  Q (TB (sumT ts b us c f) (b * c))
def P_law_product : Prm := fun ds Q _ => ∃ (ts : List Int) (b : Int) (us : List Int) (c : Int), ds = [TB ts b, TB us c] ∧ Bd 4000 ts ∧ Bd 4000 us ∧ b.natAbs < 2 ^ 4000 ∧ c.natAbs < 2 ^ 4000 ∧ ts.length ≤ 2000 ∧ us.length ≤ 2000 ∧ Q (TB (prodL ts us) (b * c))
def P_padded : Prm := fun ds Q _ => ∃ (ts : List Int) (n : Nat), ds = [.tup (ts.map D.int), .int n] ∧ ts.length ≤ n ∧ n ≤ 2000 ∧ Q (.lst (((List.range n).map (cf ts)).map D.int))
def P_product : Prm := fun ds Q _ => ∃ (ts us : List Int), ds = [.tup (ts.map D.int), .tup (us.map D.int)] ∧ Bd 4000 ts ∧ Bd 4000 us ∧ ts.length ≤ 2000 ∧ us.length ≤ 2000 ∧ Q (.lst ((prodT ts us).map D.int))
theorem flat_rep (n : Nat) : (List.replicate n [D.int 0]).flatten = (List.replicate n (0 : Int)).map D.int := by
  induction n with
  | zero => rfl
  | succ n ih => rw [List.replicate_succ, List.replicate_succ, List.flatten_cons, ih]; rfl
theorem enum_at {ts : List Int} {i : Nat} {d : D} (h : (enumD (ts.map D.int))[i]? = some d) : ∃ z, ts[i]? = some z ∧ d = .tup [.int (i : Int), .int z] := by
  have hi : i < ts.length := by
    have := (List.getElem?_eq_some_iff.mp h).1
    rw [enumD_len, List.length_map] at this
    exact this
  have e := enumD_at (l := ts.map D.int) (i := i) (d := .int ts[i]) (by rw [List.getElem?_map, List.getElem?_eq_getElem hi]; rfl)
  rw [h] at e
  exact ⟨ts[i], List.getElem?_eq_getElem hi, Option.some.inj e⟩
theorem pad_is (ts : List Int) {n : Nat} (h : ts.length ≤ n) : ts ++ List.replicate (n - ts.length) 0 = (List.range n).map (cf ts) := by
  refine range_is (by simp; omega) fun i u e => ?_
  by_cases hi : i < ts.length
  · rw [List.getElem?_append_left hi] at e
    exact (cf_at e).symm
  · rw [List.getElem?_append_right (by omega)] at e
    rw [cf_ge (by omega)]
    exact (List.eq_replicate_iff.mp rfl).2 u (List.mem_of_getElem? e)

theorem fn_law_sum (T : Txt LL K mg) (M : Mo3 cs sms cis mxs exs K mg) : Nonempty (Fn P w K mg base (d_law_sum.at_ K) 1 3 P_law_sum) := by
  refine Fn.of (T.d 48 (d := d_law_sum)) sc_law_sum rfl (fun _ _ _ _ _ _ us hl => match us, hl with | [_, _, _], _ => rfl) (fun ds Q ex h => ?_) (fun fd cdv A outer s H E hr => ⟨_, pdss_cons (pds_setN (i := 3) sc_law_sum.nd rfl (by first | exact Or.inl rfl | exact Or.inr rfl) (pdn_lst pda_nil)) (pdss_cons (pds_for (passes_of rfl) rfl (pdi_range1 rfl (T.f "range") (pda_cons (pd_op op_add l_I0 (pd_cb (fun h => pe_callB call_len (by rfl) (T.f "len") (by decide +kernel) h) l_len (pda_cons (pd_ix ix_tup l_ixT (pd_var (pv 0)) (pd_int pe_int) (fun _ _ => rfl)) pda_nil)) (pd_cb (fun h => pe_callB call_len (by rfl) (T.f "len") (by decide +kernel) h) l_len (pda_cons (pd_ix ix_tup l_ixT (pd_var (pv 1)) (pd_int pe_int) (fun _ _ => rfl)) pda_nil))) pda_nil)) (pdg_name (pg_name (i := 4) sc_law_sum.nd rfl (by first | exact Or.inl rfl | exact Or.inr rfl))) (pdss_cons (pds_set (i := 5) sc_law_sum.nd rfl (by first | exact Or.inl rfl | exact Or.inr rfl) (pd_int pe_int)) (pdss_cut (pds_if (pdt_cmp op_lt l_B0 (pd_var (pv 4)) (pd_cb (fun h => pe_callB call_len (by rfl) (T.f "len") (by decide +kernel) h) l_len (pda_cons (pd_ix ix_tup l_ixT (pd_var (pv 0)) (pd_int pe_int) (fun _ _ => rfl)) pda_nil)) (nomark _)) (pdss_one (pds_set (i := 5) sc_law_sum.nd rfl (by first | exact Or.inl rfl | exact Or.inr rfl) (pd_op op_mulZ l_I (pd_ix ix_list l_ixL (pd_ix ix_tup l_ixT (pd_var (pv 0)) (pd_int pe_int) (fun _ _ => rfl)) (pd_var (pv 4)) (fun _ _ => rfl)) (pd_ix ix_tup l_ixT (pd_var (pv 1)) (pd_int pe_int) (fun _ _ => rfl))))) pdss_nil) (pdss_cut (pds_if (pdt_cmp op_lt l_B0 (pd_var (pv 4)) (pd_cb (fun h => pe_callB call_len (by rfl) (T.f "len") (by decide +kernel) h) l_len (pda_cons (pd_ix ix_tup l_ixT (pd_var (pv 1)) (pd_int pe_int) (fun _ _ => rfl)) pda_nil)) (nomark _)) (pdss_one (pds_set (i := 5) sc_law_sum.nd rfl (by first | exact Or.inl rfl | exact Or.inr rfl) (pd_op op_add l_I0 (pd_var (pv 5)) (pd_op op_mulZ l_I (pd_op op_mulZ l_I (pd_var (pv 2)) (pd_ix ix_list l_ixL (pd_ix ix_tup l_ixT (pd_var (pv 1)) (pd_int pe_int) (fun _ _ => rfl)) (pd_var (pv 4)) (fun _ _ => rfl))) (pd_ix ix_tup l_ixT (pd_var (pv 0)) (pd_int pe_int) (fun _ _ => rfl)))))) pdss_nil) (pdss_one (pds_app (i := 3) (te := id) (p1 := ⟨0, 0, 0, 0⟩) (p2 := ⟨0, 0, 0, 0⟩) (p3 := ⟨0, 0, 0, 0⟩) (x := "") (fun h => pe_bm PySem.F.plainAttrs_list PySem.F.slot_list_append PySem.F.type_list_append mt_append (pv 3) (pa_cons h pa_nil)) (pd_var (pv 5)))))))) (pdss_frz 3 (pdss_one (pds_ret (pd_tup (pda_cons (pd_var (pv 3)) (pda_cons (pd_op op_mulZ l_I (pd_ix ix_tup l_ixT (pd_var (pv 0)) (pd_int pe_int) (fun _ _ => rfl)) (pd_ix ix_tup l_ixT (pd_var (pv 1)) (pd_int pe_int) (fun _ _ => rfl))) pda_nil))))))), fun ds Q ex h => ?_⟩)
  · obtain ⟨ts, b, us, c, f, rfl, _⟩ := h
    rfl
  · obtain ⟨ts, b, us, c, f, rfl, ht, hu, hb, hc, f0, f1, hl, hm, q⟩ := h
    have hbc := mul4 hb hc
    have ml : (ts.map D.int).length = ts.length := List.length_map _
    have mu : (us.map D.int).length = us.length := List.length_map _
    walk_at "go"
    refine ⟨fun i env => ∃ (zs : List Int) (k t : Sl), env = [.val (TB ts b), .val (TB us c), .val (.int f), .own (zs.map D.int), k, t] ∧ zs.length = i ∧ ∀ (j : Nat) z, zs[j]? = some z → z = cf ts j * c + f * cf us j * b, fun _ => ⟨[], _, _, rfl, rfl, fun j z h => by simp at h⟩, ?_, ?_⟩
    · rintro i x env hx ⟨zs, k, t, rfl, hzl, hz⟩
      obtain ⟨hi, rfl⟩ := rng_at hx
      have i0 : (0 : Int) + (i : Int) = (i : Int) := by omega
      rw [i0]
      have hi' : i < ts.length + us.length := by
        rw [ml, mu] at hi
        omega
      have hls : (zs.map D.int).length < sizeLine := by rw [List.length_map]; exact sz100 (by omega)
      have app : ∀ z : Int, zs.map D.int ++ [D.int z] = (zs ++ [z]).map D.int := fun z => by rw [List.map_append]; rfl
      walk_at "go"
      refine ⟨fun env => env = [.val (TB ts b), .val (TB us c), .val (.int f), .own (zs.map D.int), .val (.int (i : Int)), .val (.int (cf ts i * c))], ?_, ?_⟩
      · walk_at "go"
        rw [ml]
        refine d_ite (fun e => ?_) (fun e => ?_)
        · have e' : (i : Int) < (ts.length : Int) := of_decide_eq_true e
          obtain ⟨z, zm, hz1, hz2⟩ := at_ex (l := ts) (k := (i : Int)) (by omega) e'
          rw [Int.toNat_natCast] at hz1
          have mm := mul4 (ht z zm) hc
          rw [cf_at hz1]
          walk_at "go"
          exact fun _ => rfl
        · have e' : ¬ (i : Int) < (ts.length : Int) := of_decide_eq_false e
          rw [cf_ge (show ts.length ≤ i by omega), Int.zero_mul]
          walk_at "go"
          exact fun _ => rfl
      rintro env rfl
      walk_at "go"
      refine ⟨fun env => env = [.val (TB ts b), .val (TB us c), .val (.int f), .own (zs.map D.int), .val (.int (i : Int)), .val (.int (cf ts i * c + f * cf us i * b))], ?_, ?_⟩
      · walk_at "go"
        rw [mu]
        refine d_ite (fun e => ?_) (fun e => ?_)
        · have e' : (i : Int) < (us.length : Int) := of_decide_eq_true e
          obtain ⟨z, zm, hz1, hz2⟩ := at_ex (l := us) (k := (i : Int)) (by omega) e'
          rw [Int.toNat_natCast] at hz1
          have m1 : IntMulOk f z := mulL (by omega) (by omega)
          have m2 : IntMulOk (f * z) b := mul45 (abs_up (abs_mul_lt (a := 7) (show f.natAbs < 2 ^ 7 by omega) (hu z zm)) (by decide)) (abs_up hb (by decide))
          rw [cf_at (ts := us) hz1]
          walk_at "go"
          exact fun _ => rfl
        · have e' : ¬ (i : Int) < (us.length : Int) := of_decide_eq_false e
          rw [cf_ge (show us.length ≤ i by omega), Int.mul_zero, Int.zero_mul, Int.add_zero]
          walk_at "go"
          exact fun _ => rfl
      rintro env rfl
      walk_at "go"
      refine fun _ => ⟨zs ++ [_], _, _, by rw [← app]; rfl, by rw [List.length_append, hzl]; rfl, fun j z h => ?_⟩
      by_cases hj : j < zs.length
      · rw [List.getElem?_append_left hj] at h
        exact hz j z h
      · have hj2 := (List.getElem?_eq_some_iff.mp h).1
        rw [List.length_append] at hj2
        have hj3 : j < zs.length + 1 := hj2
        have : j = zs.length := by omega
        subst this
        rw [List.getElem?_concat_length] at h
        rw [← Option.some.inj h, hzl]
    · rintro env ⟨zs, k, t, rfl, hzl, hz⟩
      rw [rng_len, ml, mu] at hzl
      have ez : zs = sumT ts b us c f := range_is (by omega) hz
      subst ez
      walk_at "go"
      exact q

theorem fn_law_product (T : Txt LL K mg) (M : Mo3 cs sms cis mxs exs K mg) : Nonempty (Fn P w K mg base (d_law_product.at_ K) 1 2 P_law_product) := by
  refine Fn.of (T.d 49 (d := d_law_product)) sc_law_product rfl (fun _ _ _ _ _ _ us hl => match us, hl with | [_, _], _ => rfl) (fun ds Q ex h => ?_) (fun fd cdv A outer s H E hr => ⟨_, pdss_cons (pds_lcN (i := 2) (own := [("k", 3)]) rfl sc_law_product.nd rfl rfl (sw_true rfl rfl rfl (by decide +kernel)) (pdi_range1 rfl (T.f "range") (pda_cons (pd_op op_add l_I0 (pd_cb (fun h => pe_callB call_len (by rfl) (T.f "len") (by decide +kernel) h) l_len (pda_cons (pd_ix ix_tup l_ixT (pd_var (pv 0)) (pd_int pe_int) (fun _ _ => rfl)) pda_nil)) (pd_cb (fun h => pe_callB call_len (by rfl) (T.f "len") (by decide +kernel) h) l_len (pda_cons (pd_ix ix_tup l_ixT (pd_var (pv 1)) (pd_int pe_int) (fun _ _ => rfl)) pda_nil))) pda_nil)) (blkOk_by (N := ["p", "q", "tops", "k", "i", "j"]) (sc := defScope s_law_product) (by decide +kernel)) (by decide) (fun _ _ _ _ _ => (pdg_name (pg_name (i := 3) sc_law_product.nd rfl (Or.inl rfl)))) (fun _ _ _ _ _ => pdts_nil) (fun _ _ _ _ _ => pd_int pe_int)) (pdss_cons (pds_for (passes_of rfl) rfl (pdi_range1 rfl (T.f "range") (pda_cons (pd_cb (fun h => pe_callB call_len (by rfl) (T.f "len") (by decide +kernel) h) l_len (pda_cons (pd_ix ix_tup l_ixT (pd_var (pv 0)) (pd_int pe_int) (fun _ _ => rfl)) pda_nil)) pda_nil)) (pdg_name (pg_name (i := 4) sc_law_product.nd rfl (by first | exact Or.inl rfl | exact Or.inr rfl))) (pdss_one (pds_for (passes_of rfl) rfl (pdi_range1 rfl (T.f "range") (pda_cons (pd_cb (fun h => pe_callB call_len (by rfl) (T.f "len") (by decide +kernel) h) l_len (pda_cons (pd_ix ix_tup l_ixT (pd_var (pv 1)) (pd_int pe_int) (fun _ _ => rfl)) pda_nil)) pda_nil)) (pdg_name (pg_name (i := 5) sc_law_product.nd rfl (by first | exact Or.inl rfl | exact Or.inr rfl))) (pdss_one (pds_put (i := 2) (kk := ⟨0, 0, 0, 0⟩) (fun h => pg_sub (pv 2) h set_list) (pd_op op_add l_I0 (pd_ixO ix_list (pv 2) (pd_op op_add l_I0 (pd_var (pv 4)) (pd_var (pv 5))) (fun _ _ => rfl)) (pd_op op_mulZ l_I (pd_ix ix_list l_ixL (pd_ix ix_tup l_ixT (pd_var (pv 0)) (pd_int pe_int) (fun _ _ => rfl)) (pd_var (pv 4)) (fun _ _ => rfl)) (pd_ix ix_list l_ixL (pd_ix ix_tup l_ixT (pd_var (pv 1)) (pd_int pe_int) (fun _ _ => rfl)) (pd_var (pv 5)) (fun _ _ => rfl)))) (pd_op op_add l_I0 (pd_var (pv 4)) (pd_var (pv 5)))))))) (pdss_frz 2 (pdss_one (pds_ret (pd_tup (pda_cons (pd_var (pv 2)) (pda_cons (pd_op op_mulZ l_I (pd_ix ix_tup l_ixT (pd_var (pv 0)) (pd_int pe_int) (fun _ _ => rfl)) (pd_ix ix_tup l_ixT (pd_var (pv 1)) (pd_int pe_int) (fun _ _ => rfl))) pda_nil))))))), fun ds Q ex h => ?_⟩)
  · obtain ⟨ts, b, us, c, rfl, _⟩ := h
    rfl
  · obtain ⟨ts, b, us, c, rfl, ht, hu, hb, hc, hl, hm, q⟩ := h
    have hbc := mul4 hb hc
    have ml : (ts.map D.int).length = ts.length := List.length_map _
    have mu : (us.map D.int).length = us.length := List.length_map _
    walk_at "go"
    rw [ml, mu]
    have hrl : (rngD 0 (((ts.length : Nat) : Int) + ((us.length : Nat) : Int)).toNat).length < sizeLine := by rw [rng_len]; exact sz100 (by omega)
    walk_at "go"
    refine ⟨fun i z => z = some (.int 0), ?_, ?_⟩
    · rintro i x hx
      walk_at "go"
      exact fun _ => rfl
    intro zs hl2 hz
    rw [rng_len] at hl2
    obtain ⟨ms, e, hms, hm2⟩ := lc_map D.int (P := fun i v => v = 0) hl2 (fun i z h => ⟨_, hz i z h, rfl⟩)
    have em : ms = (List.range (ts.length + us.length)).map (cv (cf (ts.take 0)) (cf us)) := zeros_is ts us (by omega) fun z h => by
      obtain ⟨i, hi⟩ := List.getElem?_of_mem h
      exact hm2 i z hi
    rw [e, em]
    clear e em hms hm2 hz hl2 zs
    walk_at "go"
    refine ⟨fun i env => ∃ (k x y : Sl), env = [.val (TB ts b), .val (TB us c), .own (((List.range (ts.length + us.length)).map (cv (cf (ts.take i)) (cf us))).map D.int), k, x, y], fun _ => ⟨_, _, _, rfl⟩, ?_, ?_⟩
    · rintro i x env hx ⟨k, x', y, rfl⟩
      obtain ⟨hi, rfl⟩ := rng_at hx
      have i0 : (0 : Int) + (i : Int) = (i : Int) := by omega
      rw [ml, Int.toNat_natCast] at hi
      rw [i0]
      have hz1 : ts[i]? = some ts[i] := List.getElem?_eq_getElem hi
      have htz := ht _ (List.getElem_mem hi)
      generalize ts[i] = z at hz1 htz
      have az := at_map (f := D.int) (k := (i : Int)) (by omega) (by rw [Int.toNat_natCast]; exact hz1)
      walk_at "go"
      refine ⟨fun j env => ∃ (k y : Sl), env = [.val (TB ts b), .val (TB us c), .own (((List.range (ts.length + us.length)).map (partP ts us i z j)).map D.int), k, .val (.int (i : Int)), y], fun _ => ⟨_, _, by rw [part_zero]; rfl⟩, ?_, ?_⟩
      · rintro j x env hx ⟨k, y, rfl⟩
        obtain ⟨hj, rfl⟩ := rng_at hx
        have j0 : (0 : Int) + (j : Int) = (j : Int) := by omega
        rw [mu, Int.toNat_natCast] at hj
        rw [j0]
        have hw1 : us[j]? = some us[j] := List.getElem?_eq_getElem hj
        have huw := hu _ (List.getElem_mem hj)
        generalize us[j] = w at hw1 huw
        have aw := at_map (f := D.int) (k := (j : Int)) (by omega) (by rw [Int.toNat_natCast]; exact hw1)
        have eij : (i : Int) + (j : Int) = ((i + j : Nat) : Int) := by omega
        have hN : i + j < ts.length + us.length := by omega
        have aN := at_map (f := D.int) (k := ((i + j : Nat) : Int)) (by omega) (by rw [Int.toNat_natCast]; exact range_at (F := partP ts us i z j) hN)
        have iN : ixN (((List.range (ts.length + us.length)).map (partP ts us i z j)).map D.int).length ((i + j : Nat) : Int) = some (i + j) := ixN_nat (by rw [List.length_map, List.length_map, List.length_range]; exact hN)
        have mzw := mul4 htz huw
        have st : (((List.range (ts.length + us.length)).map (partP ts us i z j)).map D.int).set (i + j) (D.int (partP ts us i z j (i + j) + z * w)) = ((List.range (ts.length + us.length)).map (partP ts us i z (j + 1))).map D.int := by
          rw [← List.map_set, set_range (part_step (ts := ts) (i := i) (z := z) hw1)]
        walk_at "go"
        exact fun _ => ⟨_, _, by rw [← st]; rfl⟩
      · rintro env ⟨k, y, rfl⟩
        rw [rng_len, mu, Int.toNat_natCast, part_full hz1]
        exact fun _ => ⟨_, _, _, rfl⟩
    · rintro env ⟨k, x, y, rfl⟩
      rw [rng_len, ml, Int.toNat_natCast, List.take_length]
      walk_at "go"
      exact q

theorem fn_padded (T : Txt LL K mg) (M : Mo3 cs sms cis mxs exs K mg) : Nonempty (Fn P w K mg base (d_padded.at_ K) 1 2 P_padded) := by
  refine Fn.of (T.d 31 (d := d_padded)) sc_padded rfl (fun _ _ _ _ _ _ us hl => match us, hl with | [_, _], _ => rfl) (fun ds Q ex h => ?_) (fun fd cdv A outer s H E hr => ⟨_, pdss_one (pds_ret (pd_new (pdn_catA (pd_new (pdn_cb (fun h => pe_callTy call_list_of (by rfl) (T.f "list") (by decide +kernel) h) l_list (pda_cons (pd_var (pv 0)) pda_nil))) (pd_new (pdn_rep (pdn_lst (pda_cons (pd_int pe_int) pda_nil)) (pd_op op_sub l_I0 (pd_var (pv 1)) (pd_cb (fun h => pe_callB call_len (by rfl) (T.f "len") (by decide +kernel) h) l_len (pda_cons (pd_var (pv 0)) pda_nil)))))))), fun ds Q ex h => ?_⟩)
  · obtain ⟨ts, n, rfl, _⟩ := h
    rfl
  · obtain ⟨ts, n, rfl, hl, hn, q⟩ := h
    have ml : (ts.map D.int).length = ts.length := List.length_map _
    walk_at "go"
    rw [ml]
    have en : ((n : Int) - ((ts.length : Nat) : Int)).toNat = n - ts.length := by omega
    rw [en, flat_rep]
    refine And.intro (by rw [List.length_map, List.length_replicate]; exact Nat.le_of_lt (sz100 (by omega))) ?_
    rw [← List.map_append, pad_is ts hl]
    exact q

theorem fn_product (T : Txt LL K mg) (M : Mo3 cs sms cis mxs exs K mg) : Nonempty (Fn P w K mg base (d_product.at_ K) 1 2 P_product) := by
  refine Fn.of (T.d 32 (d := d_product)) sc_product rfl (fun _ _ _ _ _ _ us hl => match us, hl with | [_, _], _ => rfl) (fun ds Q ex h => ?_) (fun fd cdv A outer s H E hr => ⟨_, pdss_cons (pds_setN (i := 2) sc_product.nd rfl (by first | exact Or.inl rfl | exact Or.inr rfl) (pdn_rep (pdn_lst (pda_cons (pd_int pe_int) pda_nil)) (pd_cb (fun h => pe_callB (call_max2 rfl) (by rfl) (T.f "max") (by decide +kernel) h) l_max2 (pda_cons (pd_int pe_int) (pda_cons (pd_op op_sub l_I0 (pd_op op_add l_I0 (pd_cb (fun h => pe_callB call_len (by rfl) (T.f "len") (by decide +kernel) h) l_len (pda_cons (pd_var (pv 0)) pda_nil)) (pd_cb (fun h => pe_callB call_len (by rfl) (T.f "len") (by decide +kernel) h) l_len (pda_cons (pd_var (pv 1)) pda_nil))) (pd_int pe_int)) pda_nil))))) (pdss_cons (pds_for (passes_of rfl) rfl (pdi_enumT rfl (T.f "enumerate") (pda_cons (pd_var (pv 0)) pda_nil)) (pdg_tup (n := 2) (by rfl) (pdgs_cons (pdg_name (pg_name (i := 3) sc_product.nd rfl (by first | exact Or.inl rfl | exact Or.inr rfl))) (pdgs_cons (pdg_name (pg_name (i := 4) sc_product.nd rfl (by first | exact Or.inl rfl | exact Or.inr rfl))) pdgs_nil))) (pdss_one (pds_for (passes_of rfl) rfl (pdi_enumT rfl (T.f "enumerate") (pda_cons (pd_var (pv 1)) pda_nil)) (pdg_tup (n := 2) (by rfl) (pdgs_cons (pdg_name (pg_name (i := 5) sc_product.nd rfl (by first | exact Or.inl rfl | exact Or.inr rfl))) (pdgs_cons (pdg_name (pg_name (i := 6) sc_product.nd rfl (by first | exact Or.inl rfl | exact Or.inr rfl))) pdgs_nil))) (pdss_one (pds_put (i := 2) (kk := ⟨0, 0, 0, 0⟩) (fun h => pg_sub (pv 2) h set_list) (pd_op op_add l_I0 (pd_ixO ix_list (pv 2) (pd_op op_add l_I0 (pd_var (pv 3)) (pd_var (pv 5))) (fun _ _ => rfl)) (pd_op op_mulZ l_I (pd_var (pv 4)) (pd_var (pv 6)))) (pd_op op_add l_I0 (pd_var (pv 3)) (pd_var (pv 5)))))))) (pdss_frz 2 (pdss_one (pds_ret (pd_var (pv 2)))))), fun ds Q ex h => ?_⟩)
  · obtain ⟨ts, us, rfl, _⟩ := h
    rfl
  · obtain ⟨ts, us, rfl, ht, hu, hl, hm, q⟩ := h
    have ml : (ts.map D.int).length = ts.length := List.length_map _
    have mu : (us.map D.int).length = us.length := List.length_map _
    walk_at "go"
    have eN : (max 0 ((((ts.map D.int).length : Nat) : Int) + (((us.map D.int).length : Nat) : Int) - 1)).toNat = ts.length + us.length - 1 := by
      rw [ml, mu]
      omega
    have ez : (List.replicate (max 0 ((((ts.map D.int).length : Nat) : Int) + (((us.map D.int).length : Nat) : Int) - 1)).toNat [D.int 0]).flatten = ((List.range (ts.length + us.length - 1)).map (cv (cf (ts.take 0)) (cf us))).map D.int := by
      rw [eN, flat_rep, zeros_is (N := ts.length + us.length - 1) ts us (by simp) fun z h => (List.mem_replicate.mp h).2]
    refine ⟨fun i env => ∃ (k x y w : Sl), env = [.val (.tup (ts.map D.int)), .val (.tup (us.map D.int)), .own (((List.range (ts.length + us.length - 1)).map (cv (cf (ts.take i)) (cf us))).map D.int), k, x, y, w], fun _ => ⟨_, _, _, _, by rw [← ez]; rfl⟩, ?_, ?_⟩
    · rintro i x env hx ⟨k, x', y, v, rfl⟩
      obtain ⟨z, hz1, rfl⟩ := enum_at hx
      have hi := (List.getElem?_eq_some_iff.mp hz1).1
      have htz := ht z (List.mem_of_getElem? hz1)
      walk_at "go"
      refine ⟨fun j env => ∃ (y w : Sl), env = [.val (.tup (ts.map D.int)), .val (.tup (us.map D.int)), .own (((List.range (ts.length + us.length - 1)).map (partP ts us i z j)).map D.int), .val (.int (i : Int)), .val (.int z), y, w], fun _ => ⟨_, _, by rw [part_zero]; rfl⟩, ?_, ?_⟩
      · rintro j x env hx ⟨y, v, rfl⟩
        obtain ⟨w, hw1, rfl⟩ := enum_at hx
        have hj := (List.getElem?_eq_some_iff.mp hw1).1
        have huw := hu w (List.mem_of_getElem? hw1)
        have hN : i + j < ts.length + us.length - 1 := by omega
        have aN := at_map (f := D.int) (k := ((i + j : Nat) : Int)) (by omega) (by rw [Int.toNat_natCast]; exact range_at (F := partP ts us i z j) hN)
        have iN : ixN (((List.range (ts.length + us.length - 1)).map (partP ts us i z j)).map D.int).length ((i + j : Nat) : Int) = some (i + j) := ixN_nat (by rw [List.length_map, List.length_map, List.length_range]; exact hN)
        have mzw := mul4 htz huw
        have st : (((List.range (ts.length + us.length - 1)).map (partP ts us i z j)).map D.int).set (i + j) (D.int (partP ts us i z j (i + j) + z * w)) = ((List.range (ts.length + us.length - 1)).map (partP ts us i z (j + 1))).map D.int := by
          rw [← List.map_set, set_range (part_step (ts := ts) (i := i) (z := z) hw1)]
        walk_at "go"
        exact fun _ => ⟨_, _, by rw [← st]; rfl⟩
      · rintro env ⟨y, v, rfl⟩
        rw [enumD_len, mu, part_full hz1]
        exact fun _ => ⟨_, _, _, _, rfl⟩
    · rintro env ⟨k, x, y, v, rfl⟩
      rw [enumD_len, ml, List.take_length]
      walk_at "go"
      exact q
end
end K08

namespace K08
open PySem PySem.Spec PyProof.Rows L2 LR DL
section
variable {P : Program} {w : World} {K : PySem.W.Frag} {mg : Str → Option Value} {base : Heap}
local macro_rules | `(tactic| walk_at "side") => `(tactic| first | with_reducible assumption | exact Bsame.mk (by with_reducible rfl) | omega | rfl | assumption | exact ⟨_, rfl⟩ | exact mulL (by omega) (by omega) | exact mulR (by omega) (by omega) | exact mulF (by decide) (by decide) | exact ⟨by decide, by decide +kernel⟩ | decide | exact Nat.le_of_ble_eq_true rfl | (simp only [List.length_cons, List.length_nil, List.length_map, List.nil_append, List.cons_append, sizeLine_eq]; omega) | (simp only [List.map_cons, List.map_nil, List.nil_append, List.cons_append]; decide +kernel))
local macro_rules | `(tactic| walk_at "go") => `(tactic| repeat (first
  | refine ⟨_, rfl, ?_⟩
  | refine ⟨_, _, rfl, rfl, ?_⟩
  | refine ⟨_, _, rfl, ?_⟩
  | refine ⟨_, _, _, rfl, rfl, ?_⟩
  | refine ⟨_, _, _, rfl, ?_⟩
  | refine ⟨_, _, _, _, rfl, rfl, ?_⟩
  | refine ⟨_, _, _, _, rfl, ?_⟩
  | refine ⟨_, _, rfl, by assumption, ?_⟩
  | refine ⟨_, _, _, rfl, rfl, rfl, ?_⟩
  | refine ⟨_, _, _, rfl, rfl, by assumption, ?_⟩
  | refine ⟨_, _, _, rfl, rfl, by walk_at "side", by assumption, ?_⟩
  | refine ⟨_, _, _, rfl, rfl, by walk_at "side", rfl, ?_⟩
  | refine ⟨_, _, _, rfl, rfl, rfl, by assumption, ?_⟩
  | refine .inl ⟨_, rfl, ?_⟩
  | refine .inr ⟨_, rfl, ?_⟩
  | refine .inr (.inl ⟨_, rfl, ?_⟩)
  | refine .inr (.inr ⟨_, rfl, ?_⟩)
  | refine ⟨_, .inl rfl, ?_⟩
  | refine ⟨_, .inr rfl, ?_⟩
  | refine .inr ⟨_, _, rfl, ?_⟩
  | refine .inl ⟨_, _, rfl, ?_⟩
  | refine And.intro (by walk_at "side") ?_))


theorem mul5 {t u : Int} (h1 : t.natAbs < 2 ^ 4000) (h2 : u.natAbs < 2 ^ 4000) : (t * u).natAbs < 2 ^ 8999 := abs_up (abs_mul_lt h1 h2) (by decide)
def P_Poly_mul : Prm := fun ds Q _ => ∃ (ts : List Int) (b : Int) (d : D), ds = [PO ts b, d] ∧ Pol 4000 ts b ∧ ((∃ us c, d = PO us c ∧ Pol 4000 us c ∧ Q (PO (pT (prodT ts us) (b * c)) (pB (prodT ts us) (b * c)))) ∨
  (∃ p q, Fac d p q ∧ p.natAbs < 2 ^ 1000 ∧ q.natAbs < 2 ^ 1000 ∧ Q (PO (pT (mulT ts p) (b * q)) (pB (mulT ts p) (b * q)))))
def P_Poly_rmul : Prm := fun ds Q _ => ∃ (ts : List Int) (b : Int) (d : D) (p q : Int), ds = [PO ts b, d] ∧ Pol 4000 ts b ∧ Fac d p q ∧ p.natAbs < 2 ^ 1000 ∧ q.natAbs < 2 ^ 1000 ∧ Q (PO (pT (mulT ts p) (b * q)) (pB (mulT ts p) (b * q)))
def P_Poly_neg : Prm := fun ds Q _ => ∃ (ts : List Int) (b : Int), ds = [PO ts b] ∧ Pol 4000 ts b ∧ Q (PO (negT ts) b)
def P_Poly_add : Prm := fun ds Q _ => ∃ (ts : List Int) (b : Int) (us : List Int) (c : Int), ds = [PO ts b, PO us c] ∧ Pol 4000 ts b ∧ Pol 4000 us c ∧ Q (PO (pT (addP ts b us c) (b * c)) (pB (addP ts b us c) (b * c)))
def P_Poly_sub : Prm := fun ds Q _ => ∃ (ts : List Int) (b : Int) (us : List Int) (c : Int), ds = [PO ts b, PO us c] ∧ Pol 4000 ts b ∧ Pol 4000 us c ∧ Q (PO (pT (addP ts b (negT us) c) (b * c)) (pB (addP ts b (negT us) c) (b * c)))
def P_Poly_monic : Prm := fun ds Q ex => ∃ (ts : List Int) (b : Int), ds = [PO ts b] ∧ Pol 4000 ts b ∧ (ts = [] → ex "ZeroPoly" (xD sh_ZeroPoly [])) ∧ (ts ≠ [] → Q (PO (pT ts (cf ts (ts.length - 1))) (pB ts (cf ts (ts.length - 1)))))
def P_Poly_constant : Prm := fun ds Q _ => ∃ (t b : Int), ds = [R t b] ∧ 0 < b ∧ b.natAbs < 2 ^ 8999 ∧ Q (PO (pT [t] b) (pB [t] b))
def P_Poly_pow : Prm := fun ds Q _ => ∃ (ts : List Int) (b : Int) (n e : Nat), ds = [PO ts b, .int (e : Int)] ∧ e ≤ 16 ∧ Pol n ts b ∧ 1 + e * (n + 12) ≤ 4000 ∧ n ≤ 4000 ∧ 1 + e * ts.length ≤ 1000 ∧
  ∀ us c, Pol (1 + e * (n + 12)) us c → PEq (cf us) c (pw (cf ts) e) (b ^ e) → Q (PO us c)

theorem fn_Poly_mul (T : Txt LL K mg) (M : Mo3 cs sms cis mxs exs K mg) : Nonempty (Fn P w K mg base (d_Poly_mul.at_ K) 7 2 P_Poly_mul) := by
  obtain ⟨⟨F_Poly_init⟩, ⟨F_Poly_init_d⟩⟩ := fn_Poly_init (P := P) (w := w) (base := base) T M
  obtain ⟨F_product⟩ := fn_product (P := P) (w := w) (base := base) T M
  obtain ⟨F_is_factor⟩ := fn_is_factor (P := P) (w := w) (base := base) T M
  obtain ⟨F_as_ratio⟩ := fn_as_ratio (P := P) (w := w) (base := base) T M
  refine Fn.of (T.d 19 (d := d_Poly_mul)) sc_Poly_mul rfl (fun _ _ _ _ _ _ us hl => match us, hl with | [_, _], _ => rfl) (fun ds Q ex h => ?_) (fun fd cdv A outer s H E hr => ⟨_, pdss_cons (pds_if (pdt_val (pd_isi (cr := (.own 3)) M.isi M.cls (fun c h => by cases h; decide) (fun h => pe_callB call_isi (by rfl) (T.f "isinstance") (by decide +kernel) (pa_cons h (pa_cons (pe_glob (v := .ref (He.ga K "Poly")) rfl (T.g "Poly") rfl) pa_nil))) (pd_var (pv 1)))) (pdss_one (pds_ret (pd_make (c := 3) (T.mkk "Poly") F_Poly_init (fun _ _ => .nil) (hr.mono (by decide)) (by rfl) (T.g "Poly") (takes_of rfl rfl rfl rfl) (pda_cons (pd_call F_product (hr.mono (by decide)) (by rfl) (T.g "_product") (T.k "_product") (takes_of rfl rfl rfl rfl) (pda_cons (pd_fld (c := 3) (k := 0) (T.cl "Poly") (T.no "Poly" "tops") fk_Poly_tops (pd_var (pv 0))) (pda_cons (pd_fld (c := 3) (k := 0) (T.cl "Poly") (T.no "Poly" "tops") fk_Poly_tops (pd_var (pv 1))) pda_nil))) (pda_cons (pd_op op_mulZ l_I (pd_fld (c := 3) (k := 1) (T.cl "Poly") (T.no "Poly" "bottom") fk_Poly_bottom (pd_var (pv 0))) (pd_fld (c := 3) (k := 1) (T.cl "Poly") (T.no "Poly" "bottom") fk_Poly_bottom (pd_var (pv 1)))) pda_nil))))) pdss_nil) (pdss_cons (pds_if (pdt_not (pdt_val (pd_call F_is_factor (hr.mono (by decide)) (by rfl) (T.g "is_factor") (T.k "is_factor") (takes_of rfl rfl rfl rfl) (pda_cons (pd_var (pv 1)) pda_nil)))) pdss_never pdss_nil) (pdss_cons (pds_set (i := 2) sc_Poly_mul.nd rfl (by first | exact Or.inl rfl | exact Or.inr rfl) (pd_call F_as_ratio (hr.mono (by decide)) (by rfl) (T.g "as_ratio") (T.k "as_ratio") (takes_of rfl rfl rfl rfl) (pda_cons (pd_var (pv 1)) pda_nil))) (pdss_one (pds_ret (pd_make (c := 3) (T.mkk "Poly") F_Poly_init (fun _ _ => .nil) (hr.mono (by decide)) (by rfl) (T.g "Poly") (takes_of rfl rfl rfl rfl) (pda_cons (pd_new (pdn_lc (own := [("top", 3)]) rfl sc_Poly_mul.nd (pdi_tup (pd_fld (c := 3) (k := 0) (T.cl "Poly") (T.no "Poly" "tops") fk_Poly_tops (pd_var (pv 0)))) (blkOk_by (N := ["self", "other", "factor", "top"]) (sc := defScope s_Poly_mul) (by decide +kernel)) (by decide) (fun _ _ _ _ _ => (pdg_name (pg_name (i := 3) sc_Poly_mul.nd rfl (Or.inl rfl)))) (fun _ _ _ _ _ => pdts_nil) (fun _ _ _ _ _ => pd_op op_mulZ l_I (pd_var (pv 3)) (pd_fld (c := 0) (k := 0) (T.cl "Ratio") (T.no "Ratio" "top") fk_Ratio_top (pd_var (pv 2)))))) (pda_cons (pd_op op_mulZ l_I (pd_fld (c := 3) (k := 1) (T.cl "Poly") (T.no "Poly" "bottom") fk_Poly_bottom (pd_var (pv 0))) (pd_fld (c := 0) (k := 1) (T.cl "Ratio") (T.no "Ratio" "bottom") fk_Ratio_bottom (pd_var (pv 2)))) pda_nil))))))), fun ds Q ex h => ?_⟩)
  · obtain ⟨ts, b, d, rfl, _⟩ := h
    rfl
  · obtain ⟨ts, b, d, rfl, hv, q⟩ := h
    have hls := hv.len
    have hb := hv.ne
    rcases q with ⟨us, c, rfl, hw, q⟩ | ⟨p, z, hf, hp, hz, q⟩
    · have hbc : b * c ≠ 0 := Int.mul_ne_zero hb hw.ne
      have m1 := mul4 hv.sb hw.sb
      have hl2 := hw.len
      walk_at "go"
      refine ⟨hv.bd, hw.bd, by omega, by omega, ?_⟩
      walk_at "go"
      exact ⟨_, prodT ts us, b * c, rfl, .inl rfl, by rw [prod_len]; omega, fun z => absurd z hbc, fun _ => ⟨mul5 hv.sb hw.sb, q⟩⟩
    · have z0 : 0 < z := by rcases hf with ⟨_, rfl⟩ | ⟨_, h⟩; exact Int.one_pos; exact h
      have hk : isD d (.own 3) = false := by rcases hf with ⟨rfl, _⟩ | ⟨rfl, _⟩ <;> rfl
      have hkk : kind cs d = true := by rcases hf with ⟨rfl, _⟩ | ⟨rfl, _⟩ <;> rfl
      have hbz : b * z ≠ 0 := Int.mul_ne_zero hb (by omega)
      have mz := mul4 hv.sb (abs_up hz (by decide))
      have hm5 := mul5 hv.sb (abs_up hz (by decide))
      walk_at "go"
      rw [hk]
      walk_at "go"
      refine ⟨_, p, z, rfl, hf, ?_⟩
      walk_at "go"
      refine ⟨_, p, z, rfl, hf, ?_⟩
      walk_at "go"
      refine ⟨fun i z => ∃ t : Int, ts[i]? = some t ∧ z = some (.int (t * p)), ?_, ?_⟩
      · rintro i x hx
        obtain ⟨z, hz, rfl⟩ := map_at hx
        have hz2 : IntMulOk z p := mul4 (hv.bd z (List.mem_of_getElem? hz)) (abs_up hp (by decide))
        walk_at "go"
        exact fun _ => ⟨z, hz, rfl⟩
      intro zs hl2 hz
      obtain ⟨ms, e, hm, hm2⟩ := lc_map D.int (P := fun i v => ∃ t : Int, ts[i]? = some t ∧ v = t * p) hl2 (fun i z h => by
        obtain ⟨t, h1, h2⟩ := hz i z h
        exact ⟨_, h2, t, h1, rfl⟩)
      have em : ms = ts.map fun t => t * p := map_is (by rw [hm, List.length_map]) hm2
      rw [e, em]
      walk_at "go"
      exact ⟨_, mulT ts p, b * z, rfl, .inl rfl, by unfold mulT; rw [List.length_map]; omega, fun w => absurd w hbz, fun _ => ⟨hm5, q⟩⟩

theorem fn_Poly_rmul (T : Txt LL K mg) (M : Mo3 cs sms cis mxs exs K mg) : Nonempty (Fn P w K mg base (d_Poly_rmul.at_ K) 9 2 P_Poly_rmul) := by
  obtain ⟨F_is_factor⟩ := fn_is_factor (P := P) (w := w) (base := base) T M
  obtain ⟨F_Poly_mul⟩ := fn_Poly_mul (P := P) (w := w) (base := base) T M
  refine Fn.of (T.d 20 (d := d_Poly_rmul)) sc_Poly_rmul rfl (fun _ _ _ _ _ _ us hl => match us, hl with | [_, _], _ => rfl) (fun ds Q ex h => ?_) (fun fd cdv A outer s H E hr => ⟨_, pdss_cons (pds_if (pdt_not (pdt_val (pd_call F_is_factor (hr.mono (by decide)) (by rfl) (T.g "is_factor") (T.k "is_factor") (takes_of rfl rfl rfl rfl) (pda_cons (pd_var (pv 1)) pda_nil)))) pdss_never pdss_nil) (pdss_one (pds_ret (pd_mixO (op := .Mult) (c := 3) (M.mx "mul" [0, 3]) (by decide) (by rw [dm_Mult]; exact T.own "Poly" "__mul__") (T.fnn "Poly" "__mul__") F_Poly_mul (hr.mono (by decide)) (takes_of rfl rfl rfl rfl) (pd_var (pv 0)) (pd_var (pv 1))))), fun ds Q ex h => ?_⟩)
  · obtain ⟨ts, b, d, p, z, rfl, _⟩ := h
    rfl
  · obtain ⟨ts, b, d, p, z, rfl, hv, hf, hp, hz, q⟩ := h
    walk_at "go"
    refine ⟨_, p, z, rfl, hf, ?_⟩
    walk_at "go"
    exact ⟨by rcases hf with ⟨rfl, _⟩ | ⟨rfl, _⟩ <;> rfl, ts, b, d, rfl, hv, .inr ⟨p, z, hf, hp, hz, q⟩⟩

theorem fn_Poly_neg (T : Txt LL K mg) (M : Mo3 cs sms cis mxs exs K mg) : Nonempty (Fn P w K mg base (d_Poly_neg.at_ K) 9 1 P_Poly_neg) := by
  obtain ⟨F_Poly_mul⟩ := fn_Poly_mul (P := P) (w := w) (base := base) T M
  refine Fn.of (T.d 18 (d := d_Poly_neg)) sc_Poly_neg rfl (fun _ _ _ _ _ _ us hl => match us, hl with | [_], _ => rfl) (fun ds Q ex h => ?_) (fun fd cdv A outer s H E hr => ⟨_, pdss_one (pds_ret (pd_mixO (op := .Mult) (c := 3) (M.mx "mul" [0, 3]) (by decide) (by rw [dm_Mult]; exact T.own "Poly" "__mul__") (T.fnn "Poly" "__mul__") F_Poly_mul (hr.mono (by decide)) (takes_of rfl rfl rfl rfl) (pd_var (pv 0)) (pd_un un_neg l_U (pd_int pe_int)))), fun ds Q ex h => ?_⟩)
  · obtain ⟨ts, b, rfl, _⟩ := h
    rfl
  · obtain ⟨ts, b, rfl, hv, q⟩ := h
    walk_at "go"
    refine .inr ⟨-1, 1, .inl ⟨rfl, rfl⟩, Nat.one_lt_two_pow (by decide), Nat.one_lt_two_pow (by decide), ?_⟩
    rw [(neg_low hv).1, (neg_low hv).2]
    exact q

theorem fn_Poly_add (T : Txt LL K mg) (M : Mo3 cs sms cis mxs exs K mg) : Nonempty (Fn P w K mg base (d_Poly_add.at_ K) 6 2 P_Poly_add) := by
  obtain ⟨F_padded⟩ := fn_padded (P := P) (w := w) (base := base) T M
  obtain ⟨⟨F_Poly_init⟩, ⟨F_Poly_init_d⟩⟩ := fn_Poly_init (P := P) (w := w) (base := base) T M
  refine Fn.of (T.d 16 (d := d_Poly_add)) sc_Poly_add rfl (fun _ _ _ _ _ _ us hl => match us, hl with | [_, _], _ => rfl) (fun ds Q ex h => ?_) (fun fd cdv A outer s H E hr => ⟨_, pdss_cons (pds_if (pdt_not (pdt_val (pd_isi (cr := (.own 3)) M.isi M.cls (fun c h => by cases h; decide) (fun h => pe_callB call_isi (by rfl) (T.f "isinstance") (by decide +kernel) (pa_cons h (pa_cons (pe_glob (v := .ref (He.ga K "Poly")) rfl (T.g "Poly") rfl) pa_nil))) (pd_var (pv 1))))) pdss_never pdss_nil) (pdss_cons (pds_set (i := 2) sc_Poly_add.nd rfl (by first | exact Or.inl rfl | exact Or.inr rfl) (pd_cb (fun h => pe_callB (call_max2 rfl) (by rfl) (T.f "max") (by decide +kernel) h) l_max2 (pda_cons (pd_cb (fun h => pe_callB call_len (by rfl) (T.f "len") (by decide +kernel) h) l_len (pda_cons (pd_fld (c := 3) (k := 0) (T.cl "Poly") (T.no "Poly" "tops") fk_Poly_tops (pd_var (pv 0))) pda_nil)) (pda_cons (pd_cb (fun h => pe_callB call_len (by rfl) (T.f "len") (by decide +kernel) h) l_len (pda_cons (pd_fld (c := 3) (k := 0) (T.cl "Poly") (T.no "Poly" "tops") fk_Poly_tops (pd_var (pv 1))) pda_nil)) pda_nil)))) (pdss_cons (pds_set (i := 3) sc_Poly_add.nd rfl (by first | exact Or.inl rfl | exact Or.inr rfl) (pd_call F_padded (hr.mono (by decide)) (by rfl) (T.g "_padded") (T.k "_padded") (takes_of rfl rfl rfl rfl) (pda_cons (pd_fld (c := 3) (k := 0) (T.cl "Poly") (T.no "Poly" "tops") fk_Poly_tops (pd_var (pv 0))) (pda_cons (pd_var (pv 2)) pda_nil)))) (pdss_cons (pds_set (i := 4) sc_Poly_add.nd rfl (by first | exact Or.inl rfl | exact Or.inr rfl) (pd_call F_padded (hr.mono (by decide)) (by rfl) (T.g "_padded") (T.k "_padded") (takes_of rfl rfl rfl rfl) (pda_cons (pd_fld (c := 3) (k := 0) (T.cl "Poly") (T.no "Poly" "tops") fk_Poly_tops (pd_var (pv 1))) (pda_cons (pd_var (pv 2)) pda_nil)))) (pdss_cons (pds_lcV (i := 5) (own := [("one", 6), ("two", 7)]) rfl sc_Poly_add.nd rfl rfl (sw_true rfl rfl rfl (by decide +kernel)) (pdi_zip rfl (T.f "zip") (pda_cons (pd_var (pv 3)) (pda_cons (pd_var (pv 4)) pda_nil))) (blkOk_by (N := ["self", "other", "many", "left", "right", "tops", "one", "two"]) (sc := defScope s_Poly_add) (by decide +kernel)) (by decide) (fun _ _ _ _ _ => (pdg_tup (n := 2) (by rfl) (pdgs_cons (pdg_name (pg_name (i := 6) sc_Poly_add.nd rfl (Or.inl rfl))) (pdgs_cons (pdg_name (pg_name (i := 7) sc_Poly_add.nd rfl (Or.inl rfl))) pdgs_nil)))) (fun _ _ _ _ _ => pdts_nil) (fun _ _ _ _ _ => pd_op op_add l_I0 (pd_op op_mulZ l_I (pd_var (pv 6)) (pd_fld (c := 3) (k := 1) (T.cl "Poly") (T.no "Poly" "bottom") fk_Poly_bottom (pd_var (pv 1)))) (pd_op op_mulZ l_I (pd_var (pv 7)) (pd_fld (c := 3) (k := 1) (T.cl "Poly") (T.no "Poly" "bottom") fk_Poly_bottom (pd_var (pv 0)))))) (pdss_one (pds_ret (pd_make (c := 3) (T.mkk "Poly") F_Poly_init (fun _ _ => .nil) (hr.mono (by decide)) (by rfl) (T.g "Poly") (takes_of rfl rfl rfl rfl) (pda_cons (pd_var (pv 5)) (pda_cons (pd_op op_mulZ l_I (pd_fld (c := 3) (k := 1) (T.cl "Poly") (T.no "Poly" "bottom") fk_Poly_bottom (pd_var (pv 0))) (pd_fld (c := 3) (k := 1) (T.cl "Poly") (T.no "Poly" "bottom") fk_Poly_bottom (pd_var (pv 1)))) pda_nil))))))))), fun ds Q ex h => ?_⟩)
  · obtain ⟨ts, b, us, c, rfl, _⟩ := h
    rfl
  · obtain ⟨ts, b, us, c, rfl, hv, hw, q⟩ := h
    have hl1 := hv.len
    have hl2 := hw.len
    have hb := hv.ne
    have hbc : b * c ≠ 0 := Int.mul_ne_zero hb hw.ne
    have m1 := mul4 hv.sb hw.sb
    have ml : (ts.map D.int).length = ts.length := List.length_map _
    have mu : (us.map D.int).length = us.length := List.length_map _
    walk_at "go"
    have em : max (((ts.map D.int).length : Nat) : Int) (((us.map D.int).length : Nat) : Int) = ((max ts.length us.length : Nat) : Int) := by
      rw [ml, mu]
      omega
    rw [em]
    generalize hN : max ts.length us.length = N at *
    have hzl : (zipD (((List.range N).map (cf ts)).map D.int) (((List.range N).map (cf us)).map D.int)).length = N := by rw [zip_len, List.length_map, List.length_map, List.length_range, Nat.min_self]
    have hzs : (zipD (((List.range N).map (cf ts)).map D.int) (((List.range N).map (cf us)).map D.int)).length < sizeLine := by rw [hzl]; exact sz100 (by omega)
    walk_at "go"
    refine ⟨fun i z => i < N ∧ z = some (.int (cf ts i * c + cf us i * b)), ?_, ?_⟩
    · rintro i x hx
      obtain ⟨x, y, h1, h2, rfl⟩ := zip_at hx
      have hi : i < N := by
        have := (List.getElem?_eq_some_iff.mp h1).1
        simpa using this
      rw [range_at hi] at h1 h2
      cases h1
      cases h2
      have m2 : IntMulOk (cf ts i) c := mul4 (cf_bd hv.bd i) hw.sb
      have m3 : IntMulOk (cf us i) b := mul4 (cf_bd hw.bd i) hv.sb
      walk_at "go"
      exact fun _ => ⟨hi, rfl⟩
    intro zs hl3 hz
    obtain ⟨ms, e, hm, hm2⟩ := lc_map D.int (P := fun i v => v = cf ts i * c + cf us i * b) hl3 (fun i z h => ⟨_, (hz i z h).2, rfl⟩)
    have em2 : ms = addP ts b us c := by
      unfold addP
      rw [hN]
      exact range_is (by rw [hm, hzl]) hm2
    rw [e, em2]
    walk_at "go"
    exact ⟨_, addP ts b us c, b * c, rfl, .inl rfl, by unfold addP; rw [List.length_map, List.length_range]; omega, fun z => absurd z hbc, fun _ => ⟨mul5 hv.sb hw.sb, q⟩⟩

theorem fn_Poly_sub (T : Txt LL K mg) (M : Mo3 cs sms cis mxs exs K mg) : Nonempty (Fn P w K mg base (d_Poly_sub.at_ K) 11 2 P_Poly_sub) := by
  obtain ⟨F_Poly_add⟩ := fn_Poly_add (P := P) (w := w) (base := base) T M
  obtain ⟨F_Poly_neg⟩ := fn_Poly_neg (P := P) (w := w) (base := base) T M
  refine Fn.of (T.d 17 (d := d_Poly_sub)) sc_Poly_sub rfl (fun _ _ _ _ _ _ us hl => match us, hl with | [_, _], _ => rfl) (fun ds Q ex h => ?_) (fun fd cdv A outer s H E hr => ⟨_, pdss_cons (pds_if (pdt_not (pdt_val (pd_isi (cr := (.own 3)) M.isi M.cls (fun c h => by cases h; decide) (fun h => pe_callB call_isi (by rfl) (T.f "isinstance") (by decide +kernel) (pa_cons h (pa_cons (pe_glob (v := .ref (He.ga K "Poly")) rfl (T.g "Poly") rfl) pa_nil))) (pd_var (pv 1))))) pdss_never pdss_nil) (pdss_one (pds_ret (pd_mixO (op := .Add) (c := 3) (M.mx "add" [3]) (by decide) (by rw [dm_Add]; exact T.own "Poly" "__add__") (T.fnn "Poly" "__add__") F_Poly_add (hr.mono (by decide)) (takes_of rfl rfl rfl rfl) (pd_var (pv 0)) (pd_un (un_negO (T.own "Poly" "__neg__") (T.fnn "Poly" "__neg__") F_Poly_neg.ok (hr.mono (by decide)) F_Poly_neg.bd passL) (l_unO (c := 3) F_Poly_neg.len) (pd_var (pv 1)))))), fun ds Q ex h => ?_⟩)
  · obtain ⟨ts, b, us, c, rfl, _⟩ := h
    rfl
  · obtain ⟨ts, b, us, c, rfl, hv, hw, q⟩ := h
    have hn := hw.neg
    walk_at "go"
    exact q

theorem fn_Poly_monic (T : Txt LL K mg) (M : Mo3 cs sms cis mxs exs K mg) : Nonempty (Fn P w K mg base (d_Poly_monic.at_ K) 6 1 P_Poly_monic) := by
  obtain ⟨F_Poly_is_zero⟩ := fn_Poly_is_zero (P := P) (w := w) (base := base) T M
  obtain ⟨F_ZeroPoly⟩ := fx_ZeroPoly (P := P) (w := w) (base := base) T
  obtain ⟨⟨F_Poly_init⟩, ⟨F_Poly_init_d⟩⟩ := fn_Poly_init (P := P) (w := w) (base := base) T M
  refine Fn.of (T.d 25 (d := d_Poly_monic)) sc_Poly_monic rfl (fun _ _ _ _ _ _ us hl => match us, hl with | [_], _ => rfl) (fun ds Q ex h => ?_) (fun fd cdv A outer s H E hr => ⟨_, pdss_cons (pds_if (pdt_val (pd_prop (c := 3) (pd_var (pv 0)) (T.cl "Poly") (T.pr "Poly" "is_zero") F_Poly_is_zero (hr.mono (by decide)))) (pdss_one (pds_raise0 rfl (takes_of rfl rfl rfl rfl) (pmk_oex0 (T.oex "ZeroPoly") (T.exI "ZeroPoly") (T.exT "ZeroPoly") F_ZeroPoly.ok (hr.mono (by decide)) F_ZeroPoly.bd passL (by rfl) (T.g "ZeroPoly")))) pdss_nil) (pdss_one (pds_ret (pd_make (c := 3) (T.mkk "Poly") F_Poly_init (fun _ _ => .nil) (hr.mono (by decide)) (by rfl) (T.g "Poly") (takes_of rfl rfl rfl rfl) (pda_cons (pd_fld (c := 3) (k := 0) (T.cl "Poly") (T.no "Poly" "tops") fk_Poly_tops (pd_var (pv 0))) (pda_cons (pd_ix ix_tup l_ixT (pd_fld (c := 3) (k := 0) (T.cl "Poly") (T.no "Poly" "tops") fk_Poly_tops (pd_var (pv 0))) (pd_un un_neg l_U (pd_int pe_int)) (fun _ _ => rfl)) pda_nil))))), fun ds Q ex h => ?_⟩)
  · obtain ⟨ts, b, rfl, _⟩ := h
    rfl
  · obtain ⟨ts, b, rfl, hv, q0, q⟩ := h
    have hl := hv.len
    walk_at "go"
    refine d_ite (fun c => ?_) (fun c => ?_)
    · walk_at "go"
      exact q0 (of_decide_eq_true c)
    have hn : ts ≠ [] := of_decide_eq_false c
    have hpos : 0 < ts.length := List.length_pos_iff.mpr hn
    have el := neg_at (ts := ts) (n := ts.length - 1) (by omega)
    have hz := hv.last (k := ts.length - 1) (by omega)
    have hs := abs_up (cf_bd hv.bd (ts.length - 1)) (show 4000 ≤ 8999 by decide)
    walk_at "go"
    exact ⟨_, ts, _, rfl, .inr rfl, by omega, fun z => absurd z hz, fun _ => ⟨hs, q hn⟩⟩

theorem fn_Poly_constant (T : Txt LL K mg) (M : Mo3 cs sms cis mxs exs K mg) : Nonempty (Fn P w K mg base (d_Poly_constant.at_ K) 6 1 P_Poly_constant) := by
  obtain ⟨⟨F_Poly_init⟩, ⟨F_Poly_init_d⟩⟩ := fn_Poly_init (P := P) (w := w) (base := base) T M
  refine Fn.of (T.d 29 (d := d_Poly_constant)) sc_Poly_constant rfl (fun _ _ _ _ _ _ us hl => match us, hl with | [_], _ => rfl) (fun ds Q ex h => ?_) (fun fd cdv A outer s H E hr => ⟨_, pdss_one (pds_ret (pd_make (c := 3) (T.mkk "Poly") F_Poly_init (fun _ _ => .nil) (hr.mono (by decide)) (by rfl) (T.g "Poly") (takes_of rfl rfl rfl rfl) (pda_cons (pd_new (pdn_lst (pda_cons (pd_fld (c := 0) (k := 0) (T.cl "Ratio") (T.no "Ratio" "top") fk_Ratio_top (pd_var (pv 0))) pda_nil))) (pda_cons (pd_fld (c := 0) (k := 1) (T.cl "Ratio") (T.no "Ratio" "bottom") fk_Ratio_bottom (pd_var (pv 0))) pda_nil)))), fun ds Q ex h => ?_⟩)
  · obtain ⟨t, b, rfl, _⟩ := h
    rfl
  · obtain ⟨t, b, rfl, hb, hs, q⟩ := h
    walk_at "go"
    exact ⟨_, [t], b, rfl, .inl rfl, by simp, fun z => absurd z (by omega), fun _ => ⟨hs, q⟩⟩
end
end K08

namespace K08
open PySem PySem.Spec PyProof.Rows L2 LR DL
section
variable {P : Program} {w : World} {K : PySem.W.Frag} {mg : Str → Option Value} {base : Heap}
local macro_rules | `(tactic| walk_at "side") => `(tactic| first | rfl | assumption | exact ⟨_, rfl⟩ | omega | exact mulL (by omega) (by omega) | exact mulR (by omega) (by omega) | exact mulF (by decide) (by decide) | exact ⟨by decide, by decide +kernel⟩ | decide | exact Nat.le_of_ble_eq_true rfl | (simp only [List.length_cons, List.length_nil, List.length_map, List.nil_append, List.cons_append, sizeLine_eq]; omega) | (simp only [List.map_cons, List.map_nil, List.nil_append, List.cons_append]; decide +kernel))
local macro_rules | `(tactic| walk_at "go") => `(tactic| repeat (first
  | refine ⟨_, rfl, ?_⟩
  | refine ⟨_, _, rfl, rfl, ?_⟩
  | refine ⟨_, _, rfl, ?_⟩
  | refine ⟨_, _, _, rfl, rfl, ?_⟩
  | refine ⟨_, _, _, rfl, ?_⟩
  | refine ⟨_, _, _, _, rfl, rfl, ?_⟩
  | refine ⟨_, _, _, _, rfl, ?_⟩
  | refine ⟨_, _, rfl, by assumption, ?_⟩
  | refine ⟨_, _, _, rfl, rfl, rfl, ?_⟩
  | refine ⟨_, _, _, rfl, rfl, by assumption, ?_⟩
  | refine ⟨_, _, _, rfl, rfl, by walk_at "side", by assumption, ?_⟩
  | refine ⟨_, _, _, rfl, rfl, by walk_at "side", rfl, ?_⟩
  | refine ⟨_, _, _, rfl, rfl, rfl, by assumption, ?_⟩
  | refine .inl ⟨_, rfl, ?_⟩
  | refine .inr ⟨_, rfl, ?_⟩
  | refine .inr (.inl ⟨_, rfl, ?_⟩)
  | refine .inr (.inr ⟨_, rfl, ?_⟩)
  | refine ⟨_, .inl rfl, ?_⟩
  | refine ⟨_, .inr rfl, ?_⟩
  | refine ⟨_, (by assumption : _ ∨ _), ?_⟩
  | refine .inr ⟨_, _, rfl, ?_⟩
  | refine .inl ⟨_, _, rfl, ?_⟩
  | refine And.intro (by walk_at "side") ?_))


theorem dvdM {q : Int} (h0 : 0 < q) (h : q ∣ 27720) : q ≤ 27720 := Int.le_of_dvd (by decide) h
theorem lcm_ok {m q : Int} (h0 : 0 < m) (h1 : m ∣ 27720) (h2 : 0 < q) (h3 : q ∣ 27720) : 0 < ((Nat.lcm m.natAbs q.natAbs : Nat) : Int) ∧ ((Nat.lcm m.natAbs q.natAbs : Nat) : Int) ∣ 27720 ∧ m ∣ ((Nat.lcm m.natAbs q.natAbs : Nat) : Int) ∧ q ∣ ((Nat.lcm m.natAbs q.natAbs : Nat) : Int) := by
  refine ⟨?_, ?_, ?_, ?_⟩
  · have := Nat.lcm_pos (m := m.natAbs) (n := q.natAbs) (by omega) (by omega)
    omega
  · have a1 : m.natAbs ∣ 27720 := Int.natAbs_dvd_natAbs.mpr h1
    have a2 : q.natAbs ∣ 27720 := Int.natAbs_dvd_natAbs.mpr h3
    exact Int.ofNat_dvd.mpr (Nat.lcm_dvd a1 a2)
  · exact Int.natAbs_dvd.mp (Int.ofNat_dvd.mpr (Nat.dvd_lcm_left _ _))
  · exact Int.natAbs_dvd.mp (Int.ofNat_dvd.mpr (Nat.dvd_lcm_right _ _))
def P_common_bottom : Prm := fun ds Q _ => ∃ qs : List Int, ds = [.lst (qs.map D.int)] ∧ (∀ q ∈ qs, 0 < q ∧ q ∣ 27720) ∧ ∀ m : Int, 0 < m → m ∣ 27720 → (∀ q ∈ qs, q ∣ m) → Q (.int m)
def RS (s : D) (rs : List (Int × Int)) : Prop := s = .lst (rs.map fun p => R p.1 p.2) ∨ s = .tup (rs.map fun p => R p.1 p.2)
theorem RS.at {s : D} {rs : List (Int × Int)} (h : RS s rs) : some (Sl.val s) = some (.val (.lst (rs.map fun p => R p.1 p.2))) ∨ some (Sl.val s) = some (.val (.tup (rs.map fun p => R p.1 p.2))) := h.imp (fun e => by rw [e]) (fun e => by rw [e])
def overT (rs : List (Int × Int)) (m : Int) : List Int := rs.map fun p => p.1 * m.fdiv p.2
def RsOk (rs : List (Int × Int)) : Prop := rs.length ≤ 1000 ∧ ∀ p ∈ rs, 0 < p.2 ∧ p.2 ∣ 27720 ∧ p.1.natAbs < 2 ^ 1500
def P_over_one_bottom : Prm := fun ds Q _ => ∃ (s : D) (rs : List (Int × Int)), ds = [s] ∧ RS s rs ∧ RsOk rs ∧ ∀ m : Int, 0 < m → m ∣ 27720 → (∀ p ∈ rs, p.2 ∣ m) → Q (.tup [.lst ((overT rs m).map D.int), .int m])

def P_Poly_of : Prm := fun ds Q _ => ∃ (s : D) (rs : List (Int × Int)), ds = [s] ∧ RS s rs ∧ RsOk rs ∧ (∀ m : Int, 0 < m → m ∣ 27720 → (∀ p ∈ rs, p.2 ∣ m) → Q (PO (pT (overT rs m) m) (pB (overT rs m) m)))
theorem one_pol : Pol 1 [1] 1 := ⟨by decide, by decide, by decide +kernel, by decide +kernel, fun t ht => by rw [List.mem_singleton.mp ht]; decide, by decide⟩

theorem fn_common_bottom (T : Txt LL K mg) (M : Mo3 cs sms cis mxs exs K mg) : Nonempty (Fn P w K mg base (d_common_bottom.at_ K) 1 1 P_common_bottom) := by
  refine Fn.of (T.d 7 (d := d_common_bottom)) sc_common_bottom rfl (fun _ _ _ _ _ _ us hl => match us, hl with | [_], _ => rfl) (fun ds Q ex h => ?_) (fun fd cdv A outer s H E hr => ⟨_, pdss_cons (pds_set (i := 1) sc_common_bottom.nd rfl (by first | exact Or.inl rfl | exact Or.inr rfl) (pd_int pe_int)) (pdss_cons (pds_for (passes_of rfl) rfl (pdi_list (pd_var (pv 0))) (pdg_name (pg_name (i := 2) sc_common_bottom.nd rfl (by first | exact Or.inl rfl | exact Or.inr rfl))) (pdss_one (pds_set (i := 1) sc_common_bottom.nd rfl (by first | exact Or.inl rfl | exact Or.inr rfl) (pd_cb (fun h => pe_callBfun cr_lcm (by rfl) (T.b "lcm" "math.lcm") h) l_lcm (pda_cons (pd_var (pv 1)) (pda_cons (pd_var (pv 2)) pda_nil)))))) (pdss_one (pds_ret (pd_var (pv 1))))), fun ds Q ex h => ?_⟩)
  · obtain ⟨qs, rfl, _⟩ := h
    rfl
  · obtain ⟨qs, rfl, hq, q⟩ := h
    walk_at "go"
    refine ⟨fun i env => ∃ (m : Int) (v : Sl), env = [.val (.lst (qs.map D.int)), .val (.int m), v] ∧ 0 < m ∧ m ∣ 27720 ∧ ∀ z ∈ qs.take i, z ∣ m, fun _ => ⟨1, _, rfl, by decide, by decide, fun z hz => by cases hz⟩, ?_, ?_⟩
    · rintro i x env hx ⟨m, v, rfl, m0, m1, m2⟩
      obtain ⟨z, hz, rfl⟩ := map_at hx
      have hi : i < qs.length := (List.getElem?_eq_some_iff.mp hz).1
      have ez : qs[i] = z := (List.getElem?_eq_some_iff.mp hz).2
      obtain ⟨z0, z1⟩ := hq z (List.mem_of_getElem? hz)
      obtain ⟨l0, l1, l2, l3⟩ := lcm_ok m0 m1 z0 z1
      have b1 : m.natAbs < 2 ^ 64 := by have := dvdM m0 m1; omega
      have b2 : z.natAbs < 2 ^ 64 := by have := dvdM z0 z1; omega
      walk_at "go"
      refine fun _ => ⟨_, _, rfl, l0, l1, fun y hy => ?_⟩
      rw [List.take_succ_eq_append_getElem hi, ez] at hy
      rcases List.mem_append.mp hy with hy | hy
      · exact Int.dvd_trans (m2 y hy) l2
      · rw [List.mem_singleton.mp hy]
        exact l3
    · rintro env ⟨m, v, rfl, m0, m1, m2⟩
      rw [List.length_map, List.take_length] at m2
      walk_at "go"
      exact q m m0 m1 m2

theorem fn_over_one_bottom (T : Txt LL K mg) (M : Mo3 cs sms cis mxs exs K mg) : Nonempty (Fn P w K mg base (d_over_one_bottom.at_ K) 2 1 P_over_one_bottom) := by
  obtain ⟨F_common_bottom⟩ := fn_common_bottom (P := P) (w := w) (base := base) T M
  refine Fn.of (T.d 8 (d := d_over_one_bottom)) sc_over_one_bottom rfl (fun _ _ _ _ _ _ us hl => match us, hl with | [_], _ => rfl) (fun ds Q ex h => ?_) (fun fd cdv A outer s H E hr => ⟨_, pdss_cons (pds_set (i := 1) sc_over_one_bottom.nd rfl (by first | exact Or.inl rfl | exact Or.inr rfl) (pd_call F_common_bottom (hr.mono (by decide)) (by rfl) (T.g "common_bottom") (T.k "common_bottom") (takes_of rfl rfl rfl rfl) (pda_cons (pd_new (pdn_lc (own := [("ratio", 2)]) rfl sc_over_one_bottom.nd (pdi_seq (pv 0)) (blkOk_by (N := ["ratios", "bottom", "ratio"]) (sc := defScope s_over_one_bottom) (by decide +kernel)) (by decide) (fun _ _ _ _ _ => (pdg_name (pg_name (i := 2) sc_over_one_bottom.nd rfl (Or.inl rfl)))) (fun _ _ _ _ _ => pdts_nil) (fun _ _ _ _ _ => pd_fld (c := 0) (k := 1) (T.cl "Ratio") (T.no "Ratio" "bottom") fk_Ratio_bottom (pd_var (pv 2))))) pda_nil))) (pdss_one (pds_ret (pd_tup (pda_cons (pd_new (pdn_lc (own := [("ratio", 2)]) rfl sc_over_one_bottom.nd (pdi_seq (pv 0)) (blkOk_by (N := ["ratios", "bottom", "ratio"]) (sc := defScope s_over_one_bottom) (by decide +kernel)) (by decide) (fun _ _ _ _ _ => (pdg_name (pg_name (i := 2) sc_over_one_bottom.nd rfl (Or.inl rfl)))) (fun _ _ _ _ _ => pdts_nil) (fun _ _ _ _ _ => pd_op op_mulZ l_I (pd_fld (c := 0) (k := 0) (T.cl "Ratio") (T.no "Ratio" "top") fk_Ratio_top (pd_var (pv 2))) (pd_op op_fdivZ l_I (pd_var (pv 1)) (pd_fld (c := 0) (k := 1) (T.cl "Ratio") (T.no "Ratio" "bottom") fk_Ratio_bottom (pd_var (pv 2))))))) (pda_cons (pd_var (pv 1)) pda_nil))))), fun ds Q ex h => ?_⟩)
  · obtain ⟨s, rs, rfl, _⟩ := h
    rfl
  · obtain ⟨s, rs, rfl, hS, hr2, q⟩ := h
    obtain ⟨hl, ho⟩ := hr2
    have hs := hS.at
    walk_at "go"
    refine ⟨fun i z => ∃ r : Int × Int, rs[i]? = some r ∧ z = some (.int (r.2)), ?_, ?_⟩
    · rintro i x hx
      obtain ⟨z, hz, rfl⟩ := map_at hx
      skip
      walk_at "go"
      exact fun _ => ⟨z, hz, rfl⟩
    intro zs hl2 hz
    obtain ⟨ms, e, hm, hm2⟩ := lc_map D.int (P := fun i v => ∃ r : Int × Int, rs[i]? = some r ∧ v = r.2) hl2 (fun i z h => by
      obtain ⟨t, h1, h2⟩ := hz i z h
      exact ⟨_, h2, t, h1, rfl⟩)
    have em : ms = rs.map fun r => r.2 := map_is (by rw [hm, List.length_map]) hm2
    rw [e, em]
    clear e em hm hm2 hz hl2
    walk_at "go"
    refine ⟨fun z hz => ?_, fun m m0 m1 m2 => ?_⟩
    · obtain ⟨r, hr, rfl⟩ := List.mem_map.mp hz
      exact ⟨(ho r hr).1, (ho r hr).2.1⟩
    have m3 : ∀ r ∈ rs, r.2 ∣ m := fun r hr => m2 r.2 (List.mem_map.mpr ⟨r, hr, rfl⟩)
    have mM := dvdM m0 m1
    have q := q m m0 m1 m3
    walk_at "go"
    refine ⟨fun i z => ∃ r : Int × Int, rs[i]? = some r ∧ z = some (.int (r.1 * m.fdiv r.2)), ?_, ?_⟩
    · rintro i x hx
      obtain ⟨z, hz, rfl⟩ := map_at hx
      obtain ⟨r0, r1, r2⟩ := ho z (List.mem_of_getElem? hz)
      have hd : CDivZ m z.2 := divZ (b := 15) (by omega) (by have := dvdM r0 r1; omega) (by decide) (by decide)
      have hf : (m.fdiv z.2).natAbs ≤ m.natAbs := Int.natAbs_fdiv_le_natAbs _ _
      have hm : IntMulOk z.1 (m.fdiv z.2) := mulR (by omega) (by omega)
      walk_at "go"
      exact fun _ => ⟨z, hz, rfl⟩
    intro zs hl2 hz
    obtain ⟨ms, e, hm, hm2⟩ := lc_map D.int (P := fun i v => ∃ r : Int × Int, rs[i]? = some r ∧ v = r.1 * m.fdiv r.2) hl2 (fun i z h => by
      obtain ⟨t, h1, h2⟩ := hz i z h
      exact ⟨_, h2, t, h1, rfl⟩)
    have em : ms = rs.map fun r => r.1 * m.fdiv r.2 := map_is (by rw [hm, List.length_map]) hm2
    rw [e, em]
    clear e em hm hm2 hz hl2
    walk_at "go"
    exact q

theorem fn_Poly_of (T : Txt LL K mg) (M : Mo3 cs sms cis mxs exs K mg) : Nonempty (Fn P w K mg base (d_Poly_of.at_ K) 6 1 P_Poly_of) := by
  obtain ⟨F_over_one_bottom⟩ := fn_over_one_bottom (P := P) (w := w) (base := base) T M
  obtain ⟨⟨F_Poly_init⟩, ⟨F_Poly_init_d⟩⟩ := fn_Poly_init (P := P) (w := w) (base := base) T M
  refine Fn.of (T.d 30 (d := d_Poly_of)) sc_Poly_of rfl (fun _ _ _ _ _ _ us hl => match us, hl with | [_], _ => rfl) (fun ds Q ex h => ?_) (fun fd cdv A outer s H E hr => ⟨_, pdss_cons (pds_asg (pd_call F_over_one_bottom (hr.mono (by decide)) (by rfl) (T.g "over_one_bottom") (T.k "over_one_bottom") (takes_of rfl rfl rfl rfl) (pda_cons (pd_var (pv 0)) pda_nil)) (pdg_tup (n := 2) (by rfl) (pdgs_cons (pdg_name (pg_name (i := 1) sc_Poly_of.nd rfl (by first | exact Or.inl rfl | exact Or.inr rfl))) (pdgs_cons (pdg_name (pg_name (i := 2) sc_Poly_of.nd rfl (by first | exact Or.inl rfl | exact Or.inr rfl))) pdgs_nil)))) (pdss_one (pds_ret (pd_make (c := 3) (T.mkk "Poly") F_Poly_init (fun _ _ => .nil) (hr.mono (by decide)) (by rfl) (T.g "Poly") (takes_of rfl rfl rfl rfl) (pda_cons (pd_var (pv 1)) (pda_cons (pd_var (pv 2)) pda_nil))))), fun ds Q ex h => ?_⟩)
  · obtain ⟨s, rs, rfl, _⟩ := h
    rfl
  · obtain ⟨s, rs, rfl, hS, hr2, q1⟩ := h
    walk_at "go"
    refine fun m m0 m1 m2 => ?_
    have hl : (overT rs m).length ≤ 1000 := by unfold overT; rw [List.length_map]; exact hr2.1
    have mM := dvdM m0 m1
    have hm : m.natAbs < 2 ^ 8999 := Nat.lt_of_lt_of_le (show m.natAbs < 2 ^ 15 by omega) (Nat.pow_le_pow_right (by decide) (by decide))
    walk_at "go"
    exact ⟨_, overT rs m, m, rfl, .inl rfl, by omega, fun z => absurd z (by omega), fun _ => ⟨hm, q1 m m0 m1 m2⟩⟩

local macro_rules | `(tactic| walk_at "side") => `(tactic| first | with_reducible assumption | exact Bsame.mk (by with_reducible rfl) | omega | rfl | assumption | exact ⟨_, rfl⟩ | exact mulL (by omega) (by omega) | exact mulR (by omega) (by omega) | exact mulF (by decide) (by decide) | exact ⟨by decide, by decide +kernel⟩ | decide | exact Nat.le_of_ble_eq_true rfl | (simp only [List.length_cons, List.length_nil, List.length_map, List.nil_append, List.cons_append, sizeLine_eq]; omega) | (simp only [List.map_cons, List.map_nil, List.nil_append, List.cons_append]; decide +kernel))
local macro_rules | `(tactic| walk_at "go") => `(tactic| repeat (first
  | refine ⟨_, rfl, ?_⟩
  | refine ⟨_, _, rfl, rfl, ?_⟩
  | refine ⟨_, _, rfl, ?_⟩
  | refine ⟨_, _, _, rfl, rfl, ?_⟩
  | refine ⟨_, _, _, rfl, ?_⟩
  | refine ⟨_, _, _, _, rfl, rfl, ?_⟩
  | refine ⟨_, _, _, _, rfl, ?_⟩
  | refine ⟨_, _, rfl, by assumption, ?_⟩
  | refine ⟨_, _, _, rfl, rfl, rfl, ?_⟩
  | refine ⟨_, _, _, rfl, rfl, by assumption, ?_⟩
  | refine ⟨_, _, _, rfl, rfl, by walk_at "side", by assumption, ?_⟩
  | refine ⟨_, _, _, rfl, rfl, by walk_at "side", rfl, ?_⟩
  | refine ⟨_, _, _, rfl, rfl, rfl, by assumption, ?_⟩
  | refine .inl ⟨_, rfl, ?_⟩
  | refine .inr ⟨_, rfl, ?_⟩
  | refine .inr (.inl ⟨_, rfl, ?_⟩)
  | refine .inr (.inr ⟨_, rfl, ?_⟩)
  | refine ⟨_, .inl rfl, ?_⟩
  | refine ⟨_, .inr rfl, ?_⟩
  | refine .inr ⟨_, _, rfl, ?_⟩
  | refine .inl ⟨_, _, rfl, ?_⟩
  | refine And.intro (by walk_at "side") ?_))

theorem fn_Poly_pow (T : Txt LL K mg) (M : Mo3 cs sms cis mxs exs K mg) : Nonempty (Fn P w K mg base (d_Poly_pow.at_ K) 9 2 P_Poly_pow) := by
  obtain ⟨⟨F_Poly_init⟩, ⟨F_Poly_init_d⟩⟩ := fn_Poly_init (P := P) (w := w) (base := base) T M
  obtain ⟨F_Poly_mul⟩ := fn_Poly_mul (P := P) (w := w) (base := base) T M
  refine Fn.of (T.d 22 (d := d_Poly_pow)) sc_Poly_pow rfl (fun _ _ _ _ _ _ us hl => match us, hl with | [_, _], _ => rfl) (fun ds Q ex h => ?_) (fun fd cdv A outer s H E hr => ⟨_, pdss_cons (pds_set (i := 2) sc_Poly_pow.nd rfl (by first | exact Or.inl rfl | exact Or.inr rfl) (pd_make (c := 3) (T.mkk "Poly") F_Poly_init_d dd_Poly (hr.mono (by decide)) (by rfl) (T.g "Poly") (takes_of rfl rfl rfl rfl) (pda_cons (pd_new (pdn_lst (pda_cons (pd_int pe_int) pda_nil))) pda_nil))) (pdss_cons (pds_for (passes_of rfl) rfl (pdi_range1 rfl (T.f "range") (pda_cons (pd_var (pv 1)) pda_nil)) (pdg_name (pg_name (i := 3) sc_Poly_pow.nd rfl (by first | exact Or.inl rfl | exact Or.inr rfl))) (pdss_one (pds_set (i := 2) sc_Poly_pow.nd rfl (by first | exact Or.inl rfl | exact Or.inr rfl) (pd_mixO (op := .Mult) (c := 3) (M.mx "mul" [0, 3]) (by decide) (by rw [dm_Mult]; exact T.own "Poly" "__mul__") (T.fnn "Poly" "__mul__") F_Poly_mul (hr.mono (by decide)) (takes_of rfl rfl rfl rfl) (pd_var (pv 2)) (pd_var (pv 0)))))) (pdss_one (pds_ret (pd_var (pv 2))))), fun ds Q ex h => ?_⟩)
  · obtain ⟨ts, b, n, e, rfl, _⟩ := h
    rfl
  · obtain ⟨ts, b, n, e, rfl, he, hv, hn, hn4, hl, q⟩ := h
    have lo := one_pol.low
    have s1 : (1 : Int).natAbs < 2 ^ 8999 := Nat.one_lt_two_pow (by decide)
    walk_at "go"
    refine ⟨_, [1], 1, rfl, .inl rfl, by decide, fun z => absurd z (by decide), fun _ => ⟨s1, ?_⟩⟩
    rw [lo.1, lo.2]
    walk_at "go"
    refine ⟨fun i env => ∃ (us : List Int) (c : Int) (v : Sl), env = [.val (PO ts b), .val (.int (e : Int)), .val (PO us c), v] ∧ Pol (1 + i * (n + 12)) us c ∧ us.length ≤ 1 + i * ts.length ∧ PEq (cf us) c (pw (cf ts) i) (b ^ i), fun _ => ⟨[1], 1, _, rfl, by rw [Nat.zero_mul]; exact one_pol, by simp, by rw [Int.pow_zero]; exact PEq.refl _ _⟩, ?_, ?_⟩
    · rintro i x env hx ⟨us, c, v, rfl, hu, hul, hp⟩
      obtain ⟨hi, rfl⟩ := rng_at hx
      have hi' : i + 1 ≤ e := by omega
      have k1 : (i + 1) * (n + 12) ≤ e * (n + 12) := Nat.mul_le_mul_right _ hi'
      have k2 : (i + 1) * ts.length ≤ e * ts.length := Nat.mul_le_mul_right _ hi'
      have k3 := Nat.succ_mul i (n + 12)
      have k4 := Nat.succ_mul i ts.length
      have k5 : i.succ = i + 1 := rfl
      rw [k5] at k3 k4
      have hu4 : Pol 4000 us c := hu.up (by omega)
      have hv4 : Pol 4000 ts b := hv.up hn4
      have hcb : c * b ≠ 0 := Int.mul_ne_zero hu.ne hv.ne
      have hlen : (prodT us ts).length ≤ 1 + (i + 1) * ts.length := by rw [prod_len]; omega
      have new : Pol (1 + (i + 1) * (n + 12)) (pT (prodT us ts) (c * b)) (pB (prodT us ts) (c * b)) :=
        pol_of hcb (by omega) ((prod_bd hu.bd hv.bd (by omega) (by have := hv.len; omega)).up (by omega)) (abs_up (abs_mul_lt hu.sb hv.sb) (by omega))
      have pe : PEq (cf (pT (prodT us ts) (c * b))) (pB (prodT us ts) (c * b)) (pw (cf ts) (i + 1)) (b ^ (i + 1)) := by
        have p1 := poly_cf (prodT us ts) hcb
        rw [cf_prod] at p1
        rw [Int.pow_succ]
        exact p1.trans hcb (hp.mul (PEq.refl (cf ts) b))
      walk_at "go"
      exact fun _ => ⟨_, _, _, rfl, new, Nat.le_trans (pT_len _ _) hlen, pe⟩
    · rintro env ⟨us, c, v, rfl, hu, hul, hp⟩
      have er : (rngD 0 ((e : Nat) : Int).toNat).length = e := by rw [rng_len, Int.toNat_natCast]
      rw [er] at hu hul hp
      walk_at "go"
      exact q us c hu hp
end
end K08

namespace DL
open PySem PySem.Spec PyProof.Rows L2 LR
/-! a division in the making -/
def divF (f : Cf) (us : List Int) (s : Nat) (z : Int) (j : Nat) : Cf := fun k => f k - if k < s then 0 else z * cf (us.take j) (k - s)
theorem div_zero (f : Cf) (us : List Int) (s : Nat) (z : Int) : divF f us s z 0 = f := by
  funext k
  show f k - (if k < s then 0 else z * cf (us.take 0) (k - s)) = _
  rw [List.take_zero, cf_nil, Int.mul_zero, ite_self, Int.sub_zero]
theorem div_full (f : Cf) (us : List Int) (s : Nat) (z : Int) : divF f us s z us.length = fun k => f k - cv (mono z s) (cf us) k := by
  funext k
  rw [cv_mono]
  show f k - (if k < s then 0 else z * cf (us.take us.length) (k - s)) = _
  rw [List.take_length]
theorem div_step {f : Cf} {us : List Int} {s j : Nat} {z w : Int} (h : us[j]? = some w) (k : Nat) : divF f us s z (j + 1) k = if k = s + j then divF f us s z j (s + j) - z * w else divF f us s z j k := by
  show f k - (if k < s then 0 else z * cf (us.take (j + 1)) (k - s)) = if k = s + j then f (s + j) - (if s + j < s then 0 else z * cf (us.take j) (s + j - s)) - z * w else f k - (if k < s then 0 else z * cf (us.take j) (k - s))
  rw [cf_take h]
  show _ - (if k < s then 0 else z * (cf (us.take j) (k - s) + (if k - s = j then w else 0))) = _
  by_cases h1 : k = s + j
  · subst h1
    have n1 : ¬ (s + j < s) := by omega
    have e1 : s + j - s = j := by omega
    rw [if_pos (rfl : s + j = s + j), if_neg n1, if_neg n1, e1, if_pos (rfl : j = j), Int.mul_add, Int.sub_sub]
  · rw [if_neg h1]
    by_cases h2 : k < s
    · rw [if_pos h2, if_pos h2]
    · rw [if_neg h2, if_neg h2, if_neg (by omega), Int.add_zero]
structure DivI (T : Cf) (us : List Int) (N m many : Nat) (lead : Int) (B n t : Nat) (f g : Cf) : Prop where
  eq : ∀ k, f k + cv g (cf us) k = T k
  top : ∀ k, many + m ≤ k + t → f k = 0
  sup : ∀ k, N ≤ k → f k = 0
  dv : ∀ k, lead ^ (many - t) ∣ f k
  bd : ∀ k, (f k).natAbs < 2 ^ (B + t * (n + 1))
  low : ∀ k, k + t < many → g k = 0
  hi : ∀ k, many ≤ k → g k = 0
  gbd : ∀ k, (g k).natAbs < 2 ^ (B + many * (n + 1))
theorem DivI.start {T : Cf} {us : List Int} {N m many : Nat} {lead : Int} {B n : Nat} (h1 : ∀ k, many + m ≤ k → T k = 0) (h2 : ∀ k, N ≤ k → T k = 0) (h3 : ∀ k, lead ^ many ∣ T k) (h4 : ∀ k, (T k).natAbs < 2 ^ B) : DivI T us N m many lead B n 0 T (fun _ => 0) where
  eq := fun k => by rw [cv_zero k _ _ fun _ => rfl, Int.add_zero]
  top := fun k h => h1 k h
  sup := h2
  dv := fun k => h3 k
  bd := fun k => by rw [Nat.zero_mul]; exact h4 k
  low := fun _ _ => rfl
  hi := fun _ _ => rfl
  gbd := fun _ => Nat.two_pow_pos _
/-- m is the place of the last number of us -/
theorem DivI.step {T : Cf} {us : List Int} {N m many : Nat} {lead : Int} {B n t : Nat} {f g : Cf} {z : Int} (I : DivI T us N m many lead B n t f g) (hm : us.length = m + 1) (hl : cf us m = lead) (hn : lead ≠ 0) (hu : Bd n us) (ht : t < many) (hN : many + m = N)
    (hz : f (many - 1 - t + m) = z * lead) : DivI T us N m many lead B n (t + 1) (divF f us (many - 1 - t) z us.length) (ad g (mono z (many - 1 - t))) := by
  have e : ∀ k, divF f us (many - 1 - t) z us.length k = f k - if k < many - 1 - t then 0 else z * cf us (k - (many - 1 - t)) := fun k => by
    rw [div_full]
    show f k - cv (mono z (many - 1 - t)) (cf us) k = _
    rw [cv_mono]
  have top : ∀ k, many + m ≤ k + (t + 1) → divF f us (many - 1 - t) z us.length k = 0 := fun k h => by
    rw [e, if_neg (by omega)]
    by_cases h1 : many + m ≤ k + t
    · rw [I.top k h1, cf_ge (show us.length ≤ k - (many - 1 - t) by omega), Int.mul_zero]
      rfl
    · have e1 : k = many - 1 - t + m := by omega
      have e2 : many - 1 - t + m - (many - 1 - t) = m := by omega
      rw [e1, hz, e2, hl]
      exact Int.sub_self _
  have zb : z.natAbs < 2 ^ (B + t * (n + 1)) := by
    refine Nat.lt_of_le_of_lt ?_ (I.bd (many - 1 - t + m))
    rw [hz, Int.natAbs_mul]
    exact Nat.le_mul_of_pos_right _ (Int.natAbs_pos.mpr hn)
  have up : ∀ {a : Nat}, a ≤ many → B + a * (n + 1) ≤ B + many * (n + 1) := fun h => Nat.add_le_add_left (Nat.mul_le_mul_right _ h) _
  refine ⟨fun k => ?_, top, fun k h => top k (by omega), fun k => ?_, fun k => ?_, fun k h => ?_, fun k h => ?_, fun k => ?_⟩
  · rw [div_full, cv_ad]
    have := I.eq k
    show f k - cv (mono z (many - 1 - t)) (cf us) k + (cv g (cf us) k + cv (mono z (many - 1 - t)) (cf us) k) = T k
    omega
  · have e1 : many - t = many - (t + 1) + 1 := by omega
    have d1 : lead ^ (many - (t + 1)) ∣ f k := Int.dvd_trans ⟨lead, by rw [e1, Int.pow_succ]⟩ (I.dv k)
    have d2 : lead ^ (many - (t + 1)) ∣ z := by
      have := I.dv (many - 1 - t + m)
      rw [hz, e1, Int.pow_succ] at this
      exact Int.dvd_of_mul_dvd_mul_right hn this
    rw [e]
    refine Int.dvd_sub d1 ?_
    by_cases h1 : k < many - 1 - t
    · rw [if_pos h1]
      exact Int.dvd_zero _
    · rw [if_neg h1]
      exact Int.dvd_trans d2 (Int.dvd_mul_right _ _)
  · have h1 := I.bd k
    have h2 : (if k < many - 1 - t then 0 else z * cf us (k - (many - 1 - t))).natAbs < 2 ^ (B + t * (n + 1) + n) := by
      by_cases h1 : k < many - 1 - t
      · rw [if_pos h1]
        exact Nat.two_pow_pos _
      · rw [if_neg h1]
        exact abs_mul_lt zb (cf_bd hu _)
    have h3 : B + (t + 1) * (n + 1) = B + t * (n + 1) + n + 1 := by rw [Nat.succ_mul]; omega
    rw [e, h3, Int.sub_eq_add_neg]
    exact abs_add_lt (abs_up h1 (by omega)) (by rw [Int.natAbs_neg]; exact h2)
  · show g k + (if k = many - 1 - t then z else 0) = 0
    rw [I.low k (by omega), if_neg (by omega)]
    rfl
  · show g k + (if k = many - 1 - t then z else 0) = 0
    rw [I.hi k h, if_neg (by omega)]
    rfl
  · show (g k + (if k = many - 1 - t then z else 0)).natAbs < _
    by_cases h1 : k = many - 1 - t
    · rw [if_pos h1, I.low k (by omega), Int.zero_add]
      exact abs_up zb (up (by omega))
    · rw [if_neg h1, Int.add_zero]
      exact I.gbd k
theorem set_mono {N s : Nat} {g : Cf} {z : Int} (h : g s = 0) : ((List.range N).map g).set s z = (List.range N).map (ad g (mono z s)) := set_range fun k => by
  show g k + (if k = s then z else 0) = _
  by_cases e : k = s
  · rw [if_pos e, if_pos e, e, h, Int.zero_add]
  · rw [if_neg e, if_neg e, Int.add_zero]
theorem pow_bd {x : Int} {n : Nat} (h : x.natAbs < 2 ^ n) (i : Nat) : (x ^ i).natAbs < 2 ^ (n * i + 1) := by
  induction i with
  | zero => rw [Int.pow_zero]; exact Nat.one_lt_two_pow (by omega)
  | succ i ih =>
    rw [Int.pow_succ, Nat.mul_succ]
    exact abs_up (abs_mul_lt ih h) (by omega)
theorem cf_range0 {N : Nat} {f : Cf} (h : ∀ k, N ≤ k → f k = 0) : cf ((List.range N).map f) = f := by
  rw [cf_range]
  funext k
  by_cases e : k < N
  · exact if_pos e
  · rw [if_neg e, h k (by omega)]
end DL

namespace K08
open PySem PySem.Spec PyProof.Rows L2 LR DL
section
variable {P : Program} {w : World} {K : PySem.W.Frag} {mg : Str → Option Value} {base : Heap}
local macro_rules | `(tactic| walk_at "side") => `(tactic| first | with_reducible assumption | exact Bsame.mk (by with_reducible rfl) | omega | rfl | assumption | exact ⟨_, rfl⟩ | exact mulL (by omega) (by omega) | exact mulR (by omega) (by omega) | exact mulF (by decide) (by decide) | exact ⟨by decide, by decide +kernel⟩ | decide | exact Nat.le_of_ble_eq_true rfl | (simp only [List.length_cons, List.length_nil, List.length_map, List.nil_append, List.cons_append, sizeLine_eq]; omega) | (simp only [List.map_cons, List.map_nil, List.nil_append, List.cons_append]; decide +kernel))
local macro_rules | `(tactic| walk_at "go") => `(tactic| repeat (first
  | refine ⟨_, rfl, ?_⟩
  | refine ⟨_, _, rfl, rfl, ?_⟩
  | refine ⟨_, _, rfl, ?_⟩
  | refine ⟨_, _, _, rfl, rfl, ?_⟩
  | refine ⟨_, _, _, rfl, ?_⟩
  | refine ⟨_, _, _, _, rfl, rfl, ?_⟩
  | refine ⟨_, _, _, _, rfl, ?_⟩
  | refine ⟨_, _, rfl, by assumption, ?_⟩
  | refine ⟨_, _, _, rfl, rfl, rfl, ?_⟩
  | refine ⟨_, _, _, rfl, rfl, by assumption, ?_⟩
  | refine ⟨_, _, _, rfl, rfl, by walk_at "side", by assumption, ?_⟩
  | refine ⟨_, _, _, rfl, rfl, by walk_at "side", rfl, ?_⟩
  | refine ⟨_, _, _, rfl, rfl, rfl, by assumption, ?_⟩
  | refine .inl ⟨_, rfl, ?_⟩
  | refine .inr ⟨_, rfl, ?_⟩
  | refine .inr (.inl ⟨_, rfl, ?_⟩)
  | refine .inr (.inr ⟨_, rfl, ?_⟩)
  | refine ⟨_, .inl rfl, ?_⟩
  | refine ⟨_, .inr rfl, ?_⟩
  | refine .inr ⟨_, _, rfl, ?_⟩
  | refine .inl ⟨_, _, rfl, ?_⟩
  | refine And.intro (by walk_at "side") ?_))


/-- rest and shares of ts by us, both over F -/
structure DivR (ts us rs ss : List Int) (F : Int) : Prop where
  ne : F ≠ 0
  sF : F.natAbs < 2 ^ 1800
  eq : ∀ k, cf rs k + cv (cf ss) (cf us) k = F * cf ts k
  top : ∀ k, us.length ≤ k + 1 → cf rs k = 0
  lr : rs.length ≤ 24
  ls : ss.length ≤ 24
  br : Bd 3800 rs
  bs : Bd 3800 ss
/-- what the division makes, turn by turn -/
def dvI (T : Cf) (us : List Int) (m many : Nat) (lead : Int) : Nat → Cf × Cf
  | 0 => (T, fun _ => 0)
  | t + 1 => (divF (dvI T us m many lead t).1 us (many - 1 - t) (((dvI T us m many lead t).1 (many - 1 - t + m)).fdiv lead) us.length, ad (dvI T us m many lead t).2 (mono (((dvI T us m many lead t).1 (many - 1 - t + m)).fdiv lead) (many - 1 - t)))
def dvF (ts us : List Int) : Int := cf us (us.length - 1) ^ (ts.length - (us.length - 1))
def dvP (ts us : List Int) : Cf × Cf := dvI (sm (dvF ts us) (cf ts)) us (us.length - 1) (ts.length - (us.length - 1)) (cf us (us.length - 1)) (ts.length - (us.length - 1))
def dvR (ts us : List Int) : List Int := (List.range ts.length).map (dvP ts us).1
def dvS (ts us : List Int) : List Int := (List.range (ts.length - (us.length - 1))).map (dvP ts us).2
def P_division : Prm := fun ds Q ex => ∃ (ts : List Int) (b : Int) (us : List Int) (c : Int), ds = [PO ts b, PO us c] ∧ Pol 70 ts b ∧ Pol 70 us c ∧ ts.length ≤ 24 ∧ us.length ≤ 24 ∧ (us = [] → ex "ZeroPoly" (xD sh_ZeroPoly [])) ∧
  (us ≠ [] → DivR ts us (dvR ts us) (dvS ts us) (dvF ts us) → Q (.tup [PO (pT (mulT (dvS ts us) c) (dvF ts us * b)) (pB (mulT (dvS ts us) c) (dvF ts us * b)), PO (pT (dvR ts us) (dvF ts us * b)) (pB (dvR ts us) (dvF ts us * b))]))
def P_Poly_floordiv : Prm := fun ds Q ex => ∃ (ts : List Int) (b : Int) (us : List Int) (c : Int), ds = [PO ts b, PO us c] ∧ Pol 70 ts b ∧ Pol 70 us c ∧ ts.length ≤ 24 ∧ us.length ≤ 24 ∧ (us = [] → ex "ZeroPoly" (xD sh_ZeroPoly [])) ∧
  (us ≠ [] → DivR ts us (dvR ts us) (dvS ts us) (dvF ts us) → Q (PO (pT (mulT (dvS ts us) c) (dvF ts us * b)) (pB (mulT (dvS ts us) c) (dvF ts us * b))))
def P_Poly_remainder : Prm := fun ds Q ex => ∃ (ts : List Int) (b : Int) (us : List Int) (c : Int), ds = [PO ts b, PO us c] ∧ Pol 70 ts b ∧ Pol 70 us c ∧ ts.length ≤ 24 ∧ us.length ≤ 24 ∧ (us = [] → ex "ZeroPoly" (xD sh_ZeroPoly [])) ∧
  (us ≠ [] → DivR ts us (dvR ts us) (dvS ts us) (dvF ts us) → Q (PO (pT (dvR ts us) (dvF ts us * b)) (pB (dvR ts us) (dvF ts us * b))))
theorem mul6 {t u : Int} (h1 : t.natAbs < 2 ^ 3800) (h2 : u.natAbs < 2 ^ 3800) : IntMulOk t u := mulW h1 h2 (by decide) (by decide) (by decide)

theorem fn_division (T : Txt LL K mg) (M : Mo3 cs sms cis mxs exs K mg) : Nonempty (Fn P w K mg base (d_division.at_ K) 6 2 P_division) := by
  obtain ⟨F_Poly_is_zero⟩ := fn_Poly_is_zero (P := P) (w := w) (base := base) T M
  obtain ⟨F_ZeroPoly⟩ := fx_ZeroPoly (P := P) (w := w) (base := base) T
  obtain ⟨⟨F_Poly_init⟩, ⟨F_Poly_init_d⟩⟩ := fn_Poly_init (P := P) (w := w) (base := base) T M
  refine Fn.of (T.d 33 (d := d_division)) sc_division rfl (fun _ _ _ _ _ _ us hl => match us, hl with | [_, _], _ => rfl) (fun ds Q ex h => ?_) (fun fd cdv A outer s H E hr => ⟨_, pdss_cons (pds_if (pdt_val (pd_prop (c := 3) (pd_var (pv 1)) (T.cl "Poly") (T.pr "Poly" "is_zero") F_Poly_is_zero (hr.mono (by decide)))) (pdss_one (pds_raise0 rfl (takes_of rfl rfl rfl rfl) (pmk_oex0 (T.oex "ZeroPoly") (T.exI "ZeroPoly") (T.exT "ZeroPoly") F_ZeroPoly.ok (hr.mono (by decide)) F_ZeroPoly.bd passL (by rfl) (T.g "ZeroPoly")))) pdss_nil) (pdss_cons (pds_set (i := 2) sc_division.nd rfl (by first | exact Or.inl rfl | exact Or.inr rfl) (pd_ix ix_tup l_ixT (pd_fld (c := 3) (k := 0) (T.cl "Poly") (T.no "Poly" "tops") fk_Poly_tops (pd_var (pv 1))) (pd_un un_neg l_U (pd_int pe_int)) (fun _ _ => rfl))) (pdss_cons (pds_set (i := 3) sc_division.nd rfl (by first | exact Or.inl rfl | exact Or.inr rfl) (pd_cb (fun h => pe_callB (call_max2 rfl) (by rfl) (T.f "max") (by decide +kernel) h) l_max2 (pda_cons (pd_int pe_int) (pda_cons (pd_op op_add l_I0 (pd_op op_sub l_I0 (pd_cb (fun h => pe_callB call_len (by rfl) (T.f "len") (by decide +kernel) h) l_len (pda_cons (pd_fld (c := 3) (k := 0) (T.cl "Poly") (T.no "Poly" "tops") fk_Poly_tops (pd_var (pv 0))) pda_nil)) (pd_cb (fun h => pe_callB call_len (by rfl) (T.f "len") (by decide +kernel) h) l_len (pda_cons (pd_fld (c := 3) (k := 0) (T.cl "Poly") (T.no "Poly" "tops") fk_Poly_tops (pd_var (pv 1))) pda_nil))) (pd_int pe_int)) pda_nil)))) (pdss_cons (pds_set (i := 4) sc_division.nd rfl (by first | exact Or.inl rfl | exact Or.inr rfl) (pd_int pe_int)) (pdss_cons (pds_for (passes_of rfl) rfl (pdi_range1 rfl (T.f "range") (pda_cons (pd_var (pv 3)) pda_nil)) (pdg_name (pg_name (i := 5) sc_division.nd rfl (by first | exact Or.inl rfl | exact Or.inr rfl))) (pdss_one (pds_set (i := 4) sc_division.nd rfl (by first | exact Or.inl rfl | exact Or.inr rfl) (pd_op op_mulZ l_I (pd_var (pv 4)) (pd_var (pv 2)))))) (pdss_cons (pds_lcN (i := 6) (own := [("top", 7)]) rfl sc_division.nd rfl rfl (sw_true rfl rfl rfl (by decide +kernel)) (pdi_tup (pd_fld (c := 3) (k := 0) (T.cl "Poly") (T.no "Poly" "tops") fk_Poly_tops (pd_var (pv 0)))) (blkOk_by (N := ["p", "q", "lead", "many", "factor", "_", "rest", "top", "shares", "shift", "share", "k", "bottom"]) (sc := defScope s_division) (by decide +kernel)) (by decide) (fun _ _ _ _ _ => (pdg_name (pg_name (i := 7) sc_division.nd rfl (Or.inl rfl)))) (fun _ _ _ _ _ => pdts_nil) (fun _ _ _ _ _ => pd_op op_mulZ l_I (pd_var (pv 7)) (pd_var (pv 4)))) (pdss_cons (pds_setN (i := 8) sc_division.nd rfl (by first | exact Or.inl rfl | exact Or.inr rfl) (pdn_rep (pdn_lst (pda_cons (pd_int pe_int) pda_nil)) (pd_var (pv 3)))) (pdss_cons (pds_for (passes_of rfl) rfl (pdi_rangeD rfl (T.f "range") (pda_cons (pd_op op_sub l_I0 (pd_var (pv 3)) (pd_int pe_int)) (pda_cons (pd_un un_neg l_U (pd_int pe_int)) (pda_cons (pd_un un_neg l_U (pd_int pe_int)) pda_nil)))) (pdg_name (pg_name (i := 9) sc_division.nd rfl (by first | exact Or.inl rfl | exact Or.inr rfl))) (pdss_cons (pds_set (i := 10) sc_division.nd rfl (by first | exact Or.inl rfl | exact Or.inr rfl) (pd_op op_fdivZ l_I (pd_ixO ix_list (pv 6) (pd_op op_sub l_I0 (pd_op op_add l_I0 (pd_var (pv 9)) (pd_cb (fun h => pe_callB call_len (by rfl) (T.f "len") (by decide +kernel) h) l_len (pda_cons (pd_fld (c := 3) (k := 0) (T.cl "Poly") (T.no "Poly" "tops") fk_Poly_tops (pd_var (pv 1))) pda_nil))) (pd_int pe_int)) (fun _ _ => rfl)) (pd_var (pv 2)))) (pdss_cons (pds_put (i := 8) (kk := ⟨0, 0, 0, 0⟩) (fun h => pg_sub (pv 8) h set_list) (pd_var (pv 10)) (pd_var (pv 9))) (pdss_one (pds_for (passes_of rfl) rfl (pdi_enumT rfl (T.f "enumerate") (pda_cons (pd_fld (c := 3) (k := 0) (T.cl "Poly") (T.no "Poly" "tops") fk_Poly_tops (pd_var (pv 1))) pda_nil)) (pdg_tup (n := 2) (by rfl) (pdgs_cons (pdg_name (pg_name (i := 11) sc_division.nd rfl (by first | exact Or.inl rfl | exact Or.inr rfl))) (pdgs_cons (pdg_name (pg_name (i := 7) sc_division.nd rfl (by first | exact Or.inl rfl | exact Or.inr rfl))) pdgs_nil))) (pdss_one (pds_put (i := 6) (kk := ⟨0, 0, 0, 0⟩) (fun h => pg_sub (pv 6) h set_list) (pd_op op_sub l_I0 (pd_ixO ix_list (pv 6) (pd_op op_add l_I0 (pd_var (pv 9)) (pd_var (pv 11))) (fun _ _ => rfl)) (pd_op op_mulZ l_I (pd_var (pv 10)) (pd_var (pv 7)))) (pd_op op_add l_I0 (pd_var (pv 9)) (pd_var (pv 11)))))))))) (pdss_cons (pds_set (i := 12) sc_division.nd rfl (by first | exact Or.inl rfl | exact Or.inr rfl) (pd_op op_mulZ l_I (pd_var (pv 4)) (pd_fld (c := 3) (k := 1) (T.cl "Poly") (T.no "Poly" "bottom") fk_Poly_bottom (pd_var (pv 0))))) (pdss_frz 6 (pdss_frz 8 (pdss_one (pds_ret (pd_tup (pda_cons (pd_make (c := 3) (T.mkk "Poly") F_Poly_init (fun _ _ => .nil) (hr.mono (by decide)) (by rfl) (T.g "Poly") (takes_of rfl rfl rfl rfl) (pda_cons (pd_new (pdn_lc (own := [("share", 10)]) rfl sc_division.nd (pdi_list (pd_var (pv 8))) (blkOk_by (N := ["p", "q", "lead", "many", "factor", "_", "rest", "top", "shares", "shift", "share", "k", "bottom"]) (sc := defScope s_division) (by decide +kernel)) (by decide) (fun _ _ _ _ _ => (pdg_name (pg_name (i := 10) sc_division.nd rfl (Or.inl rfl)))) (fun _ _ _ _ _ => pdts_nil) (fun _ _ _ _ _ => pd_op op_mulZ l_I (pd_var (pv 10)) (pd_fld (c := 3) (k := 1) (T.cl "Poly") (T.no "Poly" "bottom") fk_Poly_bottom (pd_var (pv 1)))))) (pda_cons (pd_var (pv 12)) pda_nil))) (pda_cons (pd_make (c := 3) (T.mkk "Poly") F_Poly_init (fun _ _ => .nil) (hr.mono (by decide)) (by rfl) (T.g "Poly") (takes_of rfl rfl rfl rfl) (pda_cons (pd_var (pv 6)) (pda_cons (pd_var (pv 12)) pda_nil))) pda_nil))))))))))))))), fun ds Q ex h => ?_⟩)
  · obtain ⟨ts, b, us, c, rfl, _⟩ := h
    rfl
  · obtain ⟨ts, b, us, c, rfl, hv, hw, hl1, hl2, q0, q⟩ := h
    have ml : (ts.map D.int).length = ts.length := List.length_map _
    have mu : (us.map D.int).length = us.length := List.length_map _
    have l1000 : us.length ≤ 4000 := by omega
    walk_at "go"
    by_cases hn : us = []
    · rw [decide_eq_true hn]
      walk_at "go"
      exact q0 hn
    rw [decide_eq_false hn]
    have q := q hn
    have hpos : 0 < us.length := List.length_pos_iff.mpr hn
    obtain ⟨m, hm⟩ : ∃ m, us.length = m + 1 := ⟨us.length - 1, by omega⟩
    have el := neg_at hm
    have hle := hw.last hm
    have hlb : (cf us m).natAbs < 2 ^ 70 := cf_bd hw.bd m
    generalize hlead : cf us m = lead at el hle hlb
    obtain ⟨many, hmany⟩ : ∃ many, ts.length - m = many := ⟨_, rfl⟩
    have emany : max 0 ((((ts.map D.int).length : Nat) : Int) - (((us.map D.int).length : Nat) : Int) + 1) = (many : Int) := by
      rw [ml, mu]
      omega
    have hm24 : many ≤ 24 := by omega
    have pb : ∀ i, i ≤ many → (lead ^ i).natAbs < 2 ^ 1800 := fun i hi => abs_up (pow_bd hlb i) (by omega)
    walk_at "go"
    rw [emany]
    walk_at "go"
    refine ⟨fun i env => ∃ v : Sl, env = [.val (PO ts b), .val (PO us c), .val (.int lead), .val (.int (many : Int)), .val (.int (lead ^ i)), v, .no, .no, .no, .no, .no, .no, .no], fun _ => ⟨_, by rw [Int.pow_zero]; rfl⟩, ?_, ?_⟩
    · rintro i x env hx ⟨v, rfl⟩
      obtain ⟨hi, rfl⟩ := rng_at hx
      have mi : IntMulOk (lead ^ i) lead := mul6 (abs_up (pb i (by omega)) (by decide)) (abs_up hlb (by decide))
      walk_at "go"
      exact fun _ => ⟨_, by rw [Int.pow_succ]; rfl⟩
    rintro env ⟨v, rfl⟩
    have er : (rngD 0 ((many : Nat) : Int).toNat).length = many := by rw [rng_len, Int.toNat_natCast]
    rw [er]
    obtain ⟨F, hF⟩ : ∃ F, lead ^ many = F := ⟨_, rfl⟩
    have hFn : F ≠ 0 := by
      rw [← hF]
      exact Int.pow_ne_zero hle
    have hFb : F.natAbs < 2 ^ 1681 := by
      rw [← hF]
      exact abs_up (pow_bd hlb many) (by omega)
    rw [hF]
    walk_at "go"
    refine ⟨fun i z => ∃ t : Int, ts[i]? = some t ∧ z = some (.int (t * F)), ?_, ?_⟩
    · rintro i x hx
      obtain ⟨z, hz, rfl⟩ := map_at hx
      have hz2 : IntMulOk z F := mul6 (abs_up (hv.bd z (List.mem_of_getElem? hz)) (by decide)) (abs_up hFb (by decide))
      walk_at "go"
      exact fun _ => ⟨z, hz, rfl⟩
    intro zs hl3 hz
    obtain ⟨ms, e, hms, hm2⟩ := lc_map D.int (P := fun i v => ∃ t : Int, ts[i]? = some t ∧ v = t * F) hl3 (fun i z h => by
      obtain ⟨t, h1, h2⟩ := hz i z h
      exact ⟨_, h2, t, h1, rfl⟩)
    have em : ms = (List.range ts.length).map (sm F (cf ts)) := range_is (by rw [hms, ml]) (fun i u h => by
      obtain ⟨t, h1, h2⟩ := hm2 i u h
      rw [h2]
      show _ = F * cf ts i
      rw [cf_at h1, Int.mul_comm])
    rw [e, em]
    clear e em hms hm2 hz hl3 zs
    have st : DivI (sm F (cf ts)) us ts.length m many lead 1751 70 0 (sm F (cf ts)) (fun _ => 0) := DivI.start (fun k h => by
        show F * cf ts k = 0
        rw [cf_ge (by omega), Int.mul_zero]) (fun k h => by
        show F * cf ts k = 0
        rw [cf_ge h, Int.mul_zero]) (fun k => by rw [hF]; exact Int.dvd_mul_right _ _) (fun k => abs_mul_lt hFb (cf_bd hv.bd k))
    have ez0 : (List.replicate ((many : Nat) : Int).toNat [D.int 0]).flatten = ((List.range many).map (fun _ => (0 : Int))).map D.int := by
      rw [Int.toNat_natCast, flat_rep]
      congr 1
      exact range_is (by simp) fun i u h => (List.mem_replicate.mp (List.mem_of_getElem? h)).2
    have hzs : ([D.int 0] : List D).length * ((many : Nat) : Int).toNat ≤ sizeLine := by rw [sizeLine_eq, Int.toNat_natCast]; show 1 * many ≤ _; omega
    walk_at "go"
    refine ⟨fun t env => ∃ (f g : Cf) (v7 v9 v10 v11 : Sl), env = [.val (PO ts b), .val (PO us c), .val (.int lead), .val (.int (many : Int)), .val (.int F), v, .own (((List.range ts.length).map f).map D.int), v7, .own (((List.range many).map g).map D.int), v9, v10, v11, .no] ∧ DivI (sm F (cf ts)) us ts.length m many lead 1751 70 t f g ∧ dvI (sm F (cf ts)) us m many lead t = (f, g),
      fun _ => ⟨_, _, _, _, _, _, by rw [← ez0]; rfl, st, rfl⟩, ?_, ?_⟩
    · rintro t x env hx ⟨f, g, v7, v9, v10, v11, rfl, I, hD⟩
      obtain ⟨ht, rfl⟩ := dwn_at hx
      have ht' : t < many := by omega
      have hN : many + m = ts.length := by omega
      obtain ⟨s, hs⟩ : ∃ s, many - 1 - t = s := ⟨_, rfl⟩
      have es : (many : Int) - 1 - (t : Int) = (s : Int) := by omega
      rw [es]
      have ei : (s : Int) + (((us.map D.int).length : Nat) : Int) - 1 = ((s + m : Nat) : Int) := by
        rw [mu]
        omega
      have hsm : s + m < ts.length := by omega
      have aI := at_map (f := D.int) (k := ((s + m : Nat) : Int)) (by omega) (by rw [Int.toNat_natCast]; exact range_at (F := f) hsm)
      obtain ⟨z, hz⟩ : ∃ z, f (s + m) = z * lead := by
        have d := I.dv (s + m)
        rw [show many - t = many - t - 1 + 1 by omega, Int.pow_succ] at d
        obtain ⟨w, hw⟩ := d
        exact ⟨lead ^ (many - t - 1) * w, by rw [hw, Int.mul_assoc, Int.mul_assoc, Int.mul_comm lead w]⟩
      have cd : CDivZ (f (s + m)) lead := divZ hle hlb (by decide) (by decide)
      have ez : (f (s + m)).fdiv lead = z := by rw [hz, Int.mul_comm, fdiv_of hle]
      have zb : z.natAbs < 2 ^ 3800 := by
        refine Nat.lt_of_le_of_lt ?_ (abs_up (I.bd (s + m)) (by omega))
        rw [hz, Int.natAbs_mul]
        exact Nat.le_mul_of_pos_right _ (Int.natAbs_pos.mpr hle)
      have i8 : ixN (((List.range many).map g).map D.int).length ((s : Nat) : Int) = some s := ixN_nat (by rw [List.length_map, List.length_map, List.length_range]; omega)
      have set8 : (((List.range many).map g).map D.int).set s (D.int z) = ((List.range many).map (ad g (mono z s))).map D.int := by
        rw [← List.map_set, set_mono (I.low s (by omega))]
      have I2 := I.step hm hlead hle hw.bd ht' hN (by rw [hs]; exact hz)
      rw [hs] at I2
      have hD2 : dvI (sm F (cf ts)) us m many lead (t + 1) = (divF f us s z us.length, ad g (mono z s)) := by
        show (divF (dvI (sm F (cf ts)) us m many lead t).1 us (many - 1 - t) (((dvI (sm F (cf ts)) us m many lead t).1 (many - 1 - t + m)).fdiv lead) us.length, ad (dvI (sm F (cf ts)) us m many lead t).2 (mono (((dvI (sm F (cf ts)) us m many lead t).1 (many - 1 - t + m)).fdiv lead) (many - 1 - t))) = _
        rw [hD, hs, ez]
      walk_at "go"
      rw [ei]
      walk_at "go"
      rw [ez]
      refine ⟨fun j env => ∃ (v7 v11 : Sl), env = [.val (PO ts b), .val (PO us c), .val (.int lead), .val (.int (many : Int)), .val (.int F), v, .own (((List.range ts.length).map (divF f us s z j)).map D.int), v7, .own (((List.range many).map (ad g (mono z s))).map D.int), .val (.int (s : Int)), .val (.int z), v11, .no],
        fun _ => ⟨_, _, by rw [div_zero, ← set8]; rfl⟩, ?_, ?_⟩
      · rintro j x env hx ⟨v7, v11, rfl⟩
        obtain ⟨w, hw1, rfl⟩ := enum_at hx
        have hj := (List.getElem?_eq_some_iff.mp hw1).1
        have huw := hw.bd w (List.mem_of_getElem? hw1)
        have hN2 : s + j < ts.length := by omega
        have aN := at_map (f := D.int) (k := ((s + j : Nat) : Int)) (by omega) (by rw [Int.toNat_natCast]; exact range_at (F := divF f us s z j) hN2)
        have iN : ixN (((List.range ts.length).map (divF f us s z j)).map D.int).length ((s + j : Nat) : Int) = some (s + j) := ixN_nat (by rw [List.length_map, List.length_map, List.length_range]; exact hN2)
        have mzw : IntMulOk z w := mul6 zb (abs_up huw (by decide))
        have st2 : (((List.range ts.length).map (divF f us s z j)).map D.int).set (s + j) (D.int (divF f us s z j (s + j) - z * w)) = ((List.range ts.length).map (divF f us s z (j + 1))).map D.int := by
          rw [← List.map_set, set_range (div_step (f := f) (s := s) (z := z) hw1)]
        walk_at "go"
        exact fun _ => ⟨_, _, by rw [← st2]; rfl⟩
      · rintro env ⟨v7, v11, rfl⟩
        rw [enumD_len, mu]
        exact fun _ => ⟨_, _, _, _, _, _, rfl, I2, hD2⟩
    · rintro env ⟨f, g, v7, v9, v10, v11, rfl, I, hD⟩
      rw [dwn_len, show (((many : Nat) : Int) - 1 - -1).toNat = many by omega] at I hD
      have er1 : cf ((List.range ts.length).map f) = f := cf_range0 I.sup
      have es1 : cf ((List.range many).map g) = g := cf_range0 I.hi
      have R : DivR ts us ((List.range ts.length).map f) ((List.range many).map g) F := ⟨hFn, abs_up hFb (by decide), fun k => by rw [er1, es1]; exact I.eq k, fun k h => by rw [er1]; exact I.top k (by omega),
        by rw [List.length_map, List.length_range]; exact hl1, by rw [List.length_map, List.length_range]; exact hm24, fun x hx => by
          obtain ⟨k, _, rfl⟩ := List.mem_map.mp hx
          exact abs_up (I.bd k) (by omega), fun x hx => by
          obtain ⟨k, _, rfl⟩ := List.mem_map.mp hx
          exact abs_up (I.gbd k) (by omega)⟩
      have k1 : us.length - 1 = m := by omega
      have eF : dvF ts us = F := by
        unfold dvF
        rw [k1, hlead, hmany, hF]
      have eP : dvP ts us = (f, g) := by
        unfold dvP
        rw [eF, k1, hlead, hmany, hD]
      have eR : dvR ts us = (List.range ts.length).map f := by
        unfold dvR
        rw [eP]
      have eS : dvS ts us = (List.range many).map g := by
        unfold dvS
        rw [eP, k1, hmany]
      rw [eR, eS, eF] at q
      have q := q R
      have lr := R.lr
      have ls := R.ls
      have bs := R.bs
      generalize (List.range ts.length).map f = rs at *
      generalize (List.range many).map g = ss at *
      have mFb : IntMulOk F b := mul6 (abs_up hFb (by decide)) (abs_up hv.sb (by decide))
      have sFb : (F * b).natAbs < 2 ^ 8999 := abs_up (abs_mul_lt hFb hv.sb) (by decide)
      have nFb : F * b ≠ 0 := Int.mul_ne_zero hFn hv.ne
      walk_at "go"
      refine ⟨fun i z => ∃ t : Int, ss[i]? = some t ∧ z = some (.int (t * c)), ?_, ?_⟩
      · rintro i x hx
        obtain ⟨z, hz, rfl⟩ := map_at hx
        have hz2 : IntMulOk z c := mul6 (bs z (List.mem_of_getElem? hz)) (abs_up hw.sb (by decide))
        walk_at "go"
        exact fun _ => ⟨z, hz, rfl⟩
      intro zs hl3 hz
      obtain ⟨ms, e, hms, hm2⟩ := lc_map D.int (P := fun i v => ∃ t : Int, ss[i]? = some t ∧ v = t * c) hl3 (fun i z h => by
        obtain ⟨t, h1, h2⟩ := hz i z h
        exact ⟨_, h2, t, h1, rfl⟩)
      have em : ms = mulT ss c := map_is (by rw [hms, List.length_map]) hm2
      rw [e, em]
      walk_at "go"
      refine ⟨_, mulT ss c, F * b, rfl, .inl rfl, by unfold mulT; rw [List.length_map]; omega, fun z => absurd z nFb, fun _ => ⟨sFb, ?_⟩⟩
      walk_at "go"
      refine ⟨_, rs, F * b, rfl, .inl rfl, by omega, fun z => absurd z nFb, fun _ => ⟨sFb, ?_⟩⟩
      walk_at "go"
      exact q

theorem fn_Poly_floordiv (T : Txt LL K mg) (M : Mo3 cs sms cis mxs exs K mg) : Nonempty (Fn P w K mg base (d_Poly_floordiv.at_ K) 7 2 P_Poly_floordiv) := by
  obtain ⟨F_division⟩ := fn_division (P := P) (w := w) (base := base) T M
  refine Fn.of (T.d 21 (d := d_Poly_floordiv)) sc_Poly_floordiv rfl (fun _ _ _ _ _ _ us hl => match us, hl with | [_, _], _ => rfl) (fun ds Q ex h => ?_) (fun fd cdv A outer s H E hr => ⟨_, pdss_cons (pds_if (pdt_not (pdt_val (pd_isi (cr := (.own 3)) M.isi M.cls (fun c h => by cases h; decide) (fun h => pe_callB call_isi (by rfl) (T.f "isinstance") (by decide +kernel) (pa_cons h (pa_cons (pe_glob (v := .ref (He.ga K "Poly")) rfl (T.g "Poly") rfl) pa_nil))) (pd_var (pv 1))))) pdss_never pdss_nil) (pdss_cons (pds_asg (pd_call F_division (hr.mono (by decide)) (by rfl) (T.g "_division") (T.k "_division") (takes_of rfl rfl rfl rfl) (pda_cons (pd_var (pv 0)) (pda_cons (pd_var (pv 1)) pda_nil))) (pdg_tup (n := 2) (by rfl) (pdgs_cons (pdg_name (pg_name (i := 2) sc_Poly_floordiv.nd rfl (by first | exact Or.inl rfl | exact Or.inr rfl))) (pdgs_cons (pdg_name (pg_name (i := 3) sc_Poly_floordiv.nd rfl (by first | exact Or.inl rfl | exact Or.inr rfl))) pdgs_nil)))) (pdss_one (pds_ret (pd_var (pv 2))))), fun ds Q ex h => ?_⟩)
  · obtain ⟨ts, b, us, c, rfl, _⟩ := h
    rfl
  · obtain ⟨ts, b, us, c, rfl, hv, hw, hl1, hl2, q0, q⟩ := h
    walk_at "go"
    refine fun hn r => ?_
    walk_at "go"
    exact q hn r

theorem fn_Poly_remainder (T : Txt LL K mg) (M : Mo3 cs sms cis mxs exs K mg) : Nonempty (Fn P w K mg base (d_Poly_remainder.at_ K) 7 2 P_Poly_remainder) := by
  obtain ⟨F_division⟩ := fn_division (P := P) (w := w) (base := base) T M
  refine Fn.of (T.d 24 (d := d_Poly_remainder)) sc_Poly_remainder rfl (fun _ _ _ _ _ _ us hl => match us, hl with | [_, _], _ => rfl) (fun ds Q ex h => ?_) (fun fd cdv A outer s H E hr => ⟨_, pdss_cons (pds_asg (pd_call F_division (hr.mono (by decide)) (by rfl) (T.g "_division") (T.k "_division") (takes_of rfl rfl rfl rfl) (pda_cons (pd_var (pv 0)) (pda_cons (pd_var (pv 1)) pda_nil))) (pdg_tup (n := 2) (by rfl) (pdgs_cons (pdg_name (pg_name (i := 2) sc_Poly_remainder.nd rfl (by first | exact Or.inl rfl | exact Or.inr rfl))) (pdgs_cons (pdg_name (pg_name (i := 3) sc_Poly_remainder.nd rfl (by first | exact Or.inl rfl | exact Or.inr rfl))) pdgs_nil)))) (pdss_one (pds_ret (pd_var (pv 3)))), fun ds Q ex h => ?_⟩)
  · obtain ⟨ts, b, us, c, rfl, _⟩ := h
    rfl
  · obtain ⟨ts, b, us, c, rfl, hv, hw, hl1, hl2, q0, q⟩ := h
    walk_at "go"
    refine fun hn r => ?_
    walk_at "go"
    exact q hn r
end
end K08

namespace DL
open PySem PySem.Spec PyProof.Rows L2 LR
/-! what the program answers (us over c, in its own form) is what is due (ts over b) -/
structure Told (us : List Int) (c : Int) (ts : List Int) (b : Int) : Prop where
  pol : Pol 8900 us c
  ne : b ≠ 0
  sb : b.natAbs < 2 ^ 8900
  bd : Bd 8900 ts
  len : ts.length ≤ 4000
  eq : PEq (cf us) c (cf ts) b
/-- sizes that the law's own sums and products keep -/
structure Sz (n : Nat) (ts : List Int) (b : Int) : Prop where
  ne : b ≠ 0
  bd : Bd n ts
  sb : b.natAbs < 2 ^ n
theorem Sz.up {n m : Nat} {ts : List Int} {b : Int} (h : Sz n ts b) (k : n ≤ m) : Sz m ts b := ⟨h.ne, h.bd.up k, abs_up h.sb k⟩
theorem Pol.sz {n : Nat} {ts : List Int} {b : Int} (h : Pol n ts b) : Sz n ts b := ⟨h.ne, h.bd, h.sb⟩
theorem told_of {ws vs : List Int} {d e : Int} (h1 : Sz 8900 ws d) (l1 : ws.length ≤ 1000) (h2 : Sz 8900 vs e) (l2 : vs.length ≤ 4000) (h : PEq (cf ws) d (cf vs) e) : Told (pT ws d) (pB ws d) vs e :=
  ⟨pol_of h1.ne l1 h1.bd h1.sb, h2.ne, h2.sb, h2.bd, l2, (poly_cf ws h1.ne).trans h1.ne h⟩
theorem told_pol {us vs : List Int} {c e : Int} (h1 : Pol 8900 us c) (h2 : Sz 8900 vs e) (l2 : vs.length ≤ 4000) (h : PEq (cf us) c (cf vs) e) : Told us c vs e := ⟨h1, h2.ne, h2.sb, h2.bd, l2, h⟩
theorem sz_prodL {n m : Nat} {ts us : List Int} {b c : Int} (h : Sz n ts b) (g : Sz m us c) (l1 : ts.length ≤ 2000) (l2 : us.length ≤ 2000) : Sz (n + m + 12) (prodL ts us) (b * c) :=
  ⟨Int.mul_ne_zero h.ne g.ne, prodL_bd h.bd g.bd l1 l2, abs_up (abs_mul_lt h.sb g.sb) (by omega)⟩
theorem sz_prodT {n m : Nat} {ts us : List Int} {b c : Int} (h : Sz n ts b) (g : Sz m us c) (l1 : ts.length ≤ 1000) (l2 : us.length ≤ 1000) : Sz (n + m + 12) (prodT ts us) (b * c) :=
  ⟨Int.mul_ne_zero h.ne g.ne, prod_bd h.bd g.bd l1 l2, abs_up (abs_mul_lt h.sb g.sb) (by omega)⟩
theorem sum_bd {n : Nat} {x y b c f : Int} (hx : x.natAbs < 2 ^ n) (hy : y.natAbs < 2 ^ n) (hb : b.natAbs < 2 ^ n) (hc : c.natAbs < 2 ^ n) (f0 : -100 ≤ f) (f1 : f ≤ 100) : (x * c + f * y * b).natAbs < 2 ^ (2 * n + 8) := by
  have h1 := abs_mul_lt hx hc
  have h2 := abs_mul_lt (abs_mul_lt (a := 7) (show f.natAbs < 2 ^ 7 by omega) hy) hb
  have := abs_add_lt (a := 2 * n + 7) (abs_up h1 (by omega)) (abs_up h2 (by omega))
  exact this
theorem sz_sumT {n : Nat} {ts us : List Int} {b c f : Int} (h : Sz n ts b) (g : Sz n us c) (f0 : -100 ≤ f) (f1 : f ≤ 100) : Sz (2 * n + 8) (sumT ts b us c f) (b * c) :=
  ⟨Int.mul_ne_zero h.ne g.ne, fun t ht => by
    unfold sumT at ht
    obtain ⟨k, _, rfl⟩ := List.mem_map.mp ht
    exact sum_bd (cf_bd h.bd k) (cf_bd g.bd k) h.sb g.sb f0 f1, abs_up (abs_mul_lt h.sb g.sb) (by omega)⟩
theorem sz_addP {n : Nat} {ts us : List Int} {b c : Int} (h : Sz n ts b) (g : Sz n us c) : Sz (2 * n + 8) (addP ts b us c) (b * c) :=
  ⟨Int.mul_ne_zero h.ne g.ne, fun t ht => by
    unfold addP at ht
    obtain ⟨k, _, rfl⟩ := List.mem_map.mp ht
    have := sum_bd (f := 1) (cf_bd h.bd k) (cf_bd g.bd k) h.sb g.sb (by decide) (by decide)
    rw [Int.one_mul] at this
    exact this, abs_up (abs_mul_lt h.sb g.sb) (by omega)⟩
theorem cf_addP (ts : List Int) (b : Int) (us : List Int) (c : Int) : cf (addP ts b us c) = fun k => cf ts k * c + cf us k * b := by
  unfold addP
  rw [cf_range]
  funext k
  by_cases h : k < max ts.length us.length
  · exact if_pos h
  · rw [if_neg h, cf_ge (show ts.length ≤ k by omega), cf_ge (show us.length ≤ k by omega)]
    simp
theorem cf_negT (us : List Int) : cf (negT us) = fun k => -cf us k := by
  have e : cf (negT us) = sm (-1) (cf us) := by
    rw [← cf_map]
    exact congrArg cf (List.map_congr_left fun t _ => by omega)
  rw [e]
  funext k
  show -1 * cf us k = _
  omega
theorem sz_neg {n : Nat} {us : List Int} {c : Int} (h : Sz n us c) : Sz n (negT us) c := ⟨h.ne, fun t ht => by
  unfold negT at ht
  obtain ⟨u, hu, rfl⟩ := List.mem_map.mp ht
  rw [Int.natAbs_neg]
  exact h.bd u hu, h.sb⟩
theorem addP_len (ts : List Int) (b : Int) (us : List Int) (c : Int) : (addP ts b us c).length = max ts.length us.length := by unfold addP; simp
theorem told_add {ts us : List Int} {b c : Int} (h : Sz 4000 ts b) (g : Sz 4000 us c) (l1 : ts.length ≤ 1000) (l2 : us.length ≤ 1000) : Told (pT (addP ts b us c) (b * c)) (pB (addP ts b us c) (b * c)) (sumT ts b us c 1) (b * c) :=
  told_of ((sz_addP h g).up (by decide)) (by rw [addP_len]; omega) ((sz_sumT h g (by decide) (by decide)).up (by decide)) (by rw [sumT_len]; omega) (by
    rw [cf_addP, cf_sumT]
    intro k
    show b * c * (cf ts k * c + cf us k * b) = b * c * (cf ts k * c + 1 * cf us k * b)
    rw [Int.one_mul])
theorem told_sub {ts us : List Int} {b c : Int} (h : Sz 4000 ts b) (g : Sz 4000 us c) (l1 : ts.length ≤ 1000) (l2 : us.length ≤ 1000) : Told (pT (addP ts b (negT us) c) (b * c)) (pB (addP ts b (negT us) c) (b * c)) (sumT ts b us c (-1)) (b * c) :=
  told_of ((sz_addP h (sz_neg g)).up (by decide)) (by rw [addP_len]; unfold negT; rw [List.length_map]; omega) ((sz_sumT h g (by decide) (by decide)).up (by decide)) (by rw [sumT_len]; omega) (by
    rw [cf_addP, cf_sumT, cf_negT]
    intro k
    show b * c * (cf ts k * c + -cf us k * b) = b * c * (cf ts k * c + -1 * cf us k * b)
    rw [Int.neg_one_mul])
theorem told_self {ts : List Int} {b : Int} (h : Sz 4000 ts b) (l1 : ts.length ≤ 1000) : Told (pT (addP ts b (negT ts) b) (b * b)) (pB (addP ts b (negT ts) b) (b * b)) [] 1 :=
  told_of ((sz_addP h (sz_neg h)).up (by decide)) (by rw [addP_len]; unfold negT; rw [List.length_map]; omega) ⟨by decide, fun t ht => by simp at ht, Nat.one_lt_two_pow (by decide)⟩ (by decide) (by
    rw [cf_addP, cf_negT]
    intro k
    show 1 * (cf ts k * b + -cf ts k * b) = b * b * 0
    rw [Int.neg_mul, Int.mul_zero]
    omega)
theorem told_prod {ts us : List Int} {b c : Int} (h : Sz 4000 ts b) (g : Sz 4000 us c) (l1 : ts.length ≤ 500) (l2 : us.length ≤ 500) : Told (pT (prodT ts us) (b * c)) (pB (prodT ts us) (b * c)) (prodL ts us) (b * c) :=
  told_of ((sz_prodT h g (by omega) (by omega)).up (by decide)) (by rw [prod_len]; omega) ((sz_prodL h g (by omega) (by omega)).up (by decide)) (by rw [prodL_len]; omega) (by rw [cf_prod, cf_prodL]; exact PEq.refl _ _)
theorem told_prod2 {ts us : List Int} {b c : Int} (h : Sz 4000 ts b) (g : Sz 4000 us c) (l1 : ts.length ≤ 500) (l2 : us.length ≤ 500) : Told (pT (prodT us ts) (c * b)) (pB (prodT us ts) (c * b)) (prodL ts us) (b * c) :=
  told_of ((sz_prodT g h (by omega) (by omega)).up (by decide)) (by rw [prod_len]; omega) ((sz_prodL h g (by omega) (by omega)).up (by decide)) (by rw [prodL_len]; omega) (by
    rw [cf_prod, cf_prodL, Int.mul_comm c b]
    intro k
    rw [cv_comm k (cf us) (cf ts)])
/-! powers -/
theorem cv_one (f : Cf) : cv (cf [1]) f = f := by
  have e : cf [1] = mono 1 0 := by
    funext k
    cases k with
    | zero => rfl
    | succ k => rfl
  funext k
  rw [e, cv_mono, if_neg (Nat.not_lt_zero k), Int.one_mul, Nat.sub_zero]
theorem pw_one (f : Cf) : pw f 1 = f := cv_one f
theorem pw_add (f : Cf) (i : Nat) : ∀ j, cv (pw f i) (pw f j) = pw f (i + j)
  | 0 => by
    funext k
    show cv (pw f i) (cf [1]) k = pw f i k
    rw [cv_comm]
    exact congrFun (cv_one _) k
  | j + 1 => by
    have ih := pw_add f i j
    funext k
    show cv (pw f i) (cv (pw f j) f) k = cv (pw f (i + j)) f k
    rw [← cv_assoc, ih]
/-- vs over e is the i'th power of f over b -/
structure IsPw (f : Cf) (b : Int) (i : Nat) (vs : List Int) (e : Int) : Prop where
  c : cf vs = pw f i
  b : e = b ^ i
theorem IsPw.one {ts : List Int} {b : Int} : IsPw (cf ts) b 1 ts b := ⟨(pw_one _).symm, by rw [Int.pow_succ, Int.pow_zero, Int.one_mul]⟩
theorem IsPw.mul {f : Cf} {b : Int} {i j : Nat} {vs ws : List Int} {d e : Int} (h : IsPw f b i vs d) (g : IsPw f b j ws e) : IsPw f b (i + j) (prodL vs ws) (d * e) := ⟨by rw [cf_prodL, h.c, g.c, pw_add], by rw [h.b, g.b, Int.pow_add]⟩
theorem told_pow {f : Cf} {b c e : Int} {i : Nat} {us vs : List Int} (h1 : Pol 8900 us c) (h2 : Sz 8900 vs e) (l2 : vs.length ≤ 4000) (g : IsPw f b i vs e) (h : PEq (cf us) c (pw f i) (b ^ i)) : Told us c vs e := told_pol h1 h2 l2 (by rw [g.c, g.b]; exact h)
end DL

namespace K08
open PySem PySem.Spec PyProof.Rows L2 LR DL
section
variable {P : Program} {w : World} {K : PySem.W.Frag} {mg : Str → Option Value} {base : Heap}
local macro_rules | `(tactic| walk_at "side") => `(tactic| first | with_reducible assumption | exact Bsame.mk (by with_reducible rfl) | omega | rfl | assumption | exact ⟨_, rfl⟩ | exact mulL (by omega) (by omega) | exact mulR (by omega) (by omega) | exact mulF (by decide) (by decide) | exact ⟨by decide, by decide +kernel⟩ | decide | exact Nat.le_of_ble_eq_true rfl | (simp only [List.length_cons, List.length_nil, List.length_map, List.nil_append, List.cons_append, sizeLine_eq]; omega) | (simp only [List.map_cons, List.map_nil, List.nil_append, List.cons_append]; decide +kernel))
local macro_rules | `(tactic| walk_at "go") => `(tactic| repeat (first
  | refine ⟨_, rfl, ?_⟩
  | refine ⟨_, _, rfl, rfl, ?_⟩
  | refine ⟨_, _, rfl, ?_⟩
  | refine ⟨_, _, _, rfl, rfl, ?_⟩
  | refine ⟨_, _, _, rfl, ?_⟩
  | refine ⟨_, _, _, _, rfl, rfl, ?_⟩
  | refine ⟨_, _, _, _, rfl, ?_⟩
  | refine ⟨_, _, rfl, by assumption, ?_⟩
  | refine ⟨_, _, _, rfl, rfl, rfl, ?_⟩
  | refine ⟨_, _, _, rfl, rfl, by assumption, ?_⟩
  | refine ⟨_, _, _, rfl, rfl, by walk_at "side", by assumption, ?_⟩
  | refine ⟨_, _, _, rfl, rfl, by walk_at "side", rfl, ?_⟩
  | refine ⟨_, _, _, rfl, rfl, rfl, by assumption, ?_⟩
  | refine .inl ⟨_, rfl, ?_⟩
  | refine .inr ⟨_, rfl, ?_⟩
  | refine .inr (.inl ⟨_, rfl, ?_⟩)
  | refine .inr (.inr ⟨_, rfl, ?_⟩)
  | refine ⟨_, .inl rfl, ?_⟩
  | refine ⟨_, .inr rfl, ?_⟩
  | refine .inr ⟨_, _, rfl, ?_⟩
  | refine .inl ⟨_, _, rfl, ?_⟩
  | refine And.intro (by walk_at "side") ?_))


def P_law_ratio_of : Prm := fun ds Q _ => ∃ (t b : Int), ds = [R t b] ∧ 0 < b ∧ nT t b = t ∧ nB t b = b ∧ b.natAbs < 2 ^ 8999 ∧ Q (.tup [.int t, .int b])
def P_law_poly_of : Prm := fun ds Q _ => ∃ (ts : List Int) (b : Int), ds = [PO ts b] ∧ Pol 8900 ts b ∧ Q (TB ts b)
def P_law_told : Prm := fun ds Q _ => ∃ (us : List Int) (c : Int) (ts : List Int) (b : Int), ds = [PO us c, TB ts b] ∧ Told us c ts b ∧ Q (.bl true)
theorem okD_TB (ts : List Int) (b : Int) : okD (TB ts b) = true := okD_of 2 (fun y hy => by
  simp only [List.mem_cons, List.not_mem_nil, or_false] at hy
  rcases hy with rfl | rfl
  · intro z hz
    obtain ⟨p, _, rfl⟩ := List.mem_map.mp hz
    exact trivial
  · exact trivial) (by decide)
theorem Pol.is {n : Nat} {us ts : List Int} {c b : Int} (h : Pol n us c) (hb : b ≠ 0) (e : PEq (cf us) c (cf ts) b) : pT ts b = us ∧ pB ts b = c := by
  obtain ⟨h1, h2⟩ := poly_cross h.ne hb e
  exact ⟨h1.symm.trans h.low.1, h2.symm.trans h.low.2⟩

theorem fn_law_ratio_of (T : Txt LL K mg) (M : Mo3 cs sms cis mxs exs K mg) : Nonempty (Fn P w K mg base (d_law_ratio_of.at_ K) 6 1 P_law_ratio_of) := by
  obtain ⟨F_law_is_integer⟩ := fn_law_is_integer (P := P) (w := w) (base := base) T M
  obtain ⟨F_Ratio_eq⟩ := fn_Ratio_eq (P := P) (w := w) (base := base) T M
  obtain ⟨⟨F_Ratio_init⟩, ⟨F_Ratio_init_d⟩⟩ := fn_Ratio_init (P := P) (w := w) (base := base) T M
  refine Fn.of (T.d 42 (d := d_law_ratio_of)) sc_law_ratio_of rfl (fun _ _ _ _ _ _ us hl => match us, hl with | [_], _ => rfl) (fun ds Q ex h => ?_) (fun fd cdv A outer s H E hr => ⟨_, pdss_cons (pds_if (PDW.pt (pdw_and (pdt_val (pd_isi (cr := (.own 0)) M.isi M.cls (fun c h => by cases h; decide) (fun h => pe_callB call_isi (by rfl) (T.f "isinstance") (by decide +kernel) (pa_cons h (pa_cons (pe_glob (v := .ref (He.ga K "Ratio")) rfl (T.g "Ratio") rfl) pa_nil))) (pd_var (pv 0)))) (pdw_and (pdt_val (pd_call F_law_is_integer (hr.mono (by decide)) (by rfl) (T.g "_law_is_integer") (T.k "_law_is_integer") (takes_of rfl rfl rfl rfl) (pda_cons (pd_fld (c := 0) (k := 0) (T.cl "Ratio") (T.no "Ratio" "top") fk_Ratio_top (pd_var (pv 0))) pda_nil))) (pdw_and (pdt_val (pd_call F_law_is_integer (hr.mono (by decide)) (by rfl) (T.g "_law_is_integer") (T.k "_law_is_integer") (takes_of rfl rfl rfl rfl) (pda_cons (pd_fld (c := 0) (k := 1) (T.cl "Ratio") (T.no "Ratio" "bottom") fk_Ratio_bottom (pd_var (pv 0))) pda_nil))) (pdw_and1 (pdt_cmp op_gt l_B0 (pd_fld (c := 0) (k := 1) (T.cl "Ratio") (T.no "Ratio" "bottom") fk_Ratio_bottom (pd_var (pv 0))) (pd_int pe_int) (nomark _))))))) (pdss_one (pds_ret (pd_ife (pdt_cmp (op_eqO (T.own "Ratio" "__eq__") (T.fnn "Ratio" "__eq__") F_Ratio_eq.ok (hr.mono (by decide)) F_Ratio_eq.bd passL) (l_cmpO (c := 0) M.isi M.cls (by decide) F_Ratio_eq.len) (pd_var (pv 0)) (pd_make (c := 0) (T.mkk "Ratio") F_Ratio_init (fun _ _ => .nil) (hr.mono (by decide)) (by rfl) (T.g "Ratio") (takes_of rfl rfl rfl rfl) (pda_cons (pd_fld (c := 0) (k := 0) (T.cl "Ratio") (T.no "Ratio" "top") fk_Ratio_top (pd_var (pv 0))) (pda_cons (pd_fld (c := 0) (k := 1) (T.cl "Ratio") (T.no "Ratio" "bottom") fk_Ratio_bottom (pd_var (pv 0))) pda_nil))) (nomark _)) (pd_tup (pda_cons (pd_fld (c := 0) (k := 0) (T.cl "Ratio") (T.no "Ratio" "top") fk_Ratio_top (pd_var (pv 0))) (pda_cons (pd_fld (c := 0) (k := 1) (T.cl "Ratio") (T.no "Ratio" "bottom") fk_Ratio_bottom (pd_var (pv 0))) pda_nil))) (pd_non pe_non)))) pdss_nil) (pdss_one (pds_ret (pd_non pe_non))), fun ds Q ex h => ?_⟩)
  · obtain ⟨t, b, rfl, _⟩ := h
    rfl
  · obtain ⟨t, b, rfl, hb, e1, e2, hs, q⟩ := h
    have hb' : b ≠ 0 := by omega
    have hg : (gs [t] b).natAbs < 2 ^ 8999 := Nat.lt_of_le_of_lt (gs_le hb') hs
    have d1 : decide (b > 0) = true := decide_eq_true hb
    walk_at "go"
    refine d_ite (fun _ => ?_) (fun c => absurd hb (of_decide_eq_false c))
    walk_at "go"
    refine fun _ => ⟨hg, ?_⟩
    rw [e1, e2]
    walk_at "go"
    rw [decide_eq_true (rfl : t = t), decide_eq_true (rfl : b = b)]
    walk_at "go"
    exact q

theorem fn_law_poly_of (T : Txt LL K mg) (M : Mo3 cs sms cis mxs exs K mg) : Nonempty (Fn P w K mg base (d_law_poly_of.at_ K) 6 1 P_law_poly_of) := by
  obtain ⟨F_law_integers⟩ := fn_law_integers (P := P) (w := w) (base := base) T M
  obtain ⟨F_Poly_eq⟩ := fn_Poly_eq (P := P) (w := w) (base := base) T M
  obtain ⟨⟨F_Poly_init⟩, ⟨F_Poly_init_d⟩⟩ := fn_Poly_init (P := P) (w := w) (base := base) T M
  obtain ⟨F_law_is_integer⟩ := fn_law_is_integer (P := P) (w := w) (base := base) T M
  refine Fn.of (T.d 44 (d := d_law_poly_of)) sc_law_poly_of rfl (fun _ _ _ _ _ _ us hl => match us, hl with | [_], _ => rfl) (fun ds Q ex h => ?_) (fun fd cdv A outer s H E hr => ⟨_, pdss_cons (pds_if (PDW.pt (pdw_or (pdt_not (pdt_val (pd_isi (cr := (.own 3)) M.isi M.cls (fun c h => by cases h; decide) (fun h => pe_callB call_isi (by rfl) (T.f "isinstance") (by decide +kernel) (pa_cons h (pa_cons (pe_glob (v := .ref (He.ga K "Poly")) rfl (T.g "Poly") rfl) pa_nil))) (pd_var (pv 0))))) (pdw_or1 (pdt_not (pdt_val (pd_call F_law_integers (hr.mono (by decide)) (by rfl) (T.g "_law_integers") (T.k "_law_integers") (takes_of rfl rfl rfl rfl) (pda_cons (pd_fld (c := 3) (k := 0) (T.cl "Poly") (T.no "Poly" "tops") fk_Poly_tops (pd_var (pv 0))) pda_nil))))))) (pdss_one (pds_ret (pd_non pe_non))) pdss_nil) (pdss_cons (pds_if (PDW.pt (pdw_or (pdt_not (pdt_val (pd_call F_law_is_integer (hr.mono (by decide)) (by rfl) (T.g "_law_is_integer") (T.k "_law_is_integer") (takes_of rfl rfl rfl rfl) (pda_cons (pd_fld (c := 3) (k := 1) (T.cl "Poly") (T.no "Poly" "bottom") fk_Poly_bottom (pd_var (pv 0))) pda_nil)))) (pdw_or (pdt_cmp op_lt l_B0 (pd_fld (c := 3) (k := 1) (T.cl "Poly") (T.no "Poly" "bottom") fk_Poly_bottom (pd_var (pv 0))) (pd_int pe_int) (nomark _)) (pdw_or1 (pdt_not (pdt_cmp (op_eqO (T.own "Poly" "__eq__") (T.fnn "Poly" "__eq__") F_Poly_eq.ok (hr.mono (by decide)) F_Poly_eq.bd passL) (l_cmpO (c := 3) M.isi M.cls (by decide) F_Poly_eq.len) (pd_var (pv 0)) (pd_make (c := 3) (T.mkk "Poly") F_Poly_init (fun _ _ => .nil) (hr.mono (by decide)) (by rfl) (T.g "Poly") (takes_of rfl rfl rfl rfl) (pda_cons (pd_new (pdn_cb (fun h => pe_callTy call_list_of (by rfl) (T.f "list") (by decide +kernel) h) l_list (pda_cons (pd_fld (c := 3) (k := 0) (T.cl "Poly") (T.no "Poly" "tops") fk_Poly_tops (pd_var (pv 0))) pda_nil))) (pda_cons (pd_fld (c := 3) (k := 1) (T.cl "Poly") (T.no "Poly" "bottom") fk_Poly_bottom (pd_var (pv 0))) pda_nil))) (nomark _))))))) (pdss_one (pds_ret (pd_non pe_non))) pdss_nil) (pdss_one (pds_ret (pd_tup (pda_cons (pd_new (pdn_cb (fun h => pe_callTy call_list_of (by rfl) (T.f "list") (by decide +kernel) h) l_list (pda_cons (pd_fld (c := 3) (k := 0) (T.cl "Poly") (T.no "Poly" "tops") fk_Poly_tops (pd_var (pv 0))) pda_nil))) (pda_cons (pd_fld (c := 3) (k := 1) (T.cl "Poly") (T.no "Poly" "bottom") fk_Poly_bottom (pd_var (pv 0))) pda_nil)))))), fun ds Q ex h => ?_⟩)
  · obtain ⟨ts, b, rfl, _⟩ := h
    rfl
  · obtain ⟨ts, b, rfl, hv, q⟩ := h
    have hb := hv.pos
    have hl := hv.len
    have hn := hv.ne
    have hs := abs_up hv.sb (show 8900 ≤ 8999 by decide)
    obtain ⟨l1, l2⟩ := hv.low
    have d1 : decide (b < 1) = false := decide_eq_false (by omega)
    walk_at "go"
    refine d_ite (fun c => absurd (of_decide_eq_true c) (by omega)) (fun _ => ?_)
    walk_at "go"
    refine ⟨_, ts, b, rfl, .inl rfl, by omega, fun z => absurd z hn, fun _ => ⟨hs, ?_⟩⟩
    rw [l1, l2]
    walk_at "go"
    rw [decide_eq_true (rfl : ts = ts), decide_eq_true (rfl : b = b)]
    walk_at "go"
    exact q

theorem fn_law_told (T : Txt LL K mg) (M : Mo3 cs sms cis mxs exs K mg) : Nonempty (Fn P w K mg base (d_law_told.at_ K) 7 2 P_law_told) := by
  obtain ⟨F_law_poly_of⟩ := fn_law_poly_of (P := P) (w := w) (base := base) T M
  obtain ⟨F_law_trim⟩ := fn_law_trim (P := P) (w := w) (base := base) T M
  refine Fn.of (T.d 50 (d := d_law_told)) sc_law_told rfl (fun _ _ _ _ _ _ us hl => match us, hl with | [_, _], _ => rfl) (fun ds Q ex h => ?_) (fun fd cdv A outer s H E hr => ⟨_, pdss_cons (pds_set (i := 2) sc_law_told.nd rfl (by first | exact Or.inl rfl | exact Or.inr rfl) (pd_call F_law_poly_of (hr.mono (by decide)) (by rfl) (T.g "_law_poly_of") (T.k "_law_poly_of") (takes_of rfl rfl rfl rfl) (pda_cons (pd_var (pv 0)) pda_nil))) (pdss_one (pds_ret (pd_and (pd_cmp op_notN l_notN (pd_var (pv 2)) (pd_non pe_non) (nomark _)) (pd_one (pd_cmp (op_eqD (hr.units)) l_eqD (pd_var (pv 2)) (pd_call F_law_trim (hr.mono (by decide)) (by rfl) (T.g "_law_trim") (T.k "_law_trim") (takes_of rfl rfl rfl rfl) (pda_cons (pd_ix ix_tup l_ixT (pd_var (pv 1)) (pd_int pe_int) (fun _ _ => rfl)) (pda_cons (pd_ix ix_tup l_ixT (pd_var (pv 1)) (pd_int pe_int) (fun _ _ => rfl)) pda_nil))) (nomark _)))))), fun ds Q ex h => ?_⟩)
  · obtain ⟨us, c, ts, b, rfl, _⟩ := h
    rfl
  · obtain ⟨us, c, ts, b, rfl, ⟨hv, hb, hs, ht, hl, he⟩, q⟩ := h
    obtain ⟨e1, e2⟩ := Pol.is hv hb he
    have o1 := okD_TB us c
    have hs2 := abs_up hs (show 8900 ≤ 8999 by decide)
    have ht2 := ht.up (show 8900 ≤ 8999 by decide)
    have er : eqD (TB us c) (TB us c) = true := eqD_refl o1
    walk_at "go"
    rw [e1, e2]
    refine ⟨o1, ?_⟩
    rw [er]
    exact q
end
end K08

namespace K08
open PySem PySem.Spec PyProof.Rows L2 LR DL
section
variable {P : Program} {w : World} {K : PySem.W.Frag} {mg : Str → Option Value} {base : Heap}
local macro_rules | `(tactic| walk_at "side") => `(tactic| first | with_reducible assumption | exact Bsame.mk (by with_reducible rfl) | omega | rfl | assumption | exact ⟨_, rfl⟩ | exact mulL (by omega) (by omega) | exact mulR (by omega) (by omega) | exact mulF (by decide) (by decide) | exact ⟨by decide, by decide +kernel⟩ | decide | exact Nat.le_of_ble_eq_true rfl | (simp only [List.length_cons, List.length_nil, List.length_map, List.nil_append, List.cons_append, sizeLine_eq]; omega) | (simp only [List.map_cons, List.map_nil, List.nil_append, List.cons_append]; decide +kernel))
local macro_rules | `(tactic| walk_at "go") => `(tactic| repeat (first
  | refine ⟨_, rfl, ?_⟩
  | refine ⟨_, _, rfl, rfl, ?_⟩
  | refine ⟨_, _, rfl, ?_⟩
  | refine ⟨_, _, _, rfl, rfl, ?_⟩
  | refine ⟨_, _, _, rfl, ?_⟩
  | refine ⟨_, _, _, _, rfl, rfl, ?_⟩
  | refine ⟨_, _, _, _, rfl, ?_⟩
  | refine ⟨_, _, _, _, _, rfl, ?_⟩
  | refine ⟨_, _, rfl, by assumption, ?_⟩
  | refine ⟨_, _, _, rfl, rfl, rfl, ?_⟩
  | refine ⟨_, _, _, rfl, rfl, by assumption, ?_⟩
  | refine ⟨_, _, _, rfl, rfl, by walk_at "side", by assumption, ?_⟩
  | refine ⟨_, _, _, rfl, rfl, by walk_at "side", rfl, ?_⟩
  | refine ⟨_, _, _, rfl, rfl, rfl, by assumption, ?_⟩
  | refine .inl ⟨_, rfl, ?_⟩
  | refine .inr ⟨_, rfl, ?_⟩
  | refine .inr (.inl ⟨_, rfl, ?_⟩)
  | refine .inr (.inr ⟨_, rfl, ?_⟩)
  | refine ⟨_, .inl rfl, ?_⟩
  | refine ⟨_, .inr rfl, ?_⟩
  | refine .inr ⟨_, _, rfl, ?_⟩
  | refine .inl ⟨_, _, rfl, ?_⟩
  | refine And.intro (by walk_at "side") ?_))


def P_law_ring_kept : Prm := fun ds Q _ => ∃ (ts : List Int) (b : Int) (us : List Int) (c : Int), ds = [PO ts b, PO us c, TB ts b, TB us c] ∧ Pol 70 ts b ∧ Pol 70 us c ∧ ts.length ≤ 24 ∧ us.length ≤ 24 ∧ Q (.bl true)
theorem one_sz : Sz 8900 [1] 1 := ⟨by decide, fun t ht => by rw [List.mem_singleton.mp ht]; exact Nat.one_lt_two_pow (by decide), Nat.one_lt_two_pow (by decide)⟩
theorem told_zero {us : List Int} {c b : Int} {f : Cf} {n : Nat} (h1 : Pol n us c) (hn : n ≤ 8900) (h : PEq (cf us) c (pw f 0) (b ^ 0)) : Told us c [1] 1 := told_pol (h1.up hn) one_sz (by decide) (by rw [Int.pow_zero] at h; exact h)

theorem fn_law_ring_kept (T : Txt LL K mg) (M : Mo3 cs sms cis mxs exs K mg) : Nonempty (Fn P w K mg base (d_law_ring_kept.at_ K) 13 4 P_law_ring_kept) := by
  obtain ⟨F_law_told⟩ := fn_law_told (P := P) (w := w) (base := base) T M
  obtain ⟨F_law_sum⟩ := fn_law_sum (P := P) (w := w) (base := base) T M
  obtain ⟨F_Poly_sub⟩ := fn_Poly_sub (P := P) (w := w) (base := base) T M
  obtain ⟨F_Poly_add⟩ := fn_Poly_add (P := P) (w := w) (base := base) T M
  obtain ⟨F_Poly_neg⟩ := fn_Poly_neg (P := P) (w := w) (base := base) T M
  obtain ⟨F_law_product⟩ := fn_law_product (P := P) (w := w) (base := base) T M
  obtain ⟨F_Poly_mul⟩ := fn_Poly_mul (P := P) (w := w) (base := base) T M
  obtain ⟨F_Poly_pow⟩ := fn_Poly_pow (P := P) (w := w) (base := base) T M
  refine Fn.of (T.d 53 (d := d_law_ring_kept)) sc_law_ring_kept rfl (fun _ _ _ _ _ _ us hl => match us, hl with | [_, _, _, _], _ => rfl) (fun ds Q ex h => ?_) (fun fd cdv A outer s H E hr => ⟨_, pdss_cons (pds_if (PDW.pt (pdw_or (pdt_not (pdt_val (pd_call F_law_told (hr.mono (by decide)) (by rfl) (T.g "_law_told") (T.k "_law_told") (takes_of rfl rfl rfl rfl) (pda_cons (pd_mixO (op := .Add) (c := 3) (M.mx "add" [3]) (by decide) (by rw [dm_Add]; exact T.own "Poly" "__add__") (T.fnn "Poly" "__add__") F_Poly_add (hr.mono (by decide)) (takes_of rfl rfl rfl rfl) (pd_var (pv 0)) (pd_var (pv 1))) (pda_cons (pd_call F_law_sum (hr.mono (by decide)) (by rfl) (T.g "_law_sum") (T.k "_law_sum") (takes_of rfl rfl rfl rfl) (pda_cons (pd_var (pv 2)) (pda_cons (pd_var (pv 3)) (pda_cons (pd_int pe_int) pda_nil)))) pda_nil))))) (pdw_or1 (pdt_not (pdt_val (pd_call F_law_told (hr.mono (by decide)) (by rfl) (T.g "_law_told") (T.k "_law_told") (takes_of rfl rfl rfl rfl) (pda_cons (pd_mixO (op := .Sub) (c := 3) (M.mx "sub" [3]) (by decide) (by rw [dm_Sub]; exact T.own "Poly" "__sub__") (T.fnn "Poly" "__sub__") F_Poly_sub (hr.mono (by decide)) (takes_of rfl rfl rfl rfl) (pd_var (pv 0)) (pd_var (pv 1))) (pda_cons (pd_call F_law_sum (hr.mono (by decide)) (by rfl) (T.g "_law_sum") (T.k "_law_sum") (takes_of rfl rfl rfl rfl) (pda_cons (pd_var (pv 2)) (pda_cons (pd_var (pv 3)) (pda_cons (pd_un un_neg l_U (pd_int pe_int)) pda_nil)))) pda_nil)))))))) (pdss_one (pds_ret (pd_bl pe_bl))) pdss_nil) (pdss_cons (pds_if (PDW.pt (pdw_or (pdt_not (pdt_val (pd_call F_law_told (hr.mono (by decide)) (by rfl) (T.g "_law_told") (T.k "_law_told") (takes_of rfl rfl rfl rfl) (pda_cons (pd_mixO (op := .Sub) (c := 3) (M.mx "sub" [3]) (by decide) (by rw [dm_Sub]; exact T.own "Poly" "__sub__") (T.fnn "Poly" "__sub__") F_Poly_sub (hr.mono (by decide)) (takes_of rfl rfl rfl rfl) (pd_var (pv 1)) (pd_var (pv 0))) (pda_cons (pd_call F_law_sum (hr.mono (by decide)) (by rfl) (T.g "_law_sum") (T.k "_law_sum") (takes_of rfl rfl rfl rfl) (pda_cons (pd_var (pv 3)) (pda_cons (pd_var (pv 2)) (pda_cons (pd_un un_neg l_U (pd_int pe_int)) pda_nil)))) pda_nil))))) (pdw_or1 (pdt_not (pdt_val (pd_call F_law_told (hr.mono (by decide)) (by rfl) (T.g "_law_told") (T.k "_law_told") (takes_of rfl rfl rfl rfl) (pda_cons (pd_un (un_negO (T.own "Poly" "__neg__") (T.fnn "Poly" "__neg__") F_Poly_neg.ok (hr.mono (by decide)) F_Poly_neg.bd passL) (l_unO (c := 3) F_Poly_neg.len) (pd_var (pv 0))) (pda_cons (pd_tup (pda_cons (pd_new (pdn_lc (own := [("top", 4)]) rfl sc_law_ring_kept.nd (pdi_list (pd_ix ix_tup l_ixT (pd_var (pv 2)) (pd_int pe_int) (fun _ _ => rfl))) (blkOk_by (N := ["p", "q", "a", "b", "top", "both", "square", "seven"]) (sc := defScope s_law_ring_kept) (by decide +kernel)) (by decide) (fun _ _ _ _ _ => (pdg_name (pg_name (i := 4) sc_law_ring_kept.nd rfl (Or.inl rfl)))) (fun _ _ _ _ _ => pdts_nil) (fun _ _ _ _ _ => pd_un un_neg l_U (pd_var (pv 4))))) (pda_cons (pd_ix ix_tup l_ixT (pd_var (pv 2)) (pd_int pe_int) (fun _ _ => rfl)) pda_nil))) pda_nil)))))))) (pdss_one (pds_ret (pd_bl pe_bl))) pdss_nil) (pdss_cons (pds_set (i := 5) sc_law_ring_kept.nd rfl (by first | exact Or.inl rfl | exact Or.inr rfl) (pd_call F_law_product (hr.mono (by decide)) (by rfl) (T.g "_law_product") (T.k "_law_product") (takes_of rfl rfl rfl rfl) (pda_cons (pd_var (pv 2)) (pda_cons (pd_var (pv 3)) pda_nil)))) (pdss_cons (pds_if (PDW.pt (pdw_or (pdt_not (pdt_val (pd_call F_law_told (hr.mono (by decide)) (by rfl) (T.g "_law_told") (T.k "_law_told") (takes_of rfl rfl rfl rfl) (pda_cons (pd_mixO (op := .Mult) (c := 3) (M.mx "mul" [0, 3]) (by decide) (by rw [dm_Mult]; exact T.own "Poly" "__mul__") (T.fnn "Poly" "__mul__") F_Poly_mul (hr.mono (by decide)) (takes_of rfl rfl rfl rfl) (pd_var (pv 0)) (pd_var (pv 1))) (pda_cons (pd_var (pv 5)) pda_nil))))) (pdw_or1 (pdt_not (pdt_val (pd_call F_law_told (hr.mono (by decide)) (by rfl) (T.g "_law_told") (T.k "_law_told") (takes_of rfl rfl rfl rfl) (pda_cons (pd_mixO (op := .Mult) (c := 3) (M.mx "mul" [0, 3]) (by decide) (by rw [dm_Mult]; exact T.own "Poly" "__mul__") (T.fnn "Poly" "__mul__") F_Poly_mul (hr.mono (by decide)) (takes_of rfl rfl rfl rfl) (pd_var (pv 1)) (pd_var (pv 0))) (pda_cons (pd_var (pv 5)) pda_nil)))))))) (pdss_one (pds_ret (pd_bl pe_bl))) pdss_nil) (pdss_cons (pds_if (PDW.pt (pdw_or (pdt_not (pdt_val (pd_call F_law_told (hr.mono (by decide)) (by rfl) (T.g "_law_told") (T.k "_law_told") (takes_of rfl rfl rfl rfl) (pda_cons (pd_mixO (op := .Sub) (c := 3) (M.mx "sub" [3]) (by decide) (by rw [dm_Sub]; exact T.own "Poly" "__sub__") (T.fnn "Poly" "__sub__") F_Poly_sub (hr.mono (by decide)) (takes_of rfl rfl rfl rfl) (pd_var (pv 0)) (pd_var (pv 0))) (pda_cons (pd_tup (pda_cons (pd_new (pdn_lst pda_nil)) (pda_cons (pd_int pe_int) pda_nil))) pda_nil))))) (pdw_or (pdt_not (pdt_val (pd_call F_law_told (hr.mono (by decide)) (by rfl) (T.g "_law_told") (T.k "_law_told") (takes_of rfl rfl rfl rfl) (pda_cons (pd_mixO (op := .Pow) (c := 3) (M.mx "pow" [3]) (by decide) (by rw [dm_Pow]; exact T.own "Poly" "__pow__") (T.fnn "Poly" "__pow__") F_Poly_pow (hr.mono (by decide)) (takes_of rfl rfl rfl rfl) (pd_var (pv 0)) (pd_int pe_int)) (pda_cons (pd_tup (pda_cons (pd_new (pdn_lst (pda_cons (pd_int pe_int) pda_nil))) (pda_cons (pd_int pe_int) pda_nil))) pda_nil))))) (pdw_or1 (pdt_not (pdt_val (pd_call F_law_told (hr.mono (by decide)) (by rfl) (T.g "_law_told") (T.k "_law_told") (takes_of rfl rfl rfl rfl) (pda_cons (pd_mixO (op := .Pow) (c := 3) (M.mx "pow" [3]) (by decide) (by rw [dm_Pow]; exact T.own "Poly" "__pow__") (T.fnn "Poly" "__pow__") F_Poly_pow (hr.mono (by decide)) (takes_of rfl rfl rfl rfl) (pd_var (pv 1)) (pd_int pe_int)) (pda_cons (pd_tup (pda_cons (pd_new (pdn_lst (pda_cons (pd_int pe_int) pda_nil))) (pda_cons (pd_int pe_int) pda_nil))) pda_nil))))))))) (pdss_one (pds_ret (pd_bl pe_bl))) pdss_nil) (pdss_cons (pds_set (i := 6) sc_law_ring_kept.nd rfl (by first | exact Or.inl rfl | exact Or.inr rfl) (pd_call F_law_product (hr.mono (by decide)) (by rfl) (T.g "_law_product") (T.k "_law_product") (takes_of rfl rfl rfl rfl) (pda_cons (pd_var (pv 2)) (pda_cons (pd_var (pv 2)) pda_nil)))) (pdss_cons (pds_if (PDW.pt (pdw_or (pdt_not (pdt_val (pd_call F_law_told (hr.mono (by decide)) (by rfl) (T.g "_law_told") (T.k "_law_told") (takes_of rfl rfl rfl rfl) (pda_cons (pd_mixO (op := .Pow) (c := 3) (M.mx "pow" [3]) (by decide) (by rw [dm_Pow]; exact T.own "Poly" "__pow__") (T.fnn "Poly" "__pow__") F_Poly_pow (hr.mono (by decide)) (takes_of rfl rfl rfl rfl) (pd_var (pv 0)) (pd_int pe_int)) (pda_cons (pd_var (pv 6)) pda_nil))))) (pdw_or1 (pdt_not (pdt_val (pd_call F_law_told (hr.mono (by decide)) (by rfl) (T.g "_law_told") (T.k "_law_told") (takes_of rfl rfl rfl rfl) (pda_cons (pd_mixO (op := .Pow) (c := 3) (M.mx "pow" [3]) (by decide) (by rw [dm_Pow]; exact T.own "Poly" "__pow__") (T.fnn "Poly" "__pow__") F_Poly_pow (hr.mono (by decide)) (takes_of rfl rfl rfl rfl) (pd_var (pv 0)) (pd_int pe_int)) (pda_cons (pd_call F_law_product (hr.mono (by decide)) (by rfl) (T.g "_law_product") (T.k "_law_product") (takes_of rfl rfl rfl rfl) (pda_cons (pd_var (pv 6)) (pda_cons (pd_var (pv 6)) pda_nil))) pda_nil)))))))) (pdss_one (pds_ret (pd_bl pe_bl))) pdss_nil) (pdss_cons (pds_if (pdt_cmp op_lt l_B0 (pd_cb (fun h => pe_callB call_len (by rfl) (T.f "len") (by decide +kernel) h) l_len (pda_cons (pd_ix ix_tup l_ixT (pd_var (pv 2)) (pd_int pe_int) (fun _ _ => rfl)) pda_nil)) (pd_int pe_int) (nomark _)) (pdss_cons (pds_set (i := 7) sc_law_ring_kept.nd rfl (by first | exact Or.inl rfl | exact Or.inr rfl) (pd_call F_law_product (hr.mono (by decide)) (by rfl) (T.g "_law_product") (T.k "_law_product") (takes_of rfl rfl rfl rfl) (pda_cons (pd_call F_law_product (hr.mono (by decide)) (by rfl) (T.g "_law_product") (T.k "_law_product") (takes_of rfl rfl rfl rfl) (pda_cons (pd_var (pv 6)) (pda_cons (pd_var (pv 6)) pda_nil))) (pda_cons (pd_call F_law_product (hr.mono (by decide)) (by rfl) (T.g "_law_product") (T.k "_law_product") (takes_of rfl rfl rfl rfl) (pda_cons (pd_var (pv 6)) (pda_cons (pd_var (pv 2)) pda_nil))) pda_nil)))) (pdss_one (pds_if (PDW.pt (pdw_or (pdt_not (pdt_val (pd_call F_law_told (hr.mono (by decide)) (by rfl) (T.g "_law_told") (T.k "_law_told") (takes_of rfl rfl rfl rfl) (pda_cons (pd_mixO (op := .Pow) (c := 3) (M.mx "pow" [3]) (by decide) (by rw [dm_Pow]; exact T.own "Poly" "__pow__") (T.fnn "Poly" "__pow__") F_Poly_pow (hr.mono (by decide)) (takes_of rfl rfl rfl rfl) (pd_var (pv 0)) (pd_int pe_int)) (pda_cons (pd_var (pv 7)) pda_nil))))) (pdw_or1 (pdt_not (pdt_val (pd_call F_law_told (hr.mono (by decide)) (by rfl) (T.g "_law_told") (T.k "_law_told") (takes_of rfl rfl rfl rfl) (pda_cons (pd_mixO (op := .Pow) (c := 3) (M.mx "pow" [3]) (by decide) (by rw [dm_Pow]; exact T.own "Poly" "__pow__") (T.fnn "Poly" "__pow__") F_Poly_pow (hr.mono (by decide)) (takes_of rfl rfl rfl rfl) (pd_var (pv 0)) (pd_int pe_int)) (pda_cons (pd_call F_law_product (hr.mono (by decide)) (by rfl) (T.g "_law_product") (T.k "_law_product") (takes_of rfl rfl rfl rfl) (pda_cons (pd_call F_law_product (hr.mono (by decide)) (by rfl) (T.g "_law_product") (T.k "_law_product") (takes_of rfl rfl rfl rfl) (pda_cons (pd_var (pv 7)) (pda_cons (pd_var (pv 7)) pda_nil))) (pda_cons (pd_var (pv 6)) pda_nil))) pda_nil)))))))) (pdss_one (pds_ret (pd_bl pe_bl))) pdss_nil))) pdss_nil) (pdss_one (pds_ret (pd_and (pd_call F_law_told (hr.mono (by decide)) (by rfl) (T.g "_law_told") (T.k "_law_told") (takes_of rfl rfl rfl rfl) (pda_cons (pd_mixO (op := .Pow) (c := 3) (M.mx "pow" [3]) (by decide) (by rw [dm_Pow]; exact T.own "Poly" "__pow__") (T.fnn "Poly" "__pow__") F_Poly_pow (hr.mono (by decide)) (takes_of rfl rfl rfl rfl) (pd_var (pv 0)) (pd_int pe_int)) (pda_cons (pd_var (pv 2)) pda_nil))) (pd_one (pd_call F_law_told (hr.mono (by decide)) (by rfl) (T.g "_law_told") (T.k "_law_told") (takes_of rfl rfl rfl rfl) (pda_cons (pd_mixO (op := .Pow) (c := 3) (M.mx "pow" [3]) (by decide) (by rw [dm_Pow]; exact T.own "Poly" "__pow__") (T.fnn "Poly" "__pow__") F_Poly_pow (hr.mono (by decide)) (takes_of rfl rfl rfl rfl) (pd_var (pv 0)) (pd_int pe_int)) (pda_cons (pd_call F_law_product (hr.mono (by decide)) (by rfl) (T.g "_law_product") (T.k "_law_product") (takes_of rfl rfl rfl rfl) (pda_cons (pd_var (pv 2)) (pda_cons (pd_var (pv 6)) pda_nil))) pda_nil)))))))))))))), fun ds Q ex h => ?_⟩)
  · obtain ⟨ts, b, us, c, rfl, _⟩ := h
    rfl
  · obtain ⟨ts, b, us, c, rfl, hv, hw, l1, l2, q⟩ := h
    have hv4 : Pol 4000 ts b := hv.up (by decide)
    have hw4 : Pol 4000 us c := hw.up (by decide)
    have b1 := hv4.bd
    have b2 := hw4.bd
    have s1 := hv4.sb
    have s2 := hw4.sb
    have t1 := told_add hv4.sz hw4.sz (by omega) (by omega)
    have t2 := told_sub hv4.sz hw4.sz (by omega) (by omega)
    have t3 := told_sub hw4.sz hv4.sz (by omega) (by omega)
    have t4 : Told (negT ts) b (negT ts) b := told_pol (hv.neg.up (by decide)) (hv.neg.up (by decide)).sz (by unfold negT; rw [List.length_map]; omega) (PEq.refl _ _)
    have t5 := told_prod hv4.sz hw4.sz (by omega) (by omega)
    have t6 := told_prod2 hv4.sz hw4.sz (by omega) (by omega)
    have t7 := told_self hv4.sz (by omega)
    have sq := sz_prodL hv.sz hv.sz (by omega) (by omega)
    have lq : (prodL ts ts).length ≤ 48 := by rw [prodL_len]; omega
    have pq : IsPw (cf ts) b 2 (prodL ts ts) (b * b) := IsPw.one.mul IsPw.one
    have bq := (sq.up (show _ ≤ 4000 by decide)).bd
    have eq' := (sq.up (show _ ≤ 4000 by decide)).sb
    have s4 := sz_prodL sq sq (by omega) (by omega)
    have p4 := pq.mul pq
    have l4 : (prodL (prodL ts ts) (prodL ts ts)).length ≤ 96 := by rw [prodL_len]; omega
    have b4 := (s4.up (show _ ≤ 4000 by decide)).bd
    have e4 := (s4.up (show _ ≤ 4000 by decide)).sb
    have s3' := sz_prodL sq hv.sz (by omega) (by omega)
    have p3' := pq.mul (IsPw.one (ts := ts) (b := b))
    have l3' : (prodL (prodL ts ts) ts).length ≤ 72 := by rw [prodL_len]; omega
    have b3' := (s3'.up (show _ ≤ 4000 by decide)).bd
    have e3' := (s3'.up (show _ ≤ 4000 by decide)).sb
    have s3 := sz_prodL hv.sz sq (by omega) (by omega)
    have p3 := (IsPw.one (ts := ts) (b := b)).mul pq
    have l3 : (prodL ts (prodL ts ts)).length ≤ 72 := by rw [prodL_len]; omega
    have s7 := sz_prodL s4 s3' (by omega) (by omega)
    have p7 := p4.mul p3'
    have l7 : (prodL (prodL (prodL ts ts) (prodL ts ts)) (prodL (prodL ts ts) ts)).length ≤ 168 := by rw [prodL_len]; omega
    have b7 := (s7.up (show _ ≤ 4000 by decide)).bd
    have e7 := (s7.up (show _ ≤ 4000 by decide)).sb
    have s14 := sz_prodL s7 s7 (by omega) (by omega)
    have p14 := p7.mul p7
    have l14 := prodL_len (prodL (prodL (prodL ts ts) (prodL ts ts)) (prodL (prodL ts ts) ts)) (prodL (prodL (prodL ts ts) (prodL ts ts)) (prodL (prodL ts ts) ts))
    have b14 := (s14.up (show _ ≤ 4000 by decide)).bd
    have e14 := (s14.up (show _ ≤ 4000 by decide)).sb
    have s16 := sz_prodL s14 sq (by omega) (by omega)
    have p16 := p14.mul pq
    have l16 := prodL_len (prodL (prodL (prodL (prodL ts ts) (prodL ts ts)) (prodL (prodL ts ts) ts)) (prodL (prodL (prodL ts ts) (prodL ts ts)) (prodL (prodL ts ts) ts))) (prodL ts ts)
    walk_at "go"
    refine ⟨fun i z => ∃ t : Int, ts[i]? = some t ∧ z = some (.int (-t)), ?_, ?_⟩
    · rintro i x hx
      obtain ⟨z, hz, rfl⟩ := map_at hx
      skip
      walk_at "go"
      exact fun _ => ⟨z, hz, rfl⟩
    intro zs hl2 hz
    obtain ⟨ms, e, hm, hm2⟩ := lc_map D.int (P := fun i v => ∃ t : Int, ts[i]? = some t ∧ v = -t) hl2 (fun i z h => by
      obtain ⟨t, h1, h2⟩ := hz i z h
      exact ⟨_, h2, t, h1, rfl⟩)
    have em : ms = ts.map fun t => -t := map_is (by rw [hm, List.length_map]) hm2
    rw [e, em]
    walk_at "go"
    refine ⟨_, _, [], 1, rfl, t7, ?_⟩
    walk_at "go"
    refine ⟨ts, b, 70, 0, rfl, by decide, hv, by decide, by decide, by omega, fun us' c' hu' hp' => ?_⟩
    have tp := told_zero hu' (by decide) hp'
    walk_at "go"
    refine ⟨_, _, [1], 1, rfl, tp, ?_⟩
    walk_at "go"
    refine ⟨us, c, 70, 0, rfl, by decide, hw, by decide, by decide, by omega, fun us' c' hu' hp' => ?_⟩
    have tp := told_zero hu' (by decide) hp'
    walk_at "go"
    refine ⟨_, _, [1], 1, rfl, tp, ?_⟩
    walk_at "go"
    refine ⟨ts, b, 70, 2, rfl, by decide, hv, by decide, by decide, by omega, fun us' c' hu' hp' => ?_⟩
    have tp := told_pow (hu'.up (by decide)) (sq.up (by decide)) (by omega) pq hp'
    walk_at "go"
    refine ⟨ts, b, 70, 4, rfl, by decide, hv, by decide, by decide, by omega, fun us' c' hu' hp' => ?_⟩
    have tp := told_pow (hu'.up (by decide)) (s4.up (by decide)) (by omega) p4 hp'
    walk_at "go"
    refine d_ite (fun c3 => ?_) (fun c3 => ?_)
    · walk_at "go"
      refine ⟨ts, b, 70, 7, rfl, by decide, hv, by decide, by decide, by omega, fun us' c' hu' hp' => ?_⟩
      have tp := told_pow (hu'.up (by decide)) (s7.up (by decide)) (by omega) p7 hp'
      walk_at "go"
      refine ⟨ts, b, 70, 16, rfl, by decide, hv, by decide, by decide, by omega, fun us' c' hu' hp' => ?_⟩
      have tp := told_pow (hu'.up (by decide)) (s16.up (by decide)) (by omega) p16 hp'
      walk_at "go"
      refine ⟨ts, b, 70, 1, rfl, by decide, hv, by decide, by decide, by omega, fun us' c' hu' hp' => ?_⟩
      have tp := told_pow (hu'.up (by decide)) (hv.sz.up (by decide)) (by omega) IsPw.one hp'
      walk_at "go"
      refine ⟨ts, b, 70, 3, rfl, by decide, hv, by decide, by decide, by omega, fun us' c' hu' hp' => ?_⟩
      have tp := told_pow (hu'.up (by decide)) (s3.up (by decide)) (by omega) p3 hp'
      walk_at "go"
      exact q
    · walk_at "go"
      refine ⟨ts, b, 70, 1, rfl, by decide, hv, by decide, by decide, by omega, fun us' c' hu' hp' => ?_⟩
      have tp := told_pow (hu'.up (by decide)) (hv.sz.up (by decide)) (by omega) IsPw.one hp'
      walk_at "go"
      refine ⟨ts, b, 70, 3, rfl, by decide, hv, by decide, by decide, by omega, fun us' c' hu' hp' => ?_⟩
      have tp := told_pow (hu'.up (by decide)) (s3.up (by decide)) (by omega) p3 hp'
      walk_at "go"
      exact q
end
end K08

namespace K08
open PySem PySem.Spec PyProof.Rows L2 LR DL
section
variable {P : Program} {w : World} {K : PySem.W.Frag} {mg : Str → Option Value} {base : Heap}
local macro_rules | `(tactic| walk_at "side") => `(tactic| first | with_reducible assumption | exact Bsame.mk (by with_reducible rfl) | omega | rfl | assumption | exact ⟨_, rfl⟩ | exact mulL (by omega) (by omega) | exact mulR (by omega) (by omega) | exact mulF (by decide) (by decide) | exact ⟨by decide, by decide +kernel⟩ | decide | exact Nat.le_of_ble_eq_true rfl | (simp only [List.length_cons, List.length_nil, List.length_map, List.nil_append, List.cons_append, sizeLine_eq]; omega) | (simp only [List.map_cons, List.map_nil, List.nil_append, List.cons_append]; decide +kernel))
local macro_rules | `(tactic| walk_at "go") => `(tactic| repeat (first
  | refine ⟨_, rfl, ?_⟩
  | refine ⟨_, _, rfl, rfl, ?_⟩
  | refine ⟨_, _, rfl, ?_⟩
  | refine ⟨_, _, _, rfl, rfl, ?_⟩
  | refine ⟨_, _, _, rfl, ?_⟩
  | refine ⟨_, _, _, _, rfl, rfl, ?_⟩
  | refine ⟨_, _, _, _, rfl, ?_⟩
  | refine ⟨_, _, _, _, _, rfl, ?_⟩
  | refine ⟨_, _, rfl, by assumption, ?_⟩
  | refine ⟨_, _, _, rfl, rfl, rfl, ?_⟩
  | refine ⟨_, _, _, rfl, rfl, by assumption, ?_⟩
  | refine ⟨_, _, _, rfl, rfl, by walk_at "side", by assumption, ?_⟩
  | refine ⟨_, _, _, rfl, rfl, by walk_at "side", rfl, ?_⟩
  | refine ⟨_, _, _, rfl, rfl, rfl, by assumption, ?_⟩
  | refine .inl ⟨_, rfl, ?_⟩
  | refine .inr ⟨_, rfl, ?_⟩
  | refine .inr (.inl ⟨_, rfl, ?_⟩)
  | refine .inr (.inr ⟨_, rfl, ?_⟩)
  | refine ⟨_, .inl rfl, ?_⟩
  | refine ⟨_, .inr rfl, ?_⟩
  | refine .inr ⟨_, _, rfl, ?_⟩
  | refine .inl ⟨_, _, rfl, ?_⟩
  | refine And.intro (by walk_at "side") ?_))


def P_law_multiples : Prm := fun ds Q _ => ∃ (ts : List Int) (b r0 r1 n : Int), ds = [PO ts b, TB ts b, .tup [.int r0, .int r1], .int n] ∧ Pol 70 ts b ∧ ts.length ≤ 24 ∧ r1 ≠ 0 ∧ r0.natAbs < 2 ^ 70 ∧ r1.natAbs < 2 ^ 70 ∧ n.natAbs < 2 ^ 70 ∧ Q (.bl true)
theorem gs_nT' (t : Int) {b : Int} (h : b ≠ 0) : gs [t] b * nT t b = t ∧ gs [t] b * nB t b = b := by
  obtain h1 := lT_mul [t] h
  exact ⟨List.cons.inj h1 |>.1, lB_mul [t] h⟩
theorem mulT_sz {n m : Nat} {ts : List Int} {b p z : Int} (h : Sz n ts b) (hz : z ≠ 0) (h1 : p.natAbs < 2 ^ m) (h2 : z.natAbs < 2 ^ m) : Sz (n + m) (mulT ts p) (b * z) :=
  ⟨Int.mul_ne_zero h.ne hz, fun t ht => by
    unfold mulT at ht
    obtain ⟨u, hu, rfl⟩ := List.mem_map.mp ht
    exact abs_mul_lt (h.bd u hu) h1, abs_mul_lt h.sb h2⟩
theorem mulT_len (ts : List Int) (p : Int) : (mulT ts p).length = ts.length := by unfold mulT; rw [List.length_map]
theorem told_mul {n m : Nat} {ts : List Int} {b p z p' z' : Int} (h : Sz n ts b) (hl : ts.length ≤ 1000) (hz : z ≠ 0) (hz' : z' ≠ 0) (hn : n + m ≤ 8900) (h1 : p.natAbs < 2 ^ m) (h2 : z.natAbs < 2 ^ m) (h3 : p'.natAbs < 2 ^ m) (h4 : z'.natAbs < 2 ^ m) (e : z' * p = z * p') :
    Told (pT (mulT ts p) (b * z)) (pB (mulT ts p) (b * z)) (mulT ts p') (b * z') :=
  told_of ((mulT_sz h hz h1 h2).up hn) (by rw [mulT_len]; exact hl) ((mulT_sz h hz' h3 h4).up hn) (by rw [mulT_len]; omega) (fun k => by
    rw [cf_mulT, cf_mulT]
    show b * z' * (p * cf ts k) = b * z * (p' * cf ts k)
    rw [Int.mul_assoc, ← Int.mul_assoc z', e, Int.mul_assoc b, Int.mul_assoc z])

theorem ni_Ratio_mul (T : Txt LL K mg) (M : Mo3 cs sms cis mxs exs K mg) : Nim P w K mg base (d_Ratio_mul.at_ K) 1 (fun d => kind cs d = true ∧ isD d (.own 0) = false) :=
  Nim.of (T.d 4 (d := d_Ratio_mul)) sc_Ratio_mul rfl (fun _ _ _ _ _ _ us hl => match us, hl with | [_, _], _ => rfl) rfl (T.f "NotImplemented") (fun cdv A outer s H hr => ⟨rfl, _, pdt_not (pdt_val (pd_isi (cr := (.own 0)) M.isi M.cls (fun c h => by cases h; decide) (fun h => pe_callB call_isi (by rfl) (T.f "isinstance") (by decide +kernel) (pa_cons h (pa_cons (pe_glob (v := .ref (He.ga K "Ratio")) rfl (T.g "Ratio") rfl) pa_nil))) (pd_var (pv 1)))), fun a b hc => by
    obtain ⟨c1, c2⟩ := hc
    exact ⟨b, rfl, c1, (by rw [c2]; exact ⟨_, rfl, rfl⟩)⟩⟩)

theorem fn_law_multiples (T : Txt LL K mg) (M : Mo3 cs sms cis mxs exs K mg) : Nonempty (Fn P w K mg base (d_law_multiples.at_ K) 11 4 P_law_multiples) := by
  have N_Ratio_mul := ni_Ratio_mul (P := P) (w := w) (base := base) T M
  obtain ⟨F_law_told⟩ := fn_law_told (P := P) (w := w) (base := base) T M
  obtain ⟨F_Poly_rmul⟩ := fn_Poly_rmul (P := P) (w := w) (base := base) T M
  obtain ⟨⟨F_Ratio_init⟩, ⟨F_Ratio_init_d⟩⟩ := fn_Ratio_init (P := P) (w := w) (base := base) T M
  obtain ⟨F_Poly_mul⟩ := fn_Poly_mul (P := P) (w := w) (base := base) T M
  refine Fn.of (T.d 54 (d := d_law_multiples)) sc_law_multiples rfl (fun _ _ _ _ _ _ us hl => match us, hl with | [_, _, _, _], _ => rfl) (fun ds Q ex h => ?_) (fun fd cdv A outer s H E hr => ⟨_, pdss_cons (pds_set (i := 4) sc_law_multiples.nd rfl (by first | exact Or.inl rfl | exact Or.inr rfl) (pd_tup (pda_cons (pd_new (pdn_lc (own := [("top", 5)]) rfl sc_law_multiples.nd (pdi_list (pd_ix ix_tup l_ixT (pd_var (pv 1)) (pd_int pe_int) (fun _ _ => rfl))) (blkOk_by (N := ["p", "a", "r", "number", "due", "top"]) (sc := defScope s_law_multiples) (by decide +kernel)) (by decide) (fun _ _ _ _ _ => (pdg_name (pg_name (i := 5) sc_law_multiples.nd rfl (Or.inl rfl)))) (fun _ _ _ _ _ => pdts_nil) (fun _ _ _ _ _ => pd_op op_mulZ l_I (pd_var (pv 5)) (pd_ix ix_tup l_ixT (pd_var (pv 2)) (pd_int pe_int) (fun _ _ => rfl))))) (pda_cons (pd_op op_mulZ l_I (pd_ix ix_tup l_ixT (pd_var (pv 1)) (pd_int pe_int) (fun _ _ => rfl)) (pd_ix ix_tup l_ixT (pd_var (pv 2)) (pd_int pe_int) (fun _ _ => rfl))) pda_nil)))) (pdss_cons (pds_if (PDW.pt (pdw_or (pdt_not (pdt_val (pd_call F_law_told (hr.mono (by decide)) (by rfl) (T.g "_law_told") (T.k "_law_told") (takes_of rfl rfl rfl rfl) (pda_cons (pd_mixO (op := .Mult) (c := 3) (M.mx "mul" [0, 3]) (by decide) (by rw [dm_Mult]; exact T.own "Poly" "__mul__") (T.fnn "Poly" "__mul__") F_Poly_mul (hr.mono (by decide)) (takes_of rfl rfl rfl rfl) (pd_var (pv 0)) (pd_make (c := 0) (T.mkk "Ratio") F_Ratio_init (fun _ _ => .nil) (hr.mono (by decide)) (by rfl) (T.g "Ratio") (takes_of rfl rfl rfl rfl) (pda_cons (pd_ix ix_tup l_ixT (pd_var (pv 2)) (pd_int pe_int) (fun _ _ => rfl)) (pda_cons (pd_ix ix_tup l_ixT (pd_var (pv 2)) (pd_int pe_int) (fun _ _ => rfl)) pda_nil)))) (pda_cons (pd_var (pv 4)) pda_nil))))) (pdw_or1 (pdt_not (pdt_val (pd_call F_law_told (hr.mono (by decide)) (by rfl) (T.g "_law_told") (T.k "_law_told") (takes_of rfl rfl rfl rfl) (pda_cons (pd_refN (op := .Mult) (c := 3) (d := 0) (M.mx "mul" [0, 3]) (by decide) (by decide) (by decide) (by rw [dm_Mult]; exact T.own "Ratio" "__mul__") (T.fnn "Ratio" "__mul__") N_Ratio_mul (hr.mono (by decide)) (by rw [dr_Mult]; exact T.own "Poly" "__rmul__") (T.fnn "Poly" "__rmul__") F_Poly_rmul (hr.mono (by decide)) (takes_of rfl rfl rfl rfl) (pd_make (c := 0) (T.mkk "Ratio") F_Ratio_init (fun _ _ => .nil) (hr.mono (by decide)) (by rfl) (T.g "Ratio") (takes_of rfl rfl rfl rfl) (pda_cons (pd_ix ix_tup l_ixT (pd_var (pv 2)) (pd_int pe_int) (fun _ _ => rfl)) (pda_cons (pd_ix ix_tup l_ixT (pd_var (pv 2)) (pd_int pe_int) (fun _ _ => rfl)) pda_nil))) (pd_var (pv 0))) (pda_cons (pd_var (pv 4)) pda_nil)))))))) (pdss_one (pds_ret (pd_bl pe_bl))) pdss_nil) (pdss_cons (pds_set (i := 4) sc_law_multiples.nd rfl (by first | exact Or.inl rfl | exact Or.inr rfl) (pd_tup (pda_cons (pd_new (pdn_lc (own := [("top", 5)]) rfl sc_law_multiples.nd (pdi_list (pd_ix ix_tup l_ixT (pd_var (pv 1)) (pd_int pe_int) (fun _ _ => rfl))) (blkOk_by (N := ["p", "a", "r", "number", "due", "top"]) (sc := defScope s_law_multiples) (by decide +kernel)) (by decide) (fun _ _ _ _ _ => (pdg_name (pg_name (i := 5) sc_law_multiples.nd rfl (Or.inl rfl)))) (fun _ _ _ _ _ => pdts_nil) (fun _ _ _ _ _ => pd_op op_mulZ l_I (pd_var (pv 5)) (pd_var (pv 3))))) (pda_cons (pd_ix ix_tup l_ixT (pd_var (pv 1)) (pd_int pe_int) (fun _ _ => rfl)) pda_nil)))) (pdss_one (pds_ret (pd_and (pd_call F_law_told (hr.mono (by decide)) (by rfl) (T.g "_law_told") (T.k "_law_told") (takes_of rfl rfl rfl rfl) (pda_cons (pd_mixO (op := .Mult) (c := 3) (M.mx "mul" [0, 3]) (by decide) (by rw [dm_Mult]; exact T.own "Poly" "__mul__") (T.fnn "Poly" "__mul__") F_Poly_mul (hr.mono (by decide)) (takes_of rfl rfl rfl rfl) (pd_var (pv 0)) (pd_var (pv 3))) (pda_cons (pd_var (pv 4)) pda_nil))) (pd_one (pd_call F_law_told (hr.mono (by decide)) (by rfl) (T.g "_law_told") (T.k "_law_told") (takes_of rfl rfl rfl rfl) (pda_cons (pd_refI (c := 3) (M.mx "mul" [0, 3]) (by decide) (by rw [dr_mul]; exact T.own "Poly" "__rmul__") (T.fnn "Poly" "__rmul__") F_Poly_rmul (hr.mono (by decide)) (takes_of rfl rfl rfl rfl) (pd_var (pv 3)) (pd_var (pv 0))) (pda_cons (pd_var (pv 4)) pda_nil))))))))), fun ds Q ex h => ?_⟩)
  · obtain ⟨ts, b, r0, r1, n, rfl, _⟩ := h
    rfl
  · obtain ⟨ts, b, r0, r1, n, rfl, hv, l1, hr, s0, s1, sn, q⟩ := h
    have hv4 : Pol 4000 ts b := hv.up (by decide)
    have hb0 := nB_pos (t := r0) hr
    obtain ⟨g1, g2⟩ := gs_nT' r0 hr
    have hg : (gs [r0] r1).natAbs < 2 ^ 8999 := Nat.lt_of_le_of_lt (gs_le hr) (abs_up s1 (by decide))
    have k0 : (nT r0 r1).natAbs < 2 ^ 70 := Nat.lt_of_le_of_lt (nT_le _ _) s0
    have k1 : (nB r0 r1).natAbs < 2 ^ 70 := Nat.lt_of_le_of_lt (Int.natAbs_fdiv_le_natAbs _ _) s1
    have one70 : (1 : Int).natAbs < 2 ^ 70 := by decide
    have t1 : Told (pT (mulT ts (nT r0 r1)) (b * nB r0 r1)) (pB (mulT ts (nT r0 r1)) (b * nB r0 r1)) (mulT ts r0) (b * r1) := told_mul hv.sz (by omega) (Int.ne_of_gt hb0) hr (by decide) k0 k1 s0 s1 (by
      calc r1 * nT r0 r1 = gs [r0] r1 * nB r0 r1 * nT r0 r1 := by rw [g2]
        _ = nB r0 r1 * (gs [r0] r1 * nT r0 r1) := by simp only [Int.mul_assoc, Int.mul_comm, Int.mul_left_comm]
        _ = nB r0 r1 * r0 := by rw [g1])
    have t2 : Told (pT (mulT ts n) (b * 1)) (pB (mulT ts n) (b * 1)) (mulT ts n) (b * 1) := told_mul hv.sz (by omega) (by decide) (by decide) (by decide) sn one70 sn one70 rfl
    rw [Int.mul_one] at t2
    have f1 : Fac (R (nT r0 r1) (nB r0 r1)) (nT r0 r1) (nB r0 r1) := .inr ⟨rfl, hb0⟩
    have f2 : Fac (.int n) n 1 := .inl ⟨rfl, rfl⟩
    have mbr : IntMulOk b r1 := mul4 hv4.sb (abs_up s1 (by decide))
    walk_at "go"
    refine ⟨fun i z => ∃ t : Int, ts[i]? = some t ∧ z = some (.int (t * r0)), ?_, ?_⟩
    · rintro i x hx
      obtain ⟨z, hz, rfl⟩ := map_at hx
      have hz2 : IntMulOk z r0 := mul4 (hv4.bd z (List.mem_of_getElem? hz)) (abs_up s0 (by decide))
      walk_at "go"
      exact fun _ => ⟨z, hz, rfl⟩
    intro zs hl2 hz
    obtain ⟨ms, e, hm, hm2⟩ := lc_map D.int (P := fun i v => ∃ t : Int, ts[i]? = some t ∧ v = t * r0) hl2 (fun i z h => by
      obtain ⟨t, h1, h2⟩ := hz i z h
      exact ⟨_, h2, t, h1, rfl⟩)
    have em : ms = ts.map fun t => t * r0 := map_is (by rw [hm, List.length_map]) hm2
    rw [e, em]
    walk_at "go"
    refine fun _ => ⟨hg, ?_⟩
    walk_at "go"
    refine .inr ⟨_, _, f1, abs_up k0 (by decide), abs_up k1 (by decide), ?_⟩
    walk_at "go"
    refine fun _ => ⟨hg, ?_⟩
    walk_at "go"
    refine ⟨⟨rfl, rfl⟩, ts, b, _, _, _, rfl, hv4, f1, abs_up k0 (by decide), abs_up k1 (by decide), ?_⟩
    walk_at "go"
    refine ⟨fun i z => ∃ t : Int, ts[i]? = some t ∧ z = some (.int (t * n)), ?_, ?_⟩
    · rintro i x hx
      obtain ⟨z, hz, rfl⟩ := map_at hx
      have hz2 : IntMulOk z n := mul4 (hv4.bd z (List.mem_of_getElem? hz)) (abs_up sn (by decide))
      walk_at "go"
      exact fun _ => ⟨z, hz, rfl⟩
    intro zs hl2 hz
    obtain ⟨ms, e, hm, hm2⟩ := lc_map D.int (P := fun i v => ∃ t : Int, ts[i]? = some t ∧ v = t * n) hl2 (fun i z h => by
      obtain ⟨t, h1, h2⟩ := hz i z h
      exact ⟨_, h2, t, h1, rfl⟩)
    have em : ms = ts.map fun t => t * n := map_is (by rw [hm, List.length_map]) hm2
    rw [e, em]
    walk_at "go"
    refine .inr ⟨_, _, f2, abs_up sn (by decide), abs_up one70 (by decide), ?_⟩
    rw [Int.mul_one]
    walk_at "go"
    refine ⟨ts, b, _, _, _, rfl, hv4, f2, abs_up sn (by decide), abs_up one70 (by decide), ?_⟩
    rw [Int.mul_one]
    walk_at "go"
    exact q
end
end K08

namespace K08
open PySem PySem.Spec PyProof.Rows L2 LR DL
section
variable {P : Program} {w : World} {K : PySem.W.Frag} {mg : Str → Option Value} {base : Heap}
local macro_rules | `(tactic| walk_at "side") => `(tactic| first | with_reducible assumption | exact Bsame.mk (by with_reducible rfl) | omega | rfl | assumption | exact ⟨_, rfl⟩ | exact mulL (by omega) (by omega) | exact mulR (by omega) (by omega) | exact mulF (by decide) (by decide) | exact ⟨by decide, by decide +kernel⟩ | decide | exact Nat.le_of_ble_eq_true rfl | (simp only [List.length_cons, List.length_nil, List.length_map, List.nil_append, List.cons_append, sizeLine_eq]; omega) | (simp only [List.map_cons, List.map_nil, List.nil_append, List.cons_append]; decide +kernel))
local macro_rules | `(tactic| walk_at "go") => `(tactic| repeat (first
  | refine ⟨_, rfl, ?_⟩
  | refine ⟨_, _, rfl, rfl, ?_⟩
  | refine ⟨_, _, rfl, ?_⟩
  | refine ⟨_, _, _, rfl, rfl, ?_⟩
  | refine ⟨_, _, _, rfl, ?_⟩
  | refine ⟨_, _, _, _, rfl, rfl, ?_⟩
  | refine ⟨_, _, _, _, rfl, ?_⟩
  | refine ⟨_, _, _, _, _, rfl, ?_⟩
  | refine ⟨_, _, rfl, by assumption, ?_⟩
  | refine ⟨_, _, _, rfl, rfl, rfl, ?_⟩
  | refine ⟨_, _, _, rfl, rfl, by assumption, ?_⟩
  | refine ⟨_, _, _, rfl, rfl, by walk_at "side", by assumption, ?_⟩
  | refine ⟨_, _, _, rfl, rfl, by walk_at "side", rfl, ?_⟩
  | refine ⟨_, _, _, rfl, rfl, rfl, by assumption, ?_⟩
  | refine .inl ⟨_, rfl, ?_⟩
  | refine .inr ⟨_, rfl, ?_⟩
  | refine .inr (.inl ⟨_, rfl, ?_⟩)
  | refine .inr (.inr ⟨_, rfl, ?_⟩)
  | refine ⟨_, .inl rfl, ?_⟩
  | refine ⟨_, .inr rfl, ?_⟩
  | refine .inr ⟨_, _, rfl, ?_⟩
  | refine .inl ⟨_, _, rfl, ?_⟩
  | refine And.intro (by walk_at "side") ?_))


def P_law_division : Prm := fun ds Q _ => ∃ (ts : List Int) (b : Int) (us : List Int) (c : Int), ds = [PO ts b, PO us c, TB ts b, TB us c] ∧ Pol 70 ts b ∧ Pol 70 us c ∧ ts.length ≤ 24 ∧ us.length ≤ 24 ∧ us ≠ [] ∧ Q (.bl true)
theorem div_ring {F c b qb xb P X R U t : Int} (hF : F ≠ 0) (hc : c ≠ 0) (h1 : c * (F * b) * P = c * qb * (c * U)) (h2 : F * b * X = xb * R) (h3 : R + U = F * t) : c * qb * xb * t = b * (P * xb + 1 * X * (c * qb)) := by
  refine Int.eq_of_mul_eq_mul_left (Int.mul_ne_zero hF hc) ?_
  have e1 : F * c * (c * qb * xb * t) = c * qb * xb * c * (F * t) := by simp only [Int.mul_assoc, Int.mul_comm, Int.mul_left_comm]
  have e2 : F * c * (b * (P * xb + 1 * X * (c * qb))) = xb * (c * (F * b) * P) + c * c * qb * (F * b * X) := by
    rw [Int.one_mul, Int.mul_add, Int.mul_add]
    congr 1 <;> simp only [Int.mul_assoc, Int.mul_comm, Int.mul_left_comm]
  rw [e1, e2, h1, h2, ← h3, Int.mul_add, Int.add_comm]
  congr 1 <;> simp only [Int.mul_assoc, Int.mul_comm, Int.mul_left_comm]
theorem div_back {ts us rs ss A X : List Int} {F b c qb xb : Int} (r : DivR ts us rs ss F) (hc : c ≠ 0) (hA : PEq (cf A) qb (cf (mulT ss c)) (F * b)) (hX : PEq (cf X) xb (cf rs) (F * b)) : PEq (cf ts) b (cf (sumT (prodL us A) (c * qb) X xb 1)) (c * qb * xb) := fun k => by
  have h1 : PEq (cv (cf us) (cf A)) (c * qb) (cv (cf us) (cf (mulT ss c))) (c * (F * b)) := (PEq.refl (cf us) c).mul hA
  have h1 := h1 k
  rw [cf_mulT, cv_sm2, cv_comm k (cf us) (cf ss)] at h1
  rw [cf_sumT, cf_prodL]
  exact div_ring r.ne hc h1 (hX k) (r.eq k)
theorem rest_short {rs us : List Int} {d : Int} (hn : us ≠ []) (h : ∀ k, us.length ≤ k + 1 → cf rs k = 0) : (pT rs d).length < us.length := by
  unfold pT
  rw [low_len]
  have hp := List.length_pos_iff.mpr hn
  cases e : (trim rs).length with
  | zero => exact hp
  | succ n =>
    have := trim_last rs n e
    rw [trim_cf] at this
    exact Nat.lt_of_not_le fun z => this (h n z)

theorem fn_law_division (T : Txt LL K mg) (M : Mo3 cs sms cis mxs exs K mg) : Nonempty (Fn P w K mg base (d_law_division.at_ K) 9 4 P_law_division) := by
  obtain ⟨F_law_poly_of⟩ := fn_law_poly_of (P := P) (w := w) (base := base) T M
  obtain ⟨F_Poly_floordiv⟩ := fn_Poly_floordiv (P := P) (w := w) (base := base) T M
  obtain ⟨F_Poly_remainder⟩ := fn_Poly_remainder (P := P) (w := w) (base := base) T M
  obtain ⟨F_law_trim⟩ := fn_law_trim (P := P) (w := w) (base := base) T M
  obtain ⟨F_law_sum⟩ := fn_law_sum (P := P) (w := w) (base := base) T M
  obtain ⟨F_law_product⟩ := fn_law_product (P := P) (w := w) (base := base) T M
  obtain ⟨F_law_told⟩ := fn_law_told (P := P) (w := w) (base := base) T M
  obtain ⟨F_Poly_monic⟩ := fn_Poly_monic (P := P) (w := w) (base := base) T M
  refine Fn.of (T.d 55 (d := d_law_division)) sc_law_division rfl (fun _ _ _ _ _ _ us hl => match us, hl with | [_, _, _, _], _ => rfl) (fun ds Q ex h => ?_) (fun fd cdv A outer s H E hr => ⟨_, pdss_cons (pds_set (i := 4) sc_law_division.nd rfl (by first | exact Or.inl rfl | exact Or.inr rfl) (pd_call F_law_poly_of (hr.mono (by decide)) (by rfl) (T.g "_law_poly_of") (T.k "_law_poly_of") (takes_of rfl rfl rfl rfl) (pda_cons (pd_mixO (op := .FloorDiv) (c := 3) (M.mx "floordiv" [3]) (by decide) (by rw [dm_FloorDiv]; exact T.own "Poly" "__floordiv__") (T.fnn "Poly" "__floordiv__") F_Poly_floordiv (hr.mono (by decide)) (takes_of rfl rfl rfl rfl) (pd_var (pv 0)) (pd_var (pv 1))) pda_nil))) (pdss_cons (pds_set (i := 5) sc_law_division.nd rfl (by first | exact Or.inl rfl | exact Or.inr rfl) (pd_call F_law_poly_of (hr.mono (by decide)) (by rfl) (T.g "_law_poly_of") (T.k "_law_poly_of") (takes_of rfl rfl rfl rfl) (pda_cons (pd_meth (c := 3) (pd_var (pv 0)) (T.cl "Poly") (T.me "Poly" "remainder") F_Poly_remainder (hr.mono (by decide)) (takes_of rfl rfl rfl rfl) nm_Poly_remainder (pda_cons (pd_var (pv 1)) pda_nil)) pda_nil))) (pdss_cons (pds_if (PDW.pt (pdw_or (pdt_cmp op_isN l_isN (pd_var (pv 4)) (pd_non pe_non) (nomark _)) (pdw_or1 (pdt_cmp op_isN l_isN (pd_var (pv 5)) (pd_non pe_non) (nomark _))))) (pdss_one (pds_ret (pd_bl pe_bl))) pdss_nil) (pdss_cons (pds_if (PDW.pt (pdw_or (pdt_cmp (op_neD (hr.units)) l_neD (pd_var (pv 4)) (pd_call F_law_trim (hr.mono (by decide)) (by rfl) (T.g "_law_trim") (T.k "_law_trim") (takes_of rfl rfl rfl rfl) (pda_cons (pd_ix ix_tup l_ixT (pd_var (pv 4)) (pd_int pe_int) (fun _ _ => rfl)) (pda_cons (pd_ix ix_tup l_ixT (pd_var (pv 4)) (pd_int pe_int) (fun _ _ => rfl)) pda_nil))) (nomark _)) (pdw_or1 (pdt_cmp (op_neD (hr.units)) l_neD (pd_var (pv 5)) (pd_call F_law_trim (hr.mono (by decide)) (by rfl) (T.g "_law_trim") (T.k "_law_trim") (takes_of rfl rfl rfl rfl) (pda_cons (pd_ix ix_tup l_ixT (pd_var (pv 5)) (pd_int pe_int) (fun _ _ => rfl)) (pda_cons (pd_ix ix_tup l_ixT (pd_var (pv 5)) (pd_int pe_int) (fun _ _ => rfl)) pda_nil))) (nomark _))))) (pdss_one (pds_ret (pd_bl pe_bl))) pdss_nil) (pdss_cons (pds_if (pdt_cmp op_ge l_B0 (pd_cb (fun h => pe_callB call_len (by rfl) (T.f "len") (by decide +kernel) h) l_len (pda_cons (pd_ix ix_tup l_ixT (pd_var (pv 5)) (pd_int pe_int) (fun _ _ => rfl)) pda_nil)) (pd_cb (fun h => pe_callB call_len (by rfl) (T.f "len") (by decide +kernel) h) l_len (pda_cons (pd_ix ix_tup l_ixT (pd_var (pv 3)) (pd_int pe_int) (fun _ _ => rfl)) pda_nil)) (nomark _)) (pdss_one (pds_ret (pd_bl pe_bl))) pdss_nil) (pdss_cons (pds_set (i := 6) sc_law_division.nd rfl (by first | exact Or.inl rfl | exact Or.inr rfl) (pd_call F_law_sum (hr.mono (by decide)) (by rfl) (T.g "_law_sum") (T.k "_law_sum") (takes_of rfl rfl rfl rfl) (pda_cons (pd_call F_law_product (hr.mono (by decide)) (by rfl) (T.g "_law_product") (T.k "_law_product") (takes_of rfl rfl rfl rfl) (pda_cons (pd_var (pv 3)) (pda_cons (pd_var (pv 4)) pda_nil))) (pda_cons (pd_var (pv 5)) (pda_cons (pd_int pe_int) pda_nil))))) (pdss_cons (pds_if (pdt_cmp (op_neD (hr.units)) l_neD (pd_call F_law_trim (hr.mono (by decide)) (by rfl) (T.g "_law_trim") (T.k "_law_trim") (takes_of rfl rfl rfl rfl) (pda_cons (pd_ix ix_tup l_ixT (pd_var (pv 6)) (pd_int pe_int) (fun _ _ => rfl)) (pda_cons (pd_ix ix_tup l_ixT (pd_var (pv 6)) (pd_int pe_int) (fun _ _ => rfl)) pda_nil))) (pd_var (pv 2)) (nomark _)) (pdss_one (pds_ret (pd_bl pe_bl))) pdss_nil) (pdss_one (pds_ret (pd_call F_law_told (hr.mono (by decide)) (by rfl) (T.g "_law_told") (T.k "_law_told") (takes_of rfl rfl rfl rfl) (pda_cons (pd_meth0 (c := 3) (pd_var (pv 1)) (T.cl "Poly") (T.me "Poly" "monic") F_Poly_monic (hr.mono (by decide)) (takes_of rfl rfl rfl rfl) nm_Poly_monic) (pda_cons (pd_tup (pda_cons (pd_ix ix_tup l_ixT (pd_var (pv 3)) (pd_int pe_int) (fun _ _ => rfl)) (pda_cons (pd_ix ix_list l_ixL (pd_ix ix_tup l_ixT (pd_var (pv 3)) (pd_int pe_int) (fun _ _ => rfl)) (pd_op op_sub l_I0 (pd_cb (fun h => pe_callB call_len (by rfl) (T.f "len") (by decide +kernel) h) l_len (pda_cons (pd_ix ix_tup l_ixT (pd_var (pv 3)) (pd_int pe_int) (fun _ _ => rfl)) pda_nil)) (pd_int pe_int)) (fun _ _ => rfl)) pda_nil))) pda_nil))))))))))), fun ds Q ex h => ?_⟩)
  · obtain ⟨ts, b, us, c, rfl, _⟩ := h
    rfl
  · obtain ⟨ts, b, us, c, rfl, hv, hw, l1, l2, hn, q⟩ := h
    have hw4 : Pol 4000 us c := hw.up (by decide)
    have hpos := List.length_pos_iff.mpr hn
    have hu4 := hw4.bd
    have sc4 := hw4.sb
    walk_at "go"
    refine ⟨fun z => absurd z hn, fun _ r => ?_⟩
    have nFb : dvF ts us * b ≠ 0 := Int.mul_ne_zero r.ne hv.ne
    have sFb : (dvF ts us * b).natAbs < 2 ^ 1870 := abs_mul_lt r.sF hv.sb
    have zS : Sz 3870 (mulT (dvS ts us) c) (dvF ts us * b) := ⟨nFb, fun t ht => by
      unfold mulT at ht
      obtain ⟨u, hu, rfl⟩ := List.mem_map.mp ht
      exact abs_mul_lt (r.bs u hu) hw.sb, abs_up sFb (by decide)⟩
    have hA := pol_of nFb (by rw [mulT_len]; have := r.ls; omega) zS.bd zS.sb
    have hX := pol_of nFb (by have := r.lr; omega) r.br (abs_up sFb (show 1870 ≤ 3800 by decide))
    have pA := poly_cf (mulT (dvS ts us) c) nFb
    have pX := poly_cf (dvR ts us) nFb
    have back := div_back r hw.ne pA pX
    have lX := rest_short (d := dvF ts us * b) hn r.top
    have lA : (pT (mulT (dvS ts us) c) (dvF ts us * b)).length ≤ 24 := Nat.le_trans (pT_len _ _) (by rw [mulT_len]; exact r.ls)
    have hA9 := hA.up (show 3870 ≤ 8900 by decide)
    have hX9 := hX.up (show 3800 ≤ 8900 by decide)
    have aA : (pB (mulT (dvS ts us) c) (dvF ts us * b)).natAbs < 2 ^ 1870 := Nat.lt_of_le_of_lt (Int.natAbs_fdiv_le_natAbs _ _) sFb
    have aX : (pB (dvR ts us) (dvF ts us * b)).natAbs < 2 ^ 1870 := Nat.lt_of_le_of_lt (Int.natAbs_fdiv_le_natAbs _ _) sFb
    walk_at "go"
    refine ⟨fun z => absurd z hn, fun _ r2 => ?_⟩
    clear r2 r pA pX zS
    generalize pT (mulT (dvS ts us) c) (dvF ts us * b) = A at *
    generalize pB (mulT (dvS ts us) c) (dvF ts us * b) = qb at *
    generalize pT (dvR ts us) (dvF ts us * b) = X at *
    generalize pB (dvR ts us) (dvF ts us * b) = xb at *
    have oA := okD_TB A qb
    have oX := okD_TB X xb
    have ot := okD_TB ts b
    obtain ⟨i1, i2⟩ := hA.low
    obtain ⟨j1, j2⟩ := hX.low
    have hA4 := hA.up (show 3870 ≤ 4000 by decide)
    have hX4 := hX.up (show 3800 ≤ 4000 by decide)
    have a1 := (hA.up (show 3870 ≤ 8999 by decide)).bd
    have a2 := (hA.up (show 3870 ≤ 8999 by decide)).sb
    have a3 := hA4.bd
    have a4 := hA4.sb
    have a5 := hA.ne
    have x1 := (hX.up (show 3800 ≤ 8999 by decide)).bd
    have x2 := (hX.up (show 3800 ≤ 8999 by decide)).sb
    have x3 := hX4.bd
    have x4 := hX4.sb
    have x5 := hX.ne
    have rA : (!eqD (TB A qb) (TB A qb)) = false := by rw [eqD_refl oA]; rfl
    have rX : (!eqD (TB X xb) (TB X xb)) = false := by rw [eqD_refl oX]; rfl
    have rt : (!eqD (TB ts b) (TB ts b)) = false := by rw [eqD_refl ot]; rfl
    have zp := (sz_prodL hw.sz hA.sz (by omega) (by omega)).up (show 70 + 3870 + 12 ≤ 4000 by decide)
    have pl : (prodL us A).length ≤ 48 := by rw [prodL_len]; omega
    have lX2 : X.length ≤ 24 := by omega
    have y1 := zp.bd
    have y2 := zp.sb
    have zs := (sz_sumT zp hX4.sz (f := 1) (by decide) (by decide)).up (show 2 * 4000 + 8 ≤ 8999 by decide)
    have w1 := zs.bd
    have w2 := zs.sb
    have w3 := zs.ne
    have w4 : (sumT (prodL us A) (c * qb) X xb 1).length ≤ 4000 := by rw [sumT_len]; omega
    obtain ⟨k1, k2⟩ := Pol.is hv w3 back
    obtain ⟨n, en⟩ : ∃ n, us.length = n + 1 := ⟨us.length - 1, by omega⟩
    have hle := hw.last en
    have el : us.length - 1 = n := by omega
    have al := at_map (f := D.int) (l := us) (k := (((us.map D.int).length : Nat) : Int) - 1) (x := cf us n) (by rw [List.length_map]; omega) (by
      rw [show ((((us.map D.int).length : Nat) : Int) - 1).toNat = n by rw [List.length_map]; omega]
      have h1 : us[n]? = some us[n] := List.getElem?_eq_getElem (by omega)
      rw [cf_at h1]
      exact h1)
    have zm : Sz 8900 us (cf us n) := ⟨hle, hw.bd.up (by decide), abs_up (cf_bd hw.bd n) (by decide)⟩
    have tm : Told (pT us (cf us n)) (pB us (cf us n)) us (cf us n) := told_of zm (by omega) zm (by omega) (PEq.refl _ _)
    walk_at "go"
    rw [i1, i2]
    refine ⟨oA, ?_⟩
    rw [rA]
    walk_at "go"
    rw [j1, j2]
    refine ⟨oX, ?_⟩
    rw [rX]
    walk_at "go"
    refine d_ite (fun h => ?_) (fun h => ?_)
    · have h' := of_decide_eq_true h
      rw [List.length_map, List.length_map] at h'
      exact absurd h' (by omega)
    walk_at "go"
    rw [k1, k2]
    refine ⟨ot, ?_⟩
    rw [rt]
    walk_at "go"
    refine ⟨fun z => absurd z hn, fun _ => ?_⟩
    rw [el]
    walk_at "go"
    exact q
end
end K08

namespace K08
open PySem PySem.Spec PyProof.Rows L2 LR DL
section
variable {P : Program} {w : World} {K : PySem.W.Frag} {mg : Str → Option Value} {base : Heap}
local macro_rules | `(tactic| walk_at "side") => `(tactic| first | with_reducible assumption | exact Bsame.mk (by with_reducible rfl) | omega | rfl | assumption | exact ⟨_, rfl⟩ | exact mulL (by omega) (by omega) | exact mulR (by omega) (by omega) | exact mulF (by decide) (by decide) | exact ⟨by decide, by decide +kernel⟩ | decide | exact Nat.le_of_ble_eq_true rfl | (simp only [List.length_cons, List.length_nil, List.length_map, List.nil_append, List.cons_append, sizeLine_eq]; omega) | (simp only [List.map_cons, List.map_nil, List.nil_append, List.cons_append]; decide +kernel))
local macro_rules | `(tactic| walk_at "go") => `(tactic| repeat (first
  | refine ⟨_, rfl, ?_⟩
  | refine ⟨_, _, rfl, rfl, ?_⟩
  | refine ⟨_, _, rfl, ?_⟩
  | refine ⟨_, _, _, rfl, rfl, ?_⟩
  | refine ⟨_, _, _, rfl, ?_⟩
  | refine ⟨_, _, _, _, rfl, rfl, ?_⟩
  | refine ⟨_, _, _, _, rfl, ?_⟩
  | refine ⟨_, _, _, _, _, rfl, ?_⟩
  | refine ⟨_, _, rfl, by assumption, ?_⟩
  | refine ⟨_, _, _, rfl, rfl, rfl, ?_⟩
  | refine ⟨_, _, _, rfl, rfl, by assumption, ?_⟩
  | refine ⟨_, _, _, rfl, rfl, by walk_at "side", by assumption, ?_⟩
  | refine ⟨_, _, _, rfl, rfl, by walk_at "side", rfl, ?_⟩
  | refine ⟨_, _, _, rfl, rfl, rfl, by assumption, ?_⟩
  | refine .inl ⟨_, rfl, ?_⟩
  | refine .inr ⟨_, rfl, ?_⟩
  | refine .inr (.inl ⟨_, rfl, ?_⟩)
  | refine .inr (.inr ⟨_, rfl, ?_⟩)
  | refine ⟨_, .inl rfl, ?_⟩
  | refine ⟨_, .inr rfl, ?_⟩
  | refine .inr ⟨_, _, rfl, ?_⟩
  | refine .inl ⟨_, _, rfl, ?_⟩
  | refine And.intro (by walk_at "side") ?_))


theorem okD_lst (ts : List Int) : okD (.lst (ts.map D.int)) = true := okD_of 1 (fun y hy => by
  obtain ⟨p, _, rfl⟩ := List.mem_map.mp hy
  exact trivial) (by decide)
def P_law_made : Prm := fun ds Q _ => ∃ (ts : List Int) (b : Int), ds = [TB ts b] ∧ ts.length ≤ 1000 ∧ b ≠ 0 ∧ b.natAbs < 2 ^ 8999 ∧ Q (PO (pT ts b) (pB ts b))

theorem fn_Poly_x (T : Txt LL K mg) (M : Mo3 cs sms cis mxs exs K mg) : Nonempty (Fn P w K mg base (d_Poly_x.at_ K) 6 0 P_Poly_x) := by
  obtain ⟨⟨F_Poly_init⟩, ⟨F_Poly_init_d⟩⟩ := fn_Poly_init (P := P) (w := w) (base := base) T M
  refine Fn.of (T.d 28 (d := d_Poly_x)) sc_Poly_x rfl (fun _ _ _ _ _ _ us hl => match us, hl with | [], _ => rfl) (fun ds Q ex h => ?_) (fun fd cdv A outer s H E hr => ⟨_, pdss_one (pds_ret (pd_make (c := 3) (T.mkk "Poly") F_Poly_init_d dd_Poly (hr.mono (by decide)) (by rfl) (T.g "Poly") (takes_of rfl rfl rfl rfl) (pda_cons (pd_new (pdn_lst (pda_cons (pd_int pe_int) (pda_cons (pd_int pe_int) pda_nil)))) pda_nil))), fun ds Q ex h => ?_⟩)
  · obtain ⟨rfl, _⟩ := h
    rfl
  · obtain ⟨rfl, q⟩ := h
    walk_at "go"
    refine ⟨_, [0, 1], 1, rfl, .inl rfl, by decide, fun z => absurd z (by decide), fun _ => ⟨Nat.one_lt_two_pow (by decide), ?_⟩⟩
    exact q

theorem fn_law_made (T : Txt LL K mg) (M : Mo3 cs sms cis mxs exs K mg) : Nonempty (Fn P w K mg base (d_law_made.at_ K) 6 1 P_law_made) := by
  obtain ⟨⟨F_Poly_init⟩, ⟨F_Poly_init_d⟩⟩ := fn_Poly_init (P := P) (w := w) (base := base) T M
  refine Fn.of (T.d 51 (d := d_law_made)) sc_law_made rfl (fun _ _ _ _ _ _ us hl => match us, hl with | [_], _ => rfl) (fun ds Q ex h => ?_) (fun fd cdv A outer s H E hr => ⟨_, pdss_cons (pds_setN (i := 1) sc_law_made.nd rfl (by first | exact Or.inl rfl | exact Or.inr rfl) (pdn_cb (fun h => pe_callTy call_list_of (by rfl) (T.f "list") (by decide +kernel) h) l_list (pda_cons (pd_ix ix_tup l_ixT (pd_var (pv 0)) (pd_int pe_int) (fun _ _ => rfl)) pda_nil))) (pdss_cons (pds_set (i := 2) sc_law_made.nd rfl (by first | exact Or.inl rfl | exact Or.inr rfl) (pd_lend 1 (pd_make (c := 3) (T.mkk "Poly") F_Poly_init (fun _ _ => .nil) (hr.mono (by decide)) (by rfl) (T.g "Poly") (takes_of rfl rfl rfl rfl) (pda_cons (pd_var (pv 1)) (pda_cons (pd_ix ix_tup l_ixT (pd_var (pv 0)) (pd_int pe_int) (fun _ _ => rfl)) pda_nil))))) (pdss_cons (pds_if (pdt_lend 1 (pdt_cmp (op_neD (hr.units)) l_neD (pd_var (pv 1)) (pd_ix ix_tup l_ixT (pd_var (pv 0)) (pd_int pe_int) (fun _ _ => rfl)) (nomark _))) (pdss_one (pds_ret (pd_non pe_non))) pdss_nil) (pdss_cons (pds_app (i := 1) (te := id) (p1 := ⟨0, 0, 0, 0⟩) (p2 := ⟨0, 0, 0, 0⟩) (p3 := ⟨0, 0, 0, 0⟩) (x := "") (fun h => pe_bm PySem.F.plainAttrs_list PySem.F.slot_list_append PySem.F.type_list_append mt_append (pv 1) (pa_cons h pa_nil)) (pd_int pe_int)) (pdss_cons (pds_put (i := 1) (kk := ⟨0, 0, 0, 0⟩) (fun h => pg_sub (pv 1) h set_list) (pd_op op_add l_I0 (pd_ixO ix_list (pv 1) (pd_int pe_int) (fun _ _ => rfl)) (pd_int pe_int)) (pd_int pe_int)) (pdss_one (pds_ret (pd_var (pv 2)))))))), fun ds Q ex h => ?_⟩)
  · obtain ⟨ts, b, rfl, _⟩ := h
    rfl
  · obtain ⟨ts, b, rfl, hl, hb, hs, q⟩ := h
    have o1 := okD_lst ts
    have e1 : (!eqD (.lst (ts.map D.int)) (.lst (ts.map D.int))) = false := by rw [eqD_refl o1]; rfl
    walk_at "go"
    refine ⟨_, ts, b, rfl, .inl rfl, by omega, fun z => absurd z hb, fun _ => ⟨hs, .vec, ?_⟩⟩
    obtain ⟨t, r, e⟩ : ∃ t r, ts ++ [9] = t :: r := by
      cases ts with
      | nil => exact ⟨_, _, rfl⟩
      | cons t r => exact ⟨_, _, rfl⟩
    have em : ts.map D.int ++ [D.int 9] = (t :: r).map D.int := by rw [← e, List.map_append]; rfl
    have hlr : (t :: r).length ≤ 1001 := by
      rw [← e, List.length_append]
      show ts.length + 1 ≤ 1001
      omega
    have i0 : atI ((t :: r).map D.int) 0 = some (.int t) := atI_nat (j := 0) rfl
    have ix0 : ixN ((t :: r).map D.int).length 0 = some 0 := by
      unfold ixN
      rw [if_pos (by decide), if_pos (by rw [List.length_map, List.length_cons]; omega)]
      rfl
    have hls : (ts.map D.int).length < sizeLine := by rw [List.length_map]; exact sz100 (by omega)
    walk_at "go"
    rw [e1]
    walk_at "go"
    rw [em]
    walk_at "go"
    exact q
end
end K08

namespace K08
open PySem PySem.Spec PyProof.Rows L2 LR DL
section
variable {P : Program} {w : World} {K : PySem.W.Frag} {mg : Str → Option Value} {base : Heap}
local macro_rules | `(tactic| walk_at "side") => `(tactic| first | with_reducible assumption | exact Bsame.mk (by with_reducible rfl) | omega | rfl | assumption | exact ⟨_, rfl⟩ | exact mulL (by omega) (by omega) | exact mulR (by omega) (by omega) | exact mulF (by decide) (by decide) | exact ⟨by decide, by decide +kernel⟩ | decide | exact Nat.le_of_ble_eq_true rfl | (simp only [List.length_cons, List.length_nil, List.length_map, List.nil_append, List.cons_append, sizeLine_eq]; omega) | (simp only [List.map_cons, List.map_nil, List.nil_append, List.cons_append]; decide +kernel))
local macro_rules | `(tactic| walk_at "go") => `(tactic| repeat (first
  | refine ⟨_, rfl, ?_⟩
  | refine ⟨_, _, rfl, rfl, ?_⟩
  | refine ⟨_, _, rfl, ?_⟩
  | refine ⟨_, _, _, rfl, rfl, ?_⟩
  | refine ⟨_, _, _, rfl, ?_⟩
  | refine ⟨_, _, _, _, rfl, rfl, ?_⟩
  | refine ⟨_, _, _, _, rfl, ?_⟩
  | refine ⟨_, _, _, _, _, rfl, ?_⟩
  | refine ⟨_, _, rfl, by assumption, ?_⟩
  | refine ⟨_, _, _, rfl, rfl, rfl, ?_⟩
  | refine ⟨_, _, _, rfl, rfl, by assumption, ?_⟩
  | refine ⟨_, _, _, rfl, rfl, by walk_at "side", by assumption, ?_⟩
  | refine ⟨_, _, _, rfl, rfl, by walk_at "side", rfl, ?_⟩
  | refine ⟨_, _, _, rfl, rfl, rfl, by assumption, ?_⟩
  | refine .inl ⟨_, rfl, ?_⟩
  | refine .inr ⟨_, rfl, ?_⟩
  | refine .inr (.inl ⟨_, rfl, ?_⟩)
  | refine .inr (.inr ⟨_, rfl, ?_⟩)
  | refine ⟨_, .inl rfl, ?_⟩
  | refine ⟨_, .inr rfl, ?_⟩
  | refine .inr ⟨_, _, rfl, ?_⟩
  | refine .inl ⟨_, _, rfl, ?_⟩
  | refine And.intro (by walk_at "side") ?_))


theorem okD_str {s : Str} (h : OkS s) : okD (.str s) = true := okD_of 0 h (by decide)
def P_law_no_bottom : Prm := fun ds Q _ => ∃ (ts : List Int), ds = [.lst (ts.map D.int)] ∧ ts.length ≤ 1000 ∧ Q (.bl true)

theorem nd_ZeroBottom : (sh_ZeroBottom.map (·.1)).Nodup := by decide +kernel
theorem xl_ZeroBottom_word : (xD sh_ZeroBottom []).lookup ("word" : Str) = some (.str "bottom" : D) := lookup_at (k := 0) nd_ZeroBottom rfl

theorem nd_ZeroPoly : (sh_ZeroPoly.map (·.1)).Nodup := by decide +kernel
theorem xl_ZeroPoly_word : (xD sh_ZeroPoly []).lookup ("word" : Str) = some (.str "poly" : D) := lookup_at (k := 0) nd_ZeroPoly rfl

theorem fn_law_no_bottom (T : Txt LL K mg) (M : Mo3 cs sms cis mxs exs K mg) : Nonempty (Fn P w K mg base (d_law_no_bottom.at_ K) 6 1 P_law_no_bottom) := by
  obtain ⟨⟨F_Poly_init⟩, ⟨F_Poly_init_d⟩⟩ := fn_Poly_init (P := P) (w := w) (base := base) T M
  refine Fn.of (T.d 57 (d := d_law_no_bottom)) sc_law_no_bottom rfl (fun _ _ _ _ _ _ us hl => match us, hl with | [_], _ => rfl) (fun ds Q ex h => ?_) (fun fd cdv A outer s H E hr => ⟨_, pdss_cons (pds_set (i := 1) sc_law_no_bottom.nd rfl (by first | exact Or.inl rfl | exact Or.inr rfl) (pd_new (pdn_cb (fun h => pe_callTy call_list_of (by rfl) (T.f "list") (by decide +kernel) h) l_list (pda_cons (pd_var (pv 0)) pda_nil)))) (pdss_cons (pds_set (i := 2) sc_law_no_bottom.nd rfl (by first | exact Or.inl rfl | exact Or.inr rfl) (pd_bl pe_bl)) (pdss_cons (pds_try (i := 4) (x := "ZeroBottom") rfl rfl sc_law_no_bottom.nd rfl rfl ⟨rfl, by decide, Or.inl (T.g "ZeroBottom")⟩ (T.exM "ZeroBottom") (takes_of rfl rfl rfl rfl) (fun W pn xe tk po => pdss_one (pds_set (i := 3) sc_law_no_bottom.nd rfl (by first | exact Or.inl rfl | exact Or.inr rfl) (pd_make (c := 3) (T.mkk "Poly") F_Poly_init (fun _ _ => .nil) (hr.mono (by decide)) (by rfl) (T.g "Poly") tk (pda_cons (pd_var (pv 1)) (pda_cons (pd_int pe_int) pda_nil))))) (fun a oe cls d pn hz hf => pdss_one (pds_set (i := 2) sc_law_no_bottom.nd rfl (by first | exact Or.inl rfl | exact Or.inr rfl) (pd_and (pd_cmp (op_eqD (hr.units)) l_eqD (pd_xf (i := 4) (x := "ZeroBottom") K rfl (pe_xf (T.exa "ZeroBottom").1 (T.no "ZeroBottom" "word") hz hf (pv 4))) (pd_str pe_str) (nomark _)) (pd_and (pd_xi (i := 4) (x := "ZeroBottom") K rfl (.own (He.ga K "LastrowsError")) (pe_callB (call_isD (T.exa "ZeroBottom").2.1 hz hf) (by rfl) (T.f "isinstance") (by decide +kernel) (pa_cons (pv 4) (pa_cons (pe_glob (v := .ref (He.ga K "LastrowsError")) rfl (T.g "LastrowsError") rfl) pa_nil)))) (pd_and (pd_xi (i := 4) (x := "ZeroBottom") K rfl (.ty "ValueError") (pe_callB (call_isD (T.exa "ZeroBottom").2.1 hz hf) (by rfl) (T.f "isinstance") (by decide +kernel) (pa_cons (pv 4) (pa_cons (pe_bltn (v := .ty "ValueError") (by rfl) (T.f "ValueError") (by decide +kernel) rfl) pa_nil)))) (pd_one (pd_not (pd_xi (i := 4) (x := "ZeroBottom") K rfl (.own (He.ga K "ZeroPoly")) (pe_callB (call_isD (T.exa "ZeroBottom").2.1 hz hf) (by rfl) (T.f "isinstance") (by decide +kernel) (pa_cons (pv 4) (pa_cons (pe_glob (v := .ref (He.ga K "ZeroPoly")) rfl (T.g "ZeroPoly") rfl) pa_nil)))))))))))) (pdss_one (pds_ret (pd_and (pd_var (pv 2)) (pd_one (pd_cmp (op_eqD (hr.units)) l_eqD (pd_var (pv 1)) (pd_var (pv 0)) (nomark _)))))))), fun ds Q ex h => ?_⟩)
  · obtain ⟨ts, rfl, _⟩ := h
    rfl
  · obtain ⟨ts, rfl, hl, q⟩ := h
    have k5 := T.kie "ZeroBottom" "LastrowsError" true
    have k6 := T.kiv "ZeroBottom" "ValueError" true
    have k7 := T.kie "ZeroBottom" "ZeroPoly" false
    have l2 := xl_ZeroBottom_word
    have ob := okD_str (s := "bottom") (OkS.of (by decide +kernel))
    have eb := eqD_refl ob
    have o1 := okD_lst ts
    have e1 : eqD (.lst (ts.map D.int)) (.lst (ts.map D.int)) = true := eqD_refl o1
    walk_at "go"
    refine ⟨_, ts, 0, rfl, .inl rfl, by omega, fun _ => ?_, fun z => absurd rfl z⟩
    refine .inl ⟨rfl, fun a dd => ?_⟩
    walk_at "go"
    rw [e1]
    exact q
end
end K08

namespace K08
open PySem PySem.Spec PyProof.Rows L2 LR DL
section
variable {P : Program} {w : World} {K : PySem.W.Frag} {mg : Str → Option Value} {base : Heap}
local macro_rules | `(tactic| walk_at "side") => `(tactic| first | with_reducible assumption | exact Bsame.mk (by with_reducible rfl) | omega | rfl | assumption | exact ⟨_, rfl⟩ | exact mulL (by omega) (by omega) | exact mulR (by omega) (by omega) | exact mulF (by decide) (by decide) | exact ⟨by decide, by decide +kernel⟩ | decide | exact Nat.le_of_ble_eq_true rfl | (simp only [List.length_cons, List.length_nil, List.length_map, List.nil_append, List.cons_append, sizeLine_eq]; omega) | (simp only [List.map_cons, List.map_nil, List.nil_append, List.cons_append]; decide +kernel))
local macro_rules | `(tactic| walk_at "go") => `(tactic| repeat (first
  | refine ⟨_, rfl, ?_⟩
  | refine ⟨_, _, rfl, rfl, ?_⟩
  | refine ⟨_, _, rfl, ?_⟩
  | refine ⟨_, _, _, rfl, rfl, ?_⟩
  | refine ⟨_, _, _, rfl, ?_⟩
  | refine ⟨_, _, _, _, rfl, rfl, ?_⟩
  | refine ⟨_, _, _, _, rfl, ?_⟩
  | refine ⟨_, _, _, _, _, rfl, ?_⟩
  | refine ⟨_, _, rfl, by assumption, ?_⟩
  | refine ⟨_, _, _, rfl, rfl, rfl, ?_⟩
  | refine ⟨_, _, _, rfl, rfl, by assumption, ?_⟩
  | refine ⟨_, _, _, rfl, rfl, by walk_at "side", by assumption, ?_⟩
  | refine ⟨_, _, _, rfl, rfl, by walk_at "side", rfl, ?_⟩
  | refine ⟨_, _, _, rfl, rfl, rfl, by assumption, ?_⟩
  | refine .inl ⟨_, rfl, ?_⟩
  | refine .inr ⟨_, rfl, ?_⟩
  | refine .inr (.inl ⟨_, rfl, ?_⟩)
  | refine .inr (.inr ⟨_, rfl, ?_⟩)
  | refine ⟨_, .inl rfl, ?_⟩
  | refine ⟨_, .inr rfl, ?_⟩
  | refine .inr ⟨_, _, rfl, ?_⟩
  | refine .inl ⟨_, _, rfl, ?_⟩
  | refine And.intro (by walk_at "side") ?_))


def P_law_barred : Prm := fun ds Q _ => ∃ (ts : List Int) (b c : Int), ds = [PO ts b, PO [] c] ∧ Pol 70 ts b ∧ Pol 70 [] c ∧ ts.length ≤ 24 ∧ Q (.bl true)

theorem fn_law_barred (T : Txt LL K mg) (M : Mo3 cs sms cis mxs exs K mg) : Nonempty (Fn P w K mg base (d_law_barred.at_ K) 9 2 P_law_barred) := by
  obtain ⟨F_Poly_floordiv⟩ := fn_Poly_floordiv (P := P) (w := w) (base := base) T M
  obtain ⟨F_Poly_remainder⟩ := fn_Poly_remainder (P := P) (w := w) (base := base) T M
  obtain ⟨F_Poly_monic⟩ := fn_Poly_monic (P := P) (w := w) (base := base) T M
  refine Fn.of (T.d 56 (d := d_law_barred)) sc_law_barred rfl (fun _ _ _ _ _ _ us hl => match us, hl with | [_, _], _ => rfl) (fun ds Q ex h => ?_) (fun fd cdv A outer s H E hr => ⟨_, pdss_cons (pds_set (i := 2) sc_law_barred.nd rfl (by first | exact Or.inl rfl | exact Or.inr rfl) (pd_bl pe_bl)) (pdss_cons (pds_set (i := 3) sc_law_barred.nd rfl (by first | exact Or.inl rfl | exact Or.inr rfl) (pd_bl pe_bl)) (pdss_cons (pds_set (i := 4) sc_law_barred.nd rfl (by first | exact Or.inl rfl | exact Or.inr rfl) (pd_bl pe_bl)) (pdss_cons (pds_try (i := 6) (x := "ZeroPoly") rfl rfl sc_law_barred.nd rfl rfl ⟨rfl, by decide, Or.inl (T.g "ZeroPoly")⟩ (T.exM "ZeroPoly") (takes_of rfl rfl rfl rfl) (fun W pn xe tk po => pdss_one (pds_set (i := 5) sc_law_barred.nd rfl (by first | exact Or.inl rfl | exact Or.inr rfl) (pd_mixO (op := .FloorDiv) (c := 3) (M.mx "floordiv" [3]) (by decide) (by rw [dm_FloorDiv]; exact T.own "Poly" "__floordiv__") (T.fnn "Poly" "__floordiv__") F_Poly_floordiv (hr.mono (by decide)) tk (pd_var (pv 0)) (pd_var (pv 1))))) (fun a oe cls d pn hz hf => pdss_one (pds_set (i := 2) sc_law_barred.nd rfl (by first | exact Or.inl rfl | exact Or.inr rfl) (pd_and (pd_cmp (op_eqD (hr.units)) l_eqD (pd_xf (i := 6) (x := "ZeroPoly") K rfl (pe_xf (T.exa "ZeroPoly").1 (T.no "ZeroPoly" "word") hz hf (pv 6))) (pd_str pe_str) (nomark _)) (pd_and (pd_xi (i := 6) (x := "ZeroPoly") K rfl (.own (He.ga K "LastrowsError")) (pe_callB (call_isD (T.exa "ZeroPoly").2.1 hz hf) (by rfl) (T.f "isinstance") (by decide +kernel) (pa_cons (pv 6) (pa_cons (pe_glob (v := .ref (He.ga K "LastrowsError")) rfl (T.g "LastrowsError") rfl) pa_nil)))) (pd_and (pd_xi (i := 6) (x := "ZeroPoly") K rfl (.ty "ValueError") (pe_callB (call_isD (T.exa "ZeroPoly").2.1 hz hf) (by rfl) (T.f "isinstance") (by decide +kernel) (pa_cons (pv 6) (pa_cons (pe_bltn (v := .ty "ValueError") (by rfl) (T.f "ValueError") (by decide +kernel) rfl) pa_nil)))) (pd_one (pd_not (pd_xi (i := 6) (x := "ZeroPoly") K rfl (.own (He.ga K "ZeroBottom")) (pe_callB (call_isD (T.exa "ZeroPoly").2.1 hz hf) (by rfl) (T.f "isinstance") (by decide +kernel) (pa_cons (pv 6) (pa_cons (pe_glob (v := .ref (He.ga K "ZeroBottom")) rfl (T.g "ZeroBottom") rfl) pa_nil)))))))))))) (pdss_cons (pds_tryE rfl rfl sc_law_barred.nd (takes_of rfl rfl rfl rfl) (fun W pn xe tk po => pdss_one (pds_set (i := 5) sc_law_barred.nd rfl (by first | exact Or.inl rfl | exact Or.inr rfl) (pd_meth (c := 3) (pd_var (pv 0)) (T.cl "Poly") (T.me "Poly" "remainder") F_Poly_remainder (hr.mono (by decide)) tk nm_Poly_remainder (pda_cons (pd_var (pv 1)) pda_nil)))) (HdE.cons (x := "LastrowsError") (y := "ZeroPoly") (i := 6) ⟨rfl, by decide, Or.inl (T.g "LastrowsError")⟩ (M.exm "ZeroPoly" "LastrowsError") rfl rfl (fun a oe cls d pn hz hf => pdss_one (pds_set (i := 3) sc_law_barred.nd rfl (by first | exact Or.inl rfl | exact Or.inr rfl) (pd_and (pd_cmp (op_eqD (hr.units)) l_eqD (pd_xf (i := 6) (x := "ZeroPoly") K rfl (pe_xf (T.exa "ZeroPoly").1 (T.no "ZeroPoly" "word") hz hf (pv 6))) (pd_str pe_str) (nomark _)) (pd_and (pd_xi (i := 6) (x := "ZeroPoly") K rfl (.own (He.ga K "ZeroPoly")) (pe_callB (call_isD (T.exa "ZeroPoly").2.1 hz hf) (by rfl) (T.f "isinstance") (by decide +kernel) (pa_cons (pv 6) (pa_cons (pe_glob (v := .ref (He.ga K "ZeroPoly")) rfl (T.g "ZeroPoly") rfl) pa_nil)))) (pd_one (pd_not (pd_xi (i := 6) (x := "ZeroPoly") K rfl (.own (He.ga K "Empty")) (pe_callB (call_isD (T.exa "ZeroPoly").2.1 hz hf) (by rfl) (T.f "isinstance") (by decide +kernel) (pa_cons (pv 6) (pa_cons (pe_glob (v := .ref (He.ga K "Empty")) rfl (T.g "Empty") rfl) pa_nil)))))))))) HdE.nil)) (pdss_cons (pds_try (i := 6) (x := "ZeroPoly") rfl rfl sc_law_barred.nd rfl rfl ⟨rfl, by decide, Or.inl (T.g "ZeroPoly")⟩ (T.exM "ZeroPoly") (takes_of rfl rfl rfl rfl) (fun W pn xe tk po => pdss_one (pds_set (i := 5) sc_law_barred.nd rfl (by first | exact Or.inl rfl | exact Or.inr rfl) (pd_meth0 (c := 3) (pd_var (pv 1)) (T.cl "Poly") (T.me "Poly" "monic") F_Poly_monic (hr.mono (by decide)) tk nm_Poly_monic))) (fun a oe cls d pn hz hf => pdss_one (pds_set (i := 4) sc_law_barred.nd rfl (by first | exact Or.inl rfl | exact Or.inr rfl) (pd_and (pd_cmp (op_eqD (hr.units)) l_eqD (pd_xf (i := 6) (x := "ZeroPoly") K rfl (pe_xf (T.exa "ZeroPoly").1 (T.no "ZeroPoly" "word") hz hf (pv 6))) (pd_str pe_str) (nomark _)) (pd_one (pd_xi (i := 6) (x := "ZeroPoly") K rfl (.own (He.ga K "LastrowsError")) (pe_callB (call_isD (T.exa "ZeroPoly").2.1 hz hf) (by rfl) (T.f "isinstance") (by decide +kernel) (pa_cons (pv 6) (pa_cons (pe_glob (v := .ref (He.ga K "LastrowsError")) rfl (T.g "LastrowsError") rfl) pa_nil))))))))) (pdss_one (pds_ret (pd_and (pd_var (pv 2)) (pd_and (pd_var (pv 3)) (pd_one (pd_var (pv 4)))))))))))), fun ds Q ex h => ?_⟩)
  · obtain ⟨ts, b, c, rfl, _⟩ := h
    rfl
  · obtain ⟨ts, b, c, rfl, hv, hw, hl, q⟩ := h
    have k1 := T.kie "ZeroPoly" "LastrowsError" true
    have k2 := T.kiv "ZeroPoly" "ValueError" true
    have k3 := T.kie "ZeroPoly" "ZeroBottom" false
    have k4 := T.kie "ZeroPoly" "ZeroPoly" true
    have k5 := T.kie "ZeroPoly" "Empty" false
    have l2 := xl_ZeroPoly_word
    have ob := okD_str (s := "poly") (OkS.of (by decide +kernel))
    have hw4 : Pol 4000 [] c := hw.up (by decide)
    have l0 : ([] : List Int).length ≤ 24 := by decide
    walk_at "go"
    refine ⟨fun _ => ?_, fun z => absurd rfl z⟩
    refine .inl ⟨rfl, fun a dd => ?_⟩
    walk_at "go"
    refine ⟨fun _ => ?_, fun z => absurd rfl z⟩
    refine .inl ⟨rfl, fun a dd => ?_⟩
    walk_at "go"
    refine ⟨fun _ => ?_, fun z => absurd rfl z⟩
    refine .inl ⟨rfl, fun a dd => ?_⟩
    walk_at "go"
    exact q
end
end K08

namespace K08
open PySem PySem.Spec PyProof.Rows L2 LR DL
section
variable {P : Program} {w : World} {K : PySem.W.Frag} {mg : Str → Option Value} {base : Heap}
local macro_rules | `(tactic| walk_at "side") => `(tactic| first | with_reducible assumption | exact Bsame.mk (by with_reducible rfl) | omega | rfl | assumption | exact ⟨_, rfl⟩ | exact mulL (by omega) (by omega) | exact mulR (by omega) (by omega) | exact mulF (by decide) (by decide) | exact ⟨by decide, by decide +kernel⟩ | decide | exact Nat.le_of_ble_eq_true rfl | (simp only [List.length_cons, List.length_nil, List.length_map, List.nil_append, List.cons_append, sizeLine_eq]; omega) | (simp only [List.map_cons, List.map_nil, List.nil_append, List.cons_append]; decide +kernel))
local macro_rules | `(tactic| walk_at "go") => `(tactic| repeat (first
  | refine ⟨_, rfl, ?_⟩
  | refine ⟨_, _, rfl, rfl, ?_⟩
  | refine ⟨_, _, rfl, ?_⟩
  | refine ⟨_, _, _, rfl, rfl, ?_⟩
  | refine ⟨_, _, _, rfl, ?_⟩
  | refine ⟨_, _, _, _, rfl, rfl, ?_⟩
  | refine ⟨_, _, _, _, rfl, ?_⟩
  | refine ⟨_, _, _, _, _, rfl, ?_⟩
  | refine ⟨_, _, rfl, by assumption, ?_⟩
  | refine ⟨_, _, _, rfl, rfl, rfl, ?_⟩
  | refine ⟨_, _, _, rfl, rfl, by assumption, ?_⟩
  | refine ⟨_, _, _, rfl, rfl, by walk_at "side", by assumption, ?_⟩
  | refine ⟨_, _, _, rfl, rfl, by walk_at "side", rfl, ?_⟩
  | refine ⟨_, _, _, rfl, rfl, rfl, by assumption, ?_⟩
  | refine .inl ⟨_, rfl, ?_⟩
  | refine .inr ⟨_, rfl, ?_⟩
  | refine .inr (.inl ⟨_, rfl, ?_⟩)
  | refine .inr (.inr ⟨_, rfl, ?_⟩)
  | refine ⟨_, .inl rfl, ?_⟩
  | refine ⟨_, .inr rfl, ?_⟩
  | refine .inr ⟨_, _, rfl, ?_⟩
  | refine .inl ⟨_, _, rfl, ?_⟩
  | refine And.intro (by walk_at "side") ?_))


def P_law_fields : Prm := fun ds Q _ => ∃ (ts : List Int) (b : Int), ds = [PO ts b, TB ts b] ∧ Pol 70 ts b ∧ ts.length ≤ 24 ∧ Q (.bl true)
theorem eqD_TB (ts : List Int) (b : Int) (us : List Int) (c : Int) : eqD (TB ts b) (TB us c) = (decide (ts = us) && decide (b = c)) := by
  unfold eqD
  rw [toP, toP, PyData.eqv]
  show PyData.eqvAll [toP (.lst (ts.map D.int)), toP (.int b)] [toP (.lst (us.map D.int)), toP (.int c)] = _
  rw [PyData.eqvAll, PyData.eqvAll, PyData.eqvAll, toP, toP, toP, toP, PyData.eqv, PyData.eqv, eqv_ints, Bool.and_true]
  congr 1
theorem ndr {x y : Int} (h : x = y) : (!decide (x = y)) = false := by rw [decide_eq_true h]; rfl
theorem ndb {x y : Bool} (h : x = y) : (!(x == y)) = false := by rw [h, beq_self_eq_true]; rfl
theorem okD_rat (t b : Int) : okD (.tup [.int t, .int b]) = true := okD_of 1 (fun y hy => by
  simp only [List.mem_cons, List.not_mem_nil, or_false] at hy
  rcases hy with rfl | rfl <;> exact trivial) (by decide)
/-- the places that are asked -/
theorem place_at {n : Nat} {i : Nat} {x : D} (h : (rngD 0 (n + 3) ++ [D.int ((n : Int) + 40)])[i]? = some x) : ∃ k : Nat, x = .int (k : Int) ∧ k ≤ n + 40 := by
  by_cases hi : i < (rngD 0 (n + 3)).length
  · rw [List.getElem?_append_left hi] at h
    obtain ⟨h1, h2⟩ := rng_at h
    exact ⟨i, by rw [h2, Int.zero_add], by omega⟩
  · rw [List.getElem?_append_right (by omega)] at h
    have := (List.getElem?_eq_some_iff.mp h).1
    have e : i - (rngD 0 (n + 3)).length = 0 := by
      have e1 : ([D.int ((n : Int) + 40)]).length = 1 := rfl
      omega
    rw [e] at h
    exact ⟨n + 40, (Option.some.inj h).symm, Nat.le_refl _⟩

theorem fn_law_fields (T : Txt LL K mg) (M : Mo3 cs sms cis mxs exs K mg) : Nonempty (Fn P w K mg base (d_law_fields.at_ K) 8 2 P_law_fields) := by
  obtain ⟨F_Poly_len⟩ := fn_Poly_len (P := P) (w := w) (base := base) T M
  obtain ⟨F_law_told⟩ := fn_law_told (P := P) (w := w) (base := base) T M
  obtain ⟨F_Poly_degree⟩ := fn_Poly_degree (P := P) (w := w) (base := base) T M
  obtain ⟨F_law_is_integer⟩ := fn_law_is_integer (P := P) (w := w) (base := base) T M
  obtain ⟨F_Poly_is_zero⟩ := fn_Poly_is_zero (P := P) (w := w) (base := base) T M
  obtain ⟨F_law_ratio_of⟩ := fn_law_ratio_of (P := P) (w := w) (base := base) T M
  obtain ⟨F_Poly_getitem⟩ := fn_Poly_getitem (P := P) (w := w) (base := base) T M
  obtain ⟨F_law_ratio⟩ := fn_law_ratio (P := P) (w := w) (base := base) T M
  refine Fn.of (T.d 52 (d := d_law_fields)) sc_law_fields rfl (fun _ _ _ _ _ _ us hl => match us, hl with | [_, _], _ => rfl) (fun ds Q ex h => ?_) (fun fd cdv A outer s H E hr => ⟨_, pdss_cons (pds_set (i := 2) sc_law_fields.nd rfl (by first | exact Or.inl rfl | exact Or.inr rfl) (pd_cb (fun h => pe_callB call_len (by rfl) (T.f "len") (by decide +kernel) h) l_len (pda_cons (pd_ix ix_tup l_ixT (pd_var (pv 1)) (pd_int pe_int) (fun _ _ => rfl)) pda_nil))) (pdss_cons (pds_if (PDW.pt (pdw_or (pdt_not (pdt_val (pd_call F_law_told (hr.mono (by decide)) (by rfl) (T.g "_law_told") (T.k "_law_told") (takes_of rfl rfl rfl rfl) (pda_cons (pd_var (pv 0)) (pda_cons (pd_var (pv 1)) pda_nil))))) (pdw_or1 (pdt_cmp op_ne l_ne (pd_cb (fun h => pe_callB (call_lenO (T.own "Poly" "__len__") (T.fnn "Poly" "__len__") F_Poly_len.ok (hr.mono (by decide)) F_Poly_len.bd passL) (by rfl) (T.f "len") (by decide +kernel) h) (l_lenO (c := 3) F_Poly_len.len) (pda_cons (pd_var (pv 0)) pda_nil)) (pd_var (pv 2)) (nomark _))))) (pdss_one (pds_ret (pd_bl pe_bl))) pdss_nil) (pdss_cons (pds_if (PDW.pt (pdw_or (pdt_not (pdt_val (pd_call F_law_is_integer (hr.mono (by decide)) (by rfl) (T.g "_law_is_integer") (T.k "_law_is_integer") (takes_of rfl rfl rfl rfl) (pda_cons (pd_prop (c := 3) (pd_var (pv 0)) (T.cl "Poly") (T.pr "Poly" "degree") F_Poly_degree (hr.mono (by decide))) pda_nil)))) (pdw_or1 (pdt_cmp op_ne l_ne (pd_prop (c := 3) (pd_var (pv 0)) (T.cl "Poly") (T.pr "Poly" "degree") F_Poly_degree (hr.mono (by decide))) (pd_op op_sub l_I0 (pd_var (pv 2)) (pd_int pe_int)) (nomark _))))) (pdss_one (pds_ret (pd_bl pe_bl))) pdss_nil) (pdss_cons (pds_if (PDW.pt (pdw_or (pdt_not (pdt_val (pd_isi (cr := .bool) M.isi M.cls (fun c h => nomatch h) (fun h => pe_callB call_isi (by rfl) (T.f "isinstance") (by decide +kernel) (pa_cons h (pa_cons (pe_bltn (v := .ty "bool") (by rfl) (T.f "bool") (by decide +kernel) rfl) pa_nil))) (pd_prop (c := 3) (pd_var (pv 0)) (T.cl "Poly") (T.pr "Poly" "is_zero") F_Poly_is_zero (hr.mono (by decide)))))) (pdw_or1 (pdt_cmp op_ne l_ne (pd_prop (c := 3) (pd_var (pv 0)) (T.cl "Poly") (T.pr "Poly" "is_zero") F_Poly_is_zero (hr.mono (by decide))) (pd_cmp op_eq l_eq (pd_var (pv 2)) (pd_int pe_int) (nomark _)) (nomark _))))) (pdss_one (pds_ret (pd_bl pe_bl))) pdss_nil) (pdss_cons (pds_for (passes_of rfl) rfl (pdi_list (pd_new (pdn_catA (pd_new (pdn_lrg rfl rfl (T.f "list") rfl (T.f "range") (pd_op op_add l_I0 (pd_var (pv 2)) (pd_int pe_int)))) (pd_new (pdn_lst (pda_cons (pd_op op_add l_I0 (pd_var (pv 2)) (pd_int pe_int)) pda_nil)))))) (pdg_name (pg_name (i := 3) sc_law_fields.nd rfl (by first | exact Or.inl rfl | exact Or.inr rfl))) (pdss_cons (pds_set (i := 4) sc_law_fields.nd rfl (by first | exact Or.inl rfl | exact Or.inr rfl) (pd_call F_law_ratio_of (hr.mono (by decide)) (by rfl) (T.g "_law_ratio_of") (T.k "_law_ratio_of") (takes_of rfl rfl rfl rfl) (pda_cons (pd_ixC (c := 3) (T.own "Poly" "__getitem__") (fn_in (T.d 15 (d := d_Poly_getitem))) (T.fnn "Poly" "__getitem__") F_Poly_getitem (hr.mono (by decide)) (pd_var (pv 0)) (pd_var (pv 3)) (fun _ _ => by with_unfolding_all rfl)) pda_nil))) (pdss_cons (pds_set (i := 5) sc_law_fields.nd rfl (by first | exact Or.inl rfl | exact Or.inr rfl) (pd_int pe_int)) (pdss_cons (pds_if (pdt_cmp op_lt l_B0 (pd_var (pv 3)) (pd_var (pv 2)) (nomark _)) (pdss_one (pds_set (i := 5) sc_law_fields.nd rfl (by first | exact Or.inl rfl | exact Or.inr rfl) (pd_ix ix_list l_ixL (pd_ix ix_tup l_ixT (pd_var (pv 1)) (pd_int pe_int) (fun _ _ => rfl)) (pd_var (pv 3)) (fun _ _ => rfl)))) pdss_nil) (pdss_one (pds_if (PDW.pt (pdw_or (pdt_cmp op_isN l_isN (pd_var (pv 4)) (pd_non pe_non) (nomark _)) (pdw_or1 (pdt_cmp (op_neD (hr.units)) l_neD (pd_var (pv 4)) (pd_call F_law_ratio (hr.mono (by decide)) (by rfl) (T.g "_law_ratio") (T.k "_law_ratio") (takes_of rfl rfl rfl rfl) (pda_cons (pd_var (pv 5)) (pda_cons (pd_ix ix_tup l_ixT (pd_var (pv 1)) (pd_int pe_int) (fun _ _ => rfl)) pda_nil))) (nomark _))))) (pdss_one (pds_ret (pd_bl pe_bl))) pdss_nil)))))) (pdss_one (pds_ret (pd_bl pe_bl))))))), fun ds Q ex h => ?_⟩)
  · obtain ⟨ts, b, rfl, _⟩ := h
    rfl
  · obtain ⟨ts, b, rfl, hv, hl, q⟩ := h
    have told : Told ts b ts b := told_pol (hv.up (by decide)) (hv.sz.up (by decide)) (by omega) (PEq.refl _ _)
    have hb := hv.pos
    have hbn := hv.ne
    have hbs : b.natAbs < 2 ^ 8999 := abs_up hv.sb (by decide)
    have ml : (ts.map D.int).length = ts.length := List.length_map _
    walk_at "go"
    rw [ml]
    rw [ndr rfl]
    walk_at "go"
    rw [ndr rfl]
    walk_at "go"
    rw [ndb (show decide (ts = []) = decide ((ts.length : Int) = 0) by cases ts with | nil => rfl | cons a r => exact (decide_eq_false (by simp)).trans (decide_eq_false (by simp; omega)).symm)]
    walk_at "go"
    refine And.intro (by rw [rng_len, sizeLine_eq]; simp only [List.length_cons, List.length_nil]; omega) ?_
    walk_at "go"
    refine ⟨fun i env => ∃ (k g t : Sl), env = [.val (PO ts b), .val (TB ts b), .val (.int (ts.length : Int)), k, g, t], fun _ => ⟨_, _, _, rfl⟩, ?_, ?_⟩
    · rintro i x env hx ⟨k, g', t, rfl⟩
      obtain ⟨k, rfl, hk⟩ := place_at hx
      have o3 := okD_rat (nT (cf ts k) b) (nB (cf ts k) b)
      have nr := nrm_of (t := cf ts k) hbn
      have n1 := nT_nrm nr
      have n2 := nB_nrm nr
      have n3 := nB_pos (t := cf ts k) hbn
      have n4 : (nB (cf ts k) b).natAbs < 2 ^ 8999 := Nat.lt_of_le_of_lt (Int.natAbs_fdiv_le_natAbs _ _) hbs
      have e3 : (!eqD (.tup [.int (nT (cf ts k) b), .int (nB (cf ts k) b)]) (.tup [.int (nT (cf ts k) b), .int (nB (cf ts k) b)])) = false := by rw [eqD_refl o3]; rfl
      walk_at "go"
      refine d_ite (fun c => ?_) (fun c => ?_)
      · have c' := of_decide_eq_true c
        obtain ⟨z, _, hz, _⟩ := at_ex (l := ts) (k := (k : Int)) (by omega) c'
        have az := at_map (f := D.int) (by omega) hz
        rw [Int.toNat_natCast] at hz
        have ez := cf_at hz
        subst ez
        walk_at "go"
        simp only [Int.toNat_natCast]
        rw [e3]
        walk_at "go"
        exact fun _ => ⟨_, _, _, rfl⟩
      · have c' := of_decide_eq_false c
        have ez : cf ts k = 0 := cf_ge (by omega)
        rw [ez] at e3
        walk_at "go"
        simp only [Int.toNat_natCast, ez]
        rw [e3]
        walk_at "go"
        exact fun _ => ⟨_, _, _, rfl⟩
    · rintro env ⟨k, g', t, rfl⟩
      walk_at "go"
      exact q
end
end K08

namespace K08
open PySem PySem.Spec PyProof.Rows L2 LR DL
section
variable {P : Program} {w : World} {K : PySem.W.Frag} {mg : Str → Option Value} {base : Heap}
local macro_rules | `(tactic| walk_at "side") => `(tactic| first | with_reducible assumption | exact Bsame.mk (by with_reducible rfl) | omega | rfl | assumption | exact ⟨_, rfl⟩ | exact mulL (by omega) (by omega) | exact mulR (by omega) (by omega) | exact mulF (by decide) (by decide) | exact ⟨by decide, by decide +kernel⟩ | decide | exact Nat.le_of_ble_eq_true rfl | (simp only [List.length_cons, List.length_nil, List.length_map, List.nil_append, List.cons_append, sizeLine_eq]; omega) | (simp only [List.map_cons, List.map_nil, List.nil_append, List.cons_append]; decide +kernel))
local macro_rules | `(tactic| walk_at "go") => `(tactic| repeat (first
  | refine ⟨_, rfl, ?_⟩
  | refine ⟨_, _, rfl, rfl, ?_⟩
  | refine ⟨_, _, rfl, ?_⟩
  | refine ⟨_, _, _, rfl, rfl, ?_⟩
  | refine ⟨_, _, _, rfl, ?_⟩
  | refine ⟨_, _, _, _, rfl, rfl, ?_⟩
  | refine ⟨_, _, _, _, rfl, ?_⟩
  | refine ⟨_, _, _, _, _, rfl, ?_⟩
  | refine ⟨_, _, rfl, by assumption, ?_⟩
  | refine ⟨_, _, _, rfl, rfl, rfl, ?_⟩
  | refine ⟨_, _, _, rfl, rfl, by assumption, ?_⟩
  | refine ⟨_, _, _, rfl, rfl, by walk_at "side", by assumption, ?_⟩
  | refine ⟨_, _, _, rfl, rfl, by walk_at "side", rfl, ?_⟩
  | refine ⟨_, _, _, rfl, rfl, rfl, by assumption, ?_⟩
  | refine .inl ⟨_, rfl, ?_⟩
  | refine .inr ⟨_, rfl, ?_⟩
  | refine .inr (.inl ⟨_, rfl, ?_⟩)
  | refine .inr (.inr ⟨_, rfl, ?_⟩)
  | refine ⟨_, .inl rfl, ?_⟩
  | refine ⟨_, .inr rfl, ?_⟩
  | refine .inr ⟨_, _, rfl, ?_⟩
  | refine .inl ⟨_, _, rfl, ?_⟩
  | refine And.intro (by walk_at "side") ?_))


def P_law_equalities : Prm := fun ds Q _ => ∃ (ts : List Int) (b : Int) (us : List Int) (c : Int), ds = [PO ts b, PO us c, TB ts b, TB us c] ∧ Pol 70 ts b ∧ Pol 70 us c ∧ ts.length ≤ 24 ∧ us.length ≤ 24 ∧ Q (.bl true)
theorem nself (x : Bool) : ((!x) == x) = false := by cases x <;> rfl
theorem one_more {n : Nat} {ts : List Int} {b : Int} (h : Pol n ts b) : (decide (ts = pT (addP ts b [1] 1) (b * 1)) && decide (b = pB (addP ts b [1] 1) (b * 1))) = false := by
  cases e : (decide (ts = pT (addP ts b [1] 1) (b * 1)) && decide (b = pB (addP ts b [1] 1) (b * 1))) with
  | false => rfl
  | true =>
    rw [Bool.and_eq_true] at e
    have e1 := of_decide_eq_true e.1
    have e2 := of_decide_eq_true e.2
    have hb := h.pos
    have p := poly_cf (addP ts b [1] 1) (b := b * 1) (by omega)
    rw [← e1, ← e2, cf_addP] at p
    have p0 := p 0
    have p1 : b * 1 * cf ts 0 = b * (cf ts 0 * 1 + 1 * b) := p0
    rw [Int.mul_one, Int.mul_add, Int.mul_one, Int.one_mul] at p1
    have p2 : 0 < b * b := Int.mul_pos hb hb
    omega

theorem fn_law_equalities (T : Txt LL K mg) (M : Mo3 cs sms cis mxs exs K mg) : Nonempty (Fn P w K mg base (d_law_equalities.at_ K) 8 4 P_law_equalities) := by
  obtain ⟨F_Poly_eq⟩ := fn_Poly_eq (P := P) (w := w) (base := base) T M
  obtain ⟨⟨F_Poly_init⟩, ⟨F_Poly_init_d⟩⟩ := fn_Poly_init (P := P) (w := w) (base := base) T M
  obtain ⟨⟨F_Vector_init⟩, ⟨F_Vector_init_d⟩⟩ := fn_Vector_init (P := P) (w := w) (base := base) T M
  obtain ⟨F_Vector_eq⟩ := fn_Vector_eq (P := P) (w := w) (base := base) T M
  obtain ⟨F_Poly_add⟩ := fn_Poly_add (P := P) (w := w) (base := base) T M
  obtain ⟨F_law_told⟩ := fn_law_told (P := P) (w := w) (base := base) T M
  refine Fn.of (T.d 59 (d := d_law_equalities)) sc_law_equalities rfl (fun _ _ _ _ _ _ us hl => match us, hl with | [_, _, _, _], _ => rfl) (fun ds Q ex h => ?_) (fun fd cdv A outer s H E hr => ⟨_, pdss_cons (pds_set (i := 4) sc_law_equalities.nd rfl (by first | exact Or.inl rfl | exact Or.inr rfl) (pd_cmp (op_eqO (T.own "Poly" "__eq__") (T.fnn "Poly" "__eq__") F_Poly_eq.ok (hr.mono (by decide)) F_Poly_eq.bd passL) (l_cmpO (c := 3) M.isi M.cls (by decide) F_Poly_eq.len) (pd_var (pv 0)) (pd_var (pv 1)) (nomark _))) (pdss_cons (pds_set (i := 5) sc_law_equalities.nd rfl (by first | exact Or.inl rfl | exact Or.inr rfl) (pd_cmp (op_neO (T.ne "Poly") (T.ob "Poly") (T.own "Poly" "__eq__") (T.fnn "Poly" "__eq__") F_Poly_eq.ok (hr.mono (by decide)) F_Poly_eq.bd passL) (l_neO (c := 3) M.isi M.cls (by decide) F_Poly_eq.len) (pd_var (pv 0)) (pd_var (pv 1)) (nomark _))) (pdss_cons (pds_if (PDW.pt (pdw_or (pdt_not (pdt_val (pd_isi (cr := .bool) M.isi M.cls (fun c h => nomatch h) (fun h => pe_callB call_isi (by rfl) (T.f "isinstance") (by decide +kernel) (pa_cons h (pa_cons (pe_bltn (v := .ty "bool") (by rfl) (T.f "bool") (by decide +kernel) rfl) pa_nil))) (pd_var (pv 4))))) (pdw_or (pdt_cmp op_ne l_ne (pd_var (pv 4)) (pd_cmp (op_eqD (hr.units)) l_eqD (pd_var (pv 2)) (pd_var (pv 3)) (nomark _)) (nomark _)) (pdw_or (pdt_not (pdt_val (pd_isi (cr := .bool) M.isi M.cls (fun c h => nomatch h) (fun h => pe_callB call_isi (by rfl) (T.f "isinstance") (by decide +kernel) (pa_cons h (pa_cons (pe_bltn (v := .ty "bool") (by rfl) (T.f "bool") (by decide +kernel) rfl) pa_nil))) (pd_var (pv 5))))) (pdw_or1 (pdt_cmp op_eq l_eq (pd_var (pv 5)) (pd_var (pv 4)) (nomark _))))))) (pdss_one (pds_ret (pd_bl pe_bl))) pdss_nil) (pdss_cons (pds_set (i := 6) sc_law_equalities.nd rfl (by first | exact Or.inl rfl | exact Or.inr rfl) (pd_make (c := 3) (T.mkk "Poly") F_Poly_init (fun _ _ => .nil) (hr.mono (by decide)) (by rfl) (T.g "Poly") (takes_of rfl rfl rfl rfl) (pda_cons (pd_cb (fun h => pe_callTy call_tuple_of (by rfl) (T.f "tuple") (by decide +kernel) h) l_tuple (pda_cons (pd_ix ix_tup l_ixT (pd_var (pv 2)) (pd_int pe_int) (fun _ _ => rfl)) pda_nil)) (pda_cons (pd_ix ix_tup l_ixT (pd_var (pv 2)) (pd_int pe_int) (fun _ _ => rfl)) pda_nil)))) (pdss_cons (pds_if (PDW.pt (pdw_or (pdt_cmp op_isnot_bl l_isNB (pd_cmp (op_eqO (T.own "Poly" "__eq__") (T.fnn "Poly" "__eq__") F_Poly_eq.ok (hr.mono (by decide)) F_Poly_eq.bd passL) (l_cmpO (c := 3) M.isi M.cls (by decide) F_Poly_eq.len) (pd_var (pv 0)) (pd_var (pv 6)) (nomark _)) (pd_bl pe_bl) (nomark _)) (pdw_or (pdt_cmp op_isnot_bl l_isNB (pd_cmp (op_eqO (T.own "Poly" "__eq__") (T.fnn "Poly" "__eq__") F_Poly_eq.ok (hr.mono (by decide)) F_Poly_eq.bd passL) (l_cmpO (c := 3) M.isi M.cls (by decide) F_Poly_eq.len) (pd_var (pv 6)) (pd_var (pv 0)) (nomark _)) (pd_bl pe_bl) (nomark _)) (pdw_or (pdt_cmp op_isnot_bl l_isNB (pd_cmp (op_neO (T.ne "Poly") (T.ob "Poly") (T.own "Poly" "__eq__") (T.fnn "Poly" "__eq__") F_Poly_eq.ok (hr.mono (by decide)) F_Poly_eq.bd passL) (l_neO (c := 3) M.isi M.cls (by decide) F_Poly_eq.len) (pd_var (pv 0)) (pd_var (pv 6)) (nomark _)) (pd_bl pe_bl) (nomark _)) (pdw_or1 (pdt_cmp op_isnot_bl l_isNB (pd_cmp (op_neO (T.ne "Poly") (T.ob "Poly") (T.own "Poly" "__eq__") (T.fnn "Poly" "__eq__") F_Poly_eq.ok (hr.mono (by decide)) F_Poly_eq.bd passL) (l_neO (c := 3) M.isi M.cls (by decide) F_Poly_eq.len) (pd_var (pv 0)) (pd_fld (c := 3) (k := 0) (T.cl "Poly") (T.no "Poly" "tops") fk_Poly_tops (pd_var (pv 0))) (nomark _)) (pd_bl pe_bl) (nomark _))))))) (pdss_one (pds_ret (pd_bl pe_bl))) pdss_nil) (pdss_cons (pds_if (pdt_cmp op_gt l_B0 (pd_cb (fun h => pe_callB call_len (by rfl) (T.f "len") (by decide +kernel) h) l_len (pda_cons (pd_ix ix_tup l_ixT (pd_var (pv 2)) (pd_int pe_int) (fun _ _ => rfl)) pda_nil)) (pd_int pe_int) (nomark _)) (pdss_cons (pds_set (i := 7) sc_law_equalities.nd rfl (by first | exact Or.inl rfl | exact Or.inr rfl) (pd_make (c := 1) (T.mkk "Vector") F_Vector_init (fun _ _ => .nil) (hr.mono (by decide)) (by rfl) (T.g "Vector") (takes_of rfl rfl rfl rfl) (pda_cons (pd_new (pdn_cb (fun h => pe_callTy call_list_of (by rfl) (T.f "list") (by decide +kernel) h) l_list (pda_cons (pd_ix ix_tup l_ixT (pd_var (pv 2)) (pd_int pe_int) (fun _ _ => rfl)) pda_nil))) (pda_cons (pd_ix ix_tup l_ixT (pd_var (pv 2)) (pd_int pe_int) (fun _ _ => rfl)) pda_nil)))) (pdss_one (pds_if (PDW.pt (pdw_or (pdt_cmp op_isnot_bl l_isNB (pd_cmp (op_eqO (T.own "Poly" "__eq__") (T.fnn "Poly" "__eq__") F_Poly_eq.ok (hr.mono (by decide)) F_Poly_eq.bd passL) (l_cmpO (c := 3) M.isi M.cls (by decide) F_Poly_eq.len) (pd_var (pv 0)) (pd_var (pv 7)) (nomark _)) (pd_bl pe_bl) (nomark _)) (pdw_or (pdt_cmp op_isnot_bl l_isNB (pd_cmp (op_eqO (T.own "Vector" "__eq__") (T.fnn "Vector" "__eq__") F_Vector_eq.ok (hr.mono (by decide)) F_Vector_eq.bd passL) (l_cmpO (c := 1) M.isi M.cls (by decide) F_Vector_eq.len) (pd_var (pv 7)) (pd_var (pv 0)) (nomark _)) (pd_bl pe_bl) (nomark _)) (pdw_or1 (pdt_cmp op_isnot_bl l_isNB (pd_cmp (op_neO (T.ne "Poly") (T.ob "Poly") (T.own "Poly" "__eq__") (T.fnn "Poly" "__eq__") F_Poly_eq.ok (hr.mono (by decide)) F_Poly_eq.bd passL) (l_neO (c := 3) M.isi M.cls (by decide) F_Poly_eq.len) (pd_var (pv 0)) (pd_var (pv 7)) (nomark _)) (pd_bl pe_bl) (nomark _)))))) (pdss_one (pds_ret (pd_bl pe_bl))) pdss_nil))) pdss_nil) (pdss_cons (pds_if (PDW.pt (pdw_or (pdt_cmp op_isnot_bl l_isNB (pd_cmp (op_eqO (T.own "Poly" "__eq__") (T.fnn "Poly" "__eq__") F_Poly_eq.ok (hr.mono (by decide)) F_Poly_eq.bd passL) (l_cmpO (c := 3) M.isi M.cls (by decide) F_Poly_eq.len) (pd_var (pv 0)) (pd_mixO (op := .Add) (c := 3) (M.mx "add" [3]) (by decide) (by rw [dm_Add]; exact T.own "Poly" "__add__") (T.fnn "Poly" "__add__") F_Poly_add (hr.mono (by decide)) (takes_of rfl rfl rfl rfl) (pd_var (pv 0)) (pd_make (c := 3) (T.mkk "Poly") F_Poly_init_d dd_Poly (hr.mono (by decide)) (by rfl) (T.g "Poly") (takes_of rfl rfl rfl rfl) (pda_cons (pd_new (pdn_lst (pda_cons (pd_int pe_int) pda_nil))) pda_nil))) (nomark _)) (pd_bl pe_bl) (nomark _)) (pdw_or1 (pdt_cmp op_isnot_bl l_isNB (pd_cmp (op_eqO (T.own "Poly" "__eq__") (T.fnn "Poly" "__eq__") F_Poly_eq.ok (hr.mono (by decide)) F_Poly_eq.bd passL) (l_cmpO (c := 3) M.isi M.cls (by decide) F_Poly_eq.len) (pd_var (pv 0)) (pd_fld (c := 3) (k := 0) (T.cl "Poly") (T.no "Poly" "tops") fk_Poly_tops (pd_var (pv 0))) (nomark _)) (pd_bl pe_bl) (nomark _))))) (pdss_one (pds_ret (pd_bl pe_bl))) pdss_nil) (pdss_one (pds_ret (pd_and (pd_cmp op_is_bl l_isB (pd_cmp (op_eqO (T.own "Poly" "__eq__") (T.fnn "Poly" "__eq__") F_Poly_eq.ok (hr.mono (by decide)) F_Poly_eq.bd passL) (l_cmpO (c := 3) M.isi M.cls (by decide) F_Poly_eq.len) (pd_var (pv 0)) (pd_ix ix_tup l_ixT (pd_var (pv 2)) (pd_int pe_int) (fun _ _ => rfl)) (nomark _)) (pd_bl pe_bl) (nomark _)) (pd_one (pd_call F_law_told (hr.mono (by decide)) (by rfl) (T.g "_law_told") (T.k "_law_told") (takes_of rfl rfl rfl rfl) (pda_cons (pd_make (c := 3) (T.mkk "Poly") F_Poly_init_d dd_Poly (hr.mono (by decide)) (by rfl) (T.g "Poly") (takes_of rfl rfl rfl rfl) (pda_cons (pd_new (pdn_cb (fun h => pe_callTy call_list_of (by rfl) (T.f "list") (by decide +kernel) h) l_list (pda_cons (pd_ix ix_tup l_ixT (pd_var (pv 2)) (pd_int pe_int) (fun _ _ => rfl)) pda_nil))) pda_nil)) (pda_cons (pd_tup (pda_cons (pd_ix ix_tup l_ixT (pd_var (pv 2)) (pd_int pe_int) (fun _ _ => rfl)) (pda_cons (pd_int pe_int) pda_nil))) pda_nil))))))))))))), fun ds Q ex h => ?_⟩)
  · obtain ⟨ts, b, us, c, rfl, _⟩ := h
    rfl
  · obtain ⟨ts, b, us, c, rfl, hv, hw, l1, l2, q⟩ := h
    have hv4 : Pol 4000 ts b := hv.up (by decide)
    have hb := hv.pos
    have hbn := hv.ne
    have hbs : b.natAbs < 2 ^ 8999 := abs_up hv.sb (by decide)
    have o1 := okD_TB ts b
    have o2 := okD_TB us c
    have om := one_more hv
    have e1 : (decide (ts = ts) && decide (b = b)) = true := by rw [decide_eq_true rfl, decide_eq_true rfl]; rfl
    obtain ⟨i1, i2⟩ := hv.low
    have one8 : (1 : Int).natAbs < 2 ^ 8999 := Nat.one_lt_two_pow (by decide)
    have h1 := one_pol.low
    have tl : Told (pT ts 1) (pB ts 1) ts 1 := told_of ⟨by decide, hv.bd.up (by decide), Nat.one_lt_two_pow (by decide)⟩ (by omega) ⟨by decide, hv.bd.up (by decide), Nat.one_lt_two_pow (by decide)⟩ (by omega) (PEq.refl _ _)
    have hp1 : Pol 4000 [1] 1 := one_pol.up (by decide)
    have ml : (ts.map D.int).length = ts.length := List.length_map _
    walk_at "go"
    rw [ndb (eqD_TB ts b us c).symm]
    walk_at "go"
    rw [nself]
    walk_at "go"
    refine ⟨_, ts, b, rfl, .inr rfl, by omega, fun z => absurd z hbn, fun _ => ⟨hbs, ?_⟩⟩
    rw [i1, i2]
    walk_at "go"
    rw [e1]
    walk_at "go"
    rw [e1]
    walk_at "go"
    rw [e1]
    walk_at "go"
    refine .inr ⟨rfl, ?_⟩
    walk_at "go"
    refine d_ite (fun c5 => ?_) (fun c5 => ?_)
    · have c' := of_decide_eq_true c5
      have hn : ts ≠ [] := fun z => by rw [z] at c'; exact absurd c' (by decide)
      walk_at "go"
      refine ⟨_, ts, b, rfl, .inl rfl, by omega, hn, hbn, hbs, ?_⟩
      walk_at "go"
      refine .inr ⟨rfl, ?_⟩
      walk_at "go"
      refine .inr ⟨rfl, ?_⟩
      walk_at "go"
      refine ⟨_, [1], 1, rfl, .inl rfl, by decide, fun z => absurd z (by decide), fun _ => ⟨one8, ?_⟩⟩
      rw [h1.1, h1.2]
      walk_at "go"
      rw [om]
      walk_at "go"
      refine .inr ⟨rfl, ?_⟩
      walk_at "go"
      refine .inr ⟨rfl, ?_⟩
      walk_at "go"
      refine ⟨_, ts, 1, rfl, .inl rfl, by omega, fun z => absurd z (by decide), fun _ => ⟨one8, ?_⟩⟩
      walk_at "go"
      exact q
    · walk_at "go"
      refine ⟨_, [1], 1, rfl, .inl rfl, by decide, fun z => absurd z (by decide), fun _ => ⟨one8, ?_⟩⟩
      rw [h1.1, h1.2]
      walk_at "go"
      rw [om]
      walk_at "go"
      refine .inr ⟨rfl, ?_⟩
      walk_at "go"
      refine .inr ⟨rfl, ?_⟩
      walk_at "go"
      refine ⟨_, ts, 1, rfl, .inl rfl, by omega, fun z => absurd z (by decide), fun _ => ⟨one8, ?_⟩⟩
      walk_at "go"
      exact q
end
end K08

namespace DL
open PySem PySem.Spec PyProof.Rows L2 LR
section
variable {X : Cx} {W : WX} {a b c e tg o : Expr} {es : List Expr} {ta tb tc : DT} {t : DTA} {pos p apos : Pos} {K : PySem.W.Frag} {k n : Nat} {f : Addr} {Pm : Prm} {x m : Str}
/-! C.m(), a static method without arguments -/
theorem pe_sm0 {pl : Sem Bool} {fd : FuncData} {ps : List Str} {sp : Sp} {E : L2.St → XK} {CX : CXT} (hg : Gl X x) (hm : X.mg x = some (.ref (He.ga X.K x))) (r : SmOk X.K x m) (F : FnOk X.prog X.w X.K X.mg X.base CX k (smF X.K x m) fd ps sp) (hr : Room k X.A) (hb : Binds X.K fd ps []) (hx : ∀ σ, PassesAt CX X σ (E σ))
    (hdb : (x == ("__debug__" : Str)) = false := by decide)
    (ht : eval (.Call (.Attribute (.Name x p) m apos) [] [] pos) X.env = (do
      let ov ← eval (.Name x p) X.env
      standAt apos.atName
      let (f, first) ← holding [ov] (getMethod ov m pl)
      callWith pos f first (backTo pos (starEach [] X.env)) (backToKw pos (keywordEach [] X.env))) := by rfl) :
    PE X (.Call (.Attribute (.Name x p) m apos) [] [] pos) (fun σ H Q => sp [] H Q (E σ)) := by
  refine ⟨fun pins s σ H Q I h => ?_⟩
  refine PySem.W.methodCall_KW (pl := pl) (ld_glob I hg hm ?_ hdb) ht
  refine getmethsm_ok I r fun s1 I1 => ?_
  exact PySem.W.callWith_K0 (first := []) I1.kIn r.kp (run_fnS (us := []) (vs := []) F hr hb (hx σ) I1 .nil h)
theorem pd_sm0 {pl : Sem Bool} (hg : Gl X x) (hm : X.mg x = some (.ref (He.ga X.K x))) (r : SmOk X.K x m) (F : Fn X.prog X.w X.K X.mg X.base (smF X.K x m) k n Pm) (hr : Room k X.A) (tk : Takes X W)
    (hdb : (x == ("__debug__" : Str)) = false := by decide)
    (ht : eval (.Call (.Attribute (.Name x p) m apos) [] [] pos) X.env = (do
      let ov ← eval (.Name x p) X.env
      standAt apos.atName
      let (f, first) ← holding [ov] (getMethod ov m pl)
      callWith pos f first (backTo pos (starEach [] X.env)) (backToKw pos (keywordEach [] X.env))) := by rfl) :
    PD X W (.Call (.Attribute (.Name x p) m apos) [] [] pos) (dCall Pm dNil) := by
  refine ⟨_, pe_sm0 hg hm r F.ok hr F.bd (fun σ => passAt tk σ) hdb ht, fun H0 G0 G H σ env Q ex R S L q g => ?_⟩
  exact sp_call S L F.len .nil q g
end
end DL

namespace K08
open PySem PySem.Spec PyProof.Rows L2 LR DL
section
variable {P : Program} {w : World} {K : PySem.W.Frag} {mg : Str → Option Value} {base : Heap}
local macro_rules | `(tactic| walk_at "side") => `(tactic| first | with_reducible assumption | exact Bsame.mk (by with_reducible rfl) | omega | rfl | assumption | exact ⟨_, rfl⟩ | exact mulL (by omega) (by omega) | exact mulR (by omega) (by omega) | exact mulF (by decide) (by decide) | exact ⟨by decide, by decide +kernel⟩ | decide | exact Nat.le_of_ble_eq_true rfl | (simp only [List.length_cons, List.length_nil, List.length_map, List.nil_append, List.cons_append, sizeLine_eq]; omega) | (simp only [List.map_cons, List.map_nil, List.nil_append, List.cons_append]; decide +kernel))
local macro_rules | `(tactic| walk_at "go") => `(tactic| repeat (first
  | refine ⟨_, rfl, ?_⟩
  | refine ⟨_, _, rfl, rfl, ?_⟩
  | refine ⟨_, _, rfl, ?_⟩
  | refine ⟨_, _, _, rfl, rfl, ?_⟩
  | refine ⟨_, _, _, rfl, ?_⟩
  | refine ⟨_, _, _, _, rfl, rfl, ?_⟩
  | refine ⟨_, _, _, _, rfl, ?_⟩
  | refine ⟨_, _, _, _, _, rfl, ?_⟩
  | refine ⟨_, _, rfl, by assumption, ?_⟩
  | refine ⟨_, _, _, rfl, rfl, rfl, ?_⟩
  | refine ⟨_, _, _, rfl, rfl, by assumption, ?_⟩
  | refine ⟨_, _, _, rfl, rfl, by walk_at "side", by assumption, ?_⟩
  | refine ⟨_, _, _, rfl, rfl, by walk_at "side", rfl, ?_⟩
  | refine ⟨_, _, _, rfl, rfl, rfl, by assumption, ?_⟩
  | refine .inl ⟨_, rfl, ?_⟩
  | refine .inr ⟨_, rfl, ?_⟩
  | refine .inr (.inl ⟨_, rfl, ?_⟩)
  | refine .inr (.inr ⟨_, rfl, ?_⟩)
  | refine ⟨_, .inl rfl, ?_⟩
  | refine ⟨_, .inr rfl, ?_⟩
  | refine .inr ⟨_, _, rfl, ?_⟩
  | refine .inl ⟨_, _, rfl, ?_⟩
  | refine And.intro (by walk_at "side") ?_))


def P_law_statics : Prm := fun ds Q _ => ∃ (zs : List Int), ds = [.lst (zs.map D.int)] ∧ zs.length = 11 ∧ (∀ z ∈ zs, 0 ≤ z ∧ z < 1024) ∧ Q (.bl true)
abbrev rD (rs : List (Int × Int)) : List D := rs.map fun p => R p.1 p.2
/-- the ratios so far, and their polynomial by the law's own sums -/
structure StI (i : Nat) (rs : List (Int × Int)) (ws : List Int) (e : Int) : Prop where
  len : rs.length = i
  ok : ∀ p ∈ rs, 0 < p.2 ∧ p.2 ∣ 27720 ∧ p.2 ≤ 12 ∧ p.1.natAbs ≤ 32
  sz : Sz (2 ^ (i + 4) - 8) ws e
  lo : i ≤ ws.length
  hi : ws.length ≤ 10 * i
  eq : ∀ (k : Nat) p, rs[k]? = some p → e * p.1 = p.2 * cf ws k
  up : ∀ k, i ≤ k → cf ws k = 0
theorem StI.start : StI 0 [] [] 1 := ⟨rfl, fun p hp => by simp at hp, ⟨by decide, fun t ht => by simp at ht, by decide⟩, Nat.le_refl _, Nat.le_refl _, fun k p h => by simp at h, fun k _ => rfl⟩
theorem one_cf (i : Nat) (t : Int) : cf (List.replicate i 0 ++ [t]) = mono t i := by
  funext k
  show (List.replicate i 0 ++ [t]).getD k 0 = if k = i then t else 0
  rw [List.getD_eq_getElem?_getD]
  by_cases h : k < i
  · rw [List.getElem?_append_left (by simpa using h), if_neg (by omega), List.getElem?_replicate]
    simp [h]
  · rw [List.getElem?_append_right (by simpa using h), List.length_replicate]
    by_cases e : k = i
    · rw [if_pos e, e, Nat.sub_self]; rfl
    · rw [if_neg e, List.getElem?_eq_none (by simp; omega)]; rfl
theorem StI.step {i : Nat} {rs : List (Int × Int)} {ws : List Int} {e t d : Int} (h : StI i rs ws e) (hi : i ≤ 5) (d0 : 0 < d) (d1 : d ∣ 27720) (d2 : d ≤ 12) (ht : t.natAbs ≤ 32) :
    StI (i + 1) (rs ++ [(nT t d, nB t d)]) (sumT ws e (List.replicate i 0 ++ [t]) d 1) (e * d) := by
  have hd : d ≠ 0 := by omega
  obtain ⟨g1, g2⟩ := gs_nT' t hd
  have p0 := nB_pos (t := t) hd
  have p1 : nB t d ∣ d := ⟨gs [t] d, by rw [Int.mul_comm]; exact g2.symm⟩
  have p2 : nB t d ≤ 12 := Int.le_trans (Int.le_of_dvd d0 p1) d2
  have e1 : 2 ^ (i + 1 + 4) - 8 = 2 * (2 ^ (i + 4) - 8) + 8 := by
    have : 2 ^ (i + 1 + 4) = 2 * 2 ^ (i + 4) := by rw [show i + 1 + 4 = i + 4 + 1 by omega, Nat.pow_succ, Nat.mul_comm]
    have : 16 ≤ 2 ^ (i + 4) := Nat.le_trans (by decide : 16 ≤ 2 ^ 4) (Nat.pow_le_pow_right (by decide) (by omega))
    omega
  have e2 : 8 ≤ 2 ^ (i + 4) - 8 := by
    have : 16 ≤ 2 ^ (i + 4) := Nat.le_trans (by decide : 16 ≤ 2 ^ 4) (Nat.pow_le_pow_right (by decide) (by omega))
    omega
  have hz : Sz (2 ^ (i + 4) - 8) (List.replicate i 0 ++ [t]) d := by
    have z : Sz 8 (List.replicate i 0 ++ [t]) d := ⟨hd, fun u hu => by
      rcases List.mem_append.mp hu with m | m
      · rw [(List.mem_replicate.mp m).2]; decide
      · rw [List.mem_singleton.mp m]; omega, by omega⟩
    exact z.up e2
  refine ⟨by rw [List.length_append, h.len]; rfl, fun p hp => ?_, ?_, ?_, ?_, fun k p hk => ?_, fun k hk => ?_⟩
  · rcases List.mem_append.mp hp with m | m
    · exact h.ok p m
    · rw [List.mem_singleton.mp m]
      exact ⟨p0, Int.dvd_trans p1 d1, p2, Nat.le_trans (nT_le t d) ht⟩
  · rw [e1]
    exact sz_sumT h.sz hz (by decide) (by decide)
  · rw [sumT_len, List.length_append, List.length_singleton]
    have := h.lo
    omega
  · rw [sumT_len, List.length_append, List.length_replicate, List.length_singleton]
    have := h.hi
    omega
  · rw [cf_sumT, one_cf]
    show e * d * p.1 = p.2 * (cf ws k * d + 1 * (if k = i then t else 0) * e)
    by_cases hk2 : k < rs.length
    · rw [List.getElem?_append_left hk2] at hk
      have := h.eq k p hk
      rw [if_neg (by rw [← h.len]; omega), Int.mul_zero, Int.zero_mul, Int.add_zero, Int.mul_right_comm, this, Int.mul_assoc]
    · rw [List.getElem?_append_right (by omega)] at hk
      have hk3 := (List.getElem?_eq_some_iff.mp hk).1
      rw [List.length_singleton] at hk3
      have ek : k = i := by rw [← h.len]; omega
      rw [show k - rs.length = 0 by omega] at hk
      have ep := (Option.some.inj hk).symm
      subst ep
      rw [if_pos ek, h.up k (by omega), Int.zero_mul, Int.zero_add, Int.one_mul]
      show e * d * nT t d = nB t d * (t * e)
      calc e * d * nT t d = e * (gs [t] d * nB t d) * nT t d := by rw [g2]
        _ = nB t d * ((gs [t] d * nT t d) * e) := by simp only [Int.mul_assoc, Int.mul_comm, Int.mul_left_comm]
        _ = nB t d * (t * e) := by rw [g1]
  · rw [cf_sumT, one_cf]
    show cf ws k * d + 1 * (if k = i then t else 0) * e = 0
    rw [if_neg (by omega), h.up k (by omega)]
    simp
theorem StI.rok {i : Nat} {rs : List (Int × Int)} {ws : List Int} {e : Int} (h : StI i rs ws e) (hi : i ≤ 5) : RsOk rs :=
  ⟨by have := h.len; omega, fun p hp => by
    obtain ⟨a, b, c, d⟩ := h.ok p hp
    exact ⟨a, b, Nat.lt_of_le_of_lt d (Nat.lt_of_lt_of_le (by decide : 32 < 2 ^ 6) (Nat.pow_le_pow_right (by decide) (by decide)))⟩⟩
theorem StI.szb {i : Nat} {rs : List (Int × Int)} {ws : List Int} {e : Int} (h : StI i rs ws e) (hi : i ≤ 5) : Sz 504 ws e := h.sz.up (by
  have : 2 ^ (i + 4) ≤ 2 ^ 9 := Nat.pow_le_pow_right (by decide) (by omega)
  omega)
theorem StI.of {i : Nat} {rs : List (Int × Int)} {ws : List Int} {e : Int} (h : StI i rs ws e) (hi : i ≤ 5) {m : Int} (m0 : 0 < m) (m1 : m ∣ 27720) (m2 : ∀ p ∈ rs, p.2 ∣ m) : Told (pT (overT rs m) m) (pB (overT rs m) m) ws e := by
  have hl : (overT rs m).length = i := by unfold overT; rw [List.length_map]; exact h.len
  have ms : m.natAbs < 2 ^ 15 := by
    have := Int.le_of_dvd (by decide) m1
    omega
  refine told_of ⟨Int.ne_of_gt m0, fun t ht => ?_, abs_up ms (by decide)⟩ (by omega) ((h.szb hi).up (by decide)) (by have := h.hi; omega) fun k => ?_
  · unfold overT at ht
    obtain ⟨p, hp, rfl⟩ := List.mem_map.mp ht
    have h1 := (h.ok p hp).2.2.2
    have h2 : (m.fdiv p.2).natAbs < 2 ^ 15 := Nat.lt_of_le_of_lt (Int.natAbs_fdiv_le_natAbs _ _) ms
    exact abs_up (abs_mul_lt (a := 6) (Nat.lt_of_le_of_lt h1 (by decide)) h2) (by decide)
  · by_cases hk : k < rs.length
    · have hp : rs[k]? = some rs[k] := List.getElem?_eq_getElem hk
      generalize rs[k] = p at hp
      have e1 : cf (overT rs m) k = p.1 * m.fdiv p.2 := cf_at (by unfold overT; rw [List.getElem?_map, hp]; rfl)
      have pm := List.mem_of_getElem? hp
      obtain ⟨f, hf⟩ := m2 p pm
      have hn : p.2 ≠ 0 := Int.ne_of_gt (h.ok p pm).1
      have hq := h.eq k p hp
      rw [e1, congrArg (fun z => z.fdiv p.2) hf, fdiv_of hn, hf, ← Int.mul_assoc, hq]
      simp only [Int.mul_assoc, Int.mul_comm, Int.mul_left_comm]
    · rw [cf_ge (by rw [hl, ← h.len]; omega), h.up k (by rw [← h.len]; omega), Int.mul_zero, Int.mul_zero]
theorem StI.first {i : Nat} {rs : List (Int × Int)} {ws : List Int} {e : Int} (h : StI i rs ws e) (hi : i ≤ 5) {p : Int × Int} (hp : rs[0]? = some p) : Told (pT [p.1] p.2) (pB [p.1] p.2) (ws.take 1) e := by
  obtain ⟨a1, a2, a3, a4⟩ := h.ok p (List.mem_of_getElem? hp)
  have z := h.szb hi
  refine told_of ⟨Int.ne_of_gt a1, fun t ht => ?_, Nat.lt_of_lt_of_le (show p.2.natAbs < 2 ^ 5 by omega) (Nat.pow_le_pow_right (by decide) (by decide))⟩ (by rw [List.length_singleton]; decide) ⟨z.ne, fun t ht => z.bd.up (by decide) t (List.mem_of_mem_take ht), abs_up z.sb (by decide)⟩ (by rw [List.length_take]; omega) fun k => ?_
  · rw [List.mem_singleton.mp ht]
    exact Nat.lt_of_le_of_lt a4 (Nat.lt_of_lt_of_le (by decide : 32 < 2 ^ 6) (Nat.pow_le_pow_right (by decide) (by decide)))
  · cases k with
    | zero =>
      have e1 : cf (ws.take 1) 0 = cf ws 0 := by
        cases ws with
        | nil => rfl
        | cons a r => rfl
      rw [e1]
      exact h.eq 0 p hp
    | succ k =>
      rw [cf_ge (show (ws.take 1).length ≤ k + 1 by rw [List.length_take]; omega)]
      show e * 0 = p.2 * 0
      rw [Int.mul_zero, Int.mul_zero]
theorem x_pol : Pol 8900 [0, 1] 1 := Pol.up (n := 1) ⟨by decide, by decide, by decide +kernel, by decide +kernel, fun t ht => by
  simp only [List.mem_cons, List.not_mem_nil, or_false] at ht
  rcases ht with rfl | rfl <;> decide, by decide⟩ (by decide)
theorem div12 {d : Int} (h0 : 0 ≤ d) (h1 : d < 12) : 0 < 1 + d ∧ (1 + d) ∣ 27720 ∧ 1 + d ≤ 12 := by
  refine ⟨by omega, ?_, by omega⟩
  rcases (show d = 0 ∨ d = 1 ∨ d = 2 ∨ d = 3 ∨ d = 4 ∨ d = 5 ∨ d = 6 ∨ d = 7 ∨ d = 8 ∨ d = 9 ∨ d = 10 ∨ d = 11 by omega) with rfl | rfl | rfl | rfl | rfl | rfl | rfl | rfl | rfl | rfl | rfl | rfl <;> decide

theorem fn_law_statics (T : Txt LL K mg) (M : Mo3 cs sms cis mxs exs K mg) : Nonempty (Fn P w K mg base (d_law_statics.at_ K) 8 1 P_law_statics) := by
  obtain ⟨F_law_small⟩ := fn_law_small (P := P) (w := w) (base := base) T M
  obtain ⟨⟨F_Ratio_init⟩, ⟨F_Ratio_init_d⟩⟩ := fn_Ratio_init (P := P) (w := w) (base := base) T M
  obtain ⟨F_law_sum⟩ := fn_law_sum (P := P) (w := w) (base := base) T M
  obtain ⟨F_Poly_of⟩ := fn_Poly_of (P := P) (w := w) (base := base) T M
  obtain ⟨F_law_told⟩ := fn_law_told (P := P) (w := w) (base := base) T M
  obtain ⟨F_Poly_x⟩ := fn_Poly_x (P := P) (w := w) (base := base) T M
  obtain ⟨F_Poly_constant⟩ := fn_Poly_constant (P := P) (w := w) (base := base) T M
  obtain ⟨F_Poly_eq⟩ := fn_Poly_eq (P := P) (w := w) (base := base) T M
  refine Fn.of (T.d 58 (d := d_law_statics)) sc_law_statics rfl (fun _ _ _ _ _ _ us hl => match us, hl with | [_], _ => rfl) (fun ds Q ex h => ?_) (fun fd cdv A outer s H E hr => ⟨_, pdss_cons (pds_setN (i := 1) sc_law_statics.nd rfl (by first | exact Or.inl rfl | exact Or.inr rfl) (pdn_lst pda_nil)) (pdss_cons (pds_set (i := 2) sc_law_statics.nd rfl (by first | exact Or.inl rfl | exact Or.inr rfl) (pd_tup (pda_cons (pd_new (pdn_lst pda_nil)) (pda_cons (pd_int pe_int) pda_nil)))) (pdss_cons (pds_for (passes_of rfl) rfl (pdi_range1 rfl (T.f "range") (pda_cons (pd_op op_add l_I0 (pd_int pe_int) (pd_op op_modN l_I (pd_cb (fun h => pe_callTy call_int1 (by rfl) (T.f "int") (by decide +kernel) h) l_int (pda_cons (pd_ix ix_list l_ixL (pd_var (pv 0)) (pd_int pe_int) (fun _ _ => rfl)) pda_nil)) (pd_int pe_int))) pda_nil)) (pdg_name (pg_name (i := 3) sc_law_statics.nd rfl (by first | exact Or.inl rfl | exact Or.inr rfl))) (pdss_cons (pds_set (i := 4) sc_law_statics.nd rfl (by first | exact Or.inl rfl | exact Or.inr rfl) (pd_call F_law_small (hr.mono (by decide)) (by rfl) (T.g "_law_small") (T.k "_law_small") (takes_of rfl rfl rfl rfl) (pda_cons (pd_ix ix_list l_ixL (pd_var (pv 0)) (pd_op op_add l_I0 (pd_int pe_int) (pd_var (pv 3))) (fun _ _ => rfl)) pda_nil))) (pdss_cons (pds_set (i := 5) sc_law_statics.nd rfl (by first | exact Or.inl rfl | exact Or.inr rfl) (pd_op op_add l_I0 (pd_int pe_int) (pd_op op_modN l_I (pd_cb (fun h => pe_callTy call_int1 (by rfl) (T.f "int") (by decide +kernel) h) l_int (pda_cons (pd_ix ix_list l_ixL (pd_var (pv 0)) (pd_op op_add l_I0 (pd_int pe_int) (pd_var (pv 3))) (fun _ _ => rfl)) pda_nil)) (pd_int pe_int)))) (pdss_cons (pds_app (i := 1) (te := id) (p1 := ⟨0, 0, 0, 0⟩) (p2 := ⟨0, 0, 0, 0⟩) (p3 := ⟨0, 0, 0, 0⟩) (x := "") (fun h => pe_bm PySem.F.plainAttrs_list PySem.F.slot_list_append PySem.F.type_list_append mt_append (pv 1) (pa_cons h pa_nil)) (pd_make (c := 0) (T.mkk "Ratio") F_Ratio_init (fun _ _ => .nil) (hr.mono (by decide)) (by rfl) (T.g "Ratio") (takes_of rfl rfl rfl rfl) (pda_cons (pd_var (pv 4)) (pda_cons (pd_var (pv 5)) pda_nil)))) (pdss_one (pds_set (i := 2) sc_law_statics.nd rfl (by first | exact Or.inl rfl | exact Or.inr rfl) (pd_call F_law_sum (hr.mono (by decide)) (by rfl) (T.g "_law_sum") (T.k "_law_sum") (takes_of rfl rfl rfl rfl) (pda_cons (pd_var (pv 2)) (pda_cons (pd_tup (pda_cons (pd_new (pdn_catA (pd_new (pdn_lc (own := [("at", 6)]) rfl sc_law_statics.nd (pdi_range1 rfl (T.f "range") (pda_cons (pd_var (pv 3)) pda_nil)) (blkOk_by (N := ["draws", "ratios", "own", "k", "top", "bottom", "at", "count", "made"]) (sc := defScope s_law_statics) (by decide +kernel)) (by decide) (fun _ _ _ _ _ => (pdg_name (pg_name (i := 6) sc_law_statics.nd rfl (Or.inl rfl)))) (fun _ _ _ _ _ => pdts_nil) (fun _ _ _ _ _ => pd_int pe_int))) (pd_new (pdn_lst (pda_cons (pd_var (pv 4)) pda_nil))))) (pda_cons (pd_var (pv 5)) pda_nil))) (pda_cons (pd_int pe_int) pda_nil)))))))))) (pdss_cons (pds_set (i := 7) sc_law_statics.nd rfl (by first | exact Or.inl rfl | exact Or.inr rfl) (pd_lenO (fun h => pe_callB call_len (by rfl) (T.f "len") (by decide +kernel) (pa_cons h pa_nil)) (pv 1))) (pdss_cons (pds_set (i := 8) sc_law_statics.nd rfl (by first | exact Or.inl rfl | exact Or.inr rfl) (pd_lend 1 (pd_sm (by rfl) (T.g "Poly") (M.sm "Poly" "of") F_Poly_of (hr.mono (by decide)) (takes_of rfl rfl rfl rfl) (pda_cons (pd_var (pv 1)) pda_nil)))) (pdss_cons (pds_if (pdt_lend 1 (PDW.pt (pdw_or (pdt_cmp op_ne l_ne (pd_cb (fun h => pe_callB call_len (by rfl) (T.f "len") (by decide +kernel) h) l_len (pda_cons (pd_var (pv 1)) pda_nil)) (pd_var (pv 7)) (nomark _)) (pdw_or1 (pdt_not (pdt_val (pd_call F_law_told (hr.mono (by decide)) (by rfl) (T.g "_law_told") (T.k "_law_told") (takes_of rfl rfl rfl rfl) (pda_cons (pd_sm (by rfl) (T.g "Poly") (M.sm "Poly" "of") F_Poly_of (hr.mono (by decide)) (takes_of rfl rfl rfl rfl) (pda_cons (pd_cb (fun h => pe_callTy call_tuple_of (by rfl) (T.f "tuple") (by decide +kernel) h) l_tuple (pda_cons (pd_var (pv 1)) pda_nil)) pda_nil)) (pda_cons (pd_var (pv 2)) pda_nil))))))))) (pdss_one (pds_ret (pd_bl pe_bl))) pdss_nil) (pdss_cons (pds_if (PDW.pt (pdw_or (pdt_not (pdt_val (pd_call F_law_told (hr.mono (by decide)) (by rfl) (T.g "_law_told") (T.k "_law_told") (takes_of rfl rfl rfl rfl) (pda_cons (pd_sm (by rfl) (T.g "Poly") (M.sm "Poly" "of") F_Poly_of (hr.mono (by decide)) (takes_of rfl rfl rfl rfl) (pda_cons (pd_new (pdn_lst pda_nil)) pda_nil)) (pda_cons (pd_tup (pda_cons (pd_new (pdn_lst pda_nil)) (pda_cons (pd_int pe_int) pda_nil))) pda_nil))))) (pdw_or1 (pdt_not (pdt_val (pd_call F_law_told (hr.mono (by decide)) (by rfl) (T.g "_law_told") (T.k "_law_told") (takes_of rfl rfl rfl rfl) (pda_cons (pd_sm (by rfl) (T.g "Poly") (M.sm "Poly" "of") F_Poly_of (hr.mono (by decide)) (takes_of rfl rfl rfl rfl) (pda_cons (pd_tup pda_nil) pda_nil)) (pda_cons (pd_tup (pda_cons (pd_new (pdn_lst pda_nil)) (pda_cons (pd_int pe_int) pda_nil))) pda_nil)))))))) (pdss_one (pds_ret (pd_bl pe_bl))) pdss_nil) (pdss_cons (pds_if (PDW.pt (pdw_or (pdt_not (pdt_val (pd_call F_law_told (hr.mono (by decide)) (by rfl) (T.g "_law_told") (T.k "_law_told") (takes_of rfl rfl rfl rfl) (pda_cons (pd_sm (by rfl) (T.g "Poly") (M.sm "Poly" "constant") F_Poly_constant (hr.mono (by decide)) (takes_of rfl rfl rfl rfl) (pda_cons (pd_ixO ix_list (pv 1) (pd_int pe_int) (fun _ _ => rfl)) pda_nil)) (pda_cons (pd_tup (pda_cons (pd_new (pdn_slL (pd_ix ix_tup l_ixT (pd_var (pv 2)) (pd_int pe_int) (fun _ _ => rfl)) pdo_none (pdo_some (pd_int pe_int)))) (pda_cons (pd_ix ix_tup l_ixT (pd_var (pv 2)) (pd_int pe_int) (fun _ _ => rfl)) pda_nil))) pda_nil))))) (pdw_or1 (pdt_not (pdt_val (pd_call F_law_told (hr.mono (by decide)) (by rfl) (T.g "_law_told") (T.k "_law_told") (takes_of rfl rfl rfl rfl) (pda_cons (pd_sm0 (by rfl) (T.g "Poly") (M.sm "Poly" "x") F_Poly_x (hr.mono (by decide)) (takes_of rfl rfl rfl rfl)) (pda_cons (pd_tup (pda_cons (pd_new (pdn_lst (pda_cons (pd_int pe_int) (pda_cons (pd_int pe_int) pda_nil)))) (pda_cons (pd_int pe_int) pda_nil))) pda_nil)))))))) (pdss_one (pds_ret (pd_bl pe_bl))) pdss_nil) (pdss_cons (pds_if (pdt_cmp op_isnot_bl l_isNB (pd_cmp (op_eqO (T.own "Poly" "__eq__") (T.fnn "Poly" "__eq__") F_Poly_eq.ok (hr.mono (by decide)) F_Poly_eq.bd passL) (l_cmpO (c := 3) M.isi M.cls (by decide) F_Poly_eq.len) (pd_sm (by rfl) (T.g "Poly") (M.sm "Poly" "constant") F_Poly_constant (hr.mono (by decide)) (takes_of rfl rfl rfl rfl) (pda_cons (pd_ixO ix_list (pv 1) (pd_int pe_int) (fun _ _ => rfl)) pda_nil)) (pd_ixO ix_list (pv 1) (pd_int pe_int) (fun _ _ => rfl)) (nomark _)) (pd_bl pe_bl) (nomark _)) (pdss_one (pds_ret (pd_bl pe_bl))) pdss_nil) (pdss_cons (pds_app (i := 1) (te := id) (p1 := ⟨0, 0, 0, 0⟩) (p2 := ⟨0, 0, 0, 0⟩) (p3 := ⟨0, 0, 0, 0⟩) (x := "") (fun h => pe_bm PySem.F.plainAttrs_list PySem.F.slot_list_append PySem.F.type_list_append mt_append (pv 1) (pa_cons h pa_nil)) (pd_make (c := 0) (T.mkk "Ratio") F_Ratio_init_d dd_Ratio (hr.mono (by decide)) (by rfl) (T.g "Ratio") (takes_of rfl rfl rfl rfl) (pda_cons (pd_int pe_int) pda_nil))) (pdss_one (pds_ret (pd_call F_law_told (hr.mono (by decide)) (by rfl) (T.g "_law_told") (T.k "_law_told") (takes_of rfl rfl rfl rfl) (pda_cons (pd_var (pv 8)) (pda_cons (pd_var (pv 2)) pda_nil)))))))))))))), fun ds Q ex h => ?_⟩)
  · obtain ⟨zs, rfl, _⟩ := h
    rfl
  · obtain ⟨zs, rfl, hzl, hz, q⟩ := h
    obtain ⟨d0, m0, _, x0⟩ := at_ex (l := zs) (k := 0) (by decide) (by omega)
    obtain ⟨b0, b1⟩ := hz d0 m0
    have a1 := fmod_lo d0 (j := 5) (by decide)
    have a2 := fmod_hi d0 (j := 5) (by decide)
    walk_at "go"
    refine ⟨fun i env => ∃ (rs : List (Int × Int)) (ws : List Int) (e : Int) (k t b a : Sl), env = [.val (.lst (zs.map D.int)), .own (rD rs), .val (TB ws e), k, t, b, a, .no, .no] ∧ StI i rs ws e, fun _ => ⟨[], [], 1, _, _, _, _, rfl, StI.start⟩, ?_, ?_⟩
    · rintro i x env hx ⟨rs, ws, e, k, t, b, a, rfl, hI⟩
      obtain ⟨hi, rfl⟩ := rng_at hx
      rw [show (0 : Int) + (i : Int) = (i : Int) by omega]
      have hi5 : i < 5 := by omega
      obtain ⟨d1, m1, _, x1⟩ := at_ex (l := zs) (k := 1 + (i : Int)) (by omega) (by omega)
      obtain ⟨d2, m2, _, x2⟩ := at_ex (l := zs) (k := 6 + (i : Int)) (by omega) (by omega)
      obtain ⟨b10, b11⟩ := hz d1 m1
      walk_at "go"
      intro v v0 v1
      obtain ⟨c1, c2, c3⟩ := div12 (fmod_lo d2 (j := 12) (by decide)) (fmod_hi d2 (j := 12) (by decide))
      walk_at "go"
      generalize hd : 1 + d2.fmod 12 = d at *
      clear hd
      have dn : d ≠ 0 := by omega
      have ds : d.natAbs < 2 ^ 5 := by omega
      have hg : (gs [v] d).natAbs < 2 ^ 8999 := Nat.lt_of_le_of_lt (gs_le dn) (abs_up ds (by decide))
      refine fun _ => ⟨hg, ?_⟩
      have hls : (rD rs).length < sizeLine := by rw [List.length_map, hI.len]; exact sz100 (by omega)
      have hrl : (rngD 0 (i : Int).toNat).length < sizeLine := by rw [rng_len]; exact sz100 (by omega)
      walk_at "go"
      refine ⟨fun j z => z = some (.int 0), ?_, ?_⟩
      · rintro j x hx
        walk_at "go"
        exact fun _ => rfl
      intro ys hl2 hy
      rw [rng_len, Int.toNat_natCast] at hl2
      obtain ⟨ms, e', hm, hm2⟩ := lc_map D.int (P := fun i v => v = 0) hl2 (fun i z h => ⟨_, hy i z h, rfl⟩)
      have em : ms = List.replicate i 0 := List.eq_replicate_iff.mpr ⟨hm, fun m h => by
        obtain ⟨i, hi⟩ := List.getElem?_of_mem h
        exact hm2 i m hi⟩
      subst em
      rw [e']
      have ec : (List.replicate i (0 : Int)).map D.int ++ [D.int v] = (List.replicate i 0 ++ [v]).map D.int := by rw [List.map_append]; rfl
      have nx := hI.step (t := v) (by omega) c1 c2 c3 (by omega)
      have zb := hI.szb (by omega)
      have z1 : Bd 4000 ws := zb.bd.up (by decide)
      have z2 : e.natAbs < 2 ^ 4000 := abs_up zb.sb (by decide)
      have z3 : Bd 4000 (List.replicate i 0 ++ [v]) := fun u hu => by
        have : u.natAbs < 2 ^ 6 := by
          rcases List.mem_append.mp hu with m | m
          · rw [(List.mem_replicate.mp m).2]; decide
          · rw [List.mem_singleton.mp m]; omega
        exact abs_up this (by decide)
      have z4 : d.natAbs < 2 ^ 4000 := abs_up ds (by decide)
      have z5 : ws.length ≤ 2000 := by have := hI.hi; omega
      have z6 : (List.replicate i 0 ++ [v]).length ≤ 2000 := by simp; omega
      have el : ((List.replicate i (0 : Int)).map D.int).length + [D.int v].length ≤ sizeLine := by simp only [List.length_map, List.length_replicate, List.length_singleton, sizeLine_eq]; omega
      walk_at "go"
      rw [ec]
      walk_at "go"
      exact fun _ => ⟨_, _, _, _, _, _, _, by rw [show rD rs ++ [R (nT v d) (nB v d)] = rD (rs ++ [(nT v d, nB v d)]) by show _ = List.map _ (rs ++ _); rw [List.map_append]; rfl]; rfl, nx⟩
    · rintro env ⟨rs, ws, e, k, t, b, a, rfl, hI⟩
      rw [rng_len] at hI
      have i5 : (1 + d0.fmod 5).toNat ≤ 5 := by omega
      have i1 : 1 ≤ (1 + d0.fmod 5).toNat := by omega
      generalize (1 + d0.fmod 5).toNat = n at hI i5 i1
      have zb := hI.szb i5
      have z1 : Bd 8900 ws := zb.bd.up (by decide)
      have z2 : e.natAbs < 2 ^ 8900 := abs_up zb.sb (by decide)
      have rok := hI.rok i5
      obtain ⟨p, hp⟩ : ∃ p, rs[0]? = some p := ⟨rs[0]'(by have := hI.len; omega), List.getElem?_eq_getElem _⟩
      have ap : atI (rD rs) 0 = some (R p.1 p.2) := atI_nat (j := 0) (by rw [List.getElem?_map, hp]; rfl)
      obtain ⟨q1, q2, q3, q4⟩ := hI.ok p (List.mem_of_getElem? hp)
      have hs : p.2.natAbs < 2 ^ 8999 := abs_up (show p.2.natAbs < 2 ^ 5 by omega) (by decide)
      have tf := hI.first i5 hp
      have hlen := hI.len
      have rok0 := StI.start.rok (by decide)
      have tx : Told [0, 1] 1 [0, 1] 1 := told_pol x_pol x_pol.sz (by decide) (PEq.refl _ _)
      have g1 : (gs [1] 1).natAbs < 2 ^ 8999 := by decide +kernel
      have hlo := hI.lo
      have ec : cutD (ws.map D.int) none (some 1) = (ws.take 1).map D.int := cut_take D.int ws (m := 1) (by omega) (by decide)
      have hls : (rD rs).length < sizeLine := by rw [List.length_map, hI.len]; exact sz100 (by omega)
      walk_at "go"
      refine ⟨_, rs, rfl, .inl rfl, rok, fun m m0 m1 m2 => ?_⟩
      have tm := hI.of i5 m0 m1 m2
      refine ⟨.vec, ?_⟩
      walk_at "go"
      rw [ndr rfl]
      walk_at "go"
      refine ⟨_, rs, rfl, .inr rfl, rok, fun n m0 m1 m2 => ?_⟩
      have tn := hI.of i5 m0 m1 m2
      walk_at "go"
      refine ⟨_, [], rfl, .inl rfl, rok0, fun n m0 m1 m2 => ?_⟩
      have t0 := StI.start.of (by decide) m0 m1 m2
      walk_at "go"
      refine ⟨_, _, [], 1, rfl, t0, ?_⟩
      walk_at "go"
      refine ⟨_, [], rfl, .inr rfl, rok0, fun n m0 m1 m2 => ?_⟩
      have t1 := StI.start.of (by decide) m0 m1 m2
      walk_at "go"
      refine ⟨_, _, [], 1, rfl, t1, ?_⟩
      walk_at "go"
      rw [ec]
      walk_at "go"
      refine ⟨_, _, [0, 1], 1, rfl, tx, ?_⟩
      walk_at "go"
      refine .inr ⟨rfl, ?_⟩
      walk_at "go"
      refine fun _ => ⟨g1, ?_⟩
      walk_at "go"
      exact q
end
end K08

namespace K08
open PySem PySem.Spec PyProof.Rows L2 LR DL
section
variable {P : Program} {w : World} {K : PySem.W.Frag} {mg : Str → Option Value} {base : Heap}
local macro_rules | `(tactic| walk_at "side") => `(tactic| first | with_reducible assumption | exact Bsame.mk (by with_reducible rfl) | omega | rfl | assumption | exact ⟨_, rfl⟩ | exact mulL (by omega) (by omega) | exact mulR (by omega) (by omega) | exact mulF (by decide) (by decide) | exact ⟨by decide, by decide +kernel⟩ | decide | exact Nat.le_of_ble_eq_true rfl | (simp only [List.length_cons, List.length_nil, List.length_map, List.nil_append, List.cons_append, sizeLine_eq]; omega) | (simp only [List.map_cons, List.map_nil, List.nil_append, List.cons_append]; decide +kernel))
local macro_rules | `(tactic| walk_at "go") => `(tactic| repeat (first
  | refine ⟨_, rfl, ?_⟩
  | refine ⟨_, _, rfl, rfl, ?_⟩
  | refine ⟨_, _, rfl, ?_⟩
  | refine ⟨_, _, _, rfl, rfl, ?_⟩
  | refine ⟨_, _, _, rfl, ?_⟩
  | refine ⟨_, _, _, _, rfl, rfl, ?_⟩
  | refine ⟨_, _, _, _, rfl, ?_⟩
  | refine ⟨_, _, _, _, _, rfl, ?_⟩
  | refine ⟨_, _, rfl, by assumption, ?_⟩
  | refine ⟨_, _, _, rfl, rfl, rfl, ?_⟩
  | refine ⟨_, _, _, rfl, rfl, by assumption, ?_⟩
  | refine ⟨_, _, _, rfl, rfl, by walk_at "side", by assumption, ?_⟩
  | refine ⟨_, _, _, rfl, rfl, by walk_at "side", rfl, ?_⟩
  | refine ⟨_, _, _, rfl, rfl, rfl, by assumption, ?_⟩
  | refine .inl ⟨_, rfl, ?_⟩
  | refine .inr ⟨_, rfl, ?_⟩
  | refine .inr (.inl ⟨_, rfl, ?_⟩)
  | refine .inr (.inr ⟨_, rfl, ?_⟩)
  | refine ⟨_, .inl rfl, ?_⟩
  | refine ⟨_, .inr rfl, ?_⟩
  | refine .inr ⟨_, _, rfl, ?_⟩
  | refine .inl ⟨_, _, rfl, ?_⟩
  | refine And.intro (by walk_at "side") ?_))


/-- the numbers that are drawn: eleven at most and zeros behind them -/
structure Drn (ts : List Int) (b : Int) : Prop where
  len : ts.length ≤ 13
  bd : Bd 10 ts
  up : ∀ k, 11 ≤ k → cf ts k = 0
  ne : b ≠ 0
  sb : b.natAbs < 2 ^ 10
def P_law_drawn : Prm := fun ds Q _ => ∃ (zs : List Int), ds = [.lst (zs.map D.int)] ∧ zs.length = 15 ∧ (∀ z ∈ zs, 0 ≤ z ∧ z < 1024) ∧ ∀ ts b, Drn ts b → Q (TB ts b)
def P_law_great : Prm := fun ds Q _ => ∃ (ns : List Int) (k n : Int), ds = [.lst (ns.map D.int), .int k, .int n] ∧ ns.length ≤ 63 ∧ 0 ≤ k ∧ k ≤ 100 ∧ 1 ≤ n ∧ n ≤ 5 ∧ ∀ ts b, ts.length ≤ 5 → Bd 67 ts → b ≠ 0 → b.natAbs < 2 ^ 67 → Q (TB ts b)
theorem cut_mid {zs : List Int} {n : Nat} (h : 4 + n ≤ zs.length) : DL.cutD (zs.map D.int) (some 4) (some (4 + (n : Int))) = ((zs.drop 4).take n).map D.int := by
  unfold DL.cutD
  rw [show (4 : Int) + (n : Int) = ((4 + n : Nat) : Int) by push_cast; rfl, show (some (4 : Int)) = some ((4 : Nat) : Int) from rfl, HT.sIx_nat, HT.sIx_nat, List.length_map, Nat.min_eq_left (show 4 ≤ zs.length by omega), Nat.min_eq_left h, List.map_take, List.map_drop]
  congr 1
  omega
theorem drn_of {us : List Int} {b : Int} {m : Nat} (hu : us.length ≤ 11) (hm : m ≤ 2) (hb : Bd 10 us) (h0 : b ≠ 0) (h1 : b.natAbs < 2 ^ 10) : Drn (us ++ List.replicate m 0) b := by
  refine ⟨by rw [List.length_append, List.length_replicate]; omega, fun t ht => ?_, fun k hk => ?_, h0, h1⟩
  · rcases List.mem_append.mp ht with m | m
    · exact hb t m
    · rw [(List.mem_replicate.mp m).2]; decide
  · show (us ++ List.replicate m 0).getD k 0 = 0
    rw [List.getD_eq_getElem?_getD, List.getElem?_append_right (by omega)]
    cases e : (List.replicate m (0 : Int))[k - us.length]? with
    | none => rfl
    | some z =>
      have := List.mem_of_getElem? e
      rw [(List.mem_replicate.mp this).2]
      rfl

theorem fn_law_drawn (T : Txt LL K mg) (M : Mo3 cs sms cis mxs exs K mg) : Nonempty (Fn P w K mg base (d_law_drawn.at_ K) 2 1 P_law_drawn) := by
  obtain ⟨F_law_small⟩ := fn_law_small (P := P) (w := w) (base := base) T M
  refine Fn.of (T.d 46 (d := d_law_drawn)) sc_law_drawn rfl (fun _ _ _ _ _ _ us hl => match us, hl with | [_], _ => rfl) (fun ds Q ex h => ?_) (fun fd cdv A outer s H E hr => ⟨_, pdss_cons (pds_set (i := 1) sc_law_drawn.nd rfl (by first | exact Or.inl rfl | exact Or.inr rfl) (pd_op op_modN l_I (pd_cb (fun h => pe_callTy call_int1 (by rfl) (T.f "int") (by decide +kernel) h) l_int (pda_cons (pd_ix ix_list l_ixL (pd_var (pv 0)) (pd_int pe_int) (fun _ _ => rfl)) pda_nil)) (pd_int pe_int))) (pdss_cut (pds_if (pdt_cmp op_eq l_eq (pd_op op_modN l_I (pd_cb (fun h => pe_callTy call_int1 (by rfl) (T.f "int") (by decide +kernel) h) l_int (pda_cons (pd_ix ix_list l_ixL (pd_var (pv 0)) (pd_int pe_int) (fun _ _ => rfl)) pda_nil)) (pd_int pe_int)) (pd_int pe_int) (nomark _)) (pdss_one (pds_set (i := 1) sc_law_drawn.nd rfl (by first | exact Or.inl rfl | exact Or.inr rfl) (pd_op op_add l_I0 (pd_int pe_int) (pd_op op_modN l_I (pd_cb (fun h => pe_callTy call_int1 (by rfl) (T.f "int") (by decide +kernel) h) l_int (pda_cons (pd_op op_fdivZ l_I (pd_ix ix_list l_ixL (pd_var (pv 0)) (pd_int pe_int) (fun _ _ => rfl)) (pd_int pe_int)) pda_nil)) (pd_int pe_int))))) pdss_nil) (pdss_cons (pds_set (i := 2) sc_law_drawn.nd rfl (by first | exact Or.inl rfl | exact Or.inr rfl) (pd_ix ix_list l_ixL (pd_new (pdn_lst (pda_cons (pd_int pe_int) (pda_cons (pd_int pe_int) (pda_cons (pd_int pe_int) (pda_cons (pd_int pe_int) (pda_cons (pd_int pe_int) (pda_cons (pd_int pe_int) (pda_cons (pd_int pe_int) (pda_cons (pd_int pe_int) pda_nil)))))))))) (pd_op op_modN l_I (pd_cb (fun h => pe_callTy call_int1 (by rfl) (T.f "int") (by decide +kernel) h) l_int (pda_cons (pd_ix ix_list l_ixL (pd_var (pv 0)) (pd_int pe_int) (fun _ _ => rfl)) pda_nil)) (pd_int pe_int)) (fun _ _ => rfl))) (pdss_cons (pds_set (i := 3) sc_law_drawn.nd rfl (by first | exact Or.inl rfl | exact Or.inr rfl) (pd_op op_mulZ l_I (pd_ix ix_list l_ixL (pd_new (pdn_lst (pda_cons (pd_int pe_int) (pda_cons (pd_int pe_int) (pda_cons (pd_int pe_int) (pda_cons (pd_int pe_int) (pda_cons (pd_int pe_int) (pda_cons (pd_int pe_int) (pda_cons (pd_int pe_int) (pda_cons (pd_int pe_int) pda_nil)))))))))) (pd_op op_modN l_I (pd_cb (fun h => pe_callTy call_int1 (by rfl) (T.f "int") (by decide +kernel) h) l_int (pda_cons (pd_ix ix_list l_ixL (pd_var (pv 0)) (pd_int pe_int) (fun _ _ => rfl)) pda_nil)) (pd_int pe_int)) (fun _ _ => rfl)) (pd_var (pv 2)))) (pdss_cut (pds_if (pdt_cmp op_eq l_eq (pd_op op_modN l_I (pd_cb (fun h => pe_callTy call_int1 (by rfl) (T.f "int") (by decide +kernel) h) l_int (pda_cons (pd_op op_fdivZ l_I (pd_ix ix_list l_ixL (pd_var (pv 0)) (pd_int pe_int) (fun _ _ => rfl)) (pd_int pe_int)) pda_nil)) (pd_int pe_int)) (pd_int pe_int) (nomark _)) (pdss_one (pds_set (i := 3) sc_law_drawn.nd rfl (by first | exact Or.inl rfl | exact Or.inr rfl) (pd_un un_neg l_U (pd_var (pv 3))))) pdss_nil) (pdss_cons (pds_lcV (i := 4) (own := [("d", 5)]) rfl sc_law_drawn.nd rfl rfl (sw_true rfl rfl rfl (by decide +kernel)) (pdi_list (pd_new (pdn_slL (pd_var (pv 0)) (pdo_some (pd_int pe_int)) (pdo_some (pd_op op_add l_I0 (pd_int pe_int) (pd_var (pv 1))))))) (blkOk_by (N := ["draws", "count", "factor", "bottom", "tops", "d", "k"]) (sc := defScope s_law_drawn) (by decide +kernel)) (by decide) (fun _ _ _ _ _ => (pdg_name (pg_name (i := 5) sc_law_drawn.nd rfl (Or.inl rfl)))) (fun _ _ _ _ _ => pdts_nil) (fun _ _ _ _ _ => pd_op op_mulZ l_I (pd_call F_law_small (hr.mono (by decide)) (by rfl) (T.g "_law_small") (T.k "_law_small") takes0 (pda_cons (pd_var (pv 5)) pda_nil)) (pd_var (pv 2)))) (pdss_one (pds_ret (pd_tup (pda_cons (pd_new (pdn_catA (pd_var (pv 4)) (pd_new (pdn_lc (own := [("k", 6)]) rfl sc_law_drawn.nd (pdi_range1 rfl (T.f "range") (pda_cons (pd_op op_modN l_I (pd_cb (fun h => pe_callTy call_int1 (by rfl) (T.f "int") (by decide +kernel) h) l_int (pda_cons (pd_ix ix_list l_ixL (pd_var (pv 0)) (pd_int pe_int) (fun _ _ => rfl)) pda_nil)) (pd_int pe_int)) pda_nil)) (blkOk_by (N := ["draws", "count", "factor", "bottom", "tops", "d", "k"]) (sc := defScope s_law_drawn) (by decide +kernel)) (by decide) (fun _ _ _ _ _ => (pdg_name (pg_name (i := 6) sc_law_drawn.nd rfl (Or.inl rfl)))) (fun _ _ _ _ _ => pdts_nil) (fun _ _ _ _ _ => pd_int pe_int))))) (pda_cons (pd_var (pv 3)) pda_nil)))))))))), fun ds Q ex h => ?_⟩)
  · obtain ⟨zs, rfl, _⟩ := h
    rfl
  · obtain ⟨zs, rfl, hzl, hz, q⟩ := h
    obtain ⟨d0, m0, _, x0⟩ := at_ex (l := zs) (k := 0) (by decide) (by omega)
    obtain ⟨d1, m1, _, x1⟩ := at_ex (l := zs) (k := 1) (by decide) (by omega)
    obtain ⟨d2, m2, _, x2⟩ := at_ex (l := zs) (k := 2) (by decide) (by omega)
    obtain ⟨d3, m3, _, x3⟩ := at_ex (l := zs) (k := 3) (by decide) (by omega)
    obtain ⟨f, hf, f0, f1⟩ := pick_int (ys := [1, 1, 1, 2, 3, 6, 10, 12]) (n := 8) (lo := 1) (hi := 12) (k := d3.fmod 8) rfl (by decide) (fmod_lo _ (by decide)) (fmod_hi _ (by decide))
    obtain ⟨g, hg, g0, g1⟩ := pick_int (ys := [1, 1, 2, 3, 6, 5, 64, 7]) (n := 8) (lo := 1) (hi := 64) (k := d2.fmod 8) rfl (by decide) (fmod_lo _ (by decide)) (fmod_hi _ (by decide))
    walk_at "go"
    refine ⟨fun env => ∃ n : Nat, env = [.val (.lst (zs.map D.int)), .val (.int (n : Int)), .no, .no, .no, .no, .no] ∧ n ≤ 11, ?_, ?_⟩
    · have a1 := fmod_lo d0 (j := 6) (by decide)
      have a2 := fmod_hi d0 (j := 6) (by decide)
      have a3 := fmod_lo (d0.fdiv 8) (j := 6) (by decide)
      have a4 := fmod_hi (d0.fdiv 8) (j := 6) (by decide)
      walk_at "go"
      refine d_ite (fun c => ?_) (fun c => ?_)
      · walk_at "go"
        exact fun _ => ⟨(6 + (d0.fdiv 8).fmod 6).toNat, by rw [Int.toNat_of_nonneg (by omega)]; rfl, by omega⟩
      · walk_at "go"
        exact fun _ => ⟨(d0.fmod 6).toNat, by rw [Int.toNat_of_nonneg (by omega)]; rfl, by omega⟩
    rintro env ⟨n, rfl, hn⟩
    have gb : (g * f).natAbs < 2 ^ 10 := by
      rw [Int.natAbs_mul]
      exact Nat.lt_of_le_of_lt (Nat.mul_le_mul (show g.natAbs ≤ 64 by omega) (show f.natAbs ≤ 12 by omega)) (by decide)
    have gn : g * f ≠ 0 := Int.mul_ne_zero (by omega) (by omega)
    have mgf : IntMulOk g f := mulL (by omega) (by omega)
    walk_at "go"
    refine ⟨fun env => ∃ b : Int, env = [.val (.lst (zs.map D.int)), .val (.int (n : Int)), .val (.int f), .val (.int b), .no, .no, .no] ∧ b ≠ 0 ∧ b.natAbs < 2 ^ 10, ?_, ?_⟩
    · generalize g * f = h at *
      walk_at "go"
      refine d_ite (fun c => ?_) (fun c => ?_)
      · walk_at "go"
        exact fun _ => ⟨_, rfl, by omega, by omega⟩
      · walk_at "go"
        exact fun _ => ⟨_, rfl, gn, gb⟩
    rintro env ⟨b, rfl, b0, b1⟩
    clear gb gn
    have ec := cut_mid (zs := zs) (n := n) (by omega)
    have hcl : (DL.cutD (zs.map D.int) (some 4) (some (4 + (n : Int)))).length < sizeLine := by rw [ec, List.length_map]; exact sz100 (by rw [List.length_take, List.length_drop]; omega)
    walk_at "go"
    rw [ec]
    refine ⟨fun i z => ∃ u : Int, z = some (.int u) ∧ u.natAbs < 2 ^ 10, ?_, ?_⟩
    · rintro i x hx
      obtain ⟨z, hz2, rfl⟩ := map_at hx
      obtain ⟨z0, z1⟩ := hz z (List.mem_of_mem_drop (List.mem_of_mem_take (List.mem_of_getElem? hz2)))
      walk_at "go"
      intro v v0 v1
      have mv : IntMulOk v f := mulL (by omega) (by omega)
      have bv : (v * f).natAbs < 2 ^ 10 := by
        rw [Int.natAbs_mul]
        exact Nat.lt_of_le_of_lt (Nat.mul_le_mul (show v.natAbs ≤ 32 by omega) (show f.natAbs ≤ 12 by omega)) (by decide)
      walk_at "go"
      exact fun _ => ⟨_, rfl, bv⟩
    intro ys hl2 hy
    obtain ⟨us, e, hm, hm2⟩ := lc_map D.int (P := fun i v => v.natAbs < 2 ^ 10) hl2 (fun i z h => by
      obtain ⟨u, h1, h2⟩ := hy i z h
      exact ⟨u, h1, h2⟩)
    rw [List.length_map, List.length_take, List.length_drop] at hm
    rw [e]
    clear e hl2 hy
    have a1 := fmod_lo d1 (j := 3) (by decide)
    have a2 := fmod_hi d1 (j := 3) (by decide)
    have hrl : (rngD 0 (d1.fmod 3).toNat).length < sizeLine := by rw [rng_len]; exact sz100 (by omega)
    walk_at "go"
    refine ⟨fun i z => z = some (.int 0), ?_, ?_⟩
    · rintro i x hx
      walk_at "go"
      exact fun _ => rfl
    intro ys hl2 hy
    rw [rng_len] at hl2
    obtain ⟨ms, e', hm', hm2'⟩ := lc_map D.int (P := fun i v => v = 0) hl2 (fun i z h => ⟨_, hy i z h, rfl⟩)
    have em : ms = List.replicate (d1.fmod 3).toNat 0 := List.eq_replicate_iff.mpr ⟨hm', fun m h => by
      obtain ⟨i, hi⟩ := List.getElem?_of_mem h
      exact hm2' i m hi⟩
    subst em
    rw [e']
    have el : (us.map D.int).length + ((List.replicate (d1.fmod 3).toNat (0 : Int)).map D.int).length ≤ sizeLine := by simp only [List.length_map, List.length_replicate, sizeLine_eq]; omega
    walk_at "go"
    rw [← List.map_append]
    refine q _ b (drn_of (by omega) (by omega) (fun t ht => ?_) b0 b1)
    obtain ⟨i, hi⟩ := List.getElem?_of_mem ht
    exact hm2 i t hi

theorem fn_law_great (T : Txt LL K mg) (M : Mo3 cs sms cis mxs exs K mg) : Nonempty (Fn P w K mg base (d_law_great.at_ K) 2 3 P_law_great) := by
  obtain ⟨F_law_cell⟩ := fn_law_cell (P := P) (w := w) (base := base) T M
  refine Fn.of (T.d 47 (d := d_law_great)) sc_law_great rfl (fun _ _ _ _ _ _ us hl => match us, hl with | [_, _, _], _ => rfl) (fun ds Q ex h => ?_) (fun fd cdv A outer s H E hr => ⟨_, pdss_cons (pds_lcV (i := 3) (own := [("at", 4)]) rfl sc_law_great.nd rfl rfl (sw_true rfl rfl rfl (by decide +kernel)) (pdi_range1 rfl (T.f "range") (pda_cons (pd_var (pv 2)) pda_nil)) (blkOk_by (N := ["script", "k", "count", "tops", "at"]) (sc := defScope s_law_great) (by decide +kernel)) (by decide) (fun _ _ _ _ _ => (pdg_name (pg_name (i := 4) sc_law_great.nd rfl (Or.inl rfl)))) (fun _ _ _ _ _ => pdts_nil) (fun _ _ _ _ _ => pd_op op_add l_I0 (pd_op op_sub l_I0 (pd_op op_modN l_I (pd_cb (fun h => pe_callTy call_int1 (by rfl) (T.f "int") (by decide +kernel) h) l_int (pda_cons (pd_call F_law_cell (hr.mono (by decide)) (by rfl) (T.g "_law_cell") (T.k "_law_cell") takes0 (pda_cons (pd_var (pv 0)) (pda_cons (pd_op op_add l_I0 (pd_var (pv 1)) (pd_var (pv 4))) pda_nil))) pda_nil)) (pd_op op_sub l_I0 (pd_op op_mulZ l_I (pd_int pe_int) (pd_op op_powZ l_I (pd_int pe_int) (pd_int pe_int))) (pd_int pe_int))) (pd_op op_powZ l_I (pd_int pe_int) (pd_int pe_int))) (pd_int pe_int))) (pdss_one (pds_ret (pd_tup (pda_cons (pd_var (pv 3)) (pda_cons (pd_op op_add l_I0 (pd_int pe_int) (pd_op op_modN l_I (pd_cb (fun h => pe_callTy call_int1 (by rfl) (T.f "int") (by decide +kernel) h) l_int (pda_cons (pd_call F_law_cell (hr.mono (by decide)) (by rfl) (T.g "_law_cell") (T.k "_law_cell") (takes_of rfl rfl rfl rfl) (pda_cons (pd_var (pv 0)) (pda_cons (pd_op op_add l_I0 (pd_var (pv 1)) (pd_var (pv 2))) pda_nil))) pda_nil)) (pd_op op_sub l_I0 (pd_op op_powZ l_I (pd_int pe_int) (pd_int pe_int)) (pd_int pe_int)))) pda_nil))))), fun ds Q ex h => ?_⟩)
  · obtain ⟨ns, k, n, rfl, _⟩ := h
    rfl
  · obtain ⟨ns, k, n, rfl, hl, k0, k1, n0, n1, q⟩ := h
    have hrl : (rngD 0 n.toNat).length < sizeLine := by rw [rng_len]; exact sz100 (by omega)
    have e20 : (fun (i j : Int) => i ^ j.toNat) (10 : Int) (20 : Int) = 10 ^ 20 := rfl
    have big : (10 : Int) ^ 20 = 100000000000000000000 := by decide +kernel
    have w67 : (2 : Nat) ^ 67 = 147573952589676412928 := by decide +kernel
    walk_at "go"
    refine ⟨fun i z => ∃ u : Int, z = some (.int u) ∧ u.natAbs < 2 ^ 67, ?_, ?_⟩
    · rintro i x hx
      obtain ⟨hi, rfl⟩ := rng_at hx
      walk_at "go"
      intro v v0
      walk_at "go"
      refine fun _ => ⟨_, rfl, ?_⟩
      show (v.fmod (2 * 10 ^ 20 - 1) - 10 ^ 20 + 1).natAbs < 2 ^ 67
      have a1 := fmod_lo v (j := 2 * 10 ^ 20 - 1) (by decide +kernel)
      have a2 := fmod_hi v (j := 2 * 10 ^ 20 - 1) (by decide +kernel)
      rw [big] at a1 a2 ⊢
      rw [w67]
      omega
    intro ys hl2 hy
    rw [rng_len] at hl2
    obtain ⟨us, e, hm, hm2⟩ := lc_map D.int (P := fun i v => v.natAbs < 2 ^ 67) hl2 (fun i z h => by
      obtain ⟨u, h1, h2⟩ := hy i z h
      exact ⟨u, h1, h2⟩)
    rw [e]
    walk_at "go"
    intro v v0
    walk_at "go"
    have a1 := fmod_lo v (j := 10 ^ 20 - 1) (by decide +kernel)
    have a2 := fmod_hi v (j := 10 ^ 20 - 1) (by decide +kernel)
    have hb : (1 + v.fmod (10 ^ 20 - 1)).natAbs < 2 ^ 67 := by
      rw [big] at a1 a2 ⊢
      rw [w67]
      omega
    exact q us (1 + v.fmod (10 ^ 20 - 1)) (by omega) (fun t ht => by
      obtain ⟨i, hi⟩ := List.getElem?_of_mem ht
      exact hm2 i t hi) (by omega) hb
end
end K08

namespace K08
open PySem PySem.Spec PyProof.Rows L2 LR DL
section
variable {P : Program} {w : World} {K : PySem.W.Frag} {mg : Str → Option Value} {base : Heap}
local macro_rules | `(tactic| walk_at "side") => `(tactic| first | with_reducible assumption | exact Bsame.mk (by with_reducible rfl) | omega | rfl | assumption | exact ⟨_, rfl⟩ | exact mulL (by omega) (by omega) | exact mulR (by omega) (by omega) | exact mulF (by decide) (by decide) | exact ⟨by decide, by decide +kernel⟩ | decide | exact Nat.le_of_ble_eq_true rfl | (simp only [List.length_cons, List.length_nil, List.length_map, List.nil_append, List.cons_append, sizeLine_eq]; omega) | (simp only [List.map_cons, List.map_nil, List.nil_append, List.cons_append]; decide +kernel))
local macro_rules | `(tactic| walk_at "go") => `(tactic| repeat (first
  | refine ⟨_, rfl, ?_⟩
  | refine ⟨_, _, rfl, rfl, ?_⟩
  | refine ⟨_, _, rfl, ?_⟩
  | refine ⟨_, _, _, rfl, rfl, ?_⟩
  | refine ⟨_, _, _, rfl, ?_⟩
  | refine ⟨_, _, _, _, rfl, rfl, ?_⟩
  | refine ⟨_, _, _, _, rfl, ?_⟩
  | refine ⟨_, _, _, _, _, rfl, ?_⟩
  | refine ⟨_, _, rfl, by assumption, ?_⟩
  | refine ⟨_, _, _, rfl, rfl, rfl, ?_⟩
  | refine ⟨_, _, _, rfl, rfl, by assumption, ?_⟩
  | refine ⟨_, _, _, rfl, rfl, by walk_at "side", by assumption, ?_⟩
  | refine ⟨_, _, _, rfl, rfl, by walk_at "side", rfl, ?_⟩
  | refine ⟨_, _, _, rfl, rfl, rfl, by assumption, ?_⟩
  | refine .inl ⟨_, rfl, ?_⟩
  | refine .inr ⟨_, rfl, ?_⟩
  | refine .inr (.inl ⟨_, rfl, ?_⟩)
  | refine .inr (.inr ⟨_, rfl, ?_⟩)
  | refine ⟨_, .inl rfl, ?_⟩
  | refine ⟨_, .inr rfl, ?_⟩
  | refine .inr ⟨_, _, rfl, ?_⟩
  | refine .inl ⟨_, _, rfl, ?_⟩
  | refine And.intro (by walk_at "side") ?_))


structure Fst (ts : List Int) (b : Int) : Prop where
  len : ts.length ≤ 26
  bd : Bd 70 ts
  up : ∀ k, 24 ≤ k → cf ts k = 0
  ne : b ≠ 0
  sb : b.natAbs < 2 ^ 70
theorem Drn.fst {ts : List Int} {b : Int} (h : Drn ts b) : Fst ts b := ⟨by have := h.len; omega, h.bd.up (by decide), fun k hk => h.up k (by omega), h.ne, abs_up h.sb (by decide)⟩
theorem Drn.mul {ts us : List Int} {b c : Int} (h : Drn ts b) (g : Drn us c) : Fst (prodL ts us) (b * c) :=
  ⟨by rw [prodL_len]; have := h.len; have := g.len; omega, (prodL_bd h.bd g.bd (by have := h.len; omega) (by have := g.len; omega)).up (by decide),
    fun k hk => by rw [cf_prodL]; exact cv_sup k 11 11 _ _ h.up g.up (by omega), Int.mul_ne_zero h.ne g.ne, abs_up (abs_mul_lt h.sb g.sb) (by decide)⟩
theorem Fst.great {ts : List Int} {b : Int} (l : ts.length ≤ 5) (h : Bd 67 ts) (b0 : b ≠ 0) (b1 : b.natAbs < 2 ^ 67) : Fst ts b :=
  ⟨by omega, h.up (by decide), fun k hk => cf_ge (by omega), b0, abs_up b1 (by decide)⟩
theorem short {ts : List Int} {n : Nat} (b : Int) (h : ∀ k, n ≤ k → cf ts k = 0) : (pT ts b).length ≤ n := by
  unfold pT
  rw [low_len]
  cases e : (trim ts).length with
  | zero => exact Nat.zero_le _
  | succ m =>
    have := trim_last ts m e
    rw [trim_cf] at this
    exact Nat.lt_of_not_le fun z => this (h m z)
theorem Fst.pol {ts : List Int} {b : Int} (h : Fst ts b) : Pol 70 (pT ts b) (pB ts b) := pol_of h.ne (by have := h.len; omega) h.bd h.sb
theorem pzero {ts : List Int} {b : Int} (hb : b ≠ 0) (h : ∀ k, cf ts k = 0) : pT ts b = [] ∧ pB ts b = 1 := by
  obtain ⟨h1, h2⟩ := poly_cross (ts := ts) (us := []) (b := b) (c := 1) hb (by decide) fun k => by rw [h, cf_nil, Int.mul_zero, Int.mul_zero]
  exact ⟨h1.trans (by decide +kernel), h2.trans (by decide +kernel)⟩
theorem zero_pol : Pol 70 [] 1 := Pol.up (n := 1) ⟨by decide, by decide, by decide +kernel, by decide +kernel, fun t ht => by simp at ht, by decide⟩ (by decide)
theorem self_zero (us : List Int) (c : Int) (k : Nat) : cf (addP us c (negT us) c) k = 0 := by
  rw [cf_addP, cf_negT]
  show cf us k * c + -cf us k * c = 0
  rw [Int.neg_mul]
  omega
theorem cf_zeros (m k : Nat) : cf (List.replicate m 0) k = 0 := by
  show (List.replicate m (0 : Int)).getD k 0 = 0
  rw [List.getD_eq_getElem?_getD]
  cases e : (List.replicate m (0 : Int))[k]? with
  | none => rfl
  | some z => rw [(List.mem_replicate.mp (List.mem_of_getElem? e)).2]; rfl
theorem drn_zeros {m : Nat} {b : Int} (hm : m ≤ 2) (h0 : b ≠ 0) (h1 : b.natAbs < 2 ^ 10) : Drn (List.replicate m 0) b := drn_of (us := []) (by decide) hm (fun t ht => by simp at ht) h0 h1
theorem drn_one {v b : Int} (hv : v.natAbs < 2 ^ 10) (h0 : b ≠ 0) (h1 : b.natAbs < 2 ^ 10) : Drn [v] b := drn_of (us := [v]) (m := 0) (by rw [List.length_singleton]; decide) (by decide) (fun t ht => by rw [List.mem_singleton.mp ht]; exact hv) h0 h1

theorem law_ok (T : Txt LL K mg) (M : Mo3 cs sms cis mxs exs K mg) : ∃ fd : FuncData, (∀ (s : Shared) (v : Value), BindsTo s fd ⟨[v], []⟩ [("script", v)]) ∧ ∀ base : Heap, FnOk P w K mg base CX0 14 (d_law.at_ K) fd ["script"] (spLaw K) := by
  refine law_of (T.d 60 (d := d_law)) sc_law rfl (fun _ _ _ _ _ _ us hl => match us, hl with | [_], _ => rfl) (fun base fd cdv A outer s H E hr => ?_)
  obtain ⟨F_law_draws⟩ := fn_law_draws (P := P) (w := w) (base := base) T M
  obtain ⟨F_law_drawn⟩ := fn_law_drawn (P := P) (w := w) (base := base) T M
  obtain ⟨F_law_product⟩ := fn_law_product (P := P) (w := w) (base := base) T M
  obtain ⟨F_law_great⟩ := fn_law_great (P := P) (w := w) (base := base) T M
  obtain ⟨F_law_trim⟩ := fn_law_trim (P := P) (w := w) (base := base) T M
  obtain ⟨F_law_made⟩ := fn_law_made (P := P) (w := w) (base := base) T M
  obtain ⟨F_law_equalities⟩ := fn_law_equalities (P := P) (w := w) (base := base) T M
  obtain ⟨F_law_fields⟩ := fn_law_fields (P := P) (w := w) (base := base) T M
  obtain ⟨F_law_small⟩ := fn_law_small (P := P) (w := w) (base := base) T M
  obtain ⟨F_law_multiples⟩ := fn_law_multiples (P := P) (w := w) (base := base) T M
  obtain ⟨F_law_ring_kept⟩ := fn_law_ring_kept (P := P) (w := w) (base := base) T M
  obtain ⟨F_law_division⟩ := fn_law_division (P := P) (w := w) (base := base) T M
  obtain ⟨⟨F_Poly_init⟩, ⟨F_Poly_init_d⟩⟩ := fn_Poly_init (P := P) (w := w) (base := base) T M
  obtain ⟨F_Poly_sub⟩ := fn_Poly_sub (P := P) (w := w) (base := base) T M
  obtain ⟨F_law_no_bottom⟩ := fn_law_no_bottom (P := P) (w := w) (base := base) T M
  obtain ⟨F_law_barred⟩ := fn_law_barred (P := P) (w := w) (base := base) T M
  obtain ⟨F_law_statics⟩ := fn_law_statics (P := P) (w := w) (base := base) T M
  obtain ⟨F_law_told⟩ := fn_law_told (P := P) (w := w) (base := base) T M
  obtain ⟨F_Poly_mul⟩ := fn_Poly_mul (P := P) (w := w) (base := base) T M
  refine ⟨_, pdss_cons (pds_set (i := 1) sc_law.nd rfl (by first | exact Or.inl rfl | exact Or.inr rfl) (pd_call F_law_draws (hr.mono (by decide)) (by rfl) (T.g "_law_draws") (T.k "_law_draws") takes0 (pda_cons (pd_var (pv 0)) (pda_cons (pd_int pe_int) (pda_cons (pd_int pe_int) pda_nil))))) (pdss_cons (pds_set (i := 2) sc_law.nd rfl (by first | exact Or.inl rfl | exact Or.inr rfl) (pd_op op_modN l_I (pd_cb (fun h => pe_callTy call_int1 (by rfl) (T.f "int") (by decide +kernel) h) l_int (pda_cons (pd_ix ix_list l_ixL (pd_var (pv 1)) (pd_int pe_int) (fun _ _ => rfl)) pda_nil)) (pd_int pe_int))) (pdss_cons (pds_set (i := 3) sc_law.nd rfl (by first | exact Or.inl rfl | exact Or.inr rfl) (pd_call F_law_drawn (hr.mono (by decide)) (by rfl) (T.g "_law_drawn") (T.k "_law_drawn") takes0 (pda_cons (pd_call F_law_draws (hr.mono (by decide)) (by rfl) (T.g "_law_draws") (T.k "_law_draws") takes0 (pda_cons (pd_var (pv 0)) (pda_cons (pd_int pe_int) (pda_cons (pd_int pe_int) pda_nil)))) pda_nil))) (pdss_cut (pds_if (pdt_cmp op_eq l_eq (pd_var (pv 2)) (pd_int pe_int) (nomark _)) (pdss_one (pds_set (i := 3) sc_law.nd rfl (by first | exact Or.inl rfl | exact Or.inr rfl) (pd_tup (pda_cons (pd_new (pdn_lc (own := [("k", 4)]) rfl sc_law.nd (pdi_range1 rfl (T.f "range") (pda_cons (pd_op op_modN l_I (pd_cb (fun h => pe_callTy call_int1 (by rfl) (T.f "int") (by decide +kernel) h) l_int (pda_cons (pd_ix ix_list l_ixL (pd_var (pv 1)) (pd_int pe_int) (fun _ _ => rfl)) pda_nil)) (pd_int pe_int)) pda_nil)) (blkOk_by (N := ["script", "menu", "kind", "second", "k", "first", "a", "b", "p", "q", "r", "zero"]) (sc := defScope s_law) (by decide +kernel)) (by decide) (fun _ _ _ _ _ => (pdg_name (pg_name (i := 4) sc_law.nd rfl (Or.inl rfl)))) (fun _ _ _ _ _ => pdts_nil) (fun _ _ _ _ _ => pd_int pe_int))) (pda_cons (pd_ix ix_tup l_ixT (pd_var (pv 3)) (pd_int pe_int) (fun _ _ => rfl)) pda_nil))))) pdss_nil) (pdss_cut (pds_if (pdt_cmp op_eq l_eq (pd_var (pv 2)) (pd_int pe_int) (nomark _)) (pdss_one (pds_set (i := 3) sc_law.nd rfl (by first | exact Or.inl rfl | exact Or.inr rfl) (pd_tup (pda_cons (pd_new (pdn_lst (pda_cons (pd_op op_add l_I0 (pd_int pe_int) (pd_op op_modN l_I (pd_cb (fun h => pe_callTy call_int1 (by rfl) (T.f "int") (by decide +kernel) h) l_int (pda_cons (pd_ix ix_list l_ixL (pd_var (pv 1)) (pd_int pe_int) (fun _ _ => rfl)) pda_nil)) (pd_int pe_int))) pda_nil))) (pda_cons (pd_ix ix_tup l_ixT (pd_var (pv 3)) (pd_int pe_int) (fun _ _ => rfl)) pda_nil))))) pdss_nil) (pdss_cons (pds_set (i := 5) sc_law.nd rfl (by first | exact Or.inl rfl | exact Or.inr rfl) (pd_call F_law_drawn (hr.mono (by decide)) (by rfl) (T.g "_law_drawn") (T.k "_law_drawn") takes0 (pda_cons (pd_call F_law_draws (hr.mono (by decide)) (by rfl) (T.g "_law_draws") (T.k "_law_draws") takes0 (pda_cons (pd_var (pv 0)) (pda_cons (pd_int pe_int) (pda_cons (pd_int pe_int) pda_nil)))) pda_nil))) (pdss_cut (pds_if (PDW.pt (pdw_or (pdt_cmp op_eq l_eq (pd_var (pv 2)) (pd_int pe_int) (nomark _)) (pdw_or1 (pdt_cmp op_eq l_eq (pd_var (pv 2)) (pd_int pe_int) (nomark _))))) (pdss_one (pds_set (i := 5) sc_law.nd rfl (by first | exact Or.inl rfl | exact Or.inr rfl) (pd_call F_law_product (hr.mono (by decide)) (by rfl) (T.g "_law_product") (T.k "_law_product") takes0 (pda_cons (pd_var (pv 3)) (pda_cons (pd_call F_law_drawn (hr.mono (by decide)) (by rfl) (T.g "_law_drawn") (T.k "_law_drawn") takes0 (pda_cons (pd_call F_law_draws (hr.mono (by decide)) (by rfl) (T.g "_law_draws") (T.k "_law_draws") takes0 (pda_cons (pd_var (pv 0)) (pda_cons (pd_int pe_int) (pda_cons (pd_int pe_int) pda_nil)))) pda_nil)) pda_nil))))) pdss_nil) (pdss_cut (pds_if (pdt_cmp op_eq l_eq (pd_op op_modN l_I (pd_cb (fun h => pe_callTy call_int1 (by rfl) (T.f "int") (by decide +kernel) h) l_int (pda_cons (pd_ix ix_list l_ixL (pd_var (pv 1)) (pd_int pe_int) (fun _ _ => rfl)) pda_nil)) (pd_int pe_int)) (pd_int pe_int) (nomark _)) (pdss_one (pds_set (i := 5) sc_law.nd rfl (by first | exact Or.inl rfl | exact Or.inr rfl) (pd_call F_law_great (hr.mono (by decide)) (by rfl) (T.g "_law_great") (T.k "_law_great") takes0 (pda_cons (pd_var (pv 0)) (pda_cons (pd_int pe_int) (pda_cons (pd_op op_add l_I0 (pd_int pe_int) (pd_op op_modN l_I (pd_cb (fun h => pe_callTy call_int1 (by rfl) (T.f "int") (by decide +kernel) h) l_int (pda_cons (pd_ix ix_list l_ixL (pd_var (pv 1)) (pd_int pe_int) (fun _ _ => rfl)) pda_nil)) (pd_int pe_int))) pda_nil)))))) pdss_nil) (pdss_cons (pds_set (i := 6) sc_law.nd rfl (by first | exact Or.inl rfl | exact Or.inr rfl) (pd_call F_law_trim (hr.mono (by decide)) (by rfl) (T.g "_law_trim") (T.k "_law_trim") takes0 (pda_cons (pd_ix ix_tup l_ixT (pd_var (pv 5)) (pd_int pe_int) (fun _ _ => rfl)) (pda_cons (pd_ix ix_tup l_ixT (pd_var (pv 5)) (pd_int pe_int) (fun _ _ => rfl)) pda_nil)))) (pdss_cons (pds_set (i := 7) sc_law.nd rfl (by first | exact Or.inl rfl | exact Or.inr rfl) (pd_call F_law_trim (hr.mono (by decide)) (by rfl) (T.g "_law_trim") (T.k "_law_trim") takes0 (pda_cons (pd_ix ix_tup l_ixT (pd_var (pv 3)) (pd_int pe_int) (fun _ _ => rfl)) (pda_cons (pd_ix ix_tup l_ixT (pd_var (pv 3)) (pd_int pe_int) (fun _ _ => rfl)) pda_nil)))) (pdss_cons (pds_set (i := 8) sc_law.nd rfl (by first | exact Or.inl rfl | exact Or.inr rfl) (pd_call F_law_made (hr.mono (by decide)) (by rfl) (T.g "_law_made") (T.k "_law_made") takes0 (pda_cons (pd_var (pv 5)) pda_nil))) (pdss_cons (pds_set (i := 9) sc_law.nd rfl (by first | exact Or.inl rfl | exact Or.inr rfl) (pd_call F_law_made (hr.mono (by decide)) (by rfl) (T.g "_law_made") (T.k "_law_made") takes0 (pda_cons (pd_var (pv 3)) pda_nil))) (pdss_cons (pds_if (PDW.pt (pdw_or (pdt_not (pdt_val (pd_call F_law_fields (hr.mono (by decide)) (by rfl) (T.g "_law_fields") (T.k "_law_fields") takes0 (pda_cons (pd_var (pv 8)) (pda_cons (pd_var (pv 6)) pda_nil))))) (pdw_or (pdt_not (pdt_val (pd_call F_law_fields (hr.mono (by decide)) (by rfl) (T.g "_law_fields") (T.k "_law_fields") takes0 (pda_cons (pd_var (pv 9)) (pda_cons (pd_var (pv 7)) pda_nil))))) (pdw_or1 (pdt_not (pdt_val (pd_call F_law_equalities (hr.mono (by decide)) (by rfl) (T.g "_law_equalities") (T.k "_law_equalities") takes0 (pda_cons (pd_var (pv 8)) (pda_cons (pd_var (pv 9)) (pda_cons (pd_var (pv 6)) (pda_cons (pd_var (pv 7)) pda_nil))))))))))) (pdss_one (pds_ret (pd_bl pe_bl))) pdss_nil) (pdss_cons (pds_set (i := 10) sc_law.nd rfl (by first | exact Or.inl rfl | exact Or.inr rfl) (pd_tup (pda_cons (pd_call F_law_small (hr.mono (by decide)) (by rfl) (T.g "_law_small") (T.k "_law_small") takes0 (pda_cons (pd_ix ix_list l_ixL (pd_var (pv 1)) (pd_int pe_int) (fun _ _ => rfl)) pda_nil)) (pda_cons (pd_ix ix_list l_ixL (pd_new (pdn_lst (pda_cons (pd_int pe_int) (pda_cons (pd_int pe_int) (pda_cons (pd_int pe_int) (pda_cons (pd_un un_neg l_U (pd_int pe_int)) (pda_cons (pd_int pe_int) (pda_cons (pd_un un_neg l_U (pd_int pe_int)) (pda_cons (pd_int pe_int) (pda_cons (pd_int pe_int) pda_nil)))))))))) (pd_op op_modN l_I (pd_cb (fun h => pe_callTy call_int1 (by rfl) (T.f "int") (by decide +kernel) h) l_int (pda_cons (pd_ix ix_list l_ixL (pd_var (pv 1)) (pd_int pe_int) (fun _ _ => rfl)) pda_nil)) (pd_int pe_int)) (fun _ _ => rfl)) pda_nil)))) (pdss_cons (pds_if (PDW.pt (pdw_or (pdt_not (pdt_val (pd_call F_law_ring_kept (hr.mono (by decide)) (by rfl) (T.g "_law_ring_kept") (T.k "_law_ring_kept") takes0 (pda_cons (pd_var (pv 8)) (pda_cons (pd_var (pv 9)) (pda_cons (pd_var (pv 6)) (pda_cons (pd_var (pv 7)) pda_nil))))))) (pdw_or1 (pdt_not (pdt_val (pd_call F_law_multiples (hr.mono (by decide)) (by rfl) (T.g "_law_multiples") (T.k "_law_multiples") takes0 (pda_cons (pd_var (pv 8)) (pda_cons (pd_var (pv 6)) (pda_cons (pd_var (pv 10)) (pda_cons (pd_call F_law_small (hr.mono (by decide)) (by rfl) (T.g "_law_small") (T.k "_law_small") takes0 (pda_cons (pd_ix ix_list l_ixL (pd_var (pv 1)) (pd_int pe_int) (fun _ _ => rfl)) pda_nil)) pda_nil)))))))))) (pdss_one (pds_ret (pd_bl pe_bl))) pdss_nil) (pdss_cut (pds_if (PDW.pt (pdw_and (pdt_cmp op_gt l_B0 (pd_cb (fun h => pe_callB call_len (by rfl) (T.f "len") (by decide +kernel) h) l_len (pda_cons (pd_ix ix_tup l_ixT (pd_var (pv 7)) (pd_int pe_int) (fun _ _ => rfl)) pda_nil)) (pd_int pe_int) (nomark _)) (pdw_and1 (pdt_not (pdt_val (pd_call F_law_division (hr.mono (by decide)) (by rfl) (T.g "_law_division") (T.k "_law_division") takes0 (pda_cons (pd_var (pv 8)) (pda_cons (pd_var (pv 9)) (pda_cons (pd_var (pv 6)) (pda_cons (pd_var (pv 7)) pda_nil)))))))))) (pdss_one (pds_ret (pd_bl pe_bl))) pdss_nil) (pdss_cut (pds_if (PDW.pt (pdw_and (pdt_cmp op_gt l_B0 (pd_cb (fun h => pe_callB call_len (by rfl) (T.f "len") (by decide +kernel) h) l_len (pda_cons (pd_ix ix_tup l_ixT (pd_var (pv 6)) (pd_int pe_int) (fun _ _ => rfl)) pda_nil)) (pd_int pe_int) (nomark _)) (pdw_and1 (pdt_not (pdt_val (pd_call F_law_division (hr.mono (by decide)) (by rfl) (T.g "_law_division") (T.k "_law_division") takes0 (pda_cons (pd_var (pv 9)) (pda_cons (pd_var (pv 8)) (pda_cons (pd_var (pv 7)) (pda_cons (pd_var (pv 6)) pda_nil)))))))))) (pdss_one (pds_ret (pd_bl pe_bl))) pdss_nil) (pdss_cons (pds_set (i := 11) sc_law.nd rfl (by first | exact Or.inl rfl | exact Or.inr rfl) (pd_make (c := 3) (T.mkk "Poly") F_Poly_init (fun _ _ => .nil) (hr.mono (by decide)) (by rfl) (T.g "Poly") takes0 (pda_cons (pd_new (pdn_lc (own := [("k", 4)]) rfl sc_law.nd (pdi_range1 rfl (T.f "range") (pda_cons (pd_op op_modN l_I (pd_cb (fun h => pe_callTy call_int1 (by rfl) (T.f "int") (by decide +kernel) h) l_int (pda_cons (pd_ix ix_list l_ixL (pd_var (pv 1)) (pd_int pe_int) (fun _ _ => rfl)) pda_nil)) (pd_int pe_int)) pda_nil)) (blkOk_by (N := ["script", "menu", "kind", "second", "k", "first", "a", "b", "p", "q", "r", "zero"]) (sc := defScope s_law) (by decide +kernel)) (by decide) (fun _ _ _ _ _ => (pdg_name (pg_name (i := 4) sc_law.nd rfl (Or.inl rfl)))) (fun _ _ _ _ _ => pdts_nil) (fun _ _ _ _ _ => pd_int pe_int))) (pda_cons (pd_ix ix_tup l_ixT (pd_var (pv 3)) (pd_int pe_int) (fun _ _ => rfl)) pda_nil)))) (pdss_cut (pds_if (pdt_cmp op_eq l_eq (pd_op op_modN l_I (pd_cb (fun h => pe_callTy call_int1 (by rfl) (T.f "int") (by decide +kernel) h) l_int (pda_cons (pd_ix ix_list l_ixL (pd_var (pv 1)) (pd_int pe_int) (fun _ _ => rfl)) pda_nil)) (pd_int pe_int)) (pd_int pe_int) (nomark _)) (pdss_one (pds_set (i := 11) sc_law.nd rfl (by first | exact Or.inl rfl | exact Or.inr rfl) (pd_mixO (op := .Sub) (c := 3) (M.mx "sub" [3]) (by decide) (by rw [dm_Sub]; exact T.own "Poly" "__sub__") (T.fnn "Poly" "__sub__") F_Poly_sub (hr.mono (by decide)) takes0 (pd_var (pv 9)) (pd_var (pv 9))))) pdss_nil) (pdss_cons (pds_if (PDW.pt (pdw_or (pdt_not (pdt_val (pd_call F_law_barred (hr.mono (by decide)) (by rfl) (T.g "_law_barred") (T.k "_law_barred") takes0 (pda_cons (pd_var (pv 8)) (pda_cons (pd_var (pv 11)) pda_nil))))) (pdw_or (pdt_not (pdt_val (pd_call F_law_no_bottom (hr.mono (by decide)) (by rfl) (T.g "_law_no_bottom") (T.k "_law_no_bottom") takes0 (pda_cons (pd_ix ix_tup l_ixT (pd_var (pv 5)) (pd_int pe_int) (fun _ _ => rfl)) pda_nil)))) (pdw_or1 (pdt_not (pdt_val (pd_call F_law_no_bottom (hr.mono (by decide)) (by rfl) (T.g "_law_no_bottom") (T.k "_law_no_bottom") takes0 (pda_cons (pd_new (pdn_lst pda_nil)) pda_nil)))))))) (pdss_one (pds_ret (pd_bl pe_bl))) pdss_nil) (pdss_cons (pds_if (pdt_not (pdt_val (pd_call F_law_statics (hr.mono (by decide)) (by rfl) (T.g "_law_statics") (T.k "_law_statics") takes0 (pda_cons (pd_call F_law_draws (hr.mono (by decide)) (by rfl) (T.g "_law_draws") (T.k "_law_draws") takes0 (pda_cons (pd_var (pv 0)) (pda_cons (pd_int pe_int) (pda_cons (pd_int pe_int) pda_nil)))) pda_nil)))) (pdss_one (pds_ret (pd_bl pe_bl))) pdss_nil) (pdss_one (pds_ret (pd_and (pd_call F_law_fields (hr.mono (by decide)) (by rfl) (T.g "_law_fields") (T.k "_law_fields") takes0 (pda_cons (pd_var (pv 8)) (pda_cons (pd_var (pv 6)) pda_nil))) (pd_and (pd_call F_law_fields (hr.mono (by decide)) (by rfl) (T.g "_law_fields") (T.k "_law_fields") takes0 (pda_cons (pd_var (pv 9)) (pda_cons (pd_var (pv 7)) pda_nil))) (pd_one (pd_call F_law_told (hr.mono (by decide)) (by rfl) (T.g "_law_told") (T.k "_law_told") takes0 (pda_cons (pd_mixO (op := .Mult) (c := 3) (M.mx "mul" [0, 3]) (by decide) (by rw [dm_Mult]; exact T.own "Poly" "__mul__") (T.fnn "Poly" "__mul__") F_Poly_mul (hr.mono (by decide)) takes0 (pd_var (pv 8)) (pd_var (pv 9))) (pda_cons (pd_call F_law_product (hr.mono (by decide)) (by rfl) (T.g "_law_product") (T.k "_law_product") takes0 (pda_cons (pd_var (pv 6)) (pda_cons (pd_var (pv 7)) pda_nil))) pda_nil)))))))))))))))))))))))))))), fun ns hl => ?_⟩
  walk_at "go"
  intro zs hzl hz
  have hz8 : zs.length = 8 := by omega
  obtain ⟨d0, m0, _, x0⟩ := at_ex (l := zs) (k := 0) (by decide) (by omega)
  obtain ⟨d1, m1, _, x1⟩ := at_ex (l := zs) (k := 1) (by decide) (by omega)
  obtain ⟨d2, m2, _, x2⟩ := at_ex (l := zs) (k := 2) (by decide) (by omega)
  obtain ⟨d3, m3, _, x3⟩ := at_ex (l := zs) (k := 3) (by decide) (by omega)
  obtain ⟨d4, m4, _, x4⟩ := at_ex (l := zs) (k := 4) (by decide) (by omega)
  obtain ⟨d5, m5, _, x5⟩ := at_ex (l := zs) (k := 5) (by decide) (by omega)
  obtain ⟨d6, m6, _, x6⟩ := at_ex (l := zs) (k := 6) (by decide) (by omega)
  obtain ⟨d7, m7, _, x7⟩ := at_ex (l := zs) (k := 7) (by decide) (by omega)
  have a20 := fmod_lo d2 (j := 3) (by decide)
  have a21 := fmod_hi d2 (j := 3) (by decide)
  have a22 := fmod_lo d2 (j := 9) (by decide)
  have a23 := fmod_hi d2 (j := 9) (by decide)
  have a30 := fmod_lo d3 (j := 5) (by decide)
  have a31 := fmod_hi d3 (j := 5) (by decide)
  have a70 := fmod_lo d7 (j := 3) (by decide)
  have a71 := fmod_hi d7 (j := 3) (by decide)
  obtain ⟨b40, b41⟩ := hz d4 m4
  obtain ⟨b60, b61⟩ := hz d6 m6
  obtain ⟨rm, rmm, _, xr⟩ := at_ex (l := [1, 2, 3, -1, 5, -6, 12, 7]) (k := d5.fmod 8) (fmod_lo d5 (by decide)) (fmod_hi d5 (j := 8) (by decide))
  have hrm : rm ≠ 0 ∧ rm.natAbs ≤ 12 := by
    simp only [List.mem_cons, List.not_mem_nil, or_false] at rmm
    rcases rmm with rfl | rfl | rfl | rfl | rfl | rfl | rfl | rfl <;> decide
  obtain ⟨rm0, rm1⟩ := hrm
  have rm7 : rm.natAbs < 2 ^ 70 := Nat.lt_of_le_of_lt rm1 (by decide +kernel)
  walk_at "go"
  intro z1 h11 h12
  walk_at "go"
  intro us c hD
  walk_at "go"
  refine ⟨fun env => ∃ (us : List Int) (c : Int) (k : Sl), env = [.val (.lst (ns.map D.int)), .val (.lst (zs.map D.int)), .val (.int (d0.fmod 8)), .val (TB us c), k, .no, .no, .no, .no, .no, .no, .no] ∧ Drn us c, ?_, ?_⟩
  · have hrl : (rngD 0 (d2.fmod 3).toNat).length < sizeLine := by rw [rng_len]; exact sz100 (by omega)
    walk_at "go"
    refine d_ite (fun c6 => ?_) (fun c6 => ?_)
    · walk_at "go"
      refine ⟨fun i z => z = some (.int 0), ?_, ?_⟩
      · rintro i x hx
        walk_at "go"
        exact fun _ => rfl
      intro ys hl2 hy
      rw [rng_len] at hl2
      obtain ⟨ms, e', hm', hm2'⟩ := lc_map D.int (P := fun i v => v = 0) hl2 (fun i z h => ⟨_, hy i z h, rfl⟩)
      have em : ms = List.replicate (d2.fmod 3).toNat 0 := List.eq_replicate_iff.mpr ⟨hm', fun m h => by
        obtain ⟨i, hi⟩ := List.getElem?_of_mem h
        exact hm2' i m hi⟩
      subst em
      rw [e']
      walk_at "go"
      exact fun _ => ⟨_, c, _, rfl, drn_zeros (by omega) hD.ne hD.sb⟩
    · walk_at "go"
      exact fun _ => ⟨us, c, _, rfl, hD⟩
  clear hD us c
  rintro env ⟨us, c, k, rfl, hD⟩
  walk_at "go"
  refine ⟨fun env => ∃ (us : List Int) (c : Int) (k : Sl), env = [.val (.lst (ns.map D.int)), .val (.lst (zs.map D.int)), .val (.int (d0.fmod 8)), .val (TB us c), k, .no, .no, .no, .no, .no, .no, .no] ∧ Drn us c, ?_, ?_⟩
  · walk_at "go"
    refine d_ite (fun c6 => ?_) (fun c6 => ?_)
    · walk_at "go"
      exact fun _ => ⟨[1 + d2.fmod 9], c, _, rfl, drn_one (by omega) hD.ne hD.sb⟩
    · walk_at "go"
      exact fun _ => ⟨us, c, _, rfl, hD⟩
  clear hD us c k
  rintro env ⟨us, c, k, rfl, hD⟩
  walk_at "go"
  clear h11 h12 z1
  intro z1 h11 h12
  walk_at "go"
  intro fs e hF
  have s1 : Bd 4000 us := hD.bd.up (by decide)
  have s2 : c.natAbs < 2 ^ 4000 := abs_up hD.sb (by decide)
  have s3 := hD.len
  have s4 := hD.ne
  walk_at "go"
  refine ⟨fun env => ∃ (fs : List Int) (e : Int) (k : Sl), env = [.val (.lst (ns.map D.int)), .val (.lst (zs.map D.int)), .val (.int (d0.fmod 8)), .val (TB us c), k, .val (TB fs e), .no, .no, .no, .no, .no, .no] ∧ Fst fs e, ?_, ?_⟩
  · walk_at "go"
    refine d_ite (fun c4 => ?_) (fun c4 => ?_)
    · walk_at "go"
      intro z2 g11 g12
      walk_at "go"
      intro gs' e2 hG
      have t1 : Bd 4000 gs' := hG.bd.up (by decide)
      have t2 : e2.natAbs < 2 ^ 4000 := abs_up hG.sb (by decide)
      have t3 := hG.len
      walk_at "go"
      exact fun _ => ⟨_, _, _, rfl, hD.mul hG⟩
    · walk_at "go"
      refine d_ite (fun c4 => ?_) (fun c4 => ?_)
      · walk_at "go"
        intro z2 g11 g12
        walk_at "go"
        intro gs' e2 hG
        have t1 : Bd 4000 gs' := hG.bd.up (by decide)
        have t2 : e2.natAbs < 2 ^ 4000 := abs_up hG.sb (by decide)
        have t3 := hG.len
        walk_at "go"
        exact fun _ => ⟨_, _, _, rfl, hD.mul hG⟩
      · walk_at "go"
        exact fun _ => ⟨fs, e, _, rfl, hF.fst⟩
  clear hF fs e
  rintro env ⟨fs, e, k, rfl, hF⟩
  walk_at "go"
  refine ⟨fun env => ∃ (fs : List Int) (e : Int) (k : Sl), env = [.val (.lst (ns.map D.int)), .val (.lst (zs.map D.int)), .val (.int (d0.fmod 8)), .val (TB us c), k, .val (TB fs e), .no, .no, .no, .no, .no, .no] ∧ Fst fs e, ?_, ?_⟩
  · walk_at "go"
    refine d_ite (fun c4 => ?_) (fun c4 => ?_)
    · walk_at "go"
      intro ts b l5 h67 b0 b1
      walk_at "go"
      exact fun _ => ⟨ts, b, _, rfl, Fst.great l5 h67 b0 b1⟩
    · walk_at "go"
      exact fun _ => ⟨fs, e, _, rfl, hF⟩
  clear hF fs e
  rintro env ⟨fs, e, k, rfl, hF⟩
  have hP := hF.pol
  have hQ := hD.fst.pol
  have lP := short e hF.up
  have lQ := short c hD.fst.up
  have f1 : Bd 8999 fs := hF.bd.up (by decide)
  have f2 : e.natAbs < 2 ^ 8999 := abs_up hF.sb (by decide)
  have f3 := hF.len
  have f4 := hF.ne
  have s5 : Bd 8999 us := hD.bd.up (by decide)
  have s6 : c.natAbs < 2 ^ 8999 := abs_up hD.sb (by decide)
  walk_at "go"
  intro v v0 v1
  generalize pT fs e = A at *
  generalize pB fs e = a0 at *
  generalize pT us c = B at *
  generalize pB us c = b0 at *
  have v7 : v.natAbs < 2 ^ 70 := Nat.lt_of_le_of_lt (show v.natAbs ≤ 32 by omega) (by decide +kernel)
  walk_at "go"
  intro u u0 u1
  have u7 : u.natAbs < 2 ^ 70 := Nat.lt_of_le_of_lt (show u.natAbs ≤ 32 by omega) (by decide +kernel)
  walk_at "go"
  refine ⟨fun env => env = [.val (.lst (ns.map D.int)), .val (.lst (zs.map D.int)), .val (.int (d0.fmod 8)), .val (TB us c), k, .val (TB fs e), .val (TB A a0), .val (TB B b0), .val (PO A a0), .val (PO B b0), .val (.tup [.int v, .int rm]), .no], ?_, ?_⟩
  · walk_at "go"
    refine d_ite (fun c4 => ?_) (fun c4 => ?_)
    · have c' := of_decide_eq_true c4
      have hn : B ≠ [] := fun z => by rw [z] at c'; exact absurd c' (by decide)
      walk_at "go"
      exact fun _ => rfl
    · walk_at "go"
      exact fun _ => rfl
  rintro env rfl
  walk_at "go"
  refine ⟨fun env => env = [.val (.lst (ns.map D.int)), .val (.lst (zs.map D.int)), .val (.int (d0.fmod 8)), .val (TB us c), k, .val (TB fs e), .val (TB A a0), .val (TB B b0), .val (PO A a0), .val (PO B b0), .val (.tup [.int v, .int rm]), .no], ?_, ?_⟩
  · walk_at "go"
    refine d_ite (fun c4 => ?_) (fun c4 => ?_)
    · have c' := of_decide_eq_true c4
      have hn : A ≠ [] := fun z => by rw [z] at c'; exact absurd c' (by decide)
      walk_at "go"
      exact fun _ => rfl
    · walk_at "go"
      exact fun _ => rfl
  rintro env rfl
  have hrl : (rngD 0 (d7.fmod 3).toNat).length < sizeLine := by rw [rng_len]; exact sz100 (by omega)
  walk_at "go"
  refine ⟨fun i z => z = some (.int 0), ?_, ?_⟩
  · rintro i x hx
    walk_at "go"
    exact fun _ => rfl
  intro ys hl2 hy
  rw [rng_len] at hl2
  obtain ⟨ms, e', hm', hm2'⟩ := lc_map D.int (P := fun i v => v = 0) hl2 (fun i z h => ⟨_, hy i z h, rfl⟩)
  have em : ms = List.replicate (d7.fmod 3).toNat 0 := List.eq_replicate_iff.mpr ⟨hm', fun m h => by
    obtain ⟨i, hi⟩ := List.getElem?_of_mem h
    exact hm2' i m hi⟩
  subst em
  rw [e']
  walk_at "go"
  refine ⟨_, List.replicate (d7.fmod 3).toNat 0, c, rfl, .inl rfl, by rw [List.length_replicate]; omega, fun z => absurd z s4, fun _ => ⟨s6, ?_⟩⟩
  rw [(pzero s4 (cf_zeros _)).1, (pzero s4 (cf_zeros _)).2]
  have hQ4 : Pol 4000 B b0 := hQ.up (by decide)
  have hP4 : Pol 4000 A a0 := hP.up (by decide)
  walk_at "go"
  refine ⟨fun env => ∃ k : Sl, env = [.val (.lst (ns.map D.int)), .val (.lst (zs.map D.int)), .val (.int (d0.fmod 8)), .val (TB us c), k, .val (TB fs e), .val (TB A a0), .val (TB B b0), .val (PO A a0), .val (PO B b0), .val (.tup [.int v, .int rm]), .val (PO [] 1)], ?_, ?_⟩
  · walk_at "go"
    refine d_ite (fun c4 => ?_) (fun c4 => ?_)
    · have hbb : b0 * b0 ≠ 0 := Int.mul_ne_zero hQ.ne hQ.ne
      walk_at "go"
      rw [(pzero hbb (self_zero B b0)).1, (pzero hbb (self_zero B b0)).2]
      walk_at "go"
      exact fun _ => ⟨_, rfl⟩
    · walk_at "go"
      exact fun _ => ⟨_, rfl⟩
  clear k
  rintro env ⟨k, rfl⟩
  have hz := zero_pol
  have tp := told_prod hP4.sz hQ4.sz (by omega) (by omega)
  have A4 := hP4.bd
  have B4 := hQ4.bd
  have a4 := hP4.sb
  have b4 := hQ4.sb
  have lf : fs.length ≤ 1000 := by omega
  walk_at "go"
  refine ⟨[], rfl, by decide, ?_⟩
  walk_at "go"
  clear h11 h12 z1
  intro z1 h11 h12
  walk_at "go"
  rfl
end
end K08

open PySem PySem.W PySem.Calls PyProof.Rows
theorem PySem.Challenge.cw_lastrows_k08_poly_ring_holds : PySem.Challenge.rw_lastrows_k08_poly_ring.Holds := by
  w_on; o_law
  refine HandSHeadRun.head_imp (r := OpenLaw.row PySem.Challenge.rw_lastrows_k08_poly_ring) (q := view (OpenLaw.row PySem.Challenge.rw_lastrows_k08_poly_ring).prog [65]) (H := K08.hk) (ob := K08.ob) (M := 10000) (loose := K08.looseL) (d := HandSHeadRun.topDef (OpenLaw.row PySem.Challenge.rw_lastrows_k08_poly_ring).prog 65) (kwd := []) K08.ob_eq
    K08.run (by kernel_rfl) (by kernel_rfl) (by kernel_rfl) (by rfl) (by first | assumption | decide +kernel) (by decide +kernel) ⟨rfl, rfl, rfl, rfl, rfl, by decide +kernel⟩ ?hw ?hc
  case hw => w_witness2
  case hc =>
    refine L2.walk_ofE (l := PySem.Challenge.rw_lastrows_k08_poly_ring) (n := 63) (k := 14) (x := "script") (CX := L2.CX0) rfl (by decide) (by kernel_rfl) ⟨rfl, by decide, by decide⟩ ?F (fun _ _ _ _ z => z)
    intro w mg fa h Y G hmg0
    obtain ⟨K, KX, c, M⟩ := Y
    have hmg : mg ("law" : PySem.Str) = some (.ref fa) := by
      have e : (HandSHeadRun.topDef (OpenLaw.row PySem.Challenge.rw_lastrows_k08_poly_ring).prog 65).name = ("law" : PySem.Str) := by kernel_rfl
      rw [← e]
      exact hmg0
    have T : LR.Txt K08.LL K mg := LR.Txt.of KX G c
    have M2 : DL.Mo3 K08.cs K08.sms K08.cis K08.mxs K08.exs K mg := DL.Mo3.of KX G (fun c hc => T.clA _ (K08.cs_cl c hc)) M
    have ea : fa = He.ga K "law" := Value.ref.inj (Option.some.inj (hmg.symm.trans (T.g "law")))
    subst ea
    obtain ⟨fd, hb, hF⟩ := K08.law_ok (P := (PySem.Challenge.rw_lastrows_k08_poly_ring).prog) (w := w) T M2
    exact ⟨K, fd, DL.spLaw K, KX, hb, fun H a ns hl _ hS => ⟨a, ns, rfl, hS, hl, fun _ => rfl⟩, fun base _ _ => hF base⟩

