import PyProof.Rows.All
import Wide.All
import OpenK.AllK
import Wide.FinOn
import HandS.ForMost
import HandS.Exc
import HandS.ExcOwn
import HandS.ExcInit
import HandS.ExcField
import HandS.ExcIs
import HandS.TryOnly
import HandS.WordsExc
import HandS.IsInst
import HandS.Property
import HandS.Wide
import HandS.WideBits
import HandS.Gcd
import HandS.Flow
import HandS.Zip
import HandS.Codes
import KE.KOpsOwn
import HandS.Defaults
import HandS.Head0
import HandS.Head1
import HandS.Head2
import HandS.Head3
import HandS.HeadHook4
import HandS.HeadEnd
import HandS.FStr
import HandS.StrMore
import KE.KCallOwn
import KE.KxText
import PyProof.Rows.SeqMore
import HandS.TryMany
import PyProof.ListMulRight
import KE.KMathGC
import PySem.Challenge.RW_lastrows_k02_vectors
set_option Elab.async false
set_option linter.all false
set_option maxRecDepth 100000
set_option maxHeartbeats 4000000
namespace PySem.W
open PySem PySem.Spec PySem.Calls PyProof.Rows
section
variable {prog : Program} {w : World} {A : Around} {E : Value → Shared → Prop} {s : Shared} {K : Frag} {x D : Addr} {ox : Obj}
theorem kin_classD {Q : Option Value → Shared → Prop} (hga : findIn K (.ref D) "__getattribute__" = some (some (.builtin "BaseException.__getattribute__"))) (hgt : findIn K (.ref D) "__getattr__" = some none) (hsub : subIn K (.ref D) (.type "BaseException") = some true)
    (hdct : hasDictIn K D = true) (ha : findIn K (.ref D) "__class__" = some (some (.builtin "object.__class__")))
    (hn : specialIn K (.builtin "object.__class__") "__get__" = some (some (.builtin "getset_descriptor.__get__"))) (htk : takesIn K (.builtin "object.__class__") = some true) (hm : mroIn K D (.type "object") = some true)
    (X : K.In s.heap) {od : Obj} (I : InstAt s.heap x ox D (some od)) (h : Q (some (.ref D)) { s with toks := s.toks + 1 }) : wpAny (model prog w) A (getAttr? (.ref x) "__class__") Q E s := by
  have hf : findObj K D (some od) "__class__" = some (.bind (.builtin "getset_descriptor.__get__") (.builtin "object.__class__")) := findObj_data (by obtain ⟨cd, hc, _⟩ := any_some hdct; rw [hc]; rfl) ha hn htk
  obtain ⟨hp, g, d, t, os⟩ := s
  have L0 := I.type (M := model prog w)
  have L1 := looks_findIn (M := model prog w) X hga
  have L2 := looks_findIn (M := model prog w) X hgt
  have L3 := looks_find (M := model prog w) X I hf
  have sub : Looks (model prog w) hp (isInstance (.ref x) (.type "BaseException")) true := L0.andThen (looks_subIn X hsub)
  have hx0 : (false && onTheHeap (Value.builtin "BaseException.__getattribute__")) = false := rfl
  have hx2 : (Value.builtin "BaseException.__getattribute__" == Value.builtin "object.__getattribute__") = false := by decide +kernel
  have hx1 : (onTheHeap (Value.ref D) && Value.builtin "BaseException.__getattribute__" == Value.builtin "object.__getattribute__") = false := by rw [hx2]; rfl
  unfold getAttr? getAttrBy? getAttrBy
  refine wpAny_bind (wpAny_mkText (wpAny_bind (wpAny_attempt (wpAny_holding (wpAny_bind (L0.at (wpAny_bind (L1.at ?_))))))))
  show wpAny _ _ (if (onTheHeap (Value.ref D) && Value.builtin "BaseException.__getattribute__" == Value.builtin "object.__getattribute__") = true then _ else _) _ _ _
  rw [hx1, if_neg Bool.false_ne_true]
  unfold getAttrByItsOwn hookBefore
  refine wpAny_bind ?_
  rw [if_pos (show onTheHeap (Value.ref D) = true from rfl)]
  refine L2.at ?_
  refine wpAny_bind (wpAny_attempt (wpAny_holding ?_))
  unfold callGetattribute
  rw [hx0, if_neg Bool.false_ne_true]
  unfold boundAndCalled
  rw [PySem.F.excAttr_ValueError.ga.bind (.ref x)]
  refine wpAny_bind (wpAny_pure ?_)
  show wpAny _ _ (call (.builtin "BaseException.__getattribute__") [.ref x, .str "__class__" t]) _ _ _
  refine wpAny_call (codeAny_call_builtin PySem.F.excAttr_ValueError.ga.plain PySem.F.entry_bexc_ga ?_)
  refine @check_slot (model prog w) _ _ ⟨hp, g, d, t + 1, os⟩ "BaseException.__getattribute__" "BaseException" "__getattribute__" (.ref x) [.str "__class__" t] [] _ (by decide +kernel) (by decide +kernel) sub (PySem.F.args_bexc_ga (.ref x) (.str "__class__" t)) ?_
  unfold Builtin.«object.__getattribute__»
  refine wpAny_bind (wpAny_of_eq (a := ((Value.ref x : Value), [Value.str "__class__" t])) (by first | rfl | (simp only [slotArgs]; rfl)) ?_)
  refine wpAny_bind (wpAny_pure (wpAny_bind (L0.at (wpAny_bind (L3.at ?_)))))
  show wpAny _ _ (holding [Value.builtin "object.__class__"] (call (.builtin "getset_descriptor.__get__") [.builtin "object.__class__", .ref x, .ref D]) >>= ret) _ _ _
  refine wpAny_bind (wpAny_holding (wpAny_call (class_get (s := ⟨hp, g, d, t + 1, os⟩) (ox := ox) (od := some od) X I hm ?_)))
  refine wpAny_pure ?_
  show wpAny _ _ (handedOut (.ref D)) _ _ _
  rw [handedOut_of (v := .ref D) rfl]
  first
    | exact wpAny_pure (wpAny_pure h)
    | exact wpAny_pure h
    | exact wpAny_pure (wpAny_bind (wpAny_pure (wpAny_pure h)))
theorem kitx_excD (hga : findIn K (.ref D) "__getattribute__" = some (some (.builtin "BaseException.__getattribute__"))) (hgt : findIn K (.ref D) "__getattr__" = some none) (hsub : subIn K (.ref D) (.type "BaseException") = some true) (hdct : hasDictIn K D = true) (ha : findIn K (.ref D) "__class__" = some (some (.builtin "object.__class__")))
    (hn : specialIn K (.builtin "object.__class__") "__get__" = some (some (.builtin "getset_descriptor.__get__"))) (htk : takesIn K (.builtin "object.__class__") = some true) (hm : mroIn K D (.type "object") = some true) :
    KitX K (.ref x) (.ref D) (fun h => ∃ od : Obj, InstAt h x ox D (some od)) where
  ty := fun _ _ _ ⟨_, I⟩ => I.type
  it := fun _ _ X _ => by
    obtain ⟨cdD, hcD, _⟩ := any_some hdct
    unfold clsIn at hcD
    split at hcD
    · rename_i c' d' cd' sl' ho
      intro A' Q' E' s' k q
      unfold isType loadHead
      exact wpAny_bind (wpAny_loadPart (k _ _ (X _ _ ho)) (wpAny_pure q))
    · cases hcD
  ne := fun h tp dd its n sl X htp => by
    obtain ⟨cdD, hcD, _⟩ := any_some hdct
    refine Bool.eq_false_iff.mpr fun q => ?_
    have e : D = tp := Value.ref.inj (beq_iff_eq.mp q)
    subst e
    unfold clsIn at hcD
    split at hcD
    · rename_i c' d' cd' sl' ho
      have z := (X _ _ ho).symm.trans htp
      cases z
    · cases hcD
  ca := fun X ⟨_, I⟩ k => kin_classD hga hgt hsub hdct ha hn htk hm X I k
end
end PySem.W
namespace LR
open PySem PySem.Spec PyProof.Rows L2
/-- isinstance(e, c), e the exception that the suite holds (class cls, dict d) -/
def rIsD (K : PySem.W.Frag) (D a : Addr) (cls : Value) (d : Option Addr) : List V → Hp → VK → Prop := fun xs H Q => ∃ (c : V) (cv : Value) (b : Bool) (dd : Addr) (fs : List (Str × V)), xs = [.ref a, c] ∧ cls = .ref D ∧ d = some dd ∧ H dd = some (.xd fs) ∧ ClsV c cv ∧
  PySem.W.kitOne K (.ref D) cv = some b ∧ Q (.bl b) H
theorem call_isD {X : Cx} {a D : Addr} {cls : Value} {d : Option Addr} {oe : Obj} {pn : List (Addr × Obj)} (C : ExcC X.K D) (hz : Zc cls d oe) (hf : ∃ vs, oe.data = .fields vs) : CallR (X.suite a ((a, oe) :: pn)) (.builtin "isinstance") (rIsD X.K D a cls d) := by
  intro pins s σ H xs us Q I r h
  obtain ⟨c, cv, b, dd, fs, rfl, rfl, rfl, hd, hcv, e, q⟩ := h
  cases r with
  | cons rx rr =>
    cases rr with
    | cons rt rr =>
      cases rr
      cases rx
      have ec := hcv.eq rt
      subst ec
      obtain ⟨hget, _⟩ := I.pin (a, oe) (List.mem_append.mpr (.inl List.mem_cons_self))
      obtain ⟨vs, hv⟩ := hf
      have hx : ObjOk X.prog X.w H s.heap dd (.xd fs) := I.hok dd _ hd
      obtain ⟨mA, hns, hr⟩ := hx
      obtain ⟨od, ho, hl⟩ := lookIn_ns hns
      have J : PySem.W.InstAt s.heap a oe D (some od) := ⟨hget, hz.1, by unfold PySem.W.notCls; rw [hv] <;> rfl, by rw [hz.2]; exact ho⟩
      exact PySem.W.kia_one (PySem.W.kitx_excD C.hg C.hk C.hs C.hd C.ha C.hn C.ht C.hm) I.kIn ⟨od, J⟩ e (fun z => nomatch z) fun tk => ⟨.bl b, H, I.kept (t' := tk) fun _ _ z => z, rfl, q⟩
end LR
namespace LR
open PySem PySem.Spec PyProof.Rows L2
section
variable {X : Cx}
/-! wide ints -/
def CDivZ (_ j : Int) : Prop := j ≠ 0 ∧ j.natAbs.log2 < 9000
theorem op_fdivZ : OpR X (binaryOp .FloorDiv) (rI CDivZ fun i j => .int (i.fdiv j)) := opI fun i j _ _ _ _ _ hc q => floordiv_int hc.1 q (.inl (PyProof.noPylong_of_log2 hc.2))
def CPowZ (i j : Int) : Prop := 0 ≤ j ∧ (Builtin.Int.intBits i : Int) * j ≤ 2 ^ 27
theorem op_powZ : OpR X (binaryOp .Pow) (rI CPowZ fun i j => .int (i ^ j.toNat)) := opI fun i j _ _ _ _ _ hc q => pow_int hc.1 hc.2 q
end

/-! own operators -/
theorem cmpBack_of {v : V} {u : Value} {s : Shared} {Q : Value → Shared → Prop} (r : RelV v u) (h : Q u s) : PySem.W.CmpBack Q u s := by
  cases v with
  | non => cases (show u = Value.none from r); exact h
  | bl b => cases (show u = Value.bool b from r); exact h
  | int i => obtain ⟨t, rfl⟩ := (show ∃ t, u = Value.int i t from r); exact h
  | str x => obtain ⟨t, rfl⟩ := (show ∃ t, u = Value.str x t from r); exact h
  | byt b => obtain ⟨t, rfl⟩ := (show ∃ t, u = Value.bytes b t from r); exact h
  | flt b => obtain ⟨t, rfl⟩ := (show ∃ t, u = Value.float b t from r); exact h
  | ref a => cases (show u = Value.ref a from r); exact h
  | ty n => cases (show u = Value.type n from r); exact h

section
variable {X : Cx} {CX : CXT} {k : Nat} {C f : Addr} {fd : FuncData} {ps : List Str} {sp : Sp} {E : XK}
/-- x op y, two instances of one class, by its own method -/
def rBinO (C : Addr) (sp : Sp) (E : XK) : R2 := fun x y H Q => ∃ (a dx : Addr) (fs : List (Str × V)) (b dy : Addr) (gs : List (Str × V)), x = .ref a ∧ y = .ref b ∧ H a = some (.ins C dx fs) ∧ H b = some (.ins C dy gs) ∧ sp [.ref a, .ref b] H Q E
theorem op_binO {op : Operator} (hc : PySem.W.selfFirst X.K C = true) (hs : PySem.W.findIn X.K (.ref C) (PySem.dunder op.info.2) = some (some (.ref f))) (hf : PySem.W.isFn X.K (.ref f) = true)
    (F : FnOk X.prog X.w X.K X.mg X.base CX k f fd ps sp) (hr : Room k X.A) (hb : Binds X.K fd ps []) (hx : Passes CX X E) : OpR X (binaryOp op) (rBinO C sp E) := by
  intro pins s σ H x y v u Q I rx ry h
  obtain ⟨a, dx, fs, b, dy, gs, rfl, rfl, ha, hb', q⟩ := h
  cases rx
  cases ry
  obtain ⟨mA, J, _⟩ := ins_get I.hok ha
  obtain ⟨mB, J', _⟩ := ins_get I.hok hb'
  obtain ⟨od, J, _⟩ := J.look
  obtain ⟨od', J', _⟩ := J'.look
  obtain ⟨m, hF⟩ := I.fr
  refine PySem.W.binop_K hF I.ok.mod.kin J J'.type hc hs hf ?_
  exact wpAny_mono (run_fn F hr hb .nil hx I (vs := [.ref a, .ref b]) (.cons rfl (.cons rfl .nil)) q) (fun u s' z => by
    obtain ⟨v, H', I', r, q'⟩ := z
    exact cmpBack_of r ⟨v, H', I', r, q'⟩) fun _ _ e => e
/-- -x by its own method -/
def rUnO (C : Addr) (sp : Sp) (E : XK) : V → Hp → VK → Prop := fun x H Q => ∃ (a dx : Addr) (fs : List (Str × V)), x = .ref a ∧ H a = some (.ins C dx fs) ∧ sp [.ref a] H Q E
theorem un_negO (hs : PySem.W.findIn X.K (.ref C) "__neg__" = some (some (.ref f))) (hf : PySem.W.isFn X.K (.ref f) = true)
    (F : FnOk X.prog X.w X.K X.mg X.base CX k f fd ps sp) (hr : Room k X.A) (hb : Binds X.K fd ps []) (hx : Passes CX X E) : UnR X (unaryOp .USub) (rUnO C sp E) := by
  intro pins s σ H x v Q I rx h
  obtain ⟨a, dx, fs, rfl, ha, q⟩ := h
  cases rx
  obtain ⟨mA, J, _⟩ := ins_get I.hok ha
  obtain ⟨od, J, _⟩ := J.look
  obtain ⟨m, hF⟩ := I.fr
  refine PySem.W.ksp_neg hF I.ok.mod.kin J hs hf ?_
  exact run_fn F hr hb .nil hx I (vs := [.ref a]) (.cons rfl .nil) q
/-- x == y by its own method, y anything of a told type -/
def rCmpO (C : Addr) (sp : Sp) (E : XK) (K : PySem.W.Frag) : R2 := fun x y H Q => ∃ (a dx : Addr) (fs : List (Str × V)) (t : Value), x = .ref a ∧ H a = some (.ins C dx fs) ∧ TyX K H y t ∧ PySem.W.notFirst K C t = true ∧ sp [.ref a, y] H Q E
theorem op_eqO (hs : PySem.W.findIn X.K (.ref C) "__eq__" = some (some (.ref f))) (hf : PySem.W.isFn X.K (.ref f) = true)
    (F : FnOk X.prog X.w X.K X.mg X.base CX k f fd ps sp) (hr : Room k X.A) (hb : Binds X.K fd ps []) (hx : Passes CX X E) : OpR X (compareOp .Eq) (rCmpO C sp E X.K) := by
  intro pins s σ H x y v u Q I rx ry h
  obtain ⟨a, dx, fs, t, rfl, ha, ty, hn, q⟩ := h
  cases rx
  obtain ⟨P, Z, p, _⟩ := kit_of I ry ty
  obtain ⟨mA, J, _⟩ := ins_get I.hok ha
  obtain ⟨od, J, _⟩ := J.look
  obtain ⟨m, hF⟩ := I.fr
  show wpAny (model X.prog X.w) X.A (richCompare .Eq (.ref a) u) (EP X pins σ Q) X.xe s
  refine PySem.W.cmp_K (op := .Eq) (hu_of hr |> Nat.lt_of_succ_lt) hF I.ok.mod.kin J (Z.ty _ _ I.kIn p) hn hs hf ?_
  exact wpAny_mono (run_fn F hr hb .nil hx I (vs := [.ref a, y]) (.cons rfl (.cons ry .nil)) q) (fun u s' z => by
    obtain ⟨v, H', I', r, q'⟩ := z
    exact cmpBack_of r ⟨v, H', I', r, q'⟩) fun _ _ e => e
end

/-! != by an own __eq__ -/
section
open PySem.W PySem.Calls Builtin
variable {prog : Program} {w : World} {A : Around} {E : Value → Shared → Prop} {s : Shared} {K : PySem.W.Frag} {x C L f : Addr} {h₀ : Heap} {m : Str → Option Value} {ox : Obj} {od : Option Obj} {b tb : Value}
theorem ifBound_S {M : Model} {args : List Value} {name : Str} {id : String} {Q : Option Value → Shared → Prop} (X : K.In s.heap) (I : InstAt s.heap x ox C od) (hs : findIn K (.ref C) name = some (some (.builtin id)))
    (hb : ∀ self, bindSpecial (.builtin id) self = pure (.builtin id, [self])) (h : wpAny M A (call (.builtin id) (.ref x :: args)) (fun v => Q (some v)) E s) : wpAny M A (callSpecialIfBound? (.ref x) name args) Q E s := by
  simp only [callSpecialIfBound?, bindSpecialIfBound?]
  refine wpAny_holding (wpAny_bind (wpAny_bind (wpAny_bind (I.type.here ((looks_findIn X hs).here ?_)))))
  simp only [hb]
  refine wpAny_bind (wpAny_askSetting (wpAny_ite ?_))
  have fin : wpAny M A (call (.builtin id) ([.ref x] ++ args) >>= fun v => pure (some v)) Q E s := wpAny_bind (wpAny_mono h (fun v s' h' => wpAny_pure h') fun _ _ h' => h')
  split
  · exact wpAny_bind (wpAny_pure (wpAny_pure fin))
  · exact wpAny_tryCatch (wpAny_bind (wpAny_pure (wpAny_pure fin)))
theorem cmp_one {op : CmpOp} {Q : Value → Shared → Prop} (hu : A.units < cLine) (X : K.In s.heap) (I : InstAt s.heap x ox C od) (hb : Looks (model prog w) s.heap (typeOf b) tb) (hn : notFirst K C tb = true)
    (one : wpAny (model prog w) A (tryCompare (.ref x) (cmpInfo op).2.1 b) (fun r s' => ∃ v, r = some v ∧ Q v s') E s) : wpAny (model prog w) A (richCompare op (.ref x) b) Q E s := by
  unfold richCompare
  simp only [oneThing_ref]
  refine wpAny_holding (wpAny_bind (wpAny_cRoomFor hu ?_))
  refine wpAny_bind (I.type.here (wpAny_bind (hb.here ?_)))
  split
  · rename_i q
    have e : subIn K tb (.ref C) = some false := by
      rcases Bool.or_eq_true_iff.mp hn with e | e
      · rw [beq_iff_eq.mp e] at q; simp at q
      · exact beq_iff_eq.mp e
    refine wpAny_bind ((looks_subIn X e).here ?_)
    simp only [Bool.false_eq_true, if_false]
    refine wpAny_bind (wpAny_mono one (fun r s' z => ?_) fun _ _ e => e)
    obtain ⟨v, rfl, hq⟩ := z
    exact wpAny_pure hq
  · refine wpAny_bind (wpAny_pure ?_)
    simp only [Bool.false_eq_true, if_false]
    refine wpAny_bind (wpAny_mono one (fun r s' z => ?_) fun _ _ e => e)
    obtain ⟨v, rfl, hq⟩ := z
    exact wpAny_pure hq
theorem ne_try {Q : Option Value → Shared → Prop} (hu : A.units + 1 < cLine) (X : K.In s.heap) (I : InstAt s.heap x ox C od) (hn : findIn K (.ref C) "__ne__" = some (some (.builtin "object.__ne__"))) (ho : subIn K (.ref C) (.type "object") = some true)
    (hs : findIn K (.ref C) "__eq__" = some (some (.ref f))) (hf : isFn K (.ref f) = true)
    (h : wpAny (model prog w) A.in1 (call (.ref f) [.ref x, b]) (fun v s' => ∃ r, v = .bool r ∧ Q (some (.bool (!r))) s') E s) : wpAny (model prog w) A (tryCompare (.ref x) "__ne__" b) Q E s := by
  have SL : Slot "object" "__ne__" "object.__ne__" := .of (owner := "object") (n := "__ne__") (by rw [typeLookup_type, builtinLookup_eq_fast]; kernel_rfl) (by decide +kernel) (by decide +kernel) (by decide +kernel)
    (by first | exact .inl (by decide +kernel) | exact .inr (by decide +kernel)) (by rw [isSubtype_type]; kernel_rfl)
  simp only [tryCompare]
  refine wpAny_bind (ifBound_S X I hn SL.bind (wpAny_call (codeAny_call_builtin SL.plain PySem.F.cmpEntry_ne ?_)))
  refine @PySem.W.check_slot (model prog w) _ _ s "object.__ne__" "object" "__ne__" (.ref x) [b] [] _ PySem.F.cmpKind_ne PySem.F.cmpSplit_ne (I.type.andThen (looks_subIn X ho)) (PySem.F.cmpArgs_ne (.ref x) b) ?_
  unfold Builtin.«object.__ne__»
  refine wpAny_bind (wpAny_pure ?_)
  dsimp only
  refine wpAny_bind (wpAny_cRoomFor hu ?_)
  refine wpAny_bind (m := callSpecialIfBound? (.ref x) (Str.ofString "__eq__") [b]) (ifBound_K X I hs hf (wpAny_mono h (fun v s' hv => ?_) fun _ _ e => e))
  obtain ⟨r, rfl, hq⟩ := hv
  dsimp only
  refine wpAny_bind (m := truthy (.bool _)) (wpAny_truthy_bool ?_)
  first
    | exact wpAny_pure ⟨_, rfl, wpAny_pure hq⟩
    | exact wpAny_pure ⟨_, rfl, hq⟩
    | exact wpAny_pure (wpAny_pure hq)
    | exact wpAny_pure (wpAny_pure (wpAny_pure hq))
end

section
variable {X : Cx} {CX : CXT} {k : Nat} {C f : Addr} {fd : FuncData} {ps : List Str} {sp : Sp} {E : XK}
/-- x != y by its own == -/
def rNeO (C : Addr) (sp : Sp) (E : XK) (K : PySem.W.Frag) : R2 := fun x y H Q => ∃ (a dx : Addr) (fs : List (Str × V)) (t : Value), x = .ref a ∧ H a = some (.ins C dx fs) ∧ TyX K H y t ∧ PySem.W.notFirst K C t = true ∧
  sp [.ref a, y] H (fun v H' => ∃ b : Bool, v = .bl b ∧ Q (.bl (!b)) H') E
theorem op_neO (hn : PySem.W.findIn X.K (.ref C) "__ne__" = some (some (.builtin "object.__ne__"))) (ho : PySem.W.subIn X.K (.ref C) (.type "object") = some true)
    (hs : PySem.W.findIn X.K (.ref C) "__eq__" = some (some (.ref f))) (hf : PySem.W.isFn X.K (.ref f) = true)
    (F : FnOk X.prog X.w X.K X.mg X.base CX k f fd ps sp) (hr : Room (k + 1) X.A) (hb : Binds X.K fd ps []) (hx : Passes CX X.nox E) : OpR X (compareOp .NotEq) (rNeO C sp E X.K) := by
  intro pins s σ H x y v u Q I rx ry h
  obtain ⟨a, dx, fs, t, rfl, ha, ty, hnf, q⟩ := h
  cases rx
  obtain ⟨P, Z, p, _⟩ := kit_of I ry ty
  obtain ⟨mA, J, _⟩ := ins_get I.hok ha
  obtain ⟨od, J, _⟩ := J.look
  show wpAny (model X.prog X.w) X.A (richCompare .NotEq (.ref a) u) (EP X pins σ Q) X.xe s
  refine cmp_one (op := .NotEq) (hu_of hr |> Nat.lt_of_succ_lt) I.kIn J (Z.ty _ _ I.kIn p) hnf ?_
  have hl : [Value.ref a, u].length = ps.length := by
    rw [← F.len _ _ _ _ q]
    rfl
  refine ne_try (hu_of hr) I.kIn J hn ho hs hf (wpAny_call (codeAny_mono (F.run X.A.in1 X.stack s H ⟨[.ref a, u], []⟩ [.ref a, u] [.ref a, y] _ E hr.in1 I.env0.in1 (by simpa using hb s [.ref a, u] I.kIn (by simpa using hl)) (.cons rfl (.cons ry .nil)) q) fun r s' hq => ?_))
  cases r with
  | error er => exact False.elim (hx pins σ H s er s' (I.wish _) hq)
  | ok fl =>
    cases fl with
    | ret w =>
      obtain ⟨v, H', I', rv, b, rfl, q3⟩ := I.after hq
      cases rv
      exact ⟨b, rfl, _, rfl, .bl (!b), H', I', rfl, q3⟩
    | next => exact False.elim hq
    | brk => exact False.elim hq
    | cont => exact False.elim hq
/-- abs(x) by its own method -/
theorem call_absO (hs : PySem.W.findIn X.K (.ref C) "__abs__" = some (some (.ref f))) (hf : PySem.W.isFn X.K (.ref f) = true)
    (F : FnOk X.prog X.w X.K X.mg X.base CX k f fd ps sp) (hr : Room (k + 1) X.A) (hb : Binds X.K fd ps []) (hx : Passes CX X.nox E) : CallR X (.builtin "abs") (fun xs H Q => ∃ (a dx : Addr) (fs : List (Str × V)), xs = [.ref a] ∧ H a = some (.ins C dx fs) ∧ sp [.ref a] H Q E) := by
  intro pins s σ H xs us Q I r h
  obtain ⟨a, dx, fs, rfl, ha, q⟩ := h
  obtain ⟨u, rfl, ru⟩ := vals1 r
  cases ru
  obtain ⟨mA, J, _⟩ := ins_get I.hok ha
  obtain ⟨od, J, _⟩ := J.look
  have hl : [Value.ref a].length = ps.length := by
    rw [← F.len _ _ _ _ q]
    rfl
  refine PySem.Calls.call_function_entry kind_abs plain_abs entry_abs (args_abs _) ?_
  unfold Builtin.«abs»
  refine wpAny_bind (m := oneArg "abs" _) (wpAny_pure ?_)
  refine wpAny_bind (m := callSpecial? (.ref a) (Str.ofString "__abs__")) (PySem.W.special_fn I.kIn J hs (beq_iff_eq.mp hf) (wpAny_call (codeAny_mono (F.run X.A.in1 X.stack s H ⟨[.ref a], []⟩ [.ref a] [.ref a] _ E hr.in1 I.env0.in1 (by simpa using hb s [.ref a] I.kIn (by simpa using hl)) (.cons rfl .nil) q) fun r s' hq => ?_)))
  cases r with
  | error er => exact False.elim (hx pins σ H s er s' (I.wish _) hq)
  | ok fl =>
    cases fl with
    | ret w =>
      obtain ⟨v, H', I', rv, q3⟩ := I.after hq
      exact wpAny_pure ⟨_, rfl, v, H', I', rv, q3⟩
    | next => exact False.elim hq
    | brk => exact False.elim hq
    | cont => exact False.elim hq
end

/-! calls within a try -/
section
variable {X : Cx} {CX : CXT} {k : Nat} {C f : Addr} {fd : FuncData} {ps : List Str} {sp : Sp} {dvs : List V} {ds : List Value} {E : L2.St → XK} {x m : Str} {p pos apos : Pos} {e o : Expr} {es : List Expr} {ta : TE} {t : TA}
theorem run_makeS {pins : List (Addr × Obj)} {σ : L2.St} {H : Hp} {s : Shared} {Q : VK} {us : List Value} {vs : List V} (M : Mk X.K C f) (F : FnOk X.prog X.w X.K X.mg X.base CX k f fd ps sp) (hr : Room (k + 1) X.A) (hb : Binds X.K fd ps ds) (hd : Vals dvs ds)
    (hx : PassesAt CX X σ (E σ)) (I : Inv X pins σ H s) (r : Vals vs us)
    (h : ∀ x dx, H x = none → H dx = none → dx ≠ x → sp (.ref x :: (vs ++ dvs)) (upd (upd H dx (.own x)) x (.ins C dx [])) (fun v H2 => v = .non ∧ Q (.ref x) H2) (E σ)) :
    wpAny (model X.prog X.w) X.A (call (.ref C) us) (EP X pins σ Q) X.xe s := by
  have hq := h (s.heap.objs.size + 1) s.heap.objs.size (I.hok.fresh (Nat.le_succ _)) (I.hok.fresh (Nat.le_refl _)) (Nat.ne_of_lt (Nat.lt_succ_self _))
  have I2 := Inv.made (C := C) I
  have r2 : Vals (V.ref (s.heap.objs.size + 1) :: (vs ++ dvs)) (Value.ref (s.heap.objs.size + 1) :: (us ++ ds)) := .cons rfl (r.append hd)
  have hl : (Value.ref (s.heap.objs.size + 1) :: us ++ ds).length = ps.length := by
    have e := r2.length
    rw [F.len _ _ _ _ hq] at e
    exact e.symm
  refine wpAny_call (make_map (f := f) I.kIn M.makes M.init (beq_iff_eq.mp M.fn) (codeAny_mono (F.run _ X.stack _ _ ⟨Value.ref (s.heap.objs.size + 1) :: us, []⟩ (Value.ref (s.heap.objs.size + 1) :: (us ++ ds)) _ _ (E σ) (hr.make C us [])
    (I2.env0.make C us []) (hb _ (Value.ref (s.heap.objs.size + 1) :: us) I2.kIn hl) r2 hq) fun r s' hq' => ?_))
  cases r with
  | error e => exact hx pins _ _ e s' I2 hq'
  | ok fl =>
    cases fl with
    | ret u =>
      obtain ⟨v, H', I3, rv, ev, q3⟩ := I2.after hq'
      subst ev
      exact ⟨rv, ⟨V.ref (s.heap.objs.size + 1), H', I3, rfl, q3⟩⟩
    | next => exact False.elim hq'
    | brk => exact False.elim hq'
    | cont => exact False.elim hq'
def tMakeS (C : Addr) (sp : Sp) (dvs : List V) (E : L2.St → XK) (t : TA) : TE := fun σ H Q => t σ H fun vs H1 => ∀ x dx, H1 x = none → H1 dx = none → dx ≠ x →
  sp (.ref x :: (vs ++ dvs)) (upd (upd H1 dx (.own x)) x (.ins C dx [])) (fun v H2 => v = .non ∧ Q (.ref x) H2) (E σ)
theorem pe_makeS (M : Mk X.K C f) (F : FnOk X.prog X.w X.K X.mg X.base CX k f fd ps sp) (hr : Room (k + 1) X.A) (hg : Gl X x) (hm : X.mg x = some (.ref C)) (hb : Binds X.K fd ps ds) (hd : Vals dvs ds) (hx : ∀ σ, PassesAt CX X σ (E σ))
    (ha : PA X (e :: es) t) (hdb : (x == ("__debug__" : Str)) = false := by decide) (he : starEach (e :: es) X.env = (false, eval e X.env) :: starEach es X.env := by rfl) (hpl : (backTo pos (starEach es X.env)).any (·.1) = false := by rfl) :
    PE X (.Call (.Name x p) (e :: es) [] pos) (tMakeS C sp dvs E t) := by
  refine ⟨fun pins s σ H Q I h => ?_⟩
  refine wpAny_Call_Name_kw (ld_glob I hg hm ?_ hdb)
  refine PySem.W.callWith_K (h₀ := X.base) I.ok.mod.kin M.kp (thn (ha.run pos pins s σ H _ I h) fun us s1 ⟨vs, H1, I1, r, q⟩ => ⟨I1.kIn, ?_⟩) he hpl
  exact run_makeS M F hr hb hd (hx σ) I1 r q
/-- o.m(e, ..) within a try -/
def tMethS (C : Addr) (m : Str) (sp : Sp) (E : L2.St → XK) (ta : TE) (t : TA) : TE := fun σ H Q => ta σ H fun x H1 => ∃ a dx fs, x = .ref a ∧ H1 a = some (.ins C dx fs) ∧ fs.lookup m = none ∧ t σ H1 fun vs H2 => sp (x :: vs) H2 Q (E σ)
theorem pe_methS {pl : Sem Bool} (he : PE X o ta) (c : Cls X.K C) (hm : Meth X.K C m f)
    (F : FnOk X.prog X.w X.K X.mg X.base CX k f fd ps sp) (hr : Room k X.A) (hb : Binds X.K fd ps []) (hx : ∀ σ, PassesAt CX X σ (E σ)) (ha : PA X (e :: es) t)
    (hst : starEach (e :: es) X.env = (false, eval e X.env) :: starEach es X.env := by rfl) (hpl : (backTo pos (starEach es X.env)).any (·.1) = false := by rfl)
    (ht : eval (.Call (.Attribute o m apos) (e :: es) [] pos) X.env = (do
      let ov ← eval o X.env
      standAt apos.atName
      let (f, first) ← holding [ov] (getMethod ov m pl)
      callWith pos f first (backTo pos (starEach (e :: es) X.env)) (backToKw pos (keywordEach [] X.env))) := by rfl) :
    PE X (.Call (.Attribute o m apos) (e :: es) [] pos) (tMethS C m sp E ta t) := by
  refine ⟨fun pins s σ H Q I h => ?_⟩
  refine PySem.W.methodCall_KW (pl := pl) (thn (he.run pins s σ H _ I h) fun u s1 ⟨x, H1, I1, rx, a, dx, fs, ex, ea, l, q⟩ => ?_) ht
  subst ex
  obtain rfl : u = Value.ref a := rx
  refine getmeth_ok I1 ea c hm l ?_
  refine PySem.W.callWith_K (first := [.ref a]) (h₀ := X.base) I.ok.mod.kin hm.kp (thn (ha.run pos pins s1 σ H1 _ I1 q) fun us s2 ⟨vs, H2, I2, r, q2⟩ => ⟨I2.kIn, ?_⟩) hst hpl
  exact run_fnS (us := .ref a :: us) (vs := .ref a :: vs) F hr hb (hx σ) I2 (.cons rfl r) q2
/-- C(), an own exception made by its own __init__ -/
theorem pmk_oex0 {fI : Addr} {ps : List Str} {sp : Sp} (T : OexC X.K C) (iC : PySem.W.findIn X.K (.ref C) "__init__" = some (some (.ref fI))) (tI : PySem.W.typeIn X.K (.ref fI) = some (.type "function"))
    (F1 : FnOk X.prog X.w X.K X.mg X.base CX k fI fd ps sp) (hr : Room (k + 1) X.A) (hb : Binds X.K fd ps []) (hx : Passes CX X (fun _ _ _ => False)) (hg : Gl X x) (hm : X.mg x = some (.ref C))
    (hdb : (x == ("__debug__" : Str)) = false := by decide) :
    PMk X (.Call (.Name x p) [] [] pos) (tMkO C sp [] tNil) := by
  intro pins s σ H Q I h
  obtain ⟨nm, q, N, bs, bm, sn, sub, ab, col, dd, k0, k1, k2, k3, k5, hC, hbm⟩ := T.cls
  refine wpAny_Call_Name_kw (ld_glob I hg hm ?_ hdb)
  refine PySem.W.callWith_K0 I.kIn T.kC ?_
  show wpAny _ _ (call (.ref C) []) _ _ _
  obtain ⟨hz, q1⟩ := h
  obtain ⟨hp, g, dr, tk, os⟩ := s
  have hsz : hp.objs.size ≤ hp.objs.size + 1 := Nat.le_succ _
  have hn : H (hp.objs.size + 1) = none := I.hok.fresh hsz
  have hq := q1 (hp.objs.size + 1) hn
  have kk : ∀ b o, hp.get? b = some o → ((hp.push (PySem.W.kdv_tup [])).push (PySem.HandSPX.excO C hp.objs.size)).get? b = some o := fun b o e => Heap.get?_push_of_some _ (Heap.get?_push_of_some _ e)
  have hget : ((hp.push (PySem.W.kdv_tup [])).push (PySem.HandSPX.excO C hp.objs.size)).get? (hp.objs.size + 1) = some (PySem.HandSPX.excO C hp.objs.size) := by heap_get
  have I2 : Inv X pins σ (upd H (hp.objs.size + 1) (exo (hp.objs.size + 1) C none)) ⟨(hp.push (PySem.W.kdv_tup [])).push (PySem.HandSPX.excO C hp.objs.size), g, dr, tk, os⟩ :=
    I.laid (t' := tk) (a := hp.objs.size + 1) (o := exo (hp.objs.size + 1) C none) (h' := (hp.push (PySem.W.kdv_tup [])).push (PySem.HandSPX.excO C hp.objs.size)) kk hsz (exo_ok hget)
  have r2 : Vals [V.ref (hp.objs.size + 1)] [Value.ref (hp.objs.size + 1)] := .cons rfl .nil
  have hl : [Value.ref (hp.objs.size + 1)].length = ps.length := by
    have e := r2.length
    rw [← F1.len _ _ _ _ hq]
    rfl
  have hus : ([] : List Value).length ≤ sizeLine := by
    rw [sizeLine_eq]
    exact Nat.zero_le _
  refine wpAny_call (PySem.HandSPX.call_own F.excBase_ValueError (fun Y => PySem.HandSPX.refsVE_contains Y bm hbm) (I.kIn _ _ hC) (PySem.W.looks_findIn I.kIn iC) (fun self => PySem.W.bind_fn I.kIn self tI) hus
    (codeAny_mono (F1.run _ X.stack _ _ ⟨[Value.ref (hp.objs.size + 1)], []⟩ [Value.ref (hp.objs.size + 1)] [V.ref (hp.objs.size + 1)] _ (fun _ _ _ => False) (hr.make C [] []) (I2.env0.make C [] []) (by simpa using hb _ [Value.ref (hp.objs.size + 1)] I2.kIn (by simpa using hl)) r2 hq) fun r s' hq' => ?_))
  cases r with
  | error er => exact hx pins σ _ _ er s' I2 hq'
  | ok fl =>
    cases fl with
    | ret u =>
      obtain ⟨v, H2, os2, bare2, un2, hok2, rv, ev, d, fs, ea, ed, hd1, q2⟩ := hq'
      subst ev
      obtain ⟨h2, g2, d2, t2, os'⟩ := s'
      exact ⟨rv, mk_end (raises_own T.exC T.tyC) I hsz kk un2 hok2 os2 bare2 ea ed hd1 q2⟩
    | next => exact False.elim hq'
    | brk => exact False.elim hq'
    | cont => exact False.elim hq'
end
end LR

namespace LR
open PySem PySem.Spec PyProof.Rows L2
section
variable {X : Cx}
/-- * wherever the model lets it -/
theorem op_mulZ : OpR X (binaryOp .Mult) (rI IntMulOk fun i j => .int (i * j)) := opI fun _ _ _ _ _ _ _ hc q => mul_int q hc
end
theorem mulL {i j : Int} (h1 : -(2 ^ 63) ≤ i) (h2 : i ≤ 2 ^ 63) : IntMulOk i j := .of_left (PySem.intBits_le_64 (by omega) (by omega))
theorem mulR {i j : Int} (h1 : -(2 ^ 63) ≤ j) (h2 : j ≤ 2 ^ 63) : IntMulOk i j := .of_right (PySem.intBits_le_64 (by omega) (by omega))
theorem mulW {i j : Int} {a b : Nat} (ha : i.natAbs < 2 ^ a) (hb : j.natAbs < 2 ^ b) (h0 : 0 < a) (h1 : 0 < b) (h : a + b ≤ 1000000) : IntMulOk i j := (wide_mul ha hb h0 h1 h).ok
theorem divZ {i j : Int} {b : Nat} (h : j ≠ 0) (hb : j.natAbs < 2 ^ b) (h0 : 0 < b) (h9 : b ≤ 9000) : CDivZ i j := ⟨h, Nat.lt_of_lt_of_le (PySem.Flt.log2_lt_of h0 hb) h9⟩
/-! what is asked of the written part -/
def oexB (K : PySem.W.Frag) (C : Addr) : Bool := (match K.lookup C with
  | some ⟨.type "type", _, .cls cd, sl⟩ => (match cd.mro, sl.toList with
    | .ref C' :: bm, [_, _, _, _, some (.builtin n), _] => decide (C' = C) && (decide (n = "ValueError.__new__") && (!cd.hasDel && (cd.hasDict && PySem.HandSPX.refsVE bm)))
    | _, _ => false)
  | _ => false) && (decide (PySem.W.findIn K (.ref C) "__setattr__" = some (some (.builtin "object.__setattr__"))) && (decide (PySem.W.subIn K (.ref C) (.type "BaseException") = some true) &&
    (decide (PySem.W.typeIn K (.ref C) = some (.type "type")) && PySem.W.keepIn K (.ref C))))
theorem oexB_ok {K : PySem.W.Frag} {C : Addr} (h : oexB K C = true) : OexC K C := by
  obtain ⟨h1, h⟩ := Bool.and_eq_true_iff.mp h
  obtain ⟨h2, h⟩ := Bool.and_eq_true_iff.mp h
  obtain ⟨h3, h⟩ := Bool.and_eq_true_iff.mp h
  obtain ⟨h4, h5⟩ := Bool.and_eq_true_iff.mp h
  refine ⟨?_, of_decide_eq_true h2, of_decide_eq_true h3, of_decide_eq_true h4, h5⟩
  split at h1
  · rename_i dd cd sl ho
    split at h1
    · rename_i C' bm k0 k1 k2 k3 n k5 hm hs
      simp only [Bool.and_eq_true, decide_eq_true_eq, Bool.not_eq_true'] at h1
      obtain ⟨rfl, rfl, hdel, hdict, hv⟩ := h1
      obtain ⟨nm, bs, mro, ns, qn, hd, sn, sub, ab, col, dl⟩ := cd
      dsimp only at hm hdel hdict
      subst hm hdel hdict
      have hsl : sl = #[k0, k1, k2, k3, some (.builtin "ValueError.__new__"), k5] := by
        obtain ⟨l⟩ := sl
        dsimp only at hs
        rw [hs]
      subst hsl
      exact ⟨nm, qn, ns, bs, bm, sn, sub, ab, col, dd, k0, k1, k2, k3, k5, ho, hv⟩
    · cases h1
  · cases h1
def excB (K : PySem.W.Frag) (D : Addr) : Bool := decide (PySem.W.findIn K (.ref D) "__class__" = some (some (.builtin "object.__class__"))) && (decide (PySem.W.specialIn K (.builtin "object.__class__") "__get__" = some (some (.builtin "getset_descriptor.__get__"))) &&
  (decide (PySem.W.takesIn K (.builtin "object.__class__") = some true) && decide (PySem.W.mroIn K D (.type "object") = some true)))
theorem excB_ok {K : PySem.W.Frag} {D : Addr} (x : xfB K D = true) (h : excB K D = true) : ExcC K D := by
  obtain ⟨h1, h⟩ := Bool.and_eq_true_iff.mp h
  obtain ⟨h2, h⟩ := Bool.and_eq_true_iff.mp h
  obtain ⟨h3, h4⟩ := Bool.and_eq_true_iff.mp h
  have y := xfB_ok x
  exact ⟨y.ga, y.gg, y.exC, y.hdC, of_decide_eq_true h1, of_decide_eq_true h2, of_decide_eq_true h3, of_decide_eq_true h4⟩
/-- an own error class: made by its __init__, its fields read, asked by isinstance, named by except -/
def exAll (K : PySem.W.Frag) (x : Str) : Bool := oexB K (He.ga K x) && (xfB K (He.ga K x) && (excB K (He.ga K x) && (decide (PySem.W.findIn K (.ref (He.ga K x)) "__init__" = some (some (.ref (He.ma K (He.ga K x) "__init__")))) &&
  (decide (PySem.W.typeIn K (.ref (He.ma K (He.ga K x) "__init__")) = some (.type "function")) && decide (PySem.W.exmOne K (.ref (He.ga K x)) (.ref (He.ga K x)) = some true)))))
/-- an own class: its mro, its != -/
def clAll (K : PySem.W.Frag) (x : Str) : Bool := PySem.W.selfFirst K (He.ga K x) && (decide (PySem.W.findIn K (.ref (He.ga K x)) "__ne__" = some (some (.builtin "object.__ne__"))) && (decide (PySem.W.subIn K (.ref (He.ga K x)) (.type "object") = some true) &&
  (decide (PySem.W.findIn K (.ref (He.ga K x)) "__class__" = some (some (.builtin "object.__class__"))) && (decide (PySem.W.specialIn K (.builtin "object.__class__") "__get__" = some (some (.builtin "getset_descriptor.__get__"))) &&
  (decide (PySem.W.takesIn K (.builtin "object.__class__") = some true) && decide (PySem.W.mroIn K (He.ga K x) (.type "object") = some true))))))
/-- a property x.f: its record, its getter -/
def prAd (K : PySem.W.Frag) (x f : Str) : Addr := match PySem.W.findIn K (.ref (He.ga K x)) f with
  | some (some (.ref p)) => p
  | _ => 0
def prGet (K : PySem.W.Frag) (x f : Str) : Addr := match PySem.W.recIn K (prAd K x f) "property" with
  | some (.ref g :: _) => g
  | _ => 0
def prB (K : PySem.W.Frag) (x f : Str) : Bool := decide (PySem.W.findIn K (.ref (He.ga K x)) f = some (some (.ref (prAd K x f)))) && (decide (PySem.W.specialIn K (.ref (prAd K x f)) "__get__" = some (some (.builtin "property.__get__"))) &&
  (decide (PySem.W.takesIn K (.ref (prAd K x f)) = some true) && (match PySem.W.recIn K (prAd K x f) "property" with
    | some (.ref g :: _) => decide (g = prGet K x f)
    | _ => false)))
theorem prB_ok {K : PySem.W.Frag} {x f : Str} (h : prB K x f = true) : PropOf K (He.ga K x) f (prAd K x f) (prGet K x f) := by
  obtain ⟨h1, h⟩ := Bool.and_eq_true_iff.mp h
  obtain ⟨h2, h⟩ := Bool.and_eq_true_iff.mp h
  obtain ⟨h3, h4⟩ := Bool.and_eq_true_iff.mp h
  refine ⟨of_decide_eq_true h1, of_decide_eq_true h2, of_decide_eq_true h3, ?_⟩
  split at h4
  · rename_i g rest e
    exact ⟨rest, by rw [e, of_decide_eq_true h4]⟩
  · cases h4
/-- one def: its address in the written part, its name, qualified name, parameters, body, scope, defaults -/
structure Df where
  at_ : PySem.W.Frag → Addr
  name : Str
  qual : Str
  params : Arguments
  body : List Stmt
  scope : Scope
  dfl : List He.Dv := []
def fnWA (K : PySem.W.Frag) (f : Addr) : He.FnW := match K.lookup f with
  | some ⟨_, _, .func fd, _⟩ => some (fd.name, fd.qualname, fd.params, fd.body, fd.scope, fd.globals, fd.closure, fd.builtins)
  | _ => none
def Df.val (d : Df) : He.FnW := some (d.name, d.qual, d.params, .stmts d.body, d.scope, mainGlobals, [], builtinsNs)
def Df.dvs (K : PySem.W.Frag) (d : Df) : List V := d.dfl.map (He.Dv.v K)
def Df.ok (K : PySem.W.Frag) (d : Df) : Bool := PySem.W.keepIn K (.ref (d.at_ K)) && (match K.lookup (d.at_ K) with
  | some ⟨_, _, .func fd, _⟩ => PySem.W.codeIn K fd.code d.qual && He.dflB K fd.defaults (d.dvs K)
  | _ => false)
theorem Df.funD {K : PySem.W.Frag} {d : Df} (e : fnWA K (d.at_ K) = d.val) (c : d.ok K = true) : ∃ fd, FunD K d.name d.qual d.params d.body d.scope (d.dvs K) [] (d.at_ K) fd := by
  obtain ⟨kp, c2⟩ := Bool.and_eq_true_iff.mp c
  unfold fnWA at e
  cases q : K.lookup (d.at_ K) with
  | none =>
    rw [q] at c2
    exact absurd c2 Bool.false_ne_true
  | some o =>
    obtain ⟨oc, od, dt, osl⟩ := o
    rw [q] at c2 e
    cases dt with
    | func fd =>
      obtain ⟨n1, n2, n3, n4, n5, n6, n7, n8, n9, n10, n11, n12, n13, n14, n15⟩ := fd
      have e2 : (some (n1, n2, n3, n4, n5, n6, n7, n15) : He.FnW) = some (d.name, d.qual, d.params, .stmts d.body, d.scope, mainGlobals, [], builtinsNs) := e
      simp only [Option.some.injEq, Prod.mk.injEq] at e2
      obtain ⟨h1, h2, h3, h4, h5, h6, h7, h8⟩ := e2
      subst h1 h2 h3 h4 h5 h6 h7 h8
      obtain ⟨k1, k2⟩ := Bool.and_eq_true_iff.mp (show (PySem.W.codeIn K n13 d.qual && He.dflB K n8 (d.dvs K)) = true from c2)
      exact ⟨_, ⟨oc, od, n8, n9, n10, n11, n12, n13, n14, osl, rfl, q, k1, He.dflB_ok k2, .inl rfl⟩, kp⟩
    | _ => exact absurd c2 Bool.false_ne_true
/-- the lists of a law: global names (defs, classes), free ones, own classes, error classes, methods, attributes that no class holds, names of functions of other modules, answers of isinstance, properties; the defs -/
structure Ls where
  gl : List Str
  fr : List Str
  cl : List Str := []
  ex : List Str := []
  me : List (Str × Str) := []
  no : List (Str × Str) := []
  bl : List (Str × String) := []
  kit : List (Value × Str × Bool) := []
  kie : List (Str × Str × Bool) := []
  kiv : List (Str × String × Bool) := []
  pr : List (Str × Str) := []
  nf : List (Str × String) := []
  fn : List Df
def Ls.fa (L : Ls) : List He.Fa := L.gl.map He.Fa.glo ++ (L.gl.map He.Fa.keep ++ (L.fr.map He.Fa.free ++ (L.cl.map He.Fa.cls ++ (L.cl.map He.Fa.mkr ++ (L.me.map (fun p => He.Fa.meth p.1 p.2) ++ L.no.map (fun p => He.Fa.noat p.1 p.2))))))
def Ls.exb (L : Ls) (K : PySem.W.Frag) : Bool := L.cl.all (clAll K) && (L.ex.all (exAll K) && (L.bl.all (fun p => decide (PySem.W.nsIn K mainGlobals p.1 = some (some (.builtin p.2)))) && (L.kit.all (fun p => decide (PySem.W.kitOne K p.1 (.ref (He.ga K p.2.1)) = some p.2.2)) &&
  (L.kie.all (fun p => decide (PySem.W.kitOne K (.ref (He.ga K p.1)) (.ref (He.ga K p.2.1)) = some p.2.2)) && (L.kiv.all (fun p => decide (PySem.W.kitOne K (.ref (He.ga K p.1)) (.type p.2.1) = some p.2.2)) && (L.pr.all (fun p => prB K p.1 p.2) &&
  L.nf.all (fun p => PySem.W.notFirst K (He.ga K p.1) (.type p.2))))))))
def adrs : Nat → List Addr
  | 0 => []
  | n + 1 => n :: adrs n
abbrev AlL : Type := Bool × List He.FnW
def Ls.obs (L : Ls) (K : PySem.W.Frag) : AlL := ((L.fa.all fun f => f.ok K) && ((L.fn.all fun d => d.ok K) && L.exb K), L.fn.map fun d => fnWA K (d.at_ K))
def Ls.val (L : Ls) : AlL := (true, L.fn.map Df.val)
def Ls.obsG (n : Nat) (L : Ls) (g : Addr → Option Obj) : AlL := L.obs (He.frG g (adrs n))
def hookL (n : Nat) (L : Ls) : PySem.W.Hook where
  α := AlL
  obs := fun s => L.obsG n s.heap.get?
  val := fun _ => L.val
  says := fun _ h => ∃ K : PySem.W.Frag, K.In h ∧ L.obs K = L.val
  of := fun _ _ e => ⟨_, He.frG_in, e⟩
  keeps := fun _ _ _ ⟨K, hK, c⟩ k => ⟨K, PySem.W.Frag.In.keeps hK k, c⟩
theorem Ls.obsG_eq {n : Nat} {L : Ls} {g : Addr → Option Obj} {s : Shared} (h : ∀ a, g a = s.heap.get? a) : L.obsG n g = (hookL n L).obs s := by
  rw [show g = s.heap.get? from funext h] <;> rfl
structure Txt (L : Ls) (K : PySem.W.Frag) (mg : Str → Option Value) : Prop where
  gA : ∀ x ∈ L.gl, mg x = some (.ref (He.ga K x))
  kA : ∀ x ∈ L.gl, PySem.W.keepIn K (.ref (He.ga K x)) = true
  fA : ∀ x ∈ L.fr, mg x = none
  clA : ∀ x ∈ L.cl, Cls K (He.ga K x)
  mkA : ∀ x ∈ L.cl, Mk K (He.ga K x) (He.ma K (He.ga K x) "__init__")
  meA : ∀ p ∈ L.me, Meth K (He.ga K p.1) p.2 (He.ma K (He.ga K p.1) p.2)
  noA : ∀ p ∈ L.no, NoAttr K (He.ga K p.1) p.2
  c2A : ∀ x ∈ L.cl, clAll K x = true
  exA : ∀ x ∈ L.ex, exAll K x = true
  blA : ∀ p ∈ L.bl, mg p.1 = some (.builtin p.2)
  kitA : ∀ p ∈ L.kit, PySem.W.kitOne K p.1 (.ref (He.ga K p.2.1)) = some p.2.2
  kieA : ∀ p ∈ L.kie, PySem.W.kitOne K (.ref (He.ga K p.1)) (.ref (He.ga K p.2.1)) = some p.2.2
  kivA : ∀ p ∈ L.kiv, PySem.W.kitOne K (.ref (He.ga K p.1)) (.type p.2.1) = some p.2.2
  prA : ∀ p ∈ L.pr, prB K p.1 p.2 = true
  nfA : ∀ p ∈ L.nf, PySem.W.notFirst K (He.ga K p.1) (.type p.2) = true
  dA : ∀ (i : Nat) (d : Df), L.fn[i]? = some d → ∃ fd, FunD K d.name d.qual d.params d.body d.scope (d.dvs K) [] (d.at_ K) fd
theorem Txt.of {L : Ls} {K : PySem.W.Frag} {mg : Str → Option Value} {h : Heap} (X : K.In h) (G : h.Ns mainGlobals mg) (c : L.obs K = L.val) : Txt L K mg := by
  obtain ⟨c1, c2⟩ := Prod.mk.inj (show ((L.fa.all fun f => f.ok K) && ((L.fn.all fun d => d.ok K) && L.exb K), L.fn.map fun d => fnWA K (d.at_ K)) = (true, L.fn.map Df.val) from c)
  obtain ⟨c3, c4⟩ := Bool.and_eq_true_iff.mp c1
  obtain ⟨c5, m⟩ := Bool.and_eq_true_iff.mp c4
  have f : ∀ g ∈ L.fa, g.ok K = true := fun g hg => List.all_eq_true.mp c3 g hg
  unfold Ls.exb at m
  simp only [Bool.and_eq_true, List.all_eq_true, decide_eq_true_eq] at m
  obtain ⟨m1, m2, m3, m4, m5, m6, m7, m8⟩ := m
  have i1 : ∀ g ∈ L.gl.map He.Fa.glo, g ∈ L.fa := fun g hg => List.mem_append_left _ hg
  have i2 : ∀ g ∈ L.gl.map He.Fa.keep, g ∈ L.fa := fun g hg => List.mem_append_right _ (List.mem_append_left _ hg)
  have i3 : ∀ g ∈ L.fr.map He.Fa.free, g ∈ L.fa := fun g hg => List.mem_append_right _ (List.mem_append_right _ (List.mem_append_left _ hg))
  have i4 : ∀ g ∈ L.cl.map He.Fa.cls, g ∈ L.fa := fun g hg => List.mem_append_right _ (List.mem_append_right _ (List.mem_append_right _ (List.mem_append_left _ hg)))
  have i5 : ∀ g ∈ L.cl.map He.Fa.mkr, g ∈ L.fa := fun g hg => List.mem_append_right _ (List.mem_append_right _ (List.mem_append_right _ (List.mem_append_right _ (List.mem_append_left _ hg))))
  have i6 : ∀ g ∈ L.me.map (fun p => He.Fa.meth p.1 p.2), g ∈ L.fa := fun g hg => List.mem_append_right _ (List.mem_append_right _ (List.mem_append_right _ (List.mem_append_right _ (List.mem_append_right _ (List.mem_append_left _ hg)))))
  have i7 : ∀ g ∈ L.no.map (fun p => He.Fa.noat p.1 p.2), g ∈ L.fa := fun g hg => List.mem_append_right _ (List.mem_append_right _ (List.mem_append_right _ (List.mem_append_right _ (List.mem_append_right _ (List.mem_append_right _ hg)))))
  exact
    { gA := fun x hx => He.glo_ok X G (f _ (i1 _ (List.mem_map_of_mem hx)))
      kA := fun x hx => He.keep_ok (f _ (i2 _ (List.mem_map_of_mem hx)))
      fA := fun x hx => He.free_ok X G (f _ (i3 _ (List.mem_map_of_mem hx)))
      clA := fun x hx => He.cls_ok (f _ (i4 _ (List.mem_map_of_mem hx)))
      mkA := fun x hx => He.mkr_ok (f _ (i5 _ (List.mem_map_of_mem hx)))
      meA := fun p hp => He.meth_ok (f _ (i6 _ (List.mem_map_of_mem (f := fun p => He.Fa.meth p.1 p.2) hp)))
      noA := fun p hp => He.noat_ok (f _ (i7 _ (List.mem_map_of_mem (f := fun p => He.Fa.noat p.1 p.2) hp)))
      c2A := m1, exA := m2, blA := fun p hp => PySem.W.mg_of X G (m3 p hp), kitA := m4, kieA := m5, kivA := m6, prA := m7, nfA := m8
      dA := fun i d hd => by
        have e2 : (L.fn.map fun d => fnWA K (d.at_ K))[i]? = (L.fn.map Df.val)[i]? := by rw [c2]
        rw [List.getElem?_map, List.getElem?_map, hd] at e2
        exact Df.funD (Option.some.inj e2) (List.all_eq_true.mp c5 d (List.mem_of_getElem? hd)) }
section
variable {L : Ls} {K : PySem.W.Frag} {mg : Str → Option Value} (T : Txt L K mg)
include T
theorem Txt.g (x : Str) (h : x ∈ L.gl := by decide +kernel) : mg x = some (.ref (He.ga K x)) := T.gA x h
theorem Txt.k (x : Str) (h : x ∈ L.gl := by decide +kernel) : PySem.W.keepIn K (.ref (He.ga K x)) = true := T.kA x h
theorem Txt.f (x : Str) (h : x ∈ L.fr := by decide +kernel) : mg x = none := T.fA x h
theorem Txt.cl (x : Str) (h : x ∈ L.cl := by decide +kernel) : Cls K (He.ga K x) := T.clA x h
theorem Txt.mkk (x : Str) (h : x ∈ L.cl := by decide +kernel) : Mk K (He.ga K x) (He.ma K (He.ga K x) "__init__") := T.mkA x h
theorem Txt.me (x m : Str) (h : (x, m) ∈ L.me := by decide +kernel) : Meth K (He.ga K x) m (He.ma K (He.ga K x) m) := T.meA (x, m) h
theorem Txt.no (x m : Str) (h : (x, m) ∈ L.no := by decide +kernel) : NoAttr K (He.ga K x) m := T.noA (x, m) h
theorem Txt.b (x : Str) (y : String) (h : (x, y) ∈ L.bl := by decide +kernel) : mg x = some (.builtin y) := T.blA (x, y) h
theorem Txt.own (x m : Str) (h : (x, m) ∈ L.me := by decide +kernel) : PySem.W.findIn K (.ref (He.ga K x)) m = some (some (.ref (He.ma K (He.ga K x) m))) := (T.meA (x, m) h).at_
theorem Txt.fnn (x m : Str) (h : (x, m) ∈ L.me := by decide +kernel) : PySem.W.isFn K (.ref (He.ma K (He.ga K x) m)) = true := (T.meA (x, m) h).fn
theorem Txt.first (x : Str) (h : x ∈ L.cl := by decide +kernel) : PySem.W.selfFirst K (He.ga K x) = true := (Bool.and_eq_true_iff.mp (T.c2A x h)).1
theorem Txt.ne (x : Str) (h : x ∈ L.cl := by decide +kernel) : PySem.W.findIn K (.ref (He.ga K x)) "__ne__" = some (some (.builtin "object.__ne__")) := of_decide_eq_true (Bool.and_eq_true_iff.mp (Bool.and_eq_true_iff.mp (T.c2A x h)).2).1
theorem Txt.ob (x : Str) (h : x ∈ L.cl := by decide +kernel) : PySem.W.subIn K (.ref (He.ga K x)) (.type "object") = some true := of_decide_eq_true (Bool.and_eq_true_iff.mp (Bool.and_eq_true_iff.mp (Bool.and_eq_true_iff.mp (T.c2A x h)).2).2).1
/-- an instance of the class, for isinstance -/
theorem Txt.ty (x : Str) {H : Hp} {a dx : Addr} {fs : List (Str × V)} (e : H a = some (.ins (He.ga K x) dx fs)) (h : x ∈ L.cl := by decide +kernel) : TyX K H (.ref a) (.ref (He.ga K x)) := by
  have q := T.c2A x h
  unfold clAll at q
  simp only [Bool.and_eq_true, decide_eq_true_eq] at q
  obtain ⟨_, _, _, q4, q5, q6, q7⟩ := q
  exact .base (.ins e (T.clA x h) q4 q5 q6 q7)
theorem Txt.nfs (x : Str) (h : x ∈ L.cl := by decide +kernel) : PySem.W.notFirst K (He.ga K x) (.ref (He.ga K x)) = true := by
  unfold PySem.W.notFirst
  first
    | simp
    | rfl
theorem Txt.nf (x : Str) (t : String) (h : (x, t) ∈ L.nf := by decide +kernel) : PySem.W.notFirst K (He.ga K x) (.type t) = true := T.nfA (x, t) h
theorem Txt.oex (x : Str) (h : x ∈ L.ex := by decide +kernel) : OexC K (He.ga K x) := oexB_ok (Bool.and_eq_true_iff.mp (T.exA x h)).1
theorem Txt.exa (x : Str) (h : x ∈ L.ex := by decide +kernel) : XfC K (He.ga K x) ∧ ExcC K (He.ga K x) ∧ PySem.W.findIn K (.ref (He.ga K x)) "__init__" = some (some (.ref (He.ma K (He.ga K x) "__init__"))) ∧
    PySem.W.typeIn K (.ref (He.ma K (He.ga K x) "__init__")) = some (.type "function") ∧ PySem.W.exmOne K (.ref (He.ga K x)) (.ref (He.ga K x)) = some true := by
  obtain ⟨_, q⟩ := Bool.and_eq_true_iff.mp (T.exA x h)
  obtain ⟨q1, q⟩ := Bool.and_eq_true_iff.mp q
  obtain ⟨q2, q⟩ := Bool.and_eq_true_iff.mp q
  obtain ⟨q3, q⟩ := Bool.and_eq_true_iff.mp q
  obtain ⟨q4, q5⟩ := Bool.and_eq_true_iff.mp q
  exact ⟨xfB_ok q1, excB_ok q1 q2, of_decide_eq_true q3, of_decide_eq_true q4, of_decide_eq_true q5⟩
theorem Txt.exI (x : Str) (h : x ∈ L.ex := by decide +kernel) : PySem.W.findIn K (.ref (He.ga K x)) "__init__" = some (some (.ref (He.ma K (He.ga K x) "__init__"))) := (T.exa x h).2.2.1
theorem Txt.exT (x : Str) (h : x ∈ L.ex := by decide +kernel) : PySem.W.typeIn K (.ref (He.ma K (He.ga K x) "__init__")) = some (.type "function") := (T.exa x h).2.2.2.1
theorem Txt.exM (x : Str) (h : x ∈ L.ex := by decide +kernel) : PySem.W.exmOne K (.ref (He.ga K x)) (.ref (He.ga K x)) = some true := (T.exa x h).2.2.2.2
theorem Txt.kit (t : Value) (x : Str) (b : Bool) (h : (t, x, b) ∈ L.kit := by decide +kernel) : PySem.W.kitOne K t (.ref (He.ga K x)) = some b := T.kitA (t, x, b) h
theorem Txt.kie (y x : Str) (b : Bool) (h : (y, x, b) ∈ L.kie := by decide +kernel) : PySem.W.kitOne K (.ref (He.ga K y)) (.ref (He.ga K x)) = some b := T.kieA (y, x, b) h
theorem Txt.kiv (y : Str) (t : String) (b : Bool) (h : (y, t, b) ∈ L.kiv := by decide +kernel) : PySem.W.kitOne K (.ref (He.ga K y)) (.type t) = some b := T.kivA (y, t, b) h
theorem Txt.pr (x f : Str) (h : (x, f) ∈ L.pr := by decide +kernel) : PropOf K (He.ga K x) f (prAd K x f) (prGet K x f) := prB_ok (T.prA (x, f) h)
theorem Txt.d (i : Nat) {d : Df} (h : L.fn[i]? = some d := by rfl) : ∃ fd, FunD K d.name d.qual d.params d.body d.scope (d.dvs K) [] (d.at_ K) fd := T.dA i d h
end
/-- the def at f keeps its promise; all parameters written -/
def Ok (P : Program) (w : World) (K : PySem.W.Frag) (mg : Str → Option Value) (base : Heap) (f : Addr) (k : Nat) (ps : List Str) (sp : Sp) : Prop := ∃ fd, FnOk P w K mg base (L2.CX P w) k f fd ps sp ∧ Binds K fd ps []
theorem Ok.of {P : Program} {w : World} {K : PySem.W.Frag} {mg : Str → Option Value} {base : Heap} {x qual : Str} {params : Arguments} {body : List Stmt} {scope : Scope} {f : Addr} {N ps : List Str} {k : Nat} {sp : Sp}
    (h : ∃ fd, FunD K x qual params body scope [] [] f fd) (S : FnScope N ps scope)
    (hb : ∀ (kV doc pm : Value) (an : Option Addr) (cdv ct : Value) (us : List Value), us.length = ps.length → bindArgs (PySem.W.fnOf x qual params body scope .none kV doc pm an cdv ct) ⟨us, []⟩ = pure (ps.zip us))
    (len : ∀ vs H Q E, sp vs H Q E → vs.length = ps.length)
    (hbody : ∀ (fd : FuncData) (cdv : Value) (A : Around) (outer : List Env) (s : Shared) (H : Hp) (vs : List V) (Q : VK) (E : XK), Room k (A.deeper (envOfC qual scope s.heap.objs.size f cdv)) → sp vs H Q E →
      ∃ t, PSs (cxOf (L2.CX P w) P w K mg base N qual scope f cdv A outer s H E) body t ∧ t { nx := fun _ H' => Q .non H', rt := Q } (start N vs) H) : Ok P w K mg base f (k + 1) ps sp := by
  obtain ⟨fd, F⟩ := h
  exact ⟨fd, F.ok S len fun cdv A outer s H vs Q E hr hsp => hbody fd cdv A outer s H vs Q E hr hsp, F.bindsN hb⟩
/-! helpers -/
theorem ints_ix {ns : List Int} {i : Nat} {x : V} (h : (ns.map V.int)[i]? = some x) : ∃ z, ns[i]? = some z ∧ x = .int z := by
  rw [List.getElem?_map] at h
  cases e : ns[i]? with
  | none =>
    rw [e] at h
    cases h
  | some z =>
    rw [e] at h
    exact ⟨z, rfl, (Option.some.inj h).symm⟩
theorem cut_ints (ns : List Int) (lo hi : Option Int) : ∃ ms : List Int, cutV (ns.map V.int) lo hi = ms.map V.int ∧ ms.length ≤ ns.length ∧ ∀ z ∈ ms, z ∈ ns := by
  unfold cutV
  refine ⟨(ns.drop (HT.sIx (ns.map V.int).length 0 lo)).take (HT.sIx (ns.map V.int).length (ns.map V.int).length hi - HT.sIx (ns.map V.int).length 0 lo), ?_, ?_, fun z hz => List.mem_of_mem_drop (List.mem_of_mem_take hz)⟩
  · rw [List.map_take, List.map_drop]
  · rw [List.length_take, List.length_drop]
    omega
theorem at_ix {α : Type} {xs : List α} {k : Int} (h0 : 0 ≤ k) (h1 : k < (xs.length : Int)) : ∃ x, xs[k.toNat]? = some x ∧ x ∈ xs ∧ atI xs k = some x := by
  have hk : k.toNat < xs.length := by omega
  refine ⟨xs[k.toNat], List.getElem?_eq_getElem hk, List.getElem_mem hk, ?_⟩
  have e := atI_nat (List.getElem?_eq_getElem hk)
  rw [Int.toNat_of_nonneg h0] at e
  exact e
theorem at_ints {ns : List Int} {k : Int} (h0 : 0 ≤ k) (h1 : k < (ns.length : Int)) : ∃ z, z ∈ ns ∧ ns[k.toNat]? = some z ∧ atI (ns.map V.int) k = some (.int z) := by
  obtain ⟨x, e, _, q⟩ := at_ix (xs := ns.map V.int) h0 (by rw [List.length_map]; exact h1)
  obtain ⟨z, ez, rfl⟩ := ints_ix e
  exact ⟨z, List.mem_of_getElem? ez, ez, q⟩
theorem abs_nn (i : Int) : 0 ≤ (if i < 0 then -i else i) := by
  split <;> omega
theorem same_new {H : Hp} {p : Addr} {o : HO} (h : H p = none) : Same H (upd H p o) := fun b u e => by
  rw [upd_ne (ne_of_none e h)]
  exact e
theorem same_new' {H H1 : Hp} {p : Addr} {o : HO} (s : Same H H1) (h : H1 p = none) : Same H (upd H1 p o) := s.trans (same_new h)
/-- what H does not know may change -/
theorem same_mut {H H1 : Hp} {p : Addr} {o : HO} (s : Same H H1) (h : H p = none) : Same H (upd H1 p o) := fun b u e => by
  rw [upd_ne (ne_of_none e h)]
  exact s b u e
theorem fmod_lo (i : Int) {j : Int} (h : 0 < j) : 0 ≤ i.fmod j := Int.fmod_nonneg_of_pos i h
theorem fmod_hi (i : Int) {j : Int} (h : 0 < j) : i.fmod j < j := Int.fmod_lt_of_pos i h
theorem sz100 {n : Nat} (h : n ≤ 100000) : n < sizeLine := Nat.lt_of_le_of_lt h (by decide)
theorem mulF {a b j : Int} (h0 : 0 < b) (h1 : b ≤ 2 ^ 63) : IntMulOk (a.fmod b) j := mulL (Int.le_trans (by decide) (fmod_lo a h0)) (Int.le_trans (Int.le_of_lt (fmod_hi a h0)) h1)
theorem pside {p : Prop} (h : p) : p := h
/-- .. of a def whose last parameter has a default -/
def OkD (P : Program) (w : World) (K : PySem.W.Frag) (mg : Str → Option Value) (base : Heap) (f : Addr) (k : Nat) (ps : List Str) (dv : V) (sp : Sp) : Prop :=
  ∃ fd, FnOk P w K mg base (L2.CX P w) k f fd ps sp ∧ Binds K fd ps [] ∧ ∃ ds, Vals [dv] ds ∧ Binds K fd ps ds
theorem OkD.of {P : Program} {w : World} {K : PySem.W.Frag} {mg : Str → Option Value} {base : Heap} {x qual : Str} {params : Arguments} {body : List Stmt} {scope : Scope} {f : Addr} {N ps : List Str} {k : Nat} {sp : Sp} {dv : V}
    (h : ∃ fd, FunD K x qual params body scope [dv] [] f fd) (S : FnScope N ps scope)
    (hb : ∀ (n : Nat), (n = ps.length ∨ n + 1 = ps.length) → ∀ (T : Addr) (kV doc pm : Value) (an : Option Addr) (cdv ct : Value) (us its : List Value), us.length = n → its.length = 1 →
      ∃ k, bindArgs (PySem.W.fnOf x qual params body scope (.ref T) kV doc pm an cdv ct) ⟨us, []⟩ = seqItems? (.ref T) >>= k ∧ k (some its.toArray) = pure (ps.zip (us ++ its.drop (n + 1 - ps.length))))
    (h1 : 1 ≤ ps.length) (len : ∀ vs H Q E, sp vs H Q E → vs.length = ps.length)
    (hbody : ∀ (fd : FuncData) (cdv : Value) (A : Around) (outer : List Env) (s : Shared) (H : Hp) (vs : List V) (Q : VK) (E : XK), Room k (A.deeper (envOfC qual scope s.heap.objs.size f cdv)) → sp vs H Q E →
      ∃ t, PSs (cxOf (L2.CX P w) P w K mg base N qual scope f cdv A outer s H E) body t ∧ t { nx := fun _ H' => Q .non H', rt := Q } (start N vs) H) : OkD P w K mg base f (k + 1) ps dv sp := by
  obtain ⟨fd, F⟩ := h
  refine ⟨fd, F.ok S len fun cdv A outer s H vs Q E hr hsp => hbody fd cdv A outer s H vs Q E hr hsp, ?_, ?_⟩
  · obtain ⟨ds, v, b⟩ := F.binds1 (ps := ps) ps.length 1 (by simp) (by simp) (fun T kV doc pm an cdv ct us its hu hi => by
      obtain ⟨k, e1, e2⟩ := hb ps.length (.inl rfl) T kV doc pm an cdv ct us its hu hi
      rw [show ps.length + 1 - ps.length = 1 by omega] at e2
      exact ⟨k, e1, e2⟩)
    cases v
    exact b
  · obtain ⟨ds, v, b⟩ := F.binds1 (ps := ps) (ps.length - 1) 0 (by simp) (by simp; omega) (fun T kV doc pm an cdv ct us its hu hi => by
      obtain ⟨k, e1, e2⟩ := hb (ps.length - 1) (.inr (by omega)) T kV doc pm an cdv ct us its hu hi
      rw [show ps.length - 1 + 1 - ps.length = 0 by omega] at e2
      exact ⟨k, e1, e2⟩)
    exact ⟨ds, v, b⟩
end LR

namespace LR
open PySem PySem.Spec PyProof.Rows L2
/-! ### ratios in lowest terms -/
/-- the greatest common divisor of tops and bottom -/
def cg (ts : List Int) (b : Int) : Nat := ts.foldl (fun g t => Nat.gcd g t.natAbs) b.natAbs
/-- .. with the sign of the bottom -/
def gs (ts : List Int) (b : Int) : Int := if b > 0 then (cg ts b : Int) else -(cg ts b : Int)
def nT (t b : Int) : Int := t.fdiv (gs [t] b)
def nB (t b : Int) : Int := b.fdiv (gs [t] b)
structure Nrm (t b : Int) : Prop where
  pos : 0 < b
  cop : Nat.gcd b.natAbs t.natAbs = 1
theorem cg1 (t b : Int) : cg [t] b = Nat.gcd b.natAbs t.natAbs := rfl
theorem fold_one : ∀ ts : List Int, ts.foldl (fun g t => Nat.gcd g t.natAbs) 1 = 1
  | [] => rfl
  | t :: r => by
    show r.foldl (fun g t => Nat.gcd g t.natAbs) (Nat.gcd 1 t.natAbs) = 1
    rw [Nat.gcd_one_left]
    exact fold_one r
theorem cg_dvd (ts : List Int) (b : Int) : cg ts b ∣ b.natAbs ∧ ∀ t ∈ ts, cg ts b ∣ t.natAbs := by
  have key : ∀ (ts : List Int) (g : Nat), ts.foldl (fun g t => Nat.gcd g t.natAbs) g ∣ g ∧ ∀ t ∈ ts, ts.foldl (fun g t => Nat.gcd g t.natAbs) g ∣ t.natAbs := by
    intro ts
    induction ts with
    | nil => exact fun g => ⟨Nat.dvd_refl g, fun t h => by cases h⟩
    | cons a r ih =>
      intro g
      obtain ⟨h1, h2⟩ := ih (Nat.gcd g a.natAbs)
      refine ⟨Nat.dvd_trans h1 (Nat.gcd_dvd_left _ _), fun t ht => ?_⟩
      rcases List.mem_cons.mp ht with e | e
      · rw [e]
        exact Nat.dvd_trans h1 (Nat.gcd_dvd_right _ _)
      · exact h2 t e
  exact key ts b.natAbs
theorem cg_pos {ts : List Int} {b : Int} (h : b ≠ 0) : 0 < cg ts b := Nat.pos_of_dvd_of_pos (cg_dvd ts b).1 (by omega)
theorem cg_le {ts : List Int} {b : Int} (h : b ≠ 0) : cg ts b ≤ b.natAbs := Nat.le_of_dvd (by omega) (cg_dvd ts b).1
theorem gs_abs (ts : List Int) (b : Int) : (gs ts b).natAbs = cg ts b := by
  unfold gs
  split <;> omega
theorem gs_ne {ts : List Int} {b : Int} (h : b ≠ 0) : gs ts b ≠ 0 := by
  have q := gs_abs ts b
  have p := cg_pos (ts := ts) h
  omega
theorem gs_le {ts : List Int} {b : Int} (h : b ≠ 0) : (gs ts b).natAbs ≤ b.natAbs := by
  rw [gs_abs]
  exact cg_le h
theorem gs_dvd (t b : Int) : gs [t] b ∣ t ∧ gs [t] b ∣ b := by
  obtain ⟨h1, h2⟩ := cg_dvd [t] b
  constructor
  · exact Int.natAbs_dvd_natAbs.mp (by rw [gs_abs]; exact h2 t (List.mem_singleton.mpr rfl))
  · exact Int.natAbs_dvd_natAbs.mp (by rw [gs_abs]; exact h1)
theorem nT_ed (t b : Int) : nT t b = t / gs [t] b := Int.fdiv_eq_ediv_of_dvd (gs_dvd t b).1
theorem nB_ed (t b : Int) : nB t b = b / gs [t] b := Int.fdiv_eq_ediv_of_dvd (gs_dvd t b).2
theorem nT_abs (t b : Int) : (nT t b).natAbs = t.natAbs / Nat.gcd b.natAbs t.natAbs := by
  rw [nT_ed, Int.natAbs_ediv_of_dvd (gs_dvd t b).1, gs_abs, cg1]
theorem nB_abs (t b : Int) : (nB t b).natAbs = b.natAbs / Nat.gcd b.natAbs t.natAbs := by
  rw [nB_ed, Int.natAbs_ediv_of_dvd (gs_dvd t b).2, gs_abs, cg1]
theorem nT_le (t b : Int) : (nT t b).natAbs ≤ t.natAbs := Int.natAbs_fdiv_le_natAbs _ _
theorem nB_le (t b : Int) : (nB t b).natAbs ≤ b.natAbs := Int.natAbs_fdiv_le_natAbs _ _
theorem nB_pos {t b : Int} (h : b ≠ 0) : 0 < nB t b := by
  have e : nB t b * gs [t] b = b := by
    rw [nB_ed]
    exact Int.ediv_mul_cancel (gs_dvd t b).2
  have p := cg_pos (ts := [t]) h
  unfold gs at e
  split at e
  · rename_i hb
    rcases Int.lt_or_le 0 (nB t b) with q | q
    · exact q
    · have z : nB t b * (cg [t] b : Int) ≤ 0 := Int.mul_nonpos_of_nonpos_of_nonneg q (Int.natCast_nonneg _)
      omega
  · rename_i hb
    rcases Int.lt_or_le 0 (nB t b) with q | q
    · exact q
    · have z : 0 ≤ nB t b * -(cg [t] b : Int) := Int.mul_nonneg_of_nonpos_of_nonpos q (by omega)
      omega
theorem nrm_of {t b : Int} (h : b ≠ 0) : Nrm (nT t b) (nB t b) := by
  refine ⟨nB_pos h, ?_⟩
  rw [nT_abs, nB_abs]
  exact Nat.gcd_div_gcd_div_gcd_of_pos_left (by omega)
theorem gs_nrm {t b : Int} (h : Nrm t b) : gs [t] b = 1 := by
  unfold gs
  rw [if_pos h.pos, cg1, h.cop]
  rfl
theorem nT_nrm {t b : Int} (h : Nrm t b) : nT t b = t := by
  unfold nT
  rw [gs_nrm h, Int.fdiv_one]
theorem nB_nrm {t b : Int} (h : Nrm t b) : nB t b = b := by
  unfold nB
  rw [gs_nrm h, Int.fdiv_one]
theorem gs_neg (t b : Int) : gs [-t] b = gs [t] b := by
  unfold gs
  rw [cg1, cg1, Int.natAbs_neg]
theorem nT_neg (t b : Int) : nT (-t) b = -nT t b := by
  rw [nT_ed, nT_ed, gs_neg, Int.neg_ediv_of_dvd (gs_dvd t b).1]
theorem nB_neg (t b : Int) : nB (-t) b = nB t b := by
  unfold nB
  rw [gs_neg]
theorem Nrm.neg {t b : Int} (h : Nrm t b) : Nrm (-t) b := ⟨h.pos, by rw [Int.natAbs_neg]; exact h.cop⟩
theorem Nrm.abs {t b : Int} (h : Nrm t b) : Nrm (if t < 0 then -t else t) b := by
  split
  · exact h.neg
  · exact h
theorem Nrm.one (t : Int) : Nrm t 1 := ⟨by decide, Nat.gcd_one_left _⟩
theorem Nrm.zero {b : Int} (h : b ≠ 0) : nT 0 b = 0 ∧ nB 0 b = 1 := by
  have q := nrm_of (t := 0) h
  have e : nT 0 b = 0 := Int.zero_fdiv _
  refine ⟨e, ?_⟩
  have c := q.cop
  rw [e, show ((0 : Int)).natAbs = 0 from rfl, Nat.gcd_zero_right] at c
  have p := q.pos
  omega
/-! ### Euclid, turn by turn -/
theorem mod_half {n m : Nat} (h : m ≤ n) (hm : 0 < m) : 2 * (n % m) ≤ n := by
  have h1 : n % m < m := Nat.mod_lt _ hm
  have h2 : n % m + m * (n / m) = n := Nat.mod_add_div n m
  have h3 : 1 ≤ n / m := (Nat.one_le_div_iff hm).mpr h
  have h4 : m * 1 ≤ m * (n / m) := Nat.mul_le_mul_left m h3
  omega
/-- behind i turns, b not zero so far -/
structure Euc (g B i a b : Nat) : Prop where
  gcd : Nat.gcd a b = g
  lo : b * 2 ^ (i / 2) ≤ B
  up : 1 ≤ i → b < a ∧ a * 2 ^ ((i - 1) / 2) ≤ B
theorem Euc.start (a b : Nat) : Euc (Nat.gcd a b) b 0 a b := ⟨rfl, by simp, fun h => by omega⟩
theorem Euc.step {g B i a b : Nat} (h : Euc g B i a b) (hb : 0 < b) : Euc g B (i + 1) b (a % b) := by
  have hlt : a % b < b := Nat.mod_lt _ hb
  refine ⟨?_, ?_, fun _ => ⟨hlt, h.lo⟩⟩
  · rw [← h.gcd, Nat.gcd_comm a b, Nat.gcd_rec b a, Nat.gcd_comm b]
  · rcases Nat.lt_or_ge i 1 with h0 | h1
    · have e : i = 0 := by omega
      subst e
      have z := h.lo
      simp at z ⊢
      omega
    · obtain ⟨u1, u2⟩ := h.up h1
      rcases Nat.mod_two_eq_zero_or_one i with e | e
      · have e2 : (i + 1) / 2 = i / 2 := by omega
        rw [e2]
        exact Nat.le_trans (Nat.mul_le_mul_right _ (Nat.le_of_lt hlt)) h.lo
      · have e2 : (i + 1) / 2 = (i - 1) / 2 + 1 := by omega
        rw [e2, Nat.pow_succ]
        have z := mod_half (Nat.le_of_lt u1) hb
        have y : a % b * (2 ^ ((i - 1) / 2) * 2) = 2 * (a % b) * 2 ^ ((i - 1) / 2) := by
          rw [Nat.mul_comm (2 ^ ((i - 1) / 2)) 2, ← Nat.mul_assoc, Nat.mul_comm (a % b) 2]
        rw [y]
        exact Nat.le_trans (Nat.mul_le_mul_right _ z) u2
theorem Euc.done {g B n a b : Nat} (h : Euc g B (2 * n + 2) a b) (hB : B < 2 ^ n) : b = 0 ∧ a = g := by
  have e : (2 * n + 2) / 2 = n + 1 := by omega
  have z := h.lo
  rw [e, Nat.pow_succ] at z
  have hb : b = 0 := by
    rcases Nat.eq_zero_or_pos b with q | q
    · exact q
    · have y : 1 * (2 ^ n * 2) ≤ b * (2 ^ n * 2) := Nat.mul_le_mul_right _ q
      omega
  refine ⟨hb, ?_⟩
  have q := h.gcd
  rw [hb, Nat.gcd_zero_right] at q
  exact q
theorem Euc.ret {g B i a : Nat} (h : Euc g B i a 0) : a = g := by
  have q := h.gcd
  rw [Nat.gcd_zero_right] at q
  exact q
theorem bits_hi (i : Int) : i.natAbs < 2 ^ Builtin.Int.intBits i := by
  unfold Builtin.Int.intBits
  split
  · rename_i h
    have e : i = 0 := by simpa using h
    rw [e]
    decide
  · exact Nat.lt_log2_self
/-! sizes -/
theorem abs_mul_lt {i j : Int} {a b : Nat} (ha : i.natAbs < 2 ^ a) (hb : j.natAbs < 2 ^ b) : (i * j).natAbs < 2 ^ (a + b) := wide_lt ha hb
theorem abs_add_lt {i j : Int} {a : Nat} (ha : i.natAbs < 2 ^ a) (hb : j.natAbs < 2 ^ a) : (i + j).natAbs < 2 ^ (a + 1) := by
  rw [Nat.pow_succ]
  omega
theorem abs_sub_lt {i j : Int} {a : Nat} (ha : i.natAbs < 2 ^ a) (hb : j.natAbs < 2 ^ a) : (i - j).natAbs < 2 ^ (a + 1) := by
  rw [Nat.pow_succ]
  omega
theorem abs_up {i : Int} {a b : Nat} (ha : i.natAbs < 2 ^ a) (h : a ≤ b) : i.natAbs < 2 ^ b := Nat.lt_of_lt_of_le ha (Nat.pow_le_pow_right (by decide) h)
end LR

namespace LR
open PySem PySem.Spec PyProof.Rows L2
section
variable {X : Cx} {CX : CXT} {k : Nat} {C fI : Addr} {fd : FuncData} {ps : List Str} {sp : Sp} {ds : List Value} {dvs : List V} {x : Str} {p pos : Pos} {e : Expr} {es : List Expr} {ta : TA}
/-- C(..) as a value, C an own exception with its own __init__: the new exception is kept in sight, with its dict -/
def tMkX (C : Addr) (sp : Sp) (dvs : List V) (ta : TA) : TE := fun σ H Q => ta σ H fun vs H1 => vs.length ≤ 1000 ∧ ∀ a, H1 a = none → sp (.ref a :: (vs ++ dvs)) (upd H1 a (exo a C none)) (fun v H2 => v = .non ∧ Q (.ref a) H2) (fun _ _ _ => False)
theorem run_mkX {pins : List (Addr × Obj)} {σ : L2.St} {H1 : Hp} {s1 : Shared} {Q : VK} {us : List Value} {vs : List V} (T : OexC X.K C) (iC : PySem.W.findIn X.K (.ref C) "__init__" = some (some (.ref fI))) (tI : PySem.W.typeIn X.K (.ref fI) = some (.type "function"))
    (F1 : FnOk X.prog X.w X.K X.mg X.base CX k fI fd ps sp) (hr : Room (k + 1) X.A) (hb : Binds X.K fd ps ds) (hd : Vals dvs ds) (hx : Passes CX X (fun _ _ _ => False)) (I1 : Inv X pins σ H1 s1) (r1 : Vals vs us) (hz : vs.length ≤ 1000)
    (q1 : ∀ a, H1 a = none → sp (.ref a :: (vs ++ dvs)) (upd H1 a (exo a C none)) (fun v H2 => v = .non ∧ Q (.ref a) H2) (fun _ _ _ => False)) :
    wpAny (model X.prog X.w) X.A (call (.ref C) us) (EP X pins σ Q) X.xe s1 := by
  obtain ⟨nm, q, N, bs, bm, sn, sub, ab, col, dd, k0, k1, k2, k3, k5, hC, hbm⟩ := T.cls
  obtain ⟨hp, g, dr, tk, os⟩ := s1
  have hsz : hp.objs.size ≤ hp.objs.size + 1 := Nat.le_succ _
  have hn : H1 (hp.objs.size + 1) = none := I1.hok.fresh hsz
  have hq := q1 (hp.objs.size + 1) hn
  have kk : ∀ b o, hp.get? b = some o → ((hp.push (PySem.W.kdv_tup us)).push (PySem.HandSPX.excO C hp.objs.size)).get? b = some o := fun b o e => Heap.get?_push_of_some _ (Heap.get?_push_of_some _ e)
  have hget : ((hp.push (PySem.W.kdv_tup us)).push (PySem.HandSPX.excO C hp.objs.size)).get? (hp.objs.size + 1) = some (PySem.HandSPX.excO C hp.objs.size) := by heap_get
  have I2 : Inv X pins σ (upd H1 (hp.objs.size + 1) (exo (hp.objs.size + 1) C none)) ⟨(hp.push (PySem.W.kdv_tup us)).push (PySem.HandSPX.excO C hp.objs.size), g, dr, tk, os⟩ :=
    I1.laid (t' := tk) (a := hp.objs.size + 1) (o := exo (hp.objs.size + 1) C none) (h' := (hp.push (PySem.W.kdv_tup us)).push (PySem.HandSPX.excO C hp.objs.size)) kk hsz (exo_ok hget)
  have r2 : Vals (V.ref (hp.objs.size + 1) :: (vs ++ dvs)) (Value.ref (hp.objs.size + 1) :: (us ++ ds)) := .cons rfl (r1.append hd)
  have hl : (Value.ref (hp.objs.size + 1) :: us ++ ds).length = ps.length := by
    have e := r2.length
    rw [F1.len _ _ _ _ hq] at e
    exact e.symm
  have hus : us.length ≤ sizeLine := by
    rw [← Paired.length r1, sizeLine_eq]
    omega
  refine wpAny_call (PySem.HandSPX.call_own F.excBase_ValueError (fun Y => PySem.HandSPX.refsVE_contains Y bm hbm) (I1.kIn _ _ hC) (PySem.W.looks_findIn I1.kIn iC) (fun self => PySem.W.bind_fn I1.kIn self tI) hus
    (codeAny_mono (F1.run _ X.stack _ _ ⟨Value.ref (hp.objs.size + 1) :: us, []⟩ (Value.ref (hp.objs.size + 1) :: (us ++ ds)) _ _ (fun _ _ _ => False) (hr.make C us []) (I2.env0.make C us []) (hb _ (Value.ref (hp.objs.size + 1) :: us) I2.kIn hl) r2 hq) fun r s' hq' => ?_))
  cases r with
  | error er => exact hx pins σ _ _ er s' I2 hq'
  | ok fl =>
    cases fl with
    | ret u =>
      obtain ⟨v, H', I', rv, ev, q3⟩ := I2.after hq'
      subst ev
      exact ⟨rv, .ref (hp.objs.size + 1), H', I', rfl, q3⟩
    | next => exact False.elim hq'
    | brk => exact False.elim hq'
    | cont => exact False.elim hq'
theorem pe_mkX (T : OexC X.K C) (iC : PySem.W.findIn X.K (.ref C) "__init__" = some (some (.ref fI))) (tI : PySem.W.typeIn X.K (.ref fI) = some (.type "function"))
    (F1 : FnOk X.prog X.w X.K X.mg X.base CX k fI fd ps sp) (hr : Room (k + 1) X.A) (hb : Binds X.K fd ps ds) (hd : Vals dvs ds) (hx : Passes CX X (fun _ _ _ => False)) (hg : Gl X x) (hm : X.mg x = some (.ref C)) (ha : PA X (e :: es) ta)
    (hdb : (x == ("__debug__" : Str)) = false := by decide) (he : starEach (e :: es) X.env = (false, eval e X.env) :: starEach es X.env := by rfl) (hpl : (backTo pos (starEach es X.env)).any (·.1) = false := by rfl) :
    PE X (.Call (.Name x p) (e :: es) [] pos) (tMkX C sp dvs ta) := by
  refine ⟨fun pins s σ H Q I h => ?_⟩
  refine wpAny_Call_Name_kw (ld_glob I hg hm ?_ hdb)
  exact PySem.W.callWith_K (h₀ := X.base) I.ok.mod.kin T.kC (thn (ha.run pos pins s σ H _ I h) fun us s1 ⟨vs, H1, I1, r1, hz, q1⟩ => ⟨I1.kIn, run_mkX T iC tI F1 hr hb hd hx I1 r1 hz q1⟩) he hpl
theorem pe_mkX0 (T : OexC X.K C) (iC : PySem.W.findIn X.K (.ref C) "__init__" = some (some (.ref fI))) (tI : PySem.W.typeIn X.K (.ref fI) = some (.type "function"))
    (F1 : FnOk X.prog X.w X.K X.mg X.base CX k fI fd ps sp) (hr : Room (k + 1) X.A) (hb : Binds X.K fd ps ds) (hd : Vals dvs ds) (hx : Passes CX X (fun _ _ _ => False)) (hg : Gl X x) (hm : X.mg x = some (.ref C))
    (hdb : (x == ("__debug__" : Str)) = false := by decide) : PE X (.Call (.Name x p) [] [] pos) (tMkX C sp dvs tNil) := by
  refine ⟨fun pins s σ H Q I h => ?_⟩
  obtain ⟨hz, q1⟩ := h
  refine wpAny_Call_Name_kw (ld_glob I hg hm ?_ hdb)
  exact PySem.W.callWith_K0 I.kIn T.kC (run_mkX T iC tI F1 hr hb hd hx I .nil hz q1)
/-- an exception of the class at C at a, with these fields -/
def XvAt (H : Hp) (a C : Addr) (fs : List (Str × V)) : Prop := ∃ dx, H a = some (exo a C (some dx)) ∧ H dx = some (exd dx fs)
theorem XvAt.same {H H' : Hp} {a C : Addr} {fs : List (Str × V)} (h : XvAt H a C fs) (s : Same H H') : XvAt H' a C fs := let ⟨dx, e1, e2⟩ := h; ⟨dx, s _ _ e1, s _ _ e2⟩
theorem xv_inst {pins : List (Addr × Obj)} {σ : L2.St} {H : Hp} {s : Shared} {a : Addr} {fs : List (Str × V)} (I : Inv X pins σ H s) (h : XvAt H a C fs) : ∃ (oe od : Obj) (mA : Str → Option Value), PySem.W.InstAt s.heap a oe C (some od) ∧ (∀ f, PySem.W.lookIn f od = some (mA f)) ∧ ∀ f, RelO (fs.lookup f) (mA f) := by
  obtain ⟨dx, e1, e2⟩ := h
  obtain ⟨t1, ha⟩ := exo_at I.hok e1
  obtain ⟨mA, hns, hr⟩ := exd_at I.hok e2
  obtain ⟨od, ho, hl⟩ := lookIn_ns hns
  exact ⟨_, od, mA, ⟨ha, rfl, rfl, ho⟩, hl, hr⟩
/-- e.f of such a value -/
def tXv (C : Addr) (f : Str) (te : TE) : TE := fun σ H Q => te σ H fun x H1 => ∃ (a : Addr) (fs : List (Str × V)) (v : V), x = .ref a ∧ XvAt H1 a C fs ∧ fs.lookup f = some v ∧ Q v H1
theorem pe_xv {te : TE} {n : Str} (T : XfC X.K C) (hno : PySem.W.findIn X.K (.ref C) n = some none) (he : PE X e te) (hb : attributeBase e n X.env (eval e X.env) = eval e X.env := by rfl) : PE X (.Attribute e n pos) (tXv C n te) := by
  refine ⟨fun pins s σ H Q I h => ?_⟩
  refine attr_of hb (thn (he.run pins s σ H _ I h) fun u s1 hh => ?_)
  obtain ⟨x, H1, I1, rx, a, fs, v, ex, hv, l, q⟩ := hh
  subst ex
  obtain rfl : u = Value.ref a := rx
  obtain ⟨oe, od, mA, J, hl, hr⟩ := xv_inst I1 hv
  obtain ⟨u, hu, ru⟩ := RelO.some_of (v := v) (o := mA n) (by rw [← l]; exact hr n)
  exact HandSPX.exc_get I1.kIn J T.ga T.gg T.exC (PySem.W.findObj_own T.hdC hno rfl (by rw [hl, hu])) (handed_of ru) ⟨v, H1, I1.tok _, ru, q⟩
/-- isinstance(e, c) of such a value -/
def rIsX (K : PySem.W.Frag) : List V → Hp → VK → Prop := fun xs H Q => ∃ (a C : Addr) (fs : List (Str × V)) (c : V) (cv : Value) (b : Bool), xs = [.ref a, c] ∧ XvAt H a C fs ∧ ExcC K C ∧ ClsV c cv ∧ PySem.W.kitOne K (.ref C) cv = some b ∧ Q (.bl b) H
theorem call_isX : CallR X (.builtin "isinstance") (rIsX X.K) := by
  intro pins s σ H xs us Q I r h
  obtain ⟨a, D, fs, c, cv, b, rfl, hv, C, hcv, e, q⟩ := h
  cases r with
  | cons rx rr =>
    cases rr with
    | cons rt rr =>
      cases rr
      cases rx
      have ec := hcv.eq rt
      subst ec
      obtain ⟨oe, od, mA, J, _, _⟩ := xv_inst I hv
      exact PySem.W.kia_one (PySem.W.kitx_excD C.hg C.hk C.hs C.hd C.ha C.hn C.ht C.hm) I.kIn ⟨od, J⟩ e (fun z => nomatch z) fun tk => ⟨.bl b, H, I.kept (t' := tk) fun _ _ z => z, rfl, q⟩
end
end LR

namespace LR
open PySem PySem.Spec PyProof.Rows L2
/-- the hook over told addresses: those that the facts look at; more facts in `mo` -/
def Ls.obsA (as : List Addr) (L : Ls) (mo : PySem.W.Frag → Bool) (g : Addr → Option Obj) : AlL × Bool := (L.obs (He.frG g as), mo (He.frG g as))
def hookA (as : List Addr) (L : Ls) (mo : PySem.W.Frag → Bool) : PySem.W.Hook where
  α := AlL × Bool
  obs := fun s => L.obsA as mo s.heap.get?
  val := fun _ => (L.val, true)
  says := fun _ h => ∃ K : PySem.W.Frag, K.In h ∧ L.obs K = L.val ∧ mo K = true
  of := fun _ _ e => ⟨_, He.frG_in, (Prod.mk.inj e).1, (Prod.mk.inj e).2⟩
  keeps := fun _ _ _ ⟨K, hK, c⟩ k => ⟨K, PySem.W.Frag.In.keeps hK k, c⟩
theorem Ls.obsA_eq {as : List Addr} {L : Ls} {mo : PySem.W.Frag → Bool} {g : Addr → Option Obj} {s : Shared} (h : ∀ a, g a = s.heap.get? a) : L.obsA as mo g = (hookA as L mo).obs s := by
  rw [show g = s.heap.get? from funext h] <;> rfl
/-! the bases of a family of error classes -/
def mroOne (K : PySem.W.Frag) (root x : Str) : Bool := match PySem.W.clsIn K (He.ga K x) with
  | some cd => (cd.mro == (if x = root then [] else [Value.ref (He.ga K x)]) ++ [.ref (He.ga K root), .type "ValueError", .type "Exception", .type "BaseException", .type "object"]) && PySem.W.typeIn K (.ref (He.ga K x)) == some (.type "type")
  | none => false
def mroB (K : PySem.W.Frag) (root : Str) (xs : List Str) : Bool := xs.all (mroOne K root) && decide ((xs.map (He.ga K)).Nodup)
theorem inj_of {α β : Type} {f : α → β} : ∀ {xs : List α}, (xs.map f).Nodup → ∀ x ∈ xs, ∀ y ∈ xs, f x = f y → x = y
  | [], _, x, hx, _, _, _ => nomatch hx
  | a :: r, h, x, hx, y, hy, e => by
    rw [List.map_cons, List.nodup_cons] at h
    obtain ⟨h1, h2⟩ := h
    rcases List.mem_cons.mp hx with rfl | hx
    · rcases List.mem_cons.mp hy with rfl | hy
      · rfl
      · exact absurd (List.mem_map.mpr ⟨y, hy, e.symm⟩) h1
    · rcases List.mem_cons.mp hy with ey | hy
      · exact absurd (List.mem_map.mpr ⟨x, hx, e.trans (by rw [ey])⟩) h1
      · exact inj_of h2 x hx y hy e
theorem kit_ex {K : PySem.W.Frag} {root : Str} {xs : List Str} (h : mroB K root xs = true) {x y : Str} (hr : root ∈ xs) (hx : x ∈ xs) (hy : y ∈ xs) : PySem.W.kitOne K (.ref (He.ga K x)) (.ref (He.ga K y)) = some (decide (x = y) || decide (y = root)) := by
  obtain ⟨h1, h2⟩ := Bool.and_eq_true_iff.mp h
  have hn := of_decide_eq_true h2
  have m1 := List.all_eq_true.mp h1 x hx
  have m2 := List.all_eq_true.mp h1 y hy
  unfold PySem.W.kitOne
  by_cases e : x = y
  · subst e
    rw [if_pos (beq_iff_eq.mpr rfl), decide_eq_true rfl, Bool.true_or]
  · have ne : He.ga K x ≠ He.ga K y := fun z => e (inj_of hn x hx y hy z)
    rw [if_neg (fun z => ne (Value.ref.inj (beq_iff_eq.mp z)))]
    unfold mroOne at m1 m2
    cases c1 : PySem.W.clsIn K (He.ga K x) with
    | none =>
      rw [c1] at m1
      cases m1
    | some cd =>
      cases c2 : PySem.W.clsIn K (He.ga K y) with
      | none =>
        rw [c2] at m2
        cases m2
      | some cd2 =>
        rw [c1] at m1
        rw [c2] at m2
        dsimp only at m1 m2
        obtain ⟨m1, _⟩ := Bool.and_eq_true_iff.mp m1
        obtain ⟨_, m2⟩ := Bool.and_eq_true_iff.mp m2
        unfold PySem.W.kitCls
        dsimp only
        rw [if_pos (by rw [c2, m2]; rfl)]
        unfold PySem.W.subIn PySem.W.mroIn
        dsimp only
        rw [c1]
        show (if cd.mro.isEmpty then none else some (cd.mro.contains (.ref (He.ga K y)))) = _
        rw [beq_iff_eq.mp m1]
        have nx : (He.ga K y == He.ga K x) = false := beq_eq_false_iff_ne.mpr (Ne.symm ne)
        have d1 : decide (x = y) = false := decide_eq_false e
        rw [d1, Bool.false_or]
        have dr : decide (y = root) = (Value.ref (He.ga K y) == Value.ref (He.ga K root)) := by
          by_cases er : y = root
          · rw [er, decide_eq_true rfl]
            exact (beq_iff_eq.mpr rfl).symm
          · rw [decide_eq_false er]
            exact (beq_eq_false_iff_ne.mpr fun z => er (inj_of hn y hy root hr (Value.ref.inj z))).symm
        rw [dr]
        have n2 : (Value.ref (He.ga K y) == Value.ref (He.ga K x)) = false := beq_eq_false_iff_ne.mpr fun z => ne (Value.ref.inj z).symm
        have t : ∀ s : String, (Value.ref (He.ga K y) == Value.type s) = false := fun s => beq_eq_false_iff_ne.mpr fun z => nomatch z
        have ce : ∀ v : Value, ([] : List Value).contains v = false := fun _ => rfl
        by_cases ex : x = root
        · rw [if_pos ex, List.nil_append, if_neg (by simp)]
          simp only [List.contains_cons, t, Bool.or_false, ce]
        · rw [if_neg ex, if_neg (by simp)]
          simp only [List.cons_append, List.nil_append, List.contains_cons, n2, t, Bool.false_or, Bool.or_false, ce]
theorem kit_ve {K : PySem.W.Frag} {root : Str} {xs : List Str} (h : mroB K root xs = true) {x : Str} (hx : x ∈ xs) : PySem.W.kitOne K (.ref (He.ga K x)) (.type "ValueError") = some true := by
  obtain ⟨h1, h2⟩ := Bool.and_eq_true_iff.mp h
  have m1 := List.all_eq_true.mp h1 x hx
  unfold PySem.W.kitOne
  rw [if_neg (by intro z; cases beq_iff_eq.mp z)]
  unfold mroOne at m1
  cases c1 : PySem.W.clsIn K (He.ga K x) with
  | none =>
    rw [c1] at m1
    cases m1
  | some cd =>
    rw [c1] at m1
    dsimp only at m1
    obtain ⟨m1, _⟩ := Bool.and_eq_true_iff.mp m1
    unfold PySem.W.kitCls
    dsimp only
    rw [if_pos (by decide +kernel)]
    unfold PySem.W.subIn PySem.W.mroIn
    dsimp only
    rw [c1]
    show (if cd.mro.isEmpty then none else some (cd.mro.contains (.type "ValueError"))) = _
    rw [beq_iff_eq.mp m1]
    by_cases ex : x = root
    · rw [if_pos ex, List.nil_append, if_neg (by simp)]
      simp
    · rw [if_neg ex, if_neg (by simp)]
      simp
end LR

/-! the layer of data: values without the heap -/
namespace DL
open PySem PySem.Spec PyProof.Rows L2 LR
/-- data: what a value stands for -/
inductive D where
  | non | bl (b : Bool) | int (i : Int) | str (s : Str) | lst (l : List D) | tup (l : List D) | ins (c : Nat) (l : List D)
/-- the own classes by number, and their fields in the order of __init__ -/
def cname : Nat → Str
  | 0 => "Ratio" | 1 => "Vector" | 2 => "Matrix" | 3 => "Poly" | 4 => "Measure" | 5 => "Solution" | 6 => "Echelon" | 7 => "Task" | _ => ""
def shape : Nat → List Str
  | 0 => ["top", "bottom"] | 1 => ["tops", "bottom"] | 2 => ["tops", "bottom", "height", "width"] | 3 => ["tops", "bottom"] | 4 => ["matrix", "size", "triangle", "pivots"] | 5 => ["answer", "kernel", "bar"]
  | 6 => ["rows", "places", "scale", "turn"] | 7 => ["matrix", "side", "measure", "size"] | _ => []
/-- v stands for d, by what H knows -/
inductive Rep (K : PySem.W.Frag) (H : Hp) : V → D → Prop where
  | non : Rep K H .non .non
  | bl (b : Bool) : Rep K H (.bl b) (.bl b)
  | int (i : Int) : Rep K H (.int i) (.int i)
  | str (s : Str) : Rep K H (.str s) (.str s)
  | lst {a : Addr} {vs : List V} {l : List D} (h : SqL K H a vs) (n : vs.length = l.length) (r : ∀ (i : Nat) v d, vs[i]? = some v → l[i]? = some d → Rep K H v d) : Rep K H (.ref a) (.lst l)
  | tup {a : Addr} {vs : List V} {l : List D} (h : SqT K H a vs) (n : vs.length = l.length) (r : ∀ (i : Nat) v d, vs[i]? = some v → l[i]? = some d → Rep K H v d) : Rep K H (.ref a) (.tup l)
  | ins {a dx : Addr} {c : Nat} {vs : List V} {l : List D} (h : H a = some (.ins (He.ga K (cname c)) dx ((shape c).zip vs))) (m : (shape c).length = vs.length) (n : vs.length = l.length)
      (r : ∀ (i : Nat) v d, vs[i]? = some v → l[i]? = some d → Rep K H v d) : Rep K H (.ref a) (.ins c l)
def Reps (K : PySem.W.Frag) (H : Hp) (vs : List V) (l : List D) : Prop := vs.length = l.length ∧ ∀ (i : Nat) v d, vs[i]? = some v → l[i]? = some d → Rep K H v d
theorem sqT_same {K : PySem.W.Frag} {H H' : Hp} {a : Addr} {xs : List V} (e : Same H H') (h : SqT K H a xs) : SqT K H' a xs := by
  rcases h with (h | ⟨o, h⟩) | h
  · exact .inl (.inl (e _ _ h))
  · exact .inl (.inr ⟨o, e _ _ h⟩)
  · exact .inr h
section
variable {K : PySem.W.Frag} {H H' : Hp} {v : V} {d : D} {vs : List V} {l : List D}
theorem Rep.same (r : Rep K H v d) (s : Same H H') : Rep K H' v d := by
  induction r with
  | non => exact .non
  | bl b => exact .bl b
  | int i => exact .int i
  | str x => exact .str x
  | lst h n _ ih => exact .lst (s.seq h) n ih
  | tup h n _ ih => exact .tup (sqT_same s h) n ih
  | ins h m n _ ih => exact .ins (s _ _ h) m n ih
theorem Reps.same (r : Reps K H vs l) (s : Same H H') : Reps K H' vs l := ⟨r.1, fun i v d h1 h2 => (r.2 i v d h1 h2).same s⟩
theorem Reps.nil : Reps K H [] [] := ⟨rfl, fun i v d h => by simp at h⟩
theorem Reps.cons (r : Rep K H v d) (rs : Reps K H vs l) : Reps K H (v :: vs) (d :: l) := ⟨by simp [rs.1], fun i w e h1 h2 => by
  cases i with
  | zero =>
    simp at h1 h2
    subst h1 h2
    exact r
  | succ i =>
    simp at h1 h2
    exact rs.2 i w e h1 h2⟩
theorem Reps.app {ws : List V} {m : List D} (r : Reps K H vs l) (rs : Reps K H ws m) : Reps K H (vs ++ ws) (l ++ m) := by
  refine ⟨by simp [r.1, rs.1], fun i w e h1 h2 => ?_⟩
  by_cases hi : i < vs.length
  · rw [List.getElem?_append_left hi] at h1
    rw [List.getElem?_append_left (by rw [← r.1]; exact hi)] at h2
    exact r.2 i w e h1 h2
  · rw [List.getElem?_append_right (by omega)] at h1
    rw [List.getElem?_append_right (by rw [← r.1]; omega), ← r.1] at h2
    exact rs.2 _ w e h1 h2
theorem Reps.at (r : Reps K H vs l) {i : Nat} {d : D} (h : l[i]? = some d) : ∃ v, vs[i]? = some v ∧ Rep K H v d := by
  have hi : i < l.length := (List.getElem?_eq_some_iff.mp h).1
  have hv : vs[i]? = some (vs[i]'(by rw [r.1]; exact hi)) := List.getElem?_eq_getElem _
  exact ⟨_, hv, r.2 i _ d hv h⟩
theorem Reps.at' (r : Reps K H vs l) {i : Nat} {v : V} (h : vs[i]? = some v) : ∃ d, l[i]? = some d ∧ Rep K H v d := by
  have hi : i < vs.length := (List.getElem?_eq_some_iff.mp h).1
  have hv : l[i]? = some (l[i]'(by rw [← r.1]; exact hi)) := List.getElem?_eq_getElem _
  exact ⟨_, hv, r.2 i v _ h hv⟩
theorem Reps.one (r : Rep K H v d) : Reps K H [v] [d] := Reps.nil.cons r
theorem Reps.set {w : V} {e : D} (r : Reps K H vs l) (q : Rep K H w e) (j : Nat) : Reps K H (vs.set j w) (l.set j e) := by
  refine ⟨by simp [r.1], fun i x y h1 h2 => ?_⟩
  rw [List.getElem?_set] at h1 h2
  by_cases hij : j = i
  · subst hij
    simp only [if_true] at h1 h2
    by_cases hl : j < vs.length
    · rw [if_pos hl] at h1
      rw [if_pos (by rw [← r.1]; exact hl)] at h2
      cases h1
      cases h2
      exact q
    · rw [if_neg hl] at h1
      cases h1
  · rw [if_neg hij] at h1 h2
    exact r.2 i x y h1 h2
theorem Reps.cut (r : Reps K H vs l) (n m : Nat) : Reps K H ((vs.drop n).take m) ((l.drop n).take m) := by
  refine ⟨by simp [r.1], fun i x y h1 h2 => ?_⟩
  rw [List.getElem?_take] at h1 h2
  split at h1
  · rename_i hi
    rw [if_pos hi] at h2
    rw [List.getElem?_drop] at h1 h2
    exact r.2 _ x y h1 h2
  · cases h1
theorem Reps.ints {ns : List Int} (r : Reps K H vs (ns.map D.int)) : vs = ns.map V.int := by
  refine List.ext_getElem? fun i => ?_
  cases h : vs[i]? with
  | none =>
    have : vs.length ≤ i := List.getElem?_eq_none_iff.mp h
    rw [r.1, List.length_map] at this
    exact (List.getElem?_eq_none_iff.mpr (by rw [List.length_map]; exact this)).symm
  | some v =>
    obtain ⟨d, hd, q⟩ := r.at' h
    rw [List.getElem?_map] at hd
    cases e : ns[i]? with
    | none =>
      rw [e] at hd
      cases hd
    | some n =>
      rw [e] at hd
      cases hd
      cases q
      rw [List.getElem?_map, e]
      rfl
theorem Reps.of_ints (ns : List Int) : Reps K H (ns.map V.int) (ns.map D.int) := by
  refine ⟨by simp, fun i v d h1 h2 => ?_⟩
  rw [List.getElem?_map] at h1 h2
  cases e : ns[i]? with
  | none =>
    rw [e] at h1
    cases h1
  | some n =>
    rw [e] at h1 h2
    cases h1
    cases h2
    exact .int n
theorem Rep.lst_inv {v : V} {l : List D} (r : Rep K H v (.lst l)) : ∃ a vs, v = .ref a ∧ SqL K H a vs ∧ Reps K H vs l := by
  cases r with
  | lst h n q => exact ⟨_, _, rfl, h, n, q⟩
theorem Rep.tup_inv {v : V} {l : List D} (r : Rep K H v (.tup l)) : ∃ a vs, v = .ref a ∧ SqT K H a vs ∧ Reps K H vs l := by
  cases r with
  | tup h n q => exact ⟨_, _, rfl, h, n, q⟩
theorem Rep.ins_inv {v : V} {c : Nat} {l : List D} (r : Rep K H v (.ins c l)) : ∃ a dx vs, v = .ref a ∧ H a = some (.ins (He.ga K (cname c)) dx ((shape c).zip vs)) ∧ (shape c).length = vs.length ∧ Reps K H vs l := by
  cases r with
  | ins h m n q => exact ⟨_, _, _, rfl, h, m, n, q⟩
theorem Rep.int_inv {v : V} {i : Int} (r : Rep K H v (.int i)) : v = .int i := by cases r; rfl
theorem Rep.bl_inv {v : V} {b : Bool} (r : Rep K H v (.bl b)) : v = .bl b := by cases r; rfl
theorem Rep.str_inv {v : V} {s : Str} (r : Rep K H v (.str s)) : v = .str s := by cases r; rfl
theorem Rep.non_inv {v : V} (r : Rep K H v .non) : v = .non := by cases r; rfl
end
/-- what came: H' is H and new things; G' (of H') knows G (of H) and new things alone -/
structure Ext (G H G' H' : Hp) : Prop where
  hh : Same H H'
  gg : Same G G'
  sub : Same G' H'
  new : ∀ a, G' a ≠ none → G a = none → H a = none
theorem Ext.refl {G H : Hp} (s : Same G H) : Ext G H G H := ⟨.refl _, .refl _, s, fun _ h1 h2 => absurd h2 h1⟩
theorem Ext.trans {G H G1 H1 G2 H2 : Hp} (a : Ext G H G1 H1) (b : Ext G1 H1 G2 H2) : Ext G H G2 H2 := ⟨a.hh.trans b.hh, a.gg.trans b.gg, b.sub, fun x h1 h2 => by
  cases e : G1 x with
  | none => exact a.hh.free (b.new x h1 e)
  | some o => exact a.new x (by rw [e]; simp) h2⟩
/-- a new object, known -/
theorem Ext.nw {G H : Hp} {p : Addr} {o : HO} (s : Same G H) (n : H p = none) : Ext G H (upd G p o) (upd H p o) := by
  refine ⟨same_new n, same_new (s.free n), fun b u e => ?_, fun a h1 h2 => ?_⟩
  · by_cases hb : b = p
    · subst hb
      rw [upd_same] at e ⊢
      exact e
    · rw [upd_ne hb] at e ⊢
      exact s b u e
  · by_cases hb : a = p
    · subst hb
      exact n
    · rw [upd_ne hb] at h1
      exact absurd h2 h1
/-- a new object, not known -/
theorem Ext.hid {G H : Hp} {p : Addr} {o : HO} (s : Same G H) (n : H p = none) : Ext G H G (upd H p o) := ⟨same_new n, .refl _, same_new' s n, fun _ h1 h2 => absurd h2 h1⟩

def RepF (K : PySem.W.Frag) (G : Hp) (fv : List (Str × V)) (fs : List (Str × D)) : Prop := fv.map (·.1) = fs.map (·.1) ∧ Reps K G (fv.map (·.2)) (fs.map (·.2))
theorem RepF.same {K : PySem.W.Frag} {G G' : Hp} {fv : List (Str × V)} {fs : List (Str × D)} (r : RepF K G fv fs) (s : Same G G') : RepF K G' fv fs := ⟨r.1, r.2.same s⟩
/-- a slot: unknown, a value, a list of the def's own that nothing else knows, an object in the making, a caught error -/
inductive Sl where
  | no | val (d : D) | own (l : List D) | ob (p : Addr) (c : Nat) (fs : List (Str × D)) | exc (a dd : Addr) (x : Str) (fs : List (Str × D))
abbrev DE := List Sl
def SlOk (K : PySem.W.Frag) (H0 G H : Hp) (v : Option (Option V)) : Sl → Prop
  | .no => True
  | .val d => ∃ w, v = some (some w) ∧ Rep K G w d
  | .own l => ∃ p vs, v = some (some (.ref p)) ∧ H p = some (.lst vs) ∧ G p = none ∧ H0 p = none ∧ Reps K G vs l
  | .ob p c fs => ∃ dx fv, v = some (some (.ref p)) ∧ H p = some (.ins (He.ga K (cname c)) dx fv) ∧ G p = none ∧ H0 p = none ∧ RepF K G fv fs
  | .exc a dd x fs => ∃ fv, v = some (some (.ref a)) ∧ H dd = some (.xd fv) ∧ RepF K G fv fs
/-- a slot whose object may change -/
def mutS : Sl → Bool
  | .own _ => true | .ob _ _ _ => true | _ => false
/-- the state of a def's body: H0 and G0 at its entry -/
structure SR (K : PySem.W.Frag) (H0 G0 G H : Hp) (σ : L2.St) (env : DE) : Prop where
  same : Same H0 H
  sub : Same G H
  g0 : Same G0 G
  ext : ∀ a, G a ≠ none → G0 a = none → H0 a = none
  len : σ.length = env.length
  slot : ∀ (i : Nat) s, env[i]? = some s → SlOk K H0 G H (σ[i]?) s
  apart : ∀ (i j : Nat) s t p, i ≠ j → env[i]? = some s → env[j]? = some t → mutS s = true → mutS t = true → σ[i]? = some (some (.ref p)) → σ[j]? ≠ some (some (.ref p))
section
variable {K : PySem.W.Frag} {H0 G0 G H G' H' : Hp} {σ : L2.St} {env : DE}
theorem SlOk.ex {v : Option (Option V)} {s : Sl} (h : SlOk K H0 G H v s) (x : Ext G H G' H') : SlOk K H0 G' H' v s := by
  have nw : ∀ p o, H p = some o → G p = none → G' p = none := fun p o hp gp => by
    cases z : G' p with
    | none => rfl
    | some o' =>
      have := x.new p (by rw [z]; simp) gp
      rw [hp] at this
      cases this
  cases s with
  | no => trivial
  | val d =>
    obtain ⟨w, e, r⟩ := h
    exact ⟨w, e, r.same x.gg⟩
  | own l =>
    obtain ⟨p, vs, e, hp, gp, op, r⟩ := h
    exact ⟨p, vs, e, x.hh _ _ hp, nw p _ hp gp, op, r.same x.gg⟩
  | ob p c fs =>
    obtain ⟨dx, fv, e, hp, gp, op, r⟩ := h
    exact ⟨dx, fv, e, x.hh _ _ hp, nw p _ hp gp, op, r.same x.gg⟩
  | exc a dd x' fs =>
    obtain ⟨fv, e, hp, r⟩ := h
    exact ⟨fv, e, x.hh _ _ hp, r.same x.gg⟩
theorem SR.ex (S : SR K H0 G0 G H σ env) (x : Ext G H G' H') : SR K H0 G0 G' H' σ env := by
  refine ⟨S.same.trans x.hh, x.sub, S.g0.trans x.gg, fun a h1 h2 => ?_, S.len, fun i s h => (S.slot i s h).ex x, S.apart⟩
  cases e : G a with
  | none => exact S.same.free (x.new a h1 e)
  | some o => exact S.ext a (by rw [e]; simp) h2
theorem SR.val (S : SR K H0 G0 G H σ env) (i : Nat) (d : D) (h : env[i]? = some (.val d)) : ∃ v, σ[i]? = some (some v) ∧ Rep K G v d := S.slot i _ h
theorem SR.own (S : SR K H0 G0 G H σ env) (i : Nat) (l : List D) (h : env[i]? = some (.own l)) : ∃ p vs, σ[i]? = some (some (.ref p)) ∧ H p = some (.lst vs) ∧ G p = none ∧ H0 p = none ∧ Reps K G vs l := S.slot i _ h
theorem SR.all (S : SR K H0 G0 G H σ env) : Ext G0 H0 G H := ⟨S.same, S.g0, S.sub, S.ext⟩
theorem set_key {α : Type} {l : List α} {i j : Nat} {x s : α} (h : (l.set i x)[j]? = some s) : (j = i ∧ s = x ∧ i < l.length) ∨ (j ≠ i ∧ l[j]? = some s) := by
  rw [List.getElem?_set] at h
  by_cases hj : i = j
  · subst hj
    rw [if_pos rfl] at h
    split at h
    · rename_i hl
      cases h
      exact .inl ⟨rfl, rfl, hl⟩
    · cases h
  · rw [if_neg hj] at h
    exact .inr ⟨Ne.symm hj, h⟩
theorem set_at {α : Type} {l : List α} {i : Nat} {x : α} (h : i < l.length) : (l.set i x)[i]? = some x := by
  rw [List.getElem?_set, if_pos rfl, if_pos h]
theorem set_off {α : Type} {l : List α} {i j : Nat} {x : α} (h : j ≠ i) : (l.set i x)[j]? = l[j]? := by
  rw [List.getElem?_set, if_neg (Ne.symm h)]
/-- a slot is written; the new object, if it may change, is nowhere else -/
theorem SR.put (S : SR K H0 G0 G H σ env) (i : Nat) (v : Option V) (s : Sl) (h : SlOk K H0 G H (some v) s) (m : mutS s = true → ∀ (j : Nat) t p, env[j]? = some t → mutS t = true → j ≠ i → v = some (.ref p) → σ[j]? ≠ some (some (.ref p))) :
    SR K H0 G0 G H (σ.set i v) (env.set i s) := by
  refine ⟨S.same, S.sub, S.g0, S.ext, by simp [S.len], fun j t h' => ?_, fun j k t u p jk h1 h2 m1 m2 h3 => ?_⟩
  · rcases set_key h' with ⟨rfl, rfl, hl⟩ | ⟨hj, e1⟩
    · rw [set_at (by rw [S.len]; exact hl)]
      exact h
    · rw [set_off hj]
      exact S.slot j t e1
  · rcases set_key h1 with ⟨rfl, rfl, hl⟩ | ⟨hj, e1⟩
    · rw [set_at (by rw [S.len]; exact hl)] at h3
      rcases set_key h2 with ⟨rfl, rfl, _⟩ | ⟨hk, f1⟩
      · exact absurd rfl jk
      · rw [set_off hk]
        exact m m1 k u p f1 m2 hk (Option.some.inj h3)
    · rw [set_off hj] at h3
      rcases set_key h2 with ⟨rfl, rfl, hl⟩ | ⟨hk, f1⟩
      · rw [set_at (by rw [S.len]; exact hl)]
        intro z
        exact m m2 j t p e1 m1 hj (Option.some.inj z) h3
      · rw [set_off hk]
        exact S.apart j k t u p jk e1 f1 m1 m2 h3
theorem SR.set (S : SR K H0 G0 G H σ env) {i : Nat} {v : V} {d : D} (r : Rep K G v d) : SR K H0 G0 G H (σ.set i (some v)) (env.set i (.val d)) := S.put i (some v) (.val d) ⟨v, rfl, r⟩ (fun z => by cases z)
theorem SR.unset (S : SR K H0 G0 G H σ env) {i : Nat} {v : Option V} : SR K H0 G0 G H (σ.set i v) (env.set i .no) := S.put i v .no trivial (fun z => by cases z)
/-- the object that a slot may change, of no other address -/
theorem SlOk.mut_some {v : Option (Option V)} {s : Sl} (h : SlOk K H0 G H v s) (m : mutS s = true) : ∃ p o, v = some (some (.ref p)) ∧ H p = some o ∧ G p = none ∧ H0 p = none := by
  cases s with
  | own l => obtain ⟨p, vs, e, hp, gp, op, _⟩ := h; exact ⟨p, _, e, hp, gp, op⟩
  | ob p c fs => obtain ⟨dx, fv, e, hp, gp, op, _⟩ := h; exact ⟨p, _, e, hp, gp, op⟩
  | no => cases m
  | val d => cases m
  | exc a dd x fs => cases m
/-- a new list of the def's own -/
theorem SR.setOwn (S : SR K H0 G0 G H σ env) {i : Nat} {p : Addr} {vs : List V} {l : List D} (n : H p = none) (r : Reps K G vs l) : SR K H0 G0 G (upd H p (.lst vs)) (σ.set i (some (.ref p))) (env.set i (.own l)) := by
  have S1 : SR K H0 G0 G (upd H p (.lst vs)) σ env := S.ex (Ext.hid S.sub n)
  refine S1.put i _ _ ⟨p, vs, rfl, upd_same, S.sub.free n, S.same.free n, r⟩ fun _ j t q h1 h2 h3 h4 h5 => ?_
  cases h4
  obtain ⟨p', o, e, hp, _⟩ := (S.slot j t h1).mut_some h2
  rw [h5] at e
  cases e
  rw [n] at hp
  cases hp
/-- the object of a slot is changed -/
theorem SR.mut (S : SR K H0 G0 G H σ env) {i : Nat} {p : Addr} {o : HO} {s t : Sl} (he : env[i]? = some s) (ms : mutS s = true) (mt : mutS t = true) (hp : σ[i]? = some (some (.ref p))) (nx : ∀ fv, H p ≠ some (.xd fv))
    (h : SlOk K H0 G (upd H p o) (some (some (.ref p))) t) : SR K H0 G0 G (upd H p o) σ (env.set i t) := by
  obtain ⟨p', o', e3, hq, gp, op⟩ := (S.slot i s he).mut_some ms
  rw [hp] at e3
  cases e3
  refine ⟨same_mut S.same op, fun b u e => ?_, S.g0, S.ext, by simp [S.len], fun j u h' => ?_, fun j k u w q jk h1 h2 m1 m2 h3 => ?_⟩
  · rw [upd_ne (ne_of_none e gp)]
    exact S.sub b u e
  · rcases set_key h' with ⟨rfl, rfl, hl⟩ | ⟨hj, e1⟩
    · rw [hp]
      exact h
    · have w := S.slot j u e1
      cases u with
      | no => trivial
      | val d => exact w
      | own l =>
        obtain ⟨q, xs, e3, hq', gq, oq, rq'⟩ := w
        refine ⟨q, xs, e3, (upd_ne ?_).trans hq', gq, oq, rq'⟩
        intro z
        subst z
        exact S.apart j i _ _ q hj e1 he rfl ms e3 hp
      | ob q c fs =>
        obtain ⟨dx, xs, e3, hq', gq, oq, rq'⟩ := w
        refine ⟨dx, xs, e3, (upd_ne ?_).trans hq', gq, oq, rq'⟩
        intro z
        subst z
        exact S.apart j i _ _ q hj e1 he rfl ms e3 hp
      | exc a dd x fs =>
        obtain ⟨fv, e3, hd, r⟩ := w
        refine ⟨fv, e3, (upd_ne ?_).trans hd, r⟩
        intro z
        subst z
        exact nx _ hd
  · have w1 : ∃ u', env[j]? = some u' ∧ mutS u' = true := by
      rcases set_key h1 with ⟨rfl, rfl, _⟩ | ⟨hj, e1⟩
      · exact ⟨s, he, ms⟩
      · exact ⟨_, e1, m1⟩
    have w2 : ∃ u', env[k]? = some u' ∧ mutS u' = true := by
      rcases set_key h2 with ⟨rfl, rfl, _⟩ | ⟨hj, e1⟩
      · exact ⟨s, he, ms⟩
      · exact ⟨_, e1, m2⟩
    obtain ⟨l1, e1, f1⟩ := w1
    obtain ⟨l2, e2, f2⟩ := w2
    exact S.apart j k l1 l2 q jk e1 e2 f1 f2 h3
/-- a list of one's own is changed -/
theorem SR.mutL (S : SR K H0 G0 G H σ env) {i : Nat} {p : Addr} {ws : List V} {l m : List D} (he : env[i]? = some (.own l)) (hp : σ[i]? = some (some (.ref p))) (r : Reps K G ws m) : SR K H0 G0 G (upd H p (.lst ws)) σ (env.set i (.own m)) := by
  obtain ⟨p', vs, e3, hq, gp, op, rq⟩ := S.own i l he
  rw [hp] at e3
  cases e3
  exact S.mut he rfl rfl hp (fun fv z => by rw [hq] at z; cases z) ⟨p, ws, rfl, upd_same, gp, op, r⟩
/-- a list of one's own becomes a value -/
theorem SR.frz (S : SR K H0 G0 G H σ env) {i : Nat} {l : List D} (he : env[i]? = some (.own l)) : ∃ G', Same G G' ∧ SR K H0 G0 G' H σ (env.set i (.val (.lst l))) := by
  obtain ⟨p, vs, hp, hq, gp, op, rq⟩ := S.own i l he
  have gG : Same G (upd G p (.lst vs)) := same_new gp
  refine ⟨upd G p (.lst vs), gG, S.same, fun b u e => ?_, S.g0.trans gG, fun a h1 h2 => ?_, by simp [S.len], fun j u h' => ?_, fun j k u w q jk h1 h2 m1 m2 h3 => ?_⟩
  · by_cases hb : b = p
    · subst hb
      rw [upd_same] at e
      cases e
      exact hq
    · rw [upd_ne hb] at e
      exact S.sub b u e
  · by_cases hb : a = p
    · subst hb
      exact op
    · rw [upd_ne hb] at h1
      exact S.ext a h1 h2
  · rcases set_key h' with ⟨rfl, rfl, hl⟩ | ⟨hj, e1⟩
    · have r2 := rq.same gG
      exact ⟨_, hp, .lst (SqL.of upd_same) r2.1 r2.2⟩
    · have w := S.slot j u e1
      cases u with
      | no => trivial
      | val d =>
        obtain ⟨v, e2, r⟩ := w
        exact ⟨v, e2, r.same gG⟩
      | own m =>
        obtain ⟨q, xs, e3, hq', gq, oq, rq'⟩ := w
        refine ⟨q, xs, e3, hq', ?_, oq, rq'.same gG⟩
        rw [upd_ne]
        · exact gq
        · intro z
          subst z
          exact S.apart j i _ _ q hj e1 he rfl rfl e3 hp
      | ob q c fs =>
        obtain ⟨dx, xs, e3, hq', gq, oq, rq'⟩ := w
        refine ⟨dx, xs, e3, hq', ?_, oq, rq'.same gG⟩
        rw [upd_ne]
        · exact gq
        · intro z
          subst z
          exact S.apart j i _ _ q hj e1 he rfl rfl e3 hp
      | exc a dd x fs =>
        obtain ⟨fv, e3, hd, r⟩ := w
        exact ⟨fv, e3, hd, r.same gG⟩
  · rcases set_key h1 with ⟨rfl, rfl, _⟩ | ⟨hj, e1⟩
    · cases m1
    rcases set_key h2 with ⟨rfl, rfl, _⟩ | ⟨hk, f1⟩
    · cases m2
    exact S.apart j k u w q jk e1 f1 m1 m2 h3
end
end DL

namespace DL
open PySem PySem.Spec PyProof.Rows L2 LR
/-- an own error on its way: its class, its fields -/
abbrev EX := Str → List (Str × D) → Prop
abbrev DT := DE → (D → Prop) → EX → Prop
abbrev DTT := DE → (Bool → Prop) → EX → Prop
abbrev DTA := DE → (List D → Prop) → EX → Prop
def LkE (K : PySem.W.Frag) (H0 G0 G : Hp) (W : WX) (σ : L2.St) (env : DE) (ex : EX) : Prop :=
  ∀ (H' G' : Hp) (d : Addr) (x : Str) (fv : List (Str × V)) (fs : List (Str × D)), Same G G' → SR K H0 G0 G' H' σ env → H' d = some (.xd fv) → RepF K G' fv fs → ex x fs → W (.ref (He.ga K x)) (some d) σ H'
theorem LkE.mono {K : PySem.W.Frag} {H0 G0 G G1 : Hp} {W : WX} {σ : L2.St} {env : DE} {ex : EX} (h : LkE K H0 G0 G W σ env ex) (s : Same G G1) : LkE K H0 G0 G1 W σ env ex := fun H' G' d x fv fs s' => h H' G' d x fv fs (s.trans s')
theorem LkE.no {K : PySem.W.Frag} {H0 G0 G : Hp} {W : WX} {σ : L2.St} {env : DE} : LkE K H0 G0 G W σ env (fun _ _ => False) := fun _ _ _ _ _ _ _ _ _ _ h => h.elim
/-- what comes of an expression -/
def Got (K : PySem.W.Frag) (G H : Hp) (Q : D → Prop) (R : VK) : Prop := ∀ v H' G' d, Ext G H G' H' → Rep K G' v d → Q d → R v H'
def LE (X : Cx) (W : WX) (te : TE) (t : DT) : Prop := ∀ (H0 G0 G H : Hp) (σ : L2.St) (env : DE) (Q : D → Prop) (ex : EX) (R : VK), SR X.K H0 G0 G H σ env → LkE X.K H0 G0 G W σ env ex → t env Q ex → Got X.K G H Q R → te σ H R
def LT (X : Cx) (W : WX) (tt : TT) (t : DTT) : Prop := ∀ (H0 G0 G H : Hp) (σ : L2.St) (env : DE) (Q : Bool → Prop) (ex : EX) (R : Bool → Hp → Prop), SR X.K H0 G0 G H σ env → LkE X.K H0 G0 G W σ env ex → t env Q ex →
  (∀ b H' G', Ext G H G' H' → Q b → R b H') → tt σ H R
def LA (X : Cx) (W : WX) (ta : TA) (t : DTA) : Prop := ∀ (H0 G0 G H : Hp) (σ : L2.St) (env : DE) (Q : List D → Prop) (ex : EX) (R : List V → Hp → Prop), SR X.K H0 G0 G H σ env → LkE X.K H0 G0 G W σ env ex → t env Q ex →
  (∀ vs H' G' ds, Ext G H G' H' → Reps X.K G' vs ds → Q ds → R vs H') → ta σ H R
structure PD (X : Cx) (W : WX) (e : Expr) (t : DT) : Prop where
  of : ∃ te, PE X e te ∧ LE X W te t
structure PDT (X : Cx) (W : WX) (e : Expr) (t : DTT) : Prop where
  of : ∃ tt, PT X e tt ∧ LT X W tt t
structure PDW (X : Cx) (W : WX) (e : Expr) (t : DTT) : Prop where
  of : ∃ tt, PW X e tt ∧ LT X W tt t
structure PDA (X : Cx) (W : WX) (es : List Expr) (t : DTA) : Prop where
  of : ∃ ta, PA X es ta ∧ LA X W ta t
/-- a new list -/
def GotN (K : PySem.W.Frag) (G H : Hp) (Q : List D → Prop) (R : VK) : Prop := ∀ p vs H' H1 G' l, Ext G H G' H1 → H1 p = none → H' = upd H1 p (.lst vs) → Reps K G' vs l → Q l → R (.ref p) H'
abbrev DTN := DE → (List D → Prop) → EX → Prop
def LN (X : Cx) (W : WX) (te : TE) (t : DTN) : Prop := ∀ (H0 G0 G H : Hp) (σ : L2.St) (env : DE) (Q : List D → Prop) (ex : EX) (R : VK), SR X.K H0 G0 G H σ env → LkE X.K H0 G0 G W σ env ex → t env Q ex → GotN X.K G H Q R → te σ H R
structure PDN (X : Cx) (W : WX) (e : Expr) (t : DTN) : Prop where
  of : ∃ te, PE X e te ∧ LN X W te t
def dNew (t : DTN) : DT := fun env Q ex => t env (fun l => Q (.lst l)) ex
theorem LN.le {X : Cx} {W : WX} {te : TE} {t : DTN} (h : LN X W te t) : LE X W te (dNew t) := fun H0 G0 G H σ env Q ex R S L q g =>
  h H0 G0 G H σ env _ ex R S L q fun p vs H' H1 G' l x n e r ql => by
    subst e
    have x2 : Ext G' H1 (upd G' p (.lst vs)) (upd H1 p (.lst vs)) := Ext.nw x.sub n
    have r2 := r.same x2.gg
    exact g _ _ _ _ (x.trans x2) (.lst (SqL.of upd_same) r2.1 r2.2) ql
theorem pd_new {X : Cx} {W : WX} {e : Expr} {t : DTN} (h : PDN X W e t) : PD X W e (dNew t) := let ⟨te, h1, h2⟩ := h.of; ⟨te, h1, h2.le⟩
section
variable {X : Cx} {W : WX} {a b c e : Expr} {es : List Expr} {ta tb tc : DT} {t : DTA} {pos : Pos}
/-! names, constants -/
def dVar (i : Nat) : DT := fun env Q _ => ∃ d, env[i]? = some (.val d) ∧ Q d
theorem pd_var {i : Nat} (h : PE X e (tVar i)) : PD X W e (dVar i) := ⟨_, h, fun H0 G0 G H σ env Q ex R S L ⟨d, hd, q⟩ g => by
  obtain ⟨v, e1, r⟩ := S.val i d hd
  exact ⟨v, e1, g v H G d (.refl S.sub) r q⟩⟩
def dC (d : D) : DT := fun _ Q _ => Q d
theorem pd_int {i : Int} (h : PE X e (tC (.int i))) : PD X W e (dC (.int i)) := ⟨_, h, fun H0 G0 G H σ env Q ex R S L q g => g _ _ _ _ (.refl S.sub) (.int i) q⟩
theorem pd_bl {i : Bool} (h : PE X e (tC (.bl i))) : PD X W e (dC (.bl i)) := ⟨_, h, fun H0 G0 G H σ env Q ex R S L q g => g _ _ _ _ (.refl S.sub) (.bl i) q⟩
theorem pd_str {i : Str} (h : PE X e (tC (.str i))) : PD X W e (dC (.str i)) := ⟨_, h, fun H0 G0 G H σ env Q ex R S L q g => g _ _ _ _ (.refl S.sub) (.str i) q⟩
theorem pd_non (h : PE X e (tC .non)) : PD X W e (dC .non) := ⟨_, h, fun H0 G0 G H σ env Q ex R S L q g => g _ _ _ _ (.refl S.sub) .non q⟩
/-! operators by values -/
abbrev R2D := D → D → (D → Prop) → Prop
def L2R (K : PySem.W.Frag) (r : R2) (rD : R2D) : Prop := ∀ (G H : Hp) (x y : V) (a b : D) (Q : D → Prop) (R : VK), Same G H → Rep K G x a → Rep K G y b → rD a b Q → Got K G H Q R → r x y H R
def L1R (K : PySem.W.Frag) (r : V → Hp → VK → Prop) (rD : D → (D → Prop) → Prop) : Prop := ∀ (G H : Hp) (x : V) (a : D) (Q : D → Prop) (R : VK), Same G H → Rep K G x a → rD a Q → Got K G H Q R → r x H R
def LcR (K : PySem.W.Frag) (r : List V → Hp → VK → Prop) (rD : List D → (D → Prop) → Prop) : Prop := ∀ (G H : Hp) (vs : List V) (ds : List D) (Q : D → Prop) (R : VK), Same G H → Reps K G vs ds → rD ds Q → Got K G H Q R → r vs H R
def LcN (K : PySem.W.Frag) (r : List V → Hp → VK → Prop) (rD : List D → (List D → Prop) → Prop) : Prop := ∀ (G H : Hp) (vs : List V) (ds : List D) (Q : List D → Prop) (R : VK), Same G H → Reps K G vs ds → rD ds Q → GotN K G H Q R → r vs H R
def LmR (K : PySem.W.Frag) (r : V → List V → Hp → VK → Prop) (rD : D → List D → (D → Prop) → Prop) : Prop := ∀ (G H : Hp) (x : V) (vs : List V) (a : D) (ds : List D) (Q : D → Prop) (R : VK), Same G H → Rep K G x a → Reps K G vs ds → rD a ds Q → Got K G H Q R → r x vs H R
def dOp (r : R2D) (ta tb : DT) : DT := fun env Q ex => ta env (fun x => tb env (fun y => r x y Q) ex) ex
theorem le_op {r : R2} {rD : R2D} (hl : L2R X.K r rD) {sa sb : TE} (la : LE X W sa ta) (lb : LE X W sb tb) : LE X W (tOp r sa sb) (dOp rD ta tb) := fun H0 G0 G H σ env Q ex R S L q g =>
  la H0 G0 G H σ env _ ex _ S L q fun v H1 G1 d x1 r1 q1 => lb H0 G0 G1 H1 σ env _ ex _ (S.ex x1) (L.mono x1.gg) q1 fun u H2 G2 d2 x2 r2 q2 =>
    hl G2 H2 v u d d2 Q R x2.sub (r1.same x2.gg) r2 q2 fun w H3 G3 d3 x3 r3 q3 => g w H3 G3 d3 ((x1.trans x2).trans x3) r3 q3
theorem pd_op {op : Operator} {r : R2} {rD : R2D} (ho : OpR X (binaryOp op) r) (hl : L2R X.K r rD) (ha : PD X W a ta) (hb : PD X W b tb) : PD X W (.BinOp a op b pos) (dOp rD ta tb) :=
  let ⟨_, pa, la⟩ := ha.of; let ⟨_, pb, lb⟩ := hb.of; ⟨_, pe_op ho pa pb, le_op hl la lb⟩
theorem pd_ix {r : R2} {rD : R2D} (ho : IxR X r) (hl : L2R X.K r rD) (ha : PD X W a ta) (hb : PD X W b tb) (hp : PlainIx b) : PD X W (.Subscript a b pos) (dOp rD ta tb) :=
  let ⟨_, pa, la⟩ := ha.of; let ⟨_, pb, lb⟩ := hb.of; ⟨_, pe_ix ho pa pb hp, le_op hl la lb⟩
theorem pd_cmp {op : CmpOp} {r : R2} {rD : R2D} (ho : OpR X (compareOp op) r) (hl : L2R X.K r rD) (ha : PD X W a ta) (hb : PD X W b tb) (hm : behindInMarks op b = false) : PD X W (.Compare a [op] [b] pos) (dOp rD ta tb) :=
  let ⟨_, pa, la⟩ := ha.of; let ⟨_, pb, lb⟩ := hb.of; ⟨_, pe_cmpR ho pa pb hm, le_op hl la lb⟩
def dUn (r : D → (D → Prop) → Prop) (ta : DT) : DT := fun env Q ex => ta env (fun x => r x Q) ex
theorem le_un {r : V → Hp → VK → Prop} {rD : D → (D → Prop) → Prop} (hl : L1R X.K r rD) {sa : TE} (la : LE X W sa ta) : LE X W (tUn r sa) (dUn rD ta) := fun H0 G0 G H σ env Q ex R S L q g =>
  la H0 G0 G H σ env _ ex _ S L q fun v H1 G1 d x1 r1 q1 => hl G1 H1 v d Q R x1.sub r1 q1 fun w H3 G3 d3 x3 r3 q3 => g w H3 G3 d3 (x1.trans x3) r3 q3
theorem pd_un {op : UnaryOp} {r : V → Hp → VK → Prop} {rD : D → (D → Prop) → Prop} (ho : UnR X (unaryOp op) r) (hl : L1R X.K r rD) (ha : PD X W a ta) : PD X W (.UnaryOp op a pos) (dUn rD ta) :=
  let ⟨_, pa, la⟩ := ha.of; ⟨_, pe_un ho pa, le_un hl la⟩
/-! tests -/
def dTest (t : DT) : DTT := fun env Q ex => t env (fun d => ∃ k, d = .bl k ∧ Q k) ex
theorem lt_test {sa : TE} (la : LE X W sa ta) : LT X W (tTest sa) (dTest ta) := fun H0 G0 G H σ env Q ex R S L q g =>
  la H0 G0 G H σ env _ ex _ S L q fun v H1 G1 d x1 r1 ⟨k, e1, q1⟩ => ⟨k, by subst e1; exact r1.bl_inv, g k H1 G1 x1 q1⟩
theorem pdt_cmp {op : CmpOp} {r : R2} {rD : R2D} (ho : OpR X (compareOp op) r) (hl : L2R X.K r rD) (ha : PD X W a ta) (hb : PD X W b tb) (hm : behindInMarks op b = false) : PDT X W (.Compare a [op] [b] pos) (dTest (dOp rD ta tb)) :=
  let ⟨_, pa, la⟩ := ha.of; let ⟨_, pb, lb⟩ := hb.of; ⟨_, pt_cmpR ho pa pb hm, lt_test (le_op hl la lb)⟩
theorem pdt_val (ha : PD X W e ta) (h : ∀ (whole : Sem Value), PySem.isTrue e X.env whole = (do let v ← whole; standAt e.pos; holding [v] (truthy v)) := by intro _; rfl) : PDT X W e (dTest ta) :=
  let ⟨_, pa, la⟩ := ha.of; ⟨_, pt_val pa h, lt_test la⟩
/-- truth of a thing -/
def truD : D → Bool
  | .non => false | .bl b => b | .int i => i != 0 | .str s => s.length != 0 | .lst l => !l.isEmpty | .tup l => !l.isEmpty | .ins _ _ => true
def dTru (t : DT) : DTT := fun env Q ex => t env (fun d => (match d with | .lst _ => True | .tup _ => True | .int _ => True | .non => True | _ => False) ∧ Q (truD d)) ex
theorem emp_len {α β : Type} {l : List α} {m : List β} (h : l.length = m.length) : l.isEmpty = m.isEmpty := by
  cases l <;> cases m <;> first | rfl | (simp at h)
theorem pdt_truth (ha : PD X W e ta) (h : ∀ (whole : Sem Value), PySem.isTrue e X.env whole = (do let v ← whole; standAt e.pos; holding [v] (truthy v)) := by intro _; rfl) : PDT X W e (dTru ta) := by
  obtain ⟨sa, pa, la⟩ := ha.of
  refine ⟨_, pt_truth pa h, fun H0 G0 G H σ env Q ex R S L q g => la H0 G0 G H σ env _ ex _ S L q fun v H1 G1 d x1 r1 ⟨q0, q1⟩ => ⟨truD d, ?_, g _ H1 G1 x1 q1⟩⟩
  cases d with
  | non => rw [r1.non_inv]; rfl
  | int i => rw [r1.int_inv]; rfl
  | lst l =>
    obtain ⟨p, vs, rfl, h1, h2⟩ := (r1.same x1.sub).lst_inv
    exact .inl ⟨vs, h1, by unfold truD; rw [emp_len h2.1]⟩
  | tup l =>
    obtain ⟨p, vs, rfl, h1, h2⟩ := (r1.same x1.sub).tup_inv
    exact .inr (.inl ⟨vs, h1, by unfold truD; rw [emp_len h2.1]⟩)
  | bl b => exact q0.elim
  | str s => exact q0.elim
  | ins c l => exact q0.elim
def dNot (t : DTT) : DTT := fun env Q ex => t env (fun k => Q (!k)) ex
theorem pdt_not {t : DTT} (ha : PDT X W a t) : PDT X W (.UnaryOp .Not a pos) (dNot t) :=
  let ⟨_, pa, la⟩ := ha.of; ⟨_, pt_not pa, fun H0 G0 G H σ env Q ex R S L q g => la H0 G0 G H σ env _ ex _ S L q fun k H1 G1 x1 q1 => g _ H1 G1 x1 q1⟩
def dAnd (t u : DTT) : DTT := fun env Q ex => t env (fun k => if k = true then u env Q ex else Q false) ex
def dOr (t u : DTT) : DTT := fun env Q ex => t env (fun k => if k = true then Q true else u env Q ex) ex
theorem lt_and {sa sb : TT} {t u : DTT} (la : LT X W sa t) (lb : LT X W sb u) : LT X W (tAnd sa sb) (dAnd t u) := fun H0 G0 G H σ env Q ex R S L q g =>
  la H0 G0 G H σ env _ ex _ S L q fun k H1 G1 x1 q1 => by
    cases k with
    | true =>
      simp only [if_true] at q1 ⊢
      exact lb H0 G0 G1 H1 σ env _ ex _ (S.ex x1) (L.mono x1.gg) q1 fun j H2 G2 x2 q2 => g _ H2 G2 (x1.trans x2) q2
    | false => exact g _ H1 G1 x1 q1
theorem lt_or {sa sb : TT} {t u : DTT} (la : LT X W sa t) (lb : LT X W sb u) : LT X W (tOr sa sb) (dOr t u) := fun H0 G0 G H σ env Q ex R S L q g =>
  la H0 G0 G H σ env _ ex _ S L q fun k H1 G1 x1 q1 => by
    cases k with
    | true => exact g _ H1 G1 x1 q1
    | false => exact lb H0 G0 G1 H1 σ env _ ex _ (S.ex x1) (L.mono x1.gg) q1 fun j H2 G2 x2 q2 => g _ H2 G2 (x1.trans x2) q2
theorem pdw_and {rest : List Expr} {t u : DTT} (ha : PDT X W a t) (hb : PDW X W (.BoolOp .And (b :: rest) pos) u) : PDW X W (.BoolOp .And (a :: b :: rest) pos) (dAnd t u) :=
  let ⟨_, pa, la⟩ := ha.of; let ⟨_, pb, lb⟩ := hb.of; ⟨_, pw_and pa pb, lt_and la lb⟩
theorem pdw_or {rest : List Expr} {t u : DTT} (ha : PDT X W a t) (hb : PDW X W (.BoolOp .Or (b :: rest) pos) u) : PDW X W (.BoolOp .Or (a :: b :: rest) pos) (dOr t u) :=
  let ⟨_, pa, la⟩ := ha.of; let ⟨_, pb, lb⟩ := hb.of; ⟨_, pw_or pa pb, lt_or la lb⟩
theorem pdw_and1 {t : DTT} (ha : PDT X W a t) : PDW X W (.BoolOp .And [a] pos) t := let ⟨_, pa, la⟩ := ha.of; ⟨_, pw_and1 pa, la⟩
theorem pdw_or1 {t : DTT} (ha : PDT X W a t) : PDW X W (.BoolOp .Or [a] pos) t := let ⟨_, pa, la⟩ := ha.of; ⟨_, pw_or1 pa, la⟩
theorem PDW.pt {t : DTT} (ha : PDW X W e t) : PDT X W e t := let ⟨_, pa, la⟩ := ha.of; ⟨_, pa.pt, la⟩
/-- as values -/
def dAndV (ta tb : DT) : DT := fun env Q ex => ta env (fun x => ∃ k, x = .bl k ∧ if k = true then tb env Q ex else Q (.bl false)) ex
def dOrV (ta tb : DT) : DT := fun env Q ex => ta env (fun x => ∃ k, x = .bl k ∧ if k = true then Q (.bl true) else tb env Q ex) ex
def dNotV (ta : DT) : DT := fun env Q ex => ta env (fun x => ∃ k, x = .bl k ∧ Q (.bl (!k))) ex
theorem pd_and {rest : List Expr} (ha : PD X W a ta) (hb : PD X W (.BoolOp .And (b :: rest) pos) tb) : PD X W (.BoolOp .And (a :: b :: rest) pos) (dAndV ta tb) := by
  obtain ⟨_, pa, la⟩ := ha.of
  obtain ⟨_, pb, lb⟩ := hb.of
  refine ⟨_, pe_and pa pb, fun H0 G0 G H σ env Q ex R S L q g => la H0 G0 G H σ env _ ex _ S L q fun v H1 G1 d x1 r1 ⟨k, e1, q1⟩ => ?_⟩
  subst e1
  refine ⟨k, r1.bl_inv, ?_⟩
  cases k with
  | true => exact lb H0 G0 G1 H1 σ env _ ex _ (S.ex x1) (L.mono x1.gg) q1 fun v H2 G2 d x2 r2 q2 => g _ H2 G2 d (x1.trans x2) r2 q2
  | false => exact g _ H1 G1 _ x1 (.bl false) q1
theorem pd_or {rest : List Expr} (ha : PD X W a ta) (hb : PD X W (.BoolOp .Or (b :: rest) pos) tb) : PD X W (.BoolOp .Or (a :: b :: rest) pos) (dOrV ta tb) := by
  obtain ⟨_, pa, la⟩ := ha.of
  obtain ⟨_, pb, lb⟩ := hb.of
  refine ⟨_, pe_or pa pb, fun H0 G0 G H σ env Q ex R S L q g => la H0 G0 G H σ env _ ex _ S L q fun v H1 G1 d x1 r1 ⟨k, e1, q1⟩ => ?_⟩
  subst e1
  refine ⟨k, r1.bl_inv, ?_⟩
  cases k with
  | false => exact lb H0 G0 G1 H1 σ env _ ex _ (S.ex x1) (L.mono x1.gg) q1 fun v H2 G2 d x2 r2 q2 => g _ H2 G2 d (x1.trans x2) r2 q2
  | true => exact g _ H1 G1 _ x1 (.bl true) q1
theorem pd_one {op : BoolOp} (ha : PD X W a ta) : PD X W (.BoolOp op [a] pos) ta := let ⟨_, pa, la⟩ := ha.of; ⟨_, pe_one pa, la⟩
theorem pd_not (ha : PD X W a ta) : PD X W (.UnaryOp .Not a pos) (dNotV ta) := by
  obtain ⟨_, pa, la⟩ := ha.of
  refine ⟨_, pe_not pa, fun H0 G0 G H σ env Q ex R S L q g => la H0 G0 G H σ env _ ex _ S L q fun v H1 G1 d x1 r1 ⟨k, e1, q1⟩ => ?_⟩
  subst e1
  exact ⟨k, r1.bl_inv, g _ H1 G1 _ x1 (.bl _) q1⟩
def dIfE (t : DTT) (ta tb : DT) : DT := fun env Q ex => t env (fun k => if k = true then ta env Q ex else tb env Q ex) ex
theorem pd_ife {t : DTT} (hc : PDT X W c t) (ha : PD X W a ta) (hb : PD X W b tb) : PD X W (.IfExp c a b pos) (dIfE t ta tb) := by
  obtain ⟨_, pc, lc⟩ := hc.of
  obtain ⟨_, pa, la⟩ := ha.of
  obtain ⟨_, pb, lb⟩ := hb.of
  refine ⟨_, pe_ifExp pc pa pb, fun H0 G0 G H σ env Q ex R S L q g => lc H0 G0 G H σ env _ ex _ S L q fun k H1 G1 x1 q1 => ?_⟩
  cases k with
  | true => exact la H0 G0 G1 H1 σ env _ ex _ (S.ex x1) (L.mono x1.gg) q1 fun v H2 G2 d x2 r2 q2 => g _ H2 G2 d (x1.trans x2) r2 q2
  | false => exact lb H0 G0 G1 H1 σ env _ ex _ (S.ex x1) (L.mono x1.gg) q1 fun v H2 G2 d x2 r2 q2 => g _ H2 G2 d (x1.trans x2) r2 q2
/-! argument lists, displays -/
def dNil : DTA := fun _ Q _ => Q []
def dCons (ta : DT) (t : DTA) : DTA := fun env Q ex => ta env (fun x => t env (fun xs => Q (x :: xs)) ex) ex
theorem pda_nil : PDA X W [] dNil := ⟨_, pa_nil, fun H0 G0 G H σ env Q ex R S L q g => g [] H G [] (.refl S.sub) .nil q⟩
theorem pda_cons (ha : PD X W e ta) (hr : PDA X W es t) (hs : starEach (e :: es) X.env = (false, eval e X.env) :: starEach es X.env := by rfl) : PDA X W (e :: es) (dCons ta t) := by
  obtain ⟨_, pa, la⟩ := ha.of
  obtain ⟨_, pr, lr⟩ := hr.of
  refine ⟨_, pa_cons pa pr hs, fun H0 G0 G H σ env Q ex R S L q g => la H0 G0 G H σ env _ ex _ S L q fun v H1 G1 d x1 r1 q1 => ?_⟩
  exact lr H0 G0 G1 H1 σ env _ ex _ (S.ex x1) (L.mono x1.gg) q1 fun vs H2 G2 ds x2 r2 q2 => g _ H2 G2 (d :: ds) (x1.trans x2) (r2.cons (r1.same x2.gg)) q2
def dTup (t : DTA) : DT := fun env Q ex => t env (fun xs => xs.length ≤ sizeLine ∧ Q (.tup xs)) ex
theorem pd_tup {x1} (h : PDA X W es t) : PD X W (.Tuple es x1 pos) (dTup t) := by
  obtain ⟨_, pa, la⟩ := h.of
  refine ⟨_, pe_tup pa, fun H0 G0 G H σ env Q ex R S L q g => la H0 G0 G H σ env _ ex _ S L q fun vs H1 G1 ds x1 r1 ⟨z, q1⟩ => ⟨by rw [r1.1]; exact z, fun p n => ?_⟩⟩
  have x2 : Ext G1 H1 (upd G1 p (.tup vs)) (upd H1 p (.tup vs)) := Ext.nw x1.sub n
  have r2 := r1.same x2.gg
  exact g _ _ _ _ (x1.trans x2) (.tup (SqT.of upd_same) r2.1 r2.2) q1
def dLst (t : DTA) : DTN := fun env Q ex => t env (fun xs => xs.length ≤ sizeLine ∧ Q xs) ex
theorem pdn_lst (h : PDA X W es t) : PDN X W (.List es pos) (dLst t) := by
  obtain ⟨_, pa, la⟩ := h.of
  refine ⟨_, pe_lst pa, fun H0 G0 G H σ env Q ex R S L q g => la H0 G0 G H σ env _ ex _ S L q fun vs H1 G1 ds x1 r1 ⟨z, q1⟩ => ⟨by rw [r1.1]; exact z, fun p n => ?_⟩⟩
  exact g p vs _ H1 G1 ds x1 n rfl r1 q1
/-! calls of built-ins -/
def dCB (rD : List D → (D → Prop) → Prop) (t : DTA) : DT := fun env Q ex => t env (fun ds => rD ds Q) ex
theorem pd_cb {r : List V → Hp → VK → Prop} {rD : List D → (D → Prop) → Prop} (mk : ∀ {ta : TA}, PA X es ta → PE X c (tCB r ta)) (hl : LcR X.K r rD) (ha : PDA X W es t) : PD X W c (dCB rD t) := by
  obtain ⟨_, pa, la⟩ := ha.of
  refine ⟨_, mk pa, fun H0 G0 G H σ env Q ex R S L q g => la H0 G0 G H σ env _ ex _ S L q fun vs H1 G1 ds x1 r1 q1 => ?_⟩
  exact hl G1 H1 vs ds Q R x1.sub r1 q1 fun w H3 G3 d3 x3 r3 q3 => g w H3 G3 d3 (x1.trans x3) r3 q3
def dCN (rD : List D → (List D → Prop) → Prop) (t : DTA) : DTN := fun env Q ex => t env (fun ds => rD ds Q) ex
theorem pdn_cb {r : List V → Hp → VK → Prop} {rD : List D → (List D → Prop) → Prop} (mk : ∀ {ta : TA}, PA X es ta → PE X c (tCB r ta)) (hl : LcN X.K r rD) (ha : PDA X W es t) : PDN X W c (dCN rD t) := by
  obtain ⟨_, pa, la⟩ := ha.of
  refine ⟨_, mk pa, fun H0 G0 G H σ env Q ex R S L q g => la H0 G0 G H σ env _ ex _ S L q fun vs H1 G1 ds x1 r1 q1 => ?_⟩
  exact hl G1 H1 vs ds Q R x1.sub r1 q1 fun p vs' H3 H2 G3 l x3 n e r3 q3 => g p vs' H3 H2 G3 l (x1.trans x3) n e r3 q3
def dM0 (rD : D → List D → (D → Prop) → Prop) (to : DT) : DT := fun env Q ex => to env (fun x => (∃ s, x = .str s) ∧ rD x [] Q) ex
def dM1 (rD : D → List D → (D → Prop) → Prop) (to te : DT) : DT := fun env Q ex => to env (fun x => (∃ s, x = .str s) ∧ te env (fun y => rD x [y] Q) ex) ex
theorem pd_m0 {r : V → List V → Hp → VK → Prop} {rD : D → List D → (D → Prop) → Prop} (mk : ∀ {to : TE}, PE X a to → PE X c (tM0 r to)) (hl : LmR X.K r rD) (ha : PD X W a ta) : PD X W c (dM0 rD ta) := by
  obtain ⟨_, pa, la⟩ := ha.of
  refine ⟨_, mk pa, fun H0 G0 G H σ env Q ex R S L q g => la H0 G0 G H σ env _ ex _ S L q fun v H1 G1 d x1 r1 q1 => ?_⟩
  obtain ⟨⟨s, rfl⟩, q2⟩ := q1
  exact ⟨⟨s, r1.str_inv⟩, hl G1 H1 v [] _ [] Q R x1.sub r1 .nil q2 fun w H3 G3 d3 x3 r3 q3 => g w H3 G3 d3 (x1.trans x3) r3 q3⟩
theorem pd_m1 {r : V → List V → Hp → VK → Prop} {rD : D → List D → (D → Prop) → Prop} (mk : ∀ {to te : TE}, PE X a to → PE X b te → PE X c (tM1 r to te)) (hl : LmR X.K r rD) (ha : PD X W a ta) (hb : PD X W b tb) : PD X W c (dM1 rD ta tb) := by
  obtain ⟨_, pa, la⟩ := ha.of
  obtain ⟨_, pb, lb⟩ := hb.of
  refine ⟨_, mk pa pb, fun H0 G0 G H σ env Q ex R S L q g => la H0 G0 G H σ env _ ex _ S L q fun v H1 G1 d x1 r1 q1 => ?_⟩
  obtain ⟨⟨s, rfl⟩, q2⟩ := q1
  refine ⟨⟨s, r1.str_inv⟩, lb H0 G0 G1 H1 σ env _ ex _ (S.ex x1) (L.mono x1.gg) q2 fun u H2 G2 d2 x2 r2 q3 => ?_⟩
  exact hl G2 H2 v [u] _ [d2] Q R x2.sub (r1.same x2.gg) (.one r2) q3 fun w H3 G3 d3 x3 r3 q4 => g w H3 G3 d3 ((x1.trans x2).trans x3) r3 q4
/-- a method of a text that makes a new list -/
def LmN (K : PySem.W.Frag) (r : V → List V → Hp → VK → Prop) (rD : D → List D → (List D → Prop) → Prop) : Prop := ∀ (G H : Hp) (x : V) (vs : List V) (a : D) (ds : List D) (Q : List D → Prop) (R : VK), Same G H → Rep K G x a → Reps K G vs ds → rD a ds Q → GotN K G H Q R → r x vs H R
def dM1N (rD : D → List D → (List D → Prop) → Prop) (to te : DT) : DTN := fun env Q ex => to env (fun x => (∃ s, x = .str s) ∧ te env (fun y => rD x [y] Q) ex) ex
theorem pdn_m1 {r : V → List V → Hp → VK → Prop} {rD : D → List D → (List D → Prop) → Prop} (mk : ∀ {to te : TE}, PE X a to → PE X b te → PE X c (tM1 r to te)) (hl : LmN X.K r rD) (ha : PD X W a ta) (hb : PD X W b tb) : PDN X W c (dM1N rD ta tb) := by
  obtain ⟨_, pa, la⟩ := ha.of
  obtain ⟨_, pb, lb⟩ := hb.of
  refine ⟨_, mk pa pb, fun H0 G0 G H σ env Q ex R S L q g => la H0 G0 G H σ env _ ex _ S L q fun v H1 G1 d x1 r1 q1 => ?_⟩
  obtain ⟨⟨s, rfl⟩, q2⟩ := q1
  refine ⟨⟨s, r1.str_inv⟩, lb H0 G0 G1 H1 σ env _ ex _ (S.ex x1) (L.mono x1.gg) q2 fun u H2 G2 d2 x2 r2 q3 => ?_⟩
  exact hl G2 H2 v [u] _ [d2] Q R x2.sub (r1.same x2.gg) (.one r2) q3 fun p vs' H4 H3 G3 l x3 n e r3 q4 => g p vs' H4 H3 G3 l ((x1.trans x2).trans x3) n e r3 q4
end
end DL

namespace DL
open PySem PySem.Spec PyProof.Rows L2 LR
/-! ## fields -/
theorem lookup_zip {f : Str} {v : V} : ∀ {ks : List Str} {vs : List V} {k : Nat}, ks.Nodup → ks[k]? = some f → vs[k]? = some v → (ks.zip vs).lookup f = some v
  | [], _, _, _, h, _ => by simp at h
  | _ :: _, [], _, _, _, h => by simp at h
  | g :: ks, w :: vs, 0, _, h, h2 => by
    simp at h h2
    subst h h2
    have e : (g == g) = true := beq_self_eq_true g
    simp only [List.zip_cons_cons, List.lookup, e]
  | g :: ks, w :: vs, k + 1, hn, h, h2 => by
    rw [List.nodup_cons] at hn
    have h' : ks[k]? = some f := by simpa using h
    have ne : (f == g) = false := beq_eq_false_iff_ne.mpr fun z => hn.1 (by rw [← z]; exact List.mem_of_getElem? h')
    simp only [List.zip_cons_cons, List.lookup, ne]
    exact lookup_zip hn.2 h' (by simpa using h2)
theorem lookup_zip_none {f : Str} : ∀ {ks : List Str} {vs : List V}, f ∉ ks → (ks.zip vs).lookup f = none
  | [], _, _ => rfl
  | _ :: _, [], _ => rfl
  | g :: ks, w :: vs, h => by
    have ne : (f == g) = false := beq_eq_false_iff_ne.mpr fun z => h (by rw [z]; exact List.mem_cons_self)
    simp only [List.zip_cons_cons, List.lookup, ne]
    exact lookup_zip_none fun z => h (List.mem_cons_of_mem _ z)
section
variable {X : Cx} {W : WX} {a b c e : Expr} {es : List Expr} {ta tb tc : DT} {t : DTA} {pos : Pos}
def dFld (c k : Nat) (ta : DT) : DT := fun env Q ex => ta env (fun d => ∃ l x, d = .ins c l ∧ l[k]? = some x ∧ Q x) ex
theorem pd_fld {c k : Nat} {f : Str} (cl : Cls X.K (He.ga X.K (cname c))) (na : NoAttr X.K (He.ga X.K (cname c)) f) (fk : (shape c)[k]? = some f ∧ (shape c).Nodup) (ha : PD X W e ta)
    (hb : attributeBase e f X.env (eval e X.env) = eval e X.env := by rfl) : PD X W (.Attribute e f pos) (dFld c k ta) := by
  obtain ⟨_, pa, la⟩ := ha.of
  refine ⟨_, pe_fld pa hb, fun H0 G0 G H σ env Q ex R S L q g => la H0 G0 G H σ env _ ex _ S L q fun v H1 G1 d x1 r1 ⟨l, x, e1, hx, q1⟩ => ?_⟩
  subst e1
  obtain ⟨p, dx, vs, rfl, hp, hm, r2⟩ := r1.ins_inv
  obtain ⟨w, hw, rw⟩ := r2.at hx
  exact ⟨p, _, dx, _, w, rfl, x1.sub _ _ hp, cl, na, lookup_zip fk.2 fk.1 hw, g w H1 G1 x x1 rw q1⟩
/-! ## promises -/
abbrev Prm := List D → (D → Prop) → EX → Prop
/-- how an own error leaves -/
def Out (K : PySem.W.Frag) (G H : Hp) (ED : EX) (E : XK) : Prop := ∀ (H' G' : Hp) (d : Addr) (x : Str) (fv : List (Str × V)) (fs : List (Str × D)), Ext G H G' H' → H' d = some (.xd fv) → RepF K G' fv fs → ED x fs → E (.ref (He.ga K x)) (some d) H'
def spD (K : PySem.W.Frag) (n : Nat) (P : Prm) : Sp := fun vs H Q E => vs.length = n ∧ ∃ (G : Hp) (ds : List D) (QD : D → Prop) (ED : EX), Same G H ∧ Reps K G vs ds ∧ P ds QD ED ∧ Got K G H QD Q ∧ Out K G H ED E
theorem sp_call {K : PySem.W.Frag} {n : Nat} {H0 G0 G H : Hp} {σ : L2.St} {env : DE} {W : WX} {ex : EX} {P : Prm} {vs : List V} {ds : List D} {Q : D → Prop} {R : VK} (S : SR K H0 G0 G H σ env) (L : LkE K H0 G0 G W σ env ex) (hn : ∀ ds Q ex, P ds Q ex → ds.length = n) (r : Reps K G vs ds) (h : P ds Q ex) (g : Got K G H Q R) :
    spD K n P vs H R (WE W σ) := ⟨by rw [r.1]; exact hn _ _ _ h, G, ds, Q, ex, S.sub, r, h, g, fun H' G' d x fv fs xt e rf q => L H' G' d x fv fs xt.gg (S.ex xt) e rf q⟩
theorem sp_call0 {K : PySem.W.Frag} {n : Nat} {G H : Hp} {E : XK} {P : Prm} {vs : List V} {ds : List D} {Q : D → Prop} {R : VK} (s : Same G H) (hn : ∀ ds Q ex, P ds Q ex → ds.length = n) (r : Reps K G vs ds) (h : P ds Q (fun _ _ => False)) (g : Got K G H Q R) :
    spD K n P vs H R E := ⟨by rw [r.1]; exact hn _ _ _ h, G, ds, Q, _, s, r, h, g, fun H' G' d x fv fs xt e rf q => q.elim⟩
def dCall (P : Prm) (t : DTA) : DT := fun env Q ex => t env (fun ds => P ds Q ex) ex
/-- a def that keeps a promise on data; n parameters -/
structure Fn (P : Program) (w : World) (K : PySem.W.Frag) (mg : Str → Option Value) (base : Heap) (f : Addr) (k : Nat) (n : Nat) (Pm : Prm) where
  fd : FuncData
  ps : List Str
  ok : FnOk P w K mg base (L2.CX P w) k f fd ps (spD K n Pm)
  bd : Binds K fd ps []
  len : ∀ ds Q ex, Pm ds Q ex → ds.length = n
variable {k n : Nat} {f : Addr} {Pm : Prm} {x m : Str} {p apos : Pos} {o : Expr}
theorem pd_call (F : Fn X.prog X.w X.K X.mg X.base f k n Pm) (hr : Room k X.A) (hg : Gl X x) (hm : X.mg x = some (.ref f)) (hk : PySem.W.keepIn X.K (.ref f) = true) (tk : Takes X W) (ha : PDA X W (e :: es) t)
    (hdb : (x == ("__debug__" : Str)) = false := by decide) (he : starEach (e :: es) X.env = (false, eval e X.env) :: starEach es X.env := by rfl) (hpl : (backTo pos (starEach es X.env)).any (·.1) = false := by rfl) :
    PD X W (.Call (.Name x p) (e :: es) [] pos) (dCall Pm t) := by
  obtain ⟨_, pa, la⟩ := ha.of
  refine ⟨_, pe_callS F.ok hr hg hm hk F.bd (fun σ => passAt tk σ) pa hdb he hpl, fun H0 G0 G H σ env Q ex R S L q g => la H0 G0 G H σ env _ ex _ S L q fun vs H1 G1 ds x1 r1 q1 => ?_⟩
  exact sp_call (S.ex x1) (L.mono x1.gg) F.len r1 q1 fun v H2 G2 d x2 r2 q2 => g v H2 G2 d (x1.trans x2) r2 q2
theorem pd_call0 (F : Fn X.prog X.w X.K X.mg X.base f k n Pm) (hr : Room k X.A) (hg : Gl X x) (hm : X.mg x = some (.ref f)) (hk : PySem.W.keepIn X.K (.ref f) = true)
    (hdb : (x == ("__debug__" : Str)) = false := by decide) : PD X W (.Call (.Name x p) [] [] pos) (fun _ Q _ => Pm [] Q (fun _ _ => False)) :=
  ⟨_, pe_call0 F.ok hr hg hm hk F.bd .nil passL hdb, fun H0 G0 G H σ env Q ex R S L q g => sp_call0 S.sub F.len .nil q g⟩
/-- o.m(..) -/
def dMeth (c : Nat) (P : Prm) (ta : DT) (t : DTA) : DT := fun env Q ex => ta env (fun d => (∃ l, d = .ins c l) ∧ t env (fun ds => P (d :: ds) Q ex) ex) ex
theorem pd_meth {c : Nat} {pl : Sem Bool} (ho : PD X W o ta) (cl : Cls X.K (He.ga X.K (cname c))) (hm : Meth X.K (He.ga X.K (cname c)) m f) (F : Fn X.prog X.w X.K X.mg X.base f k n Pm) (hr : Room k X.A) (tk : Takes X W) (nm : m ∉ shape c) (ha : PDA X W (e :: es) t)
    (hst : starEach (e :: es) X.env = (false, eval e X.env) :: starEach es X.env := by rfl) (hpl : (backTo pos (starEach es X.env)).any (·.1) = false := by rfl)
    (ht : eval (.Call (.Attribute o m apos) (e :: es) [] pos) X.env = (do
      let ov ← eval o X.env
      standAt apos.atName
      let (f, first) ← holding [ov] (getMethod ov m pl)
      callWith pos f first (backTo pos (starEach (e :: es) X.env)) (backToKw pos (keywordEach [] X.env))) := by rfl) :
    PD X W (.Call (.Attribute o m apos) (e :: es) [] pos) (dMeth c Pm ta t) := by
  obtain ⟨_, po, lo⟩ := ho.of
  obtain ⟨_, pa, la⟩ := ha.of
  refine ⟨_, pe_methS po cl hm F.ok hr F.bd (fun σ => passAt tk σ) pa hst hpl ht, fun H0 G0 G H σ env Q ex R S L q g => lo H0 G0 G H σ env _ ex _ S L q fun v H1 G1 d x1 r1 q1 => ?_⟩
  obtain ⟨⟨l, rfl⟩, q2⟩ := q1
  obtain ⟨p, dx, ws, rfl, hp, hm', r2⟩ := id r1.ins_inv
  refine ⟨p, dx, _, rfl, x1.sub _ _ hp, lookup_zip_none nm, la H0 G0 G1 H1 σ env _ ex _ (S.ex x1) (L.mono x1.gg) q2 fun vs H2 G2 ds x2 r3 q3 => ?_⟩
  have x12 := x1.trans x2
  exact sp_call (S.ex x12) (L.mono x12.gg) F.len (r3.cons (r1.same x2.gg)) q3 fun v H3 G3 d x3 r4 q4 => g v H3 G3 d (x12.trans x3) r4 q4
/-- o.m() -/
theorem pe_meth0S {pl : Sem Bool} {C : Addr} {fd : FuncData} {ps : List Str} {sp : Sp} {E : L2.St → XK} {sa : TE} {CX : CXT} (he : PE X o sa) (c : Cls X.K C) (hm : Meth X.K C m f) (F : FnOk X.prog X.w X.K X.mg X.base CX k f fd ps sp) (hr : Room k X.A) (hb : Binds X.K fd ps []) (hx : ∀ σ, PassesAt CX X σ (E σ))
    (ht : eval (.Call (.Attribute o m apos) [] [] pos) X.env = (do
      let ov ← eval o X.env
      standAt apos.atName
      let (f, first) ← holding [ov] (getMethod ov m pl)
      callWith pos f first (backTo pos (starEach [] X.env)) (backToKw pos (keywordEach [] X.env))) := by rfl) :
    PE X (.Call (.Attribute o m apos) [] [] pos) (tMethS C m sp E sa tNil) := by
  refine ⟨fun pins s σ H Q I h => ?_⟩
  refine PySem.W.methodCall_KW (pl := pl) (thn (he.run pins s σ H _ I h) fun u s1 ⟨x, H1, I1, rx, a, dx, fs, ex, ea, l, q⟩ => ?_) ht
  subst ex
  obtain rfl : u = Value.ref a := rx
  refine getmeth_ok I1 ea c hm l ?_
  exact PySem.W.callWith_K0 (first := [.ref a]) I1.kIn hm.kp (run_fnS (us := [.ref a]) (vs := [.ref a]) F hr hb (hx σ) I1 (.cons rfl .nil) q)
theorem pd_meth0 {c : Nat} {pl : Sem Bool} (ho : PD X W o ta) (cl : Cls X.K (He.ga X.K (cname c))) (hm : Meth X.K (He.ga X.K (cname c)) m f) (F : Fn X.prog X.w X.K X.mg X.base f k n Pm) (hr : Room k X.A) (tk : Takes X W) (nm : m ∉ shape c)
    (ht : eval (.Call (.Attribute o m apos) [] [] pos) X.env = (do
      let ov ← eval o X.env
      standAt apos.atName
      let (f, first) ← holding [ov] (getMethod ov m pl)
      callWith pos f first (backTo pos (starEach [] X.env)) (backToKw pos (keywordEach [] X.env))) := by rfl) :
    PD X W (.Call (.Attribute o m apos) [] [] pos) (dMeth c Pm ta dNil) := by
  obtain ⟨_, po, lo⟩ := ho.of
  refine ⟨_, pe_meth0S po cl hm F.ok hr F.bd (fun σ => passAt tk σ) ht, fun H0 G0 G H σ env Q ex R S L q g => lo H0 G0 G H σ env _ ex _ S L q fun v H1 G1 d x1 r1 q1 => ?_⟩
  obtain ⟨⟨l, rfl⟩, q2⟩ := q1
  obtain ⟨p, dx, ws, rfl, hp, hm', r2⟩ := id r1.ins_inv
  refine ⟨p, dx, _, rfl, x1.sub _ _ hp, lookup_zip_none nm, ?_⟩
  exact sp_call (S.ex x1) (L.mono x1.gg) F.len (.one r1) q2 fun v H3 G3 d x3 r4 q4 => g v H3 G3 d (x1.trans x3) r4 q4
/-- o.f, a property -/
def dProp (c : Nat) (P : Prm) (ta : DT) : DT := fun env Q ex => ta env (fun d => (∃ l, d = .ins c l) ∧ P [d] Q (fun _ _ => False)) ex
theorem pd_prop {c : Nat} {f : Str} {ap g : Addr} (ho : PD X W e ta) (cl : Cls X.K (He.ga X.K (cname c))) (hp : PropOf X.K (He.ga X.K (cname c)) f ap g) (F : Fn X.prog X.w X.K X.mg X.base g k n Pm) (hr : Room (k + 1) X.A)
    (hab : attributeBase e f X.env (eval e X.env) = eval e X.env := by rfl) : PD X W (.Attribute e f pos) (dProp c Pm ta) := by
  obtain ⟨_, po, lo⟩ := ho.of
  refine ⟨_, pe_prop po cl hp F.ok hr F.bd .nil passL hab, fun H0 G0 G H σ env Q ex R S L q gg => lo H0 G0 G H σ env _ ex _ S L q fun v H1 G1 d x1 r1 q1 => ?_⟩
  obtain ⟨⟨l, rfl⟩, q2⟩ := q1
  obtain ⟨p, dx, ws, rfl, hp, hm', r2⟩ := id r1.ins_inv
  exact ⟨p, dx, _, rfl, x1.sub _ _ hp, sp_call0 x1.sub F.len (.one r1) q2 fun v H3 G3 d x3 r4 q4 => gg v H3 G3 d (x1.trans x3) r4 q4⟩
/-! ## objects made -/
/-- what an __init__ has done: the object at p stands for d -/
def Made (K : PySem.W.Frag) (G H : Hp) (p : Addr) (QD : D → Prop) (R : Hp → Prop) : Prop := ∀ (H' G' : Hp) (d : D), (∀ a o, H a = some o → a ≠ p → H' a = some o) → Same G G' → Same G' H' → (∀ a, G' a ≠ none → G a = none → H a = none ∨ a = p) → Rep K G' (.ref p) d → QD d → R H'
def OutI (K : PySem.W.Frag) (G H : Hp) (p : Addr) (ED : EX) (E : XK) : Prop := ∀ (H' G' : Hp) (d : Addr) (x : Str) (fv : List (Str × V)) (fs : List (Str × D)), (∀ a o, H a = some o → a ≠ p → H' a = some o) → Same G G' → Same G' H' → (∀ a, G' a ≠ none → G a = none → H a = none ∨ a = p) →
  H' d = some (.xd fv) → RepF K G' fv fs → ED x fs → E (.ref (He.ga K x)) (some d) H'
def spI (K : PySem.W.Frag) (c n : Nat) (P : Prm) : Sp := fun vs H Q E => ∃ (p dx : Addr) (us : List V) (G : Hp) (ds : List D) (QD : D → Prop) (ED : EX), vs = .ref p :: us ∧ us.length = n ∧ H p = some (.ins (He.ga K (cname c)) dx []) ∧ Same G H ∧ G p = none ∧ Reps K G us ds ∧ P ds QD ED ∧
  Made K G H p QD (fun H' => Q .non H') ∧ OutI K G H p ED E
structure FnI (P : Program) (w : World) (K : PySem.W.Frag) (mg : Str → Option Value) (base : Heap) (f : Addr) (k : Nat) (c n : Nat) (Pm : Prm) (dv : List V) (dd : List D) where
  fd : FuncData
  ps : List Str
  ok : FnOk P w K mg base (L2.CX P w) k f fd ps (spI K c n Pm)
  ds : List Value
  vd : Vals dv ds
  bd : Binds K fd ps ds
  len : ∀ ds Q ex, Pm ds Q ex → ds.length = n
def dMake (P : Prm) (dd : List D) (t : DTA) : DT := fun env Q ex => t env (fun ds => P (ds ++ dd) Q ex) ex
theorem pd_make {c : Nat} {dv : List V} {dd : List D} (M : Mk X.K (He.ga X.K (cname c)) f) (F : FnI X.prog X.w X.K X.mg X.base f k c n Pm dv dd) (hd : ∀ K H, Reps K H dv dd) (hr : Room (k + 1) X.A) (hg : Gl X x) (hm : X.mg x = some (.ref (He.ga X.K (cname c)))) (tk : Takes X W) (ha : PDA X W (e :: es) t)
    (hdb : (x == ("__debug__" : Str)) = false := by decide) (he : starEach (e :: es) X.env = (false, eval e X.env) :: starEach es X.env := by rfl) (hpl : (backTo pos (starEach es X.env)).any (·.1) = false := by rfl) :
    PD X W (.Call (.Name x p) (e :: es) [] pos) (dMake Pm dd t) := by
  obtain ⟨_, pa, la⟩ := ha.of
  refine ⟨_, pe_makeS M F.ok hr hg hm F.bd F.vd (fun σ => passAt tk σ) pa hdb he hpl, fun H0 G0 G H σ env Q ex R S L q g => la H0 G0 G H σ env _ ex _ S L q fun vs H1 G1 ds x1 r1 q1 => ?_⟩
  intro x dx nx nd ne
  have s0 : Same H1 (upd (upd H1 dx (.own x)) x (.ins (He.ga X.K (cname c)) dx [])) := fun a o h => by
    rw [upd_ne (ne_of_none h nx), upd_ne (ne_of_none h nd)]
    exact h
  have gx : G1 x = none := x1.sub.free nx
  have rr := r1.app (hd X.K G1)
  have back : ∀ a, (upd (upd H1 dx (.own x)) x (.ins (He.ga X.K (cname c)) dx [])) a = none ∨ a = x → H1 a = none := fun a h => by
    rcases h with h | h
    · by_cases h1 : a = x
      · subst h1; exact nx
      · rw [upd_ne h1] at h
        by_cases h2 : a = dx
        · subst h2; exact nd
        · rw [upd_ne h2] at h; exact h
    · subst h; exact nx
  have xt : ∀ H' G' : Hp, (∀ a o, (upd (upd H1 dx (.own x)) x (.ins (He.ga X.K (cname c)) dx [])) a = some o → a ≠ x → H' a = some o) → Same G1 G' → Same G' H' → (∀ a, G' a ≠ none → G1 a = none → (upd (upd H1 dx (.own x)) x (.ins (He.ga X.K (cname c)) dx [])) a = none ∨ a = x) → Ext G1 H1 G' H' := fun H' G' h1 h2 h3 h4 =>
    ⟨fun a o h => h1 a o (s0 a o h) (ne_of_none h nx), h2, h3, fun a h5 h6 => back a (h4 a h5 h6)⟩
  refine ⟨x, dx, vs ++ dv, G1, ds ++ dd, Q, ex, rfl, by rw [rr.1]; exact F.len _ _ _ q1, upd_same, x1.sub.trans s0, gx, rr, q1, fun H' G' d h1 h2 h3 h4 r q2 => ⟨rfl, g _ H' G' d (x1.trans (xt H' G' h1 h2 h3 h4)) r q2⟩, fun H' G' d x' fv fs h1 h2 h3 h4 e rf q2 => ?_⟩
  have z := xt H' G' h1 h2 h3 h4
  exact L H' G' d x' fv fs (x1.trans z).gg ((S.ex x1).ex z) e rf q2
end
end DL

namespace DL
open PySem PySem.Spec PyProof.Rows L2 LR
/-! ## what is walked -/
structure JOk (K : PySem.W.Frag) (J : It) (G : Hp) (items : List D) : Prop where
  go : ∀ (i : Nat) H, Same G H → i < items.length → J.go i H
  stop : ∀ H, Same G H → J.stop items.length H
  yld : ∀ (i : Nat) H G1 x H', Same G G1 → Same G1 H → i < items.length → J.yld i H x H' → ∃ G' d, items[i]? = some d ∧ Ext G1 H G' H' ∧ Rep K G' x d
abbrev DTI := DE → (List D → Prop) → EX → Prop
def LI (X : Cx) (W : WX) (ti : TI) (t : DTI) : Prop := ∀ (H0 G0 G H : Hp) (σ : L2.St) (env : DE) (Q : List D → Prop) (ex : EX) (R : It → Hp → Prop), SR X.K H0 G0 G H σ env → LkE X.K H0 G0 G W σ env ex → t env Q ex →
  (∀ J H' G' items, Ext G H G' H' → JOk X.K J G' items → Q items → R J H') → ti σ H R
structure PDI (X : Cx) (W : WX) (tg it : Expr) (t : DTI) : Prop where
  of : ∃ ti, PI X tg it ti ∧ LI X W ti t
theorem jok_list {K : PySem.W.Frag} {G : Hp} {a : Addr} {vs : List V} {l : List D} (h : SqL K G a vs) (r : Reps K G vs l) : JOk K (Itl K a) G l where
  go := fun i H s hi => ⟨vs, vs[i]'(by rw [r.1]; exact hi), s.seq h, List.getElem?_eq_getElem _⟩
  stop := fun H s => ⟨vs, s.seq h, by rw [r.1]; exact Nat.le_refl _⟩
  yld := fun i H G1 x H' s1 s2 hi ⟨e, y⟩ => by
    subst e
    have hx := y vs ((s1.trans s2).seq h)
    obtain ⟨d, hd, rd⟩ := r.at' hx
    exact ⟨G1, d, hd, .refl s2, rd.same s1⟩
theorem jok_tup {K : PySem.W.Frag} {G : Hp} {a : Addr} {vs : List V} {l : List D} (h : SqT K G a vs) (r : Reps K G vs l) : JOk K (Itt K a) G l where
  go := fun i H s hi => ⟨vs, vs[i]'(by rw [r.1]; exact hi), sqT_same s h, List.getElem?_eq_getElem _⟩
  stop := fun H s => ⟨vs, sqT_same s h, by rw [r.1]; exact Nat.le_refl _⟩
  yld := fun i H G1 x H' s1 s2 hi ⟨e, y⟩ => by
    subst e
    have hx := y vs (sqT_same (s1.trans s2) h)
    obtain ⟨d, hd, rd⟩ := r.at' hx
    exact ⟨G1, d, hd, .refl s2, rd.same s1⟩
def rngD (lo : Int) (n : Nat) : List D := (List.range n).map fun (i : Nat) => D.int (lo + i)
theorem jok_range {K : PySem.W.Frag} {G : Hp} {lo : Int} {n : Nat} : JOk K (Itr lo n) G (rngD lo n) where
  go := fun i H s hi => by show i < n; unfold rngD at hi; simpa using hi
  stop := fun H s => by show n ≤ _; unfold rngD; simp
  yld := fun i H G1 x H' s1 s2 hi ⟨e, y⟩ => by
    subst e y
    have hi' : i < n := by unfold rngD at hi; simpa using hi
    exact ⟨G1, _, by unfold rngD; simp [hi'], .refl s2, .int _⟩
theorem ext_pair {K : PySem.W.Frag} {G1 H : Hp} {T : Addr} {x y : V} {d e : D} (s : Same G1 H) (n : H T = none) (r1 : Rep K G1 x d) (r2 : Rep K G1 y e) : Ext G1 H (upd G1 T (.tup [x, y])) (upd H T (.tup [x, y])) ∧ Rep K (upd G1 T (.tup [x, y])) (.ref T) (.tup [d, e]) := by
  have x2 : Ext G1 H (upd G1 T (.tup [x, y])) (upd H T (.tup [x, y])) := Ext.nw s n
  have rr : Reps K (upd G1 T (.tup [x, y])) [x, y] [d, e] := (Reps.one (r2.same x2.gg)).cons (r1.same x2.gg)
  exact ⟨x2, .tup (SqT.of upd_same) rr.1 rr.2⟩
def enumD (l : List D) : List D := (List.range l.length).zipWith (fun (i : Nat) d => D.tup [.int i, d]) l
theorem enumD_len (l : List D) : (enumD l).length = l.length := by unfold enumD; simp
theorem enumD_at {l : List D} {i : Nat} {d : D} (h : l[i]? = some d) : (enumD l)[i]? = some (.tup [.int i, d]) := by
  have hi : i < l.length := (List.getElem?_eq_some_iff.mp h).1
  unfold enumD
  rw [List.getElem?_zipWith, h]
  simp [hi]
theorem jok_enum {K : PySem.W.Frag} {G : Hp} {a : Addr} {vs : List V} {l : List D} (h : SqL K G a vs) (r : Reps K G vs l) : JOk K (Ite K a) G (enumD l) where
  go := fun i H s hi => ⟨vs, vs[i]'(by rw [r.1]; rw [enumD_len] at hi; exact hi), s.seq h, List.getElem?_eq_getElem _⟩
  stop := fun H s => ⟨vs, s.seq h, by rw [r.1, enumD_len]; exact Nat.le_refl _⟩
  yld := fun i H G1 x H' s1 s2 hi ⟨T, x', e, n, e2, y⟩ => by
    subst e e2
    have hx := y vs ((s1.trans s2).seq h)
    obtain ⟨d, hd, rd⟩ := r.at' hx
    obtain ⟨x2, r2⟩ := ext_pair s2 n (.int (i : Nat)) (rd.same s1)
    exact ⟨_, _, enumD_at hd, x2, r2⟩
def zipD (l m : List D) : List D := l.zipWith (fun d e => D.tup [d, e]) m
theorem zipD_at {l m : List D} {i : Nat} {d e : D} (h : l[i]? = some d) (h2 : m[i]? = some e) : (zipD l m)[i]? = some (.tup [d, e]) := by
  unfold zipD
  rw [List.getElem?_zipWith, h, h2]
theorem zipD_len (l m : List D) : (zipD l m).length = min l.length m.length := by unfold zipD; simp
theorem jok_zip {K : PySem.W.Frag} {G : Hp} {a b : Addr} {vs us : List V} {l m : List D} (h : SqL K G a vs) (r : Reps K G vs l) (h2 : SqL K G b us) (r2 : Reps K G us m) : JOk K (Itz K a b) G (zipD l m) where
  go := fun i H s hi => by
    rw [zipD_len] at hi
    exact ⟨vs, us, vs[i]'(by rw [r.1]; omega), us[i]'(by rw [r2.1]; omega), s.seq h, s.seq h2, List.getElem?_eq_getElem _, List.getElem?_eq_getElem _⟩
  stop := fun H s => ⟨vs, us, s.seq h, s.seq h2, by rw [zipD_len, r.1, r2.1]; omega⟩
  yld := fun i H G1 x H' s1 s2 hi ⟨T, x', y', e, n, e2, y1, y2⟩ => by
    subst e e2
    have hx := y1 vs ((s1.trans s2).seq h)
    have hy := y2 us ((s1.trans s2).seq h2)
    obtain ⟨d, hd, rd⟩ := r.at' hx
    obtain ⟨d2, hd2, rd2⟩ := r2.at' hy
    obtain ⟨x3, r3⟩ := ext_pair s2 n (rd.same s1) (rd2.same s1)
    exact ⟨_, _, zipD_at hd hd2, x3, r3⟩
theorem jok_zipT {K : PySem.W.Frag} {G : Hp} {a b : Addr} {vs us : List V} {l m : List D} (h : SqT K G a vs) (r : Reps K G vs l) (h2 : SqT K G b us) (r2 : Reps K G us m) : JOk K (RZ.ItzT K a b) G (zipD l m) where
  go := fun i H s hi => by
    rw [zipD_len] at hi
    exact ⟨vs, us, vs[i]'(by rw [r.1]; omega), us[i]'(by rw [r2.1]; omega), sqT_same s h, sqT_same s h2, List.getElem?_eq_getElem _, List.getElem?_eq_getElem _⟩
  stop := fun H s => ⟨vs, us, sqT_same s h, sqT_same s h2, by rw [zipD_len, r.1, r2.1]; omega⟩
  yld := fun i H G1 x H' s1 s2 hi ⟨T, x', y', e, n, e2, y1, y2⟩ => by
    subst e e2
    have hx := y1 vs (sqT_same (s1.trans s2) h)
    have hy := y2 us (sqT_same (s1.trans s2) h2)
    obtain ⟨d, hd, rd⟩ := r.at' hx
    obtain ⟨d2, hd2, rd2⟩ := r2.at' hy
    obtain ⟨x3, r3⟩ := ext_pair s2 n (rd.same s1) (rd2.same s1)
    exact ⟨_, _, zipD_at hd hd2, x3, r3⟩
def strD (s : Str) : List D := s.cps.toList.map fun c => D.str ⟨#[c]⟩
theorem jok_str {K : PySem.W.Frag} {G : Hp} {s : Str} : JOk K (Its s) G (strD s) where
  go := fun i H _ hi => by show i < s.cps.size; unfold strD at hi; simpa using hi
  stop := fun H _ => by show s.cps.size ≤ _; unfold strD; simp
  yld := fun i H G1 x H' s1 s2 hi ⟨e, c, hc, ex⟩ => by
    subst e ex
    exact ⟨G1, .str ⟨#[c]⟩, by unfold strD; rw [List.getElem?_map, Array.getElem?_toList, hc]; rfl, .refl s2, .str _⟩
section
variable {X : Cx} {W : WX} {a b c e tg : Expr} {es : List Expr} {ta tb tc : DT} {t : DTA} {pos p : Pos}
def diL (ta : DT) : DTI := fun env Q ex => ta env (fun d => ∃ l, d = .lst l ∧ Q l) ex
def diT (ta : DT) : DTI := fun env Q ex => ta env (fun d => ∃ l, d = .tup l ∧ Q l) ex
theorem pdi_list (ha : PD X W e ta) : PDI X W tg e (diL ta) := by
  obtain ⟨_, pa, la⟩ := ha.of
  refine ⟨_, pi_list pa, fun H0 G0 G H σ env Q ex R S L q g => la H0 G0 G H σ env _ ex _ S L q fun v H1 G1 d x1 r1 ⟨l, e1, q1⟩ => ?_⟩
  subst e1
  obtain ⟨p, vs, rfl, h1, h2⟩ := r1.lst_inv
  exact ⟨p, rfl, ⟨vs, x1.sub.seq h1⟩, g _ H1 G1 l x1 (jok_list h1 h2) q1⟩
theorem pdi_tup (ha : PD X W e ta) : PDI X W tg e (diT ta) := by
  obtain ⟨_, pa, la⟩ := ha.of
  refine ⟨_, pi_tup pa, fun H0 G0 G H σ env Q ex R S L q g => la H0 G0 G H σ env _ ex _ S L q fun v H1 G1 d x1 r1 ⟨l, e1, q1⟩ => ?_⟩
  subst e1
  obtain ⟨p, vs, rfl, h1, h2⟩ := r1.tup_inv
  exact ⟨p, rfl, ⟨vs, sqT_same x1.sub h1⟩, g _ H1 G1 l x1 (jok_tup h1 h2) q1⟩
theorem pdi_str (ha : PD X W e ta) : PDI X W tg e (fun env Q ex => ta env (fun d => ∃ s, d = .str s ∧ Q (strD s)) ex) := by
  obtain ⟨_, pa, la⟩ := ha.of
  refine ⟨_, pi_str pa, fun H0 G0 G H σ env Q ex R S L q g => la H0 G0 G H σ env _ ex _ S L q fun v H1 G1 d x1 r1 ⟨l, e1, q1⟩ => ?_⟩
  subst e1
  exact ⟨l, r1.str_inv, g _ H1 G1 _ x1 jok_str q1⟩
def diR1 (t : DTA) : DTI := fun env Q ex => t env (fun ds => ∃ j : Int, ds = [.int j] ∧ -(2 ^ 62) ≤ j ∧ j < 2 ^ 62 ∧ Q (rngD 0 j.toNat)) ex
def diR2 (t : DTA) : DTI := fun env Q ex => t env (fun ds => ∃ i j : Int, ds = [.int i, .int j] ∧ (-(2 ^ 62) ≤ i ∧ i < 2 ^ 62 ∧ -(2 ^ 62) ≤ j ∧ j < 2 ^ 62) ∧ Q (rngD i (j - i).toNat)) ex
theorem reps1 {K : PySem.W.Frag} {G : Hp} {vs : List V} {d : D} (r : Reps K G vs [d]) : ∃ v, vs = [v] ∧ Rep K G v d := by
  obtain ⟨n, h⟩ := r
  match vs, n with
  | [v], _ => exact ⟨v, rfl, h 0 v d rfl rfl⟩
theorem reps2 {K : PySem.W.Frag} {G : Hp} {vs : List V} {d e : D} (r : Reps K G vs [d, e]) : ∃ v w, vs = [v, w] ∧ Rep K G v d ∧ Rep K G w e := by
  obtain ⟨n, h⟩ := r
  match vs, n with
  | [v, w], _ => exact ⟨v, w, rfl, h 0 v d rfl rfl, h 1 w e rfl rfl⟩
theorem pdi_range1 (hg : Gl X "range") (hm : X.mg "range" = none) (ha : PDA X W [a] t) (hs : starEach [a] X.env = [(false, eval a X.env)] := by rfl) : PDI X W tg (.Call (.Name "range" p) [a] [] pos) (diR1 t) := by
  obtain ⟨_, pa, la⟩ := ha.of
  refine ⟨_, pi_range1 hg hm pa hs, fun H0 G0 G H σ env Q ex R S L q g => la H0 G0 G H σ env _ ex _ S L q fun vs H1 G1 ds x1 r1 ⟨j, e1, h1, h2, q1⟩ => ?_⟩
  subst e1
  obtain ⟨v, rfl, r⟩ := reps1 r1
  exact ⟨j, by rw [r.int_inv], h1, h2, g _ H1 G1 _ x1 jok_range q1⟩
theorem pdi_range2 (hg : Gl X "range") (hm : X.mg "range" = none) (ha : PDA X W [a, b] t) (hs : starEach [a, b] X.env = [(false, eval a X.env), (false, eval b X.env)] := by rfl) (hs2 : starEach [b] X.env = [(false, eval b X.env)] := by rfl) :
    PDI X W tg (.Call (.Name "range" p) [a, b] [] pos) (diR2 t) := by
  obtain ⟨_, pa, la⟩ := ha.of
  refine ⟨_, pi_range2 hg hm pa hs hs2, fun H0 G0 G H σ env Q ex R S L q g => la H0 G0 G H σ env _ ex _ S L q fun vs H1 G1 ds x1 r1 ⟨i, j, e1, h1, q1⟩ => ?_⟩
  subst e1
  obtain ⟨v, w, rfl, r, r'⟩ := reps2 r1
  exact ⟨i, j, by rw [r.int_inv, r'.int_inv], h1, g _ H1 G1 _ x1 jok_range q1⟩
def diEnum (t : DTA) : DTI := fun env Q ex => t env (fun ds => ∃ l, ds = [.lst l] ∧ Q (enumD l)) ex
theorem pdi_enum {tpos : Pos} {elts : List Expr} {kk : Nat} (hg : Gl X "enumerate") (hm : X.mg "enumerate" = none) (ha : PDA X W [e] t) (hs : starEach [e] X.env = [(false, eval e X.env)] := by rfl) :
    PDI X W (.Tuple elts kk tpos) (.Call (.Name "enumerate" p) [e] [] pos) (diEnum t) := by
  obtain ⟨_, pa, la⟩ := ha.of
  refine ⟨_, pi_enum hg hm pa hs, fun H0 G0 G H σ env Q ex R S L q g => la H0 G0 G H σ env _ ex _ S L q fun vs H1 G1 ds x1 r1 ⟨l, e1, q1⟩ => ?_⟩
  subst e1
  obtain ⟨v, rfl, r⟩ := reps1 r1
  obtain ⟨p, ws, rfl, h1, h2⟩ := r.lst_inv
  exact ⟨p, ws, rfl, x1.sub.seq h1, g _ H1 G1 _ x1 (jok_enum h1 h2) q1⟩
def diZip (t : DTA) : DTI := fun env Q ex => t env (fun ds => (∃ l m, ds = [.lst l, .lst m] ∧ Q (zipD l m)) ∨ ∃ l m, ds = [.tup l, .tup m] ∧ Q (zipD l m)) ex
theorem pdi_zip {e2 : Expr} {tpos : Pos} {elts : List Expr} {kk : Nat} (hg : Gl X "zip") (hm : X.mg "zip" = none) (ha : PDA X W [e, e2] t)
    (hs : starEach [e, e2] X.env = (false, eval e X.env) :: starEach [e2] X.env := by rfl) (hpl : (backTo pos (starEach [e2] X.env)).any (·.1) = false := by rfl) :
    PDI X W (.Tuple elts kk tpos) (.Call (.Name "zip" p) [e, e2] [] pos) (diZip t) := by
  obtain ⟨_, pa, la⟩ := ha.of
  refine ⟨_, RZ.pi_zipA hg hm pa hs hpl, fun H0 G0 G H σ env Q ex R S L q g => la H0 G0 G H σ env _ ex _ S L q fun vs H1 G1 ds x1 r1 q0 => ?_⟩
  rcases q0 with ⟨l, m, e1, q1⟩ | ⟨l, m, e1, q1⟩
  · subst e1
    obtain ⟨v, w, rfl, r, r'⟩ := reps2 r1
    obtain ⟨p, ws, rfl, h1, h2⟩ := r.lst_inv
    obtain ⟨p', ws', rfl, h1', h2'⟩ := r'.lst_inv
    exact ⟨p, p', ws, ws', rfl, .inl ⟨x1.sub.seq h1, x1.sub.seq h1', g _ H1 G1 _ x1 (jok_zip h1 h2 h1' h2') q1⟩⟩
  · subst e1
    obtain ⟨v, w, rfl, r, r'⟩ := reps2 r1
    obtain ⟨p, ws, rfl, h1, h2⟩ := r.tup_inv
    obtain ⟨p', ws', rfl, h1', h2'⟩ := r'.tup_inv
    exact ⟨p, p', ws, ws', rfl, .inr ⟨sqT_same x1.sub h1, sqT_same x1.sub h1', g _ H1 G1 _ x1 (jok_zipT h1 h2 h1' h2') q1⟩⟩
/-! ## targets -/
abbrev DTG := D → DE → (DE → Prop) → Prop
abbrev DTGs := List D → DE → (DE → Prop) → Prop
/-- what a target stores lies in vs -/
def GIn (vs : List Nat) (g : TG) : Prop := ∀ v σ H (R R' : L2.St → Hp → Prop), (∀ σ2 H2, L2.wipe σ2 vs = L2.wipe σ vs → R σ2 H2 → R' σ2 H2) → g v σ H R → g v σ H R'
def GIns (vs : List Nat) (g : TGs) : Prop := ∀ us σ H (R R' : L2.St → Hp → Prop), (∀ σ2 H2, L2.wipe σ2 vs = L2.wipe σ vs → R σ2 H2 → R' σ2 H2) → g us σ H R → g us σ H R'
theorem wipe_get (σ : L2.St) : ∀ (vs : List Nat) (j : Nat), (L2.wipe σ vs)[j]? = if j ∈ vs then (σ[j]?).map (fun _ => none) else σ[j]?
  | [], j => by simp [L2.wipe]
  | v :: vs, j => by
    unfold L2.wipe
    rw [List.getElem?_set, wipe_get σ vs j, L2.wipe_length]
    by_cases h : v = j
    · subst h
      by_cases hl : v < σ.length
      · simp [hl]
      · simp [hl]
    · have h' : ¬ j = v := fun z => h z.symm
      simp [h, h']
theorem wipe_set {σ : L2.St} {vs : List Nat} {i : Nat} {x : Option V} (h : i ∈ vs) : L2.wipe (σ.set i x) vs = L2.wipe σ vs := by
  refine List.ext_getElem? fun j => ?_
  rw [wipe_get, wipe_get]
  by_cases hj : j ∈ vs
  · rw [if_pos hj, if_pos hj, List.getElem?_set]
    by_cases e : i = j
    · subst e
      rw [if_pos rfl]
      split
      · rename_i hl
        rw [List.getElem?_eq_getElem hl]
        rfl
      · rename_i hl
        rw [List.getElem?_eq_none (by omega)]
    · rw [if_neg e]
  · rw [if_neg hj, if_neg hj, List.getElem?_set, if_neg (fun z => hj (by rw [← z]; exact h))]
theorem wipe_wipe (σ : L2.St) (vs : List Nat) : L2.wipe (L2.wipe σ vs) vs = L2.wipe σ vs := by
  refine List.ext_getElem? fun j => ?_
  rw [wipe_get, wipe_get]
  by_cases hj : j ∈ vs
  · rw [if_pos hj, if_pos hj]
    cases σ[j]? <;> rfl
  · rw [if_neg hj, if_neg hj]
structure PDG (X : Cx) (tg : Expr) (ix : List Nat) (t : DTG) : Prop where
  of : ∃ g, PG X tg g ∧ (∀ (H0 G0 G H : Hp) (σ : L2.St) (env : DE) (v : V) (d : D) (Q : DE → Prop) (R : L2.St → Hp → Prop), SR X.K H0 G0 G H σ env → Rep X.K G v d → t d env Q → (∀ σ' env', SR X.K H0 G0 G H σ' env' → Q env' → R σ' H) → g v σ H R) ∧
    ∀ vs, (∀ i ∈ ix, i ∈ vs) → GIn vs g
structure PDGs (X : Cx) (tgs : List Expr) (ix : List Nat) (t : DTGs) : Prop where
  of : ∃ g, PGs X tgs g ∧ (∀ (H0 G0 G H : Hp) (σ : L2.St) (env : DE) (vs : List V) (ds : List D) (Q : DE → Prop) (R : L2.St → Hp → Prop), SR X.K H0 G0 G H σ env → Reps X.K G vs ds → t ds env Q → (∀ σ' env', SR X.K H0 G0 G H σ' env' → Q env' → R σ' H) → g vs σ H R) ∧
    ∀ vs, (∀ i ∈ ix, i ∈ vs) → GIns vs g
def dgName (i : Nat) : DTG := fun d env Q => Q (env.set i (.val d))
theorem pdg_name {i : Nat} (h : PG X tg (gName i)) : PDG X tg [i] (dgName i) := ⟨_, h, fun H0 G0 G H σ env v d Q R S r q g => g _ _ (S.set r) q, fun vs hv v σ H R R' k h => k _ _ (wipe_set (hv i (by simp))) h⟩
def dgNil : DTGs := fun ds env Q => ds = [] ∧ Q env
def dgCons (t : DTG) (u : DTGs) : DTGs := fun ds env Q => ∃ d r, ds = d :: r ∧ t d env (fun env' => u r env' Q)
theorem pdgs_nil : PDGs X [] [] dgNil := ⟨_, pgs_nil, fun H0 G0 G H σ env vs ds Q R S r ⟨e1, q⟩ g => by
  subst e1
  have : vs = [] := List.length_eq_zero_iff.mp r.1
  exact ⟨this, g _ _ S q⟩, fun vs _ us σ H R R' k ⟨h1, h2⟩ => ⟨h1, k _ _ rfl h2⟩⟩
theorem pdgs_cons {g : DTG} {u : DTGs} {ix jx : List Nat} (h : PDG X e ix g) (hs : PDGs X es jx u) (ha : (assignEach (e :: es) X.env).map (fun x => x.2) = assign e X.env :: (assignEach es X.env).map (fun x => x.2) := by rfl) : PDGs X (e :: es) (ix ++ jx) (dgCons g u) := by
  obtain ⟨_, pg, lg, ig⟩ := h.of
  obtain ⟨_, ps, ls, is⟩ := hs.of
  refine ⟨_, pgs_cons pg ps ha, fun H0 G0 G H σ env vs ds Q R S r ⟨d, l, e1, q⟩ g => ?_, fun vs hv us σ H R R' k ⟨v, r, h1, h2⟩ => ⟨v, r, h1, ig vs (fun i hi => hv i (List.mem_append_left _ hi)) v σ H _ _ (fun σ' H' e1 h => is vs (fun i hi => hv i (List.mem_append_right _ hi)) r σ' H' _ _ (fun σ2 H2 e2 h' => k σ2 H2 (e2.trans e1) h') h) h2⟩⟩
  subst e1
  match vs, r with
  | [], r => exact absurd r.1 (by simp)
  | v :: vs, r =>
    refine ⟨v, vs, rfl, lg H0 G0 G H σ env v d _ _ S (r.2 0 v d rfl rfl) q fun σ' env' S' q' => ?_⟩
    exact ls H0 G0 G H σ' env' vs l _ _ S' ⟨by have := r.1; simp at this; exact this, fun i v d h1 h2 => r.2 (i + 1) v d (by simpa using h1) (by simpa using h2)⟩ q' g
def dgTup (n : Nat) (t : DTGs) : DTG := fun d env Q => ∃ l, d = .tup l ∧ l.length = n ∧ t l env Q
theorem pdg_tup {k n : Nat} {u : DTGs} {ix : List Nat} (hc : X.calm = true) (hs : PDGs X es ix u) (hl : (assignEach es X.env).length = n := by rfl) (hf : (assignEach es X.env).findIdx? (fun x => x.1) = none := by rfl) : PDG X (.Tuple es k pos) ix (dgTup n u) := by
  obtain ⟨_, ps, ls, is⟩ := hs.of
  refine ⟨_, pg_tup hc ps hl hf, fun H0 G0 G H σ env v d Q R S r ⟨l, e1, hn, q⟩ g => ?_, fun vs hv v σ H R R' k ⟨a, xs, h1, h2, h3, h4⟩ => ⟨a, xs, h1, h2, h3, is vs hv xs σ H R R' k h4⟩⟩
  subst e1
  obtain ⟨p, ws, rfl, h1, h2⟩ := r.tup_inv
  exact ⟨p, ws, rfl, sqT_same S.sub h1, by rw [h2.1]; exact hn, ls H0 G0 G H σ env ws l _ _ S h2 q g⟩
/-! ## comprehensions -/
def wipeD (env : DE) : List Nat → DE
  | [] => env
  | v :: vs => (wipeD env vs).set v .no
theorem SR.wipe {K : PySem.W.Frag} {H0 G0 G H : Hp} {σ : L2.St} {env : DE} (S : SR K H0 G0 G H σ env) : ∀ vs : List Nat, SR K H0 G0 G H (L2.wipe σ vs) (wipeD env vs)
  | [] => S
  | v :: vs => (SR.wipe S vs).unset
end
structure PDTs (X : Cx) (ifs : List Expr) (t : DTT) : Prop where
  of : ∃ tt, PTs X ifs tt ∧ LT X (fun _ _ _ _ => False) tt t
def dYes : DTT := fun _ Q _ => Q true
theorem pdts_nil {X : Cx} : PDTs X [] dYes := ⟨_, pts_nil, fun H0 G0 G H σ env Q ex R S L q g => g true H G (.refl S.sub) q⟩
theorem pdts_one {X : Cx} {c : Expr} {t : DTT} (h : PDT X (fun _ _ _ _ => False) c t) : PDTs X [c] t := let ⟨_, pa, la⟩ := h.of; ⟨_, pts_one pa, la⟩
/-- [elt for target in iter if ..]: R what holds of what the i-th turn gives -/
def dLc (ti : DTI) (g : DTG) (tt : DTT) (te : DT) (vs : List Nat) : DTN := fun env Q ex => ti env (fun items => items.length < sizeLine ∧ ∃ R : Nat → Option D → Prop, (∀ (i : Nat) x, items[i]? = some x → g x (wipeD env vs) fun env2 => tt env2 (fun b =>
  if b = true then te env2 (fun d => True → R i (some d)) (fun _ _ => False) else True → R i none) (fun _ _ => False)) ∧ ∀ zs : List (Option D), zs.length = items.length → (∀ (i : Nat) z, zs[i]? = some z → R i z) → Q (zs.filterMap id)) ex
abbrev WN : WX := fun _ _ _ _ => False
theorem filt_snoc {α : Type} (zs : List (Option α)) (o : Option α) : (zs ++ [o]).filterMap id = zs.filterMap id ++ o.toList := by
  rw [List.filterMap_append]
  cases o <;> rfl
theorem snoc_all {α : Type} {zs : List α} {o : α} {i : Nat} {R : Nat → α → Prop} (hl : zs.length = i) (h : ∀ (j : Nat) z, zs[j]? = some z → R j z) (ho : R i o) : ∀ (j : Nat) z, (zs ++ [o])[j]? = some z → R j z := fun j z hz => by
  by_cases hj : j < zs.length
  · rw [List.getElem?_append_left hj] at hz
    exact h j z hz
  · rw [List.getElem?_append_right (by omega)] at hz
    have : j - zs.length = 0 := by
      have := (List.getElem?_eq_some_iff.mp hz).1
      simp at this
      omega
    rw [this] at hz
    cases hz
    rw [show j = i by omega]
    exact ho
theorem lc_lift {X : Cx} {W : WX} {ti : TI} {di : DTI} {g : TG} {dg : DTG} {tt : TT} {dt : DTT} {te : TE} {de : DT} {vs : List Nat} {Xb : Cx} (eK : Xb.K = X.K) (hi : LI X W ti di)
    (hg : ∀ (H0 G0 G H : Hp) (σ : L2.St) (env : DE) (v : V) (d : D) (Q : DE → Prop) (R : L2.St → Hp → Prop), SR X.K H0 G0 G H σ env → Rep X.K G v d → dg d env Q → (∀ σ' env', SR X.K H0 G0 G H σ' env' → Q env' → R σ' H) → g v σ H R)
    (hw : GIn vs g)
    (ht : LT Xb WN tt dt) (he : LE Xb WN te de) : LN X W (tLc ti g tt te vs) (dLc di dg dt de vs) := fun H0 G0 G H σ env Q ex R S L q gg =>
  hi H0 G0 G H σ env _ ex _ S L q fun J H1 G1 items x1 j ⟨hs, RR, step, q1⟩ => by
    intro Da nD
    have nG : G1 Da = none := x1.sub.free nD
    -- the invariant
    refine ⟨fun i m Hc => m = items.length - i ∧ i ≤ items.length ∧ ∃ (Hb Gc : Hp) (vs' : List V) (zs : List (Option D)), Ext G1 H1 Gc Hb ∧ Hb Da = none ∧ Hc = upd Hb Da (.lst vs') ∧ zs.length = i ∧ (∀ (j : Nat) z, zs[j]? = some z → RR j z) ∧ Reps X.K Gc vs' (zs.filterMap id), ⟨items.length, by simp, Nat.zero_le _, H1, G1, [], [], .refl x1.sub, nD, rfl, rfl, fun _ _ z => by simp at z, by simpa using Reps.nil⟩, ?_⟩
    rintro i m Hc ⟨rfl, hi', Hb, Gc, vs', zs, xb, nb, rfl, hzl, hzR, rr⟩
    have nGc : Gc Da = none := xb.sub.free nb
    have sG : Same Gc (upd Hb Da (.lst vs')) := same_new' xb.sub nb
    by_cases hlt : i < items.length
    · refine .inr ⟨j.go i _ (xb.gg.trans sG) hlt, fun Hn => i + 1 ≤ items.length ∧ ∃ (Hb' Gc' : Hp) (vs2 : List V) (zs2 : List (Option D)), Ext G1 H1 Gc' Hb' ∧ Hb' Da = none ∧ Hn = upd Hb' Da (.lst vs2) ∧ zs2.length = i + 1 ∧ (∀ (j : Nat) z, zs2[j]? = some z → RR j z) ∧ Reps X.K Gc' vs2 (zs2.filterMap id), fun H' h' => ⟨items.length - (i + 1), by omega, rfl, h'⟩, fun x H' y => ?_⟩
      obtain ⟨G2, d, hd, x2, r2⟩ := j.yld i _ Gc x H' xb.gg sG hlt y
      have st := step i d hd
      -- from here the heap is H', where Da still holds vs'
      have SB : SR X.K H0 G0 Gc (upd Hb Da (.lst vs')) σ env := (((S.ex x1).ex xb).ex (Ext.hid xb.sub nb))
      have SC := (SB.ex x2).wipe vs
      refine hw x _ H' _ _ (fun σ2 H2 e r => ⟨e.trans (wipe_wipe σ vs), r⟩) (hg H0 G0 G2 H' _ _ x d _ _ SC r2 st fun σ2 env2 S2 q2 => ?_)
      have key : ∀ H3 G3, Ext G2 H' G3 H3 → ∃ Hb3, H3 = upd Hb3 Da (.lst vs') ∧ Ext G1 H1 G3 Hb3 ∧ Hb3 Da = none ∧ Same Gc G3 := fun H3 G3 x3 => by
        have x23 := x2.trans x3
        have eD : H3 Da = some (.lst vs') := x23.hh _ _ upd_same
        have g3D : G3 Da = none := by
          cases z : G3 Da with
          | none => rfl
          | some o =>
            have := x23.new Da (by rw [z]; simp) nGc
            rw [upd_same] at this
            cases this
        refine ⟨fun b => if b = Da then none else H3 b, ?_, ⟨fun b u e => ?_, xb.gg.trans x23.gg, fun b u e => ?_, fun b h1 h2 => ?_⟩, if_pos rfl, x23.gg⟩
        · funext b
          by_cases hb : b = Da
          · subst hb
            rw [eD, upd_same]
          · rw [upd_ne hb]
            exact (if_neg hb).symm
        · have hb : b ≠ Da := ne_of_none e nD
          show (if b = Da then none else H3 b) = some u
          rw [if_neg hb]
          refine x23.hh _ _ ?_
          rw [upd_ne hb]
          exact xb.hh _ _ e
        · have hb : b ≠ Da := ne_of_none e g3D
          show (if b = Da then none else H3 b) = some u
          rw [if_neg hb]
          exact x23.sub _ _ e
        · cases z : Gc b with
          | some o => exact xb.new b (by rw [z]; simp) h2
          | none =>
            have := x23.new b h1 z
            by_cases hb : b = Da
            · subst hb; exact nD
            · rw [upd_ne hb] at this
              exact xb.hh.free this
      refine ht H0 G0 G2 H' σ2 env2 _ (fun _ _ => False) _ (by rw [eK]; exact S2) (fun _ _ _ _ _ _ _ _ _ _ z => z.elim) q2 fun bb H3 G3 x3 q3 => ?_
      cases bb with
      | true =>
        simp only [if_true] at q3 ⊢
        refine he H0 G0 G3 H3 σ2 env2 _ (fun _ _ => False) _ (by rw [eK]; exact S2.ex x3) (fun _ _ _ _ _ _ _ _ _ _ z => z.elim) q3 fun w H4 G4 d4 x4 r4 q4 => ?_
        obtain ⟨Hb4, e4, xb4, n4, s4⟩ := key H4 G4 (x3.trans x4)
        have lt : vs'.length < sizeLine := by
          rw [rr.1]
          exact Nat.lt_of_le_of_lt (List.length_filterMap_le _ _) (by omega)
        refine ⟨vs', by rw [e4, upd_same], lt, by omega, Hb4, G4, vs' ++ [w], zs ++ [some d4], xb4, n4, ?_, by simp [hzl], snoc_all hzl hzR (q4 trivial), ?_⟩
        · rw [e4]
          funext b
          by_cases hb : b = Da
          · subst hb
            rw [upd_same, upd_same]
          · rw [upd_ne hb, upd_ne hb, upd_ne hb]
        · rw [filt_snoc]
          rw [eK] at r4
          exact (rr.same s4).app (.one r4)
      | false =>
        simp only [Bool.false_eq_true, if_false] at q3 ⊢
        obtain ⟨Hb3, e3, xb3, n3, s3⟩ := key H3 G3 x3
        refine ⟨by omega, Hb3, G3, vs', zs ++ [none], xb3, n3, e3, by simp [hzl], snoc_all hzl hzR (q3 trivial), ?_⟩
        rw [filt_snoc]
        simpa using rr.same s3
    · have e : i = items.length := by omega
      subst e
      refine .inl ⟨j.stop _ (xb.gg.trans sG), ?_⟩
      exact gg Da vs' _ Hb Gc _ (x1.trans xb) nb rfl rr (q1 zs (by omega) hzR)
end DL

namespace DL
open PySem PySem.Spec PyProof.Rows L2 LR
/-! ## the same in many contexts -/
section
variable {ι : Type} {Xf : ι → Cx} {X : Cx} {W : WX} {e : Expr} {tg : Expr} {ifs : List Expr}
theorem pd_all {t : DT} (hK : ∀ i, (Xf i).K = X.K) (h : ∀ i, PD (Xf i) W e t) : ∃ te, (∀ i, PE (Xf i) e te) ∧ LE X W te t := by
  refine ⟨fun σ H Q => ∀ i, (h i).of.choose σ H Q, fun i => ⟨fun pins s σ H Q I q => (h i).of.choose_spec.1.run pins s σ H Q I (q i)⟩, fun H0 G0 G H σ env Q ex R S L q g i => ?_⟩
  exact (h i).of.choose_spec.2 H0 G0 G H σ env Q ex R (by rw [hK]; exact S) (by rw [hK]; exact L) q (by rw [hK]; exact g)
theorem pdts_all {t : DTT} (hK : ∀ i, (Xf i).K = X.K) (h : ∀ i, PDTs (Xf i) ifs t) : ∃ te, (∀ i, PTs (Xf i) ifs te) ∧ LT X WN te t := by
  refine ⟨fun σ H Q => ∀ i, (h i).of.choose σ H Q, fun i => ⟨fun pins s σ H Q I q => (h i).of.choose_spec.1.run pins s σ H Q I (q i)⟩, fun H0 G0 G H σ env Q ex R S L q g i => ?_⟩
  exact (h i).of.choose_spec.2 H0 G0 G H σ env Q ex R (by rw [hK]; exact S) (by rw [hK]; exact L) q g
theorem pdg_all {t : DTG} {ix : List Nat} (hK : ∀ i, (Xf i).K = X.K) (h : ∀ i, PDG (Xf i) tg ix t) : ∃ g, (∀ i, PG (Xf i) tg g) ∧ (∀ (H0 G0 G H : Hp) (σ : L2.St) (env : DE) (v : V) (d : D) (Q : DE → Prop) (R : L2.St → Hp → Prop), SR X.K H0 G0 G H σ env → Rep X.K G v d → t d env Q →
    (∀ σ' env', SR X.K H0 G0 G H σ' env' → Q env' → R σ' H) → g v σ H R) ∧ ∀ vs, (∀ i ∈ ix, i ∈ vs) → GIn vs g := by
  refine ⟨fun v σ H R => ∀ i, (h i).of.choose v σ H R, fun i => ⟨fun pins s σ H v u Q I r q => (h i).of.choose_spec.1.run pins s σ H v u Q I r (q i)⟩, fun H0 G0 G H σ env v d Q R S r q g i => ?_, fun vs hv v σ H R R' k q i => (h i).of.choose_spec.2.2 vs hv v σ H R R' k (q i)⟩
  exact (h i).of.choose_spec.2.1 H0 G0 G H σ env v d Q R (by rw [hK]; exact S) (by rw [hK]; exact r) q (by rw [hK]; exact g)
end
section
variable {X : Cx} {W : WX} {a b c e tg : Expr} {es : List Expr} {ta tb tc : DT} {t : DTA} {pos p : Pos}
theorem pdn_lc {elt iter : Expr} {ifs : List Expr} {scope : Scope} {own : List (Str × Nat)} {di : DTI} {dg : DTG} {dt : DTT} {de : DT} {ix : List Nat} (hc : X.calm = true) (hN : X.N.Nodup) (hi : PDI X W tg iter di) (ok : BlkOk X.N X.env.scope scope own) (hx : ∀ i ∈ ix, i ∈ own.map (·.2))
    (hg : ∀ (s : Shared) (H : Hp) (C : Addr) (cl : List (Str × Addr)) (fp : List Addr), PDG (X.blk s H scope (compEnvC scope cl C X.env) fp) tg ix dg) (ht : ∀ (s : Shared) (H : Hp) (C : Addr) (cl : List (Str × Addr)) (fp : List Addr), PDTs (X.blk s H scope (compEnvC scope cl C X.env) fp) ifs dt)
    (he : ∀ (s : Shared) (H : Hp) (C : Addr) (cl : List (Str × Addr)) (fp : List Addr), PD (X.blk s H scope (compEnvC scope cl C X.env) fp) WN elt de) (hs : ∀ x, foldedSetIterable iter X.env x = pure x := by intro _; rfl) :
    PDN X W (.ListComp elt [⟨tg, iter, ifs, 0⟩] scope pos) (dLc di dg dt de (own.map (·.2))) := by
  obtain ⟨ti, pi, li⟩ := hi.of
  let Xf : (Shared × Hp × Addr × List (Str × Addr) × List Addr) → Cx := fun q => X.blk q.1 q.2.1 scope (compEnvC scope q.2.2.2.1 q.2.2.1 X.env) q.2.2.2.2
  obtain ⟨g, pg, lg, ig⟩ := pdg_all (Xf := Xf) (X := X) (fun _ => rfl) fun q => hg q.1 q.2.1 q.2.2.1 q.2.2.2.1 q.2.2.2.2
  obtain ⟨tt, pt, lt⟩ := pdts_all (Xf := Xf) (X := X) (fun _ => rfl) fun q => ht q.1 q.2.1 q.2.2.1 q.2.2.2.1 q.2.2.2.2
  obtain ⟨te, pe, le⟩ := pd_all (Xf := Xf) (X := X) (fun _ => rfl) fun q => he q.1 q.2.1 q.2.2.1 q.2.2.2.1 q.2.2.2.2
  exact ⟨_, pe_lc hc hN pi ok (fun s H C cl fp => pg (s, H, C, cl, fp)) (fun s H C cl fp => pt (s, H, C, cl, fp)) (fun s H C cl fp => pe (s, H, C, cl, fp)) hs, lc_lift rfl li lg (ig _ hx) lt le⟩
/-! ## statements -/
structure DEnds where
  nx : DE → Prop
  rt : D → Prop
  bk : DE → Prop := fun _ => False
  ct : DE → Prop := fun _ => False
  ex : Str → List (Str × D) → DE → Prop := fun _ _ _ => False
abbrev DTS := DEnds → DE → Prop
/-- what the machine wants behind a statement, and what is wanted of the data -/
structure Lk (K : PySem.W.Frag) (H0 G0 G : Hp) (W : WX) (B : Ends) (E : DEnds) : Prop where
  nx : ∀ σ' H' G' env', Same G G' → SR K H0 G0 G' H' σ' env' → E.nx env' → B.nx σ' H'
  bk : ∀ σ' H' G' env', Same G G' → SR K H0 G0 G' H' σ' env' → E.bk env' → B.bk σ' H'
  ct : ∀ σ' H' G' env', Same G G' → SR K H0 G0 G' H' σ' env' → E.ct env' → B.ct σ' H'
  rt : ∀ v H' G' d, Same G G' → Ext G0 H0 G' H' → Rep K G' v d → E.rt d → B.rt v H'
  ex : ∀ (σ' : L2.St) (H' G' : Hp) env' (d : Addr) (x : Str) (fv : List (Str × V)) (fs : List (Str × D)), Same G G' → SR K H0 G0 G' H' σ' env' → H' d = some (.xd fv) → RepF K G' fv fs → E.ex x fs env' → W (.ref (He.ga K x)) (some d) σ' H'
theorem Lk.mono {K : PySem.W.Frag} {H0 G0 G G1 : Hp} {W : WX} {B : Ends} {E : DEnds} (h : Lk K H0 G0 G W B E) (s : Same G G1) : Lk K H0 G0 G1 W B E :=
  ⟨fun σ' H' G' env' s' => h.nx σ' H' G' env' (s.trans s'), fun σ' H' G' env' s' => h.bk σ' H' G' env' (s.trans s'), fun σ' H' G' env' s' => h.ct σ' H' G' env' (s.trans s'), fun v H' G' d s' => h.rt v H' G' d (s.trans s'), fun σ' H' G' env' d x fv fs s' => h.ex σ' H' G' env' d x fv fs (s.trans s')⟩
theorem Lk.le {K : PySem.W.Frag} {H0 G0 G : Hp} {W : WX} {B : Ends} {E : DEnds} (h : Lk K H0 G0 G W B E) (σ : L2.St) (env : DE) : LkE K H0 G0 G W σ env (fun x fs => E.ex x fs env) := fun H' G' d x fv fs s S e r q => h.ex σ H' G' env d x fv fs s S e r q
def LS (X : Cx) (W : WX) (ts : TS) (t : DTS) : Prop := ∀ (H0 G0 G H : Hp) (σ : L2.St) (env : DE) (B : Ends) (E : DEnds), SR X.K H0 G0 G H σ env → Lk X.K H0 G0 G W B E → t E env → ts B σ H
structure PDS (X : Cx) (W : WX) (st : Stmt) (t : DTS) : Prop where
  of : ∃ ts, PS X st ts ∧ LS X W ts t
structure PDSs (X : Cx) (W : WX) (st : List Stmt) (t : DTS) : Prop where
  of : ∃ ts, PSs X st ts ∧ LS X W ts t
variable {st : Stmt} {rest : List Stmt} {t1 t2 : DTS}
def dNext : DTS := fun E env => E.nx env
def dSeq (t u : DTS) : DTS := fun E env => t { E with nx := fun env' => u E env' } env
theorem pdss_nil : PDSs X W [] dNext := ⟨_, pss_nil, fun H0 G0 G H σ env B E S L q => L.nx _ _ _ _ (.refl _) S q⟩
theorem pdss_one (h : PDS X W st t1) : PDSs X W [st] t1 := let ⟨_, p, l⟩ := h.of; ⟨_, pss_one p, l⟩
theorem pdss_cons (h : PDS X W st t1) (hr : PDSs X W rest t2) : PDSs X W (st :: rest) (dSeq t1 t2) := by
  obtain ⟨_, p, l⟩ := h.of
  obtain ⟨_, pr, lr⟩ := hr.of
  refine ⟨_, pss_cons p pr, fun H0 G0 G H σ env B E S L q => l H0 G0 G H σ env _ { E with nx := fun env' => t2 E env' } S ⟨fun σ' H' G' env' s' S' q' => ?_, L.bk, L.ct, L.rt, L.ex⟩ q⟩
  exact lr H0 G0 G' H' σ' env' B E S' (L.mono s') q'
/-- a list of one's own is one no more -/
def dFrz (i : Nat) (t : DTS) : DTS := fun E env => ∃ l, env[i]? = some (.own l) ∧ t E (env.set i (.val (.lst l)))
theorem pdss_frz (i : Nat) (h : PDSs X W rest t1) : PDSs X W rest (dFrz i t1) := by
  obtain ⟨_, p, l⟩ := h.of
  refine ⟨_, p, fun H0 G0 G H σ env B E S L ⟨m, e, q⟩ => ?_⟩
  obtain ⟨G', s, S'⟩ := S.frz e
  exact l H0 G0 G' H σ _ B E S' (L.mono s) q
/-- a cut: what holds behind the first statement, said -/
def dCut (t u : DTS) : DTS := fun E env => ∃ M : DE → Prop, t { E with nx := fun e => True → M e } env ∧ ∀ env', M env' → u E env'
theorem pdss_cut (h : PDS X W st t1) (hr : PDSs X W rest t2) : PDSs X W (st :: rest) (dCut t1 t2) := by
  obtain ⟨_, p, l⟩ := h.of
  obtain ⟨_, pr, lr⟩ := hr.of
  refine ⟨_, pss_cons p pr, fun H0 G0 G H σ env B E S L ⟨M, q, k⟩ => l H0 G0 G H σ env _ { E with nx := fun e => True → M e } S ⟨fun σ' H' G' env' s' S' q' => ?_, L.bk, L.ct, L.rt, L.ex⟩ q⟩
  exact lr H0 G0 G' H' σ' env' B E S' (L.mono s') (k env' (q' trivial))
def dRet (ta : DT) : DTS := fun E env => ta env E.rt (fun x fs => E.ex x fs env)
theorem pds_ret (h : PD X W e ta) : PDS X W (.Return (some e) pos) (dRet ta) := by
  obtain ⟨_, p, l⟩ := h.of
  exact ⟨_, ps_ret p, fun H0 G0 G H σ env B E S L q => l H0 G0 G H σ env _ _ _ S (L.le σ env) q fun v H' G' d x r q' => L.rt v H' G' d x.gg (S.all.trans x) r q'⟩
theorem pds_retN : PDS X W (.Return none pos) (fun E _ => E.rt .non) := ⟨_, ps_retN, fun H0 G0 G H σ env B E S L q => L.rt _ _ _ _ (.refl _) S.all .non q⟩
def dSet (i : Nat) (ta : DT) : DTS := fun E env => ta env (fun d => E.nx (env.set i (.val d))) (fun x fs => E.ex x fs env)
theorem pds_set {i : Nat} {x : Str} {pos' : Pos} (h1 : X.N.Nodup) (h2 : X.N[i]? = some x) (h3 : L2.Loc X.env.scope x) (h : PD X W e ta) (h5 : swapsWith e (some (.Name x pos')) pos.line X.env = pure false := by rfl)
    (h6 : X.fn x = true ∨ X.env.scope.names.lookup x = some .local := by first | exact Or.inl rfl | exact Or.inr rfl) : PDS X W (.Assign [.Name x pos'] e pos) (dSet i ta) := by
  obtain ⟨_, p, l⟩ := h.of
  exact ⟨_, ps_set h1 h2 h3 p h5 h6, fun H0 G0 G H σ env B E S L q => l H0 G0 G H σ env _ _ _ S (L.le σ env) q fun v H' G' d x r q' => L.nx _ _ _ _ x.gg ((S.ex x).set r) q'⟩
def dSetN (i : Nat) (tn : DTN) : DTS := fun E env => tn env (fun l => E.nx (env.set i (.own l))) (fun x fs => E.ex x fs env)
theorem pds_setN {i : Nat} {x : Str} {pos' : Pos} {tn : DTN} (h1 : X.N.Nodup) (h2 : X.N[i]? = some x) (h3 : L2.Loc X.env.scope x) (h : PDN X W e tn) (h5 : swapsWith e (some (.Name x pos')) pos.line X.env = pure false := by rfl)
    (h6 : X.fn x = true ∨ X.env.scope.names.lookup x = some .local := by first | exact Or.inl rfl | exact Or.inr rfl) : PDS X W (.Assign [.Name x pos'] e pos) (dSetN i tn) := by
  obtain ⟨_, p, l⟩ := h.of
  refine ⟨_, ps_set h1 h2 h3 p h5 h6, fun H0 G0 G H σ env B E S L q => l H0 G0 G H σ env _ _ _ S (L.le σ env) q fun p vs H' H1 G' l x n e r q' => ?_⟩
  subst e
  exact L.nx _ _ _ _ x.gg ((S.ex x).setOwn n r) q'
/-- y = [.. for ..] (the comprehension on the right) -/
theorem pds_asgN {i : Nat} {tn : DTN} {te : TE} (hp : PS X st (tAsg te (gName i))) (hl : LN X W te tn) : PDS X W st (dSetN i tn) := by
  refine ⟨_, hp, fun H0 G0 G H σ env B E S L q => hl H0 G0 G H σ env _ _ _ S (L.le σ env) q fun p vs H' H1 G' l x n e r q' => ?_⟩
  subst e
  exact L.nx _ _ _ _ x.gg ((S.ex x).setOwn n r) q'
def dAsg (ta : DT) (g : DTG) : DTS := fun E env => ta env (fun d => g d env E.nx) (fun x fs => E.ex x fs env)
theorem pds_asg {g : DTG} {ix : List Nat} (h : PD X W e ta) (hg : PDG X tg ix g) (h1 : swapsWithSole [tg] e pos.line X.env = pure false := by rfl) (h2 : swappedStores [tg] e X.env = pure none := by rfl)
    (h3 : (assignEach [tg] X.env).map (fun x => x.2) = [assign tg X.env] := by rfl) : PDS X W (.Assign [tg] e pos) (dAsg ta g) := by
  obtain ⟨_, p, l⟩ := h.of
  obtain ⟨_, pg, lg, _⟩ := hg.of
  exact ⟨_, ps_asg p pg h1 h2 h3, fun H0 G0 G H σ env B E S L q => l H0 G0 G H σ env _ _ _ S (L.le σ env) q fun v H' G' d x r q' => lg H0 G0 G' H' σ env v d _ _ (S.ex x) r q' fun σ' env' S' q2 => L.nx _ _ _ _ x.gg S' q2⟩
def dPar (i j : Nat) (ta tb : DT) : DTS := fun E env => ta env (fun x => tb env (fun y => E.nx ((env.set i (.val x)).set j (.val y))) (fun x fs => E.ex x fs env)) (fun x fs => E.ex x fs env)
theorem pds_par {i j : Nat} {x y : Str} {px py pt pt2 : Pos} {kt k2 : Nat} (h0 : X.calm = true) (h1 : X.N.Nodup) (h2 : X.N[i]? = some x) (h3 : X.N[j]? = some y) (h4 : i ≠ j) (h5 : X.env.scope.names.lookup x = some .local) (h6 : X.env.scope.names.lookup y = some .local)
    (ha : PD X W a ta) (hb : PD X W b tb) (hsw : swappedStores [.Tuple [.Name x px, .Name y py] kt pt] (.Tuple [a, b] k2 pt2) X.env = pure (some [x, y]))
    (h7 : swapsWithSole [.Tuple [.Name x px, .Name y py] kt pt] (.Tuple [a, b] k2 pt2) pos.line X.env = pure false := by rfl)
    (hs : starEach [a, b] X.env = (false, eval a X.env) :: starEach [b] X.env := by rfl) (hs2 : starEach [b] X.env = (false, eval b X.env) :: starEach [] X.env := by rfl) :
    PDS X W (.Assign [.Tuple [.Name x px, .Name y py] kt pt] (.Tuple [a, b] k2 pt2) pos) (dPar i j ta tb) := by
  obtain ⟨_, pa, la⟩ := ha.of
  obtain ⟨_, pb, lb⟩ := hb.of
  refine ⟨_, ps_par h0 h1 h2 h3 h4 h5 h6 (pa_cons pa (pa_cons pb pa_nil hs2) hs) hsw h7, fun H0 G0 G H σ env B E S L q => la H0 G0 G H σ env _ _ _ S (L.le σ env) q fun v H1 G1 d x1 r1 q1 => ?_⟩
  refine lb H0 G0 G1 H1 σ env _ _ _ (S.ex x1) ((L.mono x1.gg).le σ env) q1 fun u H2 G2 d2 x2 r2 q2 => ?_
  have S2 := (S.ex x1).ex x2
  exact ⟨v, u, rfl, L.nx _ _ _ _ (x1.gg.trans x2.gg) ((S2.set (r1.same x2.gg)).set r2) q2⟩
def dAug (i : Nat) (f : Int → Int → Int) (ta : DT) : DTS := fun E env => ∃ n, env[i]? = some (.val (.int n)) ∧ ta env (fun d => ∃ m, d = .int m ∧ E.nx (env.set i (.val (.int (f n m))))) (fun x fs => E.ex x fs env)
theorem pds_aug {i : Nat} {x : Str} {op : Operator} {f : Int → Int → Int} {pos' : Pos} (h1 : X.N.Nodup) (h2 : X.N[i]? = some x) (h3 : L2.Loc X.env.scope x) (h : PD X W e ta) (ho : PIp X op (ipI f))
    (h6 : X.fn x = true ∨ X.env.scope.names.lookup x = some .local := by first | exact Or.inl rfl | exact Or.inr rfl) : PDS X W (.AugAssign (.Name x pos') op e pos) (dAug i f ta) := by
  obtain ⟨_, p, l⟩ := h.of
  refine ⟨_, ps_aug h1 h2 h3 p ho h6, fun H0 G0 G H σ env B E S L ⟨n, en, q⟩ => ?_⟩
  obtain ⟨v, ev, rv⟩ := S.val i _ en
  refine ⟨v, ev, l H0 G0 G H σ env _ _ _ S (L.le σ env) q fun u H' G' d x r ⟨m, em, q'⟩ => ?_⟩
  subst em
  exact ⟨n, m, rv.int_inv, r.int_inv, L.nx _ _ _ _ x.gg ((S.ex x).set (.int _)) q'⟩
def dDrop (ta : DT) : DTS := fun E env => ta env (fun _ => E.nx env) (fun x fs => E.ex x fs env)
theorem pds_expr (h : PD X W e ta) (h5 : swapsWith e none pos.line X.env = pure false := by rfl) : PDS X W (.Expr e pos) (dDrop ta) := by
  obtain ⟨_, p, l⟩ := h.of
  exact ⟨_, ps_expr p h5, fun H0 G0 G H σ env B E S L q => l H0 G0 G H σ env _ _ _ S (L.le σ env) q fun v H' G' d x r q' => L.nx _ _ _ _ x.gg (S.ex x) q'⟩
def dIfS (t : DTT) (t1 t2 : DTS) : DTS := fun E env => t env (fun k => if k = true then t1 E env else t2 E env) (fun x fs => E.ex x fs env)
theorem pds_if {A B : List Stmt} {t : DTT} (hc : PDT X W c t) (h1 : PDSs X W A t1) (h2 : PDSs X W B t2) : PDS X W (.If c A B pos) (dIfS t t1 t2) := by
  obtain ⟨_, pc, lc⟩ := hc.of
  obtain ⟨_, p1, l1⟩ := h1.of
  obtain ⟨_, p2, l2⟩ := h2.of
  refine ⟨_, ps_if pc p1 p2, fun H0 G0 G H σ env B E S L q => lc H0 G0 G H σ env _ _ _ S (L.le σ env) q fun k H1 G1 x1 q1 => ?_⟩
  cases k with
  | true => exact l1 H0 G0 G1 H1 σ env B E (S.ex x1) (L.mono x1.gg) q1
  | false => exact l2 H0 G0 G1 H1 σ env B E (S.ex x1) (L.mono x1.gg) q1
theorem pds_pass : PDS X W (.Pass pos) dNext := ⟨_, ps_pass, fun H0 G0 G H σ env B E S L q => L.nx _ _ _ _ (.refl _) S q⟩
theorem pds_break : PDS X W (.Break pos) (fun E env => E.bk env) := ⟨_, ps_break, fun H0 G0 G H σ env B E S L q => L.bk _ _ _ _ (.refl _) S q⟩
theorem pds_cont : PDS X W (.Continue pos) (fun E env => E.ct env) := ⟨_, ps_continue, fun H0 G0 G H σ env B E S L q => L.ct _ _ _ _ (.refl _) S q⟩
theorem pds_never : PDS X W st (fun _ _ => False) := ⟨_, ps_never, fun H0 G0 G H σ env B E S L q => q⟩
theorem pdss_never : PDSs X W rest (fun _ _ => False) := ⟨_, pss_never, fun H0 G0 G H σ env B E S L q => q⟩
/-- for: what holds ahead of each turn -/
def dFor (ti : DTI) (g : DTG) (tb : DTS) : DTS := fun E env => ti env (fun items => ∃ Inv : Nat → DE → Prop, (True → Inv 0 env) ∧ (∀ (i : Nat) x env', items[i]? = some x → Inv i env' → g x env' fun env2 => tb { E with nx := fun e => True → Inv (i + 1) e, ct := fun e => True → Inv (i + 1) e, bk := E.nx } env2) ∧
  ∀ env', Inv items.length env' → E.nx env') (fun x fs => E.ex x fs env)
theorem pds_for {iter : Expr} {body : List Stmt} {di : DTI} {g : DTG} {ix : List Nat} {tb : DTS} (hp : PassesOwn (model X.prog X.w) X.A X.env X.xe) (hc : X.calm = true) (hi : PDI X W tg iter di) (hg : PDG X tg ix g) (hb : PDSs X W body tb)
    (hs : ∀ x, foldedSetIterable iter X.env x = pure x := by intro _; rfl) : PDS X W (.For tg iter body [] pos) (dFor di g tb) := by
  obtain ⟨_, pi, li⟩ := hi.of
  obtain ⟨_, pg, lg, _⟩ := hg.of
  obtain ⟨_, pb, lb⟩ := hb.of
  refine ⟨_, ps_for hp hc pi pg pb hs, fun H0 G0 G H σ env B E S L q => li H0 G0 G H σ env _ _ _ S (L.le σ env) q fun J H1 G1 items x1 j ⟨Iv, i0, step, done⟩ => ?_⟩
  refine ⟨fun i m σ' H' => m = items.length - i ∧ i ≤ items.length ∧ ∃ G' env', Same G1 G' ∧ SR X.K H0 G0 G' H' σ' env' ∧ Iv i env', ⟨items.length, by simp, Nat.zero_le _, G1, env, .refl _, S.ex x1, i0 trivial⟩, ?_⟩
  rintro i m σ' H' ⟨rfl, hi', G', env', sg, S', iv⟩
  by_cases hlt : i < items.length
  · refine .inr ⟨j.go i _ (sg.trans S'.sub) hlt, fun σ2 H2 => ∃ G2 env2, Same G1 G2 ∧ SR X.K H0 G0 G2 H2 σ2 env2 ∧ Iv (i + 1) env2, fun σ2 H2 h2 => ⟨items.length - (i + 1), by omega, rfl, hlt, h2⟩, fun x H2 y => ?_⟩
    obtain ⟨G2, d, hd, x2, r2⟩ := j.yld i _ G' x H2 sg S'.sub hlt y
    refine lg H0 G0 G2 H2 σ' env' x d _ _ (S'.ex x2) r2 (step i d env' hd iv) fun σ3 env3 S3 q3 => ?_
    have s2 : Same G1 G2 := sg.trans x2.gg
    have L2' := L.mono (x1.gg.trans s2)
    exact lb H0 G0 G2 H2 σ3 env3 _ { E with nx := fun e => True → Iv (i + 1) e, ct := fun e => True → Iv (i + 1) e, bk := E.nx } S3 ⟨fun σ4 H4 G4 env4 s4 S4 q4 => ⟨G4, env4, s2.trans s4, S4, q4 trivial⟩, fun σ4 H4 G4 env4 s4 S4 q4 => L2'.nx _ _ _ _ s4 S4 q4, fun σ4 H4 G4 env4 s4 S4 q4 => ⟨G4, env4, s2.trans s4, S4, q4 trivial⟩, L2'.rt, L2'.ex⟩ q3
  · have e : i = items.length := by omega
    subst e
    exact .inl ⟨j.stop _ (sg.trans S'.sub), L.nx _ _ _ _ (x1.gg.trans sg) S' (done env' iv)⟩
/-- while: what holds ahead of each turn, with a measure -/
def dWhile (t : DTT) (tb : DTS) : DTS := fun E env => ∃ Inv : Nat → DE → Prop, (True → ∃ m, Inv m env) ∧ ∀ m env', Inv m env' → t env' (fun k => if k = true then tb { E with nx := fun e2 => True → ∃ m', m' < m ∧ Inv m' e2, ct := fun e2 => True → ∃ m', m' < m ∧ Inv m' e2, bk := E.nx } env' else E.nx env') (fun x fs => E.ex x fs env')
theorem pds_while {body : List Stmt} {t : DTT} {tb : DTS} (hp : PassesOwn (model X.prog X.w) X.A X.env X.xe) (hc : PDT X W c t) (hb : PDSs X W body tb) : PDS X W (.While c body [] pos) (dWhile t tb) := by
  obtain ⟨_, pc, lc⟩ := hc.of
  obtain ⟨_, pb, lb⟩ := hb.of
  refine ⟨_, ps_while hp pc pb, fun H0 G0 G H σ env B E S L ⟨Iv, i00, step⟩ => ?_⟩
  obtain ⟨m0, i0⟩ := i00 trivial
  refine ⟨fun m σ' H' => ∃ G' env', Same G G' ∧ SR X.K H0 G0 G' H' σ' env' ∧ Iv m env', ⟨m0, G, env, .refl _, S, i0⟩, ?_⟩
  rintro m σ' H' ⟨G', env', sg, S', iv⟩
  refine lc H0 G0 G' H' σ' env' _ _ _ S' ((L.mono sg).le σ' env') (step m env' iv) fun k H1 G1 x1 q1 => ?_
  have s1 := sg.trans x1.gg
  have L1 := L.mono s1
  cases k with
  | true =>
    simp only [if_true] at q1 ⊢
    refine ⟨fun σ2 H2 => ∃ m', m' < m ∧ ∃ G2 env2, Same G G2 ∧ SR X.K H0 G0 G2 H2 σ2 env2 ∧ Iv m' env2, fun σ2 H2 h => h, ?_⟩
    exact lb H0 G0 G1 H1 σ' env' _ { E with nx := fun e2 => True → ∃ m', m' < m ∧ Iv m' e2, ct := fun e2 => True → ∃ m', m' < m ∧ Iv m' e2, bk := E.nx } (S'.ex x1) ⟨fun σ4 H4 G4 env4 s4 S4 q => let ⟨m', hm, q4⟩ := q trivial; ⟨m', hm, G4, env4, s1.trans s4, S4, q4⟩, fun σ4 H4 G4 env4 s4 S4 q4 => L1.nx _ _ _ _ s4 S4 q4, fun σ4 H4 G4 env4 s4 S4 q => let ⟨m', hm, q4⟩ := q trivial; ⟨m', hm, G4, env4, s1.trans s4, S4, q4⟩, L1.rt, L1.ex⟩ q1
  | false => exact L1.nx _ _ _ _ (.refl _) (S'.ex x1) q1
/-! lists of one's own -/
def dApp (i : Nat) (ta : DT) : DTS := fun E env => ∃ l, env[i]? = some (.own l) ∧ ta env (fun d => l.length < sizeLine ∧ E.nx (env.set i (.own (l ++ [d])))) (fun x fs => E.ex x fs env)
theorem pds_app {i : Nat} {x : Str} {p1 p2 p3 : Pos} {te : TE → TE} (hv : ∀ {sa : TE}, PE X e sa → PE X c (tBM X.K "list" rAppend (tVar i) (tCons sa tNil))) (h : PD X W e ta) (h5 : swapsWith c none pos.line X.env = pure false := by rfl) : PDS X W (.Expr c pos) (dApp i ta) := by
  obtain ⟨_, p, l⟩ := h.of
  refine ⟨_, ps_expr (hv p) h5, fun H0 G0 G H σ env B E S L ⟨m, em, q⟩ => ?_⟩
  obtain ⟨pp, vs, e3, hp, gp, op, rr⟩ := S.own i m em
  refine ⟨_, e3, .inl ⟨rfl, _, SqL.of hp⟩, l H0 G0 G H σ env _ _ _ S (L.le σ env) q fun v H' G' d x r ⟨hl, q'⟩ => ?_⟩
  have S' := S.ex x
  refine ⟨pp, vs, v, rfl, rfl, x.hh _ _ hp, by rw [rr.1]; exact hl, ?_⟩
  exact L.nx _ _ _ _ x.gg (S'.mutL em e3 ((rr.same x.gg).app (.one r))) q'
def dIxO (i : Nat) (tb : DT) : DT := fun env Q ex => ∃ l, env[i]? = some (.own l) ∧ tb env (fun d => ∃ k x, d = .int k ∧ atI l k = some x ∧ Q x) ex
theorem atI_len {α β : Type} {l : List α} {m : List β} (h : l.length = m.length) {k : Int} {x : α} (e : atI l k = some x) : ∃ j, l[j]? = some x ∧ ixN m.length k = some j ∧ ixN l.length k = some j := by
  unfold atI at e
  cases q : ixN l.length k with
  | none =>
    rw [q] at e
    cases e
  | some j =>
    rw [q] at e
    exact ⟨j, e, by rw [← h]; exact q, rfl⟩
theorem Reps.ix {K : PySem.W.Frag} {G : Hp} {vs : List V} {l : List D} (r : Reps K G vs l) {k : Int} {x : D} (e : atI l k = some x) : ∃ v, atI vs k = some v ∧ Rep K G v x := by
  obtain ⟨j, h1, h2, _⟩ := atI_len (m := vs) r.1.symm e
  obtain ⟨v, hv, rv⟩ := r.at h1
  exact ⟨v, by unfold atI; rw [h2]; exact hv, rv⟩
theorem pd_ixO {i : Nat} (ho : IxR X (rIxL X.K)) (ha : PE X a (tVar i)) (hb : PD X W b tb) (hp : PlainIx b) : PD X W (.Subscript a b pos) (dIxO i tb) := by
  obtain ⟨_, pb, lb⟩ := hb.of
  refine ⟨_, pe_ix ho ha pb hp, fun H0 G0 G H σ env Q ex R S L ⟨m, em, q⟩ g => ?_⟩
  obtain ⟨pp, vs, e3, hp, gp, op, rr⟩ := S.own i m em
  refine ⟨_, e3, lb H0 G0 G H σ env _ ex _ S L q fun v H1 G1 d x1 r1 ⟨k, x, e1, e2, q1⟩ => ?_⟩
  subst e1
  obtain ⟨w, hw, rw⟩ := rr.ix e2
  exact ⟨pp, vs, k, w, rfl, r1.int_inv, SqL.of (x1.hh _ _ hp), hw, g w H1 G1 x x1 (rw.same x1.gg) q1⟩
def dLenO (i : Nat) : DT := fun env Q _ => ∃ l, env[i]? = some (.own l) ∧ Q (.int l.length)
theorem pd_lenO {i : Nat} (mk : ∀ {sa : TE}, PE X a sa → PE X c (tCB (fun xs H Q => ∃ x n, xs = [x] ∧ LenV X.K x H n ∧ Q (.int n) H) (tCons sa tNil))) (ha : PE X a (tVar i)) : PD X W c (dLenO i) := by
  refine ⟨_, mk ha, fun H0 G0 G H σ env Q ex R S L ⟨m, em, q⟩ g => ?_⟩
  obtain ⟨pp, vs, e3, hp, gp, op, rr⟩ := S.own i m em
  exact ⟨_, e3, _, m.length, rfl, .inl ⟨vs, SqL.of hp, rr.1.symm⟩, g _ _ _ _ (.refl S.sub) (.int _) q⟩
/-- xs[k] = e, xs the def's own -/
def dPut (i : Nat) (ta tb : DT) : DTS := fun E env => ta env (fun d => ∃ l, env[i]? = some (.own l) ∧ tb env (fun y => ∃ k j, y = .int k ∧ ixN l.length k = some j ∧ E.nx (env.set i (.own (l.set j d)))) (fun x fs => E.ex x fs env)) (fun x fs => E.ex x fs env)
theorem pds_put {i : Nat} {kk : Pos} (hv : ∀ {sb : TE}, PE X b sb → PG X tg (gSub (tVar i) sb rSetL)) (ha : PD X W e ta) (hb : PD X W b tb) (h1 : swapsWithSole [tg] e pos.line X.env = pure false := by rfl) (h2 : swappedStores [tg] e X.env = pure none := by rfl)
    (h3 : (assignEach [tg] X.env).map (fun x => x.2) = [assign tg X.env] := by rfl) : PDS X W (.Assign [tg] e pos) (dPut i ta tb) := by
  obtain ⟨_, pa, la⟩ := ha.of
  obtain ⟨_, pb, lb⟩ := hb.of
  refine ⟨_, ps_asg pa (hv pb) h1 h2 h3, fun H0 G0 G H σ env B E S L q => la H0 G0 G H σ env _ _ _ S (L.le σ env) q fun v H1 G1 d x1 r1 ⟨m, em, q1⟩ => ?_⟩
  have S1 := S.ex x1
  obtain ⟨pp, vs, e3, hp, gp, op, rr⟩ := S1.own i m em
  refine ⟨_, e3, lb H0 G0 G1 H1 σ env _ _ _ S1 ((L.mono x1.gg).le σ env) q1 fun u H2 G2 y x2 r2 ⟨k, j, ey, hj, q2⟩ => ?_⟩
  subst ey
  refine ⟨pp, vs, k, j, rfl, r2.int_inv, x2.hh _ _ hp, by rw [rr.1]; exact hj, ?_⟩
  exact L.nx _ _ _ _ (x1.gg.trans x2.gg) ((S1.ex x2).mutL em e3 ((rr.same x2.gg).set (r1.same x2.gg) j)) q2
/-- y = [.. for ..] -/
theorem pds_asgLc {i : Nat} {y : Str} {py spos : Pos} {elt iter : Expr} {ifs : List Expr} {scope : Scope} {own : List (Str × Nat)} {di : DTI} {dg : DTG} {dt : DTT} {de : DT} {ix : List Nat} (hc : X.calm = true) (hN : X.N.Nodup) (hy : X.N[i]? = some y) (hyl : X.env.scope.names.lookup y = some .local)
    (hsw : swapsWith (.ListComp elt [⟨tg, iter, ifs, 0⟩] scope pos) (some (.Name y py)) spos.line X.env = pure true) (hi : PDI X W tg iter di) (ok : BlkOk X.N X.env.scope scope own) (hx : ∀ i ∈ ix, i ∈ own.map (·.2))
    (hg : ∀ (s : Shared) (H : Hp) (C : Addr) (cl : List (Str × Addr)) (fp : List Addr), PDG (X.blk s H scope (compEnvC scope cl C X.env) fp) tg ix dg) (ht : ∀ (s : Shared) (H : Hp) (C : Addr) (cl : List (Str × Addr)) (fp : List Addr), PDTs (X.blk s H scope (compEnvC scope cl C X.env) fp) ifs dt)
    (he : ∀ (s : Shared) (H : Hp) (C : Addr) (cl : List (Str × Addr)) (fp : List Addr), PD (X.blk s H scope (compEnvC scope cl C X.env) fp) WN elt de) (hs : ∀ x, foldedSetIterable iter X.env x = pure x := by intro _; rfl) :
    PDS X W (.Assign [.Name y py] (.ListComp elt [⟨tg, iter, ifs, 0⟩] scope pos) spos) (dSetN i (dLc di dg dt de (own.map (·.2)))) ∧ PDS X W (.Assign [.Name y py] (.ListComp elt [⟨tg, iter, ifs, 0⟩] scope pos) spos) (dSet i (dNew (dLc di dg dt de (own.map (·.2))))) := by
  obtain ⟨ti, pi, li⟩ := hi.of
  let Xf : (Shared × Hp × Addr × List (Str × Addr) × List Addr) → Cx := fun q => X.blk q.1 q.2.1 scope (compEnvC scope q.2.2.2.1 q.2.2.1 X.env) q.2.2.2.2
  obtain ⟨g, pg, lg, ig⟩ := pdg_all (Xf := Xf) (X := X) (fun _ => rfl) fun q => hg q.1 q.2.1 q.2.2.1 q.2.2.2.1 q.2.2.2.2
  obtain ⟨tt, pt, lt⟩ := pdts_all (Xf := Xf) (X := X) (fun _ => rfl) fun q => ht q.1 q.2.1 q.2.2.1 q.2.2.2.1 q.2.2.2.2
  obtain ⟨te, pe, le⟩ := pd_all (Xf := Xf) (X := X) (fun _ => rfl) fun q => he q.1 q.2.1 q.2.2.1 q.2.2.2.1 q.2.2.2.2
  have P := ps_setLc (py := py) (spos := spos) hc hN hy hyl hsw pi ok (fun s H C cl fp => pg (s, H, C, cl, fp)) (fun s H C cl fp => pt (s, H, C, cl, fp)) (fun s H C cl fp => pe (s, H, C, cl, fp)) hs
  have l := lc_lift (W := W) rfl li lg (ig _ hx) lt le
  refine ⟨pds_asgN P l, ⟨_, P, fun H0 G0 G H σ env B E S L q => l.le H0 G0 G H σ env _ _ _ S (L.le σ env) q fun v H' G' d x r q' => L.nx _ _ _ _ x.gg ((S.ex x).set r) q'⟩⟩
theorem pds_lcN {i : Nat} {y : Str} {py spos : Pos} {elt iter : Expr} {ifs : List Expr} {scope : Scope} {own : List (Str × Nat)} {di : DTI} {dg : DTG} {dt : DTT} {de : DT} {ix : List Nat} (hc : X.calm = true) (hN : X.N.Nodup) (hy : X.N[i]? = some y) (hyl : X.env.scope.names.lookup y = some .local)
    (hsw : swapsWith (.ListComp elt [⟨tg, iter, ifs, 0⟩] scope pos) (some (.Name y py)) spos.line X.env = pure true) (hi : PDI X W tg iter di) (ok : BlkOk X.N X.env.scope scope own) (hx : ∀ i ∈ ix, i ∈ own.map (·.2))
    (hg : ∀ (s : Shared) (H : Hp) (C : Addr) (cl : List (Str × Addr)) (fp : List Addr), PDG (X.blk s H scope (compEnvC scope cl C X.env) fp) tg ix dg) (ht : ∀ (s : Shared) (H : Hp) (C : Addr) (cl : List (Str × Addr)) (fp : List Addr), PDTs (X.blk s H scope (compEnvC scope cl C X.env) fp) ifs dt)
    (he : ∀ (s : Shared) (H : Hp) (C : Addr) (cl : List (Str × Addr)) (fp : List Addr), PD (X.blk s H scope (compEnvC scope cl C X.env) fp) WN elt de) (hs : ∀ x, foldedSetIterable iter X.env x = pure x := by intro _; rfl) :
    PDS X W (.Assign [.Name y py] (.ListComp elt [⟨tg, iter, ifs, 0⟩] scope pos) spos) (dSetN i (dLc di dg dt de (own.map (·.2)))) := (pds_asgLc hc hN hy hyl hsw hi ok hx hg ht he hs).1
theorem pds_lcV {i : Nat} {y : Str} {py spos : Pos} {elt iter : Expr} {ifs : List Expr} {scope : Scope} {own : List (Str × Nat)} {di : DTI} {dg : DTG} {dt : DTT} {de : DT} {ix : List Nat} (hc : X.calm = true) (hN : X.N.Nodup) (hy : X.N[i]? = some y) (hyl : X.env.scope.names.lookup y = some .local)
    (hsw : swapsWith (.ListComp elt [⟨tg, iter, ifs, 0⟩] scope pos) (some (.Name y py)) spos.line X.env = pure true) (hi : PDI X W tg iter di) (ok : BlkOk X.N X.env.scope scope own) (hx : ∀ i ∈ ix, i ∈ own.map (·.2))
    (hg : ∀ (s : Shared) (H : Hp) (C : Addr) (cl : List (Str × Addr)) (fp : List Addr), PDG (X.blk s H scope (compEnvC scope cl C X.env) fp) tg ix dg) (ht : ∀ (s : Shared) (H : Hp) (C : Addr) (cl : List (Str × Addr)) (fp : List Addr), PDTs (X.blk s H scope (compEnvC scope cl C X.env) fp) ifs dt)
    (he : ∀ (s : Shared) (H : Hp) (C : Addr) (cl : List (Str × Addr)) (fp : List Addr), PD (X.blk s H scope (compEnvC scope cl C X.env) fp) WN elt de) (hs : ∀ x, foldedSetIterable iter X.env x = pure x := by intro _; rfl) :
    PDS X W (.Assign [.Name y py] (.ListComp elt [⟨tg, iter, ifs, 0⟩] scope pos) spos) (dSet i (dNew (dLc di dg dt de (own.map (·.2))))) := (pds_asgLc hc hN hy hyl hsw hi ok hx hg ht he hs).2
end
end DL

namespace DL
open PySem PySem.Spec PyProof.Rows L2 LR
/-! ## a def from its body -/
def start (n : Nat) (ds : List D) : DE := ds.map Sl.val ++ List.replicate (n - ds.length) .no
theorem sr_start {K : PySem.W.Frag} {G H : Hp} {N : List Str} {vs : List V} {ds : List D} (s : Same G H) (r : Reps K G vs ds) : SR K H G G H (L2.start N vs) (start N.length ds) := by
  refine ⟨.refl _, s, .refl _, fun a h1 h2 => absurd h2 h1, by simp [L2.start, start, r.1], fun i t h => ?_, fun i j s t p _ h1 _ m1 => ?_⟩
  · unfold start at h
    by_cases hi : i < ds.length
    · rw [List.getElem?_append_left (by simpa using hi), List.getElem?_map] at h
      obtain ⟨v, hv, rv⟩ := r.at (List.getElem?_eq_getElem hi)
      rw [List.getElem?_eq_getElem hi] at h
      cases h
      refine ⟨v, ?_, rv⟩
      show (vs.map some ++ _)[i]? = _
      rw [List.getElem?_append_left (by simp [r.1, hi]), List.getElem?_map, hv]
      rfl
    · rw [List.getElem?_append_right (by simp; omega), List.getElem?_replicate] at h
      split at h
      · cases h
        trivial
      · cases h
  · unfold start at h1
    by_cases hi : i < ds.length
    · rw [List.getElem?_append_left (by simpa using hi), List.getElem?_map, List.getElem?_eq_getElem hi] at h1
      cases h1
      cases m1
    · rw [List.getElem?_append_right (by simp; omega), List.getElem?_replicate] at h1
      split at h1
      · cases h1
        cases m1
      · cases h1
theorem Fn.of {P : Program} {w : World} {K : PySem.W.Frag} {mg : Str → Option Value} {base : Heap} {x qual : Str} {params : Arguments} {body : List Stmt} {scope : Scope} {f : Addr} {N ps : List Str} {k n : Nat} {Pm : Prm}
    (h : ∃ fd, FunD K x qual params body scope [] [] f fd) (S : FnScope N ps scope) (hn : ps.length = n)
    (hb : ∀ (kV doc pm : Value) (an : Option Addr) (cdv ct : Value) (us : List Value), us.length = ps.length → bindArgs (PySem.W.fnOf x qual params body scope .none kV doc pm an cdv ct) ⟨us, []⟩ = pure (ps.zip us))
    (len : ∀ ds Q ex, Pm ds Q ex → ds.length = n)
    (hbody : ∀ (fd : FuncData) (cdv : Value) (A : Around) (outer : List Env) (s : Shared) (H : Hp) (E : XK), Room k (A.deeper (envOfC qual scope s.heap.objs.size f cdv)) →
      ∃ t, PDSs (cxOf (L2.CX P w) P w K mg base N qual scope f cdv A outer s H E) (fun cls d _ H => E cls d H) body t ∧ ∀ ds Q ex, Pm ds Q ex → t { nx := fun _ => Q .non, rt := Q, ex := fun x fs _ => ex x fs } (start N.length ds)) :
    Nonempty (Fn P w K mg base f (k + 1) n Pm) := by
  suffices ok : Ok P w K mg base f (k + 1) ps (spD K n Pm) by
    obtain ⟨fd, F, b⟩ := ok
    exact ⟨⟨fd, ps, F, b, len⟩⟩
  refine Ok.of (P := P) (w := w) (mg := mg) (base := base) (k := k) (sp := spD K n Pm) h S hb (fun vs H Q E q => q.1.trans hn.symm) (fun fd cdv A outer s H vs Q E hr hs => ?_)
  · obtain ⟨t, pd, q⟩ := hbody fd cdv A outer s H E hr
    obtain ⟨ts, pts, l⟩ := pd.of
    obtain ⟨hv, G, ds, QD, ED, sG, rr, pm, got, out⟩ := hs
    refine ⟨ts, pts, l H G G H _ _ _ { nx := fun _ => QD .non, rt := QD, ex := fun x fs _ => ED x fs } (sr_start sG rr) ⟨fun σ' H' G' env' _ S' q' => ?_, fun σ' H' G' env' _ S' q' => q'.elim, fun σ' H' G' env' _ S' q' => q'.elim, fun v H' G' d _ x r q' => got v H' G' d x r q', fun σ' H' G' env' d x fv fs _ S' e r q' => out H' G' d x fv fs S'.all e r q'⟩ (q ds QD ED pm)⟩
    exact got _ _ _ _ S'.all .non q'
/-! ## an __init__ from its body -/
def startI (n : Nat) (p : Addr) (c : Nat) (ds : List D) : DE := .ob p c [] :: ds.map Sl.val ++ List.replicate (n - (ds.length + 1)) .no
theorem zip_of_map {α β : Type} : ∀ (l : List (α × β)), l = (l.map (·.1)).zip (l.map (·.2))
  | [] => rfl
  | (a, b) :: r => by
    show (a, b) :: r = (a, b) :: (r.map (·.1)).zip (r.map (·.2))
    rw [← zip_of_map r]
theorem sr_startI {K : PySem.W.Frag} {G H : Hp} {N : List Str} {vs : List V} {ds : List D} {p dx : Addr} {c : Nat} (s : Same G H) (hp : H p = some (.ins (He.ga K (cname c)) dx [])) (gp : G p = none) (r : Reps K G vs ds) :
    SR K (del H p) G G H (L2.start N (.ref p :: vs)) (startI N.length p c ds) := by
  have one : ∀ (i : Nat) (t : Sl), (startI N.length p c ds)[i]? = some t → (i = 0 ∧ t = .ob p c []) ∨ ((∃ d, t = .val d ∧ ∃ v, (L2.start N (.ref p :: vs))[i]? = some (some v) ∧ Rep K G v d) ∨ t = .no) := fun i t h => by
    cases i with
    | zero =>
      left
      unfold startI at h
      simp at h
      exact ⟨rfl, h.symm⟩
    | succ i =>
      right
      unfold startI at h
      rw [List.cons_append, List.getElem?_cons_succ] at h
      by_cases hi : i < ds.length
      · rw [List.getElem?_append_left (by simpa using hi), List.getElem?_map, List.getElem?_eq_getElem hi] at h
        cases h
        obtain ⟨v, hv, rv⟩ := r.at (List.getElem?_eq_getElem hi)
        refine .inl ⟨_, rfl, v, ?_, rv⟩
        show (some (V.ref p) :: vs.map some ++ _)[i + 1]? = _
        rw [List.cons_append, List.getElem?_cons_succ, List.getElem?_append_left (by simp [r.1, hi]), List.getElem?_map, hv]
        rfl
      · rw [List.getElem?_append_right (by simp; omega), List.getElem?_replicate] at h
        split at h
        · cases h
          exact .inr rfl
        · cases h
  refine ⟨fun a o h => ?_, s, .refl _, fun a h1 h2 => absurd h2 h1, by simp [L2.start, startI, r.1], fun i t h => ?_, fun i j s t q ij h1 h2 m1 m2 => ?_⟩
  · by_cases ha : a = p
    · subst ha
      rw [del_same] at h
      cases h
    · rw [del_ne ha] at h
      exact h
  · rcases one i t h with ⟨rfl, rfl⟩ | ⟨d, rfl, v, e, rv⟩ | rfl
    · exact ⟨dx, [], rfl, hp, gp, del_same, rfl, .nil⟩
    · exact ⟨v, e, rv⟩
    · trivial
  · rcases one i _ h1 with ⟨rfl, rfl⟩ | ⟨d, rfl, _⟩ | rfl
    · rcases one j _ h2 with ⟨rfl, rfl⟩ | ⟨d, rfl, _⟩ | rfl
      · exact absurd rfl ij
      · cases m2
      · cases m2
    · cases m1
    · cases m1
/-- what an __init__'s body is to reach -/
def endI (p : Addr) (c : Nat) (Q : D → Prop) : DE → Prop := fun env => ∃ fs, env[0]? = some (.ob p c fs) ∧ fs.map (·.1) = shape c ∧ Q (.ins c (fs.map (·.2)))
theorem FnI.body {P : Program} {w : World} {K : PySem.W.Frag} {mg : Str → Option Value} {base : Heap} {qual : Str} {scope : Scope} {f : Addr} {N : List Str} {c n : Nat} {Pm : Prm} {cdv : Value} {A : Around} {outer : List Env} {s : Shared} {H : Hp} {E : XK} {body : List Stmt} {t : DTS} {vs : List V} {Q : VK}
    (pd : PDSs (cxOf (L2.CX P w) P w K mg base N qual scope f cdv A outer s H E) (fun cls d _ H => E cls d H) body t) (q : ∀ p ds Q ex, Pm ds Q ex → t { nx := endI p c Q, rt := fun _ => False, ex := fun x fs _ => ex x fs } (startI N.length p c ds)) (hs : spI K c n Pm vs H Q E) :
    ∃ ts, PSs (cxOf (L2.CX P w) P w K mg base N qual scope f cdv A outer s H E) body ts ∧ ts { nx := fun _ H' => Q .non H', rt := Q } (L2.start N vs) H := by
  obtain ⟨ts, pts, l⟩ := pd.of
  obtain ⟨p, dx, us, G, ds, QD, ED, rfl, hl, hp, sG, gp, rr, pm, made, out⟩ := hs
  have keep : ∀ {H' : Hp}, Same (del H p) H' → ∀ a o, H a = some o → a ≠ p → H' a = some o := fun h a o e ne => h a o ((del_ne ne).trans e)
  have new : ∀ {G' : Hp}, (∀ a, G' a ≠ none → G a = none → del H p a = none) → ∀ a, G' a ≠ none → G a = none → H a = none ∨ a = p := fun h a h1 h2 => by
    by_cases ha : a = p
    · exact .inr ha
    · have := h a h1 h2
      rw [del_ne ha] at this
      exact .inl this
  refine ⟨ts, pts, l (del H p) G G H _ _ _ { nx := endI p c QD, rt := fun _ => False, ex := fun x fs _ => ED x fs } (sr_startI sG hp gp rr) ⟨fun σ' H' G' env' _ S' q' => ?_, fun σ' H' G' env' _ S' q' => q'.elim, fun σ' H' G' env' _ S' q' => q'.elim, fun v H' G' d _ x r q' => q'.elim, fun σ' H' G' env' d x fv fs _ S' e r q' => ?_⟩ (q p ds QD ED pm)⟩
  · obtain ⟨fs, e0, es, q2⟩ := q'
    obtain ⟨dx', fv, e1, hp', gp', _, rf⟩ := S'.slot 0 _ e0
    have gG : Same G' (upd G' p (.ins (He.ga K (cname c)) dx' fv)) := same_new gp'
    have hz : fv = (shape c).zip (fv.map (·.2)) := by
      have := zip_of_map fv
      rw [rf.1, es] at this
      exact this
    have rl : (fv.map (·.2)).length = (fs.map (·.2)).length := rf.2.1
    have ml : (shape c).length = (fv.map (·.2)).length := by rw [← es, rl]; simp
    refine made H' (upd G' p (.ins (He.ga K (cname c)) dx' fv)) _ (keep S'.same) (S'.g0.trans gG) (fun b u e => ?_) (fun a h1 h2 => ?_) (.ins (dx := dx') ?_ ml rl (rf.2.same gG).2) q2
    · by_cases hb : b = p
      · subst hb
        rw [upd_same] at e
        cases e
        exact hp'
      · rw [upd_ne hb] at e
        exact S'.sub b u e
    · by_cases ha : a = p
      · exact .inr ha
      · rw [upd_ne ha] at h1
        exact new S'.ext a h1 h2
    · rw [upd_same, ← hz]
  · exact out H' G' d x fv fs (keep S'.same) S'.g0 S'.sub (new S'.ext) e r q'
theorem spI_len {K : PySem.W.Frag} {c n : Nat} {Pm : Prm} {vs : List V} {H : Hp} {Q : VK} {E : XK} (h : spI K c n Pm vs H Q E) : vs.length = n + 1 := by
  obtain ⟨p, dx, us, G, ds, QD, ED, rfl, hl, _⟩ := h
  simp [hl]
/-- all parameters given -/
theorem FnI.of {P : Program} {w : World} {K : PySem.W.Frag} {mg : Str → Option Value} {base : Heap} {x qual : Str} {params : Arguments} {body : List Stmt} {scope : Scope} {f : Addr} {N ps : List Str} {k c n : Nat} {Pm : Prm}
    (h : ∃ fd, FunD K x qual params body scope [] [] f fd) (S : FnScope N ps scope) (hn : ps.length = n + 1)
    (hb : ∀ (kV doc pm : Value) (an : Option Addr) (cdv ct : Value) (us : List Value), us.length = ps.length → bindArgs (PySem.W.fnOf x qual params body scope .none kV doc pm an cdv ct) ⟨us, []⟩ = pure (ps.zip us))
    (len : ∀ ds Q ex, Pm ds Q ex → ds.length = n)
    (hbody : ∀ (fd : FuncData) (cdv : Value) (A : Around) (outer : List Env) (s : Shared) (H : Hp) (E : XK), Room k (A.deeper (envOfC qual scope s.heap.objs.size f cdv)) →
      ∃ t, PDSs (cxOf (L2.CX P w) P w K mg base N qual scope f cdv A outer s H E) (fun cls d _ H => E cls d H) body t ∧ ∀ p ds Q ex, Pm ds Q ex → t { nx := endI p c Q, rt := fun _ => False, ex := fun x fs _ => ex x fs } (startI N.length p c ds)) :
    Nonempty (FnI P w K mg base f (k + 1) c n Pm [] []) := by
  have ok := Ok.of (P := P) (w := w) (mg := mg) (base := base) (k := k) (sp := spI K c n Pm) h S hb (fun vs H Q E q => (spI_len q).trans hn.symm) (fun fd cdv A outer s H vs Q E hr hs => by
    obtain ⟨t, pd, q⟩ := hbody fd cdv A outer s H E hr
    exact FnI.body pd q hs)
  obtain ⟨fd, F, b⟩ := ok
  exact ⟨⟨fd, ps, F, [], .nil, b, len⟩⟩
/-- the last parameter may be left out -/
theorem FnI.ofD {P : Program} {w : World} {K : PySem.W.Frag} {mg : Str → Option Value} {base : Heap} {x qual : Str} {params : Arguments} {body : List Stmt} {scope : Scope} {f : Addr} {N ps : List Str} {k c n : Nat} {Pm : Prm} {dv : V} {dd : D}
    (h : ∃ fd, FunD K x qual params body scope [dv] [] f fd) (S : FnScope N ps scope) (hn : ps.length = n + 1)
    (hb : ∀ (n : Nat), (n = ps.length ∨ n + 1 = ps.length) → ∀ (T : Addr) (kV doc pm : Value) (an : Option Addr) (cdv ct : Value) (us its : List Value), us.length = n → its.length = 1 →
      ∃ k, bindArgs (PySem.W.fnOf x qual params body scope (.ref T) kV doc pm an cdv ct) ⟨us, []⟩ = seqItems? (.ref T) >>= k ∧ k (some its.toArray) = pure (ps.zip (us ++ its.drop (n + 1 - ps.length))))
    (len : ∀ ds Q ex, Pm ds Q ex → ds.length = n)
    (hbody : ∀ (fd : FuncData) (cdv : Value) (A : Around) (outer : List Env) (s : Shared) (H : Hp) (E : XK), Room k (A.deeper (envOfC qual scope s.heap.objs.size f cdv)) →
      ∃ t, PDSs (cxOf (L2.CX P w) P w K mg base N qual scope f cdv A outer s H E) (fun cls d _ H => E cls d H) body t ∧ ∀ p ds Q ex, Pm ds Q ex → t { nx := endI p c Q, rt := fun _ => False, ex := fun x fs _ => ex x fs } (startI N.length p c ds)) :
    Nonempty (FnI P w K mg base f (k + 1) c n Pm [] []) ∧ Nonempty (FnI P w K mg base f (k + 1) c n Pm [dv] [dd]) := by
  have ok := OkD.of (P := P) (w := w) (mg := mg) (base := base) (k := k) (sp := spI K c n Pm) h S hb (by omega) (fun vs H Q E q => (spI_len q).trans hn.symm) (fun fd cdv A outer s H vs Q E hr hs => by
    obtain ⟨t, pd, q⟩ := hbody fd cdv A outer s H E hr
    exact FnI.body pd q hs)
  obtain ⟨fd, F, b, ds, hv, b2⟩ := ok
  exact ⟨⟨⟨fd, ps, F, [], .nil, b, len⟩⟩, ⟨⟨fd, ps, F, ds, hv, b2, len⟩⟩⟩
/-! ## stores of fields -/
section
variable {X : Cx} {W : WX} {a b c e o tg : Expr} {es : List Expr} {ta tb tc : DT} {t : DTA} {pos p : Pos}
theorem putF_new {f : Str} {v : V} : ∀ {fv : List (Str × V)}, f ∉ fv.map (·.1) → putF f v fv = fv ++ [(f, v)]
  | [], _ => rfl
  | (g, w) :: r, h => by
    have h1 : g ≠ f := fun z => h (by simp [z])
    have h2 : f ∉ r.map (·.1) := fun z => h (by simp at z ⊢; exact .inr z)
    unfold putF
    rw [if_neg h1, putF_new h2]
    rfl
theorem RepF.snoc {K : PySem.W.Frag} {G : Hp} {fv : List (Str × V)} {fs : List (Str × D)} {f : Str} {v : V} {d : D} (r : RepF K G fv fs) (rv : Rep K G v d) : RepF K G (fv ++ [(f, v)]) (fs ++ [(f, d)]) := by
  refine ⟨by simp [r.1], ?_⟩
  rw [List.map_append, List.map_append]
  exact r.2.app (.one rv)
def dFst (i c : Nat) (f : Str) (ta : DT) : DTS := fun E env => ta env (fun d => ∃ p fs, env[i]? = some (.ob p c fs) ∧ fs.length < 1000 ∧ f ∉ fs.map (·.1) ∧ E.nx (env.set i (.ob p c (fs ++ [(f, d)])))) (fun x fs => E.ex x fs env)
theorem pds_fst {i c : Nat} {f : Str} {st : Stmt} (cl : Cls X.K (He.ga X.K (cname c))) (na : NoAttr X.K (He.ga X.K (cname c)) f) (mk : ∀ {te : TE}, PE X e te → PS X st (sFld X.K (tVar i) te f)) (h : PD X W e ta) : PDS X W st (dFst i c f ta) := by
  obtain ⟨_, p, l⟩ := h.of
  refine ⟨_, mk p, fun H0 G0 G H σ env B E S L q => l H0 G0 G H σ env _ _ _ S (L.le σ env) q fun v H1 G1 d x1 r1 ⟨pp, fs, ee, hl, nf, q1⟩ => ?_⟩
  have S1 := S.ex x1
  obtain ⟨dx, fv, e3, hp, gp, op, rf⟩ := S1.slot i _ ee
  refine ⟨_, e3, pp, _, dx, fv, rfl, hp, cl, na, ?_, ?_⟩
  · have := rf.2.1
    simp at this
    omega
  · rw [putF_new (by rw [rf.1]; exact nf)]
    exact L.nx _ _ _ _ x1.gg (S1.mut (t := .ob pp c (fs ++ [(f, _)])) ee rfl rfl e3 (fun fv z => by rw [hp] at z; cases z) ⟨dx, _, rfl, upd_same, gp, op, rf.snoc r1⟩) q1
/-! ## own errors -/
/-- where an error's fields come from: an argument, a word -/
abbrev Xsh := List (Str × (Nat ⊕ Str))
def xV (sh : Xsh) (ws : List V) : List (Str × V) := sh.map fun q => (q.1, match q.2 with | .inl k => ws.getD k .non | .inr w => .str w)
def xD (sh : Xsh) (ws : List D) : List (Str × D) := sh.map fun q => (q.1, match q.2 with | .inl k => ws.getD k .non | .inr w => .str w)
theorem x_rep {K : PySem.W.Frag} {G : Hp} (sh : Xsh) {ws : List V} {ds : List D} (r : Reps K G ws ds) : RepF K G (xV sh ws) (xD sh ds) := by
  refine ⟨by simp [xV, xD], by simp [xV, xD], fun i v d h1 h2 => ?_⟩
  unfold xV at h1
  unfold xD at h2
  rw [List.map_map, List.getElem?_map] at h1 h2
  cases e : sh[i]? with
  | none =>
    rw [e] at h1
    cases h1
  | some q =>
    rw [e] at h1 h2
    obtain ⟨f, s⟩ := q
    cases s with
    | inl k =>
      cases h1
      cases h2
      show Rep K G (ws.getD k .non) (ds.getD k .non)
      by_cases hk : k < ws.length
      · have hk' : k < ds.length := by rw [← r.1]; exact hk
        rw [List.getD_eq_getElem?_getD, List.getD_eq_getElem?_getD, List.getElem?_eq_getElem hk, List.getElem?_eq_getElem hk']
        exact r.2 k _ _ (List.getElem?_eq_getElem hk) (List.getElem?_eq_getElem hk')
      · rw [List.getD_eq_getElem?_getD, List.getD_eq_getElem?_getD, List.getElem?_eq_none (by omega), List.getElem?_eq_none (by rw [← r.1]; omega)]
        exact .non
    | inr w =>
      cases h1
      cases h2
      exact .str w
/-- the promise of an error's __init__ -/
def spX (K : PySem.W.Frag) (x : Str) (n : Nat) (sh : Xsh) : Sp := fun vs H Q _ => ∃ (a : Addr) (ws : List V), vs = .ref a :: ws ∧ ws.length = n ∧ H a = some (exo a (He.ga K x) none) ∧
  ∀ (H' : Hp) (dx : Addr), (∀ b o, H b = some o → b ≠ a → H' b = some o) → H dx = none → dx ≠ a → H' a = some (exo a (He.ga K x) (some dx)) → H' dx = some (exd dx (xV sh ws)) → Q .non H'
structure FnX (P : Program) (w : World) (K : PySem.W.Frag) (mg : Str → Option Value) (base : Heap) (f : Addr) (k : Nat) (x : Str) (n : Nat) (sh : Xsh) where
  fd : FuncData
  ps : List Str
  ok : FnOk P w K mg base (L2.CX P w) k f fd ps (spX K x n sh)
  bd : Binds K fd ps []
def dRaise (x : Str) (n : Nat) (sh : Xsh) (t : DTA) : DTS := fun E env => t env (fun ds => ds.length = n ∧ n ≤ 1000 ∧ E.ex x (xD sh ds) env) (fun x fs => E.ex x fs env)
theorem lk_raise {K : PySem.W.Frag} {H0 G0 G : Hp} {W : WX} {B : Ends} {E : DEnds} {σ : L2.St} {env : DE} {x : Str} {n : Nat} {sh : Xsh} {H1 G1 : Hp} {ws : List V} {ds : List D} {dvs : List V} (L : Lk K H0 G0 G W B E) (S : SR K H0 G0 G1 H1 σ env) (s : Same G G1) (r : Reps K G1 ws ds) (hn : ds.length = n) (q : E.ex x (xD sh ds) env) (hd : dvs = []) :
    ∀ a, H1 a = none → spX K x n sh (.ref a :: (ws ++ dvs)) (upd H1 a (exo a (He.ga K x) none)) (fun v H2 => v = .non ∧ ∃ d fs, H2 a = some (exo a (He.ga K x) (some d)) ∧ H2 d = some (exd d fs) ∧ H1 d = none ∧ W (.ref (He.ga K x)) (some d) σ (upd (del H2 a) d (.xd fs))) (fun _ _ _ => False) := by
  intro a na
  subst hd
  refine ⟨a, ws, by simp, by rw [r.1, hn], upd_same, fun H' dx keep nd ne ea ed => ⟨rfl, dx, _, ea, ed, ?_, ?_⟩⟩
  · rw [upd_ne ne] at nd
    exact nd
  · have nd1 : H1 dx = none := by rw [upd_ne ne] at nd; exact nd
    have x1 : Ext G1 H1 G1 (upd (del H' a) dx (.xd (xV sh ws))) := by
      refine ⟨fun b o e => ?_, .refl _, fun b o e => ?_, fun b h1 h2 => absurd h2 h1⟩
      · have hb1 : b ≠ dx := ne_of_none e nd1
        have hb2 : b ≠ a := ne_of_none e na
        rw [upd_ne hb1, del_ne hb2]
        exact keep b o ((upd_ne hb2).trans e) hb2
      · have e' := S.sub b o e
        have hb1 : b ≠ dx := ne_of_none e' nd1
        have hb2 : b ≠ a := ne_of_none e' na
        rw [upd_ne hb1, del_ne hb2]
        exact keep b o ((upd_ne hb2).trans e') hb2
    exact L.ex σ _ G1 env dx x _ _ s (S.ex x1) upd_same (x_rep sh r) q
theorem pds_raise {x : Str} {n : Nat} {sh : Xsh} {r : Expr} (hc : X.calm = true) (tk : Takes X W) (mk : ∀ {sa : TA}, PA X es sa → PMk X r (tMkO (He.ga X.K x) (spX X.K x n sh) [] sa)) (ha : PDA X W es t) : PDS X W (.Raise (some r) none pos) (dRaise x n sh t) := by
  obtain ⟨_, pa, la⟩ := ha.of
  refine ⟨_, ps_raise hc tk (mk pa), fun H0 G0 G H σ env B E S L q => la H0 G0 G H σ env _ _ _ S (L.le σ env) q fun vs H1 G1 ds x1 r1 ⟨hn, h3, q1⟩ => ⟨by rw [r1.1, hn]; exact h3, ?_⟩⟩
  exact lk_raise L (S.ex x1) x1.gg r1 hn q1 rfl
theorem pds_raise0 {x : Str} {sh : Xsh} {r : Expr} (hc : X.calm = true) (tk : Takes X W) (mk : PMk X r (tMkO (He.ga X.K x) (spX X.K x 0 sh) [] tNil)) : PDS X W (.Raise (some r) none pos) (fun E env => E.ex x (xD sh []) env) :=
  ⟨_, ps_raise hc tk mk, fun H0 G0 G H σ env B E S L q => ⟨Nat.zero_le _, lk_raise L S (.refl _) .nil rfl q rfl⟩⟩
/-! ## try, one clause -/
def dTry (K : PySem.W.Frag) (x : Str) (i : Nat) (tb : DTS) (ts : Addr → Value → Option Addr → DTS) : DTS := fun E env => tb { E with ex := fun y fs e => (y = x ∧ ∀ a dd, ts a (.ref (He.ga K x)) (some dd) { nx := fun e => E.nx (e.set i .no), rt := E.rt, bk := fun e => E.bk (e.set i .no), ct := fun e => E.ct (e.set i .no) } (e.set i (.exc a dd x fs))) ∨
  (PySem.W.exmOne K (.ref (He.ga K y)) (.ref (He.ga K x)) = some false ∧ E.ex y fs e) } env
theorem pds_try {x n : Str} {i : Nat} {body suite : List Stmt} {b₀ : Stmt} {np pos' : Pos} {tb : DTS} {ts : Addr → Value → Option Addr → DTS} (hs : X.stack = X.env :: X.outer) (hf : X.env.frame = some X.env.locals) (hN : X.N.Nodup) (hi : X.N[i]? = some n) (hln : X.env.kindOf n = some .local)
    (hc : Names X x (.ref (He.ga X.K x))) (hm : PySem.W.exmOne X.K (.ref (He.ga X.K x)) (.ref (He.ga X.K x)) = some true) (tk : Takes X W)
    (hb : ∀ (W' : WX) (pn : List (Addr × Obj)) (xe : Value → Shared → Prop), Takes (X.tr pn xe) W' → PassesOwn (model X.prog X.w) X.A X.env xe → PDSs (X.tr pn xe) W' body tb)
    (hsu : ∀ (a : Addr) (oe : Obj) (cls : Value) (d : Option Addr) (pn : List (Addr × Obj)), Zc cls d oe → (∃ vs, oe.data = .fields vs) → PDSs (X.suite a ((a, oe) :: pn)) WN (b₀ :: suite) (ts a cls d)) :
    PDS X W (.Try body [.ExceptHandler (some (.Name x np)) (some n) (b₀ :: suite) pos'] [] [] pos) (dTry X.K x i tb ts) := by
  refine ⟨_, ps_try_as (Wout := W) (tb := fun W' B σ H => ∀ pn xe (h1 : Takes (X.tr pn xe) W') (h2 : PassesOwn (model X.prog X.w) X.A X.env xe), (hb W' pn xe h1 h2).of.choose B σ H)
    (ts := fun a cls d B σ H => ∀ oe pn (h1 : Zc cls d oe) (h2 : ∃ vs, oe.data = .fields vs), (hsu a oe cls d pn h1 h2).of.choose B σ H) hs hf hN hi hln hc tk
    (fun W' pn xe h1 h2 => ⟨fun pins s σ H B I q => (hb W' pn xe h1 h2).of.choose_spec.1.run pins s σ H B I (q pn xe h1 h2)⟩)
    (fun a oe cls d pn h1 h2 => ⟨fun pins s σ H B I q => (hsu a oe cls d pn h1 h2).of.choose_spec.1.run pins s σ H B I (q oe pn h1 h2)⟩), fun H0 G0 G H σ env B E S L q => ?_⟩
  intro pn xe h1 h2
  refine (hb _ pn xe h1 h2).of.choose_spec.2 H0 G0 G H σ env _ { E with ex := fun y fs e => (y = x ∧ ∀ a dd, ts a (.ref (He.ga X.K x)) (some dd) { nx := fun e => E.nx (e.set i .no), rt := E.rt, bk := fun e => E.bk (e.set i .no), ct := fun e => E.ct (e.set i .no) } (e.set i (.exc a dd x fs))) ∨
    (PySem.W.exmOne X.K (.ref (He.ga X.K y)) (.ref (He.ga X.K x)) = some false ∧ E.ex y fs e) } S ⟨L.nx, L.bk, L.ct, L.rt, fun σ' H' G' env' dd y fv fs s' S' e r q' => ?_⟩ q
  rcases q' with ⟨rfl, q'⟩ | ⟨hn, q'⟩
  · refine ⟨true, hm, fun _ a na oe pn h1 h2 => ?_, fun z => Bool.noConfusion z⟩
    have S2 : SR X.K H0 G0 G' H' (σ'.set i (some (.ref a))) (env'.set i (.exc a dd y fs)) := S'.put i _ _ ⟨fv, rfl, e, r⟩ (fun z => by cases z)
    have L2 := L.mono s'
    exact (hsu a oe _ _ pn h1 h2).of.choose_spec.2 H0 G0 G' H' _ _ _ { nx := fun e => E.nx (e.set i .no), rt := E.rt, bk := fun e => E.bk (e.set i .no), ct := fun e => E.ct (e.set i .no) } S2 ⟨fun σ4 H4 G4 env4 s4 S4 q4 => L2.nx _ _ _ _ s4 S4.unset q4, fun σ4 H4 G4 env4 s4 S4 q4 => L2.bk _ _ _ _ s4 S4.unset q4, fun σ4 H4 G4 env4 s4 S4 q4 => L2.ct _ _ _ _ s4 S4.unset q4, L2.rt, fun _ _ _ _ _ _ _ _ _ _ _ _ z => z.elim⟩ (q' a dd)
  · exact ⟨false, hn, fun z => Bool.noConfusion z, fun _ => L.ex σ' H' G' env' dd y fv fs s' S' e r q'⟩
/-- e.f of a caught error -/
def dXf (K : PySem.W.Frag) (i : Nat) (x : Str) (f : Str) (a : Addr) (cls : Value) (d : Option Addr) : DT := fun env Q _ => ∃ dd fs y, env[i]? = some (.exc a dd x fs) ∧ cls = .ref (He.ga K x) ∧ d = some dd ∧ fs.lookup f = some y ∧ Q y
theorem lookup_rep {K : PySem.W.Frag} {G : Hp} {f : Str} {y : D} : ∀ {fs : List (Str × D)} {fv : List (Str × V)}, RepF K G fv fs → fs.lookup f = some y → ∃ v, fv.lookup f = some v ∧ Rep K G v y
  | [], _, _, h => by cases h
  | (g, z) :: fs, [], r, h => absurd r.1 (by simp)
  | (g, z) :: fs, (g', v) :: fv, r, h => by
    have e1 := r.1
    simp at e1
    obtain ⟨rfl, e1⟩ := e1
    by_cases hf : f = g'
    · have hb : (f == g') = true := beq_iff_eq.mpr hf
      simp only [List.lookup, hb] at h ⊢
      cases h
      exact ⟨v, rfl, r.2.2 0 v _ rfl rfl⟩
    · have hb : (f == g') = false := beq_eq_false_iff_ne.mpr hf
      simp only [List.lookup, hb] at h ⊢
      exact lookup_rep ⟨e1, by have := r.2.1; simp at this; simpa using this, fun i v d h1 h2 => r.2.2 (i + 1) v d (by simpa using h1) (by simpa using h2)⟩ h
theorem pd_xf {i : Nat} {x f : Str} {a : Addr} {cls : Value} {d : Option Addr} (K : PySem.W.Frag) (hK : X.K = K) (mk : PE X e (tXf a cls d (He.ga K x) f (tVar i))) : PD X W e (dXf K i x f a cls d) := by
  subst hK
  refine ⟨_, mk, fun H0 G0 G H σ env Q ex R S L ⟨dd, fs, y, e1, e2, e3, hl, q⟩ g => ?_⟩
  obtain ⟨fv, e4, hd, rf⟩ := S.slot i _ e1
  obtain ⟨v, hv, rv⟩ := lookup_rep rf hl
  exact ⟨_, e4, rfl, e2, dd, fv, v, e3, hd, hv, g v H G y (.refl S.sub) rv q⟩
/-- isinstance(e, C) of a caught error -/
def dXi (K : PySem.W.Frag) (i : Nat) (x : Str) (cv : Value) (a : Addr) (cls : Value) (d : Option Addr) : DT := fun env Q _ => ∃ dd fs b, env[i]? = some (.exc a dd x fs) ∧ cls = .ref (He.ga K x) ∧ d = some dd ∧ PySem.W.kitOne K (.ref (He.ga K x)) cv = some b ∧ Q (.bl b)
theorem pd_xi {i : Nat} {x : Str} {a : Addr} {cls cv : Value} {d : Option Addr} {c : V} (K : PySem.W.Frag) (hK : X.K = K) (hc : ClsV c cv) (mk : PE X e (tCB (rIsD K (He.ga K x) a cls d) (tCons (tVar i) (tCons (tC c) tNil)))) : PD X W e (dXi K i x cv a cls d) := by
  subst hK
  refine ⟨_, mk, fun H0 G0 G H σ env Q ex R S L ⟨dd, fs, b, e1, e2, e3, hk, q⟩ g => ?_⟩
  obtain ⟨fv, e4, hd, rf⟩ := S.slot i _ e1
  exact ⟨_, e4, c, cv, b, dd, fv, rfl, e2, e3, hd, hc, hk, g _ H G _ (.refl S.sub) (.bl b) q⟩
end
end DL

namespace DL
open PySem PySem.Spec PyProof.Rows L2 LR
section
variable {K : PySem.W.Frag} {X : Cx} {W : WX}
/-! ## ints -/
def dI (C : Int → Int → Prop) (f : Int → Int → Int) : R2D := fun a b Q => ∃ i j, a = .int i ∧ b = .int j ∧ C i j ∧ Q (.int (f i j))
def dI0 (f : Int → Int → Int) : R2D := fun a b Q => ∃ i j, a = .int i ∧ b = .int j ∧ Q (.int (f i j))
def dB0 (f : Int → Int → Bool) : R2D := fun a b Q => ∃ i j, a = .int i ∧ b = .int j ∧ Q (.bl (f i j))
theorem l_I {C : Int → Int → Prop} {f : Int → Int → Int} : L2R K (rI C fun i j => .int (f i j)) (dI C f) := fun G H x y a b Q R s r1 r2 ⟨i, j, e1, e2, c, q⟩ g => by
  subst e1 e2
  exact ⟨i, j, r1.int_inv, r2.int_inv, c, g _ H G _ (.refl s) (.int _) q⟩
theorem l_I0 {f : Int → Int → Int} : L2R K (rI0 fun i j => .int (f i j)) (dI0 f) := fun G H x y a b Q R s r1 r2 ⟨i, j, e1, e2, q⟩ g => by
  subst e1 e2
  exact ⟨i, j, r1.int_inv, r2.int_inv, g _ H G _ (.refl s) (.int _) q⟩
theorem l_B0 {f : Int → Int → Bool} : L2R K (rI0 fun i j => .bl (f i j)) (dB0 f) := fun G H x y a b Q R s r1 r2 ⟨i, j, e1, e2, q⟩ g => by
  subst e1 e2
  exact ⟨i, j, r1.int_inv, r2.int_inv, g _ H G _ (.refl s) (.bl _) q⟩
def dU (f : Int → Int) : D → (D → Prop) → Prop := fun a Q => ∃ i, a = .int i ∧ Q (.int (f i))
theorem l_U {f : Int → Int} : L1R K (rU fun i => .int (f i)) (dU f) := fun G H x a Q R s r ⟨i, e, q⟩ g => by
  subst e
  exact ⟨i, r.int_inv, g _ H G _ (.refl s) (.int _) q⟩
/-- == of scalars -/
def eqS : D → D → Option Bool
  | .non, .non => some true | .non, .int _ => some false | .int _, .non => some false | .non, .bl _ => some false | .bl _, .non => some false | .non, .str _ => some false | .str _, .non => some false
  | .int i, .int j => some (decide (i = j)) | .bl a, .bl b => some (a == b) | .str s, .str t => some (decide (s = t)) | .int _, .str _ => some false | .str _, .int _ => some false | .bl _, .str _ => some false | .str _, .bl _ => some false
  | _, _ => none
def dEq : R2D := fun a b Q => ∃ k, eqS a b = some k ∧ Q (.bl k)
def dNe : R2D := fun a b Q => ∃ k, eqS a b = some k ∧ Q (.bl (!k))
theorem eqS_ok {G : Hp} {x y : V} {a b : D} {k : Bool} (r1 : Rep K G x a) (r2 : Rep K G y b) (h : eqS a b = some k) : scal x y = true ∧ decide (x = y) = k := by
  cases a <;> cases b <;> first
    | (cases h; done)
    | (cases r1; cases r2; cases h; refine ⟨rfl, ?_⟩; first | (simp; done) | (rw [Bool.eq_iff_iff]; simp))
theorem l_eq : L2R K rEq dEq := fun G H x y a b Q R s r1 r2 ⟨k, e, q⟩ g => by
  obtain ⟨h1, h2⟩ := eqS_ok r1 r2 e
  exact ⟨h1, by rw [h2]; exact g _ H G _ (.refl s) (.bl _) q⟩
theorem l_ne : L2R K rNe dNe := fun G H x y a b Q R s r1 r2 ⟨k, e, q⟩ g => by
  obtain ⟨h1, h2⟩ := eqS_ok r1 r2 e
  exact ⟨h1, by rw [h2]; exact g _ H G _ (.refl s) (.bl _) q⟩
def isN : D → Bool
  | .non => true | _ => false
theorem isN_ok {G : Hp} {x : V} {a : D} (r : Rep K G x a) : decide (x = .non) = isN a := by
  cases r <;> simp [isN]
def dIsN : R2D := fun a b Q => b = .non ∧ Q (.bl (isN a))
def dNotN : R2D := fun a b Q => b = .non ∧ Q (.bl (!isN a))
theorem l_isN : L2R K (fun x y H Q => y = .non ∧ Q (.bl (decide (x = .non))) H) dIsN := fun G H x y a b Q R s r1 r2 ⟨e, q⟩ g => by
  subst e
  exact ⟨r2.non_inv, by rw [isN_ok r1]; exact g _ H G _ (.refl s) (.bl _) q⟩
theorem l_notN : L2R K (fun x y H Q => y = .non ∧ Q (.bl (!decide (x = .non))) H) dNotN := fun G H x y a b Q R s r1 r2 ⟨e, q⟩ g => by
  subst e
  exact ⟨r2.non_inv, by rw [isN_ok r1]; exact g _ H G _ (.refl s) (.bl _) q⟩
/-! ## texts, lists -/
def dAddS : R2D := fun a b Q => ∃ i j, a = .str i ∧ b = .str j ∧ i.length + j.length ≤ sizeLine ∧ Q (.str (i ++ j))
theorem l_addS : L2R K (fun x y H Q => ∃ i j, x = .str i ∧ y = .str j ∧ i.length + j.length ≤ sizeLine ∧ Q (.str (i ++ j)) H) dAddS := fun G H x y a b Q R s r1 r2 ⟨i, j, e1, e2, h, q⟩ g => by
  subst e1 e2
  exact ⟨i, j, r1.str_inv, r2.str_inv, h, g _ H G _ (.refl s) (.str _) q⟩
def occ (j i : Str) : Bool := !(Builtin.Str.occurrences j i 0 j.length 1).isEmpty
def dInS : R2D := fun a b Q => ∃ i j, a = .str i ∧ b = .str j ∧ Q (.bl (occ j i))
def dNotInS : R2D := fun a b Q => ∃ i j, a = .str i ∧ b = .str j ∧ Q (.bl (!occ j i))
theorem l_inS : L2R K (fun x y H Q => ∃ i j, x = .str i ∧ y = .str j ∧ Q (.bl (!(Builtin.Str.occurrences j i 0 j.length 1).isEmpty)) H) dInS := fun G H x y a b Q R s r1 r2 ⟨i, j, e1, e2, q⟩ g => by
  subst e1 e2
  exact ⟨i, j, r1.str_inv, r2.str_inv, g _ H G _ (.refl s) (.bl _) q⟩
theorem l_notInS : L2R K (fun x y H Q => ∃ i j, x = .str i ∧ y = .str j ∧ Q (.bl (!!(Builtin.Str.occurrences j i 0 j.length 1).isEmpty)) H) dNotInS := fun G H x y a b Q R s r1 r2 ⟨i, j, e1, e2, q⟩ g => by
  subst e1 e2
  exact ⟨i, j, r1.str_inv, r2.str_inv, g _ H G _ (.refl s) (.bl _) q⟩
def dIxL : R2D := fun a b Q => ∃ l k x, a = .lst l ∧ b = .int k ∧ atI l k = some x ∧ Q x
def dIxT : R2D := fun a b Q => ∃ l k x, a = .tup l ∧ b = .int k ∧ atI l k = some x ∧ Q x
def dIxS : R2D := fun a b Q => ∃ s k c, a = .str s ∧ b = .int k ∧ s.length ≤ sizeLine ∧ atI s.cps.toList k = some c ∧ Q (.str ⟨#[c]⟩)
theorem l_ixL : L2R K (rIxL K) dIxL := fun G H x y a b Q R s r1 r2 ⟨l, k, z, e1, e2, h, q⟩ g => by
  subst e1 e2
  obtain ⟨p, vs, rfl, h1, h2⟩ := r1.lst_inv
  obtain ⟨w, hw, rw⟩ := h2.ix h
  exact ⟨p, vs, k, w, rfl, r2.int_inv, s.seq h1, hw, g _ H G _ (.refl s) rw q⟩
theorem l_ixT : L2R K (rIxT K) dIxT := fun G H x y a b Q R s r1 r2 ⟨l, k, z, e1, e2, h, q⟩ g => by
  subst e1 e2
  obtain ⟨p, vs, rfl, h1, h2⟩ := r1.tup_inv
  obtain ⟨w, hw, rw⟩ := h2.ix h
  exact ⟨p, vs, k, w, rfl, r2.int_inv, sqT_same s h1, hw, g _ H G _ (.refl s) rw q⟩
theorem l_ixS : L2R K rIxS dIxS := fun G H x y a b Q R s r1 r2 ⟨l, k, z, e1, e2, h0, h, q⟩ g => by
  subst e1 e2
  exact ⟨l, k, z, r1.str_inv, r2.int_inv, h0, h, g _ H G _ (.refl s) (.str _) q⟩
/-! ### slices -/
abbrev DTO := DE → (Option Int → Prop) → EX → Prop
structure PDO (X : Cx) (W : WX) (e : Option Expr) (t : DTO) : Prop where
  of : ∃ to, PO X e to ∧ ∀ (H0 G0 G H : Hp) (σ : L2.St) (env : DE) (Q : Option Int → Prop) (ex : EX) (R : Option Int → Hp → Prop), SR X.K H0 G0 G H σ env → LkE X.K H0 G0 G W σ env ex → t env Q ex → (∀ o H' G', Ext G H G' H' → Q o → R o H') → to σ H R
def dNoPart : DTO := fun _ Q _ => Q none
def dPart (t : DT) : DTO := fun env Q ex => t env (fun d => ∃ i, d = .int i ∧ Q (some i)) ex
theorem pdo_none : PDO X W none dNoPart := ⟨_, po_none, fun H0 G0 G H σ env Q ex R S L q g => g _ H G (.refl S.sub) q⟩
theorem pdo_some {e : Expr} {t : DT} (h : PD X W e t) : PDO X W (some e) (dPart t) := by
  obtain ⟨_, p, l⟩ := h.of
  exact ⟨_, po_some p, fun H0 G0 G H σ env Q ex R S L q g => l H0 G0 G H σ env _ ex _ S L q fun v H1 G1 d x1 r1 ⟨i, e1, q1⟩ => ⟨i, by subst e1; exact r1.int_inv, g _ H1 G1 x1 q1⟩⟩
def dSl (r : D → Option Int → Option Int → (D → Prop) → Prop) (te : DT) (tl th : DTO) : DT := fun env Q ex => te env (fun x => tl env (fun l => th env (fun u => r x l u Q) ex) ex) ex
def dSlN (r : D → Option Int → Option Int → (List D → Prop) → Prop) (te : DT) (tl th : DTO) : DTN := fun env Q ex => te env (fun x => tl env (fun l => th env (fun u => r x l u Q) ex) ex) ex
def cutD (xs : List D) (lo hi : Option Int) : List D := (xs.drop (HT.sIx xs.length 0 lo)).take (HT.sIx xs.length xs.length hi - HT.sIx xs.length 0 lo)
theorem Reps.cutV {G : Hp} {vs : List V} {l : List D} (r : Reps K G vs l) (lo hi : Option Int) : Reps K G (L2.cutV vs lo hi) (cutD l lo hi) := by
  unfold L2.cutV cutD
  rw [r.1]
  exact r.cut _ _
def dCutL : D → Option Int → Option Int → (List D → Prop) → Prop := fun a lo hi Q => ∃ l, a = .lst l ∧ Q (cutD l lo hi)
theorem pdn_slL {e : Expr} {lo hi : Option Expr} {te : DT} {tl th : DTO} {pos p2 : Pos} (h : PD X W e te) (hl : PDO X W lo tl) (hh : PDO X W hi th) : PDN X W (.Subscript e (.Slice lo hi none p2) pos) (dSlN dCutL te tl th) := by
  obtain ⟨_, p, l⟩ := h.of
  obtain ⟨_, pl, ll⟩ := hl.of
  obtain ⟨_, ph, lh⟩ := hh.of
  refine ⟨_, pe_slice sl_list p pl ph, fun H0 G0 G H σ env Q ex R S L q g => l H0 G0 G H σ env _ ex _ S L q fun v H1 G1 d x1 r1 q1 => ?_⟩
  refine ll H0 G0 G1 H1 σ env _ ex _ (S.ex x1) (L.mono x1.gg) q1 fun o H2 G2 x2 q2 => ?_
  have x12 := x1.trans x2
  refine lh H0 G0 G2 H2 σ env _ ex _ (S.ex x12) (L.mono x12.gg) q2 fun u H3 G3 x3 q3 => ?_
  obtain ⟨m, e1, q4⟩ := q3
  subst e1
  obtain ⟨pp, vs, rfl, h1, h2⟩ := (r1.same (x2.gg.trans x3.gg)).lst_inv
  exact ⟨pp, vs, rfl, x3.sub.seq h1, fun p' n => g p' _ _ H3 G3 _ (x12.trans x3) n rfl (h2.cutV o u) q4⟩
def dCutS : D → Option Int → Option Int → (D → Prop) → Prop := fun a lo hi Q => ∃ s, a = .str s ∧ s.length ≤ sizeLine ∧ Q (.str (cutS s lo hi))
theorem pd_slS {e : Expr} {lo hi : Option Expr} {te : DT} {tl th : DTO} {pos p2 : Pos} (h : PD X W e te) (hl : PDO X W lo tl) (hh : PDO X W hi th) : PD X W (.Subscript e (.Slice lo hi none p2) pos) (dSl dCutS te tl th) := by
  obtain ⟨_, p, l⟩ := h.of
  obtain ⟨_, pl, ll⟩ := hl.of
  obtain ⟨_, ph, lh⟩ := hh.of
  refine ⟨_, pe_slice sl_str p pl ph, fun H0 G0 G H σ env Q ex R S L q g => l H0 G0 G H σ env _ ex _ S L q fun v H1 G1 d x1 r1 q1 => ?_⟩
  refine ll H0 G0 G1 H1 σ env _ ex _ (S.ex x1) (L.mono x1.gg) q1 fun o H2 G2 x2 q2 => ?_
  have x12 := x1.trans x2
  refine lh H0 G0 G2 H2 σ env _ ex _ (S.ex x12) (L.mono x12.gg) q2 fun u H3 G3 x3 q3 => ?_
  obtain ⟨m, e1, hz, q4⟩ := q3
  subst e1
  exact ⟨m, r1.str_inv, hz, g _ H3 G3 _ (x12.trans x3) (.str _) q4⟩
/-! ### lists made of lists -/
theorem l_list : LcN K (fun xs H Q => ∃ p ys, xs = [.ref p] ∧ (SqL K H p ys ∨ SqT K H p ys) ∧ ∀ l, H l = none → Q (.ref l) (upd H l (.lst ys))) (fun ds Q => ∃ l, (ds = [.lst l] ∨ ds = [.tup l]) ∧ Q l) := fun G H vs ds Q R s r ⟨l, e, q⟩ g => by
  rcases e with e | e
  · subst e
    obtain ⟨v, rfl, r1⟩ := reps1 r
    obtain ⟨p, ws, rfl, h1, h2⟩ := r1.lst_inv
    exact ⟨p, ws, rfl, .inl (s.seq h1), fun p' n => g p' _ _ H G _ (.refl s) n rfl h2 q⟩
  · subst e
    obtain ⟨v, rfl, r1⟩ := reps1 r
    obtain ⟨p, ws, rfl, h1, h2⟩ := r1.tup_inv
    exact ⟨p, ws, rfl, .inr (sqT_same s h1), fun p' n => g p' _ _ H G _ (.refl s) n rfl h2 q⟩
theorem l_tuple : LcR K (fun xs H Q => ∃ p ys, xs = [.ref p] ∧ ((SqL K H p ys ∧ ∀ l, H l = none → Q (.ref l) (upd H l (.tup ys))) ∨ (SqT K H p ys ∧ Q (.ref p) H))) (fun ds Q => ∃ l, (ds = [.lst l] ∨ ds = [.tup l]) ∧ Q (.tup l)) := fun G H vs ds Q R s r ⟨l, e, q⟩ g => by
  rcases e with e | e
  · subst e
    obtain ⟨v, rfl, r1⟩ := reps1 r
    obtain ⟨p, ws, rfl, h1, h2⟩ := r1.lst_inv
    refine ⟨p, ws, rfl, .inl ⟨s.seq h1, fun p' n => ?_⟩⟩
    have x2 : Ext G H (upd G p' (.tup ws)) (upd H p' (.tup ws)) := Ext.nw s n
    have r2 := h2.same x2.gg
    exact g _ _ _ _ x2 (.tup (SqT.of upd_same) r2.1 r2.2) q
  · subst e
    obtain ⟨v, rfl, r1⟩ := reps1 r
    obtain ⟨p, ws, rfl, h1, h2⟩ := id r1.tup_inv
    exact ⟨p, ws, rfl, .inr ⟨sqT_same s h1, g _ _ _ _ (.refl s) r1 q⟩⟩
/-- a list that stands in H by itself (not the script's) is what + and * want: both sides new lists -/
def dCat (ta tb : DTN) : DTN := fun env Q ex => ta env (fun l => tb env (fun m => l.length + m.length ≤ sizeLine ∧ Q (l ++ m)) ex) ex
theorem pdn_cat {a b : Expr} {ta tb : DTN} {pos : Pos} (ha : PDN X W a ta) (hb : PDN X W b tb) : PDN X W (.BinOp a .Add b pos) (dCat ta tb) := by
  obtain ⟨_, pa, la⟩ := ha.of
  obtain ⟨_, pb, lb⟩ := hb.of
  refine ⟨_, pe_op op_cat pa pb, fun H0 G0 G H σ env Q ex R S L q g => la H0 G0 G H σ env _ ex _ S L q fun p vs H' H1 G1 l x1 n e r1 q1 => ?_⟩
  subst e
  have x1' : Ext G H G1 (upd H1 p (.lst vs)) := x1.trans (Ext.hid x1.sub n)
  refine lb H0 G0 G1 _ σ env _ ex _ (S.ex x1') (L.mono x1'.gg) q1 fun p2 us H'' H2 G2 m x2 n2 e2 r2 ⟨hz, q2⟩ => ?_
  subst e2
  have hp : H2 p = some (.lst vs) := x2.hh _ _ upd_same
  refine ⟨p, p2, vs, us, rfl, rfl, (upd_ne (ne_of_none hp n2)).trans hp, upd_same, by rw [r1.1, r2.1]; exact hz, fun p3 n3 => ?_⟩
  exact g p3 _ _ _ G2 _ ((x1'.trans x2).trans (Ext.hid x2.sub n2)) n3 rfl ((r1.same x2.gg).app r2) q2
/-- a list at a name on the left -/
def dCatV (ta : DT) (tb : DTN) : DTN := fun env Q ex => ta env (fun d => ∃ l, d = .lst l ∧ tb env (fun m => l.length + m.length ≤ sizeLine ∧ Q (l ++ m)) ex) ex
def dRep (ta : DTN) (tb : DT) : DTN := fun env Q ex => ta env (fun l => tb env (fun d => ∃ k, d = .int k ∧ -(2 ^ 63) ≤ k ∧ k < 2 ^ 63 ∧ l.length * k.toNat ≤ sizeLine ∧ Q (List.replicate k.toNat l).flatten) ex) ex
theorem reps_flat {G : Hp} {vs : List V} {l : List D} (r : Reps K G vs l) : ∀ k : Nat, Reps K G (List.replicate k vs).flatten (List.replicate k l).flatten
  | 0 => by simpa using Reps.nil
  | k + 1 => by
    rw [List.replicate_succ, List.replicate_succ, List.flatten_cons, List.flatten_cons]
    exact r.app (reps_flat r k)
/-! ## calls -/
theorem l_len : LcR K (fun xs H Q => ∃ x n, xs = [x] ∧ LenV K x H n ∧ Q (.int n) H) (fun ds Q => (∃ l, ds = [.lst l] ∧ Q (.int l.length)) ∨ (∃ l, ds = [.tup l] ∧ Q (.int l.length)) ∨ ∃ s : Str, ds = [.str s] ∧ s.length ≤ sizeLine ∧ Q (.int s.length)) := fun G H vs ds Q R s r q g => by
  rcases q with ⟨l, e, q⟩ | ⟨l, e, q⟩ | ⟨z, e, hz, q⟩
  · subst e
    obtain ⟨v, rfl, r1⟩ := reps1 r
    obtain ⟨p, ws, rfl, h1, h2⟩ := r1.lst_inv
    exact ⟨_, _, rfl, .inl ⟨ws, s.seq h1, h2.1.symm⟩, g _ _ _ _ (.refl s) (.int _) q⟩
  · subst e
    obtain ⟨v, rfl, r1⟩ := reps1 r
    obtain ⟨p, ws, rfl, h1, h2⟩ := r1.tup_inv
    exact ⟨_, _, rfl, .inr ⟨ws, sqT_same s h1, h2.1.symm⟩, g _ _ _ _ (.refl s) (.int _) q⟩
  · subst e
    obtain ⟨v, rfl, r1⟩ := reps1 r
    rw [r1.str_inv]
    exact ⟨_, _, rfl, ⟨hz, rfl⟩, g _ _ _ _ (.refl s) (.int _) q⟩
theorem l_abs : LcR K (fun xs H Q => ∃ i, xs = [.int i] ∧ Q (.int (if i < 0 then -i else i)) H) (fun ds Q => ∃ i : Int, ds = [.int i] ∧ Q (.int (i.natAbs : Int))) := fun G H vs ds Q R s r ⟨i, e, q⟩ g => by
  subst e
  obtain ⟨v, rfl, r1⟩ := reps1 r
  refine ⟨i, by rw [r1.int_inv], ?_⟩
  rw [show (if i < 0 then -i else i) = (i.natAbs : Int) by split <;> omega]
  exact g _ _ _ _ (.refl s) (.int _) q
theorem l_int : LcR K (fun xs H Q => (∃ i, xs = [.int i] ∧ Q (.int i) H) ∨ ∃ k, xs = [.bl k] ∧ Q (.int (if k then 1 else 0)) H) (fun ds Q => (∃ i, ds = [.int i] ∧ Q (.int i)) ∨ ∃ k, ds = [.bl k] ∧ Q (.int (if k then 1 else 0))) := fun G H vs ds Q R s r q g => by
  rcases q with ⟨i, e, q⟩ | ⟨i, e, q⟩
  · subst e
    obtain ⟨v, rfl, r1⟩ := reps1 r
    exact .inl ⟨i, by rw [r1.int_inv], g _ _ _ _ (.refl s) (.int _) q⟩
  · subst e
    obtain ⟨v, rfl, r1⟩ := reps1 r
    exact .inr ⟨i, by rw [r1.bl_inv], g _ _ _ _ (.refl s) (.int _) q⟩
theorem l_strI : LcR K (fun xs H Q => ∃ i, xs = [.int i] ∧ i.natAbs.log2 < 1920 ∧ Q (.str (toString i)) H) (fun ds Q => ∃ i, ds = [.int i] ∧ i.natAbs.log2 < 1920 ∧ Q (.str (toString i))) := fun G H vs ds Q R s r ⟨i, e, h, q⟩ g => by
  subst e
  obtain ⟨v, rfl, r1⟩ := reps1 r
  exact ⟨i, by rw [r1.int_inv], h, g _ _ _ _ (.refl s) (.str _) q⟩
theorem l_intS : LcR K (fun xs H Q => ∃ a n, xs = [.str a] ∧ PySem.intText? a = some n ∧ a.length ≤ 640 ∧ Q (.int n) H) (fun ds Q => ∃ a n, ds = [.str a] ∧ PySem.intText? a = some n ∧ a.length ≤ 640 ∧ Q (.int n)) := fun G H vs ds Q R s r ⟨a, n, e, h, h2, q⟩ g => by
  subst e
  obtain ⟨v, rfl, r1⟩ := reps1 r
  exact ⟨a, n, by rw [r1.str_inv], h, h2, g _ _ _ _ (.refl s) (.int _) q⟩
theorem l_gcd : LcR K rGcd (fun ds Q => ∃ a b : Int, ds = [.int a, .int b] ∧ Q (.int ((Nat.gcd a.natAbs b.natAbs : Nat) : Int))) := fun G H vs ds Q R s r ⟨a, b, e, q⟩ g => by
  subst e
  obtain ⟨v, w, rfl, r1, r2⟩ := reps2 r
  exact ⟨a, b, by rw [r1.int_inv, r2.int_inv], g _ _ _ _ (.refl s) (.int _) q⟩
theorem l_sum : LcR K (rSum K) (fun ds Q => ∃ ns : List Int, (ds = [.lst (ns.map D.int)]) ∧ Q (.int ns.sum)) := fun G H vs ds Q R s r ⟨ns, e, q⟩ g => by
  subst e
  obtain ⟨v, rfl, r1⟩ := reps1 r
  obtain ⟨p, ws, rfl, h1, h2⟩ := r1.lst_inv
  rw [h2.ints] at h1
  exact ⟨p, ns, rfl, s.seq h1, g _ _ _ _ (.refl s) (.int _) q⟩
theorem l_max2 : LcR K (fun xs H Q => ∃ i j, xs = [.int i, .int j] ∧ Q (.int (if j > i then j else i)) H) (fun ds Q => ∃ i j : Int, ds = [.int i, .int j] ∧ Q (.int (max i j))) := fun G H vs ds Q R s r ⟨i, j, e, q⟩ g => by
  subst e
  obtain ⟨v, w, rfl, r1, r2⟩ := reps2 r
  refine ⟨i, j, by rw [r1.int_inv, r2.int_inv], ?_⟩
  rw [show (if j > i then j else i) = max i j by rw [Int.max_def]; split <;> split <;> omega]
  exact g _ _ _ _ (.refl s) (.int _) q
theorem l_min2 : LcR K (fun xs H Q => ∃ i j, xs = [.int i, .int j] ∧ Q (.int (if j < i then j else i)) H) (fun ds Q => ∃ i j : Int, ds = [.int i, .int j] ∧ Q (.int (min i j))) := fun G H vs ds Q R s r ⟨i, j, e, q⟩ g => by
  subst e
  obtain ⟨v, w, rfl, r1, r2⟩ := reps2 r
  refine ⟨i, j, by rw [r1.int_inv, r2.int_inv], ?_⟩
  rw [show (if j < i then j else i) = min i j by rw [Int.min_def]; split <;> split <;> omega]
  exact g _ _ _ _ (.refl s) (.int _) q
/-! ## methods of texts -/
theorem l_m1S {f : Str → Str → Str} {C : Str → Str → Prop} : LmR K (fun x xs H Q => ∃ a b, x = .str a ∧ xs = [.str b] ∧ C a b ∧ Q (.str (f a b)) H) (fun a ds Q => ∃ s z, a = .str s ∧ ds = [.str z] ∧ C s z ∧ Q (.str (f s z))) := fun G H x vs a ds Q R s r rs ⟨z, y, e1, e2, c, q⟩ g => by
  subst e1 e2
  obtain ⟨v, rfl, r1⟩ := reps1 rs
  exact ⟨z, y, r.str_inv, by rw [r1.str_inv], c, g _ _ _ _ (.refl s) (.str _) q⟩
theorem l_m0B {f : Str → Bool} : LmR K (fun x xs H Q => ∃ a, x = .str a ∧ xs = [] ∧ True ∧ Q (.bl (f a)) H) (fun a ds Q => ∃ s, a = .str s ∧ ds = [] ∧ Q (.bl (f s))) := fun G H x vs a ds Q R s r rs ⟨z, e1, e2, q⟩ g => by
  subst e1 e2
  have : vs = [] := List.length_eq_zero_iff.mp rs.1
  exact ⟨z, r.str_inv, this, trivial, g _ _ _ _ (.refl s) (.bl _) q⟩
theorem l_m1B {f : Str → Str → Bool} : LmR K (fun x xs H Q => ∃ a b, x = .str a ∧ xs = [.str b] ∧ Q (.bl (f a b)) H) (fun a ds Q => ∃ s z, a = .str s ∧ ds = [.str z] ∧ Q (.bl (f s z))) := fun G H x vs a ds Q R s r rs ⟨z, y, e1, e2, q⟩ g => by
  subst e1 e2
  obtain ⟨v, rfl, r1⟩ := reps1 rs
  exact ⟨z, y, r.str_inv, by rw [r1.str_inv], g _ _ _ _ (.refl s) (.bl _) q⟩
theorem l_part : LmR K (fun x xs H Q => ∃ a b, x = .str a ∧ xs = [.str b] ∧ (b.length == 0) = false ∧ a.length ≤ sizeLine ∧ ∀ p, H p = none → Q (.ref p) (upd H p (.tup [.str (Txt.partition a b).1, .str (Txt.partition a b).2.1, .str (Txt.partition a b).2.2])))
    (fun a ds Q => ∃ s z, a = .str s ∧ ds = [.str z] ∧ (z.length == 0) = false ∧ s.length ≤ sizeLine ∧ Q (.tup [.str (Txt.partition s z).1, .str (Txt.partition s z).2.1, .str (Txt.partition s z).2.2])) := fun G H x vs a ds Q R s r rs ⟨z, y, e1, e2, h1, h2, q⟩ g => by
  subst e1 e2
  obtain ⟨v, rfl, r1⟩ := reps1 rs
  refine ⟨z, y, r.str_inv, by rw [r1.str_inv], h1, h2, fun p n => ?_⟩
  have x2 : Ext G H (upd G p (.tup [.str (Txt.partition z y).1, .str (Txt.partition z y).2.1, .str (Txt.partition z y).2.2])) (upd H p (.tup [.str (Txt.partition z y).1, .str (Txt.partition z y).2.1, .str (Txt.partition z y).2.2])) := Ext.nw s n
  have rr : Reps K (upd G p (.tup [.str (Txt.partition z y).1, .str (Txt.partition z y).2.1, .str (Txt.partition z y).2.2])) [.str (Txt.partition z y).1, .str (Txt.partition z y).2.1, .str (Txt.partition z y).2.2] [.str (Txt.partition z y).1, .str (Txt.partition z y).2.1, .str (Txt.partition z y).2.2] :=
    ((Reps.one (.str _)).cons (.str _)).cons (.str _)
  exact g _ _ _ _ x2 (.tup (SqT.of upd_same) rr.1 rr.2) q
theorem reps_strs {G : Hp} (ys : List Str) : Reps K G (ys.map V.str) (ys.map D.str) := by
  refine ⟨by simp, fun i v d h1 h2 => ?_⟩
  rw [List.getElem?_map] at h1 h2
  cases e : ys[i]? with
  | none =>
    rw [e] at h1
    cases h1
  | some n =>
    rw [e] at h1 h2
    cases h1
    cases h2
    exact .str n
theorem Reps.strs {G : Hp} {vs : List V} {ys : List Str} (r : Reps K G vs (ys.map D.str)) : vs = ys.map V.str := by
  refine List.ext_getElem? fun i => ?_
  cases h : vs[i]? with
  | none =>
    have : vs.length ≤ i := List.getElem?_eq_none_iff.mp h
    rw [r.1, List.length_map] at this
    exact (List.getElem?_eq_none_iff.mpr (by rw [List.length_map]; exact this)).symm
  | some v =>
    obtain ⟨d, hd, q⟩ := r.at' h
    rw [List.getElem?_map] at hd
    cases e : ys[i]? with
    | none =>
      rw [e] at hd
      cases hd
    | some n =>
      rw [e] at hd
      cases hd
      cases q
      rw [List.getElem?_map, e]
      rfl
theorem l_split : LmN K (fun x xs H Q => ∃ a b, x = .str a ∧ xs = [.str b] ∧ (b.length == 0) = false ∧ a.length + 2 ≤ sizeLine ∧ rNewStrs (Txt.split a b) H Q) (fun a ds Q => ∃ s z, a = .str s ∧ ds = [.str z] ∧ (z.length == 0) = false ∧ s.length + 2 ≤ sizeLine ∧ Q ((Txt.split s z).map D.str)) :=
  fun G H x vs a ds Q R s r rs ⟨z, y, e1, e2, h1, h2, q⟩ g => by
  subst e1 e2
  obtain ⟨v, rfl, r1⟩ := reps1 rs
  exact ⟨z, y, r.str_inv, by rw [r1.str_inv], h1, h2, fun p n => g p _ _ H G _ (.refl s) n rfl (reps_strs _) q⟩
theorem l_join : LmR K (fun x xs H Q => ∃ a p ys, x = .str a ∧ xs = [.ref p] ∧ (SqL K H p (ys.map V.str) ∨ SqT K H p (ys.map V.str)) ∧ (ys.map (fun x => x.length)).sum + ys.length * a.length ≤ 16777216 ∧ Q (.str (Txt.join a ys)) H)
    (fun a ds Q => ∃ (s : Str) (ys : List Str), a = .str s ∧ ds = [.lst (ys.map D.str)] ∧ (ys.map (fun x => x.length)).sum + ys.length * s.length ≤ 16777216 ∧ Q (.str (Txt.join s ys))) := fun G H x vs a ds Q R s r rs ⟨z, ys, e1, e2, h, q⟩ g => by
  subst e1 e2
  obtain ⟨v, rfl, r1⟩ := reps1 rs
  obtain ⟨p, ws, rfl, h1, h2⟩ := r1.lst_inv
  rw [h2.strs] at h1
  exact ⟨z, p, ys, r.str_inv, rfl, .inl (s.seq h1), h, g _ _ _ _ (.refl s) (.str _) q⟩
/-! ## f-strings -/
inductive PDJ (X : Cx) (W : WX) : List Expr → List DT → Prop where
  | nil : PDJ X W [] []
  | cons {e : Expr} {t : DT} {es : List Expr} {ts : List DT} (h : PD X W e t) (r : PDJ X W es ts) : PDJ X W (e :: es) (t :: ts)
def dJs : List DT → Str → DE → (Str → Prop) → EX → Prop
  | [], acc, _, Q, _ => Q acc
  | t :: ts, acc, env, Q, ex => t env (fun d => ∃ y : Str, d = .str y ∧ (acc ++ y).length ≤ sizeLine ∧ dJs ts (acc ++ y) env Q ex) ex
theorem pdj {es : List Expr} {ts : List DT} (h : PDJ X W es ts) : ∃ ss, PJ X es ss ∧ ∀ (H0 G0 G H : Hp) (σ : L2.St) (env : DE) (Q : Str → Prop) (ex : EX) (R : Str → Hp → Prop) (acc : Str), SR X.K H0 G0 G H σ env → LkE X.K H0 G0 G W σ env ex → dJs ts acc env Q ex → (∀ o H' G', Ext G H G' H' → Q o → R o H') → tJs ss acc σ H R := by
  induction h with
  | nil => exact ⟨[], .nil, fun H0 G0 G H σ env Q ex R acc S L q g => g _ H G (.refl S.sub) q⟩
  | @cons e t es ts h _ ih =>
    obtain ⟨s, p, l⟩ := h.of
    obtain ⟨ss, ps, ls⟩ := ih
    refine ⟨s :: ss, .cons p ps, fun H0 G0 G H σ env Q ex R acc S L q g => l H0 G0 G H σ env _ ex _ S L q fun v H1 G1 d x1 r1 ⟨y, e1, hz, q1⟩ => ?_⟩
    subst e1
    exact ⟨y, r1.str_inv, hz, ls H0 G0 G1 H1 σ env Q ex R _ (S.ex x1) (L.mono x1.gg) q1 fun o H2 G2 x2 q2 => g o H2 G2 (x1.trans x2) q2⟩
def dJoined (ts : List DT) : DT := fun env Q ex => dJs ts Str.empty env (fun o => Q (.str o)) ex
theorem pd_joined {v1 v2 : Expr} {rest : List Expr} {ts : List DT} {pos : Pos} (h : PDJ X W (v1 :: v2 :: rest) ts) : PD X W (.JoinedStr (v1 :: v2 :: rest) pos) (dJoined ts) := by
  obtain ⟨ss, p, l⟩ := pdj h
  exact ⟨_, pe_joined p, fun H0 G0 G H σ env Q ex R S L q g => l H0 G0 G H σ env _ ex _ Str.empty S L q fun o H' G' x q' => g _ H' G' _ x (.str o) q'⟩
def dFmt (t : DT) : DT := fun env Q ex => t env (fun d => (∃ y : Str, d = .str y ∧ y.length ≤ sizeLine ∧ Q (.str y)) ∨ ∃ i : Int, d = .int i ∧ i.natAbs.log2 < 1920 ∧ Q (.str (toString i))) ex
theorem pd_fmt {e : Expr} {t : DT} {pos : Pos} (h : PD X W e t) : PD X W (.FormattedValue e (-1) none pos) (dFmt t) := by
  obtain ⟨_, p, l⟩ := h.of
  refine ⟨_, pe_fmt p, fun H0 G0 G H σ env Q ex R S L q g => l H0 G0 G H σ env _ ex _ S L q fun v H1 G1 d x1 r1 q1 => ?_⟩
  rcases q1 with ⟨y, e1, hz, q1⟩ | ⟨i, e1, hz, q1⟩
  · subst e1
    exact .inl ⟨y, r1.str_inv, hz, g _ H1 G1 _ x1 (.str _) q1⟩
  · subst e1
    exact .inr ⟨i, r1.int_inv, hz, g _ H1 G1 _ x1 (.str _) q1⟩
/-! ## data as a whole -/
mutual
def toP : D → PyData
  | .non => .none | .bl b => .bool b | .int i => .int i | .str s => .str s | .lst l => .list (toPs l) | .tup l => .tuple (toPs l) | .ins _ _ => .none
def toPs : List D → List PyData
  | [] => []
  | d :: r => toP d :: toPs r
end
mutual
def plainD : D → Bool
  | .ins _ _ => false | .lst l => plainDs l | .tup l => plainDs l | _ => true
def plainDs : List D → Bool
  | [] => true
  | d :: r => plainD d && plainDs r
end
theorem dpAll {H : Hp} {l : List D} : ∀ {m : List D} {vs : List V}, vs.length = m.length → plainDs m = true → (∀ (i : Nat) v d, vs[i]? = some v → m[i]? = some d → plainD d = true → Dp K H v (toP d)) → DpAll K H vs (toPs m)
  | [], [], _, _, _ => .nil
  | [], _ :: _, h, _, _ => by simp at h
  | _ :: _, [], h, _, _ => by simp at h
  | d :: m, v :: vs, h, hp, k => by
    rw [plainDs, Bool.and_eq_true] at hp
    rw [toPs]
    exact .cons (k 0 v d rfl rfl hp.1) (dpAll (l := l) (by simpa using h) hp.2 fun i v d h1 h2 => k (i + 1) v d (by simpa using h1) (by simpa using h2))
theorem Rep.dp {G H : Hp} {v : V} {d : D} (r : Rep K G v d) (s : Same G H) (hp : plainD d = true) : Dp K H v (toP d) := by
  induction r with
  | non => rw [toP]; exact .non
  | bl b => rw [toP]; exact .bl b
  | int i => rw [toP]; exact .int i
  | str x => rw [toP]; exact .str x
  | lst h n q ih =>
    rw [toP]
    rw [plainD] at hp
    exact .lst (s.seq h) (dpAll (l := []) n hp fun i v d h1 h2 h3 => ih i v d h1 h2 h3)
  | tup h n q ih =>
    rw [toP]
    rw [plainD] at hp
    exact .tup (sqT_same s h) (dpAll (l := []) n hp fun i v d h1 h2 h3 => ih i v d h1 h2 h3)
  | ins h m n q ih =>
    rw [plainD] at hp
    cases hp
def okD (d : D) : Bool := plainD d && SeqAt.shaped (toP d)
def eqD (a b : D) : Bool := PyData.eqv (toP a) (toP b)
def dEqD : R2D := fun a b Q => okD a = true ∧ okD b = true ∧ Q (.bl (eqD a b))
def dNeD : R2D := fun a b Q => okD a = true ∧ okD b = true ∧ Q (.bl (!eqD a b))
theorem l_eqD : L2R K (rEqD K) dEqD := fun G H x y a b Q R s r1 r2 ⟨h1, h2, q⟩ g => by
  obtain ⟨p1, s1⟩ := Bool.and_eq_true_iff.mp h1
  obtain ⟨p2, s2⟩ := Bool.and_eq_true_iff.mp h2
  exact ⟨_, _, r1.dp s p1, r2.dp s p2, s1, s2, g _ _ _ _ (.refl s) (.bl _) q⟩
theorem l_neD : L2R K (rNeD K) dNeD := fun G H x y a b Q R s r1 r2 ⟨h1, h2, q⟩ g => by
  obtain ⟨p1, s1⟩ := Bool.and_eq_true_iff.mp h1
  obtain ⟨p2, s2⟩ := Bool.and_eq_true_iff.mp h2
  exact ⟨_, _, r1.dp s p1, r2.dp s p2, s1, s2, g _ _ _ _ (.refl s) (.bl _) q⟩
end
end DL

namespace DL
open PySem PySem.Spec PyProof.Rows L2 LR
/-! ## isinstance -/
inductive Cr where
  | int | bool | str | list | tuple | own (c : Nat)
  deriving DecidableEq
def crV (K : PySem.W.Frag) : Cr → Value
  | .int => .type "int" | .bool => .type "bool" | .str => .type "str" | .list => .type "list" | .tuple => .type "tuple" | .own c => .ref (He.ga K (cname c))
def crW (K : PySem.W.Frag) : Cr → V
  | .int => .ty "int" | .bool => .ty "bool" | .str => .ty "str" | .list => .ty "list" | .tuple => .ty "tuple" | .own c => .ref (He.ga K (cname c))
theorem crClsV (K : PySem.W.Frag) (c : Cr) : ClsV (crW K c) (crV K c) := by
  cases c <;> first | exact .ty _ | exact .own _
def isD : D → Cr → Bool
  | .int _, .int => true | .bl _, .int => true | .bl _, .bool => true | .str _, .str => true | .lst _, .list => true | .tup _, .tuple => true | .ins c _, .own c' => c == c' | _, _ => false
def tyD (K : PySem.W.Frag) : D → Value
  | .non => .type "NoneType" | .bl _ => .type "bool" | .int _ => .type "int" | .str _ => .type "str" | .lst _ => .type "list" | .tup _ => .type "tuple" | .ins c _ => .ref (He.ga K (cname c))
def base6 : List String := ["NoneType", "bool", "int", "str", "list", "tuple"]
/-- the own classes cs: what isinstance and == ask of them -/
def isiB (cs : List Nat) (K : PySem.W.Frag) : Bool := cs.all fun c => clAll K (cname c) && (base6.all (fun t => decide (PySem.W.kitOne K (.type t) (.ref (He.ga K (cname c))) = some false) && (decide (PySem.W.kitOne K (.ref (He.ga K (cname c))) (.type t) = some false) && PySem.W.notFirst K (He.ga K (cname c)) (.type t))) &&
  cs.all fun c' => decide (PySem.W.kitOne K (.ref (He.ga K (cname c))) (.ref (He.ga K (cname c'))) = some (c == c')) && PySem.W.notFirst K (He.ga K (cname c)) (.ref (He.ga K (cname c'))))
structure Isi (cs : List Nat) (K : PySem.W.Frag) : Prop where
  cl : ∀ c ∈ cs, clAll K (cname c) = true
  k1 : ∀ c ∈ cs, ∀ t ∈ base6, PySem.W.kitOne K (.type t) (.ref (He.ga K (cname c))) = some false
  k2 : ∀ c ∈ cs, ∀ t ∈ base6, PySem.W.kitOne K (.ref (He.ga K (cname c))) (.type t) = some false
  n1 : ∀ c ∈ cs, ∀ t ∈ base6, PySem.W.notFirst K (He.ga K (cname c)) (.type t) = true
  k3 : ∀ c ∈ cs, ∀ c' ∈ cs, PySem.W.kitOne K (.ref (He.ga K (cname c))) (.ref (He.ga K (cname c'))) = some (c == c')
  n2 : ∀ c ∈ cs, ∀ c' ∈ cs, PySem.W.notFirst K (He.ga K (cname c)) (.ref (He.ga K (cname c'))) = true
theorem Isi.of {cs : List Nat} {K : PySem.W.Frag} (h : isiB cs K = true) : Isi cs K := by
  unfold isiB at h
  simp only [List.all_eq_true, Bool.and_eq_true, decide_eq_true_eq] at h
  exact ⟨fun c hc => (h c hc).1, fun c hc t ht => ((h c hc).2.1 t ht).1, fun c hc t ht => ((h c hc).2.1 t ht).2.1, fun c hc t ht => ((h c hc).2.1 t ht).2.2, fun c hc c' hc' => ((h c hc).2.2 c' hc').1, fun c hc c' hc' => ((h c hc).2.2 c' hc').2⟩
/-- a datum whose type is told -/
def kind (cs : List Nat) : D → Bool
  | .ins c _ => cs.contains c | _ => true
section
variable {K : PySem.W.Frag} {cs : List Nat}
theorem rep_ty {G H : Hp} {v : V} {d : D} (I : Isi cs K) (hc : ∀ c ∈ cs, Cls K (He.ga K (cname c))) (r : Rep K G v d) (s : Same G H) (hk : kind cs d = true) : TyX K H v (tyD K d) := by
  cases r with
  | non => exact .base .non
  | bl b => exact .base (.bl b)
  | int i => exact .base (.int i)
  | str x => exact .base (.str x)
  | lst h n q =>
    rcases s.seq h with (h | ⟨o, h⟩) | ⟨o, its, n', e1, e2, _⟩
    · exact .base (.lst h)
    · exact .base (.frz h)
    · exact .kList e1 e2
  | tup h n q =>
    rcases sqT_same s h with (h | ⟨o, h⟩) | ⟨o, its, n', e1, e2, _⟩
    · exact .base (.tup h)
    · exact .fTuple h
    · exact .kTuple e1 e2
  | @ins a dx c vs l h m n q =>
    have hcs : c ∈ cs := by unfold kind at hk; simpa using hk
    have z := I.cl c hcs
    unfold clAll at z
    simp only [Bool.and_eq_true, decide_eq_true_eq] at z
    obtain ⟨_, _, _, q4, q5, q6, q7⟩ := z
    exact .base (.ins (s _ _ h) (hc c hcs) q4 q5 q6 q7)
theorem kit_cr (I : Isi cs K) {d : D} {cr : Cr} (hk : kind cs d = true) (hcr : ∀ c, cr = .own c → c ∈ cs) : PySem.W.kitOne K (tyD K d) (crV K cr) = some (isD d cr) := by
  cases cr with
  | own c =>
    have hc := hcr c rfl
    cases d with
    | ins c' l =>
      have hcs : c' ∈ cs := by unfold kind at hk; simpa using hk
      exact I.k3 c' hcs c hc
    | non => exact I.k1 c hc "NoneType" (by decide)
    | bl b => exact I.k1 c hc "bool" (by decide)
    | int i => exact I.k1 c hc "int" (by decide)
    | str s => exact I.k1 c hc "str" (by decide)
    | lst l => exact I.k1 c hc "list" (by decide)
    | tup l => exact I.k1 c hc "tuple" (by decide)
  | int =>
    cases d with
    | ins c' l => exact I.k2 c' (by unfold kind at hk; simpa using hk) "int" (by decide)
    | non => exact kit_ty (a := "NoneType") (b := "int") (r := false) (by decide +kernel)
    | bl b => exact kit_ty (a := "bool") (b := "int") (r := true) (by decide +kernel)
    | int i => exact kit_ty (a := "int") (b := "int") (r := true) (by decide +kernel)
    | str s => exact kit_ty (a := "str") (b := "int") (r := false) (by decide +kernel)
    | lst l => exact kit_ty (a := "list") (b := "int") (r := false) (by decide +kernel)
    | tup l => exact kit_ty (a := "tuple") (b := "int") (r := false) (by decide +kernel)
  | bool =>
    cases d with
    | ins c' l => exact I.k2 c' (by unfold kind at hk; simpa using hk) "bool" (by decide)
    | non => exact kit_ty (a := "NoneType") (b := "bool") (r := false) (by decide +kernel)
    | bl b => exact kit_ty (a := "bool") (b := "bool") (r := true) (by decide +kernel)
    | int i => exact kit_ty (a := "int") (b := "bool") (r := false) (by decide +kernel)
    | str s => exact kit_ty (a := "str") (b := "bool") (r := false) (by decide +kernel)
    | lst l => exact kit_ty (a := "list") (b := "bool") (r := false) (by decide +kernel)
    | tup l => exact kit_ty (a := "tuple") (b := "bool") (r := false) (by decide +kernel)
  | str =>
    cases d with
    | ins c' l => exact I.k2 c' (by unfold kind at hk; simpa using hk) "str" (by decide)
    | non => exact kit_ty (a := "NoneType") (b := "str") (r := false) (by decide +kernel)
    | bl b => exact kit_ty (a := "bool") (b := "str") (r := false) (by decide +kernel)
    | int i => exact kit_ty (a := "int") (b := "str") (r := false) (by decide +kernel)
    | str s => exact kit_ty (a := "str") (b := "str") (r := true) (by decide +kernel)
    | lst l => exact kit_ty (a := "list") (b := "str") (r := false) (by decide +kernel)
    | tup l => exact kit_ty (a := "tuple") (b := "str") (r := false) (by decide +kernel)
  | list =>
    cases d with
    | ins c' l => exact I.k2 c' (by unfold kind at hk; simpa using hk) "list" (by decide)
    | non => exact kit_ty (a := "NoneType") (b := "list") (r := false) (by decide +kernel)
    | bl b => exact kit_ty (a := "bool") (b := "list") (r := false) (by decide +kernel)
    | int i => exact kit_ty (a := "int") (b := "list") (r := false) (by decide +kernel)
    | str s => exact kit_ty (a := "str") (b := "list") (r := false) (by decide +kernel)
    | lst l => exact kit_ty (a := "list") (b := "list") (r := true) (by decide +kernel)
    | tup l => exact kit_ty (a := "tuple") (b := "list") (r := false) (by decide +kernel)
  | tuple =>
    cases d with
    | ins c' l => exact I.k2 c' (by unfold kind at hk; simpa using hk) "tuple" (by decide)
    | non => exact kit_ty (a := "NoneType") (b := "tuple") (r := false) (by decide +kernel)
    | bl b => exact kit_ty (a := "bool") (b := "tuple") (r := false) (by decide +kernel)
    | int i => exact kit_ty (a := "int") (b := "tuple") (r := false) (by decide +kernel)
    | str s => exact kit_ty (a := "str") (b := "tuple") (r := false) (by decide +kernel)
    | lst l => exact kit_ty (a := "list") (b := "tuple") (r := false) (by decide +kernel)
    | tup l => exact kit_ty (a := "tuple") (b := "tuple") (r := true) (by decide +kernel)
end
section
variable {X : Cx} {W : WX} {a b c e o : Expr} {es : List Expr} {ta tb : DT} {t : DTA} {pos p apos : Pos} {cs : List Nat}
def dIsi (cs : List Nat) (cr : Cr) (ta : DT) : DT := fun env Q ex => ta env (fun d => kind cs d = true ∧ Q (.bl (isD d cr))) ex
theorem pd_isi {cr : Cr} (I : Isi cs X.K) (hc : ∀ c ∈ cs, Cls X.K (He.ga X.K (cname c))) (hcr : ∀ c, cr = .own c → c ∈ cs) (mk : ∀ {sa : TE}, PE X e sa → PE X c (tCB (rIsi X.K) (tCons sa (tCons (tC (crW X.K cr)) tNil)))) (ha : PD X W e ta) : PD X W c (dIsi cs cr ta) := by
  obtain ⟨_, pa, la⟩ := ha.of
  refine ⟨_, mk pa, fun H0 G0 G H σ env Q ex R S L q g => la H0 G0 G H σ env _ ex _ S L q fun v H1 G1 d x1 r1 ⟨hk, q1⟩ => ?_⟩
  exact ⟨v, _, _, _, _, rfl, crClsV _ cr, rep_ty I hc r1 x1.sub hk, kit_cr I hk hcr, g _ H1 G1 _ x1 (.bl _) q1⟩
/-- isinstance(x, (A, B)) -/
def dIsi2 (cs : List Nat) (c1 c2 : Cr) (ta : DT) : DT := fun env Q ex => ta env (fun d => kind cs d = true ∧ Q (.bl (isD d c1 || isD d c2))) ex
theorem pd_isi2 {c1 c2 : Cr} (I : Isi cs X.K) (hc : ∀ c ∈ cs, Cls X.K (He.ga X.K (cname c))) (hcr : ∀ c, c1 = .own c → c ∈ cs) (hcr2 : ∀ c, c2 = .own c → c ∈ cs)
    (mk : ∀ {sa : TE}, PE X e sa → PE X c (tCB (rIsiT X.K) (tCons sa (tCons (tTup (tCons (tC (crW X.K c1)) (tCons (tC (crW X.K c2)) tNil))) tNil)))) (ha : PD X W e ta) : PD X W c (dIsi2 cs c1 c2 ta) := by
  obtain ⟨_, pa, la⟩ := ha.of
  refine ⟨_, mk pa, fun H0 G0 G H σ env Q ex R S L q g => la H0 G0 G H σ env _ ex _ S L q fun v H1 G1 d x1 r1 ⟨hk, q1⟩ => ⟨by show 2 ≤ sizeLine; decide, fun pp n => ?_⟩⟩
  refine ⟨v, pp, _, _, [crV X.K c1, crV X.K c2], _, rfl, upd_same, .cons (crClsV _ c1) (.cons (crClsV _ c2) .nil), rep_ty I hc r1 (same_new' x1.sub n) hk, ?_, g _ _ G1 _ (x1.trans (Ext.hid x1.sub n)) (.bl _) q1⟩
  refine kitAny_cons (kit_cr I hk hcr) (fun h1 => ?_) (fun h1 => by rw [h1]; rfl)
  refine kitAny_cons (kit_cr I hk hcr2) (fun h2 => ?_) (fun h2 => by rw [h2, Bool.or_true])
  rw [h1, h2]
  rfl
/-! ## own operators -/
variable {k n : Nat} {f : Addr} {Pm : Prm} {x m : Str}
def dBinO (c : Nat) (P : Prm) : R2D := fun a b Q => (∃ l, a = .ins c l) ∧ (∃ l, b = .ins c l) ∧ P [a, b] Q (fun _ _ => False)
theorem l_binO {K : PySem.W.Frag} {c : Nat} {E : XK} (hn : ∀ ds Q ex, Pm ds Q ex → ds.length = 2) : L2R K (rBinO (He.ga K (cname c)) (spD K 2 Pm) E) (dBinO c Pm) := fun G H x y a b Q R s r1 r2 ⟨⟨l, e1⟩, ⟨m, e2⟩, q⟩ g => by
  subst e1 e2
  obtain ⟨p, dx, ws, rfl, hp, _, _⟩ := id r1.ins_inv
  obtain ⟨p', dx', ws', rfl, hp', _, _⟩ := id r2.ins_inv
  exact ⟨p, dx, _, p', dx', _, rfl, rfl, s _ _ hp, s _ _ hp', sp_call0 s hn ((Reps.one r2).cons r1) q g⟩
def dUnO (c : Nat) (P : Prm) : D → (D → Prop) → Prop := fun a Q => (∃ l, a = .ins c l) ∧ P [a] Q (fun _ _ => False)
theorem l_unO {K : PySem.W.Frag} {c : Nat} {E : XK} (hn : ∀ ds Q ex, Pm ds Q ex → ds.length = 1) : L1R K (rUnO (He.ga K (cname c)) (spD K 1 Pm) E) (dUnO c Pm) := fun G H x a Q R s r1 ⟨⟨l, e1⟩, q⟩ g => by
  subst e1
  obtain ⟨p, dx, ws, rfl, hp, _, _⟩ := id r1.ins_inv
  exact ⟨p, dx, _, rfl, s _ _ hp, sp_call0 s hn (Reps.one r1) q g⟩
theorem l_absO {K : PySem.W.Frag} {c : Nat} {E : XK} (hn : ∀ ds Q ex, Pm ds Q ex → ds.length = 1) : LcR K (fun xs H Q => ∃ (a dx : Addr) (fs : List (Str × V)), xs = [.ref a] ∧ H a = some (.ins (He.ga K (cname c)) dx fs) ∧ spD K 1 Pm [.ref a] H Q E) (fun ds Q => ∃ l, ds = [.ins c l] ∧ Pm ds Q (fun _ _ => False)) :=
  fun G H vs ds Q R s r ⟨l, e1, q⟩ g => by
  subst e1
  obtain ⟨v, rfl, r1⟩ := reps1 r
  obtain ⟨p, dx, ws, rfl, hp, _, _⟩ := id r1.ins_inv
  exact ⟨p, dx, _, rfl, s _ _ hp, sp_call0 s hn (Reps.one r1) q g⟩
/-- == by an own __eq__ -/
def dCmpO (cs : List Nat) (c : Nat) (P : Prm) : R2D := fun a b Q => (∃ l, a = .ins c l) ∧ kind cs b = true ∧ P [a, b] Q (fun _ _ => False)
theorem nf_of {K : PySem.W.Frag} (I : Isi cs K) {c : Nat} (hc : c ∈ cs) {d : D} (hk : kind cs d = true) : PySem.W.notFirst K (He.ga K (cname c)) (tyD K d) = true := by
  cases d with
  | ins c' l => exact I.n2 c hc c' (by unfold kind at hk; simpa using hk)
  | non => exact I.n1 c hc "NoneType" (by decide)
  | bl b => exact I.n1 c hc "bool" (by decide)
  | int i => exact I.n1 c hc "int" (by decide)
  | str s => exact I.n1 c hc "str" (by decide)
  | lst l => exact I.n1 c hc "list" (by decide)
  | tup l => exact I.n1 c hc "tuple" (by decide)
theorem l_cmpO {K : PySem.W.Frag} {c : Nat} {E : XK} (I : Isi cs K) (hcl : ∀ c ∈ cs, Cls K (He.ga K (cname c))) (hc : c ∈ cs) (hn : ∀ ds Q ex, Pm ds Q ex → ds.length = 2) : L2R K (rCmpO (He.ga K (cname c)) (spD K 2 Pm) E K) (dCmpO cs c Pm) := fun G H x y a b Q R s r1 r2 ⟨⟨l, e1⟩, hk, q⟩ g => by
  subst e1
  obtain ⟨p, dx, ws, rfl, hp, _, _⟩ := id r1.ins_inv
  exact ⟨p, dx, _, _, rfl, s _ _ hp, rep_ty I hcl r2 s hk, nf_of I hc hk, sp_call0 s hn ((Reps.one r2).cons r1) q g⟩
def dNeO (cs : List Nat) (c : Nat) (P : Prm) : R2D := fun a b Q => (∃ l, a = .ins c l) ∧ kind cs b = true ∧ P [a, b] (fun d => ∃ k, d = .bl k ∧ Q (.bl (!k))) (fun _ _ => False)
theorem l_neO {K : PySem.W.Frag} {c : Nat} {E : XK} (I : Isi cs K) (hcl : ∀ c ∈ cs, Cls K (He.ga K (cname c))) (hc : c ∈ cs) (hn : ∀ ds Q ex, Pm ds Q ex → ds.length = 2) : L2R K (rNeO (He.ga K (cname c)) (spD K 2 Pm) E K) (dNeO cs c Pm) := fun G H x y a b Q R s r1 r2 ⟨⟨l, e1⟩, hk, q⟩ g => by
  subst e1
  obtain ⟨p, dx, ws, rfl, hp, _, _⟩ := id r1.ins_inv
  refine ⟨p, dx, _, _, rfl, s _ _ hp, rep_ty I hcl r2 s hk, nf_of I hc hk, sp_call0 s hn ((Reps.one r2).cons r1) q fun v H' G' d x r ⟨kk, e, q'⟩ => ?_⟩
  subst e
  exact ⟨kk, r.bl_inv, g _ H' G' _ x (.bl _) q'⟩
/-- str(x) by an own __str__ -/
theorem call_strO {C : Addr} {fd : FuncData} {ps : List Str} {sp : Sp} {E : XK} {CX : CXT} (hs : PySem.W.findIn X.K (.ref C) "__str__" = some (some (.ref f))) (hf : PySem.W.isFn X.K (.ref f) = true)
    (F : FnOk X.prog X.w X.K X.mg X.base CX k f fd ps sp) (hr : Room (k + 2) X.A) (hb : Binds X.K fd ps []) (hx : Passes CX X.nox E) : CallR X (.type "str") (fun xs H Q => ∃ (a dx : Addr) (fs : List (Str × V)), xs = [.ref a] ∧ H a = some (.ins C dx fs) ∧ sp [.ref a] H (fun v H' => ∃ s : Str, v = .str s ∧ Q v H') E) := by
  intro pins s σ H xs us Q I r h
  obtain ⟨a, dx, fs, rfl, ha, q⟩ := h
  obtain ⟨u, rfl, ru⟩ := vals1 r
  cases ru
  obtain ⟨mA, J, _⟩ := ins_get I.hok ha
  obtain ⟨od, J, _⟩ := J.look
  have hl : [Value.ref a].length = ps.length := by
    rw [← F.len _ _ _ _ q]
    rfl
  have hu : X.A.in1.in1.units < cLine := hr.in1.in1.units0
  refine PySem.W.kso_call hu I.kIn J hs hf (wpAny_call (codeAny_mono (F.run X.A.in1.in1 X.stack s H ⟨[.ref a], []⟩ [.ref a] [.ref a] _ E hr.in1.in1 I.env0.in1.in1 (by simpa using hb s [.ref a] I.kIn (by simpa using hl)) (.cons rfl .nil) q) fun r s' hq => ?_))
  cases r with
  | error er => exact False.elim (hx pins σ H s er s' (I.wish _) hq)
  | ok fl =>
    cases fl with
    | ret w =>
      obtain ⟨v, H', I', rv, z, rfl, q3⟩ := I.after hq
      obtain ⟨t', rfl⟩ := rv
      exact ⟨.str z, H', I', ⟨t', rfl⟩, q3⟩
    | next => exact False.elim hq
    | brk => exact False.elim hq
    | cont => exact False.elim hq
theorem l_strO {K : PySem.W.Frag} {c : Nat} {E : XK} (hn : ∀ ds Q ex, Pm ds Q ex → ds.length = 1) : LcR K (fun xs H Q => ∃ (a dx : Addr) (fs : List (Str × V)), xs = [.ref a] ∧ H a = some (.ins (He.ga K (cname c)) dx fs) ∧ spD K 1 Pm [.ref a] H (fun v H' => ∃ s : Str, v = .str s ∧ Q v H') E)
    (fun ds Q => ∃ l, ds = [.ins c l] ∧ Pm ds (fun d => ∃ s, d = .str s ∧ Q d) (fun _ _ => False)) := fun G H vs ds Q R s r ⟨l, e1, q⟩ g => by
  subst e1
  obtain ⟨v, rfl, r1⟩ := reps1 r
  obtain ⟨p, dx, ws, rfl, hp, _, _⟩ := id r1.ins_inv
  refine ⟨p, dx, _, rfl, s _ _ hp, sp_call0 s hn (Reps.one r1) q fun v H' G' d x r ⟨z, e, q'⟩ => ?_⟩
  subst e
  exact ⟨z, r.str_inv, g _ H' G' _ x r q'⟩
/-! ## static methods -/
def smP (K : PySem.W.Frag) (x m : Str) : Addr := match PySem.W.findCls K (.ref (He.ga K x)) (.type "type") m with
  | some (.get _ (.ref p) _ _) => p
  | _ => 0
def smF (K : PySem.W.Frag) (x m : Str) : Addr := match PySem.W.recIn K (smP K x m) "staticmethod" with
  | some (.ref f :: _) => f
  | _ => 0
def smB (K : PySem.W.Frag) (x m : Str) : Bool := PySem.W.readsIn K (He.ga K x) (.type "type") && (decide (PySem.W.specialIn K (.ref (He.ga K x)) "__getattribute__" = some (some (.builtin "type.__getattribute__"))) && ((match PySem.W.findCls K (.ref (He.ga K x)) (.type "type") m with
    | some (.get g (.ref p) ob tp) => decide (g = .builtin "staticmethod.__get__") && (decide (p = smP K x m) && (decide (ob = .none) && decide (tp = .ref (He.ga K x))))
    | _ => false) && ((match PySem.W.recIn K (smP K x m) "staticmethod" with
    | some (.ref f :: _) => decide (f = smF K x m)
    | _ => false) && PySem.W.keepIn K (.ref (smF K x m)))))
structure SmOk (K : PySem.W.Frag) (x m : Str) : Prop where
  rd : PySem.W.readsIn K (He.ga K x) (.type "type") = true
  ga : PySem.W.specialIn K (.ref (He.ga K x)) "__getattribute__" = some (some (.builtin "type.__getattribute__"))
  at_ : PySem.W.findCls K (.ref (He.ga K x)) (.type "type") m = some (.get (.builtin "staticmethod.__get__") (.ref (smP K x m)) .none (.ref (He.ga K x)))
  rc : ∃ rest, PySem.W.recIn K (smP K x m) "staticmethod" = some (.ref (smF K x m) :: rest)
  kp : PySem.W.keepIn K (.ref (smF K x m)) = true
theorem SmOk.of {K : PySem.W.Frag} {x m : Str} (h : smB K x m = true) : SmOk K x m := by
  unfold smB at h
  simp only [Bool.and_eq_true, decide_eq_true_eq] at h
  obtain ⟨h1, h2, h3, h4, h5⟩ := h
  refine ⟨h1, h2, ?_, ?_, h5⟩
  · split at h3
    · rename_i g p ob tp e
      simp only [Bool.and_eq_true, decide_eq_true_eq] at h3
      obtain ⟨rfl, rfl, rfl, rfl⟩ := h3
      exact e
    · cases h3
  · split at h4
    · rename_i f rest e
      exact ⟨rest, by rw [e, of_decide_eq_true h4]⟩
    · cases h4
theorem getmethsm_ok {pins : List (Addr × Obj)} {σ : L2.St} {H : Hp} {s : Shared} {A : Around} {E : Value → Shared → Prop} {pl : Sem Bool} {Q : Value × List Value → Shared → Prop} (I : L2.Inv X pins σ H s) (r : SmOk X.K x m)
    (h : ∀ s', L2.Inv X pins σ H s' → Q (.ref (smF X.K x m), []) s') : wpAny (model X.prog X.w) A (getMethod (.ref (He.ga X.K x)) m pl) Q E s := by
  obtain ⟨rest, hp⟩ := r.rc
  refine PySem.W.method_cls I.kIn r.ga (PySem.W.cls_bind I.kIn r.rd r.at_ ?_)
  exact wpAny_call (PySem.W.sm_get (s := { s with toks := s.toks + 1 }) I.kIn hp (PySem.W.handed_on rfl (h _ (I.tok _))))
def tSm (sp : Sp) (E : L2.St → XK) (t : TA) : TE := fun σ H Q => t σ H fun vs H1 => sp vs H1 Q (E σ)
theorem pe_sm {pl : Sem Bool} {fd : FuncData} {ps : List Str} {sp : Sp} {E : L2.St → XK} {CX : CXT} {sa : TA} (hg : Gl X x) (hm : X.mg x = some (.ref (He.ga X.K x))) (r : SmOk X.K x m) (F : FnOk X.prog X.w X.K X.mg X.base CX k (smF X.K x m) fd ps sp) (hr : Room k X.A) (hb : Binds X.K fd ps []) (hx : ∀ σ, PassesAt CX X σ (E σ)) (ha : PA X (e :: es) sa)
    (hdb : (x == ("__debug__" : Str)) = false := by decide)
    (hst : starEach (e :: es) X.env = (false, eval e X.env) :: starEach es X.env := by rfl) (hpl : (backTo pos (starEach es X.env)).any (·.1) = false := by rfl)
    (ht : eval (.Call (.Attribute (.Name x p) m apos) (e :: es) [] pos) X.env = (do
      let ov ← eval (.Name x p) X.env
      standAt apos.atName
      let (f, first) ← holding [ov] (getMethod ov m pl)
      callWith pos f first (backTo pos (starEach (e :: es) X.env)) (backToKw pos (keywordEach [] X.env))) := by rfl) :
    PE X (.Call (.Attribute (.Name x p) m apos) (e :: es) [] pos) (tSm sp E sa) := by
  refine ⟨fun pins s σ H Q I h => ?_⟩
  refine PySem.W.methodCall_KW (pl := pl) (ld_glob I hg hm ?_ hdb) ht
  refine getmethsm_ok I r fun s1 I1 => ?_
  refine PySem.W.callWith_K (first := []) (h₀ := X.base) I1.ok.mod.kin r.kp (thn (ha.run pos pins s1 σ H _ I1 h) fun us s2 ⟨vs, H2, I2, rv, q2⟩ => ⟨I2.kIn, ?_⟩) hst hpl
  exact run_fnS (us := us) (vs := vs) F hr hb (hx σ) I2 rv q2
theorem pd_sm {pl : Sem Bool} (hg : Gl X x) (hm : X.mg x = some (.ref (He.ga X.K x))) (r : SmOk X.K x m) (F : Fn X.prog X.w X.K X.mg X.base (smF X.K x m) k n Pm) (hr : Room k X.A) (tk : Takes X W) (ha : PDA X W (e :: es) t)
    (hdb : (x == ("__debug__" : Str)) = false := by decide)
    (hst : starEach (e :: es) X.env = (false, eval e X.env) :: starEach es X.env := by rfl) (hpl : (backTo pos (starEach es X.env)).any (·.1) = false := by rfl)
    (ht : eval (.Call (.Attribute (.Name x p) m apos) (e :: es) [] pos) X.env = (do
      let ov ← eval (.Name x p) X.env
      standAt apos.atName
      let (f, first) ← holding [ov] (getMethod ov m pl)
      callWith pos f first (backTo pos (starEach (e :: es) X.env)) (backToKw pos (keywordEach [] X.env))) := by rfl) :
    PD X W (.Call (.Attribute (.Name x p) m apos) (e :: es) [] pos) (dCall Pm t) := by
  obtain ⟨_, pa, la⟩ := ha.of
  refine ⟨_, pe_sm hg hm r F.ok hr F.bd (fun σ => passAt tk σ) pa hdb hst hpl ht, fun H0 G0 G H σ env Q ex R S L q g => la H0 G0 G H σ env _ ex _ S L q fun vs H1 G1 ds x1 r1 q1 => ?_⟩
  exact sp_call (S.ex x1) (L.mono x1.gg) F.len r1 q1 fun v H2 G2 d x2 r2 q2 => g v H2 G2 d (x1.trans x2) r2 q2
theorem foldl_sz (a : Array Nat) : ∀ (n : Nat) (acc : Array Nat), ((List.replicate n a).foldl (· ++ ·) acc).size = acc.size + n * a.size
  | 0, acc => by simp
  | n + 1, acc => by
    rw [List.replicate_succ, List.foldl_cons, foldl_sz a n, Array.size_append, Nat.add_mul]
    omega
theorem szrep (z : Str) (i : Int) (hs : z.length * i.toNat ≤ 16777216) (h0 : sizeLine = 16777216) : (⟨(List.replicate i.toNat z.cps).foldl (· ++ ·) #[]⟩ : Str).length ≤ sizeLine := by
  show ((List.replicate i.toNat z.cps).foldl (· ++ ·) #[]).size ≤ sizeLine
  rw [foldl_sz]
  have : z.cps.size * i.toNat ≤ 16777216 := hs
  rw [Nat.mul_comm] at this
  simp
  omega
/-- text * int -/
theorem op_mulS : OpR X (binaryOp .Mult) (fun x y H Q => ∃ z i, x = .str z ∧ y = .int i ∧ z.length ≤ 100000 ∧ -(2 ^ 63) ≤ i ∧ i ≤ 100000 ∧ z.length * i.toNat ≤ 16777216 ∧ Q (.str (if i < 1 then Str.empty else ⟨(List.replicate i.toNat z.cps).foldl (· ++ ·) #[]⟩)) H) := by
  intro pins s σ H x y v u Q I rx ry h
  obtain ⟨z, i, rfl, rfl, hz, h0, h1, hs, q⟩ := h
  obtain ⟨t, rfl⟩ := rx
  obtain ⟨t', rfl⟩ := ry
  have hs' : sizeLine = 16777216 := sizeLine_eq
  refine PySem.P.mul_str ?_ (fun h2 h3 => ?_) (fun h2 h3 => ?_) ?_
  · rw [decide_eq_false (by omega), decide_eq_false (by omega)]
    rfl
  · have h4 : (100000 : Int) ≤ (2 ^ 63 - 1) / i := by
      rw [Int.le_ediv_iff_mul_le (by omega)]
      omega
    omega
  · unfold PySem.Builtin.Str.tooLong
    rw [decide_eq_false (by omega)]
  · split
    · exact ⟨by decide, .str _, H, I.tok _, ⟨_, rfl⟩, by rw [if_pos (by assumption)] at q; exact q⟩
    · rw [if_neg (by assumption)] at q
      split
      · rename_i h5
        have ez : (⟨(List.replicate i.toNat z.cps).foldl (· ++ ·) #[]⟩ : Str) = z := by
          rcases Bool.or_eq_true_iff.mp h5 with h6 | h6
          · have h7 : i = 1 := beq_iff_eq.mp h6
            subst h7
            show (⟨(List.replicate 1 z.cps).foldl (· ++ ·) #[]⟩ : Str) = z
            simp [List.replicate]
          · have h7 : z.cps = #[] := Array.size_eq_zero_iff.mp (beq_iff_eq.mp h6)
            have h8 : (List.replicate i.toNat z.cps).foldl (· ++ ·) #[] = #[] := Array.size_eq_zero_iff.mp (by rw [foldl_sz, h7]; rfl)
            rw [h8, ← h7]
        rw [ez] at q
        exact ⟨.str _, H, I, ⟨_, rfl⟩, q⟩
      · exact ⟨szrep z i hs (by omega), .str _, H, I.tok _, ⟨_, rfl⟩, q⟩
def dMulS : R2D := fun a b Q => ∃ z i, a = .str z ∧ b = .int i ∧ z.length ≤ 100000 ∧ -(2 ^ 63) ≤ i ∧ i ≤ 100000 ∧ z.length * i.toNat ≤ 16777216 ∧ Q (.str (if i < 1 then Str.empty else ⟨(List.replicate i.toNat z.cps).foldl (· ++ ·) #[]⟩))
theorem l_mulS {K : PySem.W.Frag} : L2R K (fun x y H Q => ∃ z i, x = .str z ∧ y = .int i ∧ z.length ≤ 100000 ∧ -(2 ^ 63) ≤ i ∧ i ≤ 100000 ∧ z.length * i.toNat ≤ 16777216 ∧ Q (.str (if i < 1 then Str.empty else ⟨(List.replicate i.toNat z.cps).foldl (· ++ ·) #[]⟩)) H) dMulS :=
  fun G H x y a b Q R s r1 r2 ⟨z, i, e1, e2, h1, h2, h3, h4, q⟩ g => by
  subst e1 e2
  exact ⟨z, i, r1.str_inv, r2.int_inv, h1, h2, h3, h4, g _ H G _ (.refl s) (.str _) q⟩
end
/-! ## more facts of the text -/
def ciB (K : PySem.W.Frag) (x : Str) (n : Int) : Bool := match PySem.W.nsIn K mainGlobals x with
  | some (some (.int m _)) => m == n
  | _ => false
def moB (cs : List Nat) (sms : List (Str × Str)) (cis : List (Str × Int)) (K : PySem.W.Frag) : Bool := isiB cs K && (sms.all (fun p => smB K p.1 p.2) && cis.all fun p => ciB K p.1 p.2)
structure Mo (cs : List Nat) (sms : List (Str × Str)) (cis : List (Str × Int)) (K : PySem.W.Frag) (mg : Str → Option Value) : Prop where
  isi : Isi cs K
  cls : ∀ c ∈ cs, Cls K (He.ga K (cname c))
  smA : ∀ p ∈ sms, SmOk K p.1 p.2
  ciA : ∀ p ∈ cis, ∃ t, mg p.1 = some (.int p.2 t)
theorem Mo.of {cs : List Nat} {sms : List (Str × Str)} {cis : List (Str × Int)} {K : PySem.W.Frag} {mg : Str → Option Value} {h : Heap} (X : K.In h) (G : h.Ns mainGlobals mg) (hc : ∀ c ∈ cs, Cls K (He.ga K (cname c))) (m : moB cs sms cis K = true) : Mo cs sms cis K mg := by
  obtain ⟨m1, m2⟩ := Bool.and_eq_true_iff.mp m
  obtain ⟨m2, m3⟩ := Bool.and_eq_true_iff.mp m2
  refine ⟨Isi.of m1, hc, fun p hp => SmOk.of (List.all_eq_true.mp m2 p hp), fun p hp => ?_⟩
  have z := List.all_eq_true.mp m3 p hp
  unfold ciB at z
  split at z
  · rename_i n t e
    rw [← beq_iff_eq.mp z]
    exact ⟨t, PySem.W.mg_of X G e⟩
  · cases z
section
variable {cs : List Nat} {sms : List (Str × Str)} {cis : List (Str × Int)} {K : PySem.W.Frag} {mg : Str → Option Value} (M : Mo cs sms cis K mg)
include M
theorem Mo.sm (x m : Str) (h : (x, m) ∈ sms := by decide +kernel) : SmOk K x m := M.smA (x, m) h
theorem Mo.c (x : Str) (n : Int) (h : (x, n) ∈ cis := by decide +kernel) : ∃ t, mg x = some (.int n t) := M.ciA (x, n) h
end
end DL

namespace DL
open PySem PySem.Spec PyProof.Rows L2 LR
/-- the law's own promise -/
def spLaw (K : PySem.W.Frag) : Sp := fun vs H Q _ => ∃ (a : Addr) (ns : List Int), vs = [.ref a] ∧ SqL K H a (ns.map V.int) ∧ ns.length ≤ 63 ∧ ∀ H', Q (.bl true) H'
theorem law_of {P : Program} {w : World} {K : PySem.W.Frag} {mg : Str → Option Value} {x qual : Str} {params : Arguments} {body : List Stmt} {scope : Scope} {f : Addr} {N ps : List Str} {k : Nat}
    (h : ∃ fd, FunD K x qual params body scope [] [] f fd) (S : FnScope N ps scope) (hps : ps = ([("script" : Str)] : List Str))
    (hb : ∀ (kV doc pm : Value) (an : Option Addr) (cdv ct : Value) (us : List Value), us.length = ps.length → bindArgs (PySem.W.fnOf x qual params body scope .none kV doc pm an cdv ct) ⟨us, []⟩ = pure (ps.zip us))
    (hbody : ∀ (base : Heap) (fd : FuncData) (cdv : Value) (A : Around) (outer : List Env) (s : Shared) (H : Hp) (E : XK), Room k (A.deeper (envOfC qual scope s.heap.objs.size f cdv)) →
      ∃ t, PDSs (cxOf CX0 P w K mg base N qual scope f cdv A outer s H E) WN body t ∧ ∀ ns : List Int, ns.length ≤ 63 → t { nx := fun _ => False, rt := fun d => d = .bl true } (start N.length [.lst (ns.map .int)])) :
    ∃ fd : FuncData, (∀ (s : Shared) (v : Value), BindsTo s fd ⟨[v], []⟩ [("script", v)]) ∧ ∀ base : Heap, FnOk P w K mg base CX0 (k + 1) f fd ["script"] (spLaw K) := by
  obtain ⟨fd, F⟩ := h
  subst hps
  refine ⟨fd, fun s v => FunD.bindsA (ps := ["script"]) F (fun kV doc pm an cdv ct us hl => hb kV doc pm an cdv ct us hl) s [v] rfl, fun base => ?_⟩
  refine F.ok S (fun vs H Q E h => ?_) (fun cdv A outer s H vs Q E hr h => ?_)
  · obtain ⟨a, ns, rfl, _⟩ := h
    rfl
  · obtain ⟨a, ns, rfl, hS, hl, q⟩ := h
    obtain ⟨t, pd, ht⟩ := hbody base fd cdv A outer s H E hr
    obtain ⟨ts, pts, l⟩ := pd.of
    have rr : Reps K H [.ref a] [.lst (ns.map .int)] := .one (.lst hS (by simp) (Reps.of_ints ns).2)
    refine ⟨ts, pts, l H H H H _ _ _ { nx := fun _ => False, rt := fun d => d = .bl true } (sr_start (.refl _) rr) ⟨fun σ' H' G' env' _ S' q' => q'.elim, fun σ' H' G' env' _ S' q' => q'.elim, fun σ' H' G' env' _ S' q' => q'.elim, fun v H' G' d _ x r q' => ?_, fun σ' H' G' env' d x fv fs _ S' e r q' => q'.elim⟩ (ht ns hl)⟩
    subst q'
    rw [r.bl_inv]
    exact q _
/-- n.bit_length() -/
def dBits (ta : DT) : DT := fun env Q ex => ta env (fun d => ∃ i : Int, d = .int i ∧ Q (.int ((Builtin.Int.intBits i : Nat) : Int))) ex
theorem pd_bits {X : Cx} {W : WX} {o : Expr} {ta : DT} {apos pos : Pos} (h : PD X W o ta) (hbase : attributeBase o "bit_length" X.env (eval o X.env) = eval o X.env := by rfl) (hline : (apos.endLine == pos.line) = true := by rfl) : PD X W (.Call (.Attribute o "bit_length" apos) [] [] pos) (dBits ta) := by
  obtain ⟨_, p, l⟩ := h.of
  refine ⟨_, pe_bits p hbase hline, fun H0 G0 G H σ env Q ex R S L q g => l H0 G0 G H σ env _ ex _ S L q fun v H1 G1 d x1 r1 ⟨i, e1, q1⟩ => ?_⟩
  subst e1
  exact ⟨i, r1.int_inv, g _ H1 G1 _ x1 (.int _) q1⟩
/-! ## helpers for readings -/
theorem len0 {α : Type} {ws : List α} (h : ws.length = 0) : ws = [] := List.length_eq_zero_iff.mp h
theorem len1 {α : Type} {ws : List α} (h : ws.length = 1) : ∃ a, ws = [a] := List.length_eq_one_iff.mp h
theorem len2 {α : Type} {ws : List α} (h : ws.length = 2) : ∃ a b, ws = [a, b] := match ws, h with | [a, b], _ => ⟨a, b, rfl⟩
theorem len3 {α : Type} {ws : List α} (h : ws.length = 3) : ∃ a b c, ws = [a, b, c] := match ws, h with | [a, b, c], _ => ⟨a, b, c, rfl⟩

theorem d_ite {c : Bool} {p q : Prop} (h1 : c = true → p) (h2 : c = false → q) : if c = true then p else q := by
  cases c with
  | true => exact h1 rfl
  | false => exact h2 rfl
theorem at_map {α : Type} {f : α → D} {l : List α} {k : Int} {x : α} (h0 : 0 ≤ k) (h : l[k.toNat]? = some x) : atI (l.map f) k = some (f x) := by
  have e := atI_nat (xs := l.map f) (j := k.toNat) (v := f x) (by rw [List.getElem?_map, h]; rfl)
  rwa [Int.toNat_of_nonneg h0] at e
theorem at_ex {l : List Int} {k : Int} (h0 : 0 ≤ k) (h1 : k < (l.length : Int)) : ∃ z, z ∈ l ∧ l[k.toNat]? = some z ∧ atI (l.map D.int) k = some (.int z) := by
  have hk : k.toNat < l.length := by omega
  exact ⟨l[k.toNat], List.getElem_mem hk, List.getElem?_eq_getElem hk, at_map h0 (List.getElem?_eq_getElem hk)⟩
theorem map_at {α : Type} {f : α → D} {l : List α} {i : Nat} {d : D} (h : (l.map f)[i]? = some d) : ∃ x, l[i]? = some x ∧ d = f x := by
  rw [List.getElem?_map] at h
  cases e : l[i]? with
  | none =>
    rw [e] at h
    cases h
  | some x =>
    rw [e] at h
    exact ⟨x, rfl, (Option.some.inj h).symm⟩
theorem rng_at {lo : Int} {n i : Nat} {d : D} (h : (rngD lo n)[i]? = some d) : i < n ∧ d = .int (lo + i) := by
  unfold rngD at h
  obtain ⟨x, e, rfl⟩ := map_at h
  obtain ⟨hx, hi⟩ := List.getElem?_eq_some_iff.mp e
  have hi' : i < n := by simpa using hx
  rw [List.getElem_range] at hi
  exact ⟨hi', by rw [hi]⟩
theorem rng_len {lo : Int} {n : Nat} : (rngD lo n).length = n := by simp [rngD]
/-- a comprehension without an if: what holds of the i-th -/
theorem lc_all {α : Type} {n : Nat} {zs : List (Option α)} {R : Nat → α → Prop} (hl : zs.length = n) (h : ∀ (i : Nat) z, zs[i]? = some z → ∃ d, z = some d ∧ R i d) : ∃ l : List α, zs.filterMap id = l ∧ l.length = n ∧ ∀ (i : Nat) d, l[i]? = some d → R i d := by
  have key : ∀ (zs : List (Option α)) (o : Nat), (∀ (i : Nat) z, zs[i]? = some z → ∃ d, z = some d ∧ R (o + i) d) → (zs.filterMap id).length = zs.length ∧ ∀ (i : Nat) d, (zs.filterMap id)[i]? = some d → R (o + i) d := by
    intro zs
    induction zs with
    | nil => exact fun o _ => ⟨rfl, fun i d h => by simp at h⟩
    | cons a r ih =>
      intro o h
      obtain ⟨d, rfl, hd⟩ := h 0 a rfl
      obtain ⟨h1, h2⟩ := ih (o + 1) fun i z hz => by
        have := h (i + 1) z (by simpa using hz)
        rwa [show o + (i + 1) = o + 1 + i by omega] at this
      refine ⟨by simp [h1], fun i e he => ?_⟩
      cases i with
      | zero =>
        simp at he
        subst he
        exact hd
      | succ i =>
        have := h2 i e (by simpa using he)
        rwa [show o + 1 + i = o + (i + 1) by omega] at this
  obtain ⟨h1, h2⟩ := key zs 0 fun i z hz => by simpa using h i z hz
  exact ⟨_, rfl, h1.trans hl, fun i d hd => by simpa using h2 i d hd⟩
/-- .. of the kind f, with P -/
theorem lc_map {α : Type} (f : α → D) {P : Nat → α → Prop} {n : Nat} {zs : List (Option D)} (hl : zs.length = n) (h : ∀ (i : Nat) z, zs[i]? = some z → ∃ v, z = some (f v) ∧ P i v) : ∃ ms : List α, zs.filterMap id = ms.map f ∧ ms.length = n ∧ ∀ (i : Nat) m, ms[i]? = some m → P i m := by
  have key : ∀ (zs : List (Option D)) (o : Nat), (∀ (i : Nat) z, zs[i]? = some z → ∃ v, z = some (f v) ∧ P (o + i) v) → ∃ ms : List α, zs.filterMap id = ms.map f ∧ ms.length = zs.length ∧ ∀ (i : Nat) m, ms[i]? = some m → P (o + i) m := by
    intro zs
    induction zs with
    | nil => exact fun o _ => ⟨[], rfl, rfl, fun i m h => by simp at h⟩
    | cons a r ih =>
      intro o h
      obtain ⟨v, rfl, hv⟩ := h 0 a rfl
      obtain ⟨ms, h1, h2, h3⟩ := ih (o + 1) fun i z hz => by
        have := h (i + 1) z (by simpa using hz)
        rwa [show o + (i + 1) = o + 1 + i by omega] at this
      refine ⟨v :: ms, by simp [h1], by simp [h2], fun i m hm => ?_⟩
      cases i with
      | zero =>
        simp at hm
        subst hm
        exact hv
      | succ i =>
        have := h3 i m (by simpa using hm)
        rwa [show o + 1 + i = o + (i + 1) by omega] at this
  obtain ⟨ms, h1, h2, h3⟩ := key zs 0 fun i z hz => by simpa using h i z hz
  exact ⟨ms, h1, h2.trans hl, fun i m hm => by simpa using h3 i m hm⟩
theorem pick {l : List D} {k : Int} {n : Nat} (hn : l.length = n) (h0 : 0 ≤ k) (h1 : k < n) : ∃ x, atI l k = some x ∧ x ∈ l := by
  obtain ⟨x, _, hm, e⟩ := at_ix (xs := l) h0 (by omega)
  exact ⟨x, e, hm⟩
theorem filt_some {α β : Type} (f : α → β) (l : List α) : (l.map fun x => some (f x)).filterMap id = l.map f := by
  induction l with
  | nil => rfl
  | cons a r ih => simp [ih]
theorem cut_map {α : Type} (f : α → D) (l : List α) (lo hi : Option Int) : ∃ m : List α, cutD (l.map f) lo hi = m.map f ∧ m.length ≤ l.length ∧ ∀ z ∈ m, z ∈ l := by
  unfold cutD
  refine ⟨(l.drop (HT.sIx (l.map f).length 0 lo)).take (HT.sIx (l.map f).length (l.map f).length hi - HT.sIx (l.map f).length 0 lo), ?_, ?_, fun z hz => List.mem_of_mem_drop (List.mem_of_mem_take hz)⟩
  · rw [List.map_take, List.map_drop]
  · rw [List.length_take, List.length_drop]
    omega
end DL

namespace DL
open PySem PySem.Spec PyProof.Rows L2 LR
section
variable {X : Cx} {W : WX} {a b c e : Expr} {ta tb : DT} {pos : Pos}
/-- list + list, whatever the lists are -/
def rCatL (K : PySem.W.Frag) : R2 := fun x y H Q => ∃ l b xs zs, x = .ref l ∧ y = .ref b ∧ SqL K H l xs ∧ SqL K H b zs ∧ xs.length + zs.length ≤ sizeLine ∧ ∀ p, H p = none → Q (.ref p) (upd H p (.lst (xs ++ zs)))
theorem op_catL : OpR X (binaryOp .Add) (rCatL X.K) := by
  intro pins s σ H x y v u Q I rx ry h
  obtain ⟨l, b, xs, zs, rfl, rfl, hH, hB, hz, q⟩ := h
  cases rx
  cases ry
  obtain ⟨its, r, p1, _⟩ := I.list hH
  obtain ⟨its2, r2, p2, _⟩ := I.list hB
  obtain ⟨⟨cls, dd, data, sl⟩, n, ho, hc, hdd, hd⟩ := _root_.id p1
  obtain ⟨⟨cls2, dd2, data2, sl2⟩, n2, ho2, hc2, hdd2, hd2⟩ := _root_.id p2
  simp only at hc hd hdd hc2 hd2 hdd2
  subst hc hd hdd hc2 hd2 hdd2
  have e : its.toArray ++ its2.toArray = (its ++ its2).toArray := by simp
  have hz' : its.length + its2.length ≤ sizeLine := by rw [← r.length, ← r2.length]; exact hz
  refine concat_meets ⟨_, ho, rfl⟩ ⟨_, ho2, rfl⟩ noFill_list_add seq_list_add PySem.F.slot_list_add PySem.F.entry_list_add (PySem.F.args_list_add_2 _ _) (list_addW l b its.toArray its2.toArray n n2 none none sl sl2 (by simpa using hz')) ⟨ho, ho2, ?_⟩
  rw [e]
  exact ⟨.ref _, _, I.lnew (t' := s.toks) (r.append r2) (by rw [List.length_append]; omega), rfl, q _ I.fresh⟩
def dCatA (ta tb : DT) : DTN := fun env Q ex => ta env (fun x => ∃ l, x = .lst l ∧ tb env (fun y => ∃ m, y = .lst m ∧ l.length + m.length ≤ sizeLine ∧ Q (l ++ m)) ex) ex
theorem pdn_catA (ha : PD X W a ta) (hb : PD X W b tb) : PDN X W (.BinOp a .Add b pos) (dCatA ta tb) := by
  obtain ⟨_, pa, la⟩ := ha.of
  obtain ⟨_, pb, lb⟩ := hb.of
  refine ⟨_, pe_op op_catL pa pb, fun H0 G0 G H σ env Q ex R S L q g => la H0 G0 G H σ env _ ex _ S L q fun v H1 G1 d x1 r1 ⟨l, e1, q1⟩ => ?_⟩
  subst e1
  refine lb H0 G0 G1 H1 σ env _ ex _ (S.ex x1) (L.mono x1.gg) q1 fun u H2 G2 d2 x2 r2 ⟨m, e2, hz, q2⟩ => ?_
  subst e2
  obtain ⟨p, vs, rfl, h1, h2⟩ := (r1.same x2.gg).lst_inv
  obtain ⟨p2, us, rfl, h3, h4⟩ := r2.lst_inv
  exact ⟨p, p2, vs, us, rfl, rfl, x2.sub.seq h1, x2.sub.seq h3, by rw [h2.1, h4.1]; exact hz, fun p3 n3 => g p3 _ _ H2 G2 _ (x1.trans x2) n3 rfl (h2.app h4) q2⟩
theorem pdn_rep {tn : DTN} (ha : PDN X W a tn) (hb : PD X W b tb) : PDN X W (.BinOp a .Mult b pos) (dRep tn tb) := by
  obtain ⟨_, pa, la⟩ := ha.of
  obtain ⟨_, pb, lb⟩ := hb.of
  refine ⟨_, pe_op op_rep pa pb, fun H0 G0 G H σ env Q ex R S L q g => la H0 G0 G H σ env _ ex _ S L q fun p vs H' H1 G1 l x1 n e r1 q1 => ?_⟩
  subst e
  have x1' : Ext G H G1 (upd H1 p (.lst vs)) := x1.trans (Ext.hid x1.sub n)
  refine lb H0 G0 G1 _ σ env _ ex _ (S.ex x1') (L.mono x1'.gg) q1 fun u H2 G2 d2 x2 r2 ⟨k, e2, h1, h2, hz, q2⟩ => ?_
  subst e2
  exact ⟨p, k, vs, rfl, r2.int_inv, x2.hh _ _ upd_same, h1, h2, by rw [r1.1]; exact hz, fun p3 n3 => g p3 _ _ H2 G2 _ (x1'.trans x2) n3 rfl (reps_flat (r1.same x2.gg) _) q2⟩
end
/-! data that == may ask -/
def OkS (x : Str) : Prop := ∀ c ∈ x.cps.toList, c < 1114112
theorem OkS.ok {x : Str} (h : OkS x) : PyData.strOk x = true := by
  unfold PyData.strOk
  rw [← Array.all_toList, List.all_eq_true]
  exact fun c hc => decide_eq_true (h c hc)
theorem OkS.of {x : Str} (h : x.cps.toList.all (fun c => decide (c < 1114112)) = true) : OkS x := fun c hc => of_decide_eq_true (List.all_eq_true.mp h c hc)
theorem OkS.app {x y : Str} (h : OkS x) (g : OkS y) : OkS (x ++ y) := fun c hc => by
  rw [Str.cps_append, Array.toList_append] at hc
  rcases List.mem_append.mp hc with h1 | h1
  · exact h c h1
  · exact g c h1
theorem OkS.sub {x y : Str} (h : OkS x) (g : ∀ c ∈ y.cps.toList, c ∈ x.cps.toList) : OkS y := fun c hc => h c (g c hc)
theorem OkS.cut {x : Str} (h : OkS x) (lo hi : Option Int) : OkS (cutS x lo hi) := h.sub fun c hc => by
  unfold cutS at hc
  exact List.mem_of_mem_drop (List.mem_of_mem_take (by simpa using hc))
theorem OkS.rep {x : Str} (h : OkS x) (i : Int) : OkS (if i < 1 then Str.empty else (⟨(List.replicate i.toNat x.cps).foldl (· ++ ·) #[]⟩ : Str)) := by
  split
  · intro c hc
    cases hc
  · have key : ∀ (n : Nat) (acc : Array Nat) (c : Nat), c ∈ ((List.replicate n x.cps).foldl (· ++ ·) acc).toList → c ∈ acc.toList ∨ c ∈ x.cps.toList := by
      intro n
      induction n with
      | zero => exact fun acc c hc => .inl hc
      | succ n ih =>
        intro acc c hc
        rw [List.replicate_succ, List.foldl_cons] at hc
        rcases ih _ c hc with h1 | h1
        · rw [Array.toList_append] at h1
          exact List.mem_append.mp h1
        · exact .inr h1
    intro c hc
    rcases key _ _ c hc with h1 | h1
    · cases h1
    · exact h c h1
theorem OkS.one {c : Nat} (h : c < 1114112) : OkS ⟨#[c]⟩ := fun d hd => by
  have e : d = c := List.mem_singleton.mp hd
  rw [e]
  exact h
theorem OkS.join0 : ∀ ys : List Str, (∀ y ∈ ys, OkS y) → OkS (Str.join ("" : Str) ys)
  | [], _ => fun c hc => by cases hc
  | [y], h => h y List.mem_cons_self
  | y :: z :: r, h => by
    show OkS (y ++ ("" : Str) ++ Str.join ("" : Str) (z :: r))
    exact ((h y List.mem_cons_self).app (OkS.of (by decide +kernel))).app (OkS.join0 (z :: r) fun w hw => h w (List.mem_cons_of_mem _ hw))
theorem OkS.joinE {ys : List Str} (h : ∀ y ∈ ys, OkS y) : OkS (Txt.join ("" : Str) ys) := by
  show OkS (Builtin.Str.glued ("" : Str) ys)
  rw [StrLaws.glued_eq_join]
  exact OkS.join0 ys h
def okN : Nat → D → Prop
  | _, .non => True
  | _, .bl _ => True
  | _, .int _ => True
  | _, .str s => OkS s
  | _, .ins _ _ => False
  | n + 1, .lst l => ∀ x ∈ l, okN n x
  | n + 1, .tup l => ∀ x ∈ l, okN n x
  | 0, .lst _ => False
  | 0, .tup _ => False
theorem okN_all {n : Nat} (ih : ∀ d, okN n d → plainD d = true ∧ (toP d).canLay0 = true ∧ (toP d).depth ≤ n) : ∀ l : List D, (∀ x ∈ l, okN n x) → plainDs l = true ∧ PyData.canLayAll0 (toPs l) = true ∧ PyData.depthAll (toPs l) ≤ n
  | [], _ => ⟨rfl, rfl, Nat.zero_le _⟩
  | d :: r, h => by
    obtain ⟨a1, a2, a3⟩ := ih d (h d List.mem_cons_self)
    obtain ⟨b1, b2, b3⟩ := okN_all ih r fun x hx => h x (List.mem_cons_of_mem _ hx)
    refine ⟨by rw [plainDs, a1, b1]; rfl, ?_, ?_⟩
    · rw [toPs, PyData.canLayAll0, a2, b2]
      rfl
    · rw [toPs, PyData.depthAll]
      exact Nat.max_le.mpr ⟨a3, b3⟩
theorem okN_ok : ∀ (n : Nat) (d : D), okN n d → plainD d = true ∧ (toP d).canLay0 = true ∧ (toP d).depth ≤ n
  | n, .non, _ => by refine ⟨rfl, ?_, ?_⟩ <;> rw [toP] <;> first | rfl | exact Nat.zero_le _
  | n, .bl _, _ => by refine ⟨rfl, ?_, ?_⟩ <;> rw [toP] <;> first | rfl | exact Nat.zero_le _
  | n, .int _, _ => by refine ⟨rfl, ?_, ?_⟩ <;> rw [toP] <;> first | rfl | exact Nat.zero_le _
  | n, .str s, h => by
    have h : OkS s := by cases n <;> exact h
    refine ⟨rfl, ?_, ?_⟩ <;> rw [toP]
    · exact h.ok
    · exact Nat.zero_le _
  | n, .ins _ _, h => by cases n <;> exact h.elim
  | n + 1, .lst l, h => by
    obtain ⟨b1, b2, b3⟩ := okN_all (okN_ok n) l h
    refine ⟨by rw [plainD]; exact b1, ?_, ?_⟩ <;> rw [toP]
    · exact b2
    · exact Nat.succ_le_succ b3
  | n + 1, .tup l, h => by
    obtain ⟨b1, b2, b3⟩ := okN_all (okN_ok n) l h
    refine ⟨by rw [plainD]; exact b1, ?_, ?_⟩ <;> rw [toP]
    · exact b2
    · exact Nat.succ_le_succ b3
  | 0, .lst _, h => h.elim
  | 0, .tup _, h => h.elim
theorem okD_of {d : D} (n : Nat) (h : okN n d) (hn : n ≤ 64) : okD d = true := by
  obtain ⟨h1, h2, h3⟩ := okN_ok n d h
  unfold okD SeqAt.shaped
  rw [h1, h2, decide_eq_true (Nat.le_trans h3 hn)]
  rfl
theorem eqD_refl {d : D} (h : okD d = true) : eqD d d = true := SeqAt.eqv_refl _ (SeqAt.canLay_of_shaped (Bool.and_eq_true_iff.mp h).2)
/-- a field of an error by its place -/
theorem lookup_at {f : Str} {y : D} : ∀ {fs : List (Str × D)} {k : Nat}, (fs.map (·.1)).Nodup → fs[k]? = some (f, y) → fs.lookup f = some y
  | [], _, _, h => by simp at h
  | (g, z) :: fs, 0, _, h => by
    simp at h
    obtain ⟨rfl, rfl⟩ := h
    have e : (g == g) = true := beq_self_eq_true g
    simp only [List.lookup, e]
  | (g, z) :: fs, k + 1, hn, h => by
    rw [List.map_cons, List.nodup_cons] at hn
    have h' : fs[k]? = some (f, y) := by simpa using h
    have ne : (f == g) = false := beq_eq_false_iff_ne.mpr fun e => hn.1 (by rw [← e]; exact List.mem_map.mpr ⟨_, List.mem_of_getElem? h', rfl⟩)
    simp only [List.lookup, ne]
    exact lookup_at hn.2 h'
/-- the i-th of some texts -/
theorem pick_str {ys : List Str} {n B : Nat} {k : Int} (hn : ys.length = n) (hB : ys.all (fun s => decide (s.length ≤ B)) = true) (h0 : 0 ≤ k) (h1 : k < n) : ∃ s : Str, atI (ys.map D.str) k = some (.str s) ∧ s.length ≤ B := by
  obtain ⟨x, e, hm⟩ := pick (l := ys.map D.str) (n := n) (by rw [List.length_map]; exact hn) h0 h1
  obtain ⟨s, hs, rfl⟩ := List.mem_map.mp hm
  exact ⟨s, e, of_decide_eq_true (List.all_eq_true.mp hB s hs)⟩
theorem pick_strP {ys : List Str} {n B : Nat} {k : Int} (hn : ys.length = n) (hB : ∀ y ∈ ys, y.length ≤ B) (h0 : 0 ≤ k) (h1 : k < n) : ∃ s : Str, atI (ys.map D.str) k = some (.str s) ∧ s.length ≤ B := by
  obtain ⟨x, e, hm⟩ := pick (l := ys.map D.str) (n := n) (by rw [List.length_map]; exact hn) h0 h1
  obtain ⟨s, hs, rfl⟩ := List.mem_map.mp hm
  exact ⟨s, e, hB s hs⟩
/-- .. with what all of them are -/
theorem pick_strQ {ys : List Str} {n : Nat} {k : Int} {P : Str → Prop} (hn : ys.length = n) (hB : ∀ y ∈ ys, P y) (h0 : 0 ≤ k) (h1 : k < n) : ∃ s : Str, atI (ys.map D.str) k = some (.str s) ∧ P s := by
  obtain ⟨x, e, hm⟩ := pick (l := ys.map D.str) (n := n) (by rw [List.length_map]; exact hn) h0 h1
  obtain ⟨s, hs, rfl⟩ := List.mem_map.mp hm
  exact ⟨s, e, hB s hs⟩
theorem all_okS {ys : List Str} (h : ys.all (fun s => s.cps.toList.all fun c => decide (c < 1114112)) = true) : ∀ y ∈ ys, OkS y := fun y hy => OkS.of (List.all_eq_true.mp h y hy)
theorem pick_int {ys : List Int} {n : Nat} {lo hi k : Int} (hn : ys.length = n) (hB : ys.all (fun m => decide (lo ≤ m) && decide (m ≤ hi)) = true) (h0 : 0 ≤ k) (h1 : k < n) : ∃ m : Int, atI (ys.map D.int) k = some (.int m) ∧ lo ≤ m ∧ m ≤ hi := by
  obtain ⟨x, e, hm⟩ := pick (l := ys.map D.int) (n := n) (by rw [List.length_map]; exact hn) h0 h1
  obtain ⟨m, hs, rfl⟩ := List.mem_map.mp hm
  have := List.all_eq_true.mp hB m hs
  rw [Bool.and_eq_true, decide_eq_true_eq, decide_eq_true_eq] at this
  exact ⟨m, e, this⟩
/-- text * int -/
theorem rep_len (z : Str) (i : Int) : (if i < 1 then Str.empty else (⟨(List.replicate i.toNat z.cps).foldl (· ++ ·) #[]⟩ : Str)).length ≤ z.length * i.toNat := by
  split
  · exact Nat.zero_le _
  · show ((List.replicate i.toNat z.cps).foldl (· ++ ·) #[]).size ≤ _
    rw [foldl_sz, Nat.mul_comm]
    simp [Str.length]
theorem sz_two {a b : Nat} (ha : a ≤ 1000000) (hb : b ≤ 1000000) : a + b ≤ sizeLine := by rw [sizeLine_eq]; omega
theorem ones_sum : ∀ ys : List Str, (∀ y ∈ ys, y.length = 1) → (ys.map (·.length)).sum = ys.length
  | [], _ => rfl
  | y :: ys, h => by
    have e := ones_sum ys fun z hz => h z (List.mem_cons_of_mem _ hz)
    have e1 := h y List.mem_cons_self
    simp only [List.map_cons, List.sum_cons, List.length_cons]
    omega
end DL

namespace DL
open PySem PySem.Spec PyProof.Rows L2 LR
/-! ## lists lent -/
/-- a thing that holds no list -/
inductive NoL : D → Prop
  | non : NoL .non
  | bl (b : Bool) : NoL (.bl b)
  | int (i : Int) : NoL (.int i)
  | str (s : Str) : NoL (.str s)
  | tup {l : List D} (h : ∀ x ∈ l, NoL x) : NoL (.tup l)
  | ins {c : Nat} {l : List D} (h : ∀ x ∈ l, NoL x) : NoL (.ins c l)
theorem NoL.ints (ns : List Int) : ∀ x ∈ ns.map D.int, NoL x := fun x hx => by
  obtain ⟨n, _, rfl⟩ := List.mem_map.mp hx
  exact .int n
theorem NoL.two {x y : D} (h1 : NoL x) (h2 : NoL y) : ∀ z ∈ [x, y], NoL z := fun z hz => by
  simp only [List.mem_cons, List.not_mem_nil, or_false] at hz
  rcases hz with rfl | rfl <;> assumption
theorem NoL.vec {c : Nat} {ns : List Int} {b : Int} : NoL (.ins c [.tup (ns.map D.int), .int b]) := .ins (NoL.two (.tup (NoL.ints ns)) (.int b))
theorem Rep.cut {K : PySem.W.Frag} {G G' : Hp} {p : Addr} {ws : List V} (hp : G p = some (.lst ws)) (hs : ∀ a, a ≠ p → G' a = G a) {v : V} {d : D} (r : Rep K G v d) : NoL d → Rep K G' v d := by
  induction r with
  | non => exact fun _ => .non
  | bl b => exact fun _ => .bl b
  | int i => exact fun _ => .int i
  | str x => exact fun _ => .str x
  | lst h n _ ih => exact fun z => by cases z
  | @tup a vs l h n _ ih =>
    intro z
    cases z with
    | tup z =>
      refine .tup ?_ n fun i v d h1 h2 => ih i v d h1 h2 (z d (List.mem_of_getElem? h2))
      rcases h with (h | ⟨o, h⟩) | h
      · have ne : a ≠ p := fun e => by
          rw [e, hp] at h
          cases h
        exact .inl (.inl ((hs a ne).trans h))
      · have ne : a ≠ p := fun e => by
          rw [e, hp] at h
          cases h
        exact .inl (.inr ⟨o, (hs a ne).trans h⟩)
      · exact .inr h
  | @ins a dx c vs l h m n _ ih =>
    intro z
    cases z with
    | ins z =>
      have ne : a ≠ p := fun e => by
        rw [e, hp] at h
        cases h
      exact .ins ((hs a ne).trans h) m n fun i v d h1 h2 => ih i v d h1 h2 (z d (List.mem_of_getElem? h2))
section
variable {K : PySem.W.Frag} {H0 G0 G H : Hp} {σ : L2.St} {env : DE}
theorem SR.lend (S : SR K H0 G0 G H σ env) {i : Nat} {l : List D} (he : env[i]? = some (.own l)) : ∃ (p : Addr) (vs : List V), G p = none ∧ H p = some (.lst vs) ∧ SR K H0 G0 (upd G p (.lst vs)) H σ (env.set i (.val (.lst l))) := by
  obtain ⟨p, vs, hp, hq, gp, op, rq⟩ := S.own i l he
  have gG : Same G (upd G p (.lst vs)) := same_new gp
  refine ⟨p, vs, gp, hq, S.same, fun b u e => ?_, S.g0.trans gG, fun a h1 h2 => ?_, by simp [S.len], fun j u h' => ?_, fun j k u w q jk h1 h2 m1 m2 h3 => ?_⟩
  · by_cases hb : b = p
    · subst hb
      rw [upd_same] at e
      cases e
      exact hq
    · rw [upd_ne hb] at e
      exact S.sub b u e
  · by_cases hb : a = p
    · subst hb
      exact op
    · rw [upd_ne hb] at h1
      exact S.ext a h1 h2
  · rcases set_key h' with ⟨rfl, rfl, hl⟩ | ⟨hj, e1⟩
    · have r2 := rq.same gG
      exact ⟨_, hp, .lst (SqL.of upd_same) r2.1 r2.2⟩
    · have w := S.slot j u e1
      cases u with
      | no => trivial
      | val d =>
        obtain ⟨v, e2, r⟩ := w
        exact ⟨v, e2, r.same gG⟩
      | own m =>
        obtain ⟨q, xs, e3, hq', gq, oq, rq'⟩ := w
        refine ⟨q, xs, e3, hq', ?_, oq, rq'.same gG⟩
        rw [upd_ne]
        · exact gq
        · intro z
          subst z
          exact S.apart j i _ _ q hj e1 he rfl rfl e3 hp
      | ob q c fs =>
        obtain ⟨dx, xs, e3, hq', gq, oq, rq'⟩ := w
        refine ⟨dx, xs, e3, hq', ?_, oq, rq'.same gG⟩
        rw [upd_ne]
        · exact gq
        · intro z
          subst z
          exact S.apart j i _ _ q hj e1 he rfl rfl e3 hp
      | exc a dd x fs =>
        obtain ⟨fv, e3, hd, r⟩ := w
        exact ⟨fv, e3, hd, r.same gG⟩
  · rcases set_key h1 with ⟨rfl, rfl, _⟩ | ⟨hj, e1⟩
    · cases m1
    rcases set_key h2 with ⟨rfl, rfl, _⟩ | ⟨hk, f1⟩
    · cases m2
    exact S.apart j k u w q jk e1 f1 m1 m2 h3
/-- behind the loan -/
theorem Ext.back {H' G' : Hp} {p : Addr} {vs : List V} (gp : G p = none) (x : Ext (upd G p (.lst vs)) H G' H') : Ext G H (fun a => if a = p then none else G' a) H' := by
  refine ⟨x.hh, fun a o e => ?_, fun a o e => ?_, fun a h1 h2 => ?_⟩
  · have ne : a ≠ p := ne_of_none e gp
    show (if a = p then none else G' a) = some o
    rw [if_neg ne]
    exact x.gg a o ((upd_ne ne).trans e)
  · by_cases ne : a = p
    · rw [if_pos ne] at e
      cases e
    · rw [if_neg ne] at e
      exact x.sub a o e
  · by_cases ne : a = p
    · rw [if_pos ne] at h1
      exact absurd rfl h1
    · rw [if_neg ne] at h1
      exact x.new a h1 ((upd_ne ne).trans h2)
end
section
variable {X : Cx} {W : WX} {a b c e : Expr} {es : List Expr} {ta tb tc : DT} {t : DTA} {pos : Pos}
def dLend (i : Nat) (ta : DT) : DT := fun env Q _ => ∃ l, env[i]? = some (.own l) ∧ ta (env.set i (.val (.lst l))) (fun d => NoL d ∧ Q d) (fun _ _ => False)
def dLendT (i : Nat) (t : DTT) : DTT := fun env Q _ => ∃ l, env[i]? = some (.own l) ∧ t (env.set i (.val (.lst l))) Q (fun _ _ => False)
theorem pd_lend (i : Nat) (h : PD X W e ta) : PD X W e (dLend i ta) := by
  obtain ⟨_, pa, la⟩ := h.of
  refine ⟨_, pa, fun H0 G0 G H σ env Q ex R S L ⟨l, hl, q⟩ g => ?_⟩
  obtain ⟨p, vs, gp, hp, S1⟩ := S.lend hl
  refine la H0 G0 _ H σ _ _ _ R S1 LkE.no q fun v H2 G2 d x r ⟨nl, q2⟩ => ?_
  exact g v H2 _ d (x.back gp) (r.cut (x.gg _ _ upd_same) (fun a ne => if_neg ne) nl) q2
theorem pdt_lend {t : DTT} (i : Nat) (h : PDT X W e t) : PDT X W e (dLendT i t) := by
  obtain ⟨_, pa, la⟩ := h.of
  refine ⟨_, pa, fun H0 G0 G H σ env Q ex R S L ⟨l, hl, q⟩ g => ?_⟩
  obtain ⟨p, vs, gp, hp, S1⟩ := S.lend hl
  exact la H0 G0 _ H σ _ _ _ R S1 LkE.no q fun v H2 G2 x q2 => g v H2 _ (x.back gp) q2
end
end DL

namespace PySem.W
open PySem PySem.Calls PyProof.Rows
section
variable {prog : Program} {w : World} {A : Around} {E : Value → Shared → Prop} {s : Shared} {K : Frag} {x y C D f f0 g : Addr} {ox oy : Obj} {od oyd : Option Obj}
/-- x op b, two own classes: the left one's method answers -/
theorem two_own {op : Operator} {b : Value} {rc rd : Option Value} {Q : Value → Shared → Prop} (X : K.In s.heap) (I : InstAt s.heap x ox C od) (hb : Looks (model prog w) s.heap (typeOf b) (.ref D)) (hne : C ≠ D) (hc : selfFirst K C = true) (hd : selfFirst K D = true)
    (hs : findIn K (.ref C) (PySem.dunder op.info.2) = some (some (.ref f))) (hf : isFn K (.ref f) = true) (hr : findIn K (.ref C) (dunderR op.info.2) = some rc) (hp : rc = none ∨ ∃ z : Addr, rc = some (.ref z))
    (hs2 : findIn K (.ref D) (PySem.dunder op.info.2) = some (some (.ref g))) (hr2 : findIn K (.ref D) (dunderR op.info.2) = some rd) (hp2 : rd = none ∨ ∃ z : Addr, rd = some (.ref z)) (hsub : subIn K (.ref D) (.ref C) = some false)
    (h : wpAny (model prog w) A (call (.ref f) [.ref x, b]) (CmpBack Q) E s) : wpAny (model prog w) A (binaryOp op (.ref x) b) Q E s := by
  obtain ⟨cd, rest, hcd, hm⟩ := ksp_first hc
  obtain ⟨cd2, rest2, hcd2, hm2⟩ := ksp_first hd
  rcases hi : op.info with ⟨sym, nm⟩
  rw [hi] at hs hr hs2 hr2
  dsimp only at hs hr hs2 hr2
  have one := ksp_try X I hs hf h
  obtain ⟨hh, gn, dr, tk, os⟩ := s
  have l1 : Looks (model prog w) hh (typeOf (.ref x)) (.ref C) := I.type
  have l2 : Looks (model prog w) hh (typeOf b) (.ref D) := hb
  have l3 : Looks (model prog w) hh (fillsNumberSlot (.ref C) nm) true := fills_K X hcd hm hs
  have l4 : Looks (model prog w) hh (fillsNumberSlot (.ref D) nm) true := fills_K X hcd2 hm2 hs2
  have l5 : Looks (model prog w) hh (isSubtype (.ref D) (.ref C)) false := looks_subIn X hsub
  have l6 : Looks (model prog w) hh (numberSlotInPython (.ref C) nm) true := ksp_inPy X hs hr hp
  have l7 : Looks (model prog w) hh (numberSlotInPython (.ref D) nm) true := ksp_inPy X hs2 hr2 hp2
  have ne : (Value.ref C == Value.ref D) = false := beq_eq_false_iff_ne.mpr fun z => hne (Value.ref.inj z)
  simp only [binaryOp, hi]
  refine wpAny_holding (wpAny_bind ?_)
  unfold binaryOp1
  refine wpAny_bind (l1.at (wpAny_bind (l2.at (wpAny_bind (l3.at ?_)))))
  simp only [ne, Bool.false_eq_true, if_false]
  ksp_lk
  refine wpAny_mono one (fun r s' hr' => ?_) fun _ _ e => e
  obtain ⟨v, rfl, hq⟩ := hr'
  ksp_lk
  exact hq
theorem try_none {Q : Option Value → Shared → Prop} {name : Str} {b : Value} (X : K.In s.heap) (I : InstAt s.heap x ox C od) (hs : findIn K (.ref C) name = some (some (.ref f))) (hf : isFn K (.ref f) = true)
    (h : wpAny (model prog w) A (call (.ref f) [.ref x, b]) (fun v s' => v = .notImplemented ∧ Q none s') E s) : wpAny (model prog w) A (tryMethod (.ref x) name b) Q E s := by
  unfold tryMethod
  refine wpAny_bind (special_fn X I hs (beq_iff_eq.mp hf) (wpAny_mono h (fun v s' hv => ?_) fun _ _ e => e))
  obtain ⟨rfl, hq⟩ := hv
  exact wpAny_pure hq
/-- x op y, two own classes: the left one's method declines, the right one's reflected method answers -/
theorem two_refl {op : Operator} {rd : Option Value} {Q : Value → Shared → Prop} (X : K.In s.heap) (I : InstAt s.heap x ox D od) (J : InstAt s.heap y oy C oyd) (hne : D ≠ C) (hc : selfFirst K C = true) (hd : selfFirst K D = true)
    (hs : findIn K (.ref D) (PySem.dunder op.info.2) = some (some (.ref f0))) (hf0 : isFn K (.ref f0) = true) (hr : findIn K (.ref D) (dunderR op.info.2) = some rd) (hp : rd = none ∨ ∃ z : Addr, rd = some (.ref z))
    (hs2 : findIn K (.ref C) (PySem.dunder op.info.2) = some (some (.ref g))) (hr2 : findIn K (.ref C) (dunderR op.info.2) = some (some (.ref f))) (hf : isFn K (.ref f) = true) (hsub : subIn K (.ref C) (.ref D) = some false)
    (h : wpAny (model prog w) A (call (.ref f0) [.ref x, .ref y]) (fun v s1 => v = .notImplemented ∧ K.In s1.heap ∧ (∃ o d, InstAt s1.heap x o D d) ∧ (∃ o d, InstAt s1.heap y o C d) ∧ wpAny (model prog w) A (call (.ref f) [.ref y, .ref x]) (CmpBack Q) E s1) E s) :
    wpAny (model prog w) A (binaryOp op (.ref x) (.ref y)) Q E s := by
  obtain ⟨cd, rest, hcd, hm⟩ := ksp_first hd
  obtain ⟨cd2, rest2, hcd2, hm2⟩ := ksp_first hc
  rcases hi : op.info with ⟨sym, nm⟩
  rw [hi] at hs hr hs2 hr2
  dsimp only at hs hr hs2 hr2
  have one : ∀ {R : Option Value → Shared → Prop}, (∀ s1, K.In s1.heap → (∃ o d, InstAt s1.heap x o D d) → (∃ o d, InstAt s1.heap y o C d) → wpAny (model prog w) A (call (.ref f) [.ref y, .ref x]) (CmpBack Q) E s1 → R none s1) → wpAny (model prog w) A (tryMethod (.ref x) (PySem.dunder nm) (.ref y)) R E s := fun k =>
    try_none X I hs hf0 (wpAny_mono h (fun v s1 z => ⟨z.1, k s1 z.2.1 z.2.2.1 z.2.2.2.1 z.2.2.2.2⟩) fun _ _ e => e)
  obtain ⟨hh, gn, dr, tk, os⟩ := s
  have l1 : Looks (model prog w) hh (typeOf (.ref x)) (.ref D) := I.type
  have l2 : Looks (model prog w) hh (typeOf (.ref y)) (.ref C) := J.type
  have l3 : Looks (model prog w) hh (fillsNumberSlot (.ref D) nm) true := fills_K X hcd hm hs
  have l4 : Looks (model prog w) hh (fillsNumberSlot (.ref C) nm) true := fills_K X hcd2 hm2 hs2
  have l5 : Looks (model prog w) hh (isSubtype (.ref C) (.ref D)) false := looks_subIn X hsub
  have l6 : Looks (model prog w) hh (numberSlotInPython (.ref D) nm) true := ksp_inPy X hs hr hp
  have l7 : Looks (model prog w) hh (numberSlotInPython (.ref C) nm) true := ksp_inPy X hs2 hr2 (.inr ⟨_, rfl⟩)
  have ne : (Value.ref D == Value.ref C) = false := beq_eq_false_iff_ne.mpr fun z => hne (Value.ref.inj z)
  simp only [binaryOp, hi]
  refine wpAny_holding (wpAny_bind ?_)
  unfold binaryOp1
  refine wpAny_bind (l1.at (wpAny_bind (l2.at (wpAny_bind (l3.at ?_)))))
  simp only [ne, Bool.false_eq_true, if_false]
  ksp_lk
  refine one fun s1 X1 ⟨o1, d1, I1⟩ ⟨o2, d2, J1⟩ z => ?_
  have two := ksp_try X1 J1 hr2 hf z
  obtain ⟨hh1, gn1, dr1, tk1, os1⟩ := s1
  have m1 : Looks (model prog w) hh1 (typeOf (.ref x)) (.ref D) := I1.type
  have m2 : Looks (model prog w) hh1 (typeOf (.ref y)) (.ref C) := J1.type
  simp only [if_true]
  refine wpAny_bind (m1.at (wpAny_bind (m2.at ?_)))
  simp only [ne, Bool.false_eq_true, if_false]
  ksp_lk
  refine wpAny_mono two (fun r s' hr' => ?_) fun _ _ e => e
  obtain ⟨v, rfl, hq⟩ := hr'
  ksp_lk
  exact hq
theorem int_mul_own (i : Int) (t : Tok) (y dy : Addr) : Meets (Builtin.«int.__mul__» ⟨[.int i t, .ref y], []⟩) (fun _ R s => s.heap.get? y = some (instObj C dy) ∧ R (.ok (.ret Value.notImplemented)) s) :=
  .of_wp fun prog w A R s h => by
    obtain ⟨hh, gn, dr, tk, os⟩ := s
    obtain ⟨hl, h⟩ := h
    wp_walk
    exact ⟨_, rfl, h⟩
/-- a op y, a of a built-in type, y of an own class with a reflected method, where the type's own method declines -/
theorem blt_refl {op : Operator} {a : Value} {T : String} {Q : Value → Shared → Prop} (ha : typeOf a = pure (.type T)) (X : K.In s.heap) (J : InstAt s.heap y oy C oyd) (hc : selfFirst K C = true) (hfill : fillsNumberSlot (.type T) op.info.2 = pure true)
    (one : ∀ {R : Option Value → Shared → Prop}, R none s → wpAny (model prog w) A (tryMethod a (PySem.dunder op.info.2) (.ref y)) R E s)
    (hs2 : findIn K (.ref C) (PySem.dunder op.info.2) = some (some (.ref g))) (hr2 : findIn K (.ref C) (dunderR op.info.2) = some (some (.ref f))) (hf : isFn K (.ref f) = true) (hsub : subIn K (.ref C) (.type T) = some false)
    (h : wpAny (model prog w) A (call (.ref f) [.ref y, a]) (CmpBack Q) E s) : wpAny (model prog w) A (binaryOp op a (.ref y)) Q E s := by
  obtain ⟨cd2, rest2, hcd2, hm2⟩ := ksp_first hc
  rcases hi : op.info with ⟨sym, nm⟩
  rw [hi] at hs2 hr2 hfill one
  dsimp only at hs2 hr2 hfill one
  have two := ksp_try X J hr2 hf h
  obtain ⟨hh, gn, dr, tk, os⟩ := s
  have l1 : Looks (model prog w) hh (typeOf a) (.type T) := Looks.of_pure ha
  have l2 : Looks (model prog w) hh (typeOf (.ref y)) (.ref C) := J.type
  have l3 : Looks (model prog w) hh (fillsNumberSlot (.type T) nm) true := Looks.of_pure hfill
  have l4 : Looks (model prog w) hh (fillsNumberSlot (.ref C) nm) true := fills_K X hcd2 hm2 hs2
  have l5 : Looks (model prog w) hh (isSubtype (.ref C) (.type T)) false := looks_subIn X hsub
  have l6 : Looks (model prog w) hh (numberSlotInPython (.type T) nm) false := Looks.of_pure rfl
  have ne : (Value.type T == Value.ref C) = false := beq_eq_false_iff_ne.mpr fun z => by cases z
  simp only [binaryOp, hi]
  refine wpAny_holding (wpAny_bind ?_)
  unfold binaryOp1
  refine wpAny_bind (l1.at (wpAny_bind (l2.at (wpAny_bind (l3.at ?_)))))
  simp only [ne, Bool.false_eq_true, if_false]
  ksp_lk
  refine one ?_
  ksp_lk
  refine wpAny_mono two (fun r s' hr' => ?_) fun _ _ e => e
  obtain ⟨v, rfl, hq⟩ := hr'
  ksp_lk
  exact hq
theorem int_call {dy : Addr} {i : Int} {t : Tok} {R : Value → Shared → Prop} (J : s.heap.get? y = some (instObj C dy)) (k : R .notImplemented s) : wpAny (model prog w) A (call (.builtin "int.__mul__") [.int i t, .ref y]) R E s :=
  call_meets F.slot_int_mul (typeIs_int s i t) F.entry_int_mul (F.args_int_mul_2 _ _) (int_mul_own (C := C) i t y dy) ⟨J, k⟩
theorem int_declines {dy : Addr} {i : Int} {t : Tok} {R : Option Value → Shared → Prop} (J : s.heap.get? y = some (instObj C dy)) (k : R none s) : wpAny (model prog w) A (tryMethod (.int i t) (PySem.dunder "mul") (.ref y)) R E s := by
  have hT := typeIs_int s i t
  have hS := F.slot_int_mul
  have z := @wpAny_tryMethod_declines (model prog w) A E s (.int i t) (.ref y) "int" (PySem.dunder "mul") "int.__mul__" R hT hS
  exact z (int_call J ⟨rfl, k⟩)
theorem int_refl {dy : Addr} {i : Int} {t : Tok} {Q : Value → Shared → Prop} (X : K.In s.heap) (J : InstAt s.heap y (instObj C dy) C oyd) (hc : selfFirst K C = true)
    (hs2 : findIn K (.ref C) (PySem.dunder "mul") = some (some (.ref g))) (hr2 : findIn K (.ref C) (dunderR "mul") = some (some (.ref f))) (hf : isFn K (.ref f) = true) (hsub : subIn K (.ref C) (.type "int") = some false)
    (h : wpAny (model prog w) A (call (.ref f) [.ref y, .int i t]) (CmpBack Q) E s) : wpAny (model prog w) A (binaryOp .Mult (.int i t) (.ref y)) Q E s := by
  have e : Operator.info .Mult = ("*", "mul") := rfl
  refine blt_refl (op := .Mult) (T := "int") (g := g) rfl X J hc ?_ (fun {R} k => ?_) ?_ ?_ hf hsub h
  · rw [e]
    exact F.fills_int_mul
  · rw [e]
    exact int_declines J.at_ k
  · rw [e]
    exact hs2
  · rw [e]
    exact hr2
end
end PySem.W
namespace DL
open PySem PySem.Spec PyProof.Rows L2 LR
/-! ## operators of mixed kinds -/
def binB (K : PySem.W.Frag) (nm : String) (C : Addr) : Bool := PySem.W.selfFirst K C && ((match PySem.W.findIn K (.ref C) (PySem.dunder nm) with
    | some (some (.ref _)) => true
    | _ => false) && (match PySem.W.findIn K (.ref C) (dunderR nm) with
    | some none => true
    | some (some (.ref _)) => true
    | _ => false))
structure BinC (K : PySem.W.Frag) (nm : String) (C : Addr) : Prop where
  fst : PySem.W.selfFirst K C = true
  fn : ∃ f : Addr, PySem.W.findIn K (.ref C) (PySem.dunder nm) = some (some (.ref f))
  rf : ∃ rc, PySem.W.findIn K (.ref C) (dunderR nm) = some rc ∧ (rc = none ∨ ∃ z : Addr, rc = some (.ref z))
theorem BinC.of {K : PySem.W.Frag} {nm : String} {C : Addr} (h : binB K nm C = true) : BinC K nm C := by
  unfold binB at h
  obtain ⟨h1, h2⟩ := Bool.and_eq_true_iff.mp h
  obtain ⟨h2, h3⟩ := Bool.and_eq_true_iff.mp h2
  refine ⟨h1, ?_, ?_⟩
  · split at h2
    · rename_i f e
      exact ⟨f, e⟩
    · cases h2
  · split at h3
    · rename_i e
      exact ⟨_, e, .inl rfl⟩
    · rename_i f e
      exact ⟨_, e, .inr ⟨f, rfl⟩⟩
    · cases h3
abbrev gc (K : PySem.W.Frag) (c : Nat) : Addr := He.ga K (cname c)
def mixB (K : PySem.W.Frag) (nm : String) (cs : List Nat) : Bool := cs.all (fun c => binB K nm (gc K c) && ((decide (PySem.W.subIn K (.type "int") (.ref (gc K c)) = some false) && decide (PySem.W.subIn K (.ref (gc K c)) (.type "int") = some false)) &&
    cs.all fun d => decide (c = d) || (decide (gc K c ≠ gc K d) && decide (PySem.W.subIn K (.ref (gc K d)) (.ref (gc K c)) = some false)))) &&
  ((PySem.W.findIn K (.type "int") (PySem.dunder nm)).isSome && (PySem.W.findIn K (.type "int") (dunderR nm)).isSome)
structure Mix (K : PySem.W.Frag) (nm : String) (cs : List Nat) : Prop where
  bin : ∀ c ∈ cs, BinC K nm (gc K c)
  ti : ∀ c ∈ cs, PySem.W.subIn K (.type "int") (.ref (gc K c)) = some false ∧ PySem.W.subIn K (.ref (gc K c)) (.type "int") = some false
  ne : ∀ c ∈ cs, ∀ d ∈ cs, c ≠ d → gc K c ≠ gc K d ∧ PySem.W.subIn K (.ref (gc K d)) (.ref (gc K c)) = some false
  io : (∃ fo, PySem.W.findIn K (.type "int") (PySem.dunder nm) = some fo) ∧ ∃ ro, PySem.W.findIn K (.type "int") (dunderR nm) = some ro
theorem Mix.of {K : PySem.W.Frag} {nm : String} {cs : List Nat} (h : mixB K nm cs = true) : Mix K nm cs := by
  unfold mixB at h
  obtain ⟨h1, h2⟩ := Bool.and_eq_true_iff.mp h
  obtain ⟨h2, h3⟩ := Bool.and_eq_true_iff.mp h2
  have k := fun c hc => Bool.and_eq_true_iff.mp (List.all_eq_true.mp h1 c hc)
  refine ⟨fun c hc => .of (k c hc).1, fun c hc => ?_, fun c hc d hd cd => ?_, Option.isSome_iff_exists.mp h2, Option.isSome_iff_exists.mp h3⟩
  · obtain ⟨z, _⟩ := Bool.and_eq_true_iff.mp (k c hc).2
    obtain ⟨z1, z2⟩ := Bool.and_eq_true_iff.mp z
    exact ⟨of_decide_eq_true z1, of_decide_eq_true z2⟩
  · obtain ⟨_, z⟩ := Bool.and_eq_true_iff.mp (k c hc).2
    have z := List.all_eq_true.mp z d hd
    rw [decide_eq_false cd, Bool.false_or] at z
    obtain ⟨z1, z2⟩ := Bool.and_eq_true_iff.mp z
    exact ⟨of_decide_eq_true z1, of_decide_eq_true z2⟩
section
variable {X : Cx} {W : WX} {a b e : Expr} {ta tb : DT} {sa sb : TE} {pos : Pos} {k : Nat} {f : Addr} {Pm : Prm} {fd : FuncData} {ps : List Str} {sp : Sp} {E : L2.St → XK} {CX : CXT} {c : Nat} {cs : List Nat} {op : Operator}
abbrev R2S := L2.St → R2
def OpS (X : Cx) (op : Operator) (r : R2S) : Prop := ∀ (pins : List (Addr × Obj)) (s : Shared) (σ : L2.St) (H : Hp) (x y : V) (v u : Value) (Q : VK), Inv X pins σ H s → RelV x v → RelV y u → r σ x y H Q →
    wpAny (model X.prog X.w) X.A (binaryOp op v u) (EP X pins σ Q) X.xe s
def tOpS (r : R2S) (ta tb : TE) : TE := fun σ H Q => ta σ H fun x H1 => tb σ H1 fun y H2 => r σ x y H2 Q
theorem pe_opS {r : R2S} (ho : OpS X op r) (ha : PE X a sa) (hb : PE X b sb) : PE X (.BinOp a op b pos) (tOpS r sa sb) :=
  ⟨fun pins s σ H Q I h => wpAny_BinOp (binT ha hb I h fun v u s2 x y H2 I2 rx ry q => ho pins s2 σ H2 x y v u Q I2 rx ry q)⟩
/-- own instance op thing -/
def rMixO (K : PySem.W.Frag) (cs : List Nat) (c : Nat) (sp : Sp) (E : L2.St → XK) : R2S := fun σ x y H Q => ∃ (a dx : Addr) (fs : List (Str × V)), x = .ref a ∧ H a = some (.ins (gc K c) dx fs) ∧
  ((∃ i, y = .int i) ∨ ∃ d ∈ cs, ∃ (b dy : Addr) (gs : List (Str × V)), y = .ref b ∧ H b = some (.ins (gc K d) dy gs)) ∧ sp [.ref a, y] H Q (E σ)
theorem ret_back {pins : List (Addr × Obj)} {σ : L2.St} {Q : VK} {m : Sem Value} {A : Around} {s : Shared} {xe : Value → Shared → Prop} (h : wpAny (model X.prog X.w) A m (EP X pins σ Q) xe s) : wpAny (model X.prog X.w) A m (PySem.W.CmpBack (EP X pins σ Q)) xe s :=
  wpAny_mono h (fun u s' z => by
    obtain ⟨v, H', I', r, q'⟩ := z
    exact cmpBack_of r ⟨v, H', I', r, q'⟩) fun _ _ e => e
theorem op_mixO (M : Mix X.K op.info.2 cs) (hc : c ∈ cs) (hs : PySem.W.findIn X.K (.ref (gc X.K c)) (PySem.dunder op.info.2) = some (some (.ref f))) (hf : PySem.W.isFn X.K (.ref f) = true)
    (F : FnOk X.prog X.w X.K X.mg X.base CX k f fd ps sp) (hr : Room k X.A) (hb : Binds X.K fd ps []) (hx : ∀ σ, PassesAt CX X σ (E σ)) : OpS X op (rMixO X.K cs c sp E) := by
  intro pins s σ H x y v u Q I rx ry h
  obtain ⟨a, dx, fs, rfl, ha, ho, q⟩ := h
  cases rx
  obtain ⟨mA, J, _⟩ := ins_get I.hok ha
  obtain ⟨od, J, _⟩ := J.look
  obtain ⟨m, hF⟩ := I.fr
  obtain ⟨rc, hr1, hr2⟩ := (M.bin c hc).rf
  have go := ret_back (run_fnS (us := [.ref a, u]) (vs := [.ref a, y]) F hr hb (hx σ) I (.cons rfl (.cons ry .nil)) q)
  rcases ho with ⟨i, rfl⟩ | ⟨d, hd, b, dy, gs, rfl, hb'⟩
  · obtain ⟨t, rfl⟩ := ry
    obtain ⟨⟨fo, h1⟩, ⟨ro, h2⟩⟩ := M.io
    exact PySem.W.ksp_binT (T := "int") hF I.ok.mod.kin J rfl (M.bin c hc).fst hs hf hr1 hr2 h1 h2 (M.ti c hc).1 go
  · cases ry
    obtain ⟨mB, J', _⟩ := ins_get I.hok hb'
    obtain ⟨od', J', _⟩ := J'.look
    by_cases hcd : c = d
    · subst hcd
      exact PySem.W.binop_K hF I.ok.mod.kin J J'.type (M.bin c hc).fst hs hf go
    · obtain ⟨n1, n2⟩ := M.ne c hc d hd hcd
      obtain ⟨g, hg⟩ := (M.bin d hd).fn
      obtain ⟨rd, hd1, hd2⟩ := (M.bin d hd).rf
      exact PySem.W.two_own I.kIn J J'.type n1 (M.bin c hc).fst (M.bin d hd).fst hs hf hr1 hr2 hg hd1 hd2 n2 go
def dOpX (r : D → D → (D → Prop) → EX → Prop) (ta tb : DT) : DT := fun env Q ex => ta env (fun x => tb env (fun y => r x y Q ex) ex) ex
def othD (cs : List Nat) : D → Bool
  | .int _ => true | .ins c _ => cs.contains c | _ => false
def dMixO (cs : List Nat) (c : Nat) (P : Prm) : D → D → (D → Prop) → EX → Prop := fun a b Q ex => (∃ l, a = .ins c l) ∧ othD cs b = true ∧ P [a, b] Q ex
theorem pd_mixO (M : Mix X.K op.info.2 cs) (hc : c ∈ cs) (hs : PySem.W.findIn X.K (.ref (gc X.K c)) (PySem.dunder op.info.2) = some (some (.ref f))) (hf : PySem.W.isFn X.K (.ref f) = true)
    (F : Fn X.prog X.w X.K X.mg X.base f k 2 Pm) (hr : Room k X.A) (tk : Takes X W) (ha : PD X W a ta) (hb : PD X W b tb) : PD X W (.BinOp a op b pos) (dOpX (dMixO cs c Pm) ta tb) := by
  obtain ⟨_, pa, la⟩ := ha.of
  obtain ⟨_, pb, lb⟩ := hb.of
  refine ⟨_, pe_opS (op_mixO M hc hs hf F.ok hr F.bd (fun σ => passAt tk σ)) pa pb, fun H0 G0 G H σ env Q ex R S L q g => la H0 G0 G H σ env _ ex _ S L q fun v H1 G1 d x1 r1 q1 => ?_⟩
  refine lb H0 G0 G1 H1 σ env _ ex _ (S.ex x1) (L.mono x1.gg) q1 fun u H2 G2 d2 x2 r2 ⟨⟨l, e1⟩, hk, q2⟩ => ?_
  subst e1
  have x12 := x1.trans x2
  obtain ⟨p, dx, ws, rfl, hp, _, _⟩ := id (r1.same x2.gg).ins_inv
  refine ⟨p, dx, _, rfl, x2.sub _ _ hp, ?_, sp_call (S.ex x12) (L.mono x12.gg) F.len ((Reps.one r2).cons (r1.same x2.gg)) q2 fun w H3 G3 d3 x3 r3 q3 => g w H3 G3 d3 (x12.trans x3) r3 q3⟩
  cases d2 with
  | int i => exact .inl ⟨i, r2.int_inv⟩
  | ins c' m =>
    obtain ⟨p', dx', ws', rfl, hp', _, _⟩ := id r2.ins_inv
    exact .inr ⟨c', List.contains_iff_mem.mp hk, p', dx', _, rfl, x2.sub _ _ hp'⟩
  | non => cases hk
  | bl b => cases hk
  | str s => cases hk
  | lst l => cases hk
  | tup l => cases hk
/-! int * own -/
def rRefI (K : PySem.W.Frag) (c : Nat) (sp : Sp) (E : L2.St → XK) : R2S := fun σ x y H Q => ∃ (i : Int) (b dy : Addr) (gs : List (Str × V)), x = .int i ∧ y = .ref b ∧ H b = some (.ins (gc K c) dy gs) ∧ sp [.ref b, .int i] H Q (E σ)
theorem op_refI (M : Mix X.K "mul" cs) (hc : c ∈ cs) (hs : PySem.W.findIn X.K (.ref (gc X.K c)) (dunderR "mul") = some (some (.ref f))) (hf : PySem.W.isFn X.K (.ref f) = true)
    (F : FnOk X.prog X.w X.K X.mg X.base CX k f fd ps sp) (hr : Room k X.A) (hb : Binds X.K fd ps []) (hx : ∀ σ, PassesAt CX X σ (E σ)) : OpS X .Mult (rRefI X.K c sp E) := by
  intro pins s σ H x y v u Q I rx ry h
  obtain ⟨i, b, dy, gs, rfl, rfl, hb', q⟩ := h
  obtain ⟨t, rfl⟩ := rx
  cases ry
  obtain ⟨mB, J, _⟩ := ins_get I.hok hb'
  obtain ⟨od, J, _⟩ := J.look
  obtain ⟨g, hg⟩ := (M.bin c hc).fn
  exact PySem.W.int_refl I.kIn J (M.bin c hc).fst hg hs hf (M.ti c hc).2 (ret_back (run_fnS (us := [.ref b, .int i t]) (vs := [.ref b, .int i]) F hr hb (hx σ) I (.cons rfl (.cons ⟨t, rfl⟩ .nil)) q))
def dRefI (c : Nat) (P : Prm) : D → D → (D → Prop) → EX → Prop := fun a b Q ex => (∃ i, a = .int i) ∧ (∃ l, b = .ins c l) ∧ P [b, a] Q ex
theorem pd_refI (M : Mix X.K "mul" cs) (hc : c ∈ cs) (hs : PySem.W.findIn X.K (.ref (gc X.K c)) (dunderR "mul") = some (some (.ref f))) (hf : PySem.W.isFn X.K (.ref f) = true)
    (F : Fn X.prog X.w X.K X.mg X.base f k 2 Pm) (hr : Room k X.A) (tk : Takes X W) (ha : PD X W a ta) (hb : PD X W b tb) : PD X W (.BinOp a .Mult b pos) (dOpX (dRefI c Pm) ta tb) := by
  obtain ⟨_, pa, la⟩ := ha.of
  obtain ⟨_, pb, lb⟩ := hb.of
  refine ⟨_, pe_opS (op_refI M hc hs hf F.ok hr F.bd (fun σ => passAt tk σ)) pa pb, fun H0 G0 G H σ env Q ex R S L q g => la H0 G0 G H σ env _ ex _ S L q fun v H1 G1 d x1 r1 q1 => ?_⟩
  refine lb H0 G0 G1 H1 σ env _ ex _ (S.ex x1) (L.mono x1.gg) q1 fun u H2 G2 d2 x2 r2 ⟨⟨i, e1⟩, ⟨l, e2⟩, q2⟩ => ?_
  subst e1 e2
  have x12 := x1.trans x2
  obtain ⟨p, dx, ws, rfl, hp, _, _⟩ := id r2.ins_inv
  have ei := r1.int_inv
  subst ei
  exact ⟨i, p, dx, _, rfl, rfl, x2.sub _ _ hp, sp_call (S.ex x12) (L.mono x12.gg) F.len ((Reps.one (.int i)).cons r2) q2 fun w H3 G3 d3 x3 r3 q3 => g w H3 G3 d3 (x12.trans x3) r3 q3⟩
end
/-! ## a method that declines -/
structure Nim (P : Program) (w : World) (K : PySem.W.Frag) (mg : Str → Option Value) (base : Heap) (f : Addr) (k : Nat) (C : D → Prop) : Prop where
  run : ∀ (A : Around) (outer : List Env) (s : Shared) (H G : Hp) (x y : V) (u v : Value) (a b : D), Room k A → Env0 P w K mg base A outer s H → RelV x u → RelV y v → Same G H → Rep K G x a → Rep K G y b → C b →
    codeAny (model P w) A (.call (.ref f) ⟨[u, v], []⟩) (fun r s' => r = .ok (.ret .notImplemented) ∧ CE outer P w H s (fun _ H' => ∃ G', Ext G H G' H') .none s') s
theorem Nim.of {P : Program} {w : World} {K : PySem.W.Frag} {mg : Str → Option Value} {base : Heap} {x qual : Str} {params : Arguments} {body rest : List Stmt} {scope : Scope} {f : Addr} {N ps : List Str} {k : Nat} {C : D → Prop} {c : Expr} {p1 p2 p3 : Pos}
    (h : ∃ fd, FunD K x qual params body scope [] [] f fd) (S : FnScope N ps scope) (hn : ps.length = 2)
    (hb : ∀ (kV doc pm : Value) (an : Option Addr) (cdv ct : Value) (us : List Value), us.length = ps.length → bindArgs (PySem.W.fnOf x qual params body scope .none kV doc pm an cdv ct) ⟨us, []⟩ = pure (ps.zip us))
    (hbd : body = .If c [.Return (some (.Name "NotImplemented" p1)) p2] [] p3 :: rest) (hm : mg "NotImplemented" = none)
    (hbody : ∀ (cdv : Value) (A : Around) (outer : List Env) (s : Shared) (H : Hp), Room k (A.deeper (envOfC qual scope s.heap.objs.size f cdv)) →
      Gl (cxOf CX0 P w K mg base N qual scope f cdv A outer s H (fun _ _ _ => False)) "NotImplemented" ∧ ∃ t, PDT (cxOf CX0 P w K mg base N qual scope f cdv A outer s H (fun _ _ _ => False)) WN c t ∧ ∀ a b, C b → t (start N.length [a, b]) (fun q => q = true) (fun _ _ => False)) :
    Nim P w K mg base f (k + 1) C := by
  obtain ⟨fd, F⟩ := h
  refine ⟨fun A outer s H G x0 y0 u v a b hr e0 ru rv sG ra rb hC => ?_⟩
  have bd := FunD.bindsA (ps := ps) F (fun kV doc pm an cdv ct us hl => hb kV doc pm an cdv ct us hl) s [u, v] (by rw [hn]; rfl)
  obtain ⟨oc, od, dV, kV, doc, pm, an, cdv, ct, osl, rfl, lk, hcd, _, _⟩ := F.ex
  have rr : Vals [x0, y0] [u, v] := .cons ru (.cons rv .nil)
  have kin : K.In s.heap := e0.mod.kin.keeps fun b o e => (e0.bs b o e).1
  have noL : s.heap.NoLimit := e0.mod.nolimit.keeps fun b o e => (e0.bs b o e).1
  have kinds : ∀ z ∈ ps.zip [u, v], scope.names.lookup z.1 = some .local ∨ (scope.names.lookup z.1 = some .cell ∧ ((cellsFrom (s.heap.objs.size + 1) scope.names []).lookup z.1).isSome = true) := fun z hz =>
    (S.par z.1 (List.of_mem_zip (a := z.1) (b := z.2) hz).1).imp id fun q => ⟨q, PySem.W.cellsFrom_some _ _ _ (.inl q)⟩
  refine codeAny_call_function hr.depth (kin _ _ lk) rfl S.co S.gen rfl (PySem.W.codeRec_of kin hcd) (bd _ _ _ _ ?_)
  refine wpAny_newFunctionEnv_cells S.kind kinds fun env he s1 xc => ?_
  subst he
  refine ⟨noL.keeps xc.toInCall.keep, codeAny_func ?_⟩
  obtain ⟨hg, t, pd, hq⟩ := hbody cdv A outer s H (hr.deeper _)
  obtain ⟨tt, pt, lt⟩ := pd.of
  have I : Inv (cxOf CX0 P w K mg base N qual scope f cdv A outer s H (fun _ _ _ => False)) [] (L2.start N [x0, y0]) H s1 := inv_start S hr.hd e0 (by rw [hn]; rfl) rr xc
  have go := lt H G G H _ _ _ _ (fun b H' => b = true ∧ ∃ G', Ext G H G' H') (sr_start sG ((Reps.one rb).cons ra)) LkE.no (hq a b hC) fun b H' G' x' q' => ⟨q', G', x'⟩
  have main : wpAny (model P w) (A.deeper (envOfC qual scope s.heap.objs.size f cdv)) (execs body (envOfC qual scope s.heap.objs.size f cdv)) (fun fl s' => fl = .ret .notImplemented ∧ ∃ H' G', Inv (cxOf CX0 P w K mg base N qual scope f cdv A outer s H (fun _ _ _ => False)) [] (L2.start N [x0, y0]) H' s' ∧ Ext G H G' H')
      (cxOf CX0 P w K mg base N qual scope f cdv A outer s H (fun _ _ _ => False)).xe s1 := by
    rw [hbd]
    refine wpAny_execs_cons (wpAny_If (thn (pt.run [] s1 _ H _ I go) fun d s2 z => ?_))
    obtain ⟨H2, I2, rfl, G2, x2⟩ := z
    refine wpAny_execs_cons (wpAny_Return_some (ld_blt (u := .notImplemented) I2 hg hm (by decide +kernel) ?_))
    exact ⟨rfl, H2, G2, I2, x2⟩
  refine wpAny_mono main (fun fl s' z => ?_) fun e s' z => ?_
  · obtain ⟨rfl, H', G', J, x'⟩ := z
    exact ⟨rfl, .non, H', J.os, J.bare, J.base, J.hok, rfl, G', x'⟩
  · exact wpAny_mono z (fun _ _ q => q.elim) fun _ _ q => q.elim
section
variable {X : Cx} {W : WX} {a b e : Expr} {ta tb : DT} {sa sb : TE} {pos : Pos} {k k0 : Nat} {f f0 : Addr} {Pm : Prm} {fd : FuncData} {ps : List Str} {sp : Sp} {E : L2.St → XK} {CX : CXT} {c d : Nat} {cs : List Nat} {op : Operator} {C : D → Prop}
/-- own * own, the left one's method declines -/
def rRefN (K : PySem.W.Frag) (d c : Nat) (C : D → Prop) (sp : Sp) (E : L2.St → XK) : R2S := fun σ x y H Q => ∃ (G : Hp) (dx' dy' : D) (a dx : Addr) (fs : List (Str × V)) (b dy : Addr) (gs : List (Str × V)), Same G H ∧ Rep K G x dx' ∧ Rep K G y dy' ∧ C dy' ∧ x = .ref a ∧ H a = some (.ins (gc K d) dx fs) ∧ y = .ref b ∧ H b = some (.ins (gc K c) dy gs) ∧
  ∀ H' G', Ext G H G' H' → sp [.ref b, .ref a] H' Q (E σ)
theorem op_refN (M : Mix X.K op.info.2 cs) (hc : c ∈ cs) (hd : d ∈ cs) (hcd : d ≠ c) (hs0 : PySem.W.findIn X.K (.ref (gc X.K d)) (PySem.dunder op.info.2) = some (some (.ref f0))) (hf0 : PySem.W.isFn X.K (.ref f0) = true) (N : Nim X.prog X.w X.K X.mg X.base f0 k0 C) (hr0 : Room k0 X.A)
    (hs : PySem.W.findIn X.K (.ref (gc X.K c)) (dunderR op.info.2) = some (some (.ref f))) (hf : PySem.W.isFn X.K (.ref f) = true)
    (F : FnOk X.prog X.w X.K X.mg X.base CX k f fd ps sp) (hr : Room k X.A) (hb : Binds X.K fd ps []) (hx : ∀ σ, PassesAt CX X σ (E σ)) : OpS X op (rRefN X.K d c C sp E) := by
  intro pins s σ H x y v u Q I rx ry h
  obtain ⟨G, d1, d2, a, dx, fs, b, dy, gs, sG, r1, r2, hC, rfl, ha, rfl, hb', q⟩ := h
  cases rx
  cases ry
  have inst : ∀ {H' : Hp} {s' : Shared} {p dp : Addr} {n : Nat} {hs : List (Str × V)}, Inv X pins σ H' s' → H' p = some (.ins (gc X.K n) dp hs) → ∃ o dd, PySem.W.InstAt s'.heap p o (gc X.K n) dd := fun J e => by
    obtain ⟨mA, Z, _⟩ := ins_get J.hok e
    obtain ⟨od, Z, _⟩ := Z.look
    exact ⟨_, _, Z⟩
  obtain ⟨o1, q1, J1⟩ := inst I ha
  obtain ⟨o2, q2, J2⟩ := inst I hb'
  obtain ⟨n1, _⟩ := M.ne d hd c hc hcd
  obtain ⟨_, n2⟩ := M.ne d hd c hc hcd
  obtain ⟨rd, hd1, hd2⟩ := (M.bin d hd).rf
  obtain ⟨g, hg⟩ := (M.bin c hc).fn
  refine PySem.W.two_refl I.kIn J1 J2 n1 (M.bin c hc).fst (M.bin d hd).fst hs0 hf0 hd1 hd2 hg hs hf n2 (wpAny_call (codeAny_mono (N.run X.A X.stack s H G (.ref a) (.ref b) (.ref a) (.ref b) d1 d2 hr0 I.env0 rfl rfl sG r1 r2 hC) fun r s1 z => ?_))
  obtain ⟨rfl, z⟩ := z
  obtain ⟨_, H1, I1, _, G1, x1⟩ := I.after z
  exact ⟨rfl, I1.kIn, inst I1 (x1.hh _ _ ha), inst I1 (x1.hh _ _ hb'), ret_back (run_fnS (us := [.ref b, .ref a]) (vs := [.ref b, .ref a]) F hr hb (hx σ) I1 (.cons rfl (.cons rfl .nil)) (q H1 G1 x1))⟩
def dRefN (d c : Nat) (C : D → Prop) (P : Prm) : D → D → (D → Prop) → EX → Prop := fun a b Q ex => (∃ l, a = .ins d l) ∧ (∃ l, b = .ins c l) ∧ C b ∧ P [b, a] Q ex
theorem pd_refN (M : Mix X.K op.info.2 cs) (hc : c ∈ cs) (hd : d ∈ cs) (hcd : d ≠ c) (hs0 : PySem.W.findIn X.K (.ref (gc X.K d)) (PySem.dunder op.info.2) = some (some (.ref f0))) (hf0 : PySem.W.isFn X.K (.ref f0) = true) (N : Nim X.prog X.w X.K X.mg X.base f0 k0 C) (hr0 : Room k0 X.A)
    (hs : PySem.W.findIn X.K (.ref (gc X.K c)) (dunderR op.info.2) = some (some (.ref f))) (hf : PySem.W.isFn X.K (.ref f) = true)
    (F : Fn X.prog X.w X.K X.mg X.base f k 2 Pm) (hr : Room k X.A) (tk : Takes X W) (ha : PD X W a ta) (hb : PD X W b tb) : PD X W (.BinOp a op b pos) (dOpX (dRefN d c C Pm) ta tb) := by
  obtain ⟨_, pa, la⟩ := ha.of
  obtain ⟨_, pb, lb⟩ := hb.of
  refine ⟨_, pe_opS (op_refN M hc hd hcd hs0 hf0 N hr0 hs hf F.ok hr F.bd (fun σ => passAt tk σ)) pa pb, fun H0 G0 G H σ env Q ex R S L q g => la H0 G0 G H σ env _ ex _ S L q fun v H1 G1 d' x1 r1 q1 => ?_⟩
  refine lb H0 G0 G1 H1 σ env _ ex _ (S.ex x1) (L.mono x1.gg) q1 fun u H2 G2 d2 x2 r2 ⟨⟨i, e1⟩, ⟨l, e2⟩, hC, q2⟩ => ?_
  subst e1 e2
  have x12 := x1.trans x2
  have r1' := r1.same x2.gg
  obtain ⟨p, dx, ws, rfl, hp, _, _⟩ := id r1'.ins_inv
  obtain ⟨p', dx', ws', rfl, hp', _, _⟩ := id r2.ins_inv
  refine ⟨G2, _, _, p, dx, _, p', dx', _, x2.sub, r1', r2, hC, rfl, x2.sub _ _ hp, rfl, x2.sub _ _ hp', fun H' G' x' => ?_⟩
  have x3 := x12.trans x'
  exact sp_call (S.ex x3) (L.mono x3.gg) F.len ((Reps.one (r1'.same x'.gg)).cons (r2.same x'.gg)) q2 fun w H3 G3 d3 x4 r3 q3 => g w H3 G3 d3 (x3.trans x4) r3 q3
end
end DL

/-! several clauses, each with a name -/
namespace LR
open PySem PySem.Spec PyProof.Rows L2
abbrev ClA := Value × Nat × (Addr → Value → Option Addr → TS)
def offS (i : Nat) (D : Ends) : Ends := { nx := fun σ H => D.nx (σ.set i none) H, rt := D.rt, bk := fun σ H => D.bk (σ.set i none) H, ct := fun σ H => D.ct (σ.set i none) H }
def wAll (K : PySem.W.Frag) (Wout : WX) (D : Ends) : List ClA → WX
  | [] => Wout
  | q :: r => fun cls d σ H => ∃ b, PySem.W.exmOne K cls q.1 = some b ∧ (b = true → ∀ a, H a = none → q.2.2 a cls d (offS q.2.1 D) (σ.set q.2.1 (some (.ref a))) H) ∧ (b = false → wAll K Wout D r cls d σ H)
inductive HdA (X : Cx) : List ExceptHandler → List ClA → Prop
  | nil : HdA X [] []
  | cons {x n : Str} {c : Value} {i : Nat} {ts : Addr → Value → Option Addr → TS} {st : Stmt} {sts : List Stmt} {np ps : Pos} {hds : List ExceptHandler} {l : List ClA} (hc : Names X x c) (hi : X.N[i]? = some n) (hk : X.env.kindOf n = some .local)
      (hsu : ∀ (a : Addr) (oe : Obj) (cls : Value) (d : Option Addr) (pn : List (Addr × Obj)), Zc cls d oe → (∃ vs, oe.data = .fields vs) → PSs (X.suite a ((a, oe) :: pn)) (st :: sts) (ts a cls d)) (r : HdA X hds l) :
      HdA X (.ExceptHandler (some (.Name x np)) (some n) (st :: sts) ps :: hds) ((c, i, ts) :: l)
section
variable {X : Cx} {body : List Stmt} {h0 : ExceptHandler} {hds : List ExceptHandler} {l : List ClA} {pos : Pos} {tb : WX → TS} {Wout : WX}
theorem ps_tryN (hs : X.stack = X.env :: X.outer) (hf : X.env.frame = some X.env.locals) (hN : X.N.Nodup) (tk : Takes X Wout)
    (hb : ∀ (W : WX) (pn : List (Addr × Obj)) (xe : Value → Shared → Prop), Takes (X.tr pn xe) W → PassesOwn (model X.prog X.w) X.A X.env xe → PSs (X.tr pn xe) body (tb W)) (hh : HdA X (h0 :: hds) l) :
    PS X (.Try body (h0 :: hds) [] [] pos) (fun D σ H => tb (wAll X.K Wout D l) D σ H) := by
  refine ⟨fun pins s σ H D I h => wpAny_Try_except (wpAny_mono ((hb (wAll X.K Wout D l) (X.pn ++ pins) (fun e s₁ => wpAny (model X.prog X.w) X.A (noteFrame e X.env) (fun _ s₂ => wpAny (model X.prog X.w) X.A (setFlight e none) (fun _ s₃ =>
    wpAny (model X.prog X.w) X.A (handleBy e X.env (h0 :: hds)) (SP X pins D) X.xe s₃) X.xe s₂) X.xe s₁) (fun u s' xx => ?_) PassesOwn.looking).run [] s σ H D (I.toTry _) h) (fun f s1 z => ?_) fun e s1 he => he)⟩
  · obtain ⟨a, B, sI, pins', σ1, H1, cls, d, rfl, J', nb, up, sky, na, os, ag, wish⟩ := xx
    have J : Inv X pins σ1 H1 sI := J'.ofTry I.ok
    have frs0 : X.A.frames = some (X.env :: X.outer) := I.ok.frames.trans (by rw [hs])
    refine Sky.land Zc.steady frs0 hf (hs ▸ sky) fun h3 fl3 up3 => ?_
    have u3 := up.trans up3
    obtain ⟨o3, v3, e3, z3, d3⟩ := fl3.there
    have away : a ∉ frs (X.env :: X.outer) := fun hm => by
      obtain ⟨_, o', e', hnf⟩ := fl3.2.2.1.mem hm
      rw [e3] at e'
      cases e'
      exact hnf _ d3
    have awL : a ≠ X.env.locals := fun z => away (List.mem_filterMap.mpr ⟨X.env, List.mem_cons_self, by rw [hf, z]⟩)
    have awF : a ∉ X.fs := fun hm => by
      obtain ⟨e, he, q⟩ := List.mem_filterMap.mp hm
      exact away (List.mem_filterMap.mpr ⟨e, List.mem_cons_of_mem _ he, q⟩)
    have J3 : Inv X pins σ1 H1 { s' with heap := h3 } := J.landed nb fl3.1 u3 os ag
    have S3 := J3.suite e3 d3 na awL awF
    have ty : PySem.W.Looks (model X.prog X.w) h3 (typeOf (.ref a)) cls := fun A Q E s k q => wpAny_typeOf_ref (k _ _ e3) (z3.1.symm ▸ q)
    suffices go : ∀ {hs' : List ExceptHandler} {l' : List ClA}, HdA X hs' l' → wAll X.K Wout D l' cls d σ1 H1 → wpAny (model X.prog X.w) X.A (handleBy (.ref a) X.env hs') (SP X pins D) X.xe { s' with heap := h3 } from go hh wish
    intro hs' l' hk
    induction hk with
    | nil =>
      intro wish
      refine wpAny_handleBy_nil ?_
      obtain ⟨_, _, _, _, _, T, _, _, he, _, hd, h1, _⟩ := id fl3
      unfold PySem.passOn
      refine wpAny_bind (wpAny_field he hd h1 ?_)
      rw [if_neg (by simp)]
      have up_ : wpAny (model X.prog X.w) X.A (setFlight (.ref a) X.env.frame) (fun _ s4 => wpAny (model X.prog X.w) X.A (throw (.ref a) : Sem Flow) (SP X pins D) X.xe s4) X.xe { s' with heap := h3 } := by
        rw [hf]
        exact HandSPX.setFlight_upZ fl3 fun h4 hh4 up4 => wpAny_throw (tk _ _ ⟨a, B, sI, pins, σ1, H1, cls, d, rfl, J, nb, u3.trans up4, .inr (.inr (hs ▸ hh4)), na, os, ag, wish⟩)
      first
        | exact wpAny_bind up_
        | exact wpAny_bind (wpAny_pure (wpAny_bind up_))
    | @cons x n c i ts st sts np ps hs2 l2 hc hi hkn hsu r ih =>
      intro ⟨b, hb1, hyes, hno⟩
      refine wpAny_handleBy_cons (codeAny_handlers_test ?_) (by intro q; cases q)
      have named : ∀ {Q E : Value → Shared → Prop}, Q c { s' with heap := h3 } → wpAny (model X.prog X.w) (X.A.mark (some (.ref a))) (eval (.Name x np) X.env) Q E { s' with heap := h3 } := fun {Q E} q =>
        match hc with
        | ⟨g, dbg, .inl m⟩ => ld_glob (X := X.suite a ((a, o3) :: (X.pn ++ pins))) S3 g m q dbg
        | ⟨g, dbg, .inr ⟨m, bv, nn⟩⟩ => ld_blt (X := X.suite a ((a, o3) :: (X.pn ++ pins))) S3 g m bv q nn dbg
      refine named ((PySem.W.exm_one (M := model X.prog X.w) J3.kIn ty hb1).here ?_)
      cases b with
      | false => exact ih (hno rfl)
      | true =>
        refine codeAny_handlers_suite_as (HandSPX.lands_againZ fl3 fun h4 fl4 up4 => ?_)
        obtain ⟨o4, v4, e4, z4, d4⟩ := fl4.there
        have J4 : Inv X pins σ1 H1 { s' with heap := h4 } := J.landed nb fl4.1 (u3.trans up4) os ag
        have S4 := J4.suite e4 d4 na awL awF
        refine store_ok (X := X.suite a ((a, o4) :: (X.pn ++ pins))) (v := .ref a) S4 hN hi (.inl hkn) rfl (fun s5 S5 => ?_) (.inr hkn)
        refine wpAny_mono ((hsu a o4 cls d (X.pn ++ pins) z4 ⟨_, d4⟩).run [] s5 _ H1 _ S5 (hyes rfl a na)) (fun f s6 z => ?_) fun _ _ z => z.elim
        have off : ∀ {σ6 : L2.St} {H6 : Hp} {Q : Shared → Prop}, Inv (X.suite a ((a, o4) :: (X.pn ++ pins))) [] σ6 H6 s6 → (∀ s7, Inv X pins (σ6.set i none) H6 s7 → Q s7) →
          wpAny (model X.prog X.w) X.A (do bindName X.env n .none; unbindBehindTheSuite X.env n ps) (fun _ s7 => Q s7) X.xe s6 := fun S6 hq => gone_ok (S6.unsuite I.ok) hN hi hkn hq
        cases f with
        | next => exact match z with | ⟨_, _, S6, q6⟩ => off S6 fun s7 J7 => ⟨_, _, J7, q6⟩
        | brk => exact match z with | ⟨_, _, S6, q6⟩ => off S6 fun s7 J7 => ⟨_, _, J7, q6⟩
        | cont => exact match z with | ⟨_, _, S6, q6⟩ => off S6 fun s7 J7 => ⟨_, _, J7, q6⟩
        | ret u => exact match z with | ⟨_, _, _, S6, r6, q6⟩ => off S6 fun s7 J7 => ⟨_, _, _, J7, r6, q6⟩
  · cases f with
    | next => exact match z with | ⟨_, _, J', q⟩ => wpAny_execs_nil ⟨_, _, J'.ofTry I.ok, q⟩
    | brk => exact match z with | ⟨_, _, J', q⟩ => ⟨_, _, J'.ofTry I.ok, q⟩
    | cont => exact match z with | ⟨_, _, J', q⟩ => ⟨_, _, J'.ofTry I.ok, q⟩
    | ret u => exact match z with | ⟨_, _, _, J', r, q⟩ => ⟨_, _, _, J'.ofTry I.ok, r, q⟩
end
/-! any(xs) of a tuple of ints; lcm -/
section
variable {X : Cx}
def rAnyT (K : PySem.W.Frag) : List V → Hp → VK → Prop := fun vs H Q => ∃ (a : Addr) (ns : List Int), vs = [V.ref a] ∧ SqT K H a (ns.map V.int) ∧ Q (.bl (ns.any (· != 0))) H
theorem any_at : ∀ ns : List Int, (List.range ns.length).any (fun i => ns.getD i 0 != 0) = ns.any (· != 0)
  | [] => rfl
  | b :: bs => by
    rw [List.length_cons, List.range_succ_eq_map, List.any_cons, List.any_map, List.any_cons, ← any_at bs]
    rfl
theorem truth_ints {prog : Program} {w : World} {A : Around} {ns : List Int} {its : List Value} (r : Vals (ns.map V.int) its) : TruthOf prog w A (fun i v => its.toArray[i]? = some v) (fun i => ns.getD i 0 != 0) := fun i v s Q E hv hq => by
  have hv' : its[i]? = some v := by simpa using hv
  have hl := r.length
  have hi : i < (ns.map V.int).length := by
    rw [hl]
    exact (List.getElem?_eq_some_iff.mp hv').1
  obtain ⟨u, hu, ru⟩ := r.get (List.getElem?_eq_getElem hi)
  rw [hv'] at hu
  cases hu
  rw [List.getElem_map] at ru
  obtain ⟨t, rfl⟩ := ru
  have hi' : i < ns.length := by simpa using hi
  have e : ns.getD i 0 = ns[i] := by rw [List.getD_eq_getElem?_getD, List.getElem?_eq_getElem hi']; rfl
  dsimp only at hq
  rw [e] at hq
  exact PyProof.Rows.truthy_int hq
theorem cr_anyT (hc : X.calm = true) : CallR X (.builtin "any") (rAnyT X.K) := by
  intro pins s σ H vs us Q I r h
  obtain ⟨a, ns, rfl, hs, q⟩ := h
  obtain ⟨its, rv, hl, _⟩ := I.tuple hs
  rw [Vals.ref1 r]
  have ht : s.heap.IsTuple a its.toArray := hl
  have hlt : a < s.heap.objs.size := by
    obtain ⟨_, e, _⟩ := id ht
    exact Heap.lt_size e
  refine call_any_walk (wpAny_pyIter_tuple ht ?_)
  refine ⟨_, _, _, _, _, _, _, rfl, Walks.tuple (A := X.A.in1) (I.ok.hd hc) _ a (Nat.ne_of_lt hlt) its.toArray, ⟨⟨_, Heap.get?_push_size _ rfl, rfl, rfl⟩, ht.push _⟩, truth_ints rv, fun h' tk hk => ?_⟩
  refine ⟨.bl _, H, I.kept fun b o eo => hk b o (fun hm => ?_) (Heap.get?_push_of_some _ eo), ?_, q⟩
  · have e1 := List.mem_singleton.mp hm
    exact absurd (e1 ▸ Heap.lt_size eo) (Nat.lt_irrefl _)
  · show Value.bool _ = Value.bool _
    rw [← any_at, List.size_toArray, ← rv.length, List.length_map]
def rLcm : List V → Hp → VK → Prop := fun vs H Q => ∃ a b : Int, vs = [.int a, .int b] ∧ a.natAbs < 2 ^ 64 ∧ b.natAbs < 2 ^ 64 ∧ Q (.int ((Nat.lcm a.natAbs b.natAbs : Nat) : Int)) H
theorem cr_lcm : CallR X (.builtin "math.lcm") rLcm := by
  intro pins s σ H vs us Q I r h
  obtain ⟨a, b, rfl, ha, hb, q⟩ := h
  obtain ⟨t, u, rfl⟩ := Vals.int2 r
  exact PySem.W.mc_lcm ha hb fun _ => ⟨.int _, H, I.tok _, ⟨_, rfl⟩, q⟩
/-! len(x), x[i] by own methods -/
variable {CX : CXT} {k : Nat} {C f : Addr} {fd : FuncData} {ps : List Str} {sp : Sp} {E : XK} {a b : Expr} {ta tb : TE} {pos : Pos}
def rLenO (C : Addr) (sp : Sp) (E : XK) : List V → Hp → VK → Prop := fun xs H Q => ∃ (a dx : Addr) (fs : List (Str × V)), xs = [.ref a] ∧ H a = some (.ins C dx fs) ∧ sp [.ref a] H (fun v H' => ∃ n : Int, v = .int n ∧ 0 ≤ n ∧ n < 2 ^ 63 ∧ Q v H') E
theorem call_lenO (hs : PySem.W.findIn X.K (.ref C) "__len__" = some (some (.ref f))) (hf : PySem.W.isFn X.K (.ref f) = true)
    (F : FnOk X.prog X.w X.K X.mg X.base CX k f fd ps sp) (hr : Room (k + 1) X.A) (hb : Binds X.K fd ps []) (hx : Passes CX X.nox E) : CallR X (.builtin "len") (rLenO C sp E) := by
  intro pins s σ H xs us Q I r h
  obtain ⟨a, dx, fs, rfl, ha, q⟩ := h
  obtain ⟨u, rfl, ru⟩ := vals1 r
  cases ru
  obtain ⟨mA, J, _⟩ := ins_get I.hok ha
  obtain ⟨od, J, _⟩ := J.look
  obtain ⟨m, hF⟩ := I.fr
  have hl : [Value.ref a].length = ps.length := (F.len _ _ _ _ q).symm ▸ rfl
  refine PySem.W.len_K hF I.ok.mod.kin J hs hf (wpAny_call (codeAny_mono (F.run X.A.in1 X.stack s H ⟨[.ref a], []⟩ [.ref a] [.ref a] _ E hr.in1 I.env0.in1 (by simpa using hb s [.ref a] I.kIn (by simpa using hl)) (.cons rfl .nil) q) fun r s' z => ?_))
  cases r with
  | error er => exact (hx pins σ H s er s' (I.wish _) z).elim
  | ok fl =>
    cases fl with
    | ret w =>
      obtain ⟨v, H', I', rv, n, rfl, h0, h1, q3⟩ := I.after z
      obtain ⟨t, rfl⟩ := rv
      exact ⟨⟨h0, h1⟩, .int n, H', I'.tok _, ⟨_, rfl⟩, q3⟩
    | next => exact z.elim
    | brk => exact z.elim
    | cont => exact z.elim
/-- what stands in an index, as Python code's own __getitem__ sees it -/
def OwnIx (b : Expr) : Prop := ∀ o i, subscripted b true o i = runValue (.builtin "lifetime.subscript" ⟨[o, i], []⟩)
def rIxO (C : Addr) (sp : Sp) (E : XK) : R2 := fun x y H Q => ∃ (a dx : Addr) (fs : List (Str × V)), x = .ref a ∧ H a = some (.ins C dx fs) ∧ sp [.ref a, y] H Q E
theorem pe_ixO (hs : PySem.W.findIn X.K (.ref C) "__getitem__" = some (some (.ref f))) (hfn : PySem.W.fnIn X.K f = true) (hf : PySem.W.isFn X.K (.ref f) = true)
    (F : FnOk X.prog X.w X.K X.mg X.base CX k f fd ps sp) (hr : Room (k + 1) X.A) (hb : Binds X.K fd ps []) (hx : Passes CX X.nox E) (ha : PE X a ta) (hbx : PE X b tb) (ho : OwnIx b) : PE X (.Subscript a b pos) (tOp (rIxO C sp E) ta tb) := by
  refine ⟨fun pins s σ H Q I h => Subscript_ (binT ha hbx I h fun v u s2 x y H2 I2 rx ry ⟨p, dx, fs, e, hp, q⟩ => ?_)⟩
  subst e
  cases rx
  obtain ⟨mA, J, _⟩ := ins_get I2.hok hp
  obtain ⟨od, J, _⟩ := J.look
  obtain ⟨m, hF⟩ := I2.fr
  have hl : [Value.ref p, u].length = ps.length := (F.len _ _ _ _ q).symm ▸ rfl
  refine PySem.W.sub_K hF I2.ok.mod.kin J hs hfn hf (wpAny_call (codeAny_mono (F.run X.A.in1 X.stack s2 H2 ⟨[.ref p, u], []⟩ [.ref p, u] [.ref p, y] _ E hr.in1 I2.env0.in1 (by simpa using hb s2 [.ref p, u] I2.kIn (by simpa using hl)) (.cons rfl (.cons ry .nil)) q) fun r s' z => ?_)) (ho _ _)
  cases r with
  | error er => exact (hx pins σ H2 s2 er s' (I2.wish _) z).elim
  | ok fl =>
    cases fl with
    | ret w => exact I2.after z
    | next => exact z.elim
    | brk => exact z.elim
    | cont => exact z.elim
/-! a walk over a list or a tuple -/
theorem PI.or {tg it : Expr} {t u : TI} (h : PI X tg it t) (g : PI X tg it u) : PI X tg it (fun σ H R => t σ H R ∨ u σ H R) := ⟨fun pins s σ H R I q => by
  rcases q with q | q
  · exact h.run pins s σ H R I q
  · exact g.run pins s σ H R I q⟩
end
end LR

namespace DL
open PySem PySem.Spec PyProof.Rows L2 LR
/-! ## == of lists of ints -/
theorem eqv_ints : ∀ ms ns : List Int, PyData.eqvAll (toPs (ms.map D.int)) (toPs (ns.map D.int)) = decide (ms = ns)
  | [], [] => by simp [toPs, PyData.eqvAll]
  | [], n :: ns => by simp [toPs, PyData.eqvAll]
  | m :: ms, [] => by simp [toPs, PyData.eqvAll]
  | m :: ms, n :: ns => by
    rw [List.map_cons, List.map_cons, toPs, toPs, PyData.eqvAll, eqv_ints ms ns, toP, toP, PyData.eqv, Bool.eq_iff_iff]
    simp
theorem eqD_lst (ms ns : List Int) : eqD (.lst (ms.map D.int)) (.lst (ns.map D.int)) = decide (ms = ns) := by
  unfold eqD
  rw [toP, toP, PyData.eqv, eqv_ints]
theorem eqD_tup (ms ns : List Int) : eqD (.tup (ms.map D.int)) (.tup (ns.map D.int)) = decide (ms = ns) := by
  unfold eqD
  rw [toP, toP, PyData.eqv, eqv_ints]
theorem okD_lst (ms : List Int) : okD (.lst (ms.map D.int)) = true := okD_of 1 (fun y hy => by
  obtain ⟨m, _, rfl⟩ := List.mem_map.mp hy
  exact trivial) (by decide)
theorem okD_tup (ms : List Int) : okD (.tup (ms.map D.int)) = true := okD_of 1 (fun y hy => by
  obtain ⟨m, _, rfl⟩ := List.mem_map.mp hy
  exact trivial) (by decide)
/-- whether a class of errors is another, by isinstance's answer -/
theorem exm_no {K : PySem.W.Frag} {x y : Str} (c : ExcC K (He.ga K y)) (h : PySem.W.kitOne K (.ref (He.ga K x)) (.ref (He.ga K y)) = some false) : PySem.W.exmOne K (.ref (He.ga K x)) (.ref (He.ga K y)) = some false := by
  unfold PySem.W.exmOne
  rw [if_pos (by rw [c.hs]; rfl)]
  unfold PySem.W.kitOne at h
  split at h
  · cases h
  · exact h
theorem fn_in {K : PySem.W.Frag} {x qual : Str} {params : Arguments} {body : List Stmt} {scope : Scope} {dvs : List V} {f : Addr} (h : ∃ fd, FunD K x qual params body scope dvs [] f fd) : PySem.W.fnIn K f = true := by
  obtain ⟨fd, F⟩ := h
  obtain ⟨oc, od, dV, kV, doc, pm, an, cdv, ct, osl, rfl, lk, _⟩ := F.ex
  unfold PySem.W.fnIn
  rw [lk]
section
variable {X : Cx} {W : WX} {a b c e tg : Expr} {es : List Expr} {ta tb tc : DT} {t : DTA} {pos p : Pos} {K : PySem.W.Frag} {k : Nat} {f : Addr} {Pm : Prm}
/-! ## a walk over a list or a tuple at a name -/
def diSeq (i : Nat) : DTI := fun env Q _ => ∃ l, (env[i]? = some (.val (.lst l)) ∨ env[i]? = some (.val (.tup l))) ∧ Q l
theorem pdi_seq {i : Nat} (hv : PE X e (tVar i)) : PDI X W tg e (diSeq i) := ⟨_, PI.or (pi_list hv) (pi_tup hv), fun H0 G0 G H σ env Q ex R S L ⟨l, hl, q⟩ g => by
  rcases hl with hl | hl
  · obtain ⟨v, ev, r⟩ := S.val i _ hl
    obtain ⟨p, vs, rfl, h1, h2⟩ := r.lst_inv
    exact .inl ⟨_, ev, p, rfl, ⟨vs, S.sub.seq h1⟩, g _ H G l (.refl S.sub) (jok_list h1 h2) q⟩
  · obtain ⟨v, ev, r⟩ := S.val i _ hl
    obtain ⟨p, vs, rfl, h1, h2⟩ := r.tup_inv
    exact .inr ⟨_, ev, p, rfl, ⟨vs, sqT_same S.sub h1⟩, g _ H G l (.refl S.sub) (jok_tup h1 h2) q⟩⟩
/-! ## any, lcm, len, x[i] -/
theorem l_anyT : LcR K (rAnyT K) (fun ds Q => ∃ ns : List Int, ds = [.tup (ns.map D.int)] ∧ Q (.bl (ns.any (· != 0)))) := fun G H vs ds Q R s r ⟨ns, e, q⟩ g => by
  subst e
  obtain ⟨v, rfl, r1⟩ := reps1 r
  obtain ⟨p, ws, rfl, h1, h2⟩ := r1.tup_inv
  rw [h2.ints] at h1
  exact ⟨p, ns, rfl, sqT_same s h1, g _ _ _ _ (.refl s) (.bl _) q⟩
theorem l_lcm : LcR K rLcm (fun ds Q => ∃ a b : Int, ds = [.int a, .int b] ∧ a.natAbs < 2 ^ 64 ∧ b.natAbs < 2 ^ 64 ∧ Q (.int ((Nat.lcm a.natAbs b.natAbs : Nat) : Int))) := fun G H vs ds Q R s r ⟨a, b, e, h1, h2, q⟩ g => by
  subst e
  obtain ⟨v, w, rfl, r1, r2⟩ := reps2 r
  exact ⟨a, b, by rw [r1.int_inv, r2.int_inv], h1, h2, g _ _ _ _ (.refl s) (.int _) q⟩
theorem l_lenO {c : Nat} {E : XK} (hn : ∀ ds Q ex, Pm ds Q ex → ds.length = 1) : LcR K (rLenO (He.ga K (cname c)) (spD K 1 Pm) E) (fun ds Q => ∃ l, ds = [.ins c l] ∧ Pm ds (fun d => ∃ n : Int, d = .int n ∧ 0 ≤ n ∧ n < 2 ^ 63 ∧ Q d) (fun _ _ => False)) := fun G H vs ds Q R s r ⟨l, e1, q⟩ g => by
  subst e1
  obtain ⟨v, rfl, r1⟩ := reps1 r
  obtain ⟨p, dx, ws, rfl, hp, _, _⟩ := id r1.ins_inv
  refine ⟨p, dx, _, rfl, s _ _ hp, sp_call0 s hn (Reps.one r1) q fun v H' G' d x r ⟨n, e, h0, h1, q'⟩ => ?_⟩
  subst e
  exact ⟨n, r.int_inv, h0, h1, g _ H' G' _ x r q'⟩
def dIxC (c : Nat) (P : Prm) : R2D := fun a b Q => (∃ l, a = .ins c l) ∧ P [a, b] Q (fun _ _ => False)
theorem l_ixC {c : Nat} {E : XK} (hn : ∀ ds Q ex, Pm ds Q ex → ds.length = 2) : L2R K (rIxO (He.ga K (cname c)) (spD K 2 Pm) E) (dIxC c Pm) := fun G H x y a b Q R s r1 r2 ⟨⟨l, e1⟩, q⟩ g => by
  subst e1
  obtain ⟨p, dx, ws, rfl, hp, _, _⟩ := id r1.ins_inv
  exact ⟨p, dx, _, rfl, s _ _ hp, sp_call0 s hn ((Reps.one r2).cons r1) q g⟩
theorem pd_ixC {c : Nat} (hs : PySem.W.findIn X.K (.ref (He.ga X.K (cname c))) "__getitem__" = some (some (.ref f))) (hfn : PySem.W.fnIn X.K f = true) (hf : PySem.W.isFn X.K (.ref f) = true)
    (F : Fn X.prog X.w X.K X.mg X.base f k 2 Pm) (hr : Room (k + 1) X.A) (ha : PD X W a ta) (hb : PD X W b tb) (ho : OwnIx b) : PD X W (.Subscript a b pos) (dOp (dIxC c Pm) ta tb) :=
  let ⟨_, pa, la⟩ := ha.of; let ⟨_, pb, lb⟩ := hb.of; ⟨_, pe_ixO (E := fun _ _ _ => False) hs hfn hf F.ok hr F.bd passL pa pb ho, le_op (l_ixC F.len) la lb⟩
/-! ## try with several clauses -/
abbrev ClD := Str × Nat × (Addr → Value → Option Addr → DTS)
def offD (i : Nat) (E : DEnds) : DEnds := { nx := fun e => E.nx (e.set i .no), rt := E.rt, bk := fun e => E.bk (e.set i .no), ct := fun e => E.ct (e.set i .no) }
def dCl (K : PySem.W.Frag) (E : DEnds) (y : Str) (fs : List (Str × D)) (e : DE) : List ClD → Prop
  | [] => E.ex y fs e
  | q :: r => (y = q.1 ∧ ∀ a dd, q.2.2 a (.ref (He.ga K q.1)) (some dd) (offD q.2.1 E) (e.set q.2.1 (.exc a dd q.1 fs))) ∨ (PySem.W.exmOne K (.ref (He.ga K y)) (.ref (He.ga K q.1)) = some false ∧ dCl K E y fs e r)
def dTryN (K : PySem.W.Frag) (l : List ClD) (tb : DTS) : DTS := fun E env => tb { E with ex := fun y fs e => dCl K E y fs e l } env
inductive HdD (X : Cx) : List ExceptHandler → List ClD → Prop
  | nil : HdD X [] []
  | cons {x n : Str} {i : Nat} {ts : Addr → Value → Option Addr → DTS} {st : Stmt} {sts : List Stmt} {np ps : Pos} {hds : List ExceptHandler} {l : List ClD} (hc : Names X x (.ref (He.ga X.K x))) (hm : PySem.W.exmOne X.K (.ref (He.ga X.K x)) (.ref (He.ga X.K x)) = some true)
      (hi : X.N[i]? = some n) (hk : X.env.kindOf n = some .local) (hsu : ∀ (a : Addr) (oe : Obj) (cls : Value) (d : Option Addr) (pn : List (Addr × Obj)), Zc cls d oe → (∃ vs, oe.data = .fields vs) → PDSs (X.suite a ((a, oe) :: pn)) WN (st :: sts) (ts a cls d)) (r : HdD X hds l) :
      HdD X (.ExceptHandler (some (.Name x np)) (some n) (st :: sts) ps :: hds) ((x, i, ts) :: l)
theorem HdD.lift {hds : List ExceptHandler} {l : List ClD} (h : HdD X hds l) : ∃ l' : List ClA, HdA X hds l' ∧ ∀ (W : WX) (H0 G0 G : Hp) (B : Ends) (E : DEnds), Lk X.K H0 G0 G W B E → ∀ (σ' : L2.St) (H' G' : Hp) (env' : DE) (dd : Addr) (y : Str) (fv : List (Str × V)) (fs : List (Str × D)), Same G G' →
    SR X.K H0 G0 G' H' σ' env' → H' dd = some (.xd fv) → RepF X.K G' fv fs → dCl X.K E y fs env' l → wAll X.K W B l' (.ref (He.ga X.K y)) (some dd) σ' H' := by
  induction h with
  | nil => exact ⟨[], .nil, fun W H0 G0 G B E L σ' H' G' env' dd y fv fs s S e r q => L.ex σ' H' G' env' dd y fv fs s S e r q⟩
  | @cons x n i ts st sts np ps hds l hc hm hi hk hsu r ih =>
    obtain ⟨l', h', go⟩ := ih
    refine ⟨(.ref (He.ga X.K x), i, fun a cls d B σ H => ∀ oe pn (h1 : Zc cls d oe) (h2 : ∃ vs, oe.data = .fields vs), (hsu a oe cls d pn h1 h2).of.choose B σ H) :: l', .cons hc hi hk (fun a oe cls d pn h1 h2 => ⟨fun pins s σ H B I q => (hsu a oe cls d pn h1 h2).of.choose_spec.1.run pins s σ H B I (q oe pn h1 h2)⟩) h', ?_⟩
    intro W H0 G0 G B E L σ' H' G' env' dd y fv fs s S e rf q
    rcases q with ⟨rfl, q⟩ | ⟨hn, q⟩
    · refine ⟨true, hm, fun _ a na oe pn h1 h2 => ?_, fun z => Bool.noConfusion z⟩
      have S2 := S.put i (some (.ref a)) (.exc a dd y fs) ⟨fv, rfl, e, rf⟩ (fun z => by cases z)
      have L2 := L.mono s
      exact (hsu a oe _ _ pn h1 h2).of.choose_spec.2 H0 G0 G' H' _ _ _ (offD i E) S2 ⟨fun σ4 H4 G4 env4 s4 S4 q4 => L2.nx _ _ _ _ s4 S4.unset q4, fun σ4 H4 G4 env4 s4 S4 q4 => L2.bk _ _ _ _ s4 S4.unset q4, fun σ4 H4 G4 env4 s4 S4 q4 => L2.ct _ _ _ _ s4 S4.unset q4, L2.rt, fun _ _ _ _ _ _ _ _ _ _ _ _ z => z.elim⟩ (q a dd)
    · exact ⟨false, hn, fun z => Bool.noConfusion z, fun _ => go W H0 G0 G B E L σ' H' G' env' dd y fv fs s S e rf q⟩
theorem pds_tryN {body : List Stmt} {h0 : ExceptHandler} {hds : List ExceptHandler} {l : List ClD} {tb : DTS} (hs : X.stack = X.env :: X.outer) (hf : X.env.frame = some X.env.locals) (hN : X.N.Nodup) (tk : Takes X W)
    (hb : ∀ (W' : WX) (pn : List (Addr × Obj)) (xe : Value → Shared → Prop), Takes (X.tr pn xe) W' → PassesOwn (model X.prog X.w) X.A X.env xe → PDSs (X.tr pn xe) W' body tb) (hh : HdD X (h0 :: hds) l) : PDS X W (.Try body (h0 :: hds) [] [] pos) (dTryN X.K l tb) := by
  obtain ⟨l', h', go⟩ := hh.lift
  refine ⟨_, ps_tryN (Wout := W) (tb := fun W' B σ H => ∀ pn xe (h1 : Takes (X.tr pn xe) W') (h2 : PassesOwn (model X.prog X.w) X.A X.env xe), (hb W' pn xe h1 h2).of.choose B σ H) hs hf hN tk
    (fun W' pn xe h1 h2 => ⟨fun pins s σ H B I q => (hb W' pn xe h1 h2).of.choose_spec.1.run pins s σ H B I (q pn xe h1 h2)⟩) h', fun H0 G0 G H σ env B E S L q pn xe h1 h2 => ?_⟩
  exact (hb _ pn xe h1 h2).of.choose_spec.2 H0 G0 G H σ env _ { E with ex := fun y fs e => dCl X.K E y fs e l } S ⟨L.nx, L.bk, L.ct, L.rt, fun σ' H' G' env' dd y fv fs s' S' e r q' => go W H0 G0 G B E L σ' H' G' env' dd y fv fs s' S' e r q'⟩ q
end
end DL
namespace DL
open PySem PySem.Spec PyProof.Rows L2 LR
theorem dm_Mult : PySem.dunder (Operator.info .Mult).2 = ("__mul__" : Str) := by decide +kernel
theorem dm_Add : PySem.dunder (Operator.info .Add).2 = ("__add__" : Str) := by decide +kernel
theorem dm_Sub : PySem.dunder (Operator.info .Sub).2 = ("__sub__" : Str) := by decide +kernel
theorem dm_FloorDiv : PySem.dunder (Operator.info .FloorDiv).2 = ("__floordiv__" : Str) := by decide +kernel
theorem dr_Mult : dunderR (Operator.info .Mult).2 = ("__rmul__" : Str) := by decide +kernel
theorem dr_mul : dunderR "mul" = ("__rmul__" : Str) := by decide +kernel
def mixesB (l : List (String × List Nat)) (K : PySem.W.Frag) : Bool := l.all fun p => mixB K p.1 p.2
structure Mo2 (cs : List Nat) (sms : List (Str × Str)) (cis : List (Str × Int)) (mxs : List (String × List Nat)) (K : PySem.W.Frag) (mg : Str → Option Value) : Prop extends Mo cs sms cis K mg where
  mxA : ∀ p ∈ mxs, Mix K p.1 p.2
def mo2B (cs : List Nat) (sms : List (Str × Str)) (cis : List (Str × Int)) (mxs : List (String × List Nat)) (K : PySem.W.Frag) : Bool := moB cs sms cis K && mixesB mxs K
theorem Mo2.of {cs : List Nat} {sms : List (Str × Str)} {cis : List (Str × Int)} {mxs : List (String × List Nat)} {K : PySem.W.Frag} {mg : Str → Option Value} {h : Heap} (X : K.In h) (G : h.Ns mainGlobals mg) (hc : ∀ c ∈ cs, Cls K (He.ga K (cname c))) (m : mo2B cs sms cis mxs K = true) : Mo2 cs sms cis mxs K mg :=
  let ⟨m1, m2⟩ := Bool.and_eq_true_iff.mp m
  { Mo.of X G hc m1 with mxA := fun p hp => Mix.of (List.all_eq_true.mp m2 p hp) }
theorem Mo2.mx {cs : List Nat} {sms : List (Str × Str)} {cis : List (Str × Int)} {mxs : List (String × List Nat)} {K : PySem.W.Frag} {mg : Str → Option Value} (M : Mo2 cs sms cis mxs K mg) (nm : String) (l : List Nat) (h : (nm, l) ∈ mxs := by decide +kernel) : Mix K nm l := M.mxA (nm, l) h
end DL

namespace DL
open PySem PySem.Spec PyProof.Rows L2 LR
/-! ## lowest terms of a list of ints over a bottom -/
def lT (ts : List Int) (b : Int) : List Int := ts.map fun t => t.fdiv (gs ts b)
def lB (ts : List Int) (b : Int) : Int := b.fdiv (gs ts b)
def Bd (n : Nat) (ts : List Int) : Prop := ∀ t ∈ ts, t.natAbs < 2 ^ n
/-- in lowest terms, its numbers below 2 ^ n -/
structure Vec (n : Nat) (ts : List Int) (b : Int) : Prop where
  ne : ts ≠ []
  len : ts.length ≤ 1000
  pos : 0 < b
  cop : cg ts b = 1
  bd : Bd n ts
  sb : b.natAbs < 2 ^ n
theorem Bd.up {n m : Nat} {ts : List Int} (h : Bd n ts) (k : n ≤ m) : Bd m ts := fun t ht => abs_up (h t ht) k
theorem Vec.up {n m : Nat} {ts : List Int} {b : Int} (h : Vec n ts b) (k : n ≤ m) : Vec m ts b := ⟨h.ne, h.len, h.pos, h.cop, h.bd.up k, abs_up h.sb k⟩
theorem map_is {α β : Type} {f : α → β} {ts : List α} {ms : List β} (hl : ms.length = ts.length) (h : ∀ (i : Nat) m, ms[i]? = some m → ∃ t, ts[i]? = some t ∧ m = f t) : ms = ts.map f := by
  refine List.ext_getElem? fun i => ?_
  rw [List.getElem?_map]
  cases e : ms[i]? with
  | none =>
    rw [List.getElem?_eq_none (by have := List.getElem?_eq_none_iff.mp e; omega)]
    rfl
  | some m =>
    obtain ⟨t, h1, h2⟩ := h i m e
    rw [h1, h2]
    rfl
theorem fold_scale (k : Nat) : ∀ (ts : List Int) (z : Int) (n : Nat), z.natAbs = k → (ts.map fun t => z * t).foldl (fun g t => Nat.gcd g t.natAbs) (k * n) = k * ts.foldl (fun g t => Nat.gcd g t.natAbs) n
  | [], _, _, _ => rfl
  | t :: ts, z, n, hz => by
    rw [List.map_cons, List.foldl_cons, List.foldl_cons, Int.natAbs_mul, hz, Nat.gcd_mul_left]
    exact fold_scale k ts z _ hz
theorem cg_scale (ts : List Int) (b z : Int) : cg (ts.map fun t => z * t) (z * b) = z.natAbs * cg ts b := by
  unfold cg
  rw [Int.natAbs_mul]
  exact fold_scale _ ts z _ rfl
theorem gs_scale {ts : List Int} {b z : Int} (hb : b ≠ 0) (hz : z ≠ 0) : gs (ts.map fun t => z * t) (z * b) = z * gs ts b := by
  unfold gs
  rw [cg_scale]
  have e : ((z.natAbs * cg ts b : Nat) : Int) = (z.natAbs : Int) * (cg ts b : Int) := by push_cast; rfl
  rw [e]
  rcases Int.lt_or_gt_of_ne hb with hb | hb <;> rcases Int.lt_or_gt_of_ne hz with hz | hz
  · rw [if_pos (Int.mul_pos_of_neg_of_neg hz hb), if_neg (by omega), show (z.natAbs : Int) = -z by omega, Int.neg_mul, Int.mul_neg]
  · rw [if_neg (by have := Int.mul_neg_of_pos_of_neg hz hb; omega), if_neg (by omega), show (z.natAbs : Int) = z by omega, Int.mul_neg]
  · rw [if_neg (by have := Int.mul_neg_of_neg_of_pos hz hb; omega), if_pos hb, show (z.natAbs : Int) = -z by omega, Int.neg_mul, Int.neg_neg]
  · rw [if_pos (Int.mul_pos hz hb), if_pos hb, show (z.natAbs : Int) = z by omega]
theorem gs_dvds (ts : List Int) (b : Int) : (∀ t ∈ ts, gs ts b ∣ t) ∧ gs ts b ∣ b := by
  obtain ⟨h1, h2⟩ := cg_dvd ts b
  exact ⟨fun t ht => Int.natAbs_dvd_natAbs.mp (by rw [gs_abs]; exact h2 t ht), Int.natAbs_dvd_natAbs.mp (by rw [gs_abs]; exact h1)⟩
theorem fdiv_of {g s : Int} (h : g ≠ 0) : (g * s).fdiv g = s := by rw [Int.fdiv_eq_ediv_of_dvd (Int.dvd_mul_right g s), Int.mul_ediv_cancel_left s h]
theorem lT_mul (ts : List Int) {b : Int} (h : b ≠ 0) : (lT ts b).map (fun t => gs ts b * t) = ts := by
  unfold lT
  rw [List.map_map]
  have k : ∀ t ∈ ts, ((fun t => gs ts b * t) ∘ fun t => t.fdiv (gs ts b)) t = id t := fun t ht => by
    obtain ⟨s, hs⟩ := (gs_dvds ts b).1 t ht
    show gs ts b * t.fdiv (gs ts b) = t
    rw [congrArg (fun z => z.fdiv (gs ts b)) hs, fdiv_of (gs_ne h), ← hs]
  rw [List.map_congr_left k, List.map_id]
theorem lB_mul (ts : List Int) {b : Int} (h : b ≠ 0) : gs ts b * lB ts b = b := by
  unfold lB
  obtain ⟨s, hs⟩ := (gs_dvds ts b).2
  rw [congrArg (fun z => z.fdiv (gs ts b)) hs, fdiv_of (gs_ne h), ← hs]
theorem low_scale {ts : List Int} {b z : Int} (hb : b ≠ 0) (hz : z ≠ 0) : lT (ts.map fun t => z * t) (z * b) = lT ts b ∧ lB (ts.map fun t => z * t) (z * b) = lB ts b := by
  have hg := gs_ne (ts := ts) hb
  have hzg : z * gs ts b ≠ 0 := Int.mul_ne_zero hz hg
  unfold lT lB
  rw [gs_scale hb hz]
  constructor
  · rw [List.map_map]
    refine List.map_congr_left fun t ht => ?_
    obtain ⟨s, hs⟩ := (gs_dvds ts b).1 t ht
    show (z * t).fdiv (z * gs ts b) = t.fdiv (gs ts b)
    rw [show z * t = (z * gs ts b) * s by rw [Int.mul_assoc, ← hs], fdiv_of hzg, congrArg (fun y => y.fdiv (gs ts b)) hs, fdiv_of hg]
  · obtain ⟨s, hs⟩ := (gs_dvds ts b).2
    rw [show z * b = (z * gs ts b) * s by rw [Int.mul_assoc, ← hs], fdiv_of hzg, congrArg (fun y => y.fdiv (gs ts b)) hs, fdiv_of hg]
/-- equal fractions, equal lowest terms -/
theorem low_cross {ts us : List Int} {b c : Int} (hb : b ≠ 0) (hc : c ≠ 0) (h : ts.map (fun t => c * t) = us.map fun t => b * t) : lT ts b = lT us c ∧ lB ts b = lB us c := by
  obtain ⟨h1, h2⟩ := low_scale (ts := ts) (b := b) (z := c) hb hc
  obtain ⟨h3, h4⟩ := low_scale (ts := us) (b := c) (z := b) hc hb
  rw [h, Int.mul_comm c b] at h1 h2
  exact ⟨h1.symm.trans h3, h2.symm.trans h4⟩
theorem lB_pos {ts : List Int} {b : Int} (h : b ≠ 0) : 0 < lB ts b := by
  have e := lB_mul ts h
  have hp : 0 < cg ts b := cg_pos h
  unfold gs at e
  by_cases hb : b > 0
  · rw [if_pos hb] at e
    have : 0 < (cg ts b : Int) * lB ts b := by rw [e]; exact hb
    exact Int.pos_of_mul_pos_right this (by omega) |> fun z => z
  · rw [if_neg hb] at e
    have e2 : (cg ts b : Int) * -lB ts b = b := by rw [Int.mul_neg, ← Int.neg_mul]; exact e
    have e3 : 0 < (cg ts b : Int) * lB ts b := by rw [Int.mul_neg] at e2; omega
    exact Int.pos_of_mul_pos_right e3 (by omega)
theorem low_cop {ts : List Int} {b : Int} (h : b ≠ 0) : cg (lT ts b) (lB ts b) = 1 := by
  have e := cg_scale (lT ts b) (lB ts b) (gs ts b)
  rw [lT_mul ts h, lB_mul ts h, gs_abs] at e
  have hp : 0 < cg ts b := cg_pos h
  exact (Nat.mul_eq_left (Nat.ne_of_gt hp)).mp e.symm
theorem low_bd {n : Nat} {ts : List Int} {b : Int} (h : Bd n ts) : Bd n (lT ts b) := fun t ht => by
  unfold lT at ht
  obtain ⟨s, hs, rfl⟩ := List.mem_map.mp ht
  exact Nat.lt_of_le_of_lt (Int.natAbs_fdiv_le_natAbs _ _) (h s hs)
theorem low_len (ts : List Int) (b : Int) : (lT ts b).length = ts.length := by
  unfold lT
  rw [List.length_map]
theorem low_vec {n : Nat} {ts : List Int} {b : Int} (h : b ≠ 0) (hn : ts ≠ []) (hl : ts.length ≤ 1000) (ht : Bd n ts) (hs : b.natAbs < 2 ^ n) : Vec n (lT ts b) (lB ts b) :=
  ⟨fun z => hn (List.length_eq_zero_iff.mp (by rw [← low_len ts b, z]; rfl)), by rw [low_len]; exact hl, lB_pos h, low_cop h, low_bd ht, Nat.lt_of_le_of_lt (Int.natAbs_fdiv_le_natAbs _ _) hs⟩
theorem Vec.gs {n : Nat} {ts : List Int} {b : Int} (v : Vec n ts b) : LR.gs ts b = 1 := by
  unfold LR.gs
  rw [if_pos v.pos, v.cop]
  rfl
theorem Vec.low {n : Nat} {ts : List Int} {b : Int} (v : Vec n ts b) : lT ts b = ts ∧ lB ts b = b := by
  unfold lT lB
  rw [v.gs]
  exact ⟨by rw [List.map_congr_left (g := id) (fun t _ => Int.fdiv_one t), List.map_id], Int.fdiv_one b⟩
def negT (ts : List Int) : List Int := ts.map fun t => -t
theorem cg_neg (ts : List Int) (b : Int) : cg (negT ts) b = cg ts b := by
  unfold cg negT
  rw [List.foldl_map]
  congr 1
  funext g t
  rw [Int.natAbs_neg]
theorem Vec.neg {n : Nat} {ts : List Int} {b : Int} (v : Vec n ts b) : Vec n (negT ts) b :=
  ⟨fun z => v.ne (by unfold negT at z; exact List.map_eq_nil_iff.mp z), by unfold negT; rw [List.length_map]; exact v.len, v.pos, by rw [cg_neg]; exact v.cop, fun t ht => by
    unfold negT at ht
    obtain ⟨s, hs, rfl⟩ := List.mem_map.mp ht
    rw [Int.natAbs_neg]
    exact v.bd s hs, v.sb⟩
theorem gs_one' (ts : List Int) : LR.gs ts 1 = 1 := by
  unfold LR.gs
  rw [if_pos (by decide)]
  show ((ts.foldl (fun g t => Nat.gcd g t.natAbs) 1 : Nat) : Int) = 1
  rw [fold_one]
  rfl
theorem low_one (ts : List Int) : lT ts 1 = ts ∧ lB ts 1 = 1 := by
  unfold lT lB
  rw [gs_one']
  exact ⟨by rw [List.map_congr_left (g := id) (fun t _ => Int.fdiv_one t), List.map_id], Int.fdiv_one 1⟩
end DL

namespace K02
open PySem PySem.Spec PyProof.Rows L2 LR DL
def top (i : Nat) : Stmt := PySem.Challenge.pw_lastrows_k02_vectors.main.body.getD i (.Pass ⟨0, 0, 0, 0⟩)
abbrev s_ZeroBottom_init : Stmt := inClass (top 4) 0
abbrev s_Empty_init : Stmt := inClass (top 7) 0
abbrev s_SizeMismatch_init : Stmt := inClass (top 9) 0
abbrev s_Ratio_init : Stmt := inClass (top 14) 0
abbrev s_Ratio_mul : Stmt := inClass (top 14) 3
abbrev s_common_divisor : Stmt := top 17
abbrev s_common_bottom : Stmt := top 18
abbrev s_over_one_bottom : Stmt := top 19
abbrev s_is_factor : Stmt := top 20
abbrev s_as_ratio : Stmt := top 21
abbrev s_Vector_init : Stmt := inClass (top 23) 0
abbrev s_Vector_len : Stmt := inClass (top 23) 1
abbrev s_Vector_getitem : Stmt := inClass (top 23) 2
abbrev s_Vector_add : Stmt := inClass (top 23) 4
abbrev s_Vector_sub : Stmt := inClass (top 23) 5
abbrev s_Vector_neg : Stmt := inClass (top 23) 6
abbrev s_Vector_mul : Stmt := inClass (top 23) 7
abbrev s_Vector_rmul : Stmt := inClass (top 23) 8
abbrev s_Vector_eq : Stmt := inClass (top 23) 9
abbrev s_Vector_dot : Stmt := inClass (top 23) 11
abbrev s_Vector_is_zero : Stmt := inClass (top 23) 12
abbrev s_Vector_unit : Stmt := inClass (top 23) 13
abbrev s_Vector_zero : Stmt := inClass (top 23) 14
abbrev s_Vector_of : Stmt := inClass (top 23) 15
abbrev s_sum_of_products : Stmt := top 24
abbrev s_check_lengths : Stmt := top 25
abbrev s_Poly_init : Stmt := inClass (top 33) 0
abbrev s_Poly_eq : Stmt := inClass (top 33) 11
abbrev s_law_cell : Stmt := top 39
abbrev s_law_mix : Stmt := top 40
abbrev s_law_draws : Stmt := top 41
abbrev s_law_small : Stmt := top 42
abbrev s_law_bottom : Stmt := top 43
abbrev s_law_wide : Stmt := top 44
abbrev s_law_is_integer : Stmt := top 45
abbrev s_law_gcd : Stmt := top 46
abbrev s_law_ratio : Stmt := top 47
abbrev s_law_low : Stmt := top 48
abbrev s_law_thing : Stmt := top 49
abbrev s_law_factors : Stmt := top 50
abbrev s_law_is_ratio : Stmt := top 51
abbrev s_law_is : Stmt := top 52
abbrev s_law_truth : Stmt := top 53
abbrev s_law_made : Stmt := top 54
abbrev s_law_alone : Stmt := top 55
abbrev s_law_asked : Stmt := top 56
abbrev s_law_pair : Stmt := top 57
abbrev s_law_refusal : Stmt := top 58
abbrev s_law_refusals : Stmt := top 59
abbrev s_law_made_others : Stmt := top 60
abbrev s_law : Stmt := top 61
theorem sc_ZeroBottom_init : FnScope ["self"] ["self"] (defScope s_ZeroBottom_init) := ⟨rfl, rfl, rfl, by decide +kernel, rfl, by decide +kernel, by decide +kernel⟩
theorem sc_Empty_init : FnScope ["self"] ["self"] (defScope s_Empty_init) := ⟨rfl, rfl, rfl, by decide +kernel, rfl, by decide +kernel, by decide +kernel⟩
theorem sc_SizeMismatch_init : FnScope ["self", "left", "right"] ["self", "left", "right"] (defScope s_SizeMismatch_init) := ⟨rfl, rfl, rfl, by decide +kernel, rfl, by decide +kernel, by decide +kernel⟩
theorem sc_Ratio_init : FnScope ["self", "top", "bottom", "divisor"] ["self", "top", "bottom"] (defScope s_Ratio_init) := ⟨rfl, rfl, rfl, by decide +kernel, rfl, by decide +kernel, by decide +kernel⟩
theorem sc_Ratio_mul : FnScope ["self", "other"] ["self", "other"] (defScope s_Ratio_mul) := ⟨rfl, rfl, rfl, by decide +kernel, rfl, by decide +kernel, by decide +kernel⟩
theorem sc_common_divisor : FnScope ["tops", "bottom", "found", "top"] ["tops", "bottom"] (defScope s_common_divisor) := ⟨rfl, rfl, rfl, by decide +kernel, rfl, by decide +kernel, by decide +kernel⟩
theorem sc_common_bottom : FnScope ["bottoms", "found", "bottom"] ["bottoms"] (defScope s_common_bottom) := ⟨rfl, rfl, rfl, by decide +kernel, rfl, by decide +kernel, by decide +kernel⟩
theorem sc_over_one_bottom : FnScope ["ratios", "bottom", "ratio"] ["ratios"] (defScope s_over_one_bottom) := ⟨rfl, rfl, rfl, by decide +kernel, rfl, by decide +kernel, by decide +kernel⟩
theorem sc_is_factor : FnScope ["thing"] ["thing"] (defScope s_is_factor) := ⟨rfl, rfl, rfl, by decide +kernel, rfl, by decide +kernel, by decide +kernel⟩
theorem sc_as_ratio : FnScope ["factor"] ["factor"] (defScope s_as_ratio) := ⟨rfl, rfl, rfl, by decide +kernel, rfl, by decide +kernel, by decide +kernel⟩
theorem sc_Vector_init : FnScope ["self", "tops", "bottom", "divisor", "top"] ["self", "tops", "bottom"] (defScope s_Vector_init) := ⟨rfl, rfl, rfl, by decide +kernel, rfl, by decide +kernel, by decide +kernel⟩
theorem sc_Vector_len : FnScope ["self"] ["self"] (defScope s_Vector_len) := ⟨rfl, rfl, rfl, by decide +kernel, rfl, by decide +kernel, by decide +kernel⟩
theorem sc_Vector_getitem : FnScope ["self", "at"] ["self", "at"] (defScope s_Vector_getitem) := ⟨rfl, rfl, rfl, by decide +kernel, rfl, by decide +kernel, by decide +kernel⟩
theorem sc_Vector_add : FnScope ["self", "other", "tops", "left", "right"] ["self", "other"] (defScope s_Vector_add) := ⟨rfl, rfl, rfl, by decide +kernel, rfl, by decide +kernel, by decide +kernel⟩
theorem sc_Vector_sub : FnScope ["self", "other"] ["self", "other"] (defScope s_Vector_sub) := ⟨rfl, rfl, rfl, by decide +kernel, rfl, by decide +kernel, by decide +kernel⟩
theorem sc_Vector_neg : FnScope ["self", "top"] ["self"] (defScope s_Vector_neg) := ⟨rfl, rfl, rfl, by decide +kernel, rfl, by decide +kernel, by decide +kernel⟩
theorem sc_Vector_mul : FnScope ["self", "other", "factor", "top"] ["self", "other"] (defScope s_Vector_mul) := ⟨rfl, rfl, rfl, by decide +kernel, rfl, by decide +kernel, by decide +kernel⟩
theorem sc_Vector_rmul : FnScope ["self", "other"] ["self", "other"] (defScope s_Vector_rmul) := ⟨rfl, rfl, rfl, by decide +kernel, rfl, by decide +kernel, by decide +kernel⟩
theorem sc_Vector_eq : FnScope ["self", "other"] ["self", "other"] (defScope s_Vector_eq) := ⟨rfl, rfl, rfl, by decide +kernel, rfl, by decide +kernel, by decide +kernel⟩
theorem sc_Vector_dot : FnScope ["self", "other"] ["self", "other"] (defScope s_Vector_dot) := ⟨rfl, rfl, rfl, by decide +kernel, rfl, by decide +kernel, by decide +kernel⟩
theorem sc_Vector_is_zero : FnScope ["self"] ["self"] (defScope s_Vector_is_zero) := ⟨rfl, rfl, rfl, by decide +kernel, rfl, by decide +kernel, by decide +kernel⟩
theorem sc_Vector_unit : FnScope ["size", "place", "k"] ["size", "place"] (defScope s_Vector_unit) := ⟨rfl, rfl, rfl, by decide +kernel, rfl, by decide +kernel, by decide +kernel⟩
theorem sc_Vector_zero : FnScope ["size"] ["size"] (defScope s_Vector_zero) := ⟨rfl, rfl, rfl, by decide +kernel, rfl, by decide +kernel, by decide +kernel⟩
theorem sc_Vector_of : FnScope ["ratios", "tops", "bottom"] ["ratios"] (defScope s_Vector_of) := ⟨rfl, rfl, rfl, by decide +kernel, rfl, by decide +kernel, by decide +kernel⟩
theorem sc_sum_of_products : FnScope ["left", "right", "one", "two"] ["left", "right"] (defScope s_sum_of_products) := ⟨rfl, rfl, rfl, by decide +kernel, rfl, by decide +kernel, by decide +kernel⟩
theorem sc_check_lengths : FnScope ["left", "right"] ["left", "right"] (defScope s_check_lengths) := ⟨rfl, rfl, rfl, by decide +kernel, rfl, by decide +kernel, by decide +kernel⟩
theorem sc_Poly_init : FnScope ["self", "tops", "bottom", "count", "divisor", "top"] ["self", "tops", "bottom"] (defScope s_Poly_init) := ⟨rfl, rfl, rfl, by decide +kernel, rfl, by decide +kernel, by decide +kernel⟩
theorem sc_Poly_eq : FnScope ["self", "other"] ["self", "other"] (defScope s_Poly_eq) := ⟨rfl, rfl, rfl, by decide +kernel, rfl, by decide +kernel, by decide +kernel⟩
theorem sc_law_cell : FnScope ["script", "k", "total", "cell"] ["script", "k"] (defScope s_law_cell) := ⟨rfl, rfl, rfl, by decide +kernel, rfl, by decide +kernel, by decide +kernel⟩
theorem sc_law_mix : FnScope ["cell", "k", "at", "x"] ["cell", "k", "at"] (defScope s_law_mix) := ⟨rfl, rfl, rfl, by decide +kernel, rfl, by decide +kernel, by decide +kernel⟩
theorem sc_law_draws : FnScope ["script", "k", "many", "cell", "digits", "out", "at"] ["script", "k", "many"] (defScope s_law_draws) := ⟨rfl, rfl, rfl, by decide +kernel, rfl, by decide +kernel, by decide +kernel⟩
theorem sc_law_small : FnScope ["d"] ["d"] (defScope s_law_small) := ⟨rfl, rfl, rfl, by decide +kernel, rfl, by decide +kernel, by decide +kernel⟩
theorem sc_law_bottom : FnScope ["d"] ["d"] (defScope s_law_bottom) := ⟨rfl, rfl, rfl, by decide +kernel, rfl, by decide +kernel, by decide +kernel⟩
theorem sc_law_wide : FnScope ["script", "k", "cell", "number"] ["script", "k"] (defScope s_law_wide) := ⟨rfl, rfl, rfl, by decide +kernel, rfl, by decide +kernel, by decide +kernel⟩
theorem sc_law_is_integer : FnScope ["x"] ["x"] (defScope s_law_is_integer) := ⟨rfl, rfl, rfl, by decide +kernel, rfl, by decide +kernel, by decide +kernel⟩
theorem sc_law_gcd : FnScope ["a", "b", "turns"] ["a", "b"] (defScope s_law_gcd) := ⟨rfl, rfl, rfl, by decide +kernel, rfl, by decide +kernel, by decide +kernel⟩
theorem sc_law_ratio : FnScope ["top", "bottom", "part"] ["top", "bottom"] (defScope s_law_ratio) := ⟨rfl, rfl, rfl, by decide +kernel, rfl, by decide +kernel, by decide +kernel⟩
theorem sc_law_low : FnScope ["tops", "bottom", "part", "top"] ["tops", "bottom"] (defScope s_law_low) := ⟨rfl, rfl, rfl, by decide +kernel, rfl, by decide +kernel, by decide +kernel⟩
theorem sc_law_thing : FnScope ["script", "which", "size", "draws", "kind", "tops", "d", "bottom", "top", "at", "factor"] ["script", "which", "size"] (defScope s_law_thing) := ⟨rfl, rfl, rfl, by decide +kernel, rfl, by decide +kernel, by decide +kernel⟩
theorem sc_law_factors : FnScope ["script", "draws", "number", "pair"] ["script", "draws"] (defScope s_law_factors) := ⟨rfl, rfl, rfl, by decide +kernel, rfl, by decide +kernel, by decide +kernel⟩
theorem sc_law_is_ratio : FnScope ["x", "pair"] ["x", "pair"] (defScope s_law_is_ratio) := ⟨rfl, rfl, rfl, by decide +kernel, rfl, by decide +kernel, by decide +kernel⟩
theorem sc_law_is : FnScope ["v", "low", "k"] ["v", "low"] (defScope s_law_is) := ⟨rfl, rfl, rfl, by decide +kernel, rfl, by decide +kernel, by decide +kernel⟩
theorem sc_law_truth : FnScope ["x", "due"] ["x", "due"] (defScope s_law_truth) := ⟨rfl, rfl, rfl, by decide +kernel, rfl, by decide +kernel, by decide +kernel⟩
theorem sc_law_made : FnScope ["thing", "items", "v"] ["thing"] (defScope s_law_made) := ⟨rfl, rfl, rfl, by decide +kernel, rfl, by decide +kernel, by decide +kernel⟩
theorem sc_law_alone : FnScope ["v", "low", "number", "pair", "top", "k", "due", "r", "other", "p", "twin"] ["v", "low", "number", "pair"] (defScope s_law_alone) := ⟨rfl, rfl, rfl, by decide +kernel, rfl, by decide +kernel, by decide +kernel⟩
theorem sc_law_asked : FnScope ["v", "w", "road", "told", "refused", "e"] ["v", "w", "road"] (defScope s_law_asked) := ⟨rfl, rfl, rfl, by decide +kernel, rfl, by decide +kernel, by decide +kernel⟩
theorem sc_law_pair : FnScope ["v", "w", "a", "b", "road", "told", "refused", "due", "k", "tops", "same"] ["v", "w", "a", "b"] (defScope s_law_pair) := ⟨rfl, rfl, rfl, by decide +kernel, rfl, by decide +kernel, by decide +kernel⟩
theorem sc_law_refusal : FnScope ["tops", "bottom", "road", "refused", "e"] ["tops", "bottom", "road"] (defScope s_law_refusal) := ⟨rfl, rfl, rfl, by decide +kernel, rfl, by decide +kernel, by decide +kernel⟩
theorem sc_law_refusals : FnScope ["thing", "empty", "bottom"] ["thing"] (defScope s_law_refusals) := ⟨rfl, rfl, rfl, by decide +kernel, rfl, by decide +kernel, by decide +kernel⟩
theorem sc_law_made_others : FnScope ["thing", "low", "place", "size", "k", "tops", "ratios", "kept", "x"] ["thing", "low", "place"] (defScope s_law_made_others) := ⟨rfl, rfl, rfl, by decide +kernel, rfl, by decide +kernel, by decide +kernel⟩
theorem sc_law : FnScope ["script", "draws", "size", "more", "first", "second", "number", "pair", "a", "b", "v", "w", "lap"] ["script"] (defScope s_law) := ⟨rfl, rfl, rfl, by decide +kernel, rfl, by decide +kernel, by decide +kernel⟩
abbrev d_ZeroBottom_init : Df := ⟨(fun K => He.ma K (He.ga K "ZeroBottom") "__init__"), "__init__", "ZeroBottom.__init__", defArgs s_ZeroBottom_init, defBody s_ZeroBottom_init, defScope s_ZeroBottom_init, []⟩
abbrev d_Empty_init : Df := ⟨(fun K => He.ma K (He.ga K "Empty") "__init__"), "__init__", "Empty.__init__", defArgs s_Empty_init, defBody s_Empty_init, defScope s_Empty_init, []⟩
abbrev d_SizeMismatch_init : Df := ⟨(fun K => He.ma K (He.ga K "SizeMismatch") "__init__"), "__init__", "SizeMismatch.__init__", defArgs s_SizeMismatch_init, defBody s_SizeMismatch_init, defScope s_SizeMismatch_init, []⟩
abbrev d_Ratio_init : Df := ⟨(fun K => He.ma K (He.ga K "Ratio") "__init__"), "__init__", "Ratio.__init__", defArgs s_Ratio_init, defBody s_Ratio_init, defScope s_Ratio_init, [.int 1]⟩
abbrev d_Ratio_mul : Df := ⟨(fun K => He.ma K (He.ga K "Ratio") "__mul__"), "__mul__", "Ratio.__mul__", defArgs s_Ratio_mul, defBody s_Ratio_mul, defScope s_Ratio_mul, []⟩
abbrev d_common_divisor : Df := ⟨(fun K => He.ga K "common_divisor"), "common_divisor", "common_divisor", defArgs s_common_divisor, defBody s_common_divisor, defScope s_common_divisor, []⟩
abbrev d_common_bottom : Df := ⟨(fun K => He.ga K "common_bottom"), "common_bottom", "common_bottom", defArgs s_common_bottom, defBody s_common_bottom, defScope s_common_bottom, []⟩
abbrev d_over_one_bottom : Df := ⟨(fun K => He.ga K "over_one_bottom"), "over_one_bottom", "over_one_bottom", defArgs s_over_one_bottom, defBody s_over_one_bottom, defScope s_over_one_bottom, []⟩
abbrev d_is_factor : Df := ⟨(fun K => He.ga K "is_factor"), "is_factor", "is_factor", defArgs s_is_factor, defBody s_is_factor, defScope s_is_factor, []⟩
abbrev d_as_ratio : Df := ⟨(fun K => He.ga K "as_ratio"), "as_ratio", "as_ratio", defArgs s_as_ratio, defBody s_as_ratio, defScope s_as_ratio, []⟩
abbrev d_Vector_init : Df := ⟨(fun K => He.ma K (He.ga K "Vector") "__init__"), "__init__", "Vector.__init__", defArgs s_Vector_init, defBody s_Vector_init, defScope s_Vector_init, [.int 1]⟩
abbrev d_Vector_len : Df := ⟨(fun K => He.ma K (He.ga K "Vector") "__len__"), "__len__", "Vector.__len__", defArgs s_Vector_len, defBody s_Vector_len, defScope s_Vector_len, []⟩
abbrev d_Vector_getitem : Df := ⟨(fun K => He.ma K (He.ga K "Vector") "__getitem__"), "__getitem__", "Vector.__getitem__", defArgs s_Vector_getitem, defBody s_Vector_getitem, defScope s_Vector_getitem, []⟩
abbrev d_Vector_add : Df := ⟨(fun K => He.ma K (He.ga K "Vector") "__add__"), "__add__", "Vector.__add__", defArgs s_Vector_add, defBody s_Vector_add, defScope s_Vector_add, []⟩
abbrev d_Vector_sub : Df := ⟨(fun K => He.ma K (He.ga K "Vector") "__sub__"), "__sub__", "Vector.__sub__", defArgs s_Vector_sub, defBody s_Vector_sub, defScope s_Vector_sub, []⟩
abbrev d_Vector_neg : Df := ⟨(fun K => He.ma K (He.ga K "Vector") "__neg__"), "__neg__", "Vector.__neg__", defArgs s_Vector_neg, defBody s_Vector_neg, defScope s_Vector_neg, []⟩
abbrev d_Vector_mul : Df := ⟨(fun K => He.ma K (He.ga K "Vector") "__mul__"), "__mul__", "Vector.__mul__", defArgs s_Vector_mul, defBody s_Vector_mul, defScope s_Vector_mul, []⟩
abbrev d_Vector_rmul : Df := ⟨(fun K => He.ma K (He.ga K "Vector") "__rmul__"), "__rmul__", "Vector.__rmul__", defArgs s_Vector_rmul, defBody s_Vector_rmul, defScope s_Vector_rmul, []⟩
abbrev d_Vector_eq : Df := ⟨(fun K => He.ma K (He.ga K "Vector") "__eq__"), "__eq__", "Vector.__eq__", defArgs s_Vector_eq, defBody s_Vector_eq, defScope s_Vector_eq, []⟩
abbrev d_Vector_dot : Df := ⟨(fun K => He.ma K (He.ga K "Vector") "dot"), "dot", "Vector.dot", defArgs s_Vector_dot, defBody s_Vector_dot, defScope s_Vector_dot, []⟩
abbrev d_Vector_is_zero : Df := ⟨(fun K => prGet K "Vector" "is_zero"), "is_zero", "Vector.is_zero", defArgs s_Vector_is_zero, defBody s_Vector_is_zero, defScope s_Vector_is_zero, []⟩
abbrev d_Vector_unit : Df := ⟨(fun K => smF K "Vector" "unit"), "unit", "Vector.unit", defArgs s_Vector_unit, defBody s_Vector_unit, defScope s_Vector_unit, []⟩
abbrev d_Vector_zero : Df := ⟨(fun K => smF K "Vector" "zero"), "zero", "Vector.zero", defArgs s_Vector_zero, defBody s_Vector_zero, defScope s_Vector_zero, []⟩
abbrev d_Vector_of : Df := ⟨(fun K => smF K "Vector" "of"), "of", "Vector.of", defArgs s_Vector_of, defBody s_Vector_of, defScope s_Vector_of, []⟩
abbrev d_sum_of_products : Df := ⟨(fun K => He.ga K "sum_of_products"), "sum_of_products", "sum_of_products", defArgs s_sum_of_products, defBody s_sum_of_products, defScope s_sum_of_products, []⟩
abbrev d_check_lengths : Df := ⟨(fun K => He.ga K "_check_lengths"), "_check_lengths", "_check_lengths", defArgs s_check_lengths, defBody s_check_lengths, defScope s_check_lengths, []⟩
abbrev d_Poly_init : Df := ⟨(fun K => He.ma K (He.ga K "Poly") "__init__"), "__init__", "Poly.__init__", defArgs s_Poly_init, defBody s_Poly_init, defScope s_Poly_init, [.int 1]⟩
abbrev d_Poly_eq : Df := ⟨(fun K => He.ma K (He.ga K "Poly") "__eq__"), "__eq__", "Poly.__eq__", defArgs s_Poly_eq, defBody s_Poly_eq, defScope s_Poly_eq, []⟩
abbrev d_law_cell : Df := ⟨(fun K => He.ga K "_law_cell"), "_law_cell", "_law_cell", defArgs s_law_cell, defBody s_law_cell, defScope s_law_cell, []⟩
abbrev d_law_mix : Df := ⟨(fun K => He.ga K "_law_mix"), "_law_mix", "_law_mix", defArgs s_law_mix, defBody s_law_mix, defScope s_law_mix, []⟩
abbrev d_law_draws : Df := ⟨(fun K => He.ga K "_law_draws"), "_law_draws", "_law_draws", defArgs s_law_draws, defBody s_law_draws, defScope s_law_draws, []⟩
abbrev d_law_small : Df := ⟨(fun K => He.ga K "_law_small"), "_law_small", "_law_small", defArgs s_law_small, defBody s_law_small, defScope s_law_small, []⟩
abbrev d_law_bottom : Df := ⟨(fun K => He.ga K "_law_bottom"), "_law_bottom", "_law_bottom", defArgs s_law_bottom, defBody s_law_bottom, defScope s_law_bottom, []⟩
abbrev d_law_wide : Df := ⟨(fun K => He.ga K "_law_wide"), "_law_wide", "_law_wide", defArgs s_law_wide, defBody s_law_wide, defScope s_law_wide, []⟩
abbrev d_law_is_integer : Df := ⟨(fun K => He.ga K "_law_is_integer"), "_law_is_integer", "_law_is_integer", defArgs s_law_is_integer, defBody s_law_is_integer, defScope s_law_is_integer, []⟩
abbrev d_law_gcd : Df := ⟨(fun K => He.ga K "_law_gcd"), "_law_gcd", "_law_gcd", defArgs s_law_gcd, defBody s_law_gcd, defScope s_law_gcd, []⟩
abbrev d_law_ratio : Df := ⟨(fun K => He.ga K "_law_ratio"), "_law_ratio", "_law_ratio", defArgs s_law_ratio, defBody s_law_ratio, defScope s_law_ratio, []⟩
abbrev d_law_low : Df := ⟨(fun K => He.ga K "_law_low"), "_law_low", "_law_low", defArgs s_law_low, defBody s_law_low, defScope s_law_low, []⟩
abbrev d_law_thing : Df := ⟨(fun K => He.ga K "_law_thing"), "_law_thing", "_law_thing", defArgs s_law_thing, defBody s_law_thing, defScope s_law_thing, []⟩
abbrev d_law_factors : Df := ⟨(fun K => He.ga K "_law_factors"), "_law_factors", "_law_factors", defArgs s_law_factors, defBody s_law_factors, defScope s_law_factors, []⟩
abbrev d_law_is_ratio : Df := ⟨(fun K => He.ga K "_law_is_ratio"), "_law_is_ratio", "_law_is_ratio", defArgs s_law_is_ratio, defBody s_law_is_ratio, defScope s_law_is_ratio, []⟩
abbrev d_law_is : Df := ⟨(fun K => He.ga K "_law_is"), "_law_is", "_law_is", defArgs s_law_is, defBody s_law_is, defScope s_law_is, []⟩
abbrev d_law_truth : Df := ⟨(fun K => He.ga K "_law_truth"), "_law_truth", "_law_truth", defArgs s_law_truth, defBody s_law_truth, defScope s_law_truth, []⟩
abbrev d_law_made : Df := ⟨(fun K => He.ga K "_law_made"), "_law_made", "_law_made", defArgs s_law_made, defBody s_law_made, defScope s_law_made, []⟩
abbrev d_law_alone : Df := ⟨(fun K => He.ga K "_law_alone"), "_law_alone", "_law_alone", defArgs s_law_alone, defBody s_law_alone, defScope s_law_alone, []⟩
abbrev d_law_asked : Df := ⟨(fun K => He.ga K "_law_asked"), "_law_asked", "_law_asked", defArgs s_law_asked, defBody s_law_asked, defScope s_law_asked, []⟩
abbrev d_law_pair : Df := ⟨(fun K => He.ga K "_law_pair"), "_law_pair", "_law_pair", defArgs s_law_pair, defBody s_law_pair, defScope s_law_pair, []⟩
abbrev d_law_refusal : Df := ⟨(fun K => He.ga K "_law_refusal"), "_law_refusal", "_law_refusal", defArgs s_law_refusal, defBody s_law_refusal, defScope s_law_refusal, []⟩
abbrev d_law_refusals : Df := ⟨(fun K => He.ga K "_law_refusals"), "_law_refusals", "_law_refusals", defArgs s_law_refusals, defBody s_law_refusals, defScope s_law_refusals, []⟩
abbrev d_law_made_others : Df := ⟨(fun K => He.ga K "_law_made_others"), "_law_made_others", "_law_made_others", defArgs s_law_made_others, defBody s_law_made_others, defScope s_law_made_others, []⟩
abbrev d_law : Df := ⟨(fun K => He.ga K "law"), "law", "law", defArgs s_law, defBody s_law, defScope s_law, []⟩
def fnL : List Df := (([d_ZeroBottom_init, d_Empty_init, d_SizeMismatch_init, d_Ratio_init, d_Ratio_mul, d_common_divisor, d_common_bottom, d_over_one_bottom, d_is_factor, d_as_ratio, d_Vector_init, d_Vector_len, d_Vector_getitem, d_Vector_add, d_Vector_sub, d_Vector_neg, d_Vector_mul, d_Vector_rmul, d_Vector_eq, d_Vector_dot, d_Vector_is_zero, d_Vector_unit, d_Vector_zero, d_Vector_of, d_sum_of_products] : List Df) ++ ([d_check_lengths, d_Poly_init, d_Poly_eq, d_law_cell, d_law_mix, d_law_draws, d_law_small, d_law_bottom, d_law_wide, d_law_is_integer, d_law_gcd, d_law_ratio, d_law_low, d_law_thing, d_law_factors, d_law_is_ratio, d_law_is, d_law_truth, d_law_made, d_law_alone, d_law_asked, d_law_pair, d_law_refusal, d_law_refusals, d_law_made_others] : List Df) ++ ([d_law] : List Df))
def LL : Ls where
  gl := ((["LastrowsError", "ZeroBottom", "BadNumber", "BadText", "Empty", "RaggedRows", "SizeMismatch", "NotSquare", "ZeroPoly", "Ratio", "Vector", "Matrix", "Poly", "common_divisor", "common_bottom", "over_one_bottom", "is_factor", "as_ratio", "sum_of_products", "_check_lengths", "_law_cell", "_law_mix", "_law_draws", "_law_small", "_law_bottom"] : List Str) ++ (["_law_wide", "_law_is_integer", "_law_gcd", "_law_ratio", "_law_low", "_law_thing", "_law_factors", "_law_is_ratio", "_law_is", "_law_truth", "_law_made", "_law_alone", "_law_asked", "_law_pair", "_law_refusal", "_law_refusals", "_law_made_others", "law"] : List Str))
  fr := ["NotImplemented", "len", "abs", "int", "bool", "str", "range", "isinstance", "list", "tuple", "zip", "enumerate", "sum", "max", "any", "ValueError"]
  cl := ["Ratio", "Vector", "Matrix", "Poly"]
  ex := ((["Empty", "SizeMismatch", "ZeroBottom"] : List Str))
  me := (([("Ratio", "__init__"), ("Ratio", "__mul__"), ("Vector", "__init__"), ("Vector", "__len__"), ("Vector", "__getitem__"), ("Vector", "__add__"), ("Vector", "__sub__"), ("Vector", "__neg__"), ("Vector", "__mul__"), ("Vector", "__rmul__"), ("Vector", "__eq__"), ("Vector", "dot"), ("Poly", "__init__"), ("Poly", "__eq__")] : List (Str × Str)))
  no := (([("Ratio", "top"), ("Ratio", "bottom"), ("Vector", "tops"), ("Vector", "bottom"), ("Matrix", "tops"), ("Matrix", "bottom"), ("Matrix", "height"), ("Matrix", "width"), ("Poly", "tops"), ("Poly", "bottom"), ("Empty", "word"), ("SizeMismatch", "left"), ("SizeMismatch", "right"), ("SizeMismatch", "word"), ("ZeroBottom", "word")] : List (Str × Str)))
  bl := [("gcd", "math.gcd"), ("lcm", "math.lcm")]
  kit := []
  kie := (([("SizeMismatch", "LastrowsError", true), ("SizeMismatch", "Empty", false), ("Empty", "LastrowsError", true), ("Empty", "ZeroBottom", false), ("Empty", "BadText", false), ("ZeroBottom", "LastrowsError", true), ("ZeroBottom", "Empty", false), ("ZeroBottom", "BadText", false)] : List (Str × Str × Bool)))
  kiv := (([("SizeMismatch", "ValueError", true), ("Empty", "ValueError", true), ("ZeroBottom", "ValueError", true)] : List (Str × String × Bool)))
  pr := (([("Vector", "is_zero")] : List (Str × Str)))
  nf := []
  fn := fnL
def cs : List Nat := [0, 1, 2, 3]
theorem cs_cl : ∀ c ∈ cs, cname c ∈ LL.cl := by decide +kernel
def sms : List (Str × Str) := [("Vector", "of"), ("Vector", "unit"), ("Vector", "zero")]
def cis : List (Str × Int) := [("_MOST_DIGITS", 400)]
def mxs : List (String × List Nat) := [("add", [1]), ("sub", [1]), ("mul", [0, 1])]
theorem fk_Ratio_top : (shape 0)[0]? = some ("top" : Str) ∧ (shape 0).Nodup := ⟨rfl, by decide +kernel⟩
theorem fk_Ratio_bottom : (shape 0)[1]? = some ("bottom" : Str) ∧ (shape 0).Nodup := ⟨rfl, by decide +kernel⟩
theorem dd_Ratio : ∀ K H, Reps K H [.int 1] [.int 1] := fun _ _ => .one (.int 1)
theorem fk_Vector_tops : (shape 1)[0]? = some ("tops" : Str) ∧ (shape 1).Nodup := ⟨rfl, by decide +kernel⟩
theorem fk_Vector_bottom : (shape 1)[1]? = some ("bottom" : Str) ∧ (shape 1).Nodup := ⟨rfl, by decide +kernel⟩
theorem dd_Vector : ∀ K H, Reps K H [.int 1] [.int 1] := fun _ _ => .one (.int 1)
theorem fk_Matrix_tops : (shape 2)[0]? = some ("tops" : Str) ∧ (shape 2).Nodup := ⟨rfl, by decide +kernel⟩
theorem fk_Matrix_bottom : (shape 2)[1]? = some ("bottom" : Str) ∧ (shape 2).Nodup := ⟨rfl, by decide +kernel⟩
theorem fk_Matrix_height : (shape 2)[2]? = some ("height" : Str) ∧ (shape 2).Nodup := ⟨rfl, by decide +kernel⟩
theorem fk_Matrix_width : (shape 2)[3]? = some ("width" : Str) ∧ (shape 2).Nodup := ⟨rfl, by decide +kernel⟩
theorem dd_Matrix : ∀ K H, Reps K H [.int 1] [.int 1] := fun _ _ => .one (.int 1)
theorem fk_Poly_tops : (shape 3)[0]? = some ("tops" : Str) ∧ (shape 3).Nodup := ⟨rfl, by decide +kernel⟩
theorem fk_Poly_bottom : (shape 3)[1]? = some ("bottom" : Str) ∧ (shape 3).Nodup := ⟨rfl, by decide +kernel⟩
theorem dd_Poly : ∀ K H, Reps K H [.int 1] [.int 1] := fun _ _ => .one (.int 1)
theorem nm_Ratio___init__ : ("__init__" : Str) ∉ shape 0 := by decide +kernel
theorem nm_Ratio___mul__ : ("__mul__" : Str) ∉ shape 0 := by decide +kernel
theorem nm_Vector___init__ : ("__init__" : Str) ∉ shape 1 := by decide +kernel
theorem nm_Vector___len__ : ("__len__" : Str) ∉ shape 1 := by decide +kernel
theorem nm_Vector___getitem__ : ("__getitem__" : Str) ∉ shape 1 := by decide +kernel
theorem nm_Vector___add__ : ("__add__" : Str) ∉ shape 1 := by decide +kernel
theorem nm_Vector___sub__ : ("__sub__" : Str) ∉ shape 1 := by decide +kernel
theorem nm_Vector___neg__ : ("__neg__" : Str) ∉ shape 1 := by decide +kernel
theorem nm_Vector___mul__ : ("__mul__" : Str) ∉ shape 1 := by decide +kernel
theorem nm_Vector___rmul__ : ("__rmul__" : Str) ∉ shape 1 := by decide +kernel
theorem nm_Vector___eq__ : ("__eq__" : Str) ∉ shape 1 := by decide +kernel
theorem nm_Vector_dot : ("dot" : Str) ∉ shape 1 := by decide +kernel
theorem nm_Poly___init__ : ("__init__" : Str) ∉ shape 3 := by decide +kernel
theorem nm_Poly___eq__ : ("__eq__" : Str) ∉ shape 3 := by decide +kernel
end K02

namespace K02
open PySem PySem.Spec PyProof.Rows L2 LR DL

abbrev HRow : PySem.W.OpenRow := PySem.W.OpenLaw.row PySem.Challenge.rw_lastrows_k02_vectors
def ads : List Addr := (([1091, 1090, 1084, 1083, 1079, 1078, 1072, 1071, 1065, 1064, 1060, 1059, 1053, 1052, 1048, 1047, 1041, 1040, 1034, 1033, 1027, 1026, 1020, 1019, 1013, 1012, 1008, 1007, 1003, 1002, 996, 995, 989, 988, 982, 981, 975, 974, 968, 967, 961, 960, 954, 953, 947, 946, 910, 909, 820, 819] : List Addr) ++ ([747, 746, 742, 704, 703, 537, 524, 523, 517, 516, 508, 507, 496, 494, 493, 486, 484, 483, 476, 474, 473, 469, 468, 467, 461, 460, 449, 448, 442, 441, 435, 434, 430, 429, 425, 424, 418, 417, 406, 405, 399, 398, 392, 391, 387, 379, 378, 372, 371, 365] : List Addr) ++ ([364, 360, 359, 353, 352, 328, 327, 257, 256, 236, 235, 229, 219, 200, 181, 180, 178, 177, 162, 143, 142, 140, 139, 124, 105, 86, 85, 83, 82, 66, 65, 3, 2] : List Addr))
def mo : PySem.W.Frag → Bool := fun K => mo2B cs sms cis mxs K
abbrev hk : PySem.W.Hook := hookA ads LL mo
def ob (s : PySem.W.SharedT) : AlL × Bool := LL.obsA ads mo (HandSHeadRun.getT s)
theorem ob_eq (s : PySem.W.SharedT) : ob s = hk.obs s.abs := Ls.obsA_eq (HandSHeadRun.getT_eq s)
def looseL : List Str := ((["gcd", "lcm", "_wall", "LastrowsError", "ZeroBottom", "BadNumber", "BadText", "Empty", "RaggedRows", "SizeMismatch", "NotSquare", "ZeroPoly", "_MOST_DIGITS", "Ratio", "_is_long", "_is_number", "common_divisor", "common_bottom", "over_one_bottom", "is_factor", "as_ratio", "Vector", "sum_of_products", "_check_lengths", "Matrix"] : List Str) ++ (["from_rows", "check_square", "check_sizes", "_check_rows", "Poly", "_padded", "_product", "_value", "_division", "_law_cell", "_law_mix", "_law_draws", "_law_small", "_law_bottom", "_law_wide", "_law_is_integer", "_law_gcd", "_law_ratio", "_law_low", "_law_thing", "_law_factors", "_law_is_ratio", "_law_is", "_law_truth", "_law_made"] : List Str) ++ (["_law_alone", "_law_asked", "_law_pair", "_law_refusal", "_law_refusals", "_law_made_others"] : List Str))
theorem run (w : World) : HandSHeadRun.RunEqI HRow (PySem.W.view HRow.prog [61]) hk ob 9000 looseL w := by
  unfold HandSHeadRun.RunEqI
  kernel_rfl
end K02

namespace K02
open PySem PySem.Spec PyProof.Rows L2 LR DL
section
variable {P : Program} {w : World} {K : PySem.W.Frag} {mg : Str → Option Value} {base : Heap}
local macro_rules | `(tactic| walk_at "side") => `(tactic| first | rfl | assumption | exact ⟨_, rfl⟩ | omega | exact mulL (by omega) (by omega) | exact mulR (by omega) (by omega) | exact mulF (by decide) (by decide) | exact ⟨by decide, by decide +kernel⟩ | decide | exact Nat.le_of_ble_eq_true rfl | (simp only [List.length_cons, List.length_nil, List.length_map, List.nil_append, List.cons_append, sizeLine_eq]; omega) | (simp only [List.map_cons, List.map_nil, List.nil_append, List.cons_append]; decide +kernel))
local macro_rules | `(tactic| walk_at "go") => `(tactic| repeat (first
  | refine ⟨_, rfl, ?_⟩
  | refine ⟨_, _, rfl, rfl, ?_⟩
  | refine ⟨_, _, rfl, ?_⟩
  | refine ⟨_, _, _, rfl, rfl, ?_⟩
  | refine ⟨_, _, _, rfl, ?_⟩
  | refine ⟨_, _, _, _, rfl, rfl, ?_⟩
  | refine ⟨_, _, _, _, rfl, ?_⟩
  | refine ⟨_, _, rfl, by assumption, ?_⟩
  | refine ⟨_, _, _, rfl, rfl, rfl, ?_⟩
  | refine ⟨_, _, _, rfl, rfl, by assumption, ?_⟩
  | refine ⟨_, _, _, rfl, rfl, by walk_at "side", by assumption, ?_⟩
  | refine ⟨_, _, _, rfl, rfl, by walk_at "side", rfl, ?_⟩
  | refine ⟨_, _, _, rfl, rfl, rfl, by assumption, ?_⟩
  | refine .inl ⟨_, rfl, ?_⟩
  | refine .inr ⟨_, rfl, ?_⟩
  | refine .inr (.inl ⟨_, rfl, ?_⟩)
  | refine .inr (.inr ⟨_, rfl, ?_⟩)
  | refine ⟨_, .inl rfl, ?_⟩
  | refine ⟨_, .inr rfl, ?_⟩
  | refine ⟨_, (by assumption : _ ∨ _), ?_⟩
  | refine .inr ⟨_, _, rfl, ?_⟩
  | refine .inl ⟨_, _, rfl, ?_⟩
  | refine And.intro (by walk_at "side") ?_))


def P_law_cell : Prm := fun ds Q _ => ∃ (ns : List Int) (k : Int), ds = [.lst (ns.map D.int), .int k] ∧ 0 ≤ k ∧ k ≤ 1000 ∧ ns.length ≤ 63 ∧ ∀ v : Int, 0 ≤ v → Q (.int v)
def P_law_mix : Prm := fun ds Q _ => ∃ (c k t : Int), ds = [.int c, .int k, .int t] ∧ 0 ≤ k ∧ k ≤ 1000 ∧ 0 ≤ t ∧ t ≤ 1000 ∧ ∀ v : Int, 0 ≤ v → v < 1024 → Q (.int v)
def P_law_draws : Prm := fun ds Q _ => ∃ (ns : List Int) (k m : Int), ds = [.lst (ns.map D.int), .int k, .int m] ∧ 0 ≤ k ∧ k ≤ 1000 ∧ 0 ≤ m ∧ m ≤ 1000 ∧ ns.length ≤ 63 ∧ ∀ zs : List Int, (zs.length : Int) = m → (∀ z ∈ zs, 0 ≤ z ∧ z < 1024) → Q (.lst (zs.map D.int))
def P_law_small : Prm := fun ds Q _ => ∃ d : Int, ds = [.int d] ∧ 0 ≤ d ∧ d < 1024 ∧ ∀ v : Int, -32 ≤ v → v ≤ 31 → Q (.int v)
def P_law_is_integer : Prm := fun ds Q _ => ∃ i : Int, ds = [.int i] ∧ Q (.bl true)
def P_law_gcd : Prm := fun ds Q _ => ∃ a b : Int, ds = [.int a, .int b] ∧ b.natAbs < 2 ^ 8999 ∧ Q (.int ((Nat.gcd b.natAbs a.natAbs : Nat) : Int))
def P_law_ratio : Prm := fun ds Q _ => ∃ t b : Int, ds = [.int t, .int b] ∧ b ≠ 0 ∧ b.natAbs < 2 ^ 8999 ∧ Q (.tup [.int (nT t b), .int (nB t b)])

theorem fn_law_cell (T : Txt LL K mg) (M : Mo2 cs sms cis mxs K mg) : Nonempty (Fn P w K mg base (d_law_cell.at_ K) 1 2 P_law_cell) := by
  refine Fn.of (T.d 28 (d := d_law_cell)) sc_law_cell rfl (fun _ _ _ _ _ _ us hl => match us, hl with | [_, _], _ => rfl) (fun ds Q ex h => ?_) (fun fd cdv A outer s H E hr => ⟨_, pdss_cons (pds_if (pdt_cmp op_lt l_B0 (pd_var (pv 1)) (pd_cb (fun h => pe_callB call_len (by rfl) (T.f "len") (by decide +kernel) h) l_len (pda_cons (pd_var (pv 0)) pda_nil)) (nomark _)) (pdss_one (pds_ret (pd_cb (fun h => pe_callB call_abs (by rfl) (T.f "abs") (by decide +kernel) h) l_abs (pda_cons (pd_ix ix_list l_ixL (pd_var (pv 0)) (pd_var (pv 1)) (fun _ _ => rfl)) pda_nil)))) pdss_nil) (pdss_cons (pds_set (i := 2) sc_law_cell.nd rfl (by first | exact Or.inl rfl | exact Or.inr rfl) (pd_int pe_int)) (pdss_cons (pds_for (passes_of rfl) rfl (pdi_list (pd_new (pdn_slL (pd_var (pv 0)) pdo_none (pdo_some (pd_int pe_int))))) (pdg_name (pg_name (i := 3) sc_law_cell.nd rfl (by first | exact Or.inl rfl | exact Or.inr rfl))) (pdss_one (pds_set (i := 2) sc_law_cell.nd rfl (by first | exact Or.inl rfl | exact Or.inr rfl) (pd_op op_modN l_I (pd_cb (fun h => pe_callTy call_int1 (by rfl) (T.f "int") (by decide +kernel) h) l_int (pda_cons (pd_op op_add l_I0 (pd_op op_mulZ l_I (pd_var (pv 2)) (pd_int pe_int)) (pd_op op_modN l_I (pd_cb (fun h => pe_callTy call_int1 (by rfl) (T.f "int") (by decide +kernel) h) l_int (pda_cons (pd_cb (fun h => pe_callB call_abs (by rfl) (T.f "abs") (by decide +kernel) h) l_abs (pda_cons (pd_var (pv 3)) pda_nil)) pda_nil)) (pd_int pe_int))) pda_nil)) (pd_int pe_int))))) (pdss_one (pds_ret (pd_op op_add l_I0 (pd_op op_add l_I0 (pd_op op_mulZ l_I (pd_var (pv 2)) (pd_int pe_int)) (pd_op op_mulZ l_I (pd_var (pv 1)) (pd_int pe_int))) (pd_int pe_int)))))), fun ds Q ex h => ?_⟩)
  · obtain ⟨ns, k, rfl, _⟩ := h
    rfl
  · obtain ⟨ns, k, rfl, h0, h1, hl, q⟩ := h
    walk_at "go"
    refine d_ite (fun c => ?_) (fun c => ?_)
    · have c' := of_decide_eq_true c
      simp only [List.length_map] at c'
      obtain ⟨z, _, _, hz⟩ := at_ex (l := ns) h0 c'
      walk_at "go"
      exact q _ (by omega)
    walk_at "go"
    obtain ⟨ms, em, _, _⟩ := cut_map D.int ns none (some 8)
    refine ⟨fun i env => ∃ (t : Int) (v : Sl), env = [.val (.lst (ns.map D.int)), .val (.int k), .val (.int t), v] ∧ 0 ≤ t ∧ t < 1000003, fun _ => ⟨5, _, rfl, by decide, by decide⟩, ?_, ?_⟩
    · rintro i x env hx ⟨t, v, rfl, t0, t1⟩
      rw [em] at hx
      obtain ⟨z, _, rfl⟩ := map_at hx
      walk_at "go"
      exact fun _ => ⟨_, _, rfl, fmod_lo _ (by decide), fmod_hi _ (by decide)⟩
    · rintro env ⟨t, v, rfl, t0, t1⟩
      walk_at "go"
      exact q _ (by omega)

theorem fn_law_mix (T : Txt LL K mg) (M : Mo2 cs sms cis mxs K mg) : Nonempty (Fn P w K mg base (d_law_mix.at_ K) 1 3 P_law_mix) := by
  refine Fn.of (T.d 29 (d := d_law_mix)) sc_law_mix rfl (fun _ _ _ _ _ _ us hl => match us, hl with | [_, _, _], _ => rfl) (fun ds Q ex h => ?_) (fun fd cdv A outer s H E hr => ⟨_, pdss_cons (pds_set (i := 3) sc_law_mix.nd rfl (by first | exact Or.inl rfl | exact Or.inr rfl) (pd_op op_modN l_I (pd_cb (fun h => pe_callTy call_int1 (by rfl) (T.f "int") (by decide +kernel) h) l_int (pda_cons (pd_op op_add l_I0 (pd_op op_add l_I0 (pd_op op_add l_I0 (pd_op op_mulZ l_I (pd_var (pv 0)) (pd_int pe_int)) (pd_op op_mulZ l_I (pd_var (pv 1)) (pd_int pe_int))) (pd_op op_mulZ l_I (pd_var (pv 2)) (pd_int pe_int))) (pd_int pe_int)) pda_nil)) (pd_int pe_int))) (pdss_cons (pds_set (i := 3) sc_law_mix.nd rfl (by first | exact Or.inl rfl | exact Or.inr rfl) (pd_op op_modN l_I (pd_cb (fun h => pe_callTy call_int1 (by rfl) (T.f "int") (by decide +kernel) h) l_int (pda_cons (pd_op op_add l_I0 (pd_op op_add l_I0 (pd_op op_mulZ l_I (pd_var (pv 3)) (pd_var (pv 3))) (pd_op op_mulZ l_I (pd_var (pv 2)) (pd_int pe_int))) (pd_int pe_int)) pda_nil)) (pd_int pe_int))) (pdss_cons (pds_set (i := 3) sc_law_mix.nd rfl (by first | exact Or.inl rfl | exact Or.inr rfl) (pd_op op_modN l_I (pd_cb (fun h => pe_callTy call_int1 (by rfl) (T.f "int") (by decide +kernel) h) l_int (pda_cons (pd_op op_add l_I0 (pd_op op_add l_I0 (pd_op op_mulZ l_I (pd_var (pv 3)) (pd_var (pv 3))) (pd_op op_mulZ l_I (pd_var (pv 1)) (pd_int pe_int))) (pd_int pe_int)) pda_nil)) (pd_int pe_int))) (pdss_one (pds_ret (pd_op op_modN l_I (pd_cb (fun h => pe_callTy call_int1 (by rfl) (T.f "int") (by decide +kernel) h) l_int (pda_cons (pd_var (pv 3)) pda_nil)) (pd_int pe_int)))))), fun ds Q ex h => ?_⟩)
  · obtain ⟨c, k, t, rfl, _⟩ := h
    rfl
  · obtain ⟨c, k, t, rfl, k0, k1, t0, t1, q⟩ := h
    walk_at "go"
    exact q _ (fmod_lo _ (by decide)) (fmod_hi _ (by decide))

theorem fn_law_draws (T : Txt LL K mg) (M : Mo2 cs sms cis mxs K mg) : Nonempty (Fn P w K mg base (d_law_draws.at_ K) 2 3 P_law_draws) := by
  obtain ⟨F_law_cell⟩ := fn_law_cell (P := P) (w := w) (base := base) T M
  obtain ⟨F_law_mix⟩ := fn_law_mix (P := P) (w := w) (base := base) T M
  refine Fn.of (T.d 30 (d := d_law_draws)) sc_law_draws rfl (fun _ _ _ _ _ _ us hl => match us, hl with | [_, _, _], _ => rfl) (fun ds Q ex h => ?_) (fun fd cdv A outer s H E hr => ⟨_, pdss_cons (pds_set (i := 3) sc_law_draws.nd rfl (by first | exact Or.inl rfl | exact Or.inr rfl) (pd_call F_law_cell (hr.mono (by decide)) (by rfl) (T.g "_law_cell") (T.k "_law_cell") (takes_of rfl rfl rfl rfl) (pda_cons (pd_var (pv 0)) (pda_cons (pd_var (pv 1)) pda_nil)))) (pdss_cons (pds_set (i := 4) sc_law_draws.nd rfl (by first | exact Or.inl rfl | exact Or.inr rfl) (pd_cmp op_ge l_B0 (pd_var (pv 3)) (pd_op op_powZ l_I (pd_int pe_int) (pd_int pe_int)) (nomark _))) (pdss_cons (pds_setN (i := 5) sc_law_draws.nd rfl (by first | exact Or.inl rfl | exact Or.inr rfl) (pdn_lst pda_nil)) (pdss_cons (pds_for (passes_of rfl) rfl (pdi_range1 rfl (T.f "range") (pda_cons (pd_var (pv 2)) pda_nil)) (pdg_name (pg_name (i := 6) sc_law_draws.nd rfl (by first | exact Or.inl rfl | exact Or.inr rfl))) (pdss_one (pds_if (PDW.pt (pdw_and (pdt_val (pd_var (pv 4))) (pdw_and1 (pdt_cmp op_gt l_B0 (pd_var (pv 3)) (pd_int pe_int) (nomark _))))) (pdss_cons (pds_app (i := 5) (te := id) (p1 := ⟨0, 0, 0, 0⟩) (p2 := ⟨0, 0, 0, 0⟩) (p3 := ⟨0, 0, 0, 0⟩) (x := "") (fun h => pe_bm PySem.F.plainAttrs_list PySem.F.slot_list_append PySem.F.type_list_append mt_append (pv 5) (pa_cons h pa_nil)) (pd_op op_modN l_I (pd_cb (fun h => pe_callTy call_int1 (by rfl) (T.f "int") (by decide +kernel) h) l_int (pda_cons (pd_var (pv 3)) pda_nil)) (pd_int pe_int))) (pdss_one (pds_set (i := 3) sc_law_draws.nd rfl (by first | exact Or.inl rfl | exact Or.inr rfl) (pd_op op_fdivZ l_I (pd_var (pv 3)) (pd_int pe_int))))) (pdss_one (pds_app (i := 5) (te := id) (p1 := ⟨0, 0, 0, 0⟩) (p2 := ⟨0, 0, 0, 0⟩) (p3 := ⟨0, 0, 0, 0⟩) (x := "") (fun h => pe_bm PySem.F.plainAttrs_list PySem.F.slot_list_append PySem.F.type_list_append mt_append (pv 5) (pa_cons h pa_nil)) (pd_call F_law_mix (hr.mono (by decide)) (by rfl) (T.g "_law_mix") (T.k "_law_mix") (takes_of rfl rfl rfl rfl) (pda_cons (pd_var (pv 3)) (pda_cons (pd_var (pv 1)) (pda_cons (pd_var (pv 6)) pda_nil))))))))) (pdss_frz 5 (pdss_one (pds_ret (pd_var (pv 5)))))))), fun ds Q ex h => ?_⟩)
  · obtain ⟨ns, k, m, rfl, _⟩ := h
    rfl
  · obtain ⟨ns, k, m, rfl, k0, k1, m0, m1, hl, q⟩ := h
    walk_at "go"
    intro v v0
    walk_at "go"
    refine ⟨fun i env => ∃ (c : Int) (zs : List Int) (dg : Bool) (u : Sl), env = [.val (.lst (ns.map D.int)), .val (.int k), .val (.int m), .val (.int c), .val (.bl dg), .own (zs.map D.int), u] ∧ zs.length = i ∧ ∀ z ∈ zs, 0 ≤ z ∧ z < 1024, fun _ => ⟨v, [], _, _, rfl, rfl, fun z hz => by cases hz⟩, ?_, ?_⟩
    · rintro i x env hx ⟨c, zs, dg, u, rfl, hz, hb⟩
      obtain ⟨hi, rfl⟩ := rng_at hx
      have ne : ∀ (z : Int), 0 ≤ z → z < 1024 → ∀ d ∈ zs ++ [z], 0 ≤ d ∧ d < 1024 := fun z z0 z1 d hd => by
        rcases List.mem_append.mp hd with e | e
        · exact hb d e
        · rw [List.mem_singleton.mp e]
          exact ⟨z0, z1⟩
      have hlen : (zs.map D.int).length < sizeLine := by rw [List.length_map]; exact sz100 (by omega)
      have app : ∀ z : Int, zs.map D.int ++ [D.int z] = (zs ++ [z]).map D.int := fun z => by rw [List.map_append]; rfl
      have cnt : ∀ z : Int, (zs ++ [z]).length = i + 1 := fun z => by rw [List.length_append, hz]; rfl
      walk_at "go"
      refine d_ite (fun e => ?_) (fun e => ?_)
      · walk_at "go"
        refine d_ite (fun e => ?_) (fun e => ?_)
        · walk_at "go"
          exact fun _ => ⟨_, zs ++ [_], dg, _, by rw [← app]; rfl, cnt _, ne _ (fmod_lo _ (by decide)) (fmod_hi _ (by decide))⟩
        · walk_at "go"
          intro v v0 v1
          walk_at "go"
          exact fun _ => ⟨_, zs ++ [v], dg, _, by rw [← app]; rfl, cnt _, ne _ v0 v1⟩
      · walk_at "go"
        intro v v0 v1
        walk_at "go"
        exact fun _ => ⟨_, zs ++ [v], dg, _, by rw [← app]; rfl, cnt _, ne _ v0 v1⟩
    · rintro env ⟨c, zs, dg, u, rfl, hz, hb⟩
      rw [rng_len] at hz
      walk_at "go"
      exact q zs (by omega) hb

theorem fn_law_small (T : Txt LL K mg) (M : Mo2 cs sms cis mxs K mg) : Nonempty (Fn P w K mg base (d_law_small.at_ K) 1 1 P_law_small) := by
  refine Fn.of (T.d 31 (d := d_law_small)) sc_law_small rfl (fun _ _ _ _ _ _ us hl => match us, hl with | [_], _ => rfl) (fun ds Q ex h => ?_) (fun fd cdv A outer s H E hr => ⟨_, pdss_cons (pds_if (pdt_cmp op_eq l_eq (pd_op op_modN l_I (pd_cb (fun h => pe_callTy call_int1 (by rfl) (T.f "int") (by decide +kernel) h) l_int (pda_cons (pd_var (pv 0)) pda_nil)) (pd_int pe_int)) (pd_int pe_int) (nomark _)) (pdss_one (pds_ret (pd_op op_sub l_I0 (pd_op op_modN l_I (pd_cb (fun h => pe_callTy call_int1 (by rfl) (T.f "int") (by decide +kernel) h) l_int (pda_cons (pd_op op_fdivZ l_I (pd_var (pv 0)) (pd_int pe_int)) pda_nil)) (pd_int pe_int)) (pd_int pe_int)))) pdss_nil) (pdss_one (pds_ret (pd_op op_sub l_I0 (pd_op op_modN l_I (pd_cb (fun h => pe_callTy call_int1 (by rfl) (T.f "int") (by decide +kernel) h) l_int (pda_cons (pd_var (pv 0)) pda_nil)) (pd_int pe_int)) (pd_int pe_int)))), fun ds Q ex h => ?_⟩)
  · obtain ⟨d, rfl, _⟩ := h
    rfl
  · obtain ⟨d, rfl, d0, d1, q⟩ := h
    walk_at "go"
    refine d_ite (fun c => ?_) (fun c => ?_)
    · walk_at "go"
      have a1 := fmod_lo (d.fdiv 16) (j := 64) (by decide)
      have a2 := fmod_hi (d.fdiv 16) (j := 64) (by decide)
      exact q _ (by omega) (by omega)
    · walk_at "go"
      have a1 := fmod_lo d (j := 7) (by decide)
      have a2 := fmod_hi d (j := 7) (by decide)
      exact q _ (by omega) (by omega)

theorem fn_law_is_integer (T : Txt LL K mg) (M : Mo2 cs sms cis mxs K mg) : Nonempty (Fn P w K mg base (d_law_is_integer.at_ K) 1 1 P_law_is_integer) := by
  refine Fn.of (T.d 34 (d := d_law_is_integer)) sc_law_is_integer rfl (fun _ _ _ _ _ _ us hl => match us, hl with | [_], _ => rfl) (fun ds Q ex h => ?_) (fun fd cdv A outer s H E hr => ⟨_, pdss_one (pds_ret (pd_and (pd_isi (cr := .int) M.isi M.cls (fun c h => nomatch h) (fun h => pe_callB call_isi (by rfl) (T.f "isinstance") (by decide +kernel) (pa_cons h (pa_cons (pe_bltn (v := .ty "int") (by rfl) (T.f "int") (by decide +kernel) rfl) pa_nil))) (pd_var (pv 0))) (pd_one (pd_not (pd_isi (cr := .bool) M.isi M.cls (fun c h => nomatch h) (fun h => pe_callB call_isi (by rfl) (T.f "isinstance") (by decide +kernel) (pa_cons h (pa_cons (pe_bltn (v := .ty "bool") (by rfl) (T.f "bool") (by decide +kernel) rfl) pa_nil))) (pd_var (pv 0))))))), fun ds Q ex h => ?_⟩)
  · obtain ⟨i, rfl, _⟩ := h
    rfl
  · obtain ⟨i, rfl, q⟩ := h
    walk_at "go"
    exact q

theorem fn_law_gcd (T : Txt LL K mg) (M : Mo2 cs sms cis mxs K mg) : Nonempty (Fn P w K mg base (d_law_gcd.at_ K) 1 2 P_law_gcd) := by
  refine Fn.of (T.d 35 (d := d_law_gcd)) sc_law_gcd rfl (fun _ _ _ _ _ _ us hl => match us, hl with | [_, _], _ => rfl) (fun ds Q ex h => ?_) (fun fd cdv A outer s H E hr => ⟨_, pdss_cons (pds_set (i := 0) sc_law_gcd.nd rfl (by first | exact Or.inl rfl | exact Or.inr rfl) (pd_cb (fun h => pe_callB call_abs (by rfl) (T.f "abs") (by decide +kernel) h) l_abs (pda_cons (pd_var (pv 0)) pda_nil))) (pdss_cons (pds_set (i := 1) sc_law_gcd.nd rfl (by first | exact Or.inl rfl | exact Or.inr rfl) (pd_cb (fun h => pe_callB call_abs (by rfl) (T.f "abs") (by decide +kernel) h) l_abs (pda_cons (pd_var (pv 1)) pda_nil))) (pdss_cons (pds_for (passes_of rfl) rfl (pdi_range1 rfl (T.f "range") (pda_cons (pd_op op_add l_I0 (pd_op op_mulZ l_I (pd_int pe_int) (pd_bits (pd_var (pv 1)))) (pd_int pe_int)) pda_nil)) (pdg_name (pg_name (i := 2) sc_law_gcd.nd rfl (by first | exact Or.inl rfl | exact Or.inr rfl))) (pdss_cons (pds_if (pdt_cmp op_eq l_eq (pd_var (pv 1)) (pd_int pe_int) (nomark _)) (pdss_one (pds_ret (pd_var (pv 0)))) pdss_nil) (pdss_one (pds_par (i := 0) (j := 1) (by rfl) sc_law_gcd.nd rfl rfl (by decide) rfl rfl (pd_var (pv 1)) (pd_op op_modN l_I (pd_cb (fun h => pe_callTy call_int1 (by rfl) (T.f "int") (by decide +kernel) h) l_int (pda_cons (pd_var (pv 0)) pda_nil)) (pd_var (pv 1))) (by rfl))))) (pdss_one (pds_ret (pd_var (pv 0)))))), fun ds Q ex h => ?_⟩)
  · obtain ⟨a, b, rfl, _⟩ := h
    rfl
  · obtain ⟨a, b, rfl, hb, q⟩ := h
    have hbits : Builtin.Int.intBits ((b.natAbs : Nat) : Int) ≤ 8999 := PyProof.Rows.intBits_le (by rw [Int.natAbs_natCast]; exact hb)
    have hB : b.natAbs < 2 ^ Builtin.Int.intBits ((b.natAbs : Nat) : Int) := by
      have z := bits_hi ((b.natAbs : Nat) : Int)
      rw [Int.natAbs_natCast] at z
      exact z
    rw [Nat.gcd_comm] at q
    walk_at "go"
    refine ⟨fun i env => ∃ (x y : Nat) (v : Sl), env = [.val (.int (x : Int)), .val (.int (y : Int)), v] ∧ Euc (Nat.gcd a.natAbs b.natAbs) b.natAbs i x y, fun _ => ⟨_, _, _, rfl, Euc.start _ _⟩, ?_, ?_⟩
    · rintro i _ env hx ⟨x, y, v, rfl, hE⟩
      obtain ⟨hi, rfl⟩ := rng_at hx
      walk_at "go"
      refine d_ite (fun c => ?_) (fun c => ?_)
      · have c1 : (y : Int) = 0 := of_decide_eq_true c
        have c2 : y = 0 := by omega
        subst c2
        rw [← hE.ret] at q
        walk_at "go"
        exact q
      · have c1 : ¬ (y : Int) = 0 := of_decide_eq_false c
        walk_at "go"
        have em : Int.fmod (x : Int) (y : Int) = ((x % y : Nat) : Int) := by
          rw [Int.fmod_eq_emod_of_nonneg _ (Int.natCast_nonneg _)]
          rfl
        exact fun _ => ⟨y, x % y, _, by rw [← em]; rfl, hE.step (by omega)⟩
    · rintro env ⟨x, y, v, rfl, hE⟩
      rw [rng_len] at hE
      generalize Builtin.Int.intBits ((b.natAbs : Nat) : Int) = n at hB hE
      rw [show ((2 : Int) * (n : Int) + 2).toNat = 2 * n + 2 by omega] at hE
      obtain ⟨_, e⟩ := hE.done hB
      rw [← e] at q
      walk_at "go"
      exact q

theorem fn_law_ratio (T : Txt LL K mg) (M : Mo2 cs sms cis mxs K mg) : Nonempty (Fn P w K mg base (d_law_ratio.at_ K) 2 2 P_law_ratio) := by
  obtain ⟨F_law_gcd⟩ := fn_law_gcd (P := P) (w := w) (base := base) T M
  refine Fn.of (T.d 36 (d := d_law_ratio)) sc_law_ratio rfl (fun _ _ _ _ _ _ us hl => match us, hl with | [_, _], _ => rfl) (fun ds Q ex h => ?_) (fun fd cdv A outer s H E hr => ⟨_, pdss_cons (pds_set (i := 2) sc_law_ratio.nd rfl (by first | exact Or.inl rfl | exact Or.inr rfl) (pd_call F_law_gcd (hr.mono (by decide)) (by rfl) (T.g "_law_gcd") (T.k "_law_gcd") (takes_of rfl rfl rfl rfl) (pda_cons (pd_var (pv 0)) (pda_cons (pd_var (pv 1)) pda_nil)))) (pdss_cons (pds_if (pdt_cmp op_lt l_B0 (pd_var (pv 1)) (pd_int pe_int) (nomark _)) (pdss_one (pds_set (i := 2) sc_law_ratio.nd rfl (by first | exact Or.inl rfl | exact Or.inr rfl) (pd_un un_neg l_U (pd_var (pv 2))))) pdss_nil) (pdss_one (pds_ret (pd_tup (pda_cons (pd_op op_fdivZ l_I (pd_var (pv 0)) (pd_var (pv 2))) (pda_cons (pd_op op_fdivZ l_I (pd_var (pv 1)) (pd_var (pv 2))) pda_nil)))))), fun ds Q ex h => ?_⟩)
  · obtain ⟨t, b, rfl, _⟩ := h
    rfl
  · obtain ⟨t, b, rfl, hb, hs, q⟩ := h
    have hdv : ∀ i, CDivZ i (gs [t] b) := fun i => divZ (gs_ne hb) (Nat.lt_of_le_of_lt (gs_le hb) hs) (by decide) (by decide)
    have hd1 := hdv t
    have hd2 := hdv b
    walk_at "go"
    refine d_ite (fun c => ?_) (fun c => ?_)
    · have c1 : b < 0 := of_decide_eq_true c
      have e : -((Nat.gcd b.natAbs t.natAbs : Nat) : Int) = gs [t] b := by
        unfold gs
        rw [if_neg (by omega), cg1]
      rw [← e] at hd1 hd2
      walk_at "go"
      unfold nT nB at q
      rw [← e] at q
      exact q
    · have c1 : ¬ b < 0 := of_decide_eq_false c
      have e : ((Nat.gcd b.natAbs t.natAbs : Nat) : Int) = gs [t] b := by
        unfold gs
        rw [if_pos (by omega), cg1]
      rw [← e] at hd1 hd2
      walk_at "go"
      unfold nT nB at q
      rw [← e] at q
      exact q


def P_law_bottom : Prm := fun ds Q _ => ∃ d : Int, ds = [.int d] ∧ ∀ v : Int, 1 ≤ v → v ≤ 6 → Q (.int v)
def P_law_wide : Prm := fun ds Q _ => ∃ (ns : List Int) (k : Int), ds = [.lst (ns.map D.int), .int k] ∧ 0 ≤ k ∧ k ≤ 900 ∧ ns.length ≤ 63 ∧ ∀ v : Int, v.natAbs < 10 ^ 18 → Q (.int v)
def P_law_low : Prm := fun ds Q _ => ∃ (ts : List Int) (b : Int), ds = [.lst (ts.map D.int), .int b] ∧ b ≠ 0 ∧ b.natAbs < 2 ^ 8999 ∧ (∀ t ∈ ts, t.natAbs < 2 ^ 8999) ∧ ts.length ≤ 1000 ∧ Q (.tup [.lst ((lT ts b).map D.int), .int (lB ts b)])
structure Bsame (b c : Bool) : Prop where
  h : b = c
def P_law_truth : Prm := fun ds Q _ => ∃ b c : Bool, ds = [.bl b, .bl c] ∧ Bsame b c ∧ Q (.bl true)

theorem fn_law_bottom (T : Txt LL K mg) (M : Mo2 cs sms cis mxs K mg) : Nonempty (Fn P w K mg base (d_law_bottom.at_ K) 1 1 P_law_bottom) := by
  refine Fn.of (T.d 32 (d := d_law_bottom)) sc_law_bottom rfl (fun _ _ _ _ _ _ us hl => match us, hl with | [_], _ => rfl) (fun ds Q ex h => ?_) (fun fd cdv A outer s H E hr => ⟨_, pdss_one (pds_ret (pd_ix ix_list l_ixL (pd_new (pdn_lst (pda_cons (pd_int pe_int) (pda_cons (pd_int pe_int) (pda_cons (pd_int pe_int) (pda_cons (pd_int pe_int) (pda_cons (pd_int pe_int) (pda_cons (pd_int pe_int) (pda_cons (pd_int pe_int) (pda_cons (pd_int pe_int) pda_nil)))))))))) (pd_op op_modN l_I (pd_cb (fun h => pe_callTy call_int1 (by rfl) (T.f "int") (by decide +kernel) h) l_int (pda_cons (pd_var (pv 0)) pda_nil)) (pd_int pe_int)) (fun _ _ => rfl))), fun ds Q ex h => ?_⟩)
  · obtain ⟨d, rfl, _⟩ := h
    rfl
  · obtain ⟨d, rfl, q⟩ := h
    obtain ⟨m, hm, h1, h2⟩ := pick_int (ys := [1, 1, 1, 2, 1, 3, 1, 6]) (n := 8) (lo := 1) (hi := 6) (k := d.fmod 8) rfl (by decide) (fmod_lo _ (by decide)) (fmod_hi _ (by decide))
    walk_at "go"
    exact q m h1 h2

theorem fn_law_wide (T : Txt LL K mg) (M : Mo2 cs sms cis mxs K mg) : Nonempty (Fn P w K mg base (d_law_wide.at_ K) 2 2 P_law_wide) := by
  obtain ⟨F_law_cell⟩ := fn_law_cell (P := P) (w := w) (base := base) T M
  refine Fn.of (T.d 33 (d := d_law_wide)) sc_law_wide rfl (fun _ _ _ _ _ _ us hl => match us, hl with | [_, _], _ => rfl) (fun ds Q ex h => ?_) (fun fd cdv A outer s H E hr => ⟨_, pdss_cons (pds_set (i := 2) sc_law_wide.nd rfl (by first | exact Or.inl rfl | exact Or.inr rfl) (pd_call F_law_cell (hr.mono (by decide)) (by rfl) (T.g "_law_cell") (T.k "_law_cell") (takes_of rfl rfl rfl rfl) (pda_cons (pd_var (pv 0)) (pda_cons (pd_var (pv 1)) pda_nil)))) (pdss_cons (pds_set (i := 3) sc_law_wide.nd rfl (by first | exact Or.inl rfl | exact Or.inr rfl) (pd_op op_modN l_I (pd_cb (fun h => pe_callTy call_int1 (by rfl) (T.f "int") (by decide +kernel) h) l_int (pda_cons (pd_op op_fdivZ l_I (pd_var (pv 2)) (pd_int pe_int)) pda_nil)) (pd_op op_powZ l_I (pd_int pe_int) (pd_int pe_int)))) (pdss_cons (pds_if (pdt_cmp op_eq l_eq (pd_op op_modN l_I (pd_cb (fun h => pe_callTy call_int1 (by rfl) (T.f "int") (by decide +kernel) h) l_int (pda_cons (pd_var (pv 2)) pda_nil)) (pd_int pe_int)) (pd_int pe_int) (nomark _)) (pdss_one (pds_ret (pd_un un_neg l_U (pd_var (pv 3))))) pdss_nil) (pdss_one (pds_ret (pd_var (pv 3)))))), fun ds Q ex h => ?_⟩)
  · obtain ⟨ns, k, rfl, _⟩ := h
    rfl
  · obtain ⟨ns, k, rfl, k0, k1, hl, q⟩ := h
    walk_at "go"
    intro v v0
    walk_at "go"
    obtain ⟨w, hw, w0, w1⟩ : ∃ w : Int, (v.fdiv 2).fmod ((fun (i j : Int) => i ^ j.toNat) 10 18) = w ∧ 0 ≤ w ∧ w < 1000000000000000000 := ⟨_, rfl, fmod_lo _ (by decide), fmod_hi _ (by decide)⟩
    rw [hw]
    refine d_ite (fun c => ?_) (fun c => ?_)
    · walk_at "go"
      exact q _ (by omega)
    · walk_at "go"
      exact q _ (by omega)

theorem fn_law_truth (T : Txt LL K mg) (M : Mo2 cs sms cis mxs K mg) : Nonempty (Fn P w K mg base (d_law_truth.at_ K) 1 2 P_law_truth) := by
  refine Fn.of (T.d 42 (d := d_law_truth)) sc_law_truth rfl (fun _ _ _ _ _ _ us hl => match us, hl with | [_, _], _ => rfl) (fun ds Q ex h => ?_) (fun fd cdv A outer s H E hr => ⟨_, pdss_one (pds_ret (pd_and (pd_isi (cr := .bool) M.isi M.cls (fun c h => nomatch h) (fun h => pe_callB call_isi (by rfl) (T.f "isinstance") (by decide +kernel) (pa_cons h (pa_cons (pe_bltn (v := .ty "bool") (by rfl) (T.f "bool") (by decide +kernel) rfl) pa_nil))) (pd_var (pv 0))) (pd_one (pd_cmp op_eq l_eq (pd_var (pv 0)) (pd_var (pv 1)) (nomark _))))), fun ds Q ex h => ?_⟩)
  · obtain ⟨b, c, rfl, _⟩ := h
    rfl
  · obtain ⟨b, c, rfl, ⟨rfl⟩, q⟩ := h
    walk_at "go"
    have e : (b == b) = true := by cases b <;> rfl
    rw [e]
    exact q

theorem fn_law_low (T : Txt LL K mg) (M : Mo2 cs sms cis mxs K mg) : Nonempty (Fn P w K mg base (d_law_low.at_ K) 2 2 P_law_low) := by
  obtain ⟨F_law_gcd⟩ := fn_law_gcd (P := P) (w := w) (base := base) T M
  refine Fn.of (T.d 37 (d := d_law_low)) sc_law_low rfl (fun _ _ _ _ _ _ us hl => match us, hl with | [_, _], _ => rfl) (fun ds Q ex h => ?_) (fun fd cdv A outer s H E hr => ⟨_, pdss_cons (pds_set (i := 2) sc_law_low.nd rfl (by first | exact Or.inl rfl | exact Or.inr rfl) (pd_cb (fun h => pe_callB call_abs (by rfl) (T.f "abs") (by decide +kernel) h) l_abs (pda_cons (pd_var (pv 1)) pda_nil))) (pdss_cons (pds_for (passes_of rfl) rfl (pdi_list (pd_var (pv 0))) (pdg_name (pg_name (i := 3) sc_law_low.nd rfl (by first | exact Or.inl rfl | exact Or.inr rfl))) (pdss_one (pds_set (i := 2) sc_law_low.nd rfl (by first | exact Or.inl rfl | exact Or.inr rfl) (pd_call F_law_gcd (hr.mono (by decide)) (by rfl) (T.g "_law_gcd") (T.k "_law_gcd") (takes_of rfl rfl rfl rfl) (pda_cons (pd_var (pv 2)) (pda_cons (pd_var (pv 3)) pda_nil)))))) (pdss_cut (pds_if (pdt_cmp op_lt l_B0 (pd_var (pv 1)) (pd_int pe_int) (nomark _)) (pdss_one (pds_set (i := 2) sc_law_low.nd rfl (by first | exact Or.inl rfl | exact Or.inr rfl) (pd_un un_neg l_U (pd_var (pv 2))))) pdss_nil) (pdss_one (pds_ret (pd_tup (pda_cons (pd_new (pdn_lc (own := [("top", 3)]) rfl sc_law_low.nd (pdi_list (pd_var (pv 0))) (blkOk_by (N := ["tops", "bottom", "part", "top"]) (sc := defScope s_law_low) (by decide +kernel)) (by decide) (fun _ _ _ _ _ => (pdg_name (pg_name (i := 3) sc_law_low.nd rfl (Or.inl rfl)))) (fun _ _ _ _ _ => pdts_nil) (fun _ _ _ _ _ => pd_op op_fdivZ l_I (pd_var (pv 3)) (pd_var (pv 2))))) (pda_cons (pd_op op_fdivZ l_I (pd_var (pv 1)) (pd_var (pv 2))) pda_nil))))))), fun ds Q ex h => ?_⟩)
  · obtain ⟨ts, b, rfl, _⟩ := h
    rfl
  · obtain ⟨ts, b, rfl, hb, hs, ht, hl, q⟩ := h
    have hg : (gs ts b).natAbs < 2 ^ 8999 := Nat.lt_of_le_of_lt (gs_le hb) hs
    walk_at "go"
    refine ⟨fun i env => ∃ (f : Nat) (v : Sl), env = [.val (.lst (ts.map D.int)), .val (.int b), .val (.int f), v] ∧ (ts.drop i).foldl (fun g t => Nat.gcd g t.natAbs) f = cg ts b, fun _ => ⟨b.natAbs, _, rfl, rfl⟩, ?_, ?_⟩
    · rintro i x env hx ⟨f, v, rfl, hf⟩
      obtain ⟨z, hz, rfl⟩ := map_at hx
      have hi : i < ts.length := (List.getElem?_eq_some_iff.mp hz).1
      have ez : ts[i] = z := (List.getElem?_eq_some_iff.mp hz).2
      have hzs : z.natAbs < 2 ^ 8999 := ht z (by rw [← ez]; exact List.getElem_mem hi)
      rw [List.drop_eq_getElem_cons hi, List.foldl_cons, ez] at hf
      walk_at "go"
      exact fun _ => ⟨Nat.gcd f z.natAbs, _, by rw [Nat.gcd_comm z.natAbs]; rfl, hf⟩
    · rintro env ⟨f, v, rfl, hf⟩
      rw [List.length_map, List.drop_length] at hf
      have hf : f = cg ts b := hf
      have hd : ∀ i, CDivZ i (gs ts b) := fun i => divZ (gs_ne hb) hg (by decide) (by decide)
      have fin : ∀ (g : Int), g = gs ts b → True := fun _ _ => trivial
      walk_at "go"
      refine ⟨fun env => ∃ v : Sl, env = [.val (.lst (ts.map D.int)), .val (.int b), .val (.int (gs ts b)), v], ?_, ?_⟩
      · walk_at "go"
        refine d_ite (fun c => ?_) (fun c => ?_)
        · have c' : b < 0 := of_decide_eq_true c
          have e : -(f : Int) = gs ts b := by
            unfold gs
            rw [if_neg (by omega), ← hf]
          walk_at "go"
          rw [e]
          exact fun _ => ⟨_, rfl⟩
        · have c' : ¬ b < 0 := of_decide_eq_false c
          have e : (f : Int) = gs ts b := by
            unfold gs
            rw [if_pos (by omega), ← hf]
          walk_at "go"
          rw [e]
          exact fun _ => ⟨_, rfl⟩
      rintro env ⟨v, rfl⟩
      have hd2 := hd b
      walk_at "go"
      refine ⟨fun i z => ∃ t : Int, ts[i]? = some t ∧ z = some (.int (t.fdiv (gs ts b))), ?_, ?_⟩
      · rintro i x hx
        obtain ⟨z, hz, rfl⟩ := map_at hx
        have hd3 := hd z
        walk_at "go"
        exact fun _ => ⟨z, hz, rfl⟩
      · intro zs hl2 hz
        obtain ⟨ms, e, hm, hm2⟩ := lc_map D.int (P := fun i v => ∃ t : Int, ts[i]? = some t ∧ v = t.fdiv (gs ts b)) hl2 (fun i z h => by
          obtain ⟨t, h1, h2⟩ := hz i z h
          exact ⟨_, h2, t, h1, rfl⟩)
        have em : ms = lT ts b := map_is (by rw [hm, List.length_map]) hm2
        rw [e, em]
        walk_at "go"
        exact q
end
end K02

namespace K02
open PySem PySem.Spec PyProof.Rows L2 LR DL
section
variable {P : Program} {w : World} {K : PySem.W.Frag} {mg : Str → Option Value} {base : Heap}
local macro_rules | `(tactic| walk_at "side") => `(tactic| first | rfl | assumption | exact ⟨_, rfl⟩ | omega | exact mulL (by omega) (by omega) | exact mulR (by omega) (by omega) | exact mulF (by decide) (by decide) | exact ⟨by decide, by decide +kernel⟩ | decide | exact Nat.le_of_ble_eq_true rfl | (simp only [List.length_cons, List.length_nil, List.length_map, List.nil_append, List.cons_append, sizeLine_eq]; omega) | (simp only [List.map_cons, List.map_nil, List.nil_append, List.cons_append]; decide +kernel))
local macro_rules | `(tactic| walk_at "go") => `(tactic| repeat (first
  | refine ⟨_, rfl, ?_⟩
  | refine ⟨_, _, rfl, rfl, ?_⟩
  | refine ⟨_, _, rfl, ?_⟩
  | refine ⟨_, _, _, rfl, rfl, ?_⟩
  | refine ⟨_, _, _, rfl, ?_⟩
  | refine ⟨_, _, _, _, rfl, rfl, ?_⟩
  | refine ⟨_, _, _, _, rfl, ?_⟩
  | refine ⟨_, _, rfl, by assumption, ?_⟩
  | refine ⟨_, _, _, rfl, rfl, rfl, ?_⟩
  | refine ⟨_, _, _, rfl, rfl, by assumption, ?_⟩
  | refine ⟨_, _, _, rfl, rfl, by walk_at "side", by assumption, ?_⟩
  | refine ⟨_, _, _, rfl, rfl, by walk_at "side", rfl, ?_⟩
  | refine ⟨_, _, _, rfl, rfl, rfl, by assumption, ?_⟩
  | refine .inl ⟨_, rfl, ?_⟩
  | refine .inr ⟨_, rfl, ?_⟩
  | refine .inr (.inl ⟨_, rfl, ?_⟩)
  | refine .inr (.inr ⟨_, rfl, ?_⟩)
  | refine ⟨_, .inl rfl, ?_⟩
  | refine ⟨_, .inr rfl, ?_⟩
  | refine ⟨_, (by assumption : _ ∨ _), ?_⟩
  | refine .inr ⟨_, _, rfl, ?_⟩
  | refine .inl ⟨_, _, rfl, ?_⟩
  | refine And.intro (by walk_at "side") ?_))

def sh_ZeroBottom : Xsh := [("word", .inr "bottom")]
theorem fx_ZeroBottom (T : Txt LL K mg) : Nonempty (FnX P w K mg base (d_ZeroBottom_init.at_ K) 1 "ZeroBottom" 0 sh_ZeroBottom) := by
  suffices ok : Ok P w K mg base (d_ZeroBottom_init.at_ K) 1 ["self"] (DL.spX K "ZeroBottom" 0 sh_ZeroBottom) by
    obtain ⟨fd, F, b⟩ := ok
    exact ⟨⟨fd, _, F, b⟩⟩
  refine Ok.of (T.d 0 (d := d_ZeroBottom_init)) sc_ZeroBottom_init (fun _ _ _ _ _ _ us hl => match us, hl with | [_], _ => rfl) (fun vs H Q E h => ?_) (fun fd cdv A outer s H vs Q E hr h => ?_)
  · obtain ⟨a, ws, rfl, hn, _⟩ := h
    exact congrArg (· + 1) hn
  · obtain ⟨a, ws, rfl, hn, ha, q⟩ := h
    obtain rfl := len0 hn
    refine ⟨_, pss_one (ps_ost (pv 0) pe_str), ?_⟩
    refine ⟨_, rfl, a, _, rfl, T.oex "ZeroBottom", T.no "ZeroBottom" "word", .inl ⟨ha, fun dx nd ne => ?_⟩⟩
    exact q _ dx (fun b o e nb => (upd_ne nb).trans ((upd_ne (ne_of_none e nd)).trans e)) nd ne (upd_same) ((upd_ne ne).trans upd_same)

def sh_Empty : Xsh := [("word", .inr "empty")]
theorem fx_Empty (T : Txt LL K mg) : Nonempty (FnX P w K mg base (d_Empty_init.at_ K) 1 "Empty" 0 sh_Empty) := by
  suffices ok : Ok P w K mg base (d_Empty_init.at_ K) 1 ["self"] (DL.spX K "Empty" 0 sh_Empty) by
    obtain ⟨fd, F, b⟩ := ok
    exact ⟨⟨fd, _, F, b⟩⟩
  refine Ok.of (T.d 1 (d := d_Empty_init)) sc_Empty_init (fun _ _ _ _ _ _ us hl => match us, hl with | [_], _ => rfl) (fun vs H Q E h => ?_) (fun fd cdv A outer s H vs Q E hr h => ?_)
  · obtain ⟨a, ws, rfl, hn, _⟩ := h
    exact congrArg (· + 1) hn
  · obtain ⟨a, ws, rfl, hn, ha, q⟩ := h
    obtain rfl := len0 hn
    refine ⟨_, pss_one (ps_ost (pv 0) pe_str), ?_⟩
    refine ⟨_, rfl, a, _, rfl, T.oex "Empty", T.no "Empty" "word", .inl ⟨ha, fun dx nd ne => ?_⟩⟩
    exact q _ dx (fun b o e nb => (upd_ne nb).trans ((upd_ne (ne_of_none e nd)).trans e)) nd ne (upd_same) ((upd_ne ne).trans upd_same)

def sh_SizeMismatch : Xsh := [("word", .inr "sizes"), ("right", .inl 1), ("left", .inl 0)]
theorem fx_SizeMismatch (T : Txt LL K mg) : Nonempty (FnX P w K mg base (d_SizeMismatch_init.at_ K) 1 "SizeMismatch" 2 sh_SizeMismatch) := by
  suffices ok : Ok P w K mg base (d_SizeMismatch_init.at_ K) 1 ["self", "left", "right"] (DL.spX K "SizeMismatch" 2 sh_SizeMismatch) by
    obtain ⟨fd, F, b⟩ := ok
    exact ⟨⟨fd, _, F, b⟩⟩
  refine Ok.of (T.d 2 (d := d_SizeMismatch_init)) sc_SizeMismatch_init (fun _ _ _ _ _ _ us hl => match us, hl with | [_, _, _], _ => rfl) (fun vs H Q E h => ?_) (fun fd cdv A outer s H vs Q E hr h => ?_)
  · obtain ⟨a, ws, rfl, hn, _⟩ := h
    exact congrArg (· + 1) hn
  · obtain ⟨a, ws, rfl, hn, ha, q⟩ := h
    obtain ⟨w0, w1, rfl⟩ := len2 hn
    refine ⟨_, pss_cons (ps_ost (pv 0) (pv 1)) (pss_cons (ps_ost (pv 0) (pv 2)) (pss_one (ps_ost (pv 0) pe_str))), ?_⟩
    refine ⟨_, rfl, _, rfl, a, _, rfl, T.oex "SizeMismatch", T.no "SizeMismatch" "left", .inl ⟨ha, fun dx nd ne => ?_⟩⟩
    refine ⟨_, rfl, _, rfl, a, _, rfl, T.oex "SizeMismatch", T.no "SizeMismatch" "right", .inr ⟨dx, _, upd_same, (upd_ne ne).trans upd_same, by simp, ?_⟩⟩
    refine ⟨_, rfl, a, _, rfl, T.oex "SizeMismatch", T.no "SizeMismatch" "word", .inr ⟨dx, _, (upd_ne (Ne.symm ne)).trans (upd_same), upd_same, by simp, ?_⟩⟩
    exact q _ dx (fun b o e nb => (upd_ne (ne_of_none e nd)).trans ((upd_ne (ne_of_none e nd)).trans ((upd_ne nb).trans ((upd_ne (ne_of_none e nd)).trans e)))) nd ne ((upd_ne (Ne.symm ne)).trans ((upd_ne (Ne.symm ne)).trans (upd_same))) (upd_same)


abbrev R (t b : Int) : D := .ins 0 [.int t, .int b]
abbrev V (ts : List Int) (b : Int) : D := .ins 1 [.tup (ts.map D.int), .int b]
/-- a list or a tuple of ints -/
def Sq (s : D) (ts : List Int) : Prop := s = .lst (ts.map D.int) ∨ s = .tup (ts.map D.int)
theorem Sq.at {s : D} {ts : List Int} (h : Sq s ts) : some (Sl.val s) = some (.val (.lst (ts.map D.int))) ∨ some (Sl.val s) = some (.val (.tup (ts.map D.int))) := h.imp (fun e => by rw [e]) (fun e => by rw [e])
def P_common_divisor : Prm := fun ds Q _ => ∃ (s : D) (ts : List Int) (b : Int), ds = [s, .int b] ∧ Sq s ts ∧ Q (.int (gs ts b))
def P_Ratio_init : Prm := fun ds Q ex => ∃ (t b : Int), ds = [.int t, .int b] ∧ (b = 0 → ex "ZeroBottom" (xD sh_ZeroBottom [])) ∧ (b ≠ 0 → (gs [t] b).natAbs < 2 ^ 8999 ∧ Q (R (nT t b) (nB t b)))
def P_Vector_init : Prm := fun ds Q ex => ∃ (s : D) (ts : List Int) (b : Int), ds = [s, .int b] ∧ Sq s ts ∧ ts.length ≤ 1000 ∧ (ts = [] → ex "Empty" (xD sh_Empty [])) ∧ (ts ≠ [] → b = 0 → ex "ZeroBottom" (xD sh_ZeroBottom [])) ∧
  (ts ≠ [] → b ≠ 0 → b.natAbs < 2 ^ 8999 ∧ Q (V (lT ts b) (lB ts b)))
def P_Vector_len : Prm := fun ds Q _ => ∃ (ts : List Int) (b : Int), ds = [V ts b] ∧ ts.length ≤ 1000 ∧ Q (.int ts.length)
def P_Vector_getitem : Prm := fun ds Q _ => ∃ (ts : List Int) (b k t : Int), ds = [V ts b, .int k] ∧ 0 ≤ k ∧ ts[k.toNat]? = some t ∧ 0 < b ∧ b.natAbs < 2 ^ 8999 ∧ Q (R (nT t b) (nB t b))
def P_check_lengths : Prm := fun ds Q ex => ∃ (ts : List Int) (b : Int) (us : List Int) (c : Int), ds = [V ts b, V us c] ∧ ts.length ≤ 1000 ∧ us.length ≤ 1000 ∧ (ts.length = us.length → Q .non) ∧ (ts.length ≠ us.length → ex "SizeMismatch" (xD sh_SizeMismatch [.int ts.length, .int us.length]))
def addT (ts : List Int) (b : Int) (us : List Int) (c : Int) : List Int := List.zipWith (fun x y => x * c + y * b) ts us
def P_Vector_add : Prm := fun ds Q ex => ∃ (ts : List Int) (b : Int) (us : List Int) (c : Int), ds = [V ts b, V us c] ∧ Vec 1000 ts b ∧ Vec 1000 us c ∧ (ts.length = us.length → Q (V (lT (addT ts b us c) (b * c)) (lB (addT ts b us c) (b * c)))) ∧
  (ts.length ≠ us.length → ex "SizeMismatch" (xD sh_SizeMismatch [.int ts.length, .int us.length]))
def P_Vector_neg : Prm := fun ds Q _ => ∃ (ts : List Int) (b : Int), ds = [V ts b] ∧ Vec 1000 ts b ∧ Q (V (negT ts) b)
def P_Vector_sub : Prm := fun ds Q ex => ∃ (ts : List Int) (b : Int) (us : List Int) (c : Int), ds = [V ts b, V us c] ∧ Vec 1000 ts b ∧ Vec 1000 us c ∧ (ts.length = us.length → Q (V (lT (addT ts b (negT us) c) (b * c)) (lB (addT ts b (negT us) c) (b * c)))) ∧
  (ts.length ≠ us.length → ex "SizeMismatch" (xD sh_SizeMismatch [.int ts.length, .int us.length]))
def mulT (ts : List Int) (p : Int) : List Int := ts.map fun t => t * p
/-- a factor: an int or a ratio -/
def Fac (d : D) (p q : Int) : Prop := (d = .int p ∧ q = 1) ∨ (d = R p q ∧ 0 < q)
def P_is_factor : Prm := fun ds Q _ => ∃ (d : D) (p q : Int), ds = [d] ∧ Fac d p q ∧ Q (.bl true)
def P_as_ratio : Prm := fun ds Q _ => ∃ (d : D) (p q : Int), ds = [d] ∧ Fac d p q ∧ Q (R p q)
def P_Vector_mul : Prm := fun ds Q _ => ∃ (ts : List Int) (b : Int) (d : D) (p q : Int), ds = [V ts b, d] ∧ Fac d p q ∧ Vec 1000 ts b ∧ p.natAbs < 2 ^ 1000 ∧ q.natAbs < 2 ^ 1000 ∧ Q (V (lT (mulT ts p) (b * q)) (lB (mulT ts p) (b * q)))
def P_Vector_eq : Prm := fun ds Q _ => ∃ (ts : List Int) (b : Int) (d : D), ds = [V ts b, d] ∧ kind cs d = true ∧ ((∃ us c, d = V us c ∧ Q (.bl (decide (ts = us) && decide (b = c)))) ∨ (isD d (.own 1) = false ∧ Q (.bl false)))
def dotT (ts us : List Int) : Int := (List.zipWith (fun x y => x * y) ts us).sum
def P_sum_of_products : Prm := fun ds Q _ => ∃ (ts us : List Int), ds = [.tup (ts.map D.int), .tup (us.map D.int)] ∧ Bd 1000 ts ∧ Bd 1000 us ∧ ts.length ≤ 1000 ∧ Q (.int (dotT ts us))
def P_Vector_dot : Prm := fun ds Q ex => ∃ (ts : List Int) (b : Int) (us : List Int) (c : Int), ds = [V ts b, V us c] ∧ Vec 1000 ts b ∧ Vec 1000 us c ∧ (ts.length = us.length → Q (R (nT (dotT ts us) (b * c)) (nB (dotT ts us) (b * c)))) ∧
  (ts.length ≠ us.length → ex "SizeMismatch" (xD sh_SizeMismatch [.int ts.length, .int us.length]))
def P_Vector_is_zero : Prm := fun ds Q _ => ∃ (ts : List Int) (b : Int), ds = [V ts b] ∧ Q (.bl (!ts.any (· != 0)))
def unitT (n : Nat) (p : Int) : List Int := (List.range n).map fun (i : Nat) => if (i : Int) = p then 1 else 0
def P_Vector_unit : Prm := fun ds Q _ => ∃ (n : Nat) (p : Int), ds = [.int n, .int p] ∧ 0 < n ∧ n ≤ 1000 ∧ Q (V (unitT n p) 1)
def P_Vector_zero : Prm := fun ds Q _ => ∃ n : Nat, ds = [.int n] ∧ 0 < n ∧ n ≤ 1000 ∧ Q (V (List.replicate n 0) 1)
def P_common_bottom : Prm := fun ds Q _ => ∃ qs : List Int, ds = [.lst (qs.map D.int)] ∧ (∀ q ∈ qs, 0 < q ∧ q ∣ 60) ∧ ∀ m : Int, 0 < m → m ∣ 60 → (∀ q ∈ qs, q ∣ m) → Q (.int m)
def RS (s : D) (rs : List (Int × Int)) : Prop := s = .lst (rs.map fun p => R p.1 p.2) ∨ s = .tup (rs.map fun p => R p.1 p.2)
theorem RS.at {s : D} {rs : List (Int × Int)} (h : RS s rs) : some (Sl.val s) = some (.val (.lst (rs.map fun p => R p.1 p.2))) ∨ some (Sl.val s) = some (.val (.tup (rs.map fun p => R p.1 p.2))) := h.imp (fun e => by rw [e]) (fun e => by rw [e])
def overT (rs : List (Int × Int)) (m : Int) : List Int := rs.map fun p => p.1 * m.fdiv p.2
def RsOk (rs : List (Int × Int)) : Prop := rs.length ≤ 1000 ∧ ∀ p ∈ rs, 0 < p.2 ∧ p.2 ∣ 60 ∧ p.1.natAbs < 2 ^ 1000
def P_over_one_bottom : Prm := fun ds Q _ => ∃ (s : D) (rs : List (Int × Int)), ds = [s] ∧ RS s rs ∧ RsOk rs ∧ ∀ m : Int, 0 < m → m ∣ 60 → (∀ p ∈ rs, p.2 ∣ m) → Q (.tup [.lst ((overT rs m).map D.int), .int m])
def P_Vector_of : Prm := fun ds Q ex => ∃ (s : D) (rs : List (Int × Int)), ds = [s] ∧ RS s rs ∧ RsOk rs ∧ (rs = [] → ex "Empty" (xD sh_Empty [])) ∧ (rs ≠ [] → ∀ m : Int, 0 < m → m ∣ 60 → (∀ p ∈ rs, p.2 ∣ m) → Q (V (lT (overT rs m) m) (lB (overT rs m) m)))
abbrev PO (ts : List Int) (b : Int) : D := .ins 3 [.tup (ts.map D.int), .int b]
def P_Poly_init : Prm := fun ds Q _ => ∃ (ts : List Int) (b : Int), ds = [.lst (ts.map D.int), .int b] ∧ ts.length ≤ 1000 ∧ b ≠ 0 ∧ b.natAbs < 2 ^ 8999 ∧ ∀ us c, Q (PO us c)
def P_Poly_eq : Prm := fun ds Q _ => ∃ (ts : List Int) (b : Int) (d : D), ds = [PO ts b, d] ∧ kind cs d = true ∧ isD d (.own 3) = false ∧ Q (.bl false)

theorem fn_common_divisor (T : Txt LL K mg) (M : Mo2 cs sms cis mxs K mg) : Nonempty (Fn P w K mg base (d_common_divisor.at_ K) 1 2 P_common_divisor) := by
  refine Fn.of (T.d 5 (d := d_common_divisor)) sc_common_divisor rfl (fun _ _ _ _ _ _ us hl => match us, hl with | [_, _], _ => rfl) (fun ds Q ex h => ?_) (fun fd cdv A outer s H E hr => ⟨_, pdss_cons (pds_set (i := 2) sc_common_divisor.nd rfl (by first | exact Or.inl rfl | exact Or.inr rfl) (pd_cb (fun h => pe_callB call_abs (by rfl) (T.f "abs") (by decide +kernel) h) l_abs (pda_cons (pd_var (pv 1)) pda_nil))) (pdss_cons (pds_for (passes_of rfl) rfl (pdi_seq (pv 0)) (pdg_name (pg_name (i := 3) sc_common_divisor.nd rfl (by first | exact Or.inl rfl | exact Or.inr rfl))) (pdss_cons (pds_if (pdt_cmp op_eq l_eq (pd_var (pv 2)) (pd_int pe_int) (nomark _)) (pdss_one pds_break) pdss_nil) (pdss_one (pds_set (i := 2) sc_common_divisor.nd rfl (by first | exact Or.inl rfl | exact Or.inr rfl) (pd_cb (fun h => pe_callBfun cr_gcd (by rfl) (T.b "gcd" "math.gcd") h) l_gcd (pda_cons (pd_var (pv 2)) (pda_cons (pd_var (pv 3)) pda_nil))))))) (pdss_one (pds_ret (pd_ife (pdt_cmp op_gt l_B0 (pd_var (pv 1)) (pd_int pe_int) (nomark _)) (pd_var (pv 2)) (pd_un un_neg l_U (pd_var (pv 2))))))), fun ds Q ex h => ?_⟩)
  · obtain ⟨s, ts, b, rfl, _⟩ := h
    rfl
  · obtain ⟨s, ts, b, rfl, hS, q⟩ := h
    have hs := hS.at
    walk_at "go"
    refine ⟨fun i env => ∃ (f : Nat) (v : Sl), env = [.val s, .val (.int b), .val (.int f), v] ∧ (ts.drop i).foldl (fun g t => Nat.gcd g t.natAbs) f = cg ts b, fun _ => ⟨_, _, rfl, rfl⟩, ?_, ?_⟩
    · rintro i x env hx ⟨f, v, rfl, hf⟩
      obtain ⟨z, hz, rfl⟩ := map_at hx
      have hi : i < ts.length := (List.getElem?_eq_some_iff.mp hz).1
      have ez : ts[i] = z := (List.getElem?_eq_some_iff.mp hz).2
      rw [List.drop_eq_getElem_cons hi, List.foldl_cons, ez] at hf
      walk_at "go"
      refine d_ite (fun c => ?_) (fun c => ?_)
      · have c1 : (f : Int) = 1 := of_decide_eq_true c
        have c2 : f = 1 := by omega
        subst c2
        rw [Nat.gcd_one_left, fold_one] at hf
        walk_at "go"
        refine d_ite (fun c => ?_) (fun c => ?_)
        · have c' : b > 0 := of_decide_eq_true c
          have e : gs ts b = 1 := by
            unfold gs
            rw [if_pos c', ← hf]
            rfl
          rw [e] at q
          walk_at "go"
          exact q
        · have c' : ¬ b > 0 := of_decide_eq_false c
          have e : gs ts b = -1 := by
            unfold gs
            rw [if_neg c', ← hf]
            rfl
          rw [e] at q
          walk_at "go"
          exact q
      · walk_at "go"
        exact fun _ => ⟨_, _, rfl, hf⟩
    · rintro env ⟨f, v, rfl, hf⟩
      rw [List.length_map, List.drop_length] at hf
      have hf : f = cg ts b := hf
      walk_at "go"
      refine d_ite (fun c => ?_) (fun c => ?_)
      · have c' : b > 0 := of_decide_eq_true c
        have e : gs ts b = f := by
          unfold gs
          rw [if_pos c', ← hf]
        rw [e] at q
        walk_at "go"
        exact q
      · have c' : ¬ b > 0 := of_decide_eq_false c
        have e : gs ts b = -f := by
          unfold gs
          rw [if_neg c', ← hf]
        rw [e] at q
        walk_at "go"
        exact q

theorem fn_Ratio_init (T : Txt LL K mg) (M : Mo2 cs sms cis mxs K mg) : Nonempty (FnI P w K mg base (d_Ratio_init.at_ K) 4 0 2 P_Ratio_init [] []) ∧ Nonempty (FnI P w K mg base (d_Ratio_init.at_ K) 4 0 2 P_Ratio_init [.int 1] [.int 1]) := by
  obtain ⟨F_ZeroBottom⟩ := fx_ZeroBottom (P := P) (w := w) (base := base) T
  obtain ⟨F_common_divisor⟩ := fn_common_divisor (P := P) (w := w) (base := base) T M
  refine FnI.ofD (T.d 3 (d := d_Ratio_init)) sc_Ratio_init rfl (fun n hn _ _ _ _ _ _ _ us its hu hi => ?_) (fun ds Q ex h => ?_) (fun fd cdv A outer s H E hr => ⟨_, pdss_cons (pds_if (pdt_cmp op_eq l_eq (pd_var (pv 2)) (pd_int pe_int) (nomark _)) (pdss_one (pds_raise0 rfl (takes_of rfl rfl rfl rfl) (pmk_oex0 (T.oex "ZeroBottom") (T.exI "ZeroBottom") (T.exT "ZeroBottom") F_ZeroBottom.ok (hr.mono (by decide)) F_ZeroBottom.bd passL (by rfl) (T.g "ZeroBottom")))) pdss_nil) (pdss_cons (pds_set (i := 3) sc_Ratio_init.nd rfl (by first | exact Or.inl rfl | exact Or.inr rfl) (pd_call F_common_divisor (hr.mono (by decide)) (by rfl) (T.g "common_divisor") (T.k "common_divisor") (takes_of rfl rfl rfl rfl) (pda_cons (pd_new (pdn_lst (pda_cons (pd_var (pv 1)) pda_nil))) (pda_cons (pd_var (pv 2)) pda_nil)))) (pdss_cons (pds_fst (i := 0) (c := 0) (f := "top") (T.cl "Ratio") (T.no "Ratio" "top") (fun h => ps_fld (pv 0) h rfl) (pd_op op_fdivZ l_I (pd_var (pv 1)) (pd_var (pv 3)))) (pdss_one (pds_fst (i := 0) (c := 0) (f := "bottom") (T.cl "Ratio") (T.no "Ratio" "bottom") (fun h => ps_fld (pv 0) h rfl) (pd_op op_fdivZ l_I (pd_var (pv 2)) (pd_var (pv 3))))))), fun p ds Q ex h => ?_⟩)
  · have hn : n = 3 ∨ n + 1 = 3 := hn
    rcases hn with rfl | hn
    · exact match us, hu, its, hi with | [_, _, _], _, [_], _ => ⟨_, rfl, rfl⟩
    · obtain rfl : n = 2 := by omega
      exact match us, hu, its, hi with | [_, _], _, [_], _ => ⟨_, rfl, rfl⟩
  · obtain ⟨t, b, rfl, _⟩ := h
    rfl
  · obtain ⟨t, b, rfl, q0, q⟩ := h
    walk_at "go"
    refine d_ite (fun c => ?_) (fun c => ?_)
    · walk_at "go"
      exact q0 (of_decide_eq_true c)
    · have c' : b ≠ 0 := of_decide_eq_false c
      obtain ⟨hg, q⟩ := q c'
      have hd : CDivZ t (gs [t] b) := divZ (gs_ne c') hg (by decide) (by decide)
      have hd2 : CDivZ b (gs [t] b) := divZ (gs_ne c') hg (by decide) (by decide)
      walk_at "go"
      refine ⟨_, [t], b, rfl, .inl rfl, ?_⟩
      walk_at "go"
      exact q

theorem fn_Vector_init (T : Txt LL K mg) (M : Mo2 cs sms cis mxs K mg) : Nonempty (FnI P w K mg base (d_Vector_init.at_ K) 4 1 2 P_Vector_init [] []) ∧ Nonempty (FnI P w K mg base (d_Vector_init.at_ K) 4 1 2 P_Vector_init [.int 1] [.int 1]) := by
  obtain ⟨F_Empty⟩ := fx_Empty (P := P) (w := w) (base := base) T
  obtain ⟨F_ZeroBottom⟩ := fx_ZeroBottom (P := P) (w := w) (base := base) T
  obtain ⟨F_common_divisor⟩ := fn_common_divisor (P := P) (w := w) (base := base) T M
  refine FnI.ofD (T.d 10 (d := d_Vector_init)) sc_Vector_init rfl (fun n hn _ _ _ _ _ _ _ us its hu hi => ?_) (fun ds Q ex h => ?_) (fun fd cdv A outer s H E hr => ⟨_, pdss_cons (pds_if (pdt_cmp op_eq l_eq (pd_cb (fun h => pe_callB call_len (by rfl) (T.f "len") (by decide +kernel) h) l_len (pda_cons (pd_var (pv 1)) pda_nil)) (pd_int pe_int) (nomark _)) (pdss_one (pds_raise0 rfl (takes_of rfl rfl rfl rfl) (pmk_oex0 (T.oex "Empty") (T.exI "Empty") (T.exT "Empty") F_Empty.ok (hr.mono (by decide)) F_Empty.bd passL (by rfl) (T.g "Empty")))) pdss_nil) (pdss_cons (pds_if (pdt_cmp op_eq l_eq (pd_var (pv 2)) (pd_int pe_int) (nomark _)) (pdss_one (pds_raise0 rfl (takes_of rfl rfl rfl rfl) (pmk_oex0 (T.oex "ZeroBottom") (T.exI "ZeroBottom") (T.exT "ZeroBottom") F_ZeroBottom.ok (hr.mono (by decide)) F_ZeroBottom.bd passL (by rfl) (T.g "ZeroBottom")))) pdss_nil) (pdss_cons (pds_set (i := 3) sc_Vector_init.nd rfl (by first | exact Or.inl rfl | exact Or.inr rfl) (pd_call F_common_divisor (hr.mono (by decide)) (by rfl) (T.g "common_divisor") (T.k "common_divisor") (takes_of rfl rfl rfl rfl) (pda_cons (pd_var (pv 1)) (pda_cons (pd_var (pv 2)) pda_nil)))) (pdss_cons (pds_fst (i := 0) (c := 1) (f := "tops") (T.cl "Vector") (T.no "Vector" "tops") (fun h => ps_fld (pv 0) h rfl) (pd_cb (fun h => pe_callTy call_tuple_of (by rfl) (T.f "tuple") (by decide +kernel) h) l_tuple (pda_cons (pd_new (pdn_lc (own := [("top", 4)]) rfl sc_Vector_init.nd (pdi_seq (pv 1)) (blkOk_by (N := ["self", "tops", "bottom", "divisor", "top"]) (sc := defScope s_Vector_init) (by decide +kernel)) (by decide) (fun _ _ _ _ _ => (pdg_name (pg_name (i := 4) sc_Vector_init.nd rfl (Or.inl rfl)))) (fun _ _ _ _ _ => pdts_nil) (fun _ _ _ _ _ => pd_op op_fdivZ l_I (pd_var (pv 4)) (pd_var (pv 3))))) pda_nil))) (pdss_one (pds_fst (i := 0) (c := 1) (f := "bottom") (T.cl "Vector") (T.no "Vector" "bottom") (fun h => ps_fld (pv 0) h rfl) (pd_op op_fdivZ l_I (pd_var (pv 2)) (pd_var (pv 3)))))))), fun p ds Q ex h => ?_⟩)
  · have hn : n = 3 ∨ n + 1 = 3 := hn
    rcases hn with rfl | hn
    · exact match us, hu, its, hi with | [_, _, _], _, [_], _ => ⟨_, rfl, rfl⟩
    · obtain rfl : n = 2 := by omega
      exact match us, hu, its, hi with | [_, _], _, [_], _ => ⟨_, rfl, rfl⟩
  · obtain ⟨s, ts, b, rfl, _⟩ := h
    rfl
  · obtain ⟨s, ts, b, rfl, hS, hl, q0, q1, q2⟩ := h
    have hs := hS.at
    have key : ∀ {p : Prop}, (∀ k : Int, k = ts.length → p) → p := fun h => h _ rfl
    have hls : ts.length < sizeLine := sz100 (by omega)
    by_cases hn : ts = []
    · subst hn
      rcases hS with rfl | rfl
      · walk_at "go"
        exact q0 rfl
      · walk_at "go"
        exact q0 rfl
    have hpos : 0 < ts.length := List.length_pos_iff.mpr hn
    have dn : decide ((((ts.map D.int).length : Nat) : Int) = 0) = false := decide_eq_false (by rw [List.length_map]; omega)
    have go : ∀ {p : Prop}, p → p := fun h => h
    rcases hS with rfl | rfl
    all_goals
      walk_at "go"
      rw [dn]
      walk_at "go"
      refine d_ite (fun c => ?_) (fun c => ?_)
      · walk_at "go"
        exact q1 hn (of_decide_eq_true c)
      have hb : b ≠ 0 := of_decide_eq_false c
      obtain ⟨hbs, q2⟩ := q2 hn hb
      have hg : (gs ts b).natAbs < 2 ^ 8999 := Nat.lt_of_le_of_lt (gs_le hb) hbs
      have hd : ∀ i, CDivZ i (gs ts b) := fun i => divZ (gs_ne hb) hg (by decide) (by decide)
      have hdb := hd b
      walk_at "go"
      refine ⟨_, ts, b, rfl, by first | exact .inl rfl | exact .inr rfl, ?_⟩
      walk_at "go"
      refine ⟨fun i z => ∃ t : Int, ts[i]? = some t ∧ z = some (.int (t.fdiv (gs ts b))), ?_, ?_⟩
      · rintro i x hx
        obtain ⟨z, hz, rfl⟩ := map_at hx
        have hd3 := hd z
        walk_at "go"
        exact fun _ => ⟨z, hz, rfl⟩
      · intro zs hl2 hz
        obtain ⟨ms, e, hm, hm2⟩ := lc_map D.int (P := fun i v => ∃ t : Int, ts[i]? = some t ∧ v = t.fdiv (gs ts b)) hl2 (fun i z h => by
          obtain ⟨t, h1, h2⟩ := hz i z h
          exact ⟨_, h2, t, h1, rfl⟩)
        have em : ms = lT ts b := map_is (by rw [hm, List.length_map]) hm2
        rw [e, em]
        walk_at "go"
        exact q2

theorem fn_Vector_len (T : Txt LL K mg) (M : Mo2 cs sms cis mxs K mg) : Nonempty (Fn P w K mg base (d_Vector_len.at_ K) 1 1 P_Vector_len) := by
  refine Fn.of (T.d 11 (d := d_Vector_len)) sc_Vector_len rfl (fun _ _ _ _ _ _ us hl => match us, hl with | [_], _ => rfl) (fun ds Q ex h => ?_) (fun fd cdv A outer s H E hr => ⟨_, pdss_one (pds_ret (pd_cb (fun h => pe_callB call_len (by rfl) (T.f "len") (by decide +kernel) h) l_len (pda_cons (pd_fld (c := 1) (k := 0) (T.cl "Vector") (T.no "Vector" "tops") fk_Vector_tops (pd_var (pv 0))) pda_nil))), fun ds Q ex h => ?_⟩)
  · obtain ⟨ts, b, rfl, _⟩ := h
    rfl
  · obtain ⟨ts, b, rfl, hl, q⟩ := h
    walk_at "go"
    rw [List.length_map]
    exact q

theorem fn_Vector_getitem (T : Txt LL K mg) (M : Mo2 cs sms cis mxs K mg) : Nonempty (Fn P w K mg base (d_Vector_getitem.at_ K) 6 2 P_Vector_getitem) := by
  obtain ⟨⟨F_Ratio_init⟩, ⟨F_Ratio_init_d⟩⟩ := fn_Ratio_init (P := P) (w := w) (base := base) T M
  refine Fn.of (T.d 12 (d := d_Vector_getitem)) sc_Vector_getitem rfl (fun _ _ _ _ _ _ us hl => match us, hl with | [_, _], _ => rfl) (fun ds Q ex h => ?_) (fun fd cdv A outer s H E hr => ⟨_, pdss_one (pds_ret (pd_make (c := 0) (T.mkk "Ratio") F_Ratio_init (fun _ _ => .nil) (hr.mono (by decide)) (by rfl) (T.g "Ratio") (takes_of rfl rfl rfl rfl) (pda_cons (pd_ix ix_tup l_ixT (pd_fld (c := 1) (k := 0) (T.cl "Vector") (T.no "Vector" "tops") fk_Vector_tops (pd_var (pv 0))) (pd_var (pv 1)) (fun _ _ => rfl)) (pda_cons (pd_fld (c := 1) (k := 1) (T.cl "Vector") (T.no "Vector" "bottom") fk_Vector_bottom (pd_var (pv 0))) pda_nil)))), fun ds Q ex h => ?_⟩)
  · obtain ⟨ts, b, k, t, rfl, _⟩ := h
    rfl
  · obtain ⟨ts, b, k, t, rfl, k0, hk, hb, hs, q⟩ := h
    have e := at_map (f := D.int) k0 hk
    have hb' : b ≠ 0 := by omega
    have hg : (gs [t] b).natAbs < 2 ^ 8999 := Nat.lt_of_le_of_lt (gs_le hb') hs
    walk_at "go"
    exact fun _ => ⟨hg, q⟩

theorem fn_check_lengths (T : Txt LL K mg) (M : Mo2 cs sms cis mxs K mg) : Nonempty (Fn P w K mg base (d_check_lengths.at_ K) 4 2 P_check_lengths) := by
  obtain ⟨F_Vector_len⟩ := fn_Vector_len (P := P) (w := w) (base := base) T M
  obtain ⟨F_SizeMismatch⟩ := fx_SizeMismatch (P := P) (w := w) (base := base) T
  refine Fn.of (T.d 25 (d := d_check_lengths)) sc_check_lengths rfl (fun _ _ _ _ _ _ us hl => match us, hl with | [_, _], _ => rfl) (fun ds Q ex h => ?_) (fun fd cdv A outer s H E hr => ⟨_, pdss_one (pds_if (pdt_cmp op_ne l_ne (pd_cb (fun h => pe_callB (call_lenO (T.own "Vector" "__len__") (T.fnn "Vector" "__len__") F_Vector_len.ok (hr.mono (by decide)) F_Vector_len.bd passL) (by rfl) (T.f "len") (by decide +kernel) h) (l_lenO (c := 1) F_Vector_len.len) (pda_cons (pd_var (pv 0)) pda_nil)) (pd_cb (fun h => pe_callB (call_lenO (T.own "Vector" "__len__") (T.fnn "Vector" "__len__") F_Vector_len.ok (hr.mono (by decide)) F_Vector_len.bd passL) (by rfl) (T.f "len") (by decide +kernel) h) (l_lenO (c := 1) F_Vector_len.len) (pda_cons (pd_var (pv 1)) pda_nil)) (nomark _)) (pdss_one (pds_raise rfl (takes_of rfl rfl rfl rfl) (fun h => pmk_oex (T.oex "SizeMismatch") (T.exI "SizeMismatch") (T.exT "SizeMismatch") F_SizeMismatch.ok (hr.mono (by decide)) F_SizeMismatch.bd .nil passL (by rfl) (T.g "SizeMismatch") h) (pda_cons (pd_cb (fun h => pe_callB (call_lenO (T.own "Vector" "__len__") (T.fnn "Vector" "__len__") F_Vector_len.ok (hr.mono (by decide)) F_Vector_len.bd passL) (by rfl) (T.f "len") (by decide +kernel) h) (l_lenO (c := 1) F_Vector_len.len) (pda_cons (pd_var (pv 0)) pda_nil)) (pda_cons (pd_cb (fun h => pe_callB (call_lenO (T.own "Vector" "__len__") (T.fnn "Vector" "__len__") F_Vector_len.ok (hr.mono (by decide)) F_Vector_len.bd passL) (by rfl) (T.f "len") (by decide +kernel) h) (l_lenO (c := 1) F_Vector_len.len) (pda_cons (pd_var (pv 1)) pda_nil)) pda_nil)))) pdss_nil), fun ds Q ex h => ?_⟩)
  · obtain ⟨ts, b, us, c, rfl, _⟩ := h
    rfl
  · obtain ⟨ts, b, us, c, rfl, hl, hm, q1, q2⟩ := h
    walk_at "go"
    by_cases hc : ts.length = us.length
    · have e : decide ((ts.length : Int) = (us.length : Int)) = true := decide_eq_true (by omega)
      rw [e]
      exact q1 hc
    · have e : decide ((ts.length : Int) = (us.length : Int)) = false := decide_eq_false (by omega)
      rw [e]
      walk_at "go"
      exact q2 hc
end
end K02

namespace K02
open PySem PySem.Spec PyProof.Rows L2 LR DL
section
variable {P : Program} {w : World} {K : PySem.W.Frag} {mg : Str → Option Value} {base : Heap}
local macro_rules | `(tactic| walk_at "side") => `(tactic| first | rfl | assumption | exact ⟨_, rfl⟩ | omega | exact mulL (by omega) (by omega) | exact mulR (by omega) (by omega) | exact mulF (by decide) (by decide) | exact ⟨by decide, by decide +kernel⟩ | decide | exact Nat.le_of_ble_eq_true rfl | (simp only [List.length_cons, List.length_nil, List.length_map, List.nil_append, List.cons_append, sizeLine_eq]; omega) | (simp only [List.map_cons, List.map_nil, List.nil_append, List.cons_append]; decide +kernel))
local macro_rules | `(tactic| walk_at "go") => `(tactic| repeat (first
  | refine ⟨_, rfl, ?_⟩
  | refine ⟨_, _, rfl, rfl, ?_⟩
  | refine ⟨_, _, rfl, ?_⟩
  | refine ⟨_, _, _, rfl, rfl, ?_⟩
  | refine ⟨_, _, _, rfl, ?_⟩
  | refine ⟨_, _, _, _, rfl, rfl, ?_⟩
  | refine ⟨_, _, _, _, rfl, ?_⟩
  | refine ⟨_, _, rfl, by assumption, ?_⟩
  | refine ⟨_, _, _, rfl, rfl, rfl, ?_⟩
  | refine ⟨_, _, _, rfl, rfl, by assumption, ?_⟩
  | refine ⟨_, _, _, rfl, rfl, by walk_at "side", by assumption, ?_⟩
  | refine ⟨_, _, _, rfl, rfl, by walk_at "side", rfl, ?_⟩
  | refine ⟨_, _, _, rfl, rfl, rfl, by assumption, ?_⟩
  | refine .inl ⟨_, rfl, ?_⟩
  | refine .inr ⟨_, rfl, ?_⟩
  | refine .inr (.inl ⟨_, rfl, ?_⟩)
  | refine .inr (.inr ⟨_, rfl, ?_⟩)
  | refine ⟨_, .inl rfl, ?_⟩
  | refine ⟨_, .inr rfl, ?_⟩
  | refine ⟨_, (by assumption : _ ∨ _), ?_⟩
  | refine .inr ⟨_, _, rfl, ?_⟩
  | refine .inl ⟨_, _, rfl, ?_⟩
  | refine And.intro (by walk_at "side") ?_))


theorem vhg {n : Nat} {b : Int} {ts : List Int} (h : 0 < b) (hs : b.natAbs < 2 ^ n) (hn : n ≤ 8999) : b.natAbs < 2 ^ 8999 := abs_up hs hn
theorem mul_ok {t u : Int} (h1 : t.natAbs < 2 ^ 1000) (h2 : u.natAbs < 2 ^ 1000) : IntMulOk t u := mulW h1 h2 (by decide) (by decide) (by decide)
theorem mul_bd {b c : Int} (h1 : b.natAbs < 2 ^ 1000) (h2 : c.natAbs < 2 ^ 1000) : (b * c).natAbs < 2 ^ 8999 := abs_up (abs_mul_lt h1 h2) (by decide)
theorem zip_at {ts us : List Int} {i : Nat} {d : D} (h : (zipD (ts.map D.int) (us.map D.int))[i]? = some d) : ∃ x y, ts[i]? = some x ∧ us[i]? = some y ∧ d = .tup [.int x, .int y] := by
  unfold zipD at h
  rw [List.getElem?_zipWith] at h
  rw [List.getElem?_map, List.getElem?_map] at h
  cases e1 : ts[i]? with
  | none =>
    rw [e1] at h
    cases h
  | some x =>
    cases e2 : us[i]? with
    | none =>
      rw [e1, e2] at h
      cases h
    | some y =>
      rw [e1, e2] at h
      exact ⟨x, y, rfl, rfl, (Option.some.inj h).symm⟩
theorem zip_is {f : Int → Int → Int} {ts us ms : List Int} (hl : ms.length = (List.zipWith f ts us).length) (h : ∀ (i : Nat) m, ms[i]? = some m → ∃ x y, ts[i]? = some x ∧ us[i]? = some y ∧ m = f x y) : ms = List.zipWith f ts us := by
  refine List.ext_getElem? fun i => ?_
  rw [List.getElem?_zipWith]
  cases e : ms[i]? with
  | none =>
    have h1 := List.getElem?_eq_none_iff.mp e
    rw [hl, List.length_zipWith] at h1
    cases e1 : ts[i]? with
    | none => rfl
    | some x =>
      cases e2 : us[i]? with
      | none => rfl
      | some y =>
        have a1 := (List.getElem?_eq_some_iff.mp e1).1
        have a2 := (List.getElem?_eq_some_iff.mp e2).1
        omega
  | some m =>
    obtain ⟨x, y, h1, h2, h3⟩ := h i m e
    rw [h1, h2, h3]
theorem zip_len {ts us : List Int} : (zipD (ts.map D.int) (us.map D.int)).length = min ts.length us.length := by
  unfold zipD
  rw [List.length_zipWith, List.length_map, List.length_map]

theorem fn_is_factor (T : Txt LL K mg) (M : Mo2 cs sms cis mxs K mg) : Nonempty (Fn P w K mg base (d_is_factor.at_ K) 1 1 P_is_factor) := by
  refine Fn.of (T.d 8 (d := d_is_factor)) sc_is_factor rfl (fun _ _ _ _ _ _ us hl => match us, hl with | [_], _ => rfl) (fun ds Q ex h => ?_) (fun fd cdv A outer s H E hr => ⟨_, pdss_one (pds_ret (pd_isi2 (c1 := .int) (c2 := (.own 0)) M.isi M.cls (fun c h => nomatch h) (fun c h => by cases h; decide) (fun h => pe_callB call_isiT (by rfl) (T.f "isinstance") (by decide +kernel) (pa_cons h (pa_cons (pe_tup (pa_cons (pe_bltn (v := .ty "int") (by rfl) (T.f "int") (by decide +kernel) rfl) (pa_cons (pe_glob (v := .ref (He.ga K "Ratio")) rfl (T.g "Ratio") rfl) pa_nil))) pa_nil))) (pd_var (pv 0)))), fun ds Q ex h => ?_⟩)
  · obtain ⟨d, p, q, rfl, _⟩ := h
    rfl
  · obtain ⟨d, p, q, rfl, hf, qq⟩ := h
    rcases hf with ⟨rfl, rfl⟩ | ⟨rfl, hq⟩
    all_goals
      walk_at "go"
      exact qq

theorem fn_as_ratio (T : Txt LL K mg) (M : Mo2 cs sms cis mxs K mg) : Nonempty (Fn P w K mg base (d_as_ratio.at_ K) 6 1 P_as_ratio) := by
  obtain ⟨⟨F_Ratio_init⟩, ⟨F_Ratio_init_d⟩⟩ := fn_Ratio_init (P := P) (w := w) (base := base) T M
  refine Fn.of (T.d 9 (d := d_as_ratio)) sc_as_ratio rfl (fun _ _ _ _ _ _ us hl => match us, hl with | [_], _ => rfl) (fun ds Q ex h => ?_) (fun fd cdv A outer s H E hr => ⟨_, pdss_one (pds_ret (pd_ife (pdt_val (pd_isi (cr := .int) M.isi M.cls (fun c h => nomatch h) (fun h => pe_callB call_isi (by rfl) (T.f "isinstance") (by decide +kernel) (pa_cons h (pa_cons (pe_bltn (v := .ty "int") (by rfl) (T.f "int") (by decide +kernel) rfl) pa_nil))) (pd_var (pv 0)))) (pd_make (c := 0) (T.mkk "Ratio") F_Ratio_init_d dd_Ratio (hr.mono (by decide)) (by rfl) (T.g "Ratio") (takes_of rfl rfl rfl rfl) (pda_cons (pd_var (pv 0)) pda_nil)) (pd_var (pv 0)))), fun ds Q ex h => ?_⟩)
  · obtain ⟨d, p, q, rfl, _⟩ := h
    rfl
  · obtain ⟨d, p, q, rfl, hf, qq⟩ := h
    rcases hf with ⟨rfl, rfl⟩ | ⟨rfl, hq⟩
    · walk_at "go"
      have n1 := Nrm.one p
      refine fun _ => ⟨by rw [gs_nrm n1]; decide, ?_⟩
      rw [nT_nrm n1, nB_nrm n1]
      exact qq
    · walk_at "go"
      exact qq

theorem fn_Vector_neg (T : Txt LL K mg) (M : Mo2 cs sms cis mxs K mg) : Nonempty (Fn P w K mg base (d_Vector_neg.at_ K) 6 1 P_Vector_neg) := by
  obtain ⟨⟨F_Vector_init⟩, ⟨F_Vector_init_d⟩⟩ := fn_Vector_init (P := P) (w := w) (base := base) T M
  refine Fn.of (T.d 15 (d := d_Vector_neg)) sc_Vector_neg rfl (fun _ _ _ _ _ _ us hl => match us, hl with | [_], _ => rfl) (fun ds Q ex h => ?_) (fun fd cdv A outer s H E hr => ⟨_, pdss_one (pds_ret (pd_make (c := 1) (T.mkk "Vector") F_Vector_init (fun _ _ => .nil) (hr.mono (by decide)) (by rfl) (T.g "Vector") (takes_of rfl rfl rfl rfl) (pda_cons (pd_new (pdn_lc (own := [("top", 1)]) rfl sc_Vector_neg.nd (pdi_tup (pd_fld (c := 1) (k := 0) (T.cl "Vector") (T.no "Vector" "tops") fk_Vector_tops (pd_var (pv 0)))) (blkOk_by (N := ["self", "top"]) (sc := defScope s_Vector_neg) (by decide +kernel)) (by decide) (fun _ _ _ _ _ => (pdg_name (pg_name (i := 1) sc_Vector_neg.nd rfl (Or.inl rfl)))) (fun _ _ _ _ _ => pdts_nil) (fun _ _ _ _ _ => pd_un un_neg l_U (pd_var (pv 1))))) (pda_cons (pd_fld (c := 1) (k := 1) (T.cl "Vector") (T.no "Vector" "bottom") fk_Vector_bottom (pd_var (pv 0))) pda_nil)))), fun ds Q ex h => ?_⟩)
  · obtain ⟨ts, b, rfl, _⟩ := h
    rfl
  · obtain ⟨ts, b, rfl, hv, q⟩ := h
    have hls := hv.len
    walk_at "go"
    refine ⟨fun i z => ∃ t : Int, ts[i]? = some t ∧ z = some (.int (-t)), ?_, ?_⟩
    · rintro i x hx
      obtain ⟨z, hz, rfl⟩ := map_at hx
      skip
      walk_at "go"
      exact fun _ => ⟨z, hz, rfl⟩
    intro zs hl2 hz
    obtain ⟨ms, e, hm, hm2⟩ := lc_map D.int (P := fun i v => ∃ t : Int, ts[i]? = some t ∧ v = -t) hl2 (fun i z h => by
      obtain ⟨t, h1, h2⟩ := hz i z h
      exact ⟨_, h2, t, h1, rfl⟩)
    have em : ms = ts.map fun t => -t := map_is (by rw [hm, List.length_map]) hm2
    rw [e, em]
    have e1 := hv.neg.low.1
    have e2 := hv.neg.low.2
    have hb := hv.pos
    have hs : b.natAbs < 2 ^ 8999 := abs_up hv.sb (by decide)
    have hl := hv.neg.len
    have hn := hv.neg.ne
    walk_at "go"
    refine ⟨_, negT ts, b, rfl, .inl rfl, hl, fun z => absurd z hn, fun _ z => absurd z (by omega), fun _ _ => ⟨hs, ?_⟩⟩
    rw [e1, e2]
    exact q

theorem fn_Vector_mul (T : Txt LL K mg) (M : Mo2 cs sms cis mxs K mg) : Nonempty (Fn P w K mg base (d_Vector_mul.at_ K) 7 2 P_Vector_mul) := by
  obtain ⟨F_is_factor⟩ := fn_is_factor (P := P) (w := w) (base := base) T M
  obtain ⟨F_as_ratio⟩ := fn_as_ratio (P := P) (w := w) (base := base) T M
  obtain ⟨⟨F_Vector_init⟩, ⟨F_Vector_init_d⟩⟩ := fn_Vector_init (P := P) (w := w) (base := base) T M
  refine Fn.of (T.d 16 (d := d_Vector_mul)) sc_Vector_mul rfl (fun _ _ _ _ _ _ us hl => match us, hl with | [_, _], _ => rfl) (fun ds Q ex h => ?_) (fun fd cdv A outer s H E hr => ⟨_, pdss_cons (pds_if (pdt_not (pdt_val (pd_call F_is_factor (hr.mono (by decide)) (by rfl) (T.g "is_factor") (T.k "is_factor") (takes_of rfl rfl rfl rfl) (pda_cons (pd_var (pv 1)) pda_nil)))) pdss_never pdss_nil) (pdss_cons (pds_set (i := 2) sc_Vector_mul.nd rfl (by first | exact Or.inl rfl | exact Or.inr rfl) (pd_call F_as_ratio (hr.mono (by decide)) (by rfl) (T.g "as_ratio") (T.k "as_ratio") (takes_of rfl rfl rfl rfl) (pda_cons (pd_var (pv 1)) pda_nil))) (pdss_one (pds_ret (pd_make (c := 1) (T.mkk "Vector") F_Vector_init (fun _ _ => .nil) (hr.mono (by decide)) (by rfl) (T.g "Vector") (takes_of rfl rfl rfl rfl) (pda_cons (pd_new (pdn_lc (own := [("top", 3)]) rfl sc_Vector_mul.nd (pdi_tup (pd_fld (c := 1) (k := 0) (T.cl "Vector") (T.no "Vector" "tops") fk_Vector_tops (pd_var (pv 0)))) (blkOk_by (N := ["self", "other", "factor", "top"]) (sc := defScope s_Vector_mul) (by decide +kernel)) (by decide) (fun _ _ _ _ _ => (pdg_name (pg_name (i := 3) sc_Vector_mul.nd rfl (Or.inl rfl)))) (fun _ _ _ _ _ => pdts_nil) (fun _ _ _ _ _ => pd_op op_mulZ l_I (pd_var (pv 3)) (pd_fld (c := 0) (k := 0) (T.cl "Ratio") (T.no "Ratio" "top") fk_Ratio_top (pd_var (pv 2)))))) (pda_cons (pd_op op_mulZ l_I (pd_fld (c := 1) (k := 1) (T.cl "Vector") (T.no "Vector" "bottom") fk_Vector_bottom (pd_var (pv 0))) (pd_fld (c := 0) (k := 1) (T.cl "Ratio") (T.no "Ratio" "bottom") fk_Ratio_bottom (pd_var (pv 2)))) pda_nil)))))), fun ds Q ex h => ?_⟩)
  · obtain ⟨ts, b, d, p, q, rfl, _⟩ := h
    rfl
  · obtain ⟨ts, b, d, p, q, rfl, hf, hv, hp, hq, qq⟩ := h
    have hls := hv.len
    walk_at "go"
    refine ⟨_, p, q, rfl, hf, ?_⟩
    walk_at "go"
    refine ⟨_, p, q, rfl, hf, ?_⟩
    have q0 : 0 < q := by rcases hf with ⟨_, rfl⟩ | ⟨_, h⟩; exact Int.one_pos; exact h
    walk_at "go"
    refine ⟨fun i z => ∃ t : Int, ts[i]? = some t ∧ z = some (.int (t * p)), ?_, ?_⟩
    · rintro i x hx
      obtain ⟨z, hz, rfl⟩ := map_at hx
      have hz2 : IntMulOk z p := mul_ok (hv.bd z (List.mem_of_getElem? hz)) hp
      walk_at "go"
      exact fun _ => ⟨z, hz, rfl⟩
    intro zs hl2 hz
    obtain ⟨ms, e, hm, hm2⟩ := lc_map D.int (P := fun i v => ∃ t : Int, ts[i]? = some t ∧ v = t * p) hl2 (fun i z h => by
      obtain ⟨t, h1, h2⟩ := hz i z h
      exact ⟨_, h2, t, h1, rfl⟩)
    have em : ms = ts.map fun t => t * p := map_is (by rw [hm, List.length_map]) hm2
    rw [e, em]
    have hb := hv.pos
    have hbq : b * q ≠ 0 := Int.ne_of_gt (Int.mul_pos hb q0)
    have hs := mul_bd hv.sb hq
    have hm3 := mul_ok hv.sb hq
    walk_at "go"
    refine ⟨_, mulT ts p, b * q, rfl, .inl rfl, by unfold mulT; rw [List.length_map]; exact hv.len, fun z => absurd (List.map_eq_nil_iff.mp z) hv.ne, fun _ z => absurd z hbq, fun _ _ => ⟨hs, qq⟩⟩

theorem fn_Vector_rmul (T : Txt LL K mg) (M : Mo2 cs sms cis mxs K mg) : Nonempty (Fn P w K mg base (d_Vector_rmul.at_ K) 9 2 P_Vector_mul) := by
  obtain ⟨F_is_factor⟩ := fn_is_factor (P := P) (w := w) (base := base) T M
  obtain ⟨F_Vector_mul⟩ := fn_Vector_mul (P := P) (w := w) (base := base) T M
  refine Fn.of (T.d 17 (d := d_Vector_rmul)) sc_Vector_rmul rfl (fun _ _ _ _ _ _ us hl => match us, hl with | [_, _], _ => rfl) (fun ds Q ex h => ?_) (fun fd cdv A outer s H E hr => ⟨_, pdss_cons (pds_if (pdt_not (pdt_val (pd_call F_is_factor (hr.mono (by decide)) (by rfl) (T.g "is_factor") (T.k "is_factor") (takes_of rfl rfl rfl rfl) (pda_cons (pd_var (pv 1)) pda_nil)))) pdss_never pdss_nil) (pdss_one (pds_ret (pd_mixO (op := .Mult) (c := 1) (M.mx "mul" [0, 1]) (by decide) (by rw [dm_Mult]; exact T.own "Vector" "__mul__") (T.fnn "Vector" "__mul__") F_Vector_mul (hr.mono (by decide)) (takes_of rfl rfl rfl rfl) (pd_var (pv 0)) (pd_var (pv 1))))), fun ds Q ex h => ?_⟩)
  · obtain ⟨ts, b, d, p, q, rfl, _⟩ := h
    rfl
  · obtain ⟨ts, b, d, p, q, rfl, hf, hv, hp, hq, qq⟩ := h
    walk_at "go"
    refine ⟨_, p, q, rfl, hf, ?_⟩
    walk_at "go"
    refine ⟨by rcases hf with ⟨rfl, _⟩ | ⟨rfl, _⟩ <;> rfl, ts, b, d, p, q, rfl, hf, hv, hp, hq, qq⟩

theorem fn_Vector_add (T : Txt LL K mg) (M : Mo2 cs sms cis mxs K mg) : Nonempty (Fn P w K mg base (d_Vector_add.at_ K) 6 2 P_Vector_add) := by
  obtain ⟨F_check_lengths⟩ := fn_check_lengths (P := P) (w := w) (base := base) T M
  obtain ⟨⟨F_Vector_init⟩, ⟨F_Vector_init_d⟩⟩ := fn_Vector_init (P := P) (w := w) (base := base) T M
  refine Fn.of (T.d 13 (d := d_Vector_add)) sc_Vector_add rfl (fun _ _ _ _ _ _ us hl => match us, hl with | [_, _], _ => rfl) (fun ds Q ex h => ?_) (fun fd cdv A outer s H E hr => ⟨_, pdss_cons (pds_if (pdt_not (pdt_val (pd_isi (cr := (.own 1)) M.isi M.cls (fun c h => by cases h; decide) (fun h => pe_callB call_isi (by rfl) (T.f "isinstance") (by decide +kernel) (pa_cons h (pa_cons (pe_glob (v := .ref (He.ga K "Vector")) rfl (T.g "Vector") rfl) pa_nil))) (pd_var (pv 1))))) pdss_never pdss_nil) (pdss_cons (pds_expr (pd_call F_check_lengths (hr.mono (by decide)) (by rfl) (T.g "_check_lengths") (T.k "_check_lengths") (takes_of rfl rfl rfl rfl) (pda_cons (pd_var (pv 0)) (pda_cons (pd_var (pv 1)) pda_nil)))) (pdss_cons (pds_lcV (i := 2) (own := [("left", 3), ("right", 4)]) rfl sc_Vector_add.nd rfl rfl (sw_true rfl rfl rfl (by decide +kernel)) (pdi_zip rfl (T.f "zip") (pda_cons (pd_fld (c := 1) (k := 0) (T.cl "Vector") (T.no "Vector" "tops") fk_Vector_tops (pd_var (pv 0))) (pda_cons (pd_fld (c := 1) (k := 0) (T.cl "Vector") (T.no "Vector" "tops") fk_Vector_tops (pd_var (pv 1))) pda_nil))) (blkOk_by (N := ["self", "other", "tops", "left", "right"]) (sc := defScope s_Vector_add) (by decide +kernel)) (by decide) (fun _ _ _ _ _ => (pdg_tup (n := 2) (by rfl) (pdgs_cons (pdg_name (pg_name (i := 3) sc_Vector_add.nd rfl (Or.inl rfl))) (pdgs_cons (pdg_name (pg_name (i := 4) sc_Vector_add.nd rfl (Or.inl rfl))) pdgs_nil)))) (fun _ _ _ _ _ => pdts_nil) (fun _ _ _ _ _ => pd_op op_add l_I0 (pd_op op_mulZ l_I (pd_var (pv 3)) (pd_fld (c := 1) (k := 1) (T.cl "Vector") (T.no "Vector" "bottom") fk_Vector_bottom (pd_var (pv 1)))) (pd_op op_mulZ l_I (pd_var (pv 4)) (pd_fld (c := 1) (k := 1) (T.cl "Vector") (T.no "Vector" "bottom") fk_Vector_bottom (pd_var (pv 0)))))) (pdss_one (pds_ret (pd_make (c := 1) (T.mkk "Vector") F_Vector_init (fun _ _ => .nil) (hr.mono (by decide)) (by rfl) (T.g "Vector") (takes_of rfl rfl rfl rfl) (pda_cons (pd_var (pv 2)) (pda_cons (pd_op op_mulZ l_I (pd_fld (c := 1) (k := 1) (T.cl "Vector") (T.no "Vector" "bottom") fk_Vector_bottom (pd_var (pv 0))) (pd_fld (c := 1) (k := 1) (T.cl "Vector") (T.no "Vector" "bottom") fk_Vector_bottom (pd_var (pv 1)))) pda_nil))))))), fun ds Q ex h => ?_⟩)
  · obtain ⟨ts, b, us, c, rfl, _⟩ := h
    rfl
  · obtain ⟨ts, b, us, c, rfl, hv, hw, q1, q2⟩ := h
    walk_at "go"
    refine ⟨hv.len, hw.len, fun he => ?_, q2⟩
    walk_at "go"
    have hzl : (zipD (ts.map D.int) (us.map D.int)).length = ts.length := by rw [zip_len, ← he, Nat.min_self]
    have hzs : (zipD (ts.map D.int) (us.map D.int)).length < sizeLine := by rw [hzl]; exact sz100 (Nat.le_trans hv.len (by decide))
    walk_at "go"
    refine ⟨fun i z => ∃ x y : Int, ts[i]? = some x ∧ us[i]? = some y ∧ z = some (.int (x * c + y * b)), ?_, ?_⟩
    · rintro i x hx
      obtain ⟨x, y, h1, h2, rfl⟩ := zip_at hx
      have m1 : IntMulOk x c := mul_ok (hv.bd x (List.mem_of_getElem? h1)) hw.sb
      have m2 : IntMulOk y b := mul_ok (hw.bd y (List.mem_of_getElem? h2)) hv.sb
      walk_at "go"
      exact fun _ => ⟨x, y, h1, h2, rfl⟩
    intro zs hl2 hz
    obtain ⟨ms, e, hm, hm2⟩ := lc_map D.int (P := fun i v => ∃ x y : Int, ts[i]? = some x ∧ us[i]? = some y ∧ v = x * c + y * b) hl2 (fun i z h => by
      obtain ⟨x, y, h1, h2, h3⟩ := hz i z h
      exact ⟨_, h3, x, y, h1, h2, rfl⟩)
    have em : ms = addT ts b us c := zip_is (f := fun x y => x * c + y * b) (by rw [hm, zip_len, List.length_zipWith]) hm2
    rw [e, em]
    have hb := hv.pos
    have hc := hw.pos
    have hbc : b * c ≠ 0 := Int.ne_of_gt (Int.mul_pos hb hc)
    have hs := mul_bd hv.sb hw.sb
    have hm3 := mul_ok hv.sb hw.sb
    have hal : (addT ts b us c).length = ts.length := by unfold addT; rw [List.length_zipWith, ← he, Nat.min_self]
    have hpos := List.length_pos_iff.mpr hv.ne
    walk_at "go"
    refine ⟨_, addT ts b us c, b * c, rfl, .inl rfl, by rw [hal]; exact hv.len, fun z => absurd (congrArg List.length z) (by rw [hal]; show ¬ ts.length = 0; omega), fun _ z => absurd z hbc, fun _ _ => ⟨hs, q1 he⟩⟩

theorem fn_Vector_sub (T : Txt LL K mg) (M : Mo2 cs sms cis mxs K mg) : Nonempty (Fn P w K mg base (d_Vector_sub.at_ K) 8 2 P_Vector_sub) := by
  obtain ⟨F_Vector_add⟩ := fn_Vector_add (P := P) (w := w) (base := base) T M
  obtain ⟨F_Vector_neg⟩ := fn_Vector_neg (P := P) (w := w) (base := base) T M
  refine Fn.of (T.d 14 (d := d_Vector_sub)) sc_Vector_sub rfl (fun _ _ _ _ _ _ us hl => match us, hl with | [_, _], _ => rfl) (fun ds Q ex h => ?_) (fun fd cdv A outer s H E hr => ⟨_, pdss_cons (pds_if (pdt_not (pdt_val (pd_isi (cr := (.own 1)) M.isi M.cls (fun c h => by cases h; decide) (fun h => pe_callB call_isi (by rfl) (T.f "isinstance") (by decide +kernel) (pa_cons h (pa_cons (pe_glob (v := .ref (He.ga K "Vector")) rfl (T.g "Vector") rfl) pa_nil))) (pd_var (pv 1))))) pdss_never pdss_nil) (pdss_one (pds_ret (pd_mixO (op := .Add) (c := 1) (M.mx "add" [1]) (by decide) (by rw [dm_Add]; exact T.own "Vector" "__add__") (T.fnn "Vector" "__add__") F_Vector_add (hr.mono (by decide)) (takes_of rfl rfl rfl rfl) (pd_var (pv 0)) (pd_un (un_negO (T.own "Vector" "__neg__") (T.fnn "Vector" "__neg__") F_Vector_neg.ok (hr.mono (by decide)) F_Vector_neg.bd passL) (l_unO (c := 1) F_Vector_neg.len) (pd_var (pv 1)))))), fun ds Q ex h => ?_⟩)
  · obtain ⟨ts, b, us, c, rfl, _⟩ := h
    rfl
  · obtain ⟨ts, b, us, c, rfl, hv, hw, q1, q2⟩ := h
    have hnl : (negT us).length = us.length := by unfold negT; rw [List.length_map]
    walk_at "go"
    exact ⟨hw.neg, by rw [hnl]; exact q1, by rw [hnl]; exact q2⟩

theorem fn_Vector_eq (T : Txt LL K mg) (M : Mo2 cs sms cis mxs K mg) : Nonempty (Fn P w K mg base (d_Vector_eq.at_ K) 1 2 P_Vector_eq) := by
  refine Fn.of (T.d 18 (d := d_Vector_eq)) sc_Vector_eq rfl (fun _ _ _ _ _ _ us hl => match us, hl with | [_, _], _ => rfl) (fun ds Q ex h => ?_) (fun fd cdv A outer s H E hr => ⟨_, pdss_one (pds_ret (pd_and (pd_isi (cr := (.own 1)) M.isi M.cls (fun c h => by cases h; decide) (fun h => pe_callB call_isi (by rfl) (T.f "isinstance") (by decide +kernel) (pa_cons h (pa_cons (pe_glob (v := .ref (He.ga K "Vector")) rfl (T.g "Vector") rfl) pa_nil))) (pd_var (pv 1))) (pd_and (pd_cmp (op_eqD (hr.units)) l_eqD (pd_fld (c := 1) (k := 0) (T.cl "Vector") (T.no "Vector" "tops") fk_Vector_tops (pd_var (pv 0))) (pd_fld (c := 1) (k := 0) (T.cl "Vector") (T.no "Vector" "tops") fk_Vector_tops (pd_var (pv 1))) (nomark _)) (pd_one (pd_cmp op_eq l_eq (pd_fld (c := 1) (k := 1) (T.cl "Vector") (T.no "Vector" "bottom") fk_Vector_bottom (pd_var (pv 0))) (pd_fld (c := 1) (k := 1) (T.cl "Vector") (T.no "Vector" "bottom") fk_Vector_bottom (pd_var (pv 1))) (nomark _)))))), fun ds Q ex h => ?_⟩)
  · obtain ⟨ts, b, d, rfl, _⟩ := h
    rfl
  · obtain ⟨ts, b, d, rfl, hk, q⟩ := h
    rcases q with ⟨us, c, rfl, q⟩ | ⟨hd, q⟩
    · have o1 := okD_tup ts
      have o2 := okD_tup us
      walk_at "go"
      rw [eqD_tup]
      by_cases h1 : ts = us
      · rw [decide_eq_true h1] at q ⊢
        rw [Bool.true_and] at q
        walk_at "go"
        exact q
      · rw [decide_eq_false h1] at q ⊢
        rw [Bool.false_and] at q
        exact q
    · walk_at "go"
      rw [hd]
      exact q

theorem fn_sum_of_products (T : Txt LL K mg) (M : Mo2 cs sms cis mxs K mg) : Nonempty (Fn P w K mg base (d_sum_of_products.at_ K) 1 2 P_sum_of_products) := by
  refine Fn.of (T.d 24 (d := d_sum_of_products)) sc_sum_of_products rfl (fun _ _ _ _ _ _ us hl => match us, hl with | [_, _], _ => rfl) (fun ds Q ex h => ?_) (fun fd cdv A outer s H E hr => ⟨_, pdss_one (pds_ret (pd_cb (fun h => pe_callB (cr_sum rfl) (by rfl) (T.f "sum") (by decide +kernel) h) l_sum (pda_cons (pd_new (pdn_lc (own := [("one", 2), ("two", 3)]) rfl sc_sum_of_products.nd (pdi_zip rfl (T.f "zip") (pda_cons (pd_var (pv 0)) (pda_cons (pd_var (pv 1)) pda_nil))) (blkOk_by (N := ["left", "right", "one", "two"]) (sc := defScope s_sum_of_products) (by decide +kernel)) (by decide) (fun _ _ _ _ _ => (pdg_tup (n := 2) (by rfl) (pdgs_cons (pdg_name (pg_name (i := 2) sc_sum_of_products.nd rfl (Or.inl rfl))) (pdgs_cons (pdg_name (pg_name (i := 3) sc_sum_of_products.nd rfl (Or.inl rfl))) pdgs_nil)))) (fun _ _ _ _ _ => pdts_nil) (fun _ _ _ _ _ => pd_op op_mulZ l_I (pd_var (pv 2)) (pd_var (pv 3))))) pda_nil))), fun ds Q ex h => ?_⟩)
  · obtain ⟨ts, us, rfl, _⟩ := h
    rfl
  · obtain ⟨ts, us, rfl, ht, hu, hl, q⟩ := h
    have hzl : (zipD (ts.map D.int) (us.map D.int)).length < sizeLine := by rw [zip_len]; exact sz100 (by omega)
    walk_at "go"
    refine ⟨fun i z => ∃ x y : Int, ts[i]? = some x ∧ us[i]? = some y ∧ z = some (.int (x * y)), ?_, ?_⟩
    · rintro i x hx
      obtain ⟨x, y, h1, h2, rfl⟩ := zip_at hx
      have m1 : IntMulOk x y := mul_ok (ht x (List.mem_of_getElem? h1)) (hu y (List.mem_of_getElem? h2))
      walk_at "go"
      exact fun _ => ⟨x, y, h1, h2, rfl⟩
    intro zs hl2 hz
    obtain ⟨ms, e, hm, hm2⟩ := lc_map D.int (P := fun i v => ∃ x y : Int, ts[i]? = some x ∧ us[i]? = some y ∧ v = x * y) hl2 (fun i z h => by
      obtain ⟨x, y, h1, h2, h3⟩ := hz i z h
      exact ⟨_, h3, x, y, h1, h2, rfl⟩)
    have em : ms = List.zipWith (fun x y => x * y) ts us := zip_is (by rw [hm, zip_len, List.length_zipWith]) hm2
    rw [e, em]
    walk_at "go"
    exact q

theorem fn_Vector_dot (T : Txt LL K mg) (M : Mo2 cs sms cis mxs K mg) : Nonempty (Fn P w K mg base (d_Vector_dot.at_ K) 6 2 P_Vector_dot) := by
  obtain ⟨F_check_lengths⟩ := fn_check_lengths (P := P) (w := w) (base := base) T M
  obtain ⟨⟨F_Ratio_init⟩, ⟨F_Ratio_init_d⟩⟩ := fn_Ratio_init (P := P) (w := w) (base := base) T M
  obtain ⟨F_sum_of_products⟩ := fn_sum_of_products (P := P) (w := w) (base := base) T M
  refine Fn.of (T.d 19 (d := d_Vector_dot)) sc_Vector_dot rfl (fun _ _ _ _ _ _ us hl => match us, hl with | [_, _], _ => rfl) (fun ds Q ex h => ?_) (fun fd cdv A outer s H E hr => ⟨_, pdss_cons (pds_expr (pd_call F_check_lengths (hr.mono (by decide)) (by rfl) (T.g "_check_lengths") (T.k "_check_lengths") (takes_of rfl rfl rfl rfl) (pda_cons (pd_var (pv 0)) (pda_cons (pd_var (pv 1)) pda_nil)))) (pdss_one (pds_ret (pd_make (c := 0) (T.mkk "Ratio") F_Ratio_init (fun _ _ => .nil) (hr.mono (by decide)) (by rfl) (T.g "Ratio") (takes_of rfl rfl rfl rfl) (pda_cons (pd_call F_sum_of_products (hr.mono (by decide)) (by rfl) (T.g "sum_of_products") (T.k "sum_of_products") (takes_of rfl rfl rfl rfl) (pda_cons (pd_fld (c := 1) (k := 0) (T.cl "Vector") (T.no "Vector" "tops") fk_Vector_tops (pd_var (pv 0))) (pda_cons (pd_fld (c := 1) (k := 0) (T.cl "Vector") (T.no "Vector" "tops") fk_Vector_tops (pd_var (pv 1))) pda_nil))) (pda_cons (pd_op op_mulZ l_I (pd_fld (c := 1) (k := 1) (T.cl "Vector") (T.no "Vector" "bottom") fk_Vector_bottom (pd_var (pv 0))) (pd_fld (c := 1) (k := 1) (T.cl "Vector") (T.no "Vector" "bottom") fk_Vector_bottom (pd_var (pv 1)))) pda_nil))))), fun ds Q ex h => ?_⟩)
  · obtain ⟨ts, b, us, c, rfl, _⟩ := h
    rfl
  · obtain ⟨ts, b, us, c, rfl, hv, hw, q1, q2⟩ := h
    walk_at "go"
    refine ⟨hv.len, hw.len, fun he => ?_, q2⟩
    have hb := hv.pos
    have hc := hw.pos
    have hbc : b * c ≠ 0 := Int.ne_of_gt (Int.mul_pos hb hc)
    have hs := mul_bd hv.sb hw.sb
    have hm3 := mul_ok hv.sb hw.sb
    have hg : (gs [dotT ts us] (b * c)).natAbs < 2 ^ 8999 := Nat.lt_of_le_of_lt (gs_le hbc) hs
    walk_at "go"
    refine ⟨hv.bd, hw.bd, hv.len, ?_⟩
    walk_at "go"
    exact fun _ => ⟨hg, q1 he⟩

theorem fn_Vector_is_zero (T : Txt LL K mg) (M : Mo2 cs sms cis mxs K mg) : Nonempty (Fn P w K mg base (d_Vector_is_zero.at_ K) 1 1 P_Vector_is_zero) := by
  refine Fn.of (T.d 20 (d := d_Vector_is_zero)) sc_Vector_is_zero rfl (fun _ _ _ _ _ _ us hl => match us, hl with | [_], _ => rfl) (fun ds Q ex h => ?_) (fun fd cdv A outer s H E hr => ⟨_, pdss_one (pds_ret (pd_not (pd_cb (fun h => pe_callB (cr_anyT rfl) (by rfl) (T.f "any") (by decide +kernel) h) l_anyT (pda_cons (pd_fld (c := 1) (k := 0) (T.cl "Vector") (T.no "Vector" "tops") fk_Vector_tops (pd_var (pv 0))) pda_nil)))), fun ds Q ex h => ?_⟩)
  · obtain ⟨ts, b, rfl, _⟩ := h
    rfl
  · obtain ⟨ts, b, rfl, q⟩ := h
    walk_at "go"
    exact q
end
end K02

namespace K02
open PySem PySem.Spec PyProof.Rows L2 LR DL
section
variable {P : Program} {w : World} {K : PySem.W.Frag} {mg : Str → Option Value} {base : Heap}
local macro_rules | `(tactic| walk_at "side") => `(tactic| first | rfl | assumption | exact ⟨_, rfl⟩ | omega | exact mulL (by omega) (by omega) | exact mulR (by omega) (by omega) | exact mulF (by decide) (by decide) | exact ⟨by decide, by decide +kernel⟩ | decide | exact Nat.le_of_ble_eq_true rfl | (simp only [List.length_cons, List.length_nil, List.length_map, List.nil_append, List.cons_append, sizeLine_eq]; omega) | (simp only [List.map_cons, List.map_nil, List.nil_append, List.cons_append]; decide +kernel))
local macro_rules | `(tactic| walk_at "go") => `(tactic| repeat (first
  | refine ⟨_, rfl, ?_⟩
  | refine ⟨_, _, rfl, rfl, ?_⟩
  | refine ⟨_, _, rfl, ?_⟩
  | refine ⟨_, _, _, rfl, rfl, ?_⟩
  | refine ⟨_, _, _, rfl, ?_⟩
  | refine ⟨_, _, _, _, rfl, rfl, ?_⟩
  | refine ⟨_, _, _, _, rfl, ?_⟩
  | refine ⟨_, _, rfl, by assumption, ?_⟩
  | refine ⟨_, _, _, rfl, rfl, rfl, ?_⟩
  | refine ⟨_, _, _, rfl, rfl, by assumption, ?_⟩
  | refine ⟨_, _, _, rfl, rfl, by walk_at "side", by assumption, ?_⟩
  | refine ⟨_, _, _, rfl, rfl, by walk_at "side", rfl, ?_⟩
  | refine ⟨_, _, _, rfl, rfl, rfl, by assumption, ?_⟩
  | refine .inl ⟨_, rfl, ?_⟩
  | refine .inr ⟨_, rfl, ?_⟩
  | refine .inr (.inl ⟨_, rfl, ?_⟩)
  | refine .inr (.inr ⟨_, rfl, ?_⟩)
  | refine ⟨_, .inl rfl, ?_⟩
  | refine ⟨_, .inr rfl, ?_⟩
  | refine ⟨_, (by assumption : _ ∨ _), ?_⟩
  | refine .inr ⟨_, _, rfl, ?_⟩
  | refine .inl ⟨_, _, rfl, ?_⟩
  | refine And.intro (by walk_at "side") ?_))


theorem dvd60 {q : Int} (h0 : 0 < q) (h : q ∣ 60) : q ≤ 60 := Int.le_of_dvd (by decide) h
theorem lcm_ok {m q : Int} (h0 : 0 < m) (h1 : m ∣ 60) (h2 : 0 < q) (h3 : q ∣ 60) : 0 < ((Nat.lcm m.natAbs q.natAbs : Nat) : Int) ∧ ((Nat.lcm m.natAbs q.natAbs : Nat) : Int) ∣ 60 ∧ m ∣ ((Nat.lcm m.natAbs q.natAbs : Nat) : Int) ∧ q ∣ ((Nat.lcm m.natAbs q.natAbs : Nat) : Int) := by
  refine ⟨?_, ?_, ?_, ?_⟩
  · have := Nat.lcm_pos (m := m.natAbs) (n := q.natAbs) (by omega) (by omega)
    omega
  · have a1 : m.natAbs ∣ 60 := Int.natAbs_dvd_natAbs.mpr h1
    have a2 : q.natAbs ∣ 60 := Int.natAbs_dvd_natAbs.mpr h3
    exact Int.ofNat_dvd.mpr (Nat.lcm_dvd a1 a2)
  · exact Int.natAbs_dvd.mp (Int.ofNat_dvd.mpr (Nat.dvd_lcm_left _ _))
  · exact Int.natAbs_dvd.mp (Int.ofNat_dvd.mpr (Nat.dvd_lcm_right _ _))

theorem ni_Ratio_mul (T : Txt LL K mg) (M : Mo2 cs sms cis mxs K mg) : Nim P w K mg base (d_Ratio_mul.at_ K) 1 (fun d => kind cs d = true ∧ isD d (.own 0) = false) :=
  Nim.of (T.d 4 (d := d_Ratio_mul)) sc_Ratio_mul rfl (fun _ _ _ _ _ _ us hl => match us, hl with | [_, _], _ => rfl) rfl (T.f "NotImplemented") (fun cdv A outer s H hr => ⟨rfl, _, pdt_not (pdt_val (pd_isi (cr := (.own 0)) M.isi M.cls (fun c h => by cases h; decide) (fun h => pe_callB call_isi (by rfl) (T.f "isinstance") (by decide +kernel) (pa_cons h (pa_cons (pe_glob (v := .ref (He.ga K "Ratio")) rfl (T.g "Ratio") rfl) pa_nil))) (pd_var (pv 1)))), fun a b hc => by
    obtain ⟨c1, c2⟩ := hc
    exact ⟨b, rfl, c1, (by rw [c2]; exact ⟨_, rfl, rfl⟩)⟩⟩)

theorem fn_Vector_unit (T : Txt LL K mg) (M : Mo2 cs sms cis mxs K mg) : Nonempty (Fn P w K mg base (d_Vector_unit.at_ K) 6 2 P_Vector_unit) := by
  obtain ⟨⟨F_Vector_init⟩, ⟨F_Vector_init_d⟩⟩ := fn_Vector_init (P := P) (w := w) (base := base) T M
  refine Fn.of (T.d 21 (d := d_Vector_unit)) sc_Vector_unit rfl (fun _ _ _ _ _ _ us hl => match us, hl with | [_, _], _ => rfl) (fun ds Q ex h => ?_) (fun fd cdv A outer s H E hr => ⟨_, pdss_one (pds_ret (pd_make (c := 1) (T.mkk "Vector") F_Vector_init_d dd_Vector (hr.mono (by decide)) (by rfl) (T.g "Vector") (takes_of rfl rfl rfl rfl) (pda_cons (pd_new (pdn_lc (own := [("k", 2)]) rfl sc_Vector_unit.nd (pdi_range1 rfl (T.f "range") (pda_cons (pd_var (pv 0)) pda_nil)) (blkOk_by (N := ["size", "place", "k"]) (sc := defScope s_Vector_unit) (by decide +kernel)) (by decide) (fun _ _ _ _ _ => (pdg_name (pg_name (i := 2) sc_Vector_unit.nd rfl (Or.inl rfl)))) (fun _ _ _ _ _ => pdts_nil) (fun _ _ _ _ _ => pd_ife (pdt_cmp op_eq l_eq (pd_var (pv 2)) (pd_var (pv 1)) (nomark _)) (pd_int pe_int) (pd_int pe_int)))) pda_nil))), fun ds Q ex h => ?_⟩)
  · obtain ⟨n, p, rfl, _⟩ := h
    rfl
  · obtain ⟨n, p, rfl, h0, h1, q⟩ := h
    have hrl : (rngD 0 (n : Int).toNat).length < sizeLine := by rw [rng_len]; exact sz100 (by omega)
    walk_at "go"
    refine ⟨fun i z => z = some (.int (if (i : Int) = p then 1 else 0)), ?_, ?_⟩
    · rintro i x hx
      obtain ⟨hi, rfl⟩ := rng_at hx
      walk_at "go"
      rw [show (0 : Int) + (i : Int) = i by omega]
      by_cases hp : (i : Int) = p
      · rw [decide_eq_true hp]
        refine fun _ => ?_
        show some (D.int 1) = some (D.int (if (i : Int) = p then 1 else 0))
        rw [if_pos hp]
      · rw [decide_eq_false hp]
        refine fun _ => ?_
        show some (D.int 0) = some (D.int (if (i : Int) = p then 1 else 0))
        rw [if_neg hp]
    intro zs hl2 hz
    rw [rng_len] at hl2
    obtain ⟨ms, e, hm, hm2⟩ := lc_map D.int (P := fun i v => v = if (i : Int) = p then 1 else 0) hl2 (fun i z h => ⟨_, hz i z h, rfl⟩)
    have em : ms = unitT n p := map_is (f := fun (i : Nat) => if (i : Int) = p then (1 : Int) else 0) (by rw [hm, List.length_range]; omega) (fun i m h => by
      have hi := (List.getElem?_eq_some_iff.mp h).1
      exact ⟨i, by rw [List.getElem?_range (by omega)], hm2 i m h⟩)
    rw [e, em]
    have hul : (unitT n p).length = n := by unfold unitT; rw [List.length_map, List.length_range]
    have lo := low_one (unitT n p)
    walk_at "go"
    refine ⟨_, unitT n p, 1, rfl, .inl rfl, by omega, fun z => absurd (congrArg List.length z) (by rw [hul]; show ¬ n = 0; omega), fun _ z => absurd z (by decide), fun _ _ => ⟨by decide, ?_⟩⟩
    rw [lo.1, lo.2]
    exact q

theorem fn_Vector_zero (T : Txt LL K mg) (M : Mo2 cs sms cis mxs K mg) : Nonempty (Fn P w K mg base (d_Vector_zero.at_ K) 6 1 P_Vector_zero) := by
  obtain ⟨⟨F_Vector_init⟩, ⟨F_Vector_init_d⟩⟩ := fn_Vector_init (P := P) (w := w) (base := base) T M
  refine Fn.of (T.d 22 (d := d_Vector_zero)) sc_Vector_zero rfl (fun _ _ _ _ _ _ us hl => match us, hl with | [_], _ => rfl) (fun ds Q ex h => ?_) (fun fd cdv A outer s H E hr => ⟨_, pdss_one (pds_ret (pd_make (c := 1) (T.mkk "Vector") F_Vector_init_d dd_Vector (hr.mono (by decide)) (by rfl) (T.g "Vector") (takes_of rfl rfl rfl rfl) (pda_cons (pd_new (pdn_rep (pdn_lst (pda_cons (pd_int pe_int) pda_nil)) (pd_var (pv 0)))) pda_nil))), fun ds Q ex h => ?_⟩)
  · obtain ⟨n, rfl, _⟩ := h
    rfl
  · obtain ⟨n, rfl, h0, h1, q⟩ := h
    have e : (List.replicate (n : Int).toNat [D.int 0]).flatten = (List.replicate n (0 : Int)).map D.int := by
      rw [Int.toNat_natCast, List.map_replicate]
      clear q h0 h1
      induction n with
      | zero => rfl
      | succ n ih => rw [List.replicate_succ, List.flatten_cons, ih, List.replicate_succ]; rfl
    have hz : ([D.int 0] : List D).length * (n : Int).toNat ≤ sizeLine := by rw [sizeLine_eq]; show 1 * (n : Int).toNat ≤ _; omega
    have lo := low_one (List.replicate n (0 : Int))
    walk_at "go"
    rw [e]
    walk_at "go"
    refine ⟨_, List.replicate n 0, 1, rfl, .inl rfl, by rw [List.length_replicate]; exact h1, fun z => absurd (congrArg List.length z) (by rw [List.length_replicate]; show ¬ n = 0; omega), fun _ z => absurd z (by decide), fun _ _ => ⟨by decide, ?_⟩⟩
    rw [lo.1, lo.2]
    exact q

theorem fn_common_bottom (T : Txt LL K mg) (M : Mo2 cs sms cis mxs K mg) : Nonempty (Fn P w K mg base (d_common_bottom.at_ K) 1 1 P_common_bottom) := by
  refine Fn.of (T.d 6 (d := d_common_bottom)) sc_common_bottom rfl (fun _ _ _ _ _ _ us hl => match us, hl with | [_], _ => rfl) (fun ds Q ex h => ?_) (fun fd cdv A outer s H E hr => ⟨_, pdss_cons (pds_set (i := 1) sc_common_bottom.nd rfl (by first | exact Or.inl rfl | exact Or.inr rfl) (pd_int pe_int)) (pdss_cons (pds_for (passes_of rfl) rfl (pdi_list (pd_var (pv 0))) (pdg_name (pg_name (i := 2) sc_common_bottom.nd rfl (by first | exact Or.inl rfl | exact Or.inr rfl))) (pdss_one (pds_set (i := 1) sc_common_bottom.nd rfl (by first | exact Or.inl rfl | exact Or.inr rfl) (pd_cb (fun h => pe_callBfun cr_lcm (by rfl) (T.b "lcm" "math.lcm") h) l_lcm (pda_cons (pd_var (pv 1)) (pda_cons (pd_var (pv 2)) pda_nil)))))) (pdss_one (pds_ret (pd_var (pv 1))))), fun ds Q ex h => ?_⟩)
  · obtain ⟨qs, rfl, _⟩ := h
    rfl
  · obtain ⟨qs, rfl, hq, q⟩ := h
    walk_at "go"
    refine ⟨fun i env => ∃ (m : Int) (v : Sl), env = [.val (.lst (qs.map D.int)), .val (.int m), v] ∧ 0 < m ∧ m ∣ 60 ∧ ∀ z ∈ qs.take i, z ∣ m, fun _ => ⟨1, _, rfl, by decide, by decide, fun z hz => by cases hz⟩, ?_, ?_⟩
    · rintro i x env hx ⟨m, v, rfl, m0, m1, m2⟩
      obtain ⟨z, hz, rfl⟩ := map_at hx
      have hi : i < qs.length := (List.getElem?_eq_some_iff.mp hz).1
      have ez : qs[i] = z := (List.getElem?_eq_some_iff.mp hz).2
      obtain ⟨z0, z1⟩ := hq z (List.mem_of_getElem? hz)
      obtain ⟨l0, l1, l2, l3⟩ := lcm_ok m0 m1 z0 z1
      have b1 : m.natAbs < 2 ^ 64 := by have := dvd60 m0 m1; omega
      have b2 : z.natAbs < 2 ^ 64 := by have := dvd60 z0 z1; omega
      walk_at "go"
      refine fun _ => ⟨_, _, rfl, l0, l1, fun y hy => ?_⟩
      rw [List.take_succ_eq_append_getElem hi, ez] at hy
      rcases List.mem_append.mp hy with hy | hy
      · exact Int.dvd_trans (m2 y hy) l2
      · rw [List.mem_singleton.mp hy]
        exact l3
    · rintro env ⟨m, v, rfl, m0, m1, m2⟩
      rw [List.length_map, List.take_length] at m2
      walk_at "go"
      exact q m m0 m1 m2

theorem fn_over_one_bottom (T : Txt LL K mg) (M : Mo2 cs sms cis mxs K mg) : Nonempty (Fn P w K mg base (d_over_one_bottom.at_ K) 2 1 P_over_one_bottom) := by
  obtain ⟨F_common_bottom⟩ := fn_common_bottom (P := P) (w := w) (base := base) T M
  refine Fn.of (T.d 7 (d := d_over_one_bottom)) sc_over_one_bottom rfl (fun _ _ _ _ _ _ us hl => match us, hl with | [_], _ => rfl) (fun ds Q ex h => ?_) (fun fd cdv A outer s H E hr => ⟨_, pdss_cons (pds_set (i := 1) sc_over_one_bottom.nd rfl (by first | exact Or.inl rfl | exact Or.inr rfl) (pd_call F_common_bottom (hr.mono (by decide)) (by rfl) (T.g "common_bottom") (T.k "common_bottom") (takes_of rfl rfl rfl rfl) (pda_cons (pd_new (pdn_lc (own := [("ratio", 2)]) rfl sc_over_one_bottom.nd (pdi_seq (pv 0)) (blkOk_by (N := ["ratios", "bottom", "ratio"]) (sc := defScope s_over_one_bottom) (by decide +kernel)) (by decide) (fun _ _ _ _ _ => (pdg_name (pg_name (i := 2) sc_over_one_bottom.nd rfl (Or.inl rfl)))) (fun _ _ _ _ _ => pdts_nil) (fun _ _ _ _ _ => pd_fld (c := 0) (k := 1) (T.cl "Ratio") (T.no "Ratio" "bottom") fk_Ratio_bottom (pd_var (pv 2))))) pda_nil))) (pdss_one (pds_ret (pd_tup (pda_cons (pd_new (pdn_lc (own := [("ratio", 2)]) rfl sc_over_one_bottom.nd (pdi_seq (pv 0)) (blkOk_by (N := ["ratios", "bottom", "ratio"]) (sc := defScope s_over_one_bottom) (by decide +kernel)) (by decide) (fun _ _ _ _ _ => (pdg_name (pg_name (i := 2) sc_over_one_bottom.nd rfl (Or.inl rfl)))) (fun _ _ _ _ _ => pdts_nil) (fun _ _ _ _ _ => pd_op op_mulZ l_I (pd_fld (c := 0) (k := 0) (T.cl "Ratio") (T.no "Ratio" "top") fk_Ratio_top (pd_var (pv 2))) (pd_op op_fdivZ l_I (pd_var (pv 1)) (pd_fld (c := 0) (k := 1) (T.cl "Ratio") (T.no "Ratio" "bottom") fk_Ratio_bottom (pd_var (pv 2))))))) (pda_cons (pd_var (pv 1)) pda_nil))))), fun ds Q ex h => ?_⟩)
  · obtain ⟨s, rs, rfl, _⟩ := h
    rfl
  · obtain ⟨s, rs, rfl, hS, hr2, q⟩ := h
    obtain ⟨hl, ho⟩ := hr2
    have hs := hS.at
    walk_at "go"
    refine ⟨fun i z => ∃ r : Int × Int, rs[i]? = some r ∧ z = some (.int (r.2)), ?_, ?_⟩
    · rintro i x hx
      obtain ⟨z, hz, rfl⟩ := map_at hx
      skip
      walk_at "go"
      exact fun _ => ⟨z, hz, rfl⟩
    intro zs hl2 hz
    obtain ⟨ms, e, hm, hm2⟩ := lc_map D.int (P := fun i v => ∃ r : Int × Int, rs[i]? = some r ∧ v = r.2) hl2 (fun i z h => by
      obtain ⟨t, h1, h2⟩ := hz i z h
      exact ⟨_, h2, t, h1, rfl⟩)
    have em : ms = rs.map fun r => r.2 := map_is (by rw [hm, List.length_map]) hm2
    rw [e, em]
    clear e em hm hm2 hz hl2
    walk_at "go"
    refine ⟨fun z hz => ?_, fun m m0 m1 m2 => ?_⟩
    · obtain ⟨r, hr, rfl⟩ := List.mem_map.mp hz
      exact ⟨(ho r hr).1, (ho r hr).2.1⟩
    have m3 : ∀ r ∈ rs, r.2 ∣ m := fun r hr => m2 r.2 (List.mem_map.mpr ⟨r, hr, rfl⟩)
    have m60 := dvd60 m0 m1
    have q := q m m0 m1 m3
    walk_at "go"
    refine ⟨fun i z => ∃ r : Int × Int, rs[i]? = some r ∧ z = some (.int (r.1 * m.fdiv r.2)), ?_, ?_⟩
    · rintro i x hx
      obtain ⟨z, hz, rfl⟩ := map_at hx
      obtain ⟨r0, r1, r2⟩ := ho z (List.mem_of_getElem? hz)
      have hd : CDivZ m z.2 := divZ (b := 10) (by omega) (by have := dvd60 r0 r1; omega) (by decide) (by decide)
      have hf : (m.fdiv z.2).natAbs ≤ m.natAbs := Int.natAbs_fdiv_le_natAbs _ _
      have hm : IntMulOk z.1 (m.fdiv z.2) := mulR (by omega) (by omega)
      walk_at "go"
      exact fun _ => ⟨z, hz, rfl⟩
    intro zs hl2 hz
    obtain ⟨ms, e, hm, hm2⟩ := lc_map D.int (P := fun i v => ∃ r : Int × Int, rs[i]? = some r ∧ v = r.1 * m.fdiv r.2) hl2 (fun i z h => by
      obtain ⟨t, h1, h2⟩ := hz i z h
      exact ⟨_, h2, t, h1, rfl⟩)
    have em : ms = rs.map fun r => r.1 * m.fdiv r.2 := map_is (by rw [hm, List.length_map]) hm2
    rw [e, em]
    clear e em hm hm2 hz hl2
    walk_at "go"
    exact q

theorem fn_Vector_of (T : Txt LL K mg) (M : Mo2 cs sms cis mxs K mg) : Nonempty (Fn P w K mg base (d_Vector_of.at_ K) 6 1 P_Vector_of) := by
  obtain ⟨F_over_one_bottom⟩ := fn_over_one_bottom (P := P) (w := w) (base := base) T M
  obtain ⟨⟨F_Vector_init⟩, ⟨F_Vector_init_d⟩⟩ := fn_Vector_init (P := P) (w := w) (base := base) T M
  refine Fn.of (T.d 23 (d := d_Vector_of)) sc_Vector_of rfl (fun _ _ _ _ _ _ us hl => match us, hl with | [_], _ => rfl) (fun ds Q ex h => ?_) (fun fd cdv A outer s H E hr => ⟨_, pdss_cons (pds_asg (pd_call F_over_one_bottom (hr.mono (by decide)) (by rfl) (T.g "over_one_bottom") (T.k "over_one_bottom") (takes_of rfl rfl rfl rfl) (pda_cons (pd_var (pv 0)) pda_nil)) (pdg_tup (n := 2) (by rfl) (pdgs_cons (pdg_name (pg_name (i := 1) sc_Vector_of.nd rfl (by first | exact Or.inl rfl | exact Or.inr rfl))) (pdgs_cons (pdg_name (pg_name (i := 2) sc_Vector_of.nd rfl (by first | exact Or.inl rfl | exact Or.inr rfl))) pdgs_nil)))) (pdss_one (pds_ret (pd_make (c := 1) (T.mkk "Vector") F_Vector_init (fun _ _ => .nil) (hr.mono (by decide)) (by rfl) (T.g "Vector") (takes_of rfl rfl rfl rfl) (pda_cons (pd_var (pv 1)) (pda_cons (pd_var (pv 2)) pda_nil))))), fun ds Q ex h => ?_⟩)
  · obtain ⟨s, rs, rfl, _⟩ := h
    rfl
  · obtain ⟨s, rs, rfl, hS, hr2, q0, q1⟩ := h
    walk_at "go"
    refine fun m m0 m1 m2 => ?_
    have hl : (overT rs m).length ≤ 1000 := by unfold overT; rw [List.length_map]; exact hr2.1
    have m60 := dvd60 m0 m1
    have hm : m.natAbs < 2 ^ 8999 := Nat.lt_of_lt_of_le (show m.natAbs < 2 ^ 10 by omega) (Nat.pow_le_pow_right (by decide) (by decide))
    have hn : overT rs m = [] ↔ rs = [] := by unfold overT; exact List.map_eq_nil_iff
    walk_at "go"
    exact ⟨_, overT rs m, m, rfl, .inl rfl, hl, fun z => q0 (hn.mp z), fun _ z => absurd z (by omega), fun z _ => ⟨hm, q1 (fun y => z (hn.mpr y)) m m0 m1 m2⟩⟩

theorem fn_Poly_eq (T : Txt LL K mg) (M : Mo2 cs sms cis mxs K mg) : Nonempty (Fn P w K mg base (d_Poly_eq.at_ K) 1 2 P_Poly_eq) := by
  refine Fn.of (T.d 27 (d := d_Poly_eq)) sc_Poly_eq rfl (fun _ _ _ _ _ _ us hl => match us, hl with | [_, _], _ => rfl) (fun ds Q ex h => ?_) (fun fd cdv A outer s H E hr => ⟨_, pdss_one (pds_ret (pd_and (pd_isi (cr := (.own 3)) M.isi M.cls (fun c h => by cases h; decide) (fun h => pe_callB call_isi (by rfl) (T.f "isinstance") (by decide +kernel) (pa_cons h (pa_cons (pe_glob (v := .ref (He.ga K "Poly")) rfl (T.g "Poly") rfl) pa_nil))) (pd_var (pv 1))) (pd_and (pd_cmp (op_eqD (hr.units)) l_eqD (pd_fld (c := 3) (k := 0) (T.cl "Poly") (T.no "Poly" "tops") fk_Poly_tops (pd_var (pv 0))) (pd_fld (c := 3) (k := 0) (T.cl "Poly") (T.no "Poly" "tops") fk_Poly_tops (pd_var (pv 1))) (nomark _)) (pd_one (pd_cmp op_eq l_eq (pd_fld (c := 3) (k := 1) (T.cl "Poly") (T.no "Poly" "bottom") fk_Poly_bottom (pd_var (pv 0))) (pd_fld (c := 3) (k := 1) (T.cl "Poly") (T.no "Poly" "bottom") fk_Poly_bottom (pd_var (pv 1))) (nomark _)))))), fun ds Q ex h => ?_⟩)
  · obtain ⟨ts, b, d, rfl, _⟩ := h
    rfl
  · obtain ⟨ts, b, d, rfl, hk, hd, q⟩ := h
    walk_at "go"
    rw [hd]
    exact q

theorem fn_Poly_init (T : Txt LL K mg) (M : Mo2 cs sms cis mxs K mg) : Nonempty (FnI P w K mg base (d_Poly_init.at_ K) 4 3 2 P_Poly_init [] []) ∧ Nonempty (FnI P w K mg base (d_Poly_init.at_ K) 4 3 2 P_Poly_init [.int 1] [.int 1]) := by
  obtain ⟨F_ZeroBottom⟩ := fx_ZeroBottom (P := P) (w := w) (base := base) T
  obtain ⟨F_common_divisor⟩ := fn_common_divisor (P := P) (w := w) (base := base) T M
  refine FnI.ofD (T.d 26 (d := d_Poly_init)) sc_Poly_init rfl (fun n hn _ _ _ _ _ _ _ us its hu hi => ?_) (fun ds Q ex h => ?_) (fun fd cdv A outer s H E hr => ⟨_, pdss_cons (pds_if (pdt_cmp op_eq l_eq (pd_var (pv 2)) (pd_int pe_int) (nomark _)) (pdss_one (pds_raise0 rfl (takes_of rfl rfl rfl rfl) (pmk_oex0 (T.oex "ZeroBottom") (T.exI "ZeroBottom") (T.exT "ZeroBottom") F_ZeroBottom.ok (hr.mono (by decide)) F_ZeroBottom.bd passL (by rfl) (T.g "ZeroBottom")))) pdss_nil) (pdss_cons (pds_set (i := 3) sc_Poly_init.nd rfl (by first | exact Or.inl rfl | exact Or.inr rfl) (pd_cb (fun h => pe_callB call_len (by rfl) (T.f "len") (by decide +kernel) h) l_len (pda_cons (pd_var (pv 1)) pda_nil))) (pdss_cut (pds_while (passes_of rfl) (PDW.pt (pdw_and (pdt_cmp op_gt l_B0 (pd_var (pv 3)) (pd_int pe_int) (nomark _)) (pdw_and1 (pdt_cmp op_eq l_eq (pd_ix ix_list l_ixL (pd_var (pv 1)) (pd_op op_sub l_I0 (pd_var (pv 3)) (pd_int pe_int)) (fun _ _ => rfl)) (pd_int pe_int) (nomark _))))) (pdss_one (pds_aug (i := 3) sc_Poly_init.nd rfl (by first | exact Or.inl rfl | exact Or.inr rfl) (pd_int pe_int) ip_sub))) (pdss_cons (pds_set (i := 4) sc_Poly_init.nd rfl (by first | exact Or.inl rfl | exact Or.inr rfl) (pd_call F_common_divisor (hr.mono (by decide)) (by rfl) (T.g "common_divisor") (T.k "common_divisor") (takes_of rfl rfl rfl rfl) (pda_cons (pd_new (pdn_slL (pd_var (pv 1)) pdo_none (pdo_some (pd_var (pv 3))))) (pda_cons (pd_var (pv 2)) pda_nil)))) (pdss_cons (pds_fst (i := 0) (c := 3) (f := "tops") (T.cl "Poly") (T.no "Poly" "tops") (fun h => ps_fld (pv 0) h rfl) (pd_cb (fun h => pe_callTy call_tuple_of (by rfl) (T.f "tuple") (by decide +kernel) h) l_tuple (pda_cons (pd_new (pdn_lc (own := [("top", 5)]) rfl sc_Poly_init.nd (pdi_list (pd_new (pdn_slL (pd_var (pv 1)) pdo_none (pdo_some (pd_var (pv 3)))))) (blkOk_by (N := ["self", "tops", "bottom", "count", "divisor", "top"]) (sc := defScope s_Poly_init) (by decide +kernel)) (by decide) (fun _ _ _ _ _ => (pdg_name (pg_name (i := 5) sc_Poly_init.nd rfl (Or.inl rfl)))) (fun _ _ _ _ _ => pdts_nil) (fun _ _ _ _ _ => pd_op op_fdivZ l_I (pd_var (pv 5)) (pd_var (pv 4))))) pda_nil))) (pdss_one (pds_fst (i := 0) (c := 3) (f := "bottom") (T.cl "Poly") (T.no "Poly" "bottom") (fun h => ps_fld (pv 0) h rfl) (pd_op op_fdivZ l_I (pd_var (pv 2)) (pd_var (pv 4))))))))), fun p ds Q ex h => ?_⟩)
  · have hn : n = 3 ∨ n + 1 = 3 := hn
    rcases hn with rfl | hn
    · exact match us, hu, its, hi with | [_, _, _], _, [_], _ => ⟨_, rfl, rfl⟩
    · obtain rfl : n = 2 := by omega
      exact match us, hu, its, hi with | [_, _], _, [_], _ => ⟨_, rfl, rfl⟩
  · obtain ⟨ts, b, rfl, _⟩ := h
    rfl
  · obtain ⟨ts, b, rfl, hl, hb, hs, q⟩ := h
    have db : decide (b = 0) = false := decide_eq_false hb
    walk_at "go"
    rw [db]
    walk_at "go"
    refine ⟨fun env => ∃ m : Nat, env = [.ob p 3 [], .val (.lst (ts.map D.int)), .val (.int b), .val (.int (m : Int)), .no, .no] ∧ m ≤ ts.length, ?_, ?_⟩
    · refine ⟨fun m env => env = [.ob p 3 [], .val (.lst (ts.map D.int)), .val (.int b), .val (.int (m : Int)), .no, .no] ∧ m ≤ ts.length, fun _ => ⟨ts.length, by rw [List.length_map]; rfl, Nat.le_refl _⟩, ?_⟩
      rintro m env ⟨rfl, hm⟩
      walk_at "go"
      refine d_ite (fun c1 => ?_) (fun c1 => ?_)
      · have c1' : (m : Int) > 0 := of_decide_eq_true c1
        obtain ⟨z, _, _, hz⟩ := at_ex (l := ts) (k := (m : Int) - 1) (by omega) (by omega)
        walk_at "go"
        refine d_ite (fun c2 => ?_) (fun c2 => ?_)
        · walk_at "go"
          exact fun _ => ⟨m - 1, by omega, by rw [show ((m - 1 : Nat) : Int) = (m : Int) - 1 by omega]; rfl, by omega⟩
        · walk_at "go"
          exact fun _ => ⟨m, rfl, hm⟩
      · walk_at "go"
        exact fun _ => ⟨m, rfl, hm⟩
    rintro env ⟨m, rfl, hm⟩
    obtain ⟨ms, em, hml, _⟩ := cut_map D.int ts none (some (m : Int))
    have hg : (gs ms b).natAbs < 2 ^ 8999 := Nat.lt_of_le_of_lt (gs_le hb) hs
    have hd : ∀ i, CDivZ i (gs ms b) := fun i => divZ (gs_ne hb) hg (by decide) (by decide)
    have hdb := hd b
    walk_at "go"
    rw [em]
    refine ⟨_, ms, b, rfl, .inl rfl, ?_⟩
    walk_at "go"
    rw [em]
    walk_at "go"
    refine ⟨fun i z => ∃ t : Int, z = some (.int t), ?_, ?_⟩
    · rintro i x hx
      obtain ⟨z, hz, rfl⟩ := map_at hx
      have hd3 := hd z
      walk_at "go"
      exact fun _ => ⟨_, rfl⟩
    intro zs hl2 hz
    obtain ⟨us, e, _, _⟩ := lc_map D.int (P := fun i v => True) hl2 (fun i z h => by
      obtain ⟨t, h1⟩ := hz i z h
      exact ⟨_, h1, trivial⟩)
    rw [e]
    walk_at "go"
    exact q _ _
end
end K02

namespace K02
open PySem PySem.Spec PyProof.Rows L2 LR DL
section
variable {P : Program} {w : World} {K : PySem.W.Frag} {mg : Str → Option Value} {base : Heap}
local macro_rules | `(tactic| walk_at "side") => `(tactic| first | rfl | omega | assumption | exact ⟨_, rfl⟩ | exact mulL (by omega) (by omega) | exact mulR (by omega) (by omega) | exact mulF (by decide) (by decide) | exact ⟨by decide, by decide +kernel⟩ | decide | exact Nat.le_of_ble_eq_true rfl | (simp only [List.length_cons, List.length_nil, List.length_map, List.nil_append, List.cons_append, sizeLine_eq]; omega) | (simp only [List.map_cons, List.map_nil, List.nil_append, List.cons_append]; decide +kernel))
local macro_rules | `(tactic| walk_at "go") => `(tactic| repeat (first
  | refine ⟨_, rfl, ?_⟩
  | refine ⟨_, _, rfl, rfl, ?_⟩
  | refine ⟨_, _, rfl, ?_⟩
  | refine ⟨_, _, _, rfl, rfl, ?_⟩
  | refine ⟨_, _, _, rfl, ?_⟩
  | refine ⟨_, _, _, _, rfl, rfl, ?_⟩
  | refine ⟨_, _, _, _, rfl, ?_⟩
  | refine ⟨_, _, rfl, by assumption, ?_⟩
  | refine ⟨_, _, _, rfl, rfl, rfl, ?_⟩
  | refine ⟨_, _, _, rfl, rfl, by assumption, ?_⟩
  | refine ⟨_, _, _, rfl, rfl, by walk_at "side", by assumption, ?_⟩
  | refine ⟨_, _, _, rfl, rfl, by walk_at "side", rfl, ?_⟩
  | refine ⟨_, _, _, rfl, rfl, rfl, by assumption, ?_⟩
  | refine .inl ⟨_, rfl, ?_⟩
  | refine .inr ⟨_, rfl, ?_⟩
  | refine .inr (.inl ⟨_, rfl, ?_⟩)
  | refine .inr (.inr ⟨_, rfl, ?_⟩)
  | refine ⟨_, .inl rfl, ?_⟩
  | refine ⟨_, .inr rfl, ?_⟩
  | refine .inr ⟨_, _, rfl, ?_⟩
  | refine .inl ⟨_, _, rfl, ?_⟩
  | refine And.intro (by walk_at "side") ?_))


theorem d_if1 {p q : Prop} (h : p) : (if true = true then p else q) := by rw [if_pos rfl]; exact h
theorem cut_mid {zs : List Int} {n : Nat} (h : 4 + n ≤ zs.length) : DL.cutD (zs.map D.int) (some 4) (some (4 + (n : Int))) = ((zs.drop 4).take n).map D.int := by
  unfold DL.cutD
  rw [show (4 : Int) + (n : Int) = ((4 + n : Nat) : Int) by push_cast; rfl, show (some (4 : Int)) = some ((4 : Nat) : Int) from rfl, HT.sIx_nat, HT.sIx_nat, List.length_map, Nat.min_eq_left (show 4 ≤ zs.length by omega), Nat.min_eq_left h, List.map_take, List.map_drop]
  congr 1
  omega
def P_law_thing : Prm := fun ds Q _ => ∃ (ns : List Int) (wh : Int) (n : Nat), ds = [.lst (ns.map D.int), .int wh, .int n] ∧ ns.length ≤ 63 ∧ 0 ≤ wh ∧ wh ≤ 1 ∧ 0 < n ∧ n ≤ 30 ∧ ∀ (ts : List Int) (b : Int), ts.length = n → b ≠ 0 → Bd 70 ts → b.natAbs < 2 ^ 70 → Q (.tup [.lst (ts.map D.int), .int b])
def P_law_factors : Prm := fun ds Q _ => ∃ ns zs : List Int, ds = [.lst (ns.map D.int), .lst (zs.map D.int)] ∧ ns.length ≤ 63 ∧ zs.length = 8 ∧ (∀ z ∈ zs, 0 ≤ z ∧ z < 1024) ∧ ∀ n p q : Int, n.natAbs < 10 ^ 18 → p.natAbs < 10 ^ 18 → q.natAbs < 10 ^ 18 → q ≠ 0 → Q (.tup [.int n, .lst [.int p, .int q]])
def P_law_is_ratio : Prm := fun ds Q _ => ∃ t b : Int, ds = [R t b, .tup [.int t, .int b]] ∧ Q (.bl true)
abbrev lowD (ts : List Int) (b : Int) : D := .tup [.lst (ts.map D.int), .int b]
def P_law_is : Prm := fun ds Q _ => ∃ (ts : List Int) (b : Int), ds = [V ts b, lowD ts b] ∧ ts.length ≤ 1000 ∧ Q (.bl true)
def P_law_made : Prm := fun ds Q _ => ∃ (ts : List Int) (b : Int), ds = [lowD ts b] ∧ ts ≠ [] ∧ ts.length ≤ 1000 ∧ b ≠ 0 ∧ b.natAbs < 2 ^ 8999 ∧ Q (V (lT ts b) (lB ts b))

theorem fn_law_thing (T : Txt LL K mg) (M : Mo2 cs sms cis mxs K mg) : Nonempty (Fn P w K mg base (d_law_thing.at_ K) 3 3 P_law_thing) := by
  obtain ⟨F_law_draws⟩ := fn_law_draws (P := P) (w := w) (base := base) T M
  obtain ⟨F_law_small⟩ := fn_law_small (P := P) (w := w) (base := base) T M
  obtain ⟨F_law_bottom⟩ := fn_law_bottom (P := P) (w := w) (base := base) T M
  obtain ⟨F_law_wide⟩ := fn_law_wide (P := P) (w := w) (base := base) T M
  refine Fn.of (T.d 38 (d := d_law_thing)) sc_law_thing rfl (fun _ _ _ _ _ _ us hl => match us, hl with | [_, _, _], _ => rfl) (fun ds Q ex h => ?_) (fun fd cdv A outer s H E hr => ⟨_, pdss_cons (pds_set (i := 3) sc_law_thing.nd rfl (by first | exact Or.inl rfl | exact Or.inr rfl) (pd_call F_law_draws (hr.mono (by decide)) (by rfl) (T.g "_law_draws") (T.k "_law_draws") (takes_of rfl rfl rfl rfl) (pda_cons (pd_var (pv 0)) (pda_cons (pd_op op_add l_I0 (pd_int pe_int) (pd_var (pv 1))) (pda_cons (pd_int pe_int) pda_nil))))) (pdss_cons (pds_set (i := 4) sc_law_thing.nd rfl (by first | exact Or.inl rfl | exact Or.inr rfl) (pd_op op_modN l_I (pd_cb (fun h => pe_callTy call_int1 (by rfl) (T.f "int") (by decide +kernel) h) l_int (pda_cons (pd_ix ix_list l_ixL (pd_var (pv 3)) (pd_int pe_int) (fun _ _ => rfl)) pda_nil)) (pd_int pe_int))) (pdss_cons (pds_lcV (i := 5) (own := [("d", 6)]) rfl sc_law_thing.nd rfl rfl (sw_true rfl rfl rfl (by decide +kernel)) (pdi_list (pd_new (pdn_slL (pd_var (pv 3)) (pdo_some (pd_int pe_int)) (pdo_some (pd_op op_add l_I0 (pd_int pe_int) (pd_var (pv 2))))))) (blkOk_by (N := ["script", "which", "size", "draws", "kind", "tops", "d", "bottom", "top", "at", "factor"]) (sc := defScope s_law_thing) (by decide +kernel)) (by decide) (fun _ _ _ _ _ => (pdg_name (pg_name (i := 6) sc_law_thing.nd rfl (Or.inl rfl)))) (fun _ _ _ _ _ => pdts_nil) (fun _ _ _ _ _ => pd_call F_law_small (hr.mono (by decide)) (by rfl) (T.g "_law_small") (T.k "_law_small") takes0 (pda_cons (pd_var (pv 6)) pda_nil))) (pdss_cons (pds_set (i := 7) sc_law_thing.nd rfl (by first | exact Or.inl rfl | exact Or.inr rfl) (pd_call F_law_bottom (hr.mono (by decide)) (by rfl) (T.g "_law_bottom") (T.k "_law_bottom") (takes_of rfl rfl rfl rfl) (pda_cons (pd_ix ix_list l_ixL (pd_var (pv 3)) (pd_int pe_int) (fun _ _ => rfl)) pda_nil))) (pdss_cut (pds_if (pdt_cmp op_eq l_eq (pd_var (pv 4)) (pd_int pe_int) (nomark _)) (pdss_one (pds_lcV (i := 5) (own := [("top", 8)]) rfl sc_law_thing.nd rfl rfl (sw_true rfl rfl rfl (by decide +kernel)) (pdi_list (pd_var (pv 5))) (blkOk_by (N := ["script", "which", "size", "draws", "kind", "tops", "d", "bottom", "top", "at", "factor"]) (sc := defScope s_law_thing) (by decide +kernel)) (by decide) (fun _ _ _ _ _ => (pdg_name (pg_name (i := 8) sc_law_thing.nd rfl (Or.inl rfl)))) (fun _ _ _ _ _ => pdts_nil) (fun _ _ _ _ _ => pd_int pe_int))) pdss_nil) (pdss_cut (pds_if (PDW.pt (pdw_or (pdt_cmp op_eq l_eq (pd_var (pv 4)) (pd_int pe_int) (nomark _)) (pdw_or (pdt_cmp op_eq l_eq (pd_var (pv 4)) (pd_int pe_int) (nomark _)) (pdw_or1 (pdt_cmp op_eq l_eq (pd_var (pv 4)) (pd_int pe_int) (nomark _)))))) (pdss_cons (pds_lcV (i := 5) (own := [("at", 9)]) rfl sc_law_thing.nd rfl rfl (sw_true rfl rfl rfl (by decide +kernel)) (pdi_range1 rfl (T.f "range") (pda_cons (pd_var (pv 2)) pda_nil)) (blkOk_by (N := ["script", "which", "size", "draws", "kind", "tops", "d", "bottom", "top", "at", "factor"]) (sc := defScope s_law_thing) (by decide +kernel)) (by decide) (fun _ _ _ _ _ => (pdg_name (pg_name (i := 9) sc_law_thing.nd rfl (Or.inl rfl)))) (fun _ _ _ _ _ => pdts_nil) (fun _ _ _ _ _ => pd_call F_law_wide (hr.mono (by decide)) (by rfl) (T.g "_law_wide") (T.k "_law_wide") takes0 (pda_cons (pd_var (pv 0)) (pda_cons (pd_op op_add l_I0 (pd_op op_add l_I0 (pd_int pe_int) (pd_op op_mulZ l_I (pd_int pe_int) (pd_var (pv 1)))) (pd_op op_modN l_I (pd_cb (fun h => pe_callTy call_int1 (by rfl) (T.f "int") (by decide +kernel) h) l_int (pda_cons (pd_var (pv 9)) pda_nil)) (pd_int pe_int))) pda_nil)))) (pdss_one (pds_set (i := 7) sc_law_thing.nd rfl (by first | exact Or.inl rfl | exact Or.inr rfl) (pd_cb (fun h => pe_callB call_abs (by rfl) (T.f "abs") (by decide +kernel) h) l_abs (pda_cons (pd_call F_law_wide (hr.mono (by decide)) (by rfl) (T.g "_law_wide") (T.k "_law_wide") (takes_of rfl rfl rfl rfl) (pda_cons (pd_var (pv 0)) (pda_cons (pd_op op_add l_I0 (pd_int pe_int) (pd_var (pv 1))) pda_nil))) pda_nil))))) pdss_nil) (pdss_cut (pds_if (pdt_cmp op_eq l_eq (pd_var (pv 7)) (pd_int pe_int) (nomark _)) (pdss_one (pds_set (i := 7) sc_law_thing.nd rfl (by first | exact Or.inl rfl | exact Or.inr rfl) (pd_int pe_int))) pdss_nil) (pdss_cons (pds_set (i := 10) sc_law_thing.nd rfl (by first | exact Or.inl rfl | exact Or.inr rfl) (pd_int pe_int)) (pdss_cut (pds_if (pdt_cmp op_eq l_eq (pd_op op_modN l_I (pd_cb (fun h => pe_callTy call_int1 (by rfl) (T.f "int") (by decide +kernel) h) l_int (pda_cons (pd_ix ix_list l_ixL (pd_var (pv 3)) (pd_int pe_int) (fun _ _ => rfl)) pda_nil)) (pd_int pe_int)) (pd_int pe_int) (nomark _)) (pdss_one (pds_set (i := 10) sc_law_thing.nd rfl (by first | exact Or.inl rfl | exact Or.inr rfl) (pd_op op_add l_I0 (pd_int pe_int) (pd_op op_modN l_I (pd_cb (fun h => pe_callTy call_int1 (by rfl) (T.f "int") (by decide +kernel) h) l_int (pda_cons (pd_op op_fdivZ l_I (pd_ix ix_list l_ixL (pd_var (pv 3)) (pd_int pe_int) (fun _ _ => rfl)) (pd_int pe_int)) pda_nil)) (pd_int pe_int))))) pdss_nil) (pdss_cut (pds_if (pdt_cmp op_eq l_eq (pd_op op_modN l_I (pd_cb (fun h => pe_callTy call_int1 (by rfl) (T.f "int") (by decide +kernel) h) l_int (pda_cons (pd_ix ix_list l_ixL (pd_var (pv 3)) (pd_int pe_int) (fun _ _ => rfl)) pda_nil)) (pd_int pe_int)) (pd_int pe_int) (nomark _)) (pdss_one (pds_set (i := 10) sc_law_thing.nd rfl (by first | exact Or.inl rfl | exact Or.inr rfl) (pd_un un_neg l_U (pd_var (pv 10))))) pdss_nil) (pdss_one (pds_ret (pd_tup (pda_cons (pd_new (pdn_lc (own := [("top", 8)]) rfl sc_law_thing.nd (pdi_list (pd_var (pv 5))) (blkOk_by (N := ["script", "which", "size", "draws", "kind", "tops", "d", "bottom", "top", "at", "factor"]) (sc := defScope s_law_thing) (by decide +kernel)) (by decide) (fun _ _ _ _ _ => (pdg_name (pg_name (i := 8) sc_law_thing.nd rfl (Or.inl rfl)))) (fun _ _ _ _ _ => pdts_nil) (fun _ _ _ _ _ => pd_op op_mulZ l_I (pd_var (pv 8)) (pd_var (pv 10))))) (pda_cons (pd_op op_mulZ l_I (pd_var (pv 7)) (pd_var (pv 10))) pda_nil)))))))))))))), fun ds Q ex h => ?_⟩)
  · obtain ⟨ns, wh, n, rfl, _⟩ := h
    rfl
  · obtain ⟨ns, wh, n, rfl, hl, w0, w1, n0, n1, q⟩ := h
    walk_at "go"
    intro zs hz hzb
    have hzl : zs.length = 34 := by omega
    obtain ⟨d0, m0, _, x0⟩ := at_ex (l := zs) (k := 0) (by decide) (by omega)
    obtain ⟨d1, m1, _, x1⟩ := at_ex (l := zs) (k := 1) (by decide) (by omega)
    obtain ⟨d2, m2, _, x2⟩ := at_ex (l := zs) (k := 2) (by decide) (by omega)
    obtain ⟨d3, m3, _, x3⟩ := at_ex (l := zs) (k := 3) (by decide) (by omega)
    have em := cut_mid (zs := zs) (n := n) (by omega)
    have hcl : ((zs.drop 4).take n).length = n := by rw [List.length_take, List.length_drop]; omega
    have hcs : (((zs.drop 4).take n).map D.int).length < sizeLine := by rw [List.length_map, hcl]; exact sz100 (by omega)
    have hrs : (rngD 0 (n : Int).toNat).length < sizeLine := by rw [rng_len]; exact sz100 (by omega)
    walk_at "go"
    rw [em]
    walk_at "go"
    refine ⟨fun i z => ∃ v : Int, v.natAbs < 2 ^ 60 ∧ z = some (.int v), ?_, ?_⟩
    · rintro i x hx
      obtain ⟨z, hz, rfl⟩ := map_at hx
      have hzm := hzb z (List.mem_of_mem_drop (List.mem_of_mem_take (List.mem_of_getElem? hz)))
      obtain ⟨z0, z1⟩ := hzm
      walk_at "go"
      exact fun v v0 v1 _ => ⟨v, by omega, rfl⟩
    intro ws hl2 hz2
    rw [List.length_map, hcl] at hl2
    obtain ⟨us, e, hu, hu2⟩ := lc_map D.int (P := fun i v => v.natAbs < 2 ^ 60) hl2 (fun i z h => by
      obtain ⟨t, h1, h2⟩ := hz2 i z h
      exact ⟨_, h2, h1⟩)
    rw [e]
    clear e hz2 hl2 em
    walk_at "go"
    intro bo b0 b1
    generalize d0.fmod 8 = kd
    walk_at "go"
    refine ⟨fun env => ∃ (ts : List Int) (b : Int), env = [.val (.lst (ns.map D.int)), .val (.int wh), .val (.int n), .val (.lst (zs.map D.int)), .val (.int kd), .val (.lst (ts.map D.int)), .no, .val (.int b), .no, .no, .no] ∧ ts.length = n ∧ Bd 60 ts ∧ 0 < b ∧ b < 10 ^ 18, ?_, ?_⟩
    · walk_at "go"
      refine d_ite (fun c => ?_) (fun c => ?_)
      · have hul : us.length ≤ 100000 := by omega
        walk_at "go"
        refine ⟨fun i z => z = some (.int 0), ?_, ?_⟩
        · rintro i x hx
          walk_at "go"
          exact fun _ => rfl
        intro ws hl2 hz
        rw [List.length_map] at hl2
        obtain ⟨vs, e, hv, hv2⟩ := lc_map D.int (P := fun i v => v = 0) hl2 (fun i z h => ⟨_, hz i z h, rfl⟩)
        rw [e]
        walk_at "go"
        exact fun _ => ⟨vs, bo, rfl, by omega, fun t ht => by
          obtain ⟨i, hi⟩ := List.getElem?_of_mem ht
          rw [hv2 i t hi]
          decide, by omega, by omega⟩
      · walk_at "go"
        exact fun _ => ⟨us, bo, rfl, hu, fun t ht => by
          obtain ⟨i, hi⟩ := List.getElem?_of_mem ht
          exact hu2 i t hi, by omega, by omega⟩
    clear hu2 hu us b0 b1 bo
    rintro env ⟨ts, b, rfl, ht, hb, b0, b1⟩
    walk_at "go"
    refine ⟨fun env => ∃ (ts : List Int) (b : Int), env = [.val (.lst (ns.map D.int)), .val (.int wh), .val (.int n), .val (.lst (zs.map D.int)), .val (.int kd), .val (.lst (ts.map D.int)), .no, .val (.int b), .no, .no, .no] ∧ ts.length = n ∧ Bd 60 ts ∧ 0 ≤ b ∧ b < 10 ^ 18, ?_, ?_⟩
    · walk_at "go"
      refine d_ite (fun c => ?_) (fun c => ?_)
      · skip
        walk_at "go"
        refine ⟨fun i z => ∃ v : Int, v.natAbs < 10 ^ 18 ∧ z = some (.int v), ?_, ?_⟩
        · rintro i x hx
          obtain ⟨hi, rfl⟩ := rng_at hx
          have a1 := fmod_lo ((0 : Int) + (i : Int)) (j := 7) (by decide)
          have a2 := fmod_hi ((0 : Int) + (i : Int)) (j := 7) (by decide)
          walk_at "go"
          exact fun v hv _ => ⟨v, hv, rfl⟩
        intro ws hl2 hz
        rw [rng_len] at hl2
        obtain ⟨us, e, hu, hu2⟩ := lc_map D.int (P := fun i v => v.natAbs < 10 ^ 18) hl2 (fun i z h => by
          obtain ⟨t, h1, h2⟩ := hz i z h
          exact ⟨_, h2, h1⟩)
        rw [e]
        walk_at "go"
        intro v hv
        walk_at "go"
        exact fun _ => ⟨us, _, rfl, by omega, fun t ht => by
          obtain ⟨i, hi⟩ := List.getElem?_of_mem ht
          exact Nat.lt_of_lt_of_le (hu2 i t hi) (by decide +kernel), by omega, by omega⟩
      walk_at "go"
      refine d_ite (fun c => ?_) (fun c => ?_)
      · skip
        walk_at "go"
        refine ⟨fun i z => ∃ v : Int, v.natAbs < 10 ^ 18 ∧ z = some (.int v), ?_, ?_⟩
        · rintro i x hx
          obtain ⟨hi, rfl⟩ := rng_at hx
          have a1 := fmod_lo ((0 : Int) + (i : Int)) (j := 7) (by decide)
          have a2 := fmod_hi ((0 : Int) + (i : Int)) (j := 7) (by decide)
          walk_at "go"
          exact fun v hv _ => ⟨v, hv, rfl⟩
        intro ws hl2 hz
        rw [rng_len] at hl2
        obtain ⟨us, e, hu, hu2⟩ := lc_map D.int (P := fun i v => v.natAbs < 10 ^ 18) hl2 (fun i z h => by
          obtain ⟨t, h1, h2⟩ := hz i z h
          exact ⟨_, h2, h1⟩)
        rw [e]
        walk_at "go"
        intro v hv
        walk_at "go"
        exact fun _ => ⟨us, _, rfl, by omega, fun t ht => by
          obtain ⟨i, hi⟩ := List.getElem?_of_mem ht
          exact Nat.lt_of_lt_of_le (hu2 i t hi) (by decide +kernel), by omega, by omega⟩
      walk_at "go"
      refine d_ite (fun c => ?_) (fun c => ?_)
      · skip
        walk_at "go"
        refine ⟨fun i z => ∃ v : Int, v.natAbs < 10 ^ 18 ∧ z = some (.int v), ?_, ?_⟩
        · rintro i x hx
          obtain ⟨hi, rfl⟩ := rng_at hx
          have a1 := fmod_lo ((0 : Int) + (i : Int)) (j := 7) (by decide)
          have a2 := fmod_hi ((0 : Int) + (i : Int)) (j := 7) (by decide)
          walk_at "go"
          exact fun v hv _ => ⟨v, hv, rfl⟩
        intro ws hl2 hz
        rw [rng_len] at hl2
        obtain ⟨us, e, hu, hu2⟩ := lc_map D.int (P := fun i v => v.natAbs < 10 ^ 18) hl2 (fun i z h => by
          obtain ⟨t, h1, h2⟩ := hz i z h
          exact ⟨_, h2, h1⟩)
        rw [e]
        walk_at "go"
        intro v hv
        walk_at "go"
        exact fun _ => ⟨us, _, rfl, by omega, fun t ht => by
          obtain ⟨i, hi⟩ := List.getElem?_of_mem ht
          exact Nat.lt_of_lt_of_le (hu2 i t hi) (by decide +kernel), by omega, by omega⟩
      walk_at "go"
      exact fun _ => ⟨ts, b, rfl, ht, hb, by omega, b1⟩
    clear ht hb b0 b1 ts b
    rintro env ⟨ts, b, rfl, ht, hb, b0, b1⟩
    walk_at "go"
    refine ⟨fun env => ∃ b : Int, env = [.val (.lst (ns.map D.int)), .val (.int wh), .val (.int n), .val (.lst (zs.map D.int)), .val (.int kd), .val (.lst (ts.map D.int)), .no, .val (.int b), .no, .no, .no] ∧ 0 < b ∧ b < 10 ^ 18, ?_, ?_⟩
    · walk_at "go"
      refine d_ite (fun c => ?_) (fun c => ?_)
      · walk_at "go"
        exact fun _ => ⟨1, rfl, by omega, by omega⟩
      · have := of_decide_eq_false c
        walk_at "go"
        exact fun _ => ⟨b, rfl, by omega, b1⟩
    clear b0 b1 b
    rintro env ⟨b, rfl, b0, b1⟩
    walk_at "go"
    refine ⟨fun env => ∃ f : Int, env = [.val (.lst (ns.map D.int)), .val (.int wh), .val (.int n), .val (.lst (zs.map D.int)), .val (.int kd), .val (.lst (ts.map D.int)), .no, .val (.int b), .no, .no, .val (.int f)] ∧ 1 ≤ f ∧ f ≤ 30, ?_, ?_⟩
    · walk_at "go"
      refine d_ite (fun c => ?_) (fun c => ?_)
      · have a1 := fmod_lo (d2.fdiv 2) (j := 30) (by decide)
        have a2 := fmod_hi (d2.fdiv 2) (j := 30) (by decide)
        walk_at "go"
        exact fun _ => ⟨_, rfl, by omega, by omega⟩
      · walk_at "go"
        exact fun _ => ⟨1, rfl, by omega, by omega⟩
    rintro env ⟨f, rfl, f0, f1⟩
    walk_at "go"
    refine ⟨fun env => ∃ f : Int, env = [.val (.lst (ns.map D.int)), .val (.int wh), .val (.int n), .val (.lst (zs.map D.int)), .val (.int kd), .val (.lst (ts.map D.int)), .no, .val (.int b), .no, .no, .val (.int f)] ∧ f ≠ 0 ∧ -30 ≤ f ∧ f ≤ 30, ?_, ?_⟩
    · walk_at "go"
      refine d_ite (fun c => ?_) (fun c => ?_)
      · walk_at "go"
        exact fun _ => ⟨-f, rfl, by omega, by omega, by omega⟩
      · walk_at "go"
        exact fun _ => ⟨f, rfl, by omega, by omega, by omega⟩
    clear f0 f1 f
    rintro env ⟨f, rfl, f0, f1, f2⟩
    have htl : ts.length ≤ 100000 := by omega
    walk_at "go"
    refine ⟨fun i z => ∃ t : Int, ts[i]? = some t ∧ z = some (.int (t * f)), ?_, ?_⟩
    · rintro i x hx
      obtain ⟨z, hz, rfl⟩ := map_at hx
      walk_at "go"
      exact fun _ => ⟨z, hz, rfl⟩
    intro ws hl2 hz
    obtain ⟨ms, e, hm, hm2⟩ := lc_map D.int (P := fun i v => ∃ t : Int, ts[i]? = some t ∧ v = t * f) hl2 (fun i z h => by
      obtain ⟨t, h1, h2⟩ := hz i z h
      exact ⟨_, h2, t, h1, rfl⟩)
    have em : ms = ts.map fun t => t * f := map_is (by rw [hm, List.length_map]) hm2
    have fb : f.natAbs < 2 ^ 5 := by omega
    rw [e]
    walk_at "go"
    exact q ms (b * f) (by rw [em, List.length_map]; exact ht) (Int.mul_ne_zero (by omega) f0) (fun t h => by
      rw [em] at h
      obtain ⟨s, hs, rfl⟩ := List.mem_map.mp h
      exact abs_up (abs_mul_lt (hb s hs) fb) (by decide)) (abs_up (abs_mul_lt (a := 60) (by omega) fb) (by decide))

theorem fn_law_factors (T : Txt LL K mg) (M : Mo2 cs sms cis mxs K mg) : Nonempty (Fn P w K mg base (d_law_factors.at_ K) 3 2 P_law_factors) := by
  obtain ⟨F_law_small⟩ := fn_law_small (P := P) (w := w) (base := base) T M
  obtain ⟨F_law_wide⟩ := fn_law_wide (P := P) (w := w) (base := base) T M
  refine Fn.of (T.d 39 (d := d_law_factors)) sc_law_factors rfl (fun _ _ _ _ _ _ us hl => match us, hl with | [_, _], _ => rfl) (fun ds Q ex h => ?_) (fun fd cdv A outer s H E hr => ⟨_, pdss_cons (pds_set (i := 2) sc_law_factors.nd rfl (by first | exact Or.inl rfl | exact Or.inr rfl) (pd_call F_law_small (hr.mono (by decide)) (by rfl) (T.g "_law_small") (T.k "_law_small") (takes_of rfl rfl rfl rfl) (pda_cons (pd_ix ix_list l_ixL (pd_var (pv 1)) (pd_int pe_int) (fun _ _ => rfl)) pda_nil))) (pdss_cons (pds_setN (i := 3) sc_law_factors.nd rfl (by first | exact Or.inl rfl | exact Or.inr rfl) (pdn_lst (pda_cons (pd_call F_law_small (hr.mono (by decide)) (by rfl) (T.g "_law_small") (T.k "_law_small") (takes_of rfl rfl rfl rfl) (pda_cons (pd_ix ix_list l_ixL (pd_var (pv 1)) (pd_int pe_int) (fun _ _ => rfl)) pda_nil)) (pda_cons (pd_call F_law_small (hr.mono (by decide)) (by rfl) (T.g "_law_small") (T.k "_law_small") (takes_of rfl rfl rfl rfl) (pda_cons (pd_ix ix_list l_ixL (pd_var (pv 1)) (pd_int pe_int) (fun _ _ => rfl)) pda_nil)) pda_nil)))) (pdss_cut (pds_if (pdt_cmp op_eq l_eq (pd_op op_modN l_I (pd_cb (fun h => pe_callTy call_int1 (by rfl) (T.f "int") (by decide +kernel) h) l_int (pda_cons (pd_ix ix_list l_ixL (pd_var (pv 1)) (pd_int pe_int) (fun _ _ => rfl)) pda_nil)) (pd_int pe_int)) (pd_int pe_int) (nomark _)) (pdss_cons (pds_set (i := 2) sc_law_factors.nd rfl (by first | exact Or.inl rfl | exact Or.inr rfl) (pd_call F_law_wide (hr.mono (by decide)) (by rfl) (T.g "_law_wide") (T.k "_law_wide") (takes_of rfl rfl rfl rfl) (pda_cons (pd_var (pv 0)) (pda_cons (pd_int pe_int) pda_nil)))) (pdss_one (pds_setN (i := 3) sc_law_factors.nd rfl (by first | exact Or.inl rfl | exact Or.inr rfl) (pdn_lst (pda_cons (pd_call F_law_wide (hr.mono (by decide)) (by rfl) (T.g "_law_wide") (T.k "_law_wide") (takes_of rfl rfl rfl rfl) (pda_cons (pd_var (pv 0)) (pda_cons (pd_int pe_int) pda_nil))) (pda_cons (pd_call F_law_wide (hr.mono (by decide)) (by rfl) (T.g "_law_wide") (T.k "_law_wide") (takes_of rfl rfl rfl rfl) (pda_cons (pd_var (pv 0)) (pda_cons (pd_int pe_int) pda_nil))) pda_nil)))))) pdss_nil) (pdss_cut (pds_if (pdt_cmp op_eq l_eq (pd_ixO ix_list (pv 3) (pd_int pe_int) (fun _ _ => rfl)) (pd_int pe_int) (nomark _)) (pdss_one (pds_put (i := 3) (kk := ⟨0, 0, 0, 0⟩) (fun h => pg_sub (pv 3) h set_list) (pd_int pe_int) (pd_int pe_int))) pdss_nil) (pdss_frz 3 (pdss_one (pds_ret (pd_tup (pda_cons (pd_var (pv 2)) (pda_cons (pd_var (pv 3)) pda_nil))))))))), fun ds Q ex h => ?_⟩)
  · obtain ⟨ns, zs, rfl, _⟩ := h
    rfl
  · obtain ⟨ns, zs, rfl, hl, hzl, hzb, q⟩ := h
    obtain ⟨d3, m3, _, x3⟩ := at_ex (l := zs) (k := 3) (by decide) (by omega)
    obtain ⟨d4, m4, _, x4⟩ := at_ex (l := zs) (k := 4) (by decide) (by omega)
    obtain ⟨d5, m5, _, x5⟩ := at_ex (l := zs) (k := 5) (by decide) (by omega)
    obtain ⟨d6, m6, _, x6⟩ := at_ex (l := zs) (k := 6) (by decide) (by omega)
    have b3 := hzb _ m3
    have b4 := hzb _ m4
    have b5 := hzb _ m5
    obtain ⟨b30, b31⟩ := b3
    obtain ⟨b40, b41⟩ := b4
    obtain ⟨b50, b51⟩ := b5
    walk_at "go"
    intro n n0 n1
    walk_at "go"
    intro p p0 p1
    walk_at "go"
    intro r r0 r1
    walk_at "go"
    refine ⟨fun env => ∃ n p r : Int, env = [.val (.lst (ns.map D.int)), .val (.lst (zs.map D.int)), .val (.int n), .own [.int p, .int r]] ∧ n.natAbs < 10 ^ 18 ∧ p.natAbs < 10 ^ 18 ∧ r.natAbs < 10 ^ 18, ?_, ?_⟩
    · walk_at "go"
      refine d_ite (fun c => ?_) (fun c => ?_)
      · walk_at "go"
        intro n nn
        walk_at "go"
        intro p pp
        walk_at "go"
        intro r rr
        walk_at "go"
        exact fun _ => ⟨n, p, r, rfl, nn, pp, rr⟩
      · walk_at "go"
        exact fun _ => ⟨n, p, r, rfl, by omega, by omega, by omega⟩
    rintro env ⟨n, p, r, rfl, h1, h2, h3⟩
    have i1 : atI [D.int p, D.int r] 1 = some (.int r) := atI_nat (j := 1) rfl
    walk_at "go"
    refine ⟨fun env => ∃ r : Int, env = [.val (.lst (ns.map D.int)), .val (.lst (zs.map D.int)), .val (.int n), .own [.int p, .int r]] ∧ r.natAbs < 10 ^ 18 ∧ r ≠ 0, ?_, ?_⟩
    · walk_at "go"
      refine d_ite (fun c => ?_) (fun c => ?_)
      · walk_at "go"
        exact fun _ => ⟨1, rfl, by decide, by decide⟩
      · have := of_decide_eq_false c
        walk_at "go"
        exact fun _ => ⟨r, rfl, h3, this⟩
    rintro env ⟨r, rfl, h3, h4⟩
    walk_at "go"
    exact q n p r h1 h2 h3 h4

theorem fn_law_is_ratio (T : Txt LL K mg) (M : Mo2 cs sms cis mxs K mg) : Nonempty (Fn P w K mg base (d_law_is_ratio.at_ K) 2 2 P_law_is_ratio) := by
  obtain ⟨F_law_is_integer⟩ := fn_law_is_integer (P := P) (w := w) (base := base) T M
  refine Fn.of (T.d 40 (d := d_law_is_ratio)) sc_law_is_ratio rfl (fun _ _ _ _ _ _ us hl => match us, hl with | [_, _], _ => rfl) (fun ds Q ex h => ?_) (fun fd cdv A outer s H E hr => ⟨_, pdss_cons (pds_if (PDW.pt (pdw_or (pdt_not (pdt_val (pd_isi (cr := (.own 0)) M.isi M.cls (fun c h => by cases h; decide) (fun h => pe_callB call_isi (by rfl) (T.f "isinstance") (by decide +kernel) (pa_cons h (pa_cons (pe_glob (v := .ref (He.ga K "Ratio")) rfl (T.g "Ratio") rfl) pa_nil))) (pd_var (pv 0))))) (pdw_or (pdt_not (pdt_val (pd_call F_law_is_integer (hr.mono (by decide)) (by rfl) (T.g "_law_is_integer") (T.k "_law_is_integer") (takes_of rfl rfl rfl rfl) (pda_cons (pd_fld (c := 0) (k := 0) (T.cl "Ratio") (T.no "Ratio" "top") fk_Ratio_top (pd_var (pv 0))) pda_nil)))) (pdw_or1 (pdt_not (pdt_val (pd_call F_law_is_integer (hr.mono (by decide)) (by rfl) (T.g "_law_is_integer") (T.k "_law_is_integer") (takes_of rfl rfl rfl rfl) (pda_cons (pd_fld (c := 0) (k := 1) (T.cl "Ratio") (T.no "Ratio" "bottom") fk_Ratio_bottom (pd_var (pv 0))) pda_nil)))))))) (pdss_one (pds_ret (pd_bl pe_bl))) pdss_nil) (pdss_one (pds_ret (pd_and (pd_cmp op_eq l_eq (pd_fld (c := 0) (k := 0) (T.cl "Ratio") (T.no "Ratio" "top") fk_Ratio_top (pd_var (pv 0))) (pd_ix ix_tup l_ixT (pd_var (pv 1)) (pd_int pe_int) (fun _ _ => rfl)) (nomark _)) (pd_one (pd_cmp op_eq l_eq (pd_fld (c := 0) (k := 1) (T.cl "Ratio") (T.no "Ratio" "bottom") fk_Ratio_bottom (pd_var (pv 0))) (pd_ix ix_tup l_ixT (pd_var (pv 1)) (pd_int pe_int) (fun _ _ => rfl)) (nomark _)))))), fun ds Q ex h => ?_⟩)
  · obtain ⟨t, b, rfl, _⟩ := h
    rfl
  · obtain ⟨t, b, rfl, q⟩ := h
    have e1 : decide (t = t) = true := decide_eq_true rfl
    have e2 : decide (b = b) = true := decide_eq_true rfl
    walk_at "go"
    rw [e1]
    walk_at "go"
    rw [e2]
    exact q

theorem fn_law_is (T : Txt LL K mg) (M : Mo2 cs sms cis mxs K mg) : Nonempty (Fn P w K mg base (d_law_is.at_ K) 2 2 P_law_is) := by
  obtain ⟨F_law_is_integer⟩ := fn_law_is_integer (P := P) (w := w) (base := base) T M
  refine Fn.of (T.d 41 (d := d_law_is)) sc_law_is rfl (fun _ _ _ _ _ _ us hl => match us, hl with | [_, _], _ => rfl) (fun ds Q ex h => ?_) (fun fd cdv A outer s H E hr => ⟨_, pdss_cons (pds_if (PDW.pt (pdw_or (pdt_not (pdt_val (pd_isi (cr := (.own 1)) M.isi M.cls (fun c h => by cases h; decide) (fun h => pe_callB call_isi (by rfl) (T.f "isinstance") (by decide +kernel) (pa_cons h (pa_cons (pe_glob (v := .ref (He.ga K "Vector")) rfl (T.g "Vector") rfl) pa_nil))) (pd_var (pv 0))))) (pdw_or (pdt_not (pdt_val (pd_isi (cr := .tuple) M.isi M.cls (fun c h => nomatch h) (fun h => pe_callB call_isi (by rfl) (T.f "isinstance") (by decide +kernel) (pa_cons h (pa_cons (pe_bltn (v := .ty "tuple") (by rfl) (T.f "tuple") (by decide +kernel) rfl) pa_nil))) (pd_fld (c := 1) (k := 0) (T.cl "Vector") (T.no "Vector" "tops") fk_Vector_tops (pd_var (pv 0)))))) (pdw_or1 (pdt_cmp op_ne l_ne (pd_cb (fun h => pe_callB call_len (by rfl) (T.f "len") (by decide +kernel) h) l_len (pda_cons (pd_fld (c := 1) (k := 0) (T.cl "Vector") (T.no "Vector" "tops") fk_Vector_tops (pd_var (pv 0))) pda_nil)) (pd_cb (fun h => pe_callB call_len (by rfl) (T.f "len") (by decide +kernel) h) l_len (pda_cons (pd_ix ix_tup l_ixT (pd_var (pv 1)) (pd_int pe_int) (fun _ _ => rfl)) pda_nil)) (nomark _)))))) (pdss_one (pds_ret (pd_bl pe_bl))) pdss_nil) (pdss_cons (pds_for (passes_of rfl) rfl (pdi_range1 rfl (T.f "range") (pda_cons (pd_cb (fun h => pe_callB call_len (by rfl) (T.f "len") (by decide +kernel) h) l_len (pda_cons (pd_ix ix_tup l_ixT (pd_var (pv 1)) (pd_int pe_int) (fun _ _ => rfl)) pda_nil)) pda_nil)) (pdg_name (pg_name (i := 2) sc_law_is.nd rfl (by first | exact Or.inl rfl | exact Or.inr rfl))) (pdss_one (pds_if (PDW.pt (pdw_or (pdt_not (pdt_val (pd_call F_law_is_integer (hr.mono (by decide)) (by rfl) (T.g "_law_is_integer") (T.k "_law_is_integer") (takes_of rfl rfl rfl rfl) (pda_cons (pd_ix ix_tup l_ixT (pd_fld (c := 1) (k := 0) (T.cl "Vector") (T.no "Vector" "tops") fk_Vector_tops (pd_var (pv 0))) (pd_var (pv 2)) (fun _ _ => rfl)) pda_nil)))) (pdw_or1 (pdt_cmp op_ne l_ne (pd_ix ix_tup l_ixT (pd_fld (c := 1) (k := 0) (T.cl "Vector") (T.no "Vector" "tops") fk_Vector_tops (pd_var (pv 0))) (pd_var (pv 2)) (fun _ _ => rfl)) (pd_ix ix_list l_ixL (pd_ix ix_tup l_ixT (pd_var (pv 1)) (pd_int pe_int) (fun _ _ => rfl)) (pd_var (pv 2)) (fun _ _ => rfl)) (nomark _))))) (pdss_one (pds_ret (pd_bl pe_bl))) pdss_nil))) (pdss_one (pds_ret (pd_and (pd_call F_law_is_integer (hr.mono (by decide)) (by rfl) (T.g "_law_is_integer") (T.k "_law_is_integer") (takes_of rfl rfl rfl rfl) (pda_cons (pd_fld (c := 1) (k := 1) (T.cl "Vector") (T.no "Vector" "bottom") fk_Vector_bottom (pd_var (pv 0))) pda_nil)) (pd_one (pd_cmp op_eq l_eq (pd_fld (c := 1) (k := 1) (T.cl "Vector") (T.no "Vector" "bottom") fk_Vector_bottom (pd_var (pv 0))) (pd_ix ix_tup l_ixT (pd_var (pv 1)) (pd_int pe_int) (fun _ _ => rfl)) (nomark _))))))), fun ds Q ex h => ?_⟩)
  · obtain ⟨ts, b, rfl, _⟩ := h
    rfl
  · obtain ⟨ts, b, rfl, hl, q⟩ := h
    have e1 : ∀ t : Int, (!decide (t = t)) = false := fun t => by rw [decide_eq_true rfl]; rfl
    have e2 : decide (b = b) = true := decide_eq_true rfl
    have e3 : (!decide ((((ts.map D.int).length : Nat) : Int) = (((ts.map D.int).length : Nat) : Int))) = false := by rw [decide_eq_true rfl]; rfl
    have hml : (ts.map D.int).length = ts.length := List.length_map ..
    walk_at "go"
    rw [e3]
    walk_at "go"
    refine ⟨fun i env => ∃ v : Sl, env = [.val (V ts b), .val (lowD ts b), v], fun _ => ⟨_, rfl⟩, ?_, ?_⟩
    · rintro i x env hx ⟨v, rfl⟩
      obtain ⟨hi, rfl⟩ := rng_at hx
      rw [Int.toNat_natCast, hml] at hi
      obtain ⟨t, _, ht, hx⟩ := at_ex (l := ts) (k := (0 : Int) + (i : Int)) (by omega) (by omega)
      have e4 := e1 t
      walk_at "go"
      rw [e4]
      walk_at "go"
      exact fun _ => ⟨_, rfl⟩
    rintro env ⟨v, rfl⟩
    walk_at "go"
    rw [e2]
    exact q

theorem fn_law_made (T : Txt LL K mg) (M : Mo2 cs sms cis mxs K mg) : Nonempty (Fn P w K mg base (d_law_made.at_ K) 6 1 P_law_made) := by
  obtain ⟨⟨F_Vector_init⟩, ⟨F_Vector_init_d⟩⟩ := fn_Vector_init (P := P) (w := w) (base := base) T M
  refine Fn.of (T.d 43 (d := d_law_made)) sc_law_made rfl (fun _ _ _ _ _ _ us hl => match us, hl with | [_], _ => rfl) (fun ds Q ex h => ?_) (fun fd cdv A outer s H E hr => ⟨_, pdss_cons (pds_setN (i := 1) sc_law_made.nd rfl (by first | exact Or.inl rfl | exact Or.inr rfl) (pdn_cb (fun h => pe_callTy call_list_of (by rfl) (T.f "list") (by decide +kernel) h) l_list (pda_cons (pd_ix ix_tup l_ixT (pd_var (pv 0)) (pd_int pe_int) (fun _ _ => rfl)) pda_nil))) (pdss_cons (pds_set (i := 2) sc_law_made.nd rfl (by first | exact Or.inl rfl | exact Or.inr rfl) (pd_lend 1 (pd_make (c := 1) (T.mkk "Vector") F_Vector_init (fun _ _ => .nil) (hr.mono (by decide)) (by rfl) (T.g "Vector") (takes_of rfl rfl rfl rfl) (pda_cons (pd_var (pv 1)) (pda_cons (pd_ix ix_tup l_ixT (pd_var (pv 0)) (pd_int pe_int) (fun _ _ => rfl)) pda_nil))))) (pdss_cons (pds_if (pdt_lend 1 (pdt_cmp (op_neD (hr.units)) l_neD (pd_var (pv 1)) (pd_ix ix_tup l_ixT (pd_var (pv 0)) (pd_int pe_int) (fun _ _ => rfl)) (nomark _))) (pdss_one (pds_ret (pd_non pe_non))) pdss_nil) (pdss_cons (pds_put (i := 1) (kk := ⟨0, 0, 0, 0⟩) (fun h => pg_sub (pv 1) h set_list) (pd_op op_add l_I0 (pd_ixO ix_list (pv 1) (pd_int pe_int) (fun _ _ => rfl)) (pd_int pe_int)) (pd_int pe_int)) (pdss_cons (pds_app (i := 1) (te := id) (p1 := ⟨0, 0, 0, 0⟩) (p2 := ⟨0, 0, 0, 0⟩) (p3 := ⟨0, 0, 0, 0⟩) (x := "") (fun h => pe_bm PySem.F.plainAttrs_list PySem.F.slot_list_append PySem.F.type_list_append mt_append (pv 1) (pa_cons h pa_nil)) (pd_int pe_int)) (pdss_one (pds_ret (pd_var (pv 2)))))))), fun ds Q ex h => ?_⟩)
  · obtain ⟨ts, b, rfl, _⟩ := h
    rfl
  · obtain ⟨ts, b, rfl, hn, hl, hb, hs, q⟩ := h
    have o1 := okD_lst ts
    have e1 : (!eqD (.lst (ts.map D.int)) (.lst (ts.map D.int))) = false := by rw [eqD_refl o1]; rfl
    obtain ⟨t, r, rfl⟩ : ∃ t r, ts = t :: r := match ts, hn with | t :: r, _ => ⟨t, r, rfl⟩
    have i0 : atI ((t :: r).map D.int) 0 = some (.int t) := atI_nat (j := 0) rfl
    walk_at "go"
    refine ⟨_, t :: r, b, rfl, .inl rfl, hl, fun z => absurd z hn, fun _ z => absurd z hb, fun _ _ => ⟨hs, .vec, ?_⟩⟩
    walk_at "go"
    rw [e1]
    have ix0 : ixN ((t :: r).map D.int).length 0 = some 0 := by
      unfold ixN
      rw [if_pos (by decide), if_pos (by rw [List.length_map, List.length_cons]; omega)]
      rfl
    have hl3 : (((t :: r).map D.int).set 0 (.int (t + 1))).length < sizeLine := by
      rw [List.length_set, List.length_map]
      exact sz100 (by omega)
    walk_at "go"
    exact q
end
end K02

namespace K02
open PySem PySem.Spec PyProof.Rows L2 LR DL
section
variable {P : Program} {w : World} {K : PySem.W.Frag} {mg : Str → Option Value} {base : Heap}
local macro_rules | `(tactic| walk_at "side") => `(tactic| first | with_reducible assumption | exact Bsame.mk (by with_reducible rfl) | omega | rfl | assumption | exact ⟨_, rfl⟩ | exact mulL (by omega) (by omega) | exact mulR (by omega) (by omega) | exact mulF (by decide) (by decide) | exact ⟨by decide, by decide +kernel⟩ | decide | exact Nat.le_of_ble_eq_true rfl | (simp only [List.length_cons, List.length_nil, List.length_map, List.nil_append, List.cons_append, sizeLine_eq]; omega) | (simp only [List.map_cons, List.map_nil, List.nil_append, List.cons_append]; decide +kernel))
local macro_rules | `(tactic| walk_at "go") => `(tactic| repeat (first
  | refine ⟨_, rfl, ?_⟩
  | refine ⟨_, _, rfl, rfl, ?_⟩
  | refine ⟨_, _, rfl, ?_⟩
  | refine ⟨_, _, _, rfl, rfl, ?_⟩
  | refine ⟨_, _, _, rfl, ?_⟩
  | refine ⟨_, _, _, _, rfl, rfl, ?_⟩
  | refine ⟨_, _, _, _, rfl, ?_⟩
  | refine ⟨_, _, rfl, by assumption, ?_⟩
  | refine ⟨_, _, _, rfl, rfl, rfl, ?_⟩
  | refine ⟨_, _, _, rfl, rfl, by assumption, ?_⟩
  | refine ⟨_, _, _, rfl, rfl, by walk_at "side", by assumption, ?_⟩
  | refine ⟨_, _, _, rfl, rfl, by walk_at "side", rfl, ?_⟩
  | refine ⟨_, _, _, rfl, rfl, rfl, by assumption, ?_⟩
  | refine .inl ⟨_, rfl, ?_⟩
  | refine .inr ⟨_, rfl, ?_⟩
  | refine .inr (.inl ⟨_, rfl, ?_⟩)
  | refine .inr (.inr ⟨_, rfl, ?_⟩)
  | refine ⟨_, .inl rfl, ?_⟩
  | refine ⟨_, .inr rfl, ?_⟩
  | refine .inr ⟨_, _, rfl, ?_⟩
  | refine .inl ⟨_, _, rfl, ?_⟩
  | refine And.intro (by walk_at "side") ?_))


theorem filt_is {ts : List Int} {zs : List (Option D)} (hl : zs.length = ts.length) (h : ∀ (i : Nat) z, zs[i]? = some z → ∃ t, ts[i]? = some t ∧ z = if (t != 0) = true then some (D.int t) else none) : zs.filterMap id = (ts.filter (· != 0)).map D.int := by
  have e : zs = ts.map fun t => if (t != 0) = true then some (D.int t) else none := map_is hl h
  rw [e]
  clear h hl e
  induction ts with
  | nil => rfl
  | cons t ts ih =>
    rw [List.map_cons, List.filter_cons]
    cases c : (t != 0) with
    | true => simp only [if_true, List.filterMap_cons, id, List.map_cons]; rw [ih]
    | false => simp only [Bool.false_eq_true, if_false, List.filterMap_cons, id]; exact ih
theorem any_filt (ts : List Int) : (!ts.any (· != 0)) = decide (ts.filter (· != 0) = []) := by
  induction ts with
  | nil => rfl
  | cons t ts ih =>
    rw [List.any_cons, List.filter_cons]
    cases c : (t != 0) with
    | true => simp
    | false => simp only [Bool.false_or, Bool.false_eq_true, if_false]; exact ih
theorem mulT_bd {n m : Nat} {ts : List Int} {p : Int} (h : Bd n ts) (hp : p.natAbs < 2 ^ m) : Bd (n + m) (mulT ts p) := fun t ht => by
  unfold mulT at ht
  obtain ⟨s, hs, rfl⟩ := List.mem_map.mp ht
  exact abs_mul_lt (h s hs) hp
theorem gs_nT (p : Int) {q : Int} (h : q ≠ 0) : gs [p] q * nT p q = p ∧ gs [p] q * nB p q = q := by
  constructor
  · obtain ⟨s, hs⟩ := (gs_dvds [p] q).1 p List.mem_cons_self
    unfold nT
    rw [congrArg (fun z => z.fdiv (gs [p] q)) hs, fdiv_of (gs_ne h), ← hs]
  · exact lB_mul [p] h
theorem mul_low (ts : List Int) {b p q : Int} (hb : b ≠ 0) (hq : q ≠ 0) : lT (mulT ts (nT p q)) (b * nB p q) = lT (mulT ts p) (b * q) ∧ lB (mulT ts (nT p q)) (b * nB p q) = lB (mulT ts p) (b * q) := by
  obtain ⟨h1, h2⟩ := gs_nT p hq
  have hz := gs_ne (ts := [p]) hq
  have hn : nB p q ≠ 0 := Int.ne_of_gt (nB_pos hq)
  obtain ⟨k1, k2⟩ := low_scale (ts := mulT ts (nT p q)) (b := b * nB p q) (z := gs [p] q) (Int.mul_ne_zero hb hn) hz
  have e1 : (mulT ts (nT p q)).map (fun t => gs [p] q * t) = mulT ts p := by
    unfold mulT
    rw [List.map_map]
    refine List.map_congr_left fun t _ => ?_
    show gs [p] q * (t * nT p q) = t * p
    rw [← Int.mul_assoc, Int.mul_comm (gs [p] q) t, Int.mul_assoc, h1]
  have e2 : gs [p] q * (b * nB p q) = b * q := by rw [← Int.mul_assoc, Int.mul_comm (gs [p] q) b, Int.mul_assoc, h2]
  rw [e1, e2] at k1 k2
  exact ⟨k1.symm, k2.symm⟩
def P_law_alone : Prm := fun ds Q _ => ∃ (ts : List Int) (b n p q : Int), ds = [V ts b, lowD ts b, .int n, .lst [.int p, .int q]] ∧ Vec 70 ts b ∧ ts.length ≤ 30 ∧ n.natAbs < 2 ^ 60 ∧ p.natAbs < 2 ^ 60 ∧ q.natAbs < 2 ^ 60 ∧ q ≠ 0 ∧ Q (.bl true)
def askT (r : Int) (ts : List Int) (b : Int) (us : List Int) (c : Int) : D := if r = 0 then V (lT (addT ts b us c) (b * c)) (lB (addT ts b us c) (b * c)) else if r = 1 then V (lT (addT ts b (negT us) c) (b * c)) (lB (addT ts b (negT us) c) (b * c)) else R (nT (dotT ts us) (b * c)) (nB (dotT ts us) (b * c))
def P_law_asked : Prm := fun ds Q _ => ∃ (ts : List Int) (b : Int) (us : List Int) (c r : Int), ds = [V ts b, V us c, .int r] ∧ Vec 1000 ts b ∧ Vec 1000 us c ∧ 0 ≤ r ∧ r ≤ 2 ∧ (ts.length = us.length → Q (.tup [askT r ts b us c, .lst []])) ∧
  (ts.length ≠ us.length → Q (.tup [.non, .lst [.int ts.length, .int us.length, .str "sizes", .bl true, .bl true, .bl false]]))
def P_law_pair : Prm := fun ds Q _ => ∃ (ts : List Int) (b : Int) (us : List Int) (c : Int), ds = [V ts b, V us c, lowD ts b, lowD us c] ∧ Vec 70 ts b ∧ Vec 70 us c ∧ ts.length ≤ 30 ∧ us.length ≤ 30 ∧ Q (.bl true)

theorem fn_law_alone (T : Txt LL K mg) (M : Mo2 cs sms cis mxs K mg) : Nonempty (Fn P w K mg base (d_law_alone.at_ K) 11 4 P_law_alone) := by
  have N_Ratio_mul := ni_Ratio_mul (P := P) (w := w) (base := base) T M
  obtain ⟨F_law_truth⟩ := fn_law_truth (P := P) (w := w) (base := base) T M
  obtain ⟨F_Vector_is_zero⟩ := fn_Vector_is_zero (P := P) (w := w) (base := base) T M
  obtain ⟨F_Vector_len⟩ := fn_Vector_len (P := P) (w := w) (base := base) T M
  obtain ⟨F_law_is_ratio⟩ := fn_law_is_ratio (P := P) (w := w) (base := base) T M
  obtain ⟨F_law_ratio⟩ := fn_law_ratio (P := P) (w := w) (base := base) T M
  obtain ⟨F_Vector_getitem⟩ := fn_Vector_getitem (P := P) (w := w) (base := base) T M
  obtain ⟨F_law_is⟩ := fn_law_is (P := P) (w := w) (base := base) T M
  obtain ⟨F_Vector_neg⟩ := fn_Vector_neg (P := P) (w := w) (base := base) T M
  obtain ⟨F_law_low⟩ := fn_law_low (P := P) (w := w) (base := base) T M
  obtain ⟨F_Vector_rmul⟩ := fn_Vector_rmul (P := P) (w := w) (base := base) T M
  obtain ⟨F_Vector_mul⟩ := fn_Vector_mul (P := P) (w := w) (base := base) T M
  obtain ⟨⟨F_Ratio_init⟩, ⟨F_Ratio_init_d⟩⟩ := fn_Ratio_init (P := P) (w := w) (base := base) T M
  obtain ⟨F_Vector_eq⟩ := fn_Vector_eq (P := P) (w := w) (base := base) T M
  obtain ⟨⟨F_Poly_init⟩, ⟨F_Poly_init_d⟩⟩ := fn_Poly_init (P := P) (w := w) (base := base) T M
  obtain ⟨F_Poly_eq⟩ := fn_Poly_eq (P := P) (w := w) (base := base) T M
  obtain ⟨⟨F_Vector_init⟩, ⟨F_Vector_init_d⟩⟩ := fn_Vector_init (P := P) (w := w) (base := base) T M
  refine Fn.of (T.d 44 (d := d_law_alone)) sc_law_alone rfl (fun _ _ _ _ _ _ us hl => match us, hl with | [_, _, _, _], _ => rfl) (fun ds Q ex h => ?_) (fun fd cdv A outer s H E hr => ⟨_, pdss_cons (pds_if (PDW.pt (pdw_or (pdt_cmp op_ne l_ne (pd_cb (fun h => pe_callB (call_lenO (T.own "Vector" "__len__") (T.fnn "Vector" "__len__") F_Vector_len.ok (hr.mono (by decide)) F_Vector_len.bd passL) (by rfl) (T.f "len") (by decide +kernel) h) (l_lenO (c := 1) F_Vector_len.len) (pda_cons (pd_var (pv 0)) pda_nil)) (pd_cb (fun h => pe_callB call_len (by rfl) (T.f "len") (by decide +kernel) h) l_len (pda_cons (pd_ix ix_tup l_ixT (pd_var (pv 1)) (pd_int pe_int) (fun _ _ => rfl)) pda_nil)) (nomark _)) (pdw_or1 (pdt_not (pdt_val (pd_call F_law_truth (hr.mono (by decide)) (by rfl) (T.g "_law_truth") (T.k "_law_truth") (takes_of rfl rfl rfl rfl) (pda_cons (pd_prop (c := 1) (pd_var (pv 0)) (T.cl "Vector") (T.pr "Vector" "is_zero") F_Vector_is_zero (hr.mono (by decide))) (pda_cons (pd_cmp (op_eqD (hr.units)) l_eqD (pd_new (pdn_lc (own := [("top", 4)]) rfl sc_law_alone.nd (pdi_list (pd_ix ix_tup l_ixT (pd_var (pv 1)) (pd_int pe_int) (fun _ _ => rfl))) (blkOk_by (N := ["v", "low", "number", "pair", "top", "k", "due", "r", "other", "p", "twin"]) (sc := defScope s_law_alone) (by decide +kernel)) (by decide) (fun _ _ _ _ _ => (pdg_name (pg_name (i := 4) sc_law_alone.nd rfl (Or.inl rfl)))) (fun _ _ _ _ _ => (pdts_one (pdt_cmp op_ne l_ne (pd_var (pv 4)) (pd_int pe_int) (nomark _)))) (fun _ _ _ _ _ => pd_var (pv 4)))) (pd_new (pdn_lst pda_nil)) (nomark _)) pda_nil)))))))) (pdss_one (pds_ret (pd_bl pe_bl))) pdss_nil) (pdss_cons (pds_for (passes_of rfl) rfl (pdi_range1 rfl (T.f "range") (pda_cons (pd_cb (fun h => pe_callB call_len (by rfl) (T.f "len") (by decide +kernel) h) l_len (pda_cons (pd_ix ix_tup l_ixT (pd_var (pv 1)) (pd_int pe_int) (fun _ _ => rfl)) pda_nil)) pda_nil)) (pdg_name (pg_name (i := 5) sc_law_alone.nd rfl (by first | exact Or.inl rfl | exact Or.inr rfl))) (pdss_one (pds_if (pdt_not (pdt_val (pd_call F_law_is_ratio (hr.mono (by decide)) (by rfl) (T.g "_law_is_ratio") (T.k "_law_is_ratio") (takes_of rfl rfl rfl rfl) (pda_cons (pd_ixC (c := 1) (T.own "Vector" "__getitem__") (fn_in (T.d 12 (d := d_Vector_getitem))) (T.fnn "Vector" "__getitem__") F_Vector_getitem (hr.mono (by decide)) (pd_var (pv 0)) (pd_var (pv 5)) (fun _ _ => by with_unfolding_all rfl)) (pda_cons (pd_call F_law_ratio (hr.mono (by decide)) (by rfl) (T.g "_law_ratio") (T.k "_law_ratio") (takes_of rfl rfl rfl rfl) (pda_cons (pd_ix ix_list l_ixL (pd_ix ix_tup l_ixT (pd_var (pv 1)) (pd_int pe_int) (fun _ _ => rfl)) (pd_var (pv 5)) (fun _ _ => rfl)) (pda_cons (pd_ix ix_tup l_ixT (pd_var (pv 1)) (pd_int pe_int) (fun _ _ => rfl)) pda_nil))) pda_nil))))) (pdss_one (pds_ret (pd_bl pe_bl))) pdss_nil))) (pdss_cons (pds_if (pdt_not (pdt_val (pd_call F_law_is (hr.mono (by decide)) (by rfl) (T.g "_law_is") (T.k "_law_is") (takes_of rfl rfl rfl rfl) (pda_cons (pd_un (un_negO (T.own "Vector" "__neg__") (T.fnn "Vector" "__neg__") F_Vector_neg.ok (hr.mono (by decide)) F_Vector_neg.bd passL) (l_unO (c := 1) F_Vector_neg.len) (pd_var (pv 0))) (pda_cons (pd_tup (pda_cons (pd_new (pdn_lc (own := [("top", 4)]) rfl sc_law_alone.nd (pdi_list (pd_ix ix_tup l_ixT (pd_var (pv 1)) (pd_int pe_int) (fun _ _ => rfl))) (blkOk_by (N := ["v", "low", "number", "pair", "top", "k", "due", "r", "other", "p", "twin"]) (sc := defScope s_law_alone) (by decide +kernel)) (by decide) (fun _ _ _ _ _ => (pdg_name (pg_name (i := 4) sc_law_alone.nd rfl (Or.inl rfl)))) (fun _ _ _ _ _ => pdts_nil) (fun _ _ _ _ _ => pd_un un_neg l_U (pd_var (pv 4))))) (pda_cons (pd_ix ix_tup l_ixT (pd_var (pv 1)) (pd_int pe_int) (fun _ _ => rfl)) pda_nil))) pda_nil))))) (pdss_one (pds_ret (pd_bl pe_bl))) pdss_nil) (pdss_cons (pds_set (i := 6) sc_law_alone.nd rfl (by first | exact Or.inl rfl | exact Or.inr rfl) (pd_call F_law_low (hr.mono (by decide)) (by rfl) (T.g "_law_low") (T.k "_law_low") (takes_of rfl rfl rfl rfl) (pda_cons (pd_new (pdn_lc (own := [("top", 4)]) rfl sc_law_alone.nd (pdi_list (pd_ix ix_tup l_ixT (pd_var (pv 1)) (pd_int pe_int) (fun _ _ => rfl))) (blkOk_by (N := ["v", "low", "number", "pair", "top", "k", "due", "r", "other", "p", "twin"]) (sc := defScope s_law_alone) (by decide +kernel)) (by decide) (fun _ _ _ _ _ => (pdg_name (pg_name (i := 4) sc_law_alone.nd rfl (Or.inl rfl)))) (fun _ _ _ _ _ => pdts_nil) (fun _ _ _ _ _ => pd_op op_mulZ l_I (pd_var (pv 4)) (pd_var (pv 2))))) (pda_cons (pd_ix ix_tup l_ixT (pd_var (pv 1)) (pd_int pe_int) (fun _ _ => rfl)) pda_nil)))) (pdss_cons (pds_if (PDW.pt (pdw_or (pdt_not (pdt_val (pd_call F_law_is (hr.mono (by decide)) (by rfl) (T.g "_law_is") (T.k "_law_is") (takes_of rfl rfl rfl rfl) (pda_cons (pd_mixO (op := .Mult) (c := 1) (M.mx "mul" [0, 1]) (by decide) (by rw [dm_Mult]; exact T.own "Vector" "__mul__") (T.fnn "Vector" "__mul__") F_Vector_mul (hr.mono (by decide)) (takes_of rfl rfl rfl rfl) (pd_var (pv 0)) (pd_var (pv 2))) (pda_cons (pd_var (pv 6)) pda_nil))))) (pdw_or1 (pdt_not (pdt_val (pd_call F_law_is (hr.mono (by decide)) (by rfl) (T.g "_law_is") (T.k "_law_is") (takes_of rfl rfl rfl rfl) (pda_cons (pd_refI (c := 1) (M.mx "mul" [0, 1]) (by decide) (by rw [dr_mul]; exact T.own "Vector" "__rmul__") (T.fnn "Vector" "__rmul__") F_Vector_rmul (hr.mono (by decide)) (takes_of rfl rfl rfl rfl) (pd_var (pv 2)) (pd_var (pv 0))) (pda_cons (pd_var (pv 6)) pda_nil)))))))) (pdss_one (pds_ret (pd_bl pe_bl))) pdss_nil) (pdss_cons (pds_set (i := 6) sc_law_alone.nd rfl (by first | exact Or.inl rfl | exact Or.inr rfl) (pd_call F_law_low (hr.mono (by decide)) (by rfl) (T.g "_law_low") (T.k "_law_low") (takes_of rfl rfl rfl rfl) (pda_cons (pd_new (pdn_lc (own := [("top", 4)]) rfl sc_law_alone.nd (pdi_list (pd_ix ix_tup l_ixT (pd_var (pv 1)) (pd_int pe_int) (fun _ _ => rfl))) (blkOk_by (N := ["v", "low", "number", "pair", "top", "k", "due", "r", "other", "p", "twin"]) (sc := defScope s_law_alone) (by decide +kernel)) (by decide) (fun _ _ _ _ _ => (pdg_name (pg_name (i := 4) sc_law_alone.nd rfl (Or.inl rfl)))) (fun _ _ _ _ _ => pdts_nil) (fun _ _ _ _ _ => pd_op op_mulZ l_I (pd_var (pv 4)) (pd_ix ix_list l_ixL (pd_var (pv 3)) (pd_int pe_int) (fun _ _ => rfl))))) (pda_cons (pd_op op_mulZ l_I (pd_ix ix_tup l_ixT (pd_var (pv 1)) (pd_int pe_int) (fun _ _ => rfl)) (pd_ix ix_list l_ixL (pd_var (pv 3)) (pd_int pe_int) (fun _ _ => rfl))) pda_nil)))) (pdss_cons (pds_set (i := 7) sc_law_alone.nd rfl (by first | exact Or.inl rfl | exact Or.inr rfl) (pd_make (c := 0) (T.mkk "Ratio") F_Ratio_init (fun _ _ => .nil) (hr.mono (by decide)) (by rfl) (T.g "Ratio") (takes_of rfl rfl rfl rfl) (pda_cons (pd_ix ix_list l_ixL (pd_var (pv 3)) (pd_int pe_int) (fun _ _ => rfl)) (pda_cons (pd_ix ix_list l_ixL (pd_var (pv 3)) (pd_int pe_int) (fun _ _ => rfl)) pda_nil)))) (pdss_cons (pds_if (PDW.pt (pdw_or (pdt_not (pdt_val (pd_call F_law_is (hr.mono (by decide)) (by rfl) (T.g "_law_is") (T.k "_law_is") (takes_of rfl rfl rfl rfl) (pda_cons (pd_mixO (op := .Mult) (c := 1) (M.mx "mul" [0, 1]) (by decide) (by rw [dm_Mult]; exact T.own "Vector" "__mul__") (T.fnn "Vector" "__mul__") F_Vector_mul (hr.mono (by decide)) (takes_of rfl rfl rfl rfl) (pd_var (pv 0)) (pd_var (pv 7))) (pda_cons (pd_var (pv 6)) pda_nil))))) (pdw_or1 (pdt_not (pdt_val (pd_call F_law_is (hr.mono (by decide)) (by rfl) (T.g "_law_is") (T.k "_law_is") (takes_of rfl rfl rfl rfl) (pda_cons (pd_refN (op := .Mult) (c := 1) (d := 0) (M.mx "mul" [0, 1]) (by decide) (by decide) (by decide) (by rw [dm_Mult]; exact T.own "Ratio" "__mul__") (T.fnn "Ratio" "__mul__") N_Ratio_mul (hr.mono (by decide)) (by rw [dr_Mult]; exact T.own "Vector" "__rmul__") (T.fnn "Vector" "__rmul__") F_Vector_rmul (hr.mono (by decide)) (takes_of rfl rfl rfl rfl) (pd_var (pv 7)) (pd_var (pv 0))) (pda_cons (pd_var (pv 6)) pda_nil)))))))) (pdss_one (pds_ret (pd_bl pe_bl))) pdss_nil) (pdss_cons (pds_for (passes_of rfl) rfl (pdi_list (pd_new (pdn_lst (pda_cons (pd_new (pdn_cb (fun h => pe_callTy call_list_of (by rfl) (T.f "list") (by decide +kernel) h) l_list (pda_cons (pd_ix ix_tup l_ixT (pd_var (pv 1)) (pd_int pe_int) (fun _ _ => rfl)) pda_nil))) (pda_cons (pd_cb (fun h => pe_callTy call_tuple_of (by rfl) (T.f "tuple") (by decide +kernel) h) l_tuple (pda_cons (pd_ix ix_tup l_ixT (pd_var (pv 1)) (pd_int pe_int) (fun _ _ => rfl)) pda_nil)) (pda_cons (pd_var (pv 7)) (pda_cons (pd_int pe_int) (pda_cons (pd_non pe_non) pda_nil)))))))) (pdg_name (pg_name (i := 8) sc_law_alone.nd rfl (by first | exact Or.inl rfl | exact Or.inr rfl))) (pdss_one (pds_if (PDW.pt (pdw_or (pdt_not (pdt_val (pd_call F_law_truth (hr.mono (by decide)) (by rfl) (T.g "_law_truth") (T.k "_law_truth") (takes_of rfl rfl rfl rfl) (pda_cons (pd_cmp (op_eqO (T.own "Vector" "__eq__") (T.fnn "Vector" "__eq__") F_Vector_eq.ok (hr.mono (by decide)) F_Vector_eq.bd passL) (l_cmpO (c := 1) M.isi M.cls (by decide) F_Vector_eq.len) (pd_var (pv 0)) (pd_var (pv 8)) (nomark _)) (pda_cons (pd_bl pe_bl) pda_nil))))) (pdw_or1 (pdt_not (pdt_val (pd_call F_law_truth (hr.mono (by decide)) (by rfl) (T.g "_law_truth") (T.k "_law_truth") (takes_of rfl rfl rfl rfl) (pda_cons (pd_cmp (op_neO (T.ne "Vector") (T.ob "Vector") (T.own "Vector" "__eq__") (T.fnn "Vector" "__eq__") F_Vector_eq.ok (hr.mono (by decide)) F_Vector_eq.bd passL) (l_neO (c := 1) M.isi M.cls (by decide) F_Vector_eq.len) (pd_var (pv 0)) (pd_var (pv 8)) (nomark _)) (pda_cons (pd_bl pe_bl) pda_nil)))))))) (pdss_one (pds_ret (pd_bl pe_bl))) pdss_nil))) (pdss_cons (pds_set (i := 9) sc_law_alone.nd rfl (by first | exact Or.inl rfl | exact Or.inr rfl) (pd_make (c := 3) (T.mkk "Poly") F_Poly_init (fun _ _ => .nil) (hr.mono (by decide)) (by rfl) (T.g "Poly") (takes_of rfl rfl rfl rfl) (pda_cons (pd_new (pdn_slL (pd_new (pdn_cb (fun h => pe_callTy call_list_of (by rfl) (T.f "list") (by decide +kernel) h) l_list (pda_cons (pd_ix ix_tup l_ixT (pd_var (pv 1)) (pd_int pe_int) (fun _ _ => rfl)) pda_nil))) pdo_none (pdo_some (pd_int pe_int)))) (pda_cons (pd_ix ix_tup l_ixT (pd_var (pv 1)) (pd_int pe_int) (fun _ _ => rfl)) pda_nil)))) (pdss_cons (pds_if (PDW.pt (pdw_or (pdt_not (pdt_val (pd_call F_law_truth (hr.mono (by decide)) (by rfl) (T.g "_law_truth") (T.k "_law_truth") (takes_of rfl rfl rfl rfl) (pda_cons (pd_cmp (op_eqO (T.own "Vector" "__eq__") (T.fnn "Vector" "__eq__") F_Vector_eq.ok (hr.mono (by decide)) F_Vector_eq.bd passL) (l_cmpO (c := 1) M.isi M.cls (by decide) F_Vector_eq.len) (pd_var (pv 0)) (pd_var (pv 9)) (nomark _)) (pda_cons (pd_bl pe_bl) pda_nil))))) (pdw_or (pdt_not (pdt_val (pd_call F_law_truth (hr.mono (by decide)) (by rfl) (T.g "_law_truth") (T.k "_law_truth") (takes_of rfl rfl rfl rfl) (pda_cons (pd_cmp (op_eqO (T.own "Poly" "__eq__") (T.fnn "Poly" "__eq__") F_Poly_eq.ok (hr.mono (by decide)) F_Poly_eq.bd passL) (l_cmpO (c := 3) M.isi M.cls (by decide) F_Poly_eq.len) (pd_var (pv 9)) (pd_var (pv 0)) (nomark _)) (pda_cons (pd_bl pe_bl) pda_nil))))) (pdw_or1 (pdt_not (pdt_val (pd_call F_law_truth (hr.mono (by decide)) (by rfl) (T.g "_law_truth") (T.k "_law_truth") (takes_of rfl rfl rfl rfl) (pda_cons (pd_cmp (op_neO (T.ne "Vector") (T.ob "Vector") (T.own "Vector" "__eq__") (T.fnn "Vector" "__eq__") F_Vector_eq.ok (hr.mono (by decide)) F_Vector_eq.bd passL) (l_neO (c := 1) M.isi M.cls (by decide) F_Vector_eq.len) (pd_var (pv 0)) (pd_var (pv 9)) (nomark _)) (pda_cons (pd_bl pe_bl) pda_nil))))))))) (pdss_one (pds_ret (pd_bl pe_bl))) pdss_nil) (pdss_cons (pds_set (i := 10) sc_law_alone.nd rfl (by first | exact Or.inl rfl | exact Or.inr rfl) (pd_make (c := 1) (T.mkk "Vector") F_Vector_init (fun _ _ => .nil) (hr.mono (by decide)) (by rfl) (T.g "Vector") (takes_of rfl rfl rfl rfl) (pda_cons (pd_new (pdn_lc (own := [("top", 4)]) rfl sc_law_alone.nd (pdi_list (pd_ix ix_tup l_ixT (pd_var (pv 1)) (pd_int pe_int) (fun _ _ => rfl))) (blkOk_by (N := ["v", "low", "number", "pair", "top", "k", "due", "r", "other", "p", "twin"]) (sc := defScope s_law_alone) (by decide +kernel)) (by decide) (fun _ _ _ _ _ => (pdg_name (pg_name (i := 4) sc_law_alone.nd rfl (Or.inl rfl)))) (fun _ _ _ _ _ => pdts_nil) (fun _ _ _ _ _ => pd_op op_mulZ l_I (pd_var (pv 4)) (pd_un un_neg l_U (pd_int pe_int))))) (pda_cons (pd_op op_mulZ l_I (pd_ix ix_tup l_ixT (pd_var (pv 1)) (pd_int pe_int) (fun _ _ => rfl)) (pd_un un_neg l_U (pd_int pe_int))) pda_nil)))) (pdss_one (pds_ret (pd_and (pd_call F_law_truth (hr.mono (by decide)) (by rfl) (T.g "_law_truth") (T.k "_law_truth") (takes_of rfl rfl rfl rfl) (pda_cons (pd_cmp (op_eqO (T.own "Vector" "__eq__") (T.fnn "Vector" "__eq__") F_Vector_eq.ok (hr.mono (by decide)) F_Vector_eq.bd passL) (l_cmpO (c := 1) M.isi M.cls (by decide) F_Vector_eq.len) (pd_var (pv 0)) (pd_var (pv 10)) (nomark _)) (pda_cons (pd_bl pe_bl) pda_nil))) (pd_and (pd_call F_law_truth (hr.mono (by decide)) (by rfl) (T.g "_law_truth") (T.k "_law_truth") (takes_of rfl rfl rfl rfl) (pda_cons (pd_cmp (op_eqO (T.own "Vector" "__eq__") (T.fnn "Vector" "__eq__") F_Vector_eq.ok (hr.mono (by decide)) F_Vector_eq.bd passL) (l_cmpO (c := 1) M.isi M.cls (by decide) F_Vector_eq.len) (pd_var (pv 10)) (pd_var (pv 0)) (nomark _)) (pda_cons (pd_bl pe_bl) pda_nil))) (pd_one (pd_call F_law_truth (hr.mono (by decide)) (by rfl) (T.g "_law_truth") (T.k "_law_truth") (takes_of rfl rfl rfl rfl) (pda_cons (pd_cmp (op_neO (T.ne "Vector") (T.ob "Vector") (T.own "Vector" "__eq__") (T.fnn "Vector" "__eq__") F_Vector_eq.ok (hr.mono (by decide)) F_Vector_eq.bd passL) (l_neO (c := 1) M.isi M.cls (by decide) F_Vector_eq.len) (pd_var (pv 0)) (pd_var (pv 10)) (nomark _)) (pda_cons (pd_bl pe_bl) pda_nil))))))))))))))))))), fun ds Q ex h => ?_⟩)
  · obtain ⟨ts, b, n, p, q, rfl, _⟩ := h
    rfl
  · obtain ⟨ts, b, n, p, q, rfl, hv, hl, hn, hp, hq, hq0, qq⟩ := h
    have hv1 : Vec 1000 ts b := hv.up (by decide)
    have hb := hv.pos
    have hb0 : b ≠ 0 := by omega
    have hbs : b.natAbs < 2 ^ 8999 := abs_up hv.sb (by decide)
    have hlk : ts.length ≤ 1000 := by omega
    have e3 : (!decide ((ts.length : Int) = (((ts.map D.int).length : Nat) : Int))) = false := by rw [List.length_map, decide_eq_true rfl]; rfl
    have ok0 : okD (.lst []) = true := okD_lst []
    have hml : (ts.map D.int).length = ts.length := List.length_map ..
    walk_at "go"
    rw [e3]
    walk_at "go"
    refine ⟨fun i z => ∃ t : Int, ts[i]? = some t ∧ z = if (t != 0) = true then some (.int t) else none, ?_, ?_⟩
    · rintro i x hx
      obtain ⟨z, hz, rfl⟩ := map_at hx
      walk_at "go"
      refine d_ite (fun c => ?_) (fun c => ?_)
      · have c' : (z != 0) = true := by simpa using c
        walk_at "go"
        exact fun _ => ⟨z, hz, by rw [if_pos c']⟩
      · have c' : ¬ (z != 0) = true := by simpa using c
        exact fun _ => ⟨z, hz, by rw [if_neg c']⟩
    intro zs hl2 hz
    rw [List.length_map] at hl2
    rw [filt_is hl2 hz]
    have ok1 := okD_lst (ts.filter (· != 0))
    have ef : eqD (.lst ((ts.filter (· != 0)).map D.int)) (.lst []) = decide (ts.filter (· != 0) = []) := eqD_lst _ []
    have et : Bsame _ _ := ⟨any_filt ts⟩
    clear hz hl2
    walk_at "go"
    rw [ef]
    walk_at "go"
    refine ⟨fun i env => ∃ w : Sl, env = [.val (V ts b), .val (lowD ts b), .val (.int n), .val (.lst [.int p, .int q]), .no, w, .no, .no, .no, .no, .no], fun _ => ⟨_, rfl⟩, ?_, ?_⟩
    · rintro i x env hx ⟨w, rfl⟩
      obtain ⟨hi, rfl⟩ := rng_at hx
      rw [Int.toNat_natCast, List.length_map] at hi
      obtain ⟨t, _, ht, hx⟩ := at_ex (l := ts) (k := (0 : Int) + (i : Int)) (by omega) (by omega)
      walk_at "go"
      refine ⟨ts, b, _, t, rfl, by omega, ht, hb, hbs, ?_⟩
      walk_at "go"
      exact fun _ => ⟨_, rfl⟩
    rintro env ⟨w, rfl⟩
    walk_at "go"
    refine ⟨fun i z => ∃ t : Int, ts[i]? = some t ∧ z = some (.int (-t)), ?_, ?_⟩
    · rintro i x hx
      obtain ⟨z, hz, rfl⟩ := map_at hx
      skip
      walk_at "go"
      exact fun _ => ⟨z, hz, rfl⟩
    intro zs hl2 hz
    obtain ⟨ms, e, hm, hm2⟩ := lc_map D.int (P := fun i v => ∃ t : Int, ts[i]? = some t ∧ v = -t) hl2 (fun i z h => by
      obtain ⟨t, h1, h2⟩ := hz i z h
      exact ⟨_, h2, t, h1, rfl⟩)
    have em : ms = ts.map fun t => -t := map_is (by rw [hm, List.length_map]) hm2
    rw [e, em]
    clear e em hm hm2 hz hl2
    have hng : (ts.map fun t => -t) = negT ts := rfl
    have hnl : (negT ts).length ≤ 1000 := hv1.neg.len
    rw [hng]
    walk_at "go"
    refine ⟨fun i z => ∃ t : Int, ts[i]? = some t ∧ z = some (.int (t * n)), ?_, ?_⟩
    · rintro i x hx
      obtain ⟨z, hz, rfl⟩ := map_at hx
      have hz2 : IntMulOk z n := mul_ok (hv1.bd z (List.mem_of_getElem? hz)) (abs_up hn (by decide))
      walk_at "go"
      exact fun _ => ⟨z, hz, rfl⟩
    intro zs hl2 hz
    obtain ⟨ms, e, hm, hm2⟩ := lc_map D.int (P := fun i v => ∃ t : Int, ts[i]? = some t ∧ v = t * n) hl2 (fun i z h => by
      obtain ⟨t, h1, h2⟩ := hz i z h
      exact ⟨_, h2, t, h1, rfl⟩)
    have em : ms = ts.map fun t => t * n := map_is (by rw [hm, List.length_map]) hm2
    rw [e, em]
    clear e em hm hm2 hz hl2
    have hmn : (ts.map fun t => t * n) = mulT ts n := rfl
    have mb : ∀ t ∈ mulT ts n, t.natAbs < 2 ^ 8999 := (mulT_bd hv.bd hn).up (by decide)
    have ml : (mulT ts n).length ≤ 1000 := by unfold mulT; rw [List.length_map]; exact hlk
    have mll : (lT (mulT ts n) b).length ≤ 1000 := by rw [low_len]; exact ml
    have f1 : Fac (.int n) n 1 := .inl ⟨rfl, rfl⟩
    have n1000 : n.natAbs < 2 ^ 1000 := abs_up hn (by decide)
    have one1000 : (1 : Int).natAbs < 2 ^ 1000 := Nat.one_lt_two_pow (by decide)
    have eb1 : b * 1 = b := Int.mul_one b
    rw [hmn]
    walk_at "go"
    refine ⟨ts, b, .int n, n, 1, rfl, f1, hv1, n1000, one1000, ?_⟩
    rw [eb1]
    walk_at "go"
    refine ⟨ts, b, .int n, n, 1, rfl, f1, hv1, n1000, one1000, ?_⟩
    rw [eb1]
    walk_at "go"
    have i0 : atI [D.int p, D.int q] 0 = some (.int p) := atI_nat (j := 0) rfl
    have i1 : atI [D.int p, D.int q] 1 = some (.int q) := atI_nat (j := 1) rfl
    walk_at "go"
    refine ⟨fun i z => ∃ t : Int, ts[i]? = some t ∧ z = some (.int (t * p)), ?_, ?_⟩
    · rintro i x hx
      obtain ⟨z, hz, rfl⟩ := map_at hx
      have hz2 : IntMulOk z p := mul_ok (hv1.bd z (List.mem_of_getElem? hz)) (abs_up hp (by decide))
      walk_at "go"
      exact fun _ => ⟨z, hz, rfl⟩
    intro zs hl2 hz
    obtain ⟨ms, e, hm, hm2⟩ := lc_map D.int (P := fun i v => ∃ t : Int, ts[i]? = some t ∧ v = t * p) hl2 (fun i z h => by
      obtain ⟨t, h1, h2⟩ := hz i z h
      exact ⟨_, h2, t, h1, rfl⟩)
    have em : ms = ts.map fun t => t * p := map_is (by rw [hm, List.length_map]) hm2
    rw [e, em]
    clear e em hm hm2 hz hl2
    have hmp : (ts.map fun t => t * p) = mulT ts p := rfl
    have pb : ∀ t ∈ mulT ts p, t.natAbs < 2 ^ 8999 := (mulT_bd hv.bd hp).up (by decide)
    have pl : (mulT ts p).length ≤ 1000 := by unfold mulT; rw [List.length_map]; exact hlk
    have pll : (lT (mulT ts p) (b * q)).length ≤ 1000 := by rw [low_len]; exact pl
    have hbq : b * q ≠ 0 := Int.mul_ne_zero hb0 hq0
    have hbqs : (b * q).natAbs < 2 ^ 8999 := abs_up (abs_mul_lt hv.sb hq) (by decide)
    have mo : IntMulOk b q := mul_ok hv1.sb (abs_up hq (by decide))
    have hgq : (gs [p] q).natAbs < 2 ^ 8999 := Nat.lt_of_le_of_lt (gs_le hq0) (abs_up hq (by decide))
    have nb := nB_pos (t := p) hq0
    have f2 : Fac (R (nT p q) (nB p q)) (nT p q) (nB p q) := .inr ⟨rfl, nb⟩
    have np1 : (nT p q).natAbs < 2 ^ 1000 := Nat.lt_of_le_of_lt (nT_le p q) (abs_up hp (by decide))
    have nq1 : (nB p q).natAbs < 2 ^ 1000 := Nat.lt_of_le_of_lt (nB_le p q) (abs_up hq (by decide))
    obtain ⟨l1, l2⟩ := mul_low ts (b := b) (p := p) (q := q) hb0 hq0
    rw [hmp]
    walk_at "go"
    refine fun _ => ⟨hgq, ?_⟩
    walk_at "go"
    refine ⟨ts, b, _, nT p q, nB p q, rfl, f2, hv1, np1, nq1, ?_⟩
    rw [l1, l2]
    walk_at "go"
    refine ⟨⟨rfl, rfl⟩, ts, b, _, nT p q, nB p q, rfl, f2, hv1, np1, nq1, ?_⟩
    rw [l1, l2]
    walk_at "go"
    clear l1 l2 np1 nq1 f2 hgq mo hbqs hbq pll pl pb hmp eb1 one1000 n1000 f1 mll ml mb hmn et ef ok1
    have bs1 : Bsame (!false) true := ⟨rfl⟩
    have bs2 : Bsame (!true) false := ⟨rfl⟩
    have hk1 : ∀ x ∈ [D.lst (ts.map D.int), D.tup (ts.map D.int), R (nT p q) (nB p q), D.int 0, D.non], kind cs x = true ∧ isD x (.own 1) = false := fun x hx => by
      simp only [List.mem_cons, List.not_mem_nil, or_false] at hx
      rcases hx with rfl | rfl | rfl | rfl | rfl <;> exact ⟨rfl, rfl⟩
    refine ⟨fun i env => ∃ w u : Sl, env = [.val (V ts b), .val (lowD ts b), .val (.int n), .val (.lst [.int p, .int q]), .no, w, .val (lowD (lT (mulT ts p) (b * q)) (lB (mulT ts p) (b * q))), .val (R (nT p q) (nB p q)), u, .no, .no], fun _ => ⟨_, _, rfl⟩, ?_, ?_⟩
    · rintro i x env hx ⟨w, u, rfl⟩
      obtain ⟨k1, k2⟩ := hk1 x (List.mem_of_getElem? hx)
      walk_at "go"
      refine .inr ⟨k2, ?_⟩
      walk_at "go"
      refine .inr ⟨k2, ?_⟩
      walk_at "go"
      exact fun _ => ⟨_, _, rfl⟩
    rintro env ⟨w, u, rfl⟩
    obtain ⟨cm, ecm, hcm, _⟩ := cut_map D.int ts none (some 21)
    walk_at "go"
    rw [ecm]
    refine ⟨cm, b, rfl, by omega, hb0, hbs, fun ps pb => ?_⟩
    walk_at "go"
    refine .inr ⟨rfl, ?_⟩
    walk_at "go"
    refine .inr ⟨rfl, ?_⟩
    walk_at "go"
    refine ⟨fun i z => ∃ t : Int, ts[i]? = some t ∧ z = some (.int (t * -7)), ?_, ?_⟩
    · rintro i x hx
      obtain ⟨z, hz, rfl⟩ := map_at hx
      skip
      walk_at "go"
      exact fun _ => ⟨z, hz, rfl⟩
    intro zs hl2 hz
    obtain ⟨ms, e, hm, hm2⟩ := lc_map D.int (P := fun i v => ∃ t : Int, ts[i]? = some t ∧ v = t * -7) hl2 (fun i z h => by
      obtain ⟨t, h1, h2⟩ := hz i z h
      exact ⟨_, h2, t, h1, rfl⟩)
    have em : ms = ts.map fun t => t * -7 := map_is (by rw [hm, List.length_map]) hm2
    rw [e, em]
    clear e em hm hm2 hz hl2
    have hz7 : b * -7 ≠ 0 := by omega
    have s7 : (b * -7).natAbs < 2 ^ 8999 := abs_up (abs_mul_lt (b := 3) hv.sb (by decide)) (by decide)
    have e7 : (ts.map fun t => t * -7) = ts.map fun t => -7 * t := List.map_congr_left fun t _ => Int.mul_comm t (-7)
    obtain ⟨w1, w2⟩ := low_scale (ts := ts) (b := b) (z := -7) hb0 (by decide)
    obtain ⟨w3, w4⟩ := hv.low
    rw [← e7, Int.mul_comm (-7) b, w3] at w1
    rw [← e7, Int.mul_comm (-7) b, w4] at w2
    have l7 : (ts.map fun t => t * -7).length ≤ 1000 := by rw [List.length_map]; exact hlk
    have n7 : (ts.map fun t => t * -7) ≠ [] := fun z => hv.ne (List.map_eq_nil_iff.mp z)
    have dd : (decide (ts = ts) && decide (b = b)) = true := by rw [decide_eq_true rfl, decide_eq_true rfl]; rfl
    walk_at "go"
    refine ⟨_, ts.map fun t => t * -7, b * -7, rfl, .inl rfl, l7, fun z => absurd z n7, fun _ z => absurd z hz7, fun _ _ => ⟨s7, ?_⟩⟩
    rw [w1, w2]
    have bd1 : Bsame (decide (ts = ts) && decide (b = b)) true := ⟨dd⟩
    have bd2 : Bsame (!(decide (ts = ts) && decide (b = b))) false := ⟨by rw [dd]; rfl⟩
    walk_at "go"
    exact qq
end
end K02

namespace K02
open PySem PySem.Spec PyProof.Rows L2 LR DL
section
variable {P : Program} {w : World} {K : PySem.W.Frag} {mg : Str → Option Value} {base : Heap}
local macro_rules | `(tactic| walk_at "side") => `(tactic| first | with_reducible assumption | exact Bsame.mk (by with_reducible rfl) | omega | rfl | assumption | exact ⟨_, rfl⟩ | exact mulL (by omega) (by omega) | exact mulR (by omega) (by omega) | exact mulF (by decide) (by decide) | exact ⟨by decide, by decide +kernel⟩ | decide | exact Nat.le_of_ble_eq_true rfl | (simp only [List.length_cons, List.length_nil, List.length_map, List.nil_append, List.cons_append, sizeLine_eq]; omega) | (simp only [List.map_cons, List.map_nil, List.nil_append, List.cons_append]; decide +kernel))
local macro_rules | `(tactic| walk_at "go") => `(tactic| repeat (first
  | refine ⟨_, rfl, ?_⟩
  | refine ⟨_, _, rfl, rfl, ?_⟩
  | refine ⟨_, _, rfl, ?_⟩
  | refine ⟨_, _, _, rfl, rfl, ?_⟩
  | refine ⟨_, _, _, rfl, ?_⟩
  | refine ⟨_, _, _, _, rfl, rfl, ?_⟩
  | refine ⟨_, _, _, _, rfl, ?_⟩
  | refine ⟨_, _, rfl, by assumption, ?_⟩
  | refine ⟨_, _, _, rfl, rfl, rfl, ?_⟩
  | refine ⟨_, _, _, rfl, rfl, by assumption, ?_⟩
  | refine ⟨_, _, _, rfl, rfl, by walk_at "side", by assumption, ?_⟩
  | refine ⟨_, _, _, rfl, rfl, by walk_at "side", rfl, ?_⟩
  | refine ⟨_, _, _, rfl, rfl, rfl, by assumption, ?_⟩
  | refine .inl ⟨_, rfl, ?_⟩
  | refine .inr ⟨_, rfl, ?_⟩
  | refine .inr (.inl ⟨_, rfl, ?_⟩)
  | refine .inr (.inr ⟨_, rfl, ?_⟩)
  | refine ⟨_, .inl rfl, ?_⟩
  | refine ⟨_, .inr rfl, ?_⟩
  | refine .inr ⟨_, _, rfl, ?_⟩
  | refine .inl ⟨_, _, rfl, ?_⟩
  | refine And.intro (by walk_at "side") ?_))


theorem okS_sizes : OkS "sizes" := OkS.of (by decide +kernel)
theorem ok_ref (m n : Nat) : okD (.lst [.int m, .int n, .str "sizes", .bl true, .bl true, .bl false]) = true := okD_of 1 (fun y hy => by
  simp only [List.mem_cons, List.not_mem_nil, or_false] at hy
  rcases hy with rfl | rfl | rfl | rfl | rfl | rfl
  · exact trivial
  · exact trivial
  · exact okS_sizes
  all_goals exact trivial) (by decide)
theorem vec_add {n : Nat} {ts us : List Int} {b c : Int} (hv : Vec n ts b) (hw : Vec n us c) (he : ts.length = us.length) : Bd (n + n + 1) (addT ts b us c) ∧ (addT ts b us c).length ≤ 1000 ∧ b * c ≠ 0 ∧ (b * c).natAbs < 2 ^ (n + n) := by
  refine ⟨fun t ht => ?_, ?_, Int.ne_of_gt (Int.mul_pos hv.pos hw.pos), abs_mul_lt hv.sb hw.sb⟩
  · unfold addT at ht
    obtain ⟨i, hi⟩ := List.getElem?_of_mem ht
    rw [List.getElem?_zipWith] at hi
    cases e1 : ts[i]? with
    | none => rw [e1] at hi; cases hi
    | some x =>
      cases e2 : us[i]? with
      | none => rw [e1, e2] at hi; cases hi
      | some y =>
        rw [e1, e2] at hi
        cases hi
        exact abs_add_lt (abs_mul_lt (hv.bd x (List.mem_of_getElem? e1)) hw.sb) (abs_mul_lt (hw.bd y (List.mem_of_getElem? e2)) hv.sb)
  · unfold addT
    rw [List.length_zipWith]
    have := hv.len
    omega
theorem ask0 (ts us : List Int) (b c : Int) : askT 0 ts b us c = V (lT (addT ts b us c) (b * c)) (lB (addT ts b us c) (b * c)) := rfl
theorem ask1 (ts us : List Int) (b c : Int) : askT 1 ts b us c = V (lT (addT ts b (negT us) c) (b * c)) (lB (addT ts b (negT us) c) (b * c)) := rfl
theorem ask2 (ts us : List Int) (b c : Int) : askT 2 ts b us c = R (nT (dotT ts us) (b * c)) (nB (dotT ts us) (b * c)) := rfl
/-- a list over the places of two others -/
theorem rng_zip {f : Int → Int → Int} {ts us ms : List Int} (he : ts.length = us.length) (hm : ms.length = ts.length) (h : ∀ (i : Nat) m, ms[i]? = some m → ∃ x y, ts[i]? = some x ∧ us[i]? = some y ∧ m = f x y) : ms = List.zipWith f ts us := zip_is (by rw [hm, List.length_zipWith]; omega) h

theorem nd_SizeMismatch : (sh_SizeMismatch.map (·.1)).Nodup := by decide +kernel
theorem xl_SizeMismatch_word (a0 a1 : D) : (xD sh_SizeMismatch [a0, a1]).lookup ("word" : Str) = some (.str "sizes" : D) := lookup_at (k := 0) nd_SizeMismatch rfl
theorem xl_SizeMismatch_right (a0 a1 : D) : (xD sh_SizeMismatch [a0, a1]).lookup ("right" : Str) = some (a1 : D) := lookup_at (k := 1) nd_SizeMismatch rfl
theorem xl_SizeMismatch_left (a0 a1 : D) : (xD sh_SizeMismatch [a0, a1]).lookup ("left" : Str) = some (a0 : D) := lookup_at (k := 2) nd_SizeMismatch rfl

theorem fn_law_asked (T : Txt LL K mg) (M : Mo2 cs sms cis mxs K mg) : Nonempty (Fn P w K mg base (d_law_asked.at_ K) 10 3 P_law_asked) := by
  obtain ⟨F_Vector_add⟩ := fn_Vector_add (P := P) (w := w) (base := base) T M
  obtain ⟨F_Vector_sub⟩ := fn_Vector_sub (P := P) (w := w) (base := base) T M
  obtain ⟨F_Vector_dot⟩ := fn_Vector_dot (P := P) (w := w) (base := base) T M
  refine Fn.of (T.d 45 (d := d_law_asked)) sc_law_asked rfl (fun _ _ _ _ _ _ us hl => match us, hl with | [_, _, _], _ => rfl) (fun ds Q ex h => ?_) (fun fd cdv A outer s H E hr => ⟨_, pdss_cons (pds_set (i := 3) sc_law_asked.nd rfl (by first | exact Or.inl rfl | exact Or.inr rfl) (pd_non pe_non)) (pdss_cons (pds_set (i := 4) sc_law_asked.nd rfl (by first | exact Or.inl rfl | exact Or.inr rfl) (pd_new (pdn_lst pda_nil))) (pdss_cons (pds_try (i := 5) (x := "SizeMismatch") rfl rfl sc_law_asked.nd rfl rfl ⟨rfl, by decide, Or.inl (T.g "SizeMismatch")⟩ (T.exM "SizeMismatch") (takes_of rfl rfl rfl rfl) (fun W pn xe tk po => pdss_cons (pds_if (pdt_cmp op_eq l_eq (pd_var (pv 2)) (pd_int pe_int) (nomark _)) (pdss_one (pds_set (i := 3) sc_law_asked.nd rfl (by first | exact Or.inl rfl | exact Or.inr rfl) (pd_mixO (op := .Add) (c := 1) (M.mx "add" [1]) (by decide) (by rw [dm_Add]; exact T.own "Vector" "__add__") (T.fnn "Vector" "__add__") F_Vector_add (hr.mono (by decide)) tk (pd_var (pv 0)) (pd_var (pv 1))))) pdss_nil) (pdss_cons (pds_if (pdt_cmp op_eq l_eq (pd_var (pv 2)) (pd_int pe_int) (nomark _)) (pdss_one (pds_set (i := 3) sc_law_asked.nd rfl (by first | exact Or.inl rfl | exact Or.inr rfl) (pd_mixO (op := .Sub) (c := 1) (M.mx "sub" [1]) (by decide) (by rw [dm_Sub]; exact T.own "Vector" "__sub__") (T.fnn "Vector" "__sub__") F_Vector_sub (hr.mono (by decide)) tk (pd_var (pv 0)) (pd_var (pv 1))))) pdss_nil) (pdss_one (pds_if (pdt_cmp op_eq l_eq (pd_var (pv 2)) (pd_int pe_int) (nomark _)) (pdss_one (pds_set (i := 3) sc_law_asked.nd rfl (by first | exact Or.inl rfl | exact Or.inr rfl) (pd_meth (c := 1) (pd_var (pv 0)) (T.cl "Vector") (T.me "Vector" "dot") F_Vector_dot (hr.mono (by decide)) tk nm_Vector_dot (pda_cons (pd_var (pv 1)) pda_nil)))) pdss_nil)))) (fun a oe cls d pn hz hf => pdss_one (pds_set (i := 4) sc_law_asked.nd rfl (by first | exact Or.inl rfl | exact Or.inr rfl) (pd_new (pdn_lst (pda_cons (pd_xf (i := 5) (x := "SizeMismatch") K rfl (pe_xf (T.exa "SizeMismatch").1 (T.no "SizeMismatch" "left") hz hf (pv 5))) (pda_cons (pd_xf (i := 5) (x := "SizeMismatch") K rfl (pe_xf (T.exa "SizeMismatch").1 (T.no "SizeMismatch" "right") hz hf (pv 5))) (pda_cons (pd_xf (i := 5) (x := "SizeMismatch") K rfl (pe_xf (T.exa "SizeMismatch").1 (T.no "SizeMismatch" "word") hz hf (pv 5))) (pda_cons (pd_xi (i := 5) (x := "SizeMismatch") K rfl (.own (He.ga K "LastrowsError")) (pe_callB (call_isD (T.exa "SizeMismatch").2.1 hz hf) (by rfl) (T.f "isinstance") (by decide +kernel) (pa_cons (pv 5) (pa_cons (pe_glob (v := .ref (He.ga K "LastrowsError")) rfl (T.g "LastrowsError") rfl) pa_nil)))) (pda_cons (pd_xi (i := 5) (x := "SizeMismatch") K rfl (.ty "ValueError") (pe_callB (call_isD (T.exa "SizeMismatch").2.1 hz hf) (by rfl) (T.f "isinstance") (by decide +kernel) (pa_cons (pv 5) (pa_cons (pe_bltn (v := .ty "ValueError") (by rfl) (T.f "ValueError") (by decide +kernel) rfl) pa_nil)))) (pda_cons (pd_xi (i := 5) (x := "SizeMismatch") K rfl (.own (He.ga K "Empty")) (pe_callB (call_isD (T.exa "SizeMismatch").2.1 hz hf) (by rfl) (T.f "isinstance") (by decide +kernel) (pa_cons (pv 5) (pa_cons (pe_glob (v := .ref (He.ga K "Empty")) rfl (T.g "Empty") rfl) pa_nil)))) pda_nil))))))))))) (pdss_one (pds_ret (pd_tup (pda_cons (pd_var (pv 3)) (pda_cons (pd_var (pv 4)) pda_nil))))))), fun ds Q ex h => ?_⟩)
  · obtain ⟨ts, b, us, c, r, rfl, _⟩ := h
    rfl
  · obtain ⟨ts, b, us, c, r, rfl, hv, hw, r0, r1, q1, q2⟩ := h
    have k1 := T.kie "SizeMismatch" "LastrowsError" true
    have k2 := T.kiv "SizeMismatch" "ValueError" true
    have k3 := T.kie "SizeMismatch" "Empty" false
    have l1 := xl_SizeMismatch_left (.int ts.length) (.int us.length)
    have l2 := xl_SizeMismatch_right (.int ts.length) (.int us.length)
    have l3 := xl_SizeMismatch_word (.int ts.length) (.int us.length)
    rcases (show r = 0 ∨ r = 1 ∨ r = 2 by omega) with rfl | rfl | rfl
    · walk_at "go"
      refine ⟨fun he => ?_, fun hne => ?_⟩
      · walk_at "go"
        exact q1 he
      · refine .inl ⟨rfl, fun a dd => ?_⟩
        walk_at "go"
        exact q2 hne
    · walk_at "go"
      refine ⟨fun he => ?_, fun hne => ?_⟩
      · walk_at "go"
        exact q1 he
      · refine .inl ⟨rfl, fun a dd => ?_⟩
        walk_at "go"
        exact q2 hne
    · walk_at "go"
      refine ⟨fun he => ?_, fun hne => ?_⟩
      · walk_at "go"
        exact q1 he
      · refine .inl ⟨rfl, fun a dd => ?_⟩
        walk_at "go"
        exact q2 hne

theorem fn_law_pair (T : Txt LL K mg) (M : Mo2 cs sms cis mxs K mg) : Nonempty (Fn P w K mg base (d_law_pair.at_ K) 11 4 P_law_pair) := by
  obtain ⟨F_law_asked⟩ := fn_law_asked (P := P) (w := w) (base := base) T M
  obtain ⟨F_law_is_integer⟩ := fn_law_is_integer (P := P) (w := w) (base := base) T M
  obtain ⟨F_law_is_ratio⟩ := fn_law_is_ratio (P := P) (w := w) (base := base) T M
  obtain ⟨F_law_ratio⟩ := fn_law_ratio (P := P) (w := w) (base := base) T M
  obtain ⟨F_law_is⟩ := fn_law_is (P := P) (w := w) (base := base) T M
  obtain ⟨F_law_low⟩ := fn_law_low (P := P) (w := w) (base := base) T M
  obtain ⟨F_law_truth⟩ := fn_law_truth (P := P) (w := w) (base := base) T M
  obtain ⟨F_Vector_eq⟩ := fn_Vector_eq (P := P) (w := w) (base := base) T M
  refine Fn.of (T.d 46 (d := d_law_pair)) sc_law_pair rfl (fun _ _ _ _ _ _ us hl => match us, hl with | [_, _, _, _], _ => rfl) (fun ds Q ex h => ?_) (fun fd cdv A outer s H E hr => ⟨_, pdss_cons (pds_for (passes_of rfl) rfl (pdi_range1 rfl (T.f "range") (pda_cons (pd_int pe_int) pda_nil)) (pdg_name (pg_name (i := 4) sc_law_pair.nd rfl (by first | exact Or.inl rfl | exact Or.inr rfl))) (pdss_cons (pds_asg (pd_call F_law_asked (hr.mono (by decide)) (by rfl) (T.g "_law_asked") (T.k "_law_asked") (takes_of rfl rfl rfl rfl) (pda_cons (pd_var (pv 0)) (pda_cons (pd_var (pv 1)) (pda_cons (pd_var (pv 4)) pda_nil)))) (pdg_tup (n := 2) (by rfl) (pdgs_cons (pdg_name (pg_name (i := 5) sc_law_pair.nd rfl (by first | exact Or.inl rfl | exact Or.inr rfl))) (pdgs_cons (pdg_name (pg_name (i := 6) sc_law_pair.nd rfl (by first | exact Or.inl rfl | exact Or.inr rfl))) pdgs_nil)))) (pdss_one (pds_if (pdt_cmp op_ne l_ne (pd_cb (fun h => pe_callB call_len (by rfl) (T.f "len") (by decide +kernel) h) l_len (pda_cons (pd_ix ix_tup l_ixT (pd_var (pv 2)) (pd_int pe_int) (fun _ _ => rfl)) pda_nil)) (pd_cb (fun h => pe_callB call_len (by rfl) (T.f "len") (by decide +kernel) h) l_len (pda_cons (pd_ix ix_tup l_ixT (pd_var (pv 3)) (pd_int pe_int) (fun _ _ => rfl)) pda_nil)) (nomark _)) (pdss_cons (pds_if (PDW.pt (pdw_or (pdt_cmp op_notN l_notN (pd_var (pv 5)) (pd_non pe_non) (nomark _)) (pdw_or1 (pdt_cmp (op_neD (hr.units)) l_neD (pd_var (pv 6)) (pd_new (pdn_lst (pda_cons (pd_cb (fun h => pe_callB call_len (by rfl) (T.f "len") (by decide +kernel) h) l_len (pda_cons (pd_ix ix_tup l_ixT (pd_var (pv 2)) (pd_int pe_int) (fun _ _ => rfl)) pda_nil)) (pda_cons (pd_cb (fun h => pe_callB call_len (by rfl) (T.f "len") (by decide +kernel) h) l_len (pda_cons (pd_ix ix_tup l_ixT (pd_var (pv 3)) (pd_int pe_int) (fun _ _ => rfl)) pda_nil)) (pda_cons (pd_str pe_str) (pda_cons (pd_bl pe_bl) (pda_cons (pd_bl pe_bl) (pda_cons (pd_bl pe_bl) pda_nil)))))))) (nomark _))))) (pdss_one (pds_ret (pd_bl pe_bl))) pdss_nil) (pdss_one (pds_if (PDW.pt (pdw_or (pdt_not (pdt_val (pd_call F_law_is_integer (hr.mono (by decide)) (by rfl) (T.g "_law_is_integer") (T.k "_law_is_integer") (takes_of rfl rfl rfl rfl) (pda_cons (pd_ix ix_list l_ixL (pd_var (pv 6)) (pd_int pe_int) (fun _ _ => rfl)) pda_nil)))) (pdw_or1 (pdt_not (pdt_val (pd_call F_law_is_integer (hr.mono (by decide)) (by rfl) (T.g "_law_is_integer") (T.k "_law_is_integer") (takes_of rfl rfl rfl rfl) (pda_cons (pd_ix ix_list l_ixL (pd_var (pv 6)) (pd_int pe_int) (fun _ _ => rfl)) pda_nil))))))) (pdss_one (pds_ret (pd_bl pe_bl))) pdss_nil))) (pdss_one (pds_if (pdt_cmp op_eq l_eq (pd_var (pv 4)) (pd_int pe_int) (nomark _)) (pdss_cons (pds_set (i := 7) sc_law_pair.nd rfl (by first | exact Or.inl rfl | exact Or.inr rfl) (pd_cb (fun h => pe_callB (cr_sum rfl) (by rfl) (T.f "sum") (by decide +kernel) h) l_sum (pda_cons (pd_new (pdn_lc (own := [("k", 8)]) rfl sc_law_pair.nd (pdi_range1 rfl (T.f "range") (pda_cons (pd_cb (fun h => pe_callB call_len (by rfl) (T.f "len") (by decide +kernel) h) l_len (pda_cons (pd_ix ix_tup l_ixT (pd_var (pv 2)) (pd_int pe_int) (fun _ _ => rfl)) pda_nil)) pda_nil)) (blkOk_by (N := ["v", "w", "a", "b", "road", "told", "refused", "due", "k", "tops", "same"]) (sc := defScope s_law_pair) (by decide +kernel)) (by decide) (fun _ _ _ _ _ => (pdg_name (pg_name (i := 8) sc_law_pair.nd rfl (Or.inl rfl)))) (fun _ _ _ _ _ => pdts_nil) (fun _ _ _ _ _ => pd_op op_mulZ l_I (pd_ix ix_list l_ixL (pd_ix ix_tup l_ixT (pd_var (pv 2)) (pd_int pe_int) (fun _ _ => rfl)) (pd_var (pv 8)) (fun _ _ => rfl)) (pd_ix ix_list l_ixL (pd_ix ix_tup l_ixT (pd_var (pv 3)) (pd_int pe_int) (fun _ _ => rfl)) (pd_var (pv 8)) (fun _ _ => rfl))))) pda_nil))) (pdss_one (pds_if (PDW.pt (pdw_or (pdt_cmp (op_neD (hr.units)) l_neD (pd_var (pv 6)) (pd_new (pdn_lst pda_nil)) (nomark _)) (pdw_or1 (pdt_not (pdt_val (pd_call F_law_is_ratio (hr.mono (by decide)) (by rfl) (T.g "_law_is_ratio") (T.k "_law_is_ratio") (takes_of rfl rfl rfl rfl) (pda_cons (pd_var (pv 5)) (pda_cons (pd_call F_law_ratio (hr.mono (by decide)) (by rfl) (T.g "_law_ratio") (T.k "_law_ratio") (takes_of rfl rfl rfl rfl) (pda_cons (pd_var (pv 7)) (pda_cons (pd_op op_mulZ l_I (pd_ix ix_tup l_ixT (pd_var (pv 2)) (pd_int pe_int) (fun _ _ => rfl)) (pd_ix ix_tup l_ixT (pd_var (pv 3)) (pd_int pe_int) (fun _ _ => rfl))) pda_nil))) pda_nil)))))))) (pdss_one (pds_ret (pd_bl pe_bl))) pdss_nil))) (pdss_cons (pds_lcV (i := 9) (own := [("k", 8)]) rfl sc_law_pair.nd rfl rfl (sw_true rfl rfl rfl (by decide +kernel)) (pdi_range1 rfl (T.f "range") (pda_cons (pd_cb (fun h => pe_callB call_len (by rfl) (T.f "len") (by decide +kernel) h) l_len (pda_cons (pd_ix ix_tup l_ixT (pd_var (pv 2)) (pd_int pe_int) (fun _ _ => rfl)) pda_nil)) pda_nil)) (blkOk_by (N := ["v", "w", "a", "b", "road", "told", "refused", "due", "k", "tops", "same"]) (sc := defScope s_law_pair) (by decide +kernel)) (by decide) (fun _ _ _ _ _ => (pdg_name (pg_name (i := 8) sc_law_pair.nd rfl (Or.inl rfl)))) (fun _ _ _ _ _ => pdts_nil) (fun _ _ _ _ _ => pd_op op_add l_I0 (pd_op op_mulZ l_I (pd_ix ix_list l_ixL (pd_ix ix_tup l_ixT (pd_var (pv 2)) (pd_int pe_int) (fun _ _ => rfl)) (pd_var (pv 8)) (fun _ _ => rfl)) (pd_ix ix_tup l_ixT (pd_var (pv 3)) (pd_int pe_int) (fun _ _ => rfl))) (pd_op op_mulZ l_I (pd_op op_mulZ l_I (pd_op op_sub l_I0 (pd_int pe_int) (pd_op op_mulZ l_I (pd_int pe_int) (pd_var (pv 4)))) (pd_ix ix_list l_ixL (pd_ix ix_tup l_ixT (pd_var (pv 3)) (pd_int pe_int) (fun _ _ => rfl)) (pd_var (pv 8)) (fun _ _ => rfl))) (pd_ix ix_tup l_ixT (pd_var (pv 2)) (pd_int pe_int) (fun _ _ => rfl))))) (pdss_one (pds_if (PDW.pt (pdw_or (pdt_cmp (op_neD (hr.units)) l_neD (pd_var (pv 6)) (pd_new (pdn_lst pda_nil)) (nomark _)) (pdw_or1 (pdt_not (pdt_val (pd_call F_law_is (hr.mono (by decide)) (by rfl) (T.g "_law_is") (T.k "_law_is") (takes_of rfl rfl rfl rfl) (pda_cons (pd_var (pv 5)) (pda_cons (pd_call F_law_low (hr.mono (by decide)) (by rfl) (T.g "_law_low") (T.k "_law_low") (takes_of rfl rfl rfl rfl) (pda_cons (pd_var (pv 9)) (pda_cons (pd_op op_mulZ l_I (pd_ix ix_tup l_ixT (pd_var (pv 2)) (pd_int pe_int) (fun _ _ => rfl)) (pd_ix ix_tup l_ixT (pd_var (pv 3)) (pd_int pe_int) (fun _ _ => rfl))) pda_nil))) pda_nil)))))))) (pdss_one (pds_ret (pd_bl pe_bl))) pdss_nil))))))))) (pdss_cons (pds_set (i := 10) sc_law_pair.nd rfl (by first | exact Or.inl rfl | exact Or.inr rfl) (pd_and (pd_cmp (op_eqD (hr.units)) l_eqD (pd_ix ix_tup l_ixT (pd_var (pv 2)) (pd_int pe_int) (fun _ _ => rfl)) (pd_ix ix_tup l_ixT (pd_var (pv 3)) (pd_int pe_int) (fun _ _ => rfl)) (nomark _)) (pd_one (pd_cmp op_eq l_eq (pd_ix ix_tup l_ixT (pd_var (pv 2)) (pd_int pe_int) (fun _ _ => rfl)) (pd_ix ix_tup l_ixT (pd_var (pv 3)) (pd_int pe_int) (fun _ _ => rfl)) (nomark _))))) (pdss_one (pds_ret (pd_and (pd_call F_law_truth (hr.mono (by decide)) (by rfl) (T.g "_law_truth") (T.k "_law_truth") (takes_of rfl rfl rfl rfl) (pda_cons (pd_cmp (op_eqO (T.own "Vector" "__eq__") (T.fnn "Vector" "__eq__") F_Vector_eq.ok (hr.mono (by decide)) F_Vector_eq.bd passL) (l_cmpO (c := 1) M.isi M.cls (by decide) F_Vector_eq.len) (pd_var (pv 0)) (pd_var (pv 1)) (nomark _)) (pda_cons (pd_var (pv 10)) pda_nil))) (pd_one (pd_call F_law_truth (hr.mono (by decide)) (by rfl) (T.g "_law_truth") (T.k "_law_truth") (takes_of rfl rfl rfl rfl) (pda_cons (pd_cmp (op_neO (T.ne "Vector") (T.ob "Vector") (T.own "Vector" "__eq__") (T.fnn "Vector" "__eq__") F_Vector_eq.ok (hr.mono (by decide)) F_Vector_eq.bd passL) (l_neO (c := 1) M.isi M.cls (by decide) F_Vector_eq.len) (pd_var (pv 0)) (pd_var (pv 1)) (nomark _)) (pda_cons (pd_not (pd_var (pv 10))) pda_nil)))))))), fun ds Q ex h => ?_⟩)
  · obtain ⟨ts, b, us, c, rfl, _⟩ := h
    rfl
  · obtain ⟨ts, b, us, c, rfl, hv, hw, hl, hm, q⟩ := h
    have hv1 : Vec 1000 ts b := hv.up (by decide)
    have hw1 : Vec 1000 us c := hw.up (by decide)
    have hb := hv.pos
    have hc := hw.pos
    have hml : (ts.map D.int).length = ts.length := List.length_map ..
    have hnl : (us.map D.int).length = us.length := List.length_map ..
    have o1 := okD_lst ts
    have o2 := okD_lst us
    have o3 := ok_ref ts.length us.length
    have o0 : okD (.lst []) = true := okD_lst []
    have o4 : okD (.lst [.int ((ts.map D.int).length : Nat), .int ((us.map D.int).length : Nat), .str "sizes", .bl true, .bl true, .bl false]) = true := by rw [hml, hnl]; exact o3
    have rf1 : (!eqD (.lst [.int ts.length, .int us.length, .str "sizes", .bl true, .bl true, .bl false]) (.lst [.int ((ts.map D.int).length : Nat), .int ((us.map D.int).length : Nat), .str "sizes", .bl true, .bl true, .bl false])) = false := by rw [hml, hnl, eqD_refl o3]; rfl
    have rf0 : (!eqD (.lst []) (.lst [])) = false := by rw [eqD_refl o0]; rfl
    walk_at "go"
    refine ⟨fun i env => ∃ w1 w2 w3 w4 w5 w6 : Sl, env = [.val (V ts b), .val (V us c), .val (lowD ts b), .val (lowD us c), w1, w2, w3, w4, w5, w6, .no], fun _ => ⟨_, _, _, _, _, _, rfl⟩, ?_, ?_⟩
    · rintro i x env hx ⟨w1, w2, w3, w4, w5, w6, rfl⟩
      obtain ⟨hi, rfl⟩ := rng_at hx
      have hi3 : i < 3 := hi
      walk_at "go"
      refine ⟨ts, b, us, c, (0 : Int) + (i : Int), rfl, hv1, hw1, by omega, by omega, fun he => ?_, fun hne => ?_⟩
      rotate_left
      · have d1 : (!decide (((ts.map D.int).length : Int) = ((us.map D.int).length : Int))) = true := by rw [decide_eq_false (by rw [List.length_map, List.length_map]; omega)]; rfl
        walk_at "go"
        rw [d1]
        walk_at "go"
        rw [rf1]
        walk_at "go"
        exact fun _ => ⟨_, _, _, _, _, _, rfl⟩
      have d1 : (!decide (((ts.map D.int).length : Int) = ((us.map D.int).length : Int))) = false := by rw [decide_eq_true (by rw [List.length_map, List.length_map]; omega)]; rfl
      obtain ⟨bd1, al1, bc0, bcs⟩ := vec_add hv hw he
      obtain ⟨bd2, al2, _, _⟩ := vec_add hv hw.neg (by unfold negT; rw [List.length_map]; exact he)
      have bc8 : (b * c).natAbs < 2 ^ 8999 := abs_up bcs (by decide)
      have bd3 : ∀ t ∈ addT ts b us c, t.natAbs < 2 ^ 8999 := bd1.up (by decide)
      have bd4 : ∀ t ∈ addT ts b (negT us) c, t.natAbs < 2 ^ 8999 := bd2.up (by decide)
      have mbc : IntMulOk b c := mul_ok hv1.sb hw1.sb
      have ll1 : (lT (addT ts b us c) (b * c)).length ≤ 1000 := by rw [low_len]; exact al1
      have ll2 : (lT (addT ts b (negT us) c) (b * c)).length ≤ 1000 := by rw [low_len]; exact al2
      have hrs : (rngD 0 (((ts.map D.int).length : Nat) : Int).toNat).length < sizeLine := by rw [rng_len, List.length_map]; exact sz100 (by omega)
      walk_at "go"
      rw [d1]
      walk_at "go"
      rcases (show i = 0 ∨ i = 1 ∨ i = 2 by omega) with rfl | rfl | rfl
      · rw [show (0 : Int) + ((0 : Nat) : Int) = 0 from rfl]
        walk_at "go"
        refine ⟨fun j z => ∃ x y : Int, ts[j]? = some x ∧ us[j]? = some y ∧ z = some (.int (x * c + (1 - 2 * 0) * y * b)), ?_, ?_⟩
        · rintro j x hx
          obtain ⟨hj, rfl⟩ := rng_at hx
          rw [Int.toNat_natCast, List.length_map] at hj
          obtain ⟨x, xm, hx1, hx2⟩ := at_ex (l := ts) (k := (0 : Int) + (j : Int)) (by omega) (by omega)
          obtain ⟨y, ym, hy1, hy2⟩ := at_ex (l := us) (k := (0 : Int) + (j : Int)) (by omega) (by omega)
          have m1 : IntMulOk x c := mul_ok (hv1.bd x xm) hw1.sb
          have m2 : IntMulOk ((1 - 2 * 0) * y) b := mul_ok (by rw [show (1 - 2 * 0) * y = y by omega]; exact hw1.bd y ym) hv1.sb
          rw [show ((0 : Int) + (j : Int)).toNat = j by omega] at hx1 hy1
          walk_at "go"
          exact fun _ => ⟨x, y, hx1, hy1, rfl⟩
        intro zs hl2 hz
        rw [rng_len, Int.toNat_natCast, List.length_map] at hl2
        obtain ⟨ms, e, hms, hm2⟩ := lc_map D.int (P := fun i v => ∃ x y : Int, ts[i]? = some x ∧ us[i]? = some y ∧ v = x * c + (1 - 2 * 0) * y * b) hl2 (fun i z h => by
          obtain ⟨x, y, h1, h2, h3⟩ := hz i z h
          exact ⟨_, h3, x, y, h1, h2, rfl⟩)
        have em : ms = addT ts b us c := rng_zip he hms fun i m h => by
          obtain ⟨x, y, h1, h2, h3⟩ := hm2 i m h
          exact ⟨x, y, h1, h2, by rw [h3, show (1 - 2 * 0) * y = y by omega]⟩
        rw [e, em, ask0]
        clear e em hms hm2 hz hl2
        walk_at "go"
        exact fun _ => ⟨_, _, _, _, _, _, rfl⟩
      · rw [show (0 : Int) + ((1 : Nat) : Int) = 1 from rfl]
        walk_at "go"
        refine ⟨fun j z => ∃ x y : Int, ts[j]? = some x ∧ us[j]? = some y ∧ z = some (.int (x * c + (1 - 2 * 1) * y * b)), ?_, ?_⟩
        · rintro j x hx
          obtain ⟨hj, rfl⟩ := rng_at hx
          rw [Int.toNat_natCast, List.length_map] at hj
          obtain ⟨x, xm, hx1, hx2⟩ := at_ex (l := ts) (k := (0 : Int) + (j : Int)) (by omega) (by omega)
          obtain ⟨y, ym, hy1, hy2⟩ := at_ex (l := us) (k := (0 : Int) + (j : Int)) (by omega) (by omega)
          have m1 : IntMulOk x c := mul_ok (hv1.bd x xm) hw1.sb
          have m2 : IntMulOk ((1 - 2 * 1) * y) b := mul_ok (by rw [show (1 - 2 * 1) * y = -y by omega, Int.natAbs_neg]; exact hw1.bd y ym) hv1.sb
          rw [show ((0 : Int) + (j : Int)).toNat = j by omega] at hx1 hy1
          walk_at "go"
          exact fun _ => ⟨x, y, hx1, hy1, rfl⟩
        intro zs hl2 hz
        rw [rng_len, Int.toNat_natCast, List.length_map] at hl2
        obtain ⟨ms, e, hms, hm2⟩ := lc_map D.int (P := fun i v => ∃ x y : Int, ts[i]? = some x ∧ us[i]? = some y ∧ v = x * c + (1 - 2 * 1) * y * b) hl2 (fun i z h => by
          obtain ⟨x, y, h1, h2, h3⟩ := hz i z h
          exact ⟨_, h3, x, y, h1, h2, rfl⟩)
        have em : ms = addT ts b (negT us) c := rng_zip (by unfold negT; rw [List.length_map]; exact he) hms fun i m h => by
          obtain ⟨x, y, h1, h2, h3⟩ := hm2 i m h
          exact ⟨x, -y, h1, by unfold negT; rw [List.getElem?_map, h2]; rfl, by rw [h3, show (1 - 2 * 1) * y = -y by omega]⟩
        rw [e, em, ask1]
        clear e em hms hm2 hz hl2
        walk_at "go"
        exact fun _ => ⟨_, _, _, _, _, _, rfl⟩
      · rw [show (0 : Int) + ((2 : Nat) : Int) = 2 from rfl]
        walk_at "go"
        refine ⟨fun j z => ∃ x y : Int, ts[j]? = some x ∧ us[j]? = some y ∧ z = some (.int (x * y)), ?_, ?_⟩
        · rintro j x hx
          obtain ⟨hj, rfl⟩ := rng_at hx
          rw [Int.toNat_natCast, List.length_map] at hj
          obtain ⟨x, xm, hx1, hx2⟩ := at_ex (l := ts) (k := (0 : Int) + (j : Int)) (by omega) (by omega)
          obtain ⟨y, ym, hy1, hy2⟩ := at_ex (l := us) (k := (0 : Int) + (j : Int)) (by omega) (by omega)
          have m1 : IntMulOk x y := mul_ok (hv1.bd x xm) (hw1.bd y ym)
          rw [show ((0 : Int) + (j : Int)).toNat = j by omega] at hx1 hy1
          walk_at "go"
          exact fun _ => ⟨x, y, hx1, hy1, rfl⟩
        intro zs hl2 hz
        rw [rng_len, Int.toNat_natCast, List.length_map] at hl2
        obtain ⟨ms, e, hms, hm2⟩ := lc_map D.int (P := fun i v => ∃ x y : Int, ts[i]? = some x ∧ us[i]? = some y ∧ v = x * y) hl2 (fun i z h => by
          obtain ⟨x, y, h1, h2, h3⟩ := hz i z h
          exact ⟨_, h3, x, y, h1, h2, rfl⟩)
        have em : ms = List.zipWith (fun x y => x * y) ts us := rng_zip he hms hm2
        have es : (List.zipWith (fun x y => x * y) ts us).sum = dotT ts us := rfl
        rw [e, em, ask2]
        clear e em hms hm2 hz hl2
        walk_at "go"
        rw [es]
        walk_at "go"
        exact fun _ => ⟨_, _, _, _, _, _, rfl⟩
    rintro env ⟨w1, w2, w3, w4, w5, w6, rfl⟩
    walk_at "go"
    rw [eqD_lst]
    have fin : ∀ k : Bool, (decide (ts = us) && decide (b = c)) = k → Bsame (decide (ts = us) && decide (b = c)) k ∧ Bsame (!(decide (ts = us) && decide (b = c))) (!k) := fun k h => ⟨⟨h⟩, ⟨by rw [h]⟩⟩
    by_cases h1 : ts = us
    · have g1 : decide (ts = us) = true := decide_eq_true h1
      obtain ⟨f1, f2⟩ := fin (decide (b = c)) (by rw [g1, Bool.true_and])
      rw [g1]
      walk_at "go"
      exact q
    · have g1 : decide (ts = us) = false := decide_eq_false h1
      obtain ⟨f1, f2⟩ := fin false (by rw [g1, Bool.false_and])
      rw [g1]
      walk_at "go"
      exact q
end
end K02

namespace K02
open PySem PySem.Spec PyProof.Rows L2 LR DL
section
variable {P : Program} {w : World} {K : PySem.W.Frag} {mg : Str → Option Value} {base : Heap}
local macro_rules | `(tactic| walk_at "side") => `(tactic| first | with_reducible assumption | exact Bsame.mk (by with_reducible rfl) | omega | rfl | assumption | exact ⟨_, rfl⟩ | exact mulL (by omega) (by omega) | exact mulR (by omega) (by omega) | exact mulF (by decide) (by decide) | exact ⟨by decide, by decide +kernel⟩ | decide | exact Nat.le_of_ble_eq_true rfl | (simp only [List.length_cons, List.length_nil, List.length_map, List.nil_append, List.cons_append, sizeLine_eq]; omega) | (simp only [List.map_cons, List.map_nil, List.nil_append, List.cons_append]; decide +kernel))
local macro_rules | `(tactic| walk_at "go") => `(tactic| repeat (first
  | refine ⟨_, rfl, ?_⟩
  | refine ⟨_, _, rfl, rfl, ?_⟩
  | refine ⟨_, _, rfl, ?_⟩
  | refine ⟨_, _, _, rfl, rfl, ?_⟩
  | refine ⟨_, _, _, rfl, ?_⟩
  | refine ⟨_, _, _, _, rfl, rfl, ?_⟩
  | refine ⟨_, _, _, _, rfl, ?_⟩
  | refine ⟨_, _, rfl, by assumption, ?_⟩
  | refine ⟨_, _, _, rfl, rfl, rfl, ?_⟩
  | refine ⟨_, _, _, rfl, rfl, by assumption, ?_⟩
  | refine ⟨_, _, _, rfl, rfl, by walk_at "side", by assumption, ?_⟩
  | refine ⟨_, _, _, rfl, rfl, by walk_at "side", rfl, ?_⟩
  | refine ⟨_, _, _, rfl, rfl, rfl, by assumption, ?_⟩
  | refine .inl ⟨_, rfl, ?_⟩
  | refine .inr ⟨_, rfl, ?_⟩
  | refine .inr (.inl ⟨_, rfl, ?_⟩)
  | refine .inr (.inr ⟨_, rfl, ?_⟩)
  | refine ⟨_, .inl rfl, ?_⟩
  | refine ⟨_, .inr rfl, ?_⟩
  | refine .inr ⟨_, _, rfl, ?_⟩
  | refine .inl ⟨_, _, rfl, ?_⟩
  | refine And.intro (by walk_at "side") ?_))


theorem okS_e : OkS "e" ∧ OkS "z" ∧ OkS "empty" ∧ OkS "bottom" := ⟨OkS.of (by decide +kernel), OkS.of (by decide +kernel), OkS.of (by decide +kernel), OkS.of (by decide +kernel)⟩
abbrev eL : List D := [.str "e", .str "empty", .bl true, .bl true, .bl false, .bl false]
abbrev zL : List D := [.str "z", .str "bottom", .bl true, .bl true, .bl false, .bl false]
theorem ok_e : okD (.lst eL) = true := okD_of 1 (fun y hy => by
  simp only [List.mem_cons, List.not_mem_nil, or_false] at hy
  rcases hy with rfl | rfl | rfl | rfl | rfl | rfl
  · exact okS_e.1
  · exact okS_e.2.2.1
  all_goals exact trivial) (by decide)
theorem ok_z : okD (.lst zL) = true := okD_of 1 (fun y hy => by
  simp only [List.mem_cons, List.not_mem_nil, or_false] at hy
  rcases hy with rfl | rfl | rfl | rfl | rfl | rfl
  · exact okS_e.2.1
  · exact okS_e.2.2.2
  all_goals exact trivial) (by decide)
def P_law_refusal : Prm := fun ds Q _ => ∃ (ts : List Int) (b r : Int), ds = [.lst (ts.map D.int), .int b, .int r] ∧ ts.length ≤ 1000 ∧ b.natAbs < 2 ^ 8999 ∧ ((r = 0 ∧ ts = [] ∧ Q (.lst eL)) ∨ (r = 2 ∧ ts = [] ∧ Q (.lst eL)) ∨ (r = 1 ∧ Q (.lst eL)) ∨ (r = 3 ∧ Q (.lst eL)) ∨ (r = 0 ∧ ts ≠ [] ∧ b = 0 ∧ Q (.lst zL)) ∨ (r = 0 ∧ ts ≠ [] ∧ b ≠ 0 ∧ Q (.lst [])))
def P_law_refusals : Prm := fun ds Q _ => ∃ (ts : List Int) (b : Int), ds = [lowD ts b] ∧ ts ≠ [] ∧ ts.length ≤ 30 ∧ b ≠ 0 ∧ b.natAbs < 2 ^ 70 ∧ Q (.bl true)
def P_law_made_others : Prm := fun ds Q _ => ∃ (ts : List Int) (b : Int) (p : Int), ds = [lowD ts b, lowD (lT ts b) (lB ts b), .int p] ∧ ts ≠ [] ∧ ts.length ≤ 30 ∧ b ≠ 0 ∧ Bd 70 ts ∧ b.natAbs < 2 ^ 70 ∧ Q (.bl true)

theorem nd_Empty : (sh_Empty.map (·.1)).Nodup := by decide +kernel
theorem xl_Empty_word : (xD sh_Empty []).lookup ("word" : Str) = some (.str "empty" : D) := lookup_at (k := 0) nd_Empty rfl

theorem nd_ZeroBottom : (sh_ZeroBottom.map (·.1)).Nodup := by decide +kernel
theorem xl_ZeroBottom_word : (xD sh_ZeroBottom []).lookup ("word" : Str) = some (.str "bottom" : D) := lookup_at (k := 0) nd_ZeroBottom rfl

theorem fn_law_refusal (T : Txt LL K mg) (M : Mo2 cs sms cis mxs K mg) : Nonempty (Fn P w K mg base (d_law_refusal.at_ K) 7 3 P_law_refusal) := by
  obtain ⟨⟨F_Vector_init⟩, ⟨F_Vector_init_d⟩⟩ := fn_Vector_init (P := P) (w := w) (base := base) T M
  obtain ⟨F_Vector_of⟩ := fn_Vector_of (P := P) (w := w) (base := base) T M
  refine Fn.of (T.d 47 (d := d_law_refusal)) sc_law_refusal rfl (fun _ _ _ _ _ _ us hl => match us, hl with | [_, _, _], _ => rfl) (fun ds Q ex h => ?_) (fun fd cdv A outer s H E hr => ⟨_, pdss_cons (pds_set (i := 3) sc_law_refusal.nd rfl (by first | exact Or.inl rfl | exact Or.inr rfl) (pd_new (pdn_lst pda_nil))) (pdss_cons (pds_tryN rfl rfl sc_law_refusal.nd (takes_of rfl rfl rfl rfl) (fun W pn xe tk po => pdss_cons (pds_if (pdt_cmp op_eq l_eq (pd_var (pv 2)) (pd_int pe_int) (nomark _)) (pdss_one (pds_expr (pd_make (c := 1) (T.mkk "Vector") F_Vector_init (fun _ _ => .nil) (hr.mono (by decide)) (by rfl) (T.g "Vector") tk (pda_cons (pd_new (pdn_cb (fun h => pe_callTy call_list_of (by rfl) (T.f "list") (by decide +kernel) h) l_list (pda_cons (pd_var (pv 0)) pda_nil))) (pda_cons (pd_var (pv 1)) pda_nil))))) pdss_nil) (pdss_cons (pds_if (pdt_cmp op_eq l_eq (pd_var (pv 2)) (pd_int pe_int) (nomark _)) (pdss_one (pds_expr (pd_sm (by rfl) (T.g "Vector") (M.sm "Vector" "of") F_Vector_of (hr.mono (by decide)) tk (pda_cons (pd_new (pdn_lst pda_nil)) pda_nil)))) pdss_nil) (pdss_cons (pds_if (pdt_cmp op_eq l_eq (pd_var (pv 2)) (pd_int pe_int) (nomark _)) (pdss_one (pds_expr (pd_make (c := 1) (T.mkk "Vector") F_Vector_init (fun _ _ => .nil) (hr.mono (by decide)) (by rfl) (T.g "Vector") tk (pda_cons (pd_cb (fun h => pe_callTy call_tuple_of (by rfl) (T.f "tuple") (by decide +kernel) h) l_tuple (pda_cons (pd_var (pv 0)) pda_nil)) (pda_cons (pd_var (pv 1)) pda_nil))))) pdss_nil) (pdss_one (pds_if (pdt_cmp op_eq l_eq (pd_var (pv 2)) (pd_int pe_int) (nomark _)) (pdss_one (pds_expr (pd_sm (by rfl) (T.g "Vector") (M.sm "Vector" "of") F_Vector_of (hr.mono (by decide)) tk (pda_cons (pd_tup pda_nil) pda_nil)))) pdss_nil))))) (HdD.cons (x := "Empty") (i := 4) ⟨rfl, by decide, Or.inl (T.g "Empty")⟩ (T.exM "Empty") rfl rfl (fun a oe cls d pn hz hf => pdss_one (pds_set (i := 3) sc_law_refusal.nd rfl (by first | exact Or.inl rfl | exact Or.inr rfl) (pd_new (pdn_lst (pda_cons (pd_str pe_str) (pda_cons (pd_xf (i := 4) (x := "Empty") K rfl (pe_xf (T.exa "Empty").1 (T.no "Empty" "word") hz hf (pv 4))) (pda_cons (pd_xi (i := 4) (x := "Empty") K rfl (.own (He.ga K "LastrowsError")) (pe_callB (call_isD (T.exa "Empty").2.1 hz hf) (by rfl) (T.f "isinstance") (by decide +kernel) (pa_cons (pv 4) (pa_cons (pe_glob (v := .ref (He.ga K "LastrowsError")) rfl (T.g "LastrowsError") rfl) pa_nil)))) (pda_cons (pd_xi (i := 4) (x := "Empty") K rfl (.ty "ValueError") (pe_callB (call_isD (T.exa "Empty").2.1 hz hf) (by rfl) (T.f "isinstance") (by decide +kernel) (pa_cons (pv 4) (pa_cons (pe_bltn (v := .ty "ValueError") (by rfl) (T.f "ValueError") (by decide +kernel) rfl) pa_nil)))) (pda_cons (pd_xi (i := 4) (x := "Empty") K rfl (.own (He.ga K "ZeroBottom")) (pe_callB (call_isD (T.exa "Empty").2.1 hz hf) (by rfl) (T.f "isinstance") (by decide +kernel) (pa_cons (pv 4) (pa_cons (pe_glob (v := .ref (He.ga K "ZeroBottom")) rfl (T.g "ZeroBottom") rfl) pa_nil)))) (pda_cons (pd_xi (i := 4) (x := "Empty") K rfl (.own (He.ga K "BadText")) (pe_callB (call_isD (T.exa "Empty").2.1 hz hf) (by rfl) (T.f "isinstance") (by decide +kernel) (pa_cons (pv 4) (pa_cons (pe_glob (v := .ref (He.ga K "BadText")) rfl (T.g "BadText") rfl) pa_nil)))) pda_nil)))))))))) (HdD.cons (x := "ZeroBottom") (i := 4) ⟨rfl, by decide, Or.inl (T.g "ZeroBottom")⟩ (T.exM "ZeroBottom") rfl rfl (fun a oe cls d pn hz hf => pdss_one (pds_set (i := 3) sc_law_refusal.nd rfl (by first | exact Or.inl rfl | exact Or.inr rfl) (pd_new (pdn_lst (pda_cons (pd_str pe_str) (pda_cons (pd_xf (i := 4) (x := "ZeroBottom") K rfl (pe_xf (T.exa "ZeroBottom").1 (T.no "ZeroBottom" "word") hz hf (pv 4))) (pda_cons (pd_xi (i := 4) (x := "ZeroBottom") K rfl (.own (He.ga K "LastrowsError")) (pe_callB (call_isD (T.exa "ZeroBottom").2.1 hz hf) (by rfl) (T.f "isinstance") (by decide +kernel) (pa_cons (pv 4) (pa_cons (pe_glob (v := .ref (He.ga K "LastrowsError")) rfl (T.g "LastrowsError") rfl) pa_nil)))) (pda_cons (pd_xi (i := 4) (x := "ZeroBottom") K rfl (.ty "ValueError") (pe_callB (call_isD (T.exa "ZeroBottom").2.1 hz hf) (by rfl) (T.f "isinstance") (by decide +kernel) (pa_cons (pv 4) (pa_cons (pe_bltn (v := .ty "ValueError") (by rfl) (T.f "ValueError") (by decide +kernel) rfl) pa_nil)))) (pda_cons (pd_xi (i := 4) (x := "ZeroBottom") K rfl (.own (He.ga K "Empty")) (pe_callB (call_isD (T.exa "ZeroBottom").2.1 hz hf) (by rfl) (T.f "isinstance") (by decide +kernel) (pa_cons (pv 4) (pa_cons (pe_glob (v := .ref (He.ga K "Empty")) rfl (T.g "Empty") rfl) pa_nil)))) (pda_cons (pd_xi (i := 4) (x := "ZeroBottom") K rfl (.own (He.ga K "BadText")) (pe_callB (call_isD (T.exa "ZeroBottom").2.1 hz hf) (by rfl) (T.f "isinstance") (by decide +kernel) (pa_cons (pv 4) (pa_cons (pe_glob (v := .ref (He.ga K "BadText")) rfl (T.g "BadText") rfl) pa_nil)))) pda_nil)))))))))) HdD.nil))) (pdss_one (pds_ret (pd_var (pv 3))))), fun ds Q ex h => ?_⟩)
  · obtain ⟨ts, b, r, rfl, _⟩ := h
    rfl
  · obtain ⟨ts, b, r, rfl, hl, hs, h⟩ := h
    have k1 := T.kie "Empty" "LastrowsError" true
    have k2 := T.kiv "Empty" "ValueError" true
    have k3 := T.kie "Empty" "ZeroBottom" false
    have k4 := T.kie "Empty" "BadText" false
    have k5 := T.kie "ZeroBottom" "LastrowsError" true
    have k6 := T.kiv "ZeroBottom" "ValueError" true
    have k7 := T.kie "ZeroBottom" "Empty" false
    have k8 := T.kie "ZeroBottom" "BadText" false
    have l1 := xl_Empty_word
    have l2 := xl_ZeroBottom_word
    have x1 := exm_no (T.exa "Empty").2.1 k7
    rcases h with ⟨rfl, rfl, q⟩ | ⟨rfl, rfl, q⟩ | ⟨rfl, q⟩ | ⟨rfl, q⟩ | ⟨rfl, hn, hb, q⟩ | ⟨rfl, hn, hb, q⟩
    · walk_at "go"
      refine ⟨_, [], b, rfl, .inl rfl, Nat.zero_le _, fun _ => ?_, fun z => absurd rfl z, fun z => absurd rfl z⟩
      refine .inl ⟨rfl, fun a dd => ?_⟩
      walk_at "go"
      exact q
    · walk_at "go"
      refine ⟨_, [], b, rfl, .inr rfl, Nat.zero_le _, fun _ => ?_, fun z => absurd rfl z, fun z => absurd rfl z⟩
      refine .inl ⟨rfl, fun a dd => ?_⟩
      walk_at "go"
      exact q
    · walk_at "go"
      refine ⟨_, [], rfl, .inl rfl, ⟨Nat.zero_le _, fun p hp => by cases hp⟩, fun _ => ?_, fun z => absurd rfl z⟩
      refine .inl ⟨rfl, fun a dd => ?_⟩
      walk_at "go"
      exact q
    · walk_at "go"
      refine ⟨_, [], rfl, .inr rfl, ⟨Nat.zero_le _, fun p hp => by cases hp⟩, fun _ => ?_, fun z => absurd rfl z⟩
      refine .inl ⟨rfl, fun a dd => ?_⟩
      walk_at "go"
      exact q
    · walk_at "go"
      refine ⟨_, ts, b, rfl, .inl rfl, hl, fun z => absurd z hn, fun _ _ => ?_, fun _ z => absurd hb z⟩
      refine .inr ⟨x1, .inl ⟨rfl, fun a dd => ?_⟩⟩
      walk_at "go"
      exact q
    · walk_at "go"
      refine ⟨_, ts, b, rfl, .inl rfl, hl, fun z => absurd z hn, fun _ z => absurd z hb, fun _ _ => ⟨hs, ?_⟩⟩
      walk_at "go"
      exact q

theorem fn_law_refusals (T : Txt LL K mg) (M : Mo2 cs sms cis mxs K mg) : Nonempty (Fn P w K mg base (d_law_refusals.at_ K) 8 1 P_law_refusals) := by
  obtain ⟨F_law_refusal⟩ := fn_law_refusal (P := P) (w := w) (base := base) T M
  refine Fn.of (T.d 48 (d := d_law_refusals)) sc_law_refusals rfl (fun _ _ _ _ _ _ us hl => match us, hl with | [_], _ => rfl) (fun ds Q ex h => ?_) (fun fd cdv A outer s H E hr => ⟨_, pdss_cons (pds_set (i := 1) sc_law_refusals.nd rfl (by first | exact Or.inl rfl | exact Or.inr rfl) (pd_new (pdn_lst (pda_cons (pd_str pe_str) (pda_cons (pd_str pe_str) (pda_cons (pd_bl pe_bl) (pda_cons (pd_bl pe_bl) (pda_cons (pd_bl pe_bl) (pda_cons (pd_bl pe_bl) pda_nil))))))))) (pdss_cons (pds_for (passes_of rfl) rfl (pdi_list (pd_new (pdn_lst (pda_cons (pd_int pe_int) (pda_cons (pd_int pe_int) (pda_cons (pd_ix ix_tup l_ixT (pd_var (pv 0)) (pd_int pe_int) (fun _ _ => rfl)) pda_nil)))))) (pdg_name (pg_name (i := 2) sc_law_refusals.nd rfl (by first | exact Or.inl rfl | exact Or.inr rfl))) (pdss_one (pds_if (PDW.pt (pdw_or (pdt_cmp (op_neD (hr.units)) l_neD (pd_call F_law_refusal (hr.mono (by decide)) (by rfl) (T.g "_law_refusal") (T.k "_law_refusal") (takes_of rfl rfl rfl rfl) (pda_cons (pd_new (pdn_lst pda_nil)) (pda_cons (pd_var (pv 2)) (pda_cons (pd_int pe_int) pda_nil)))) (pd_var (pv 1)) (nomark _)) (pdw_or1 (pdt_cmp (op_neD (hr.units)) l_neD (pd_call F_law_refusal (hr.mono (by decide)) (by rfl) (T.g "_law_refusal") (T.k "_law_refusal") (takes_of rfl rfl rfl rfl) (pda_cons (pd_new (pdn_lst pda_nil)) (pda_cons (pd_var (pv 2)) (pda_cons (pd_int pe_int) pda_nil)))) (pd_var (pv 1)) (nomark _))))) (pdss_one (pds_ret (pd_bl pe_bl))) pdss_nil))) (pdss_cons (pds_if (PDW.pt (pdw_or (pdt_cmp (op_neD (hr.units)) l_neD (pd_call F_law_refusal (hr.mono (by decide)) (by rfl) (T.g "_law_refusal") (T.k "_law_refusal") (takes_of rfl rfl rfl rfl) (pda_cons (pd_new (pdn_lst pda_nil)) (pda_cons (pd_int pe_int) (pda_cons (pd_int pe_int) pda_nil)))) (pd_var (pv 1)) (nomark _)) (pdw_or (pdt_cmp (op_neD (hr.units)) l_neD (pd_call F_law_refusal (hr.mono (by decide)) (by rfl) (T.g "_law_refusal") (T.k "_law_refusal") (takes_of rfl rfl rfl rfl) (pda_cons (pd_new (pdn_lst pda_nil)) (pda_cons (pd_int pe_int) (pda_cons (pd_int pe_int) pda_nil)))) (pd_var (pv 1)) (nomark _)) (pdw_or1 (pdt_cmp (op_neD (hr.units)) l_neD (pd_call F_law_refusal (hr.mono (by decide)) (by rfl) (T.g "_law_refusal") (T.k "_law_refusal") (takes_of rfl rfl rfl rfl) (pda_cons (pd_ix ix_tup l_ixT (pd_var (pv 0)) (pd_int pe_int) (fun _ _ => rfl)) (pda_cons (pd_ix ix_tup l_ixT (pd_var (pv 0)) (pd_int pe_int) (fun _ _ => rfl)) (pda_cons (pd_int pe_int) pda_nil)))) (pd_new (pdn_lst pda_nil)) (nomark _)))))) (pdss_one (pds_ret (pd_bl pe_bl))) pdss_nil) (pdss_one (pds_ret (pd_cmp (op_eqD (hr.units)) l_eqD (pd_call F_law_refusal (hr.mono (by decide)) (by rfl) (T.g "_law_refusal") (T.k "_law_refusal") (takes_of rfl rfl rfl rfl) (pda_cons (pd_ix ix_tup l_ixT (pd_var (pv 0)) (pd_int pe_int) (fun _ _ => rfl)) (pda_cons (pd_int pe_int) (pda_cons (pd_int pe_int) pda_nil)))) (pd_new (pdn_lst (pda_cons (pd_str pe_str) (pda_cons (pd_str pe_str) (pda_cons (pd_bl pe_bl) (pda_cons (pd_bl pe_bl) (pda_cons (pd_bl pe_bl) (pda_cons (pd_bl pe_bl) pda_nil)))))))) (nomark _)))))), fun ds Q ex h => ?_⟩)
  · obtain ⟨ts, b, rfl, _⟩ := h
    rfl
  · obtain ⟨ts, b, rfl, hn, hl, hb, hbs, q⟩ := h
    have oe := ok_e
    have oz := ok_z
    have o0 : okD (.lst []) = true := okD_lst []
    have re : (!eqD (.lst eL) (.lst eL)) = false := by rw [eqD_refl oe]; rfl
    have rz : eqD (.lst zL) (.lst zL) = true := eqD_refl oz
    have bs : b.natAbs < 2 ^ 8999 := abs_up hbs (by decide)
    have hlk : ts.length ≤ 1000 := by omega
    have s0 : (0 : Int).natAbs < 2 ^ 8999 := Nat.pow_pos (by decide)
    have s1 : (1 : Int).natAbs < 2 ^ 8999 := Nat.one_lt_two_pow (by decide)
    walk_at "go"
    refine ⟨fun i env => ∃ w : Sl, env = [.val (lowD ts b), .val (.lst eL), w], fun _ => ⟨_, rfl⟩, ?_, ?_⟩
    · rintro i x env hx ⟨w, rfl⟩
      have hx2 : ∃ k : Int, x = .int k ∧ k.natAbs < 2 ^ 8999 := by
        have := List.mem_of_getElem? hx
        simp only [List.mem_cons, List.not_mem_nil, or_false] at this
        rcases this with rfl | rfl | rfl
        · exact ⟨0, rfl, s0⟩
        · exact ⟨1, rfl, s1⟩
        · exact ⟨b, rfl, bs⟩
      obtain ⟨k, rfl, ks⟩ := hx2
      walk_at "go"
      refine ⟨[], k, 0, rfl, Nat.zero_le _, ks, .inl ⟨rfl, rfl, ?_⟩⟩
      walk_at "go"
      refine ⟨[], k, 2, rfl, Nat.zero_le _, ks, .inr (.inl ⟨rfl, rfl, ?_⟩)⟩
      walk_at "go"
      exact fun _ => ⟨_, rfl⟩
    rintro env ⟨w, rfl⟩
    walk_at "go"
    refine ⟨[], 1, 1, rfl, Nat.zero_le _, s1, .inr (.inr (.inl ⟨rfl, ?_⟩))⟩
    walk_at "go"
    refine ⟨[], 1, 3, rfl, Nat.zero_le _, s1, .inr (.inr (.inr (.inl ⟨rfl, ?_⟩)))⟩
    walk_at "go"
    refine .inr (.inr (.inr (.inr (.inr ⟨rfl, hn, hb, ?_⟩))))
    walk_at "go"
    refine .inr (.inr (.inr (.inr (.inl ⟨rfl, hn, rfl, ?_⟩))))
    walk_at "go"
    exact q
end
end K02

namespace K02
open PySem PySem.Spec PyProof.Rows L2 LR DL
section
variable {P : Program} {w : World} {K : PySem.W.Frag} {mg : Str → Option Value} {base : Heap}
local macro_rules | `(tactic| walk_at "side") => `(tactic| first | with_reducible assumption | exact Bsame.mk (by with_reducible rfl) | omega | rfl | assumption | exact ⟨_, rfl⟩ | exact mulL (by omega) (by omega) | exact mulR (by omega) (by omega) | exact mulF (by decide) (by decide) | exact ⟨by decide, by decide +kernel⟩ | decide | exact Nat.le_of_ble_eq_true rfl | (simp only [List.length_cons, List.length_nil, List.length_map, List.nil_append, List.cons_append, sizeLine_eq]; omega) | (simp only [List.map_cons, List.map_nil, List.nil_append, List.cons_append]; decide +kernel))
local macro_rules | `(tactic| walk_at "go") => `(tactic| repeat (first
  | refine ⟨_, rfl, ?_⟩
  | refine ⟨_, _, rfl, rfl, ?_⟩
  | refine ⟨_, _, rfl, ?_⟩
  | refine ⟨_, _, _, rfl, rfl, ?_⟩
  | refine ⟨_, _, _, rfl, ?_⟩
  | refine ⟨_, _, _, _, rfl, rfl, ?_⟩
  | refine ⟨_, _, _, _, rfl, ?_⟩
  | refine ⟨_, _, rfl, by assumption, ?_⟩
  | refine ⟨_, _, _, rfl, rfl, rfl, ?_⟩
  | refine ⟨_, _, _, rfl, rfl, by assumption, ?_⟩
  | refine ⟨_, _, _, rfl, rfl, by walk_at "side", by assumption, ?_⟩
  | refine ⟨_, _, _, rfl, rfl, by walk_at "side", rfl, ?_⟩
  | refine ⟨_, _, _, rfl, rfl, rfl, by assumption, ?_⟩
  | refine .inl ⟨_, rfl, ?_⟩
  | refine .inr ⟨_, rfl, ?_⟩
  | refine .inr (.inl ⟨_, rfl, ?_⟩)
  | refine .inr (.inr ⟨_, rfl, ?_⟩)
  | refine ⟨_, .inl rfl, ?_⟩
  | refine ⟨_, .inr rfl, ?_⟩
  | refine .inr ⟨_, _, rfl, ?_⟩
  | refine .inl ⟨_, _, rfl, ?_⟩
  | refine And.intro (by walk_at "side") ?_))


theorem dn_div (i : Nat) : 0 < 1 + ((0 : Int) + (i : Int)).fmod 6 ∧ (1 + ((0 : Int) + (i : Int)).fmod 6) ∣ 60 ∧ 1 + ((0 : Int) + (i : Int)).fmod 6 ≤ 6 := by
  have a1 := fmod_lo ((0 : Int) + (i : Int)) (j := 6) (by decide)
  have a2 := fmod_hi ((0 : Int) + (i : Int)) (j := 6) (by decide)
  generalize ((0 : Int) + (i : Int)).fmod 6 = d at a1 a2
  refine ⟨by omega, ?_, by omega⟩
  rcases (show d = 0 ∨ d = 1 ∨ d = 2 ∨ d = 3 ∨ d = 4 ∨ d = 5 by omega) with rfl | rfl | rfl | rfl | rfl | rfl <;> decide
theorem of_cross {t d m : Int} (hd : d ≠ 0) (h60 : d ∣ 60) (hm : nB t d ∣ m) : 60 * (nT t d * m.fdiv (nB t d)) = m * (t * (60 : Int).fdiv d) := by
  obtain ⟨e, he⟩ := h60
  obtain ⟨f, hf⟩ := hm
  obtain ⟨g1, g2⟩ := gs_nT t hd
  have hn : nB t d ≠ 0 := Int.ne_of_gt (nB_pos hd)
  rw [congrArg (fun z => z.fdiv (nB t d)) hf, fdiv_of hn, congrArg (fun z => z.fdiv d) he, fdiv_of hd]
  have e1 : (60 : Int) = gs [t] d * nB t d * e := by rw [g2]; exact he
  calc 60 * (nT t d * f) = gs [t] d * nB t d * e * (nT t d * f) := by rw [← e1]
    _ = nB t d * f * (gs [t] d * nT t d * e) := by
      simp only [Int.mul_assoc, Int.mul_comm, Int.mul_left_comm]
    _ = m * (t * e) := by rw [g1, ← hf]
theorem nB_dvd (t : Int) {d : Int} (hd : d ≠ 0) : nB t d ∣ d := ⟨gs [t] d, by rw [Int.mul_comm]; exact (gs_nT t hd).2.symm⟩
abbrev kL (rs : List (Int × Int)) : List D := rs.map fun p => D.tup [.int p.1, .int p.2]
theorem ok_k (rs : List (Int × Int)) : okD (.lst (kL rs)) = true := okD_of 2 (fun y hy => by
  obtain ⟨p, _, rfl⟩ := List.mem_map.mp hy
  intro z hz
  simp only [List.mem_cons, List.not_mem_nil, or_false] at hz
  rcases hz with rfl | rfl <;> exact trivial) (by decide)

theorem fn_law_made_others (T : Txt LL K mg) (M : Mo2 cs sms cis mxs K mg) : Nonempty (Fn P w K mg base (d_law_made_others.at_ K) 7 3 P_law_made_others) := by
  obtain ⟨F_law_is⟩ := fn_law_is (P := P) (w := w) (base := base) T M
  obtain ⟨⟨F_Vector_init⟩, ⟨F_Vector_init_d⟩⟩ := fn_Vector_init (P := P) (w := w) (base := base) T M
  obtain ⟨F_Vector_unit⟩ := fn_Vector_unit (P := P) (w := w) (base := base) T M
  obtain ⟨F_Vector_zero⟩ := fn_Vector_zero (P := P) (w := w) (base := base) T M
  obtain ⟨⟨F_Ratio_init⟩, ⟨F_Ratio_init_d⟩⟩ := fn_Ratio_init (P := P) (w := w) (base := base) T M
  obtain ⟨F_law_low⟩ := fn_law_low (P := P) (w := w) (base := base) T M
  obtain ⟨F_Vector_of⟩ := fn_Vector_of (P := P) (w := w) (base := base) T M
  refine Fn.of (T.d 49 (d := d_law_made_others)) sc_law_made_others rfl (fun _ _ _ _ _ _ us hl => match us, hl with | [_, _, _], _ => rfl) (fun ds Q ex h => ?_) (fun fd cdv A outer s H E hr => ⟨_, pdss_cons (pds_set (i := 3) sc_law_made_others.nd rfl (by first | exact Or.inl rfl | exact Or.inr rfl) (pd_cb (fun h => pe_callB call_len (by rfl) (T.f "len") (by decide +kernel) h) l_len (pda_cons (pd_ix ix_tup l_ixT (pd_var (pv 1)) (pd_int pe_int) (fun _ _ => rfl)) pda_nil))) (pdss_cons (pds_if (PDW.pt (pdw_or (pdt_not (pdt_val (pd_call F_law_is (hr.mono (by decide)) (by rfl) (T.g "_law_is") (T.k "_law_is") (takes_of rfl rfl rfl rfl) (pda_cons (pd_make (c := 1) (T.mkk "Vector") F_Vector_init (fun _ _ => .nil) (hr.mono (by decide)) (by rfl) (T.g "Vector") (takes_of rfl rfl rfl rfl) (pda_cons (pd_cb (fun h => pe_callTy call_tuple_of (by rfl) (T.f "tuple") (by decide +kernel) h) l_tuple (pda_cons (pd_ix ix_tup l_ixT (pd_var (pv 0)) (pd_int pe_int) (fun _ _ => rfl)) pda_nil)) (pda_cons (pd_ix ix_tup l_ixT (pd_var (pv 0)) (pd_int pe_int) (fun _ _ => rfl)) pda_nil))) (pda_cons (pd_var (pv 1)) pda_nil))))) (pdw_or1 (pdt_not (pdt_val (pd_call F_law_is (hr.mono (by decide)) (by rfl) (T.g "_law_is") (T.k "_law_is") (takes_of rfl rfl rfl rfl) (pda_cons (pd_make (c := 1) (T.mkk "Vector") F_Vector_init_d dd_Vector (hr.mono (by decide)) (by rfl) (T.g "Vector") (takes_of rfl rfl rfl rfl) (pda_cons (pd_new (pdn_cb (fun h => pe_callTy call_list_of (by rfl) (T.f "list") (by decide +kernel) h) l_list (pda_cons (pd_ix ix_tup l_ixT (pd_var (pv 1)) (pd_int pe_int) (fun _ _ => rfl)) pda_nil))) pda_nil)) (pda_cons (pd_tup (pda_cons (pd_ix ix_tup l_ixT (pd_var (pv 1)) (pd_int pe_int) (fun _ _ => rfl)) (pda_cons (pd_int pe_int) pda_nil))) pda_nil)))))))) (pdss_one (pds_ret (pd_bl pe_bl))) pdss_nil) (pdss_cons (pds_if (pdt_not (pdt_val (pd_call F_law_is (hr.mono (by decide)) (by rfl) (T.g "_law_is") (T.k "_law_is") (takes_of rfl rfl rfl rfl) (pda_cons (pd_sm (by rfl) (T.g "Vector") (M.sm "Vector" "unit") F_Vector_unit (hr.mono (by decide)) (takes_of rfl rfl rfl rfl) (pda_cons (pd_var (pv 3)) (pda_cons (pd_var (pv 2)) pda_nil))) (pda_cons (pd_tup (pda_cons (pd_new (pdn_lc (own := [("k", 4)]) rfl sc_law_made_others.nd (pdi_range1 rfl (T.f "range") (pda_cons (pd_var (pv 3)) pda_nil)) (blkOk_by (N := ["thing", "low", "place", "size", "k", "tops", "ratios", "kept", "x"]) (sc := defScope s_law_made_others) (by decide +kernel)) (by decide) (fun _ _ _ _ _ => (pdg_name (pg_name (i := 4) sc_law_made_others.nd rfl (Or.inl rfl)))) (fun _ _ _ _ _ => pdts_nil) (fun _ _ _ _ _ => pd_cb (fun h => pe_callTy call_int1 (by rfl) (T.f "int") (by decide +kernel) h) l_int (pda_cons (pd_cmp op_eq l_eq (pd_var (pv 4)) (pd_var (pv 2)) (nomark _)) pda_nil)))) (pda_cons (pd_int pe_int) pda_nil))) pda_nil))))) (pdss_one (pds_ret (pd_bl pe_bl))) pdss_nil) (pdss_cons (pds_if (pdt_not (pdt_val (pd_call F_law_is (hr.mono (by decide)) (by rfl) (T.g "_law_is") (T.k "_law_is") (takes_of rfl rfl rfl rfl) (pda_cons (pd_sm (by rfl) (T.g "Vector") (M.sm "Vector" "zero") F_Vector_zero (hr.mono (by decide)) (takes_of rfl rfl rfl rfl) (pda_cons (pd_var (pv 3)) pda_nil)) (pda_cons (pd_tup (pda_cons (pd_new (pdn_lc (own := [("k", 4)]) rfl sc_law_made_others.nd (pdi_range1 rfl (T.f "range") (pda_cons (pd_var (pv 3)) pda_nil)) (blkOk_by (N := ["thing", "low", "place", "size", "k", "tops", "ratios", "kept", "x"]) (sc := defScope s_law_made_others) (by decide +kernel)) (by decide) (fun _ _ _ _ _ => (pdg_name (pg_name (i := 4) sc_law_made_others.nd rfl (Or.inl rfl)))) (fun _ _ _ _ _ => pdts_nil) (fun _ _ _ _ _ => pd_int pe_int))) (pda_cons (pd_int pe_int) pda_nil))) pda_nil))))) (pdss_one (pds_ret (pd_bl pe_bl))) pdss_nil) (pdss_cons (pds_lcV (i := 5) (own := [("k", 4)]) rfl sc_law_made_others.nd rfl rfl (sw_true rfl rfl rfl (by decide +kernel)) (pdi_range1 rfl (T.f "range") (pda_cons (pd_var (pv 3)) pda_nil)) (blkOk_by (N := ["thing", "low", "place", "size", "k", "tops", "ratios", "kept", "x"]) (sc := defScope s_law_made_others) (by decide +kernel)) (by decide) (fun _ _ _ _ _ => (pdg_name (pg_name (i := 4) sc_law_made_others.nd rfl (Or.inl rfl)))) (fun _ _ _ _ _ => pdts_nil) (fun _ _ _ _ _ => pd_op op_mulZ l_I (pd_ix ix_list l_ixL (pd_ix ix_tup l_ixT (pd_var (pv 1)) (pd_int pe_int) (fun _ _ => rfl)) (pd_var (pv 4)) (fun _ _ => rfl)) (pd_op op_fdivZ l_I (pd_int pe_int) (pd_op op_add l_I0 (pd_int pe_int) (pd_op op_modN l_I (pd_cb (fun h => pe_callTy call_int1 (by rfl) (T.f "int") (by decide +kernel) h) l_int (pda_cons (pd_var (pv 4)) pda_nil)) (pd_int pe_int)))))) (pdss_cons (pds_lcV (i := 6) (own := [("k", 4)]) rfl sc_law_made_others.nd rfl rfl (sw_true rfl rfl rfl (by decide +kernel)) (pdi_range1 rfl (T.f "range") (pda_cons (pd_var (pv 3)) pda_nil)) (blkOk_by (N := ["thing", "low", "place", "size", "k", "tops", "ratios", "kept", "x"]) (sc := defScope s_law_made_others) (by decide +kernel)) (by decide) (fun _ _ _ _ _ => (pdg_name (pg_name (i := 4) sc_law_made_others.nd rfl (Or.inl rfl)))) (fun _ _ _ _ _ => pdts_nil) (fun _ _ _ _ _ => pd_make (c := 0) (T.mkk "Ratio") F_Ratio_init (fun _ _ => .nil) (hr.mono (by decide)) (by rfl) (T.g "Ratio") takes0 (pda_cons (pd_ix ix_list l_ixL (pd_ix ix_tup l_ixT (pd_var (pv 1)) (pd_int pe_int) (fun _ _ => rfl)) (pd_var (pv 4)) (fun _ _ => rfl)) (pda_cons (pd_op op_add l_I0 (pd_int pe_int) (pd_op op_modN l_I (pd_cb (fun h => pe_callTy call_int1 (by rfl) (T.f "int") (by decide +kernel) h) l_int (pda_cons (pd_var (pv 4)) pda_nil)) (pd_int pe_int))) pda_nil)))) (pdss_cons (pds_lcV (i := 7) (own := [("x", 8)]) rfl sc_law_made_others.nd rfl rfl (sw_true rfl rfl rfl (by decide +kernel)) (pdi_list (pd_var (pv 6))) (blkOk_by (N := ["thing", "low", "place", "size", "k", "tops", "ratios", "kept", "x"]) (sc := defScope s_law_made_others) (by decide +kernel)) (by decide) (fun _ _ _ _ _ => (pdg_name (pg_name (i := 8) sc_law_made_others.nd rfl (Or.inl rfl)))) (fun _ _ _ _ _ => pdts_nil) (fun _ _ _ _ _ => pd_tup (pda_cons (pd_fld (c := 0) (k := 0) (T.cl "Ratio") (T.no "Ratio" "top") fk_Ratio_top (pd_var (pv 8))) (pda_cons (pd_fld (c := 0) (k := 1) (T.cl "Ratio") (T.no "Ratio" "bottom") fk_Ratio_bottom (pd_var (pv 8))) pda_nil)))) (pdss_cons (pds_if (PDW.pt (pdw_or (pdt_not (pdt_val (pd_call F_law_is (hr.mono (by decide)) (by rfl) (T.g "_law_is") (T.k "_law_is") (takes_of rfl rfl rfl rfl) (pda_cons (pd_sm (by rfl) (T.g "Vector") (M.sm "Vector" "of") F_Vector_of (hr.mono (by decide)) (takes_of rfl rfl rfl rfl) (pda_cons (pd_var (pv 6)) pda_nil)) (pda_cons (pd_call F_law_low (hr.mono (by decide)) (by rfl) (T.g "_law_low") (T.k "_law_low") (takes_of rfl rfl rfl rfl) (pda_cons (pd_var (pv 5)) (pda_cons (pd_int pe_int) pda_nil))) pda_nil))))) (pdw_or1 (pdt_cmp (op_neD (hr.units)) l_neD (pd_new (pdn_lc (own := [("x", 8)]) rfl sc_law_made_others.nd (pdi_list (pd_var (pv 6))) (blkOk_by (N := ["thing", "low", "place", "size", "k", "tops", "ratios", "kept", "x"]) (sc := defScope s_law_made_others) (by decide +kernel)) (by decide) (fun _ _ _ _ _ => (pdg_name (pg_name (i := 8) sc_law_made_others.nd rfl (Or.inl rfl)))) (fun _ _ _ _ _ => pdts_nil) (fun _ _ _ _ _ => pd_tup (pda_cons (pd_fld (c := 0) (k := 0) (T.cl "Ratio") (T.no "Ratio" "top") fk_Ratio_top (pd_var (pv 8))) (pda_cons (pd_fld (c := 0) (k := 1) (T.cl "Ratio") (T.no "Ratio" "bottom") fk_Ratio_bottom (pd_var (pv 8))) pda_nil))))) (pd_var (pv 7)) (nomark _))))) (pdss_one (pds_ret (pd_bl pe_bl))) pdss_nil) (pdss_one (pds_ret (pd_call F_law_is (hr.mono (by decide)) (by rfl) (T.g "_law_is") (T.k "_law_is") (takes_of rfl rfl rfl rfl) (pda_cons (pd_sm (by rfl) (T.g "Vector") (M.sm "Vector" "of") F_Vector_of (hr.mono (by decide)) (takes_of rfl rfl rfl rfl) (pda_cons (pd_cb (fun h => pe_callTy call_tuple_of (by rfl) (T.f "tuple") (by decide +kernel) h) l_tuple (pda_cons (pd_var (pv 6)) pda_nil)) pda_nil)) (pda_cons (pd_call F_law_low (hr.mono (by decide)) (by rfl) (T.g "_law_low") (T.k "_law_low") (takes_of rfl rfl rfl rfl) (pda_cons (pd_var (pv 5)) (pda_cons (pd_int pe_int) pda_nil))) pda_nil)))))))))))), fun ds Q ex h => ?_⟩)
  · obtain ⟨ts, b, p, rfl, _⟩ := h
    rfl
  · obtain ⟨ts, b, p, rfl, hn, hl, hb, ht, hs, q⟩ := h
    have hv := low_vec hb hn (by omega) ht hs
    have hul : (lT ts b).length = ts.length := low_len ts b
    have hbs : b.natAbs < 2 ^ 8999 := abs_up hs (by decide)
    have one8 : (1 : Int).natAbs < 2 ^ 8999 := Nat.one_lt_two_pow (by decide)
    have hlk : ts.length ≤ 1000 := by omega
    have hpos : 0 < ts.length := List.length_pos_iff.mpr hn
    generalize hus : lT ts b = us at *
    generalize huc : lB ts b = c at *
    have hml : (us.map D.int).length = ts.length := by rw [List.length_map]; exact hul
    have hukl : us.length ≤ 1000 := by omega
    obtain ⟨o1, o2⟩ := low_one us
    walk_at "go"
    refine ⟨_, ts, b, rfl, .inr rfl, hlk, fun z => absurd z hn, fun _ z => absurd z hb, fun _ _ => ⟨hbs, ?_⟩⟩
    rw [hus, huc]
    walk_at "go"
    refine ⟨_, us, 1, rfl, .inl rfl, hukl, fun z => absurd z hv.ne, fun _ z => absurd z (by decide), fun _ _ => ⟨one8, ?_⟩⟩
    rw [o1, o2, hml]
    have n1000 : ts.length ≤ 1000 := hlk
    have hrl : (rngD 0 ((ts.length : Nat) : Int).toNat).length < sizeLine := by rw [rng_len]; exact sz100 (by omega)
    walk_at "go"
    refine ⟨fun i z => z = some (.int (if (i : Int) = p then 1 else 0)), ?_, ?_⟩
    · rintro i x hx
      obtain ⟨hi, rfl⟩ := rng_at hx
      walk_at "go"
      rw [show (0 : Int) + (i : Int) = i by omega]
      refine fun _ => ?_
      show some (D.int (if decide ((i : Int) = p) = true then 1 else 0)) = some (D.int (if (i : Int) = p then 1 else 0))
      by_cases hp : (i : Int) = p
      · rw [decide_eq_true hp, if_pos hp]; rfl
      · rw [decide_eq_false hp, if_neg hp]; rfl
    intro zs hl2 hz
    rw [rng_len, Int.toNat_natCast] at hl2
    obtain ⟨ms, e, hm, hm2⟩ := lc_map D.int (P := fun i v => v = if (i : Int) = p then 1 else 0) hl2 (fun i z h => ⟨_, hz i z h, rfl⟩)
    have em : ms = unitT ts.length p := map_is (f := fun (i : Nat) => if (i : Int) = p then (1 : Int) else 0) (by rw [hm, List.length_range]) (fun i m h => by
      have hi := (List.getElem?_eq_some_iff.mp h).1
      exact ⟨i, by rw [List.getElem?_range (by omega)], hm2 i m h⟩)
    have hut : (unitT ts.length p).length ≤ 1000 := by unfold unitT; rw [List.length_map, List.length_range]; omega
    rw [e, em]
    clear e em hm hm2 hz hl2
    walk_at "go"
    refine ⟨fun i z => z = some (.int 0), ?_, ?_⟩
    · rintro i x hx
      walk_at "go"
      exact fun _ => rfl
    intro zs hl2 hz
    rw [rng_len, Int.toNat_natCast] at hl2
    obtain ⟨ms, e, hm, hm2⟩ := lc_map D.int (P := fun i v => v = 0) hl2 (fun i z h => ⟨_, hz i z h, rfl⟩)
    have em : ms = List.replicate ts.length 0 := List.eq_replicate_iff.mpr ⟨hm, fun m h => by
      obtain ⟨i, hi⟩ := List.getElem?_of_mem h
      exact hm2 i m hi⟩
    have hrp : (List.replicate ts.length (0 : Int)).length ≤ 1000 := by rw [List.length_replicate]; omega
    rw [e, em]
    clear e em hm hm2 hz hl2
    walk_at "go"
    refine ⟨fun i z => ∃ t : Int, us[i]? = some t ∧ z = some (.int (t * (60 : Int).fdiv (1 + ((0 : Int) + (i : Int)).fmod 6))), ?_, ?_⟩
    · rintro i x hx
      obtain ⟨hi, rfl⟩ := rng_at hx
      rw [Int.toNat_natCast] at hi
      obtain ⟨t, tm, h1, h2⟩ := at_ex (l := us) (k := (0 : Int) + (i : Int)) (by omega) (by omega)
      rw [show ((0 : Int) + (i : Int)).toNat = i by omega] at h1
      obtain ⟨d0, d1, d2⟩ := dn_div i
      have m1 : CDivZ 60 (1 + ((0 : Int) + (i : Int)).fmod 6) := divZ (b := 10) (by omega) (by omega) (by decide) (by decide)
      have m2 : ((60 : Int).fdiv (1 + ((0 : Int) + (i : Int)).fmod 6)).natAbs ≤ (60 : Int).natAbs := Int.natAbs_fdiv_le_natAbs _ _
      have m3 : IntMulOk t ((60 : Int).fdiv (1 + ((0 : Int) + (i : Int)).fmod 6)) := mulR (by omega) (by omega)
      walk_at "go"
      exact fun _ => ⟨t, h1, rfl⟩
    intro zs hl2 hz
    rw [rng_len, Int.toNat_natCast] at hl2
    obtain ⟨tt, e, htt, htt2⟩ := lc_map D.int (P := fun i v => ∃ t : Int, us[i]? = some t ∧ v = t * (60 : Int).fdiv (1 + ((0 : Int) + (i : Int)).fmod 6)) hl2 (fun i z h => by
      obtain ⟨t, h1, h2⟩ := hz i z h
      exact ⟨_, h2, t, h1, rfl⟩)
    rw [e]
    clear e hz hl2 zs
    walk_at "go"
    refine ⟨fun i z => ∃ t : Int, us[i]? = some t ∧ z = some (R (nT t (1 + ((0 : Int) + (i : Int)).fmod 6)) (nB t (1 + ((0 : Int) + (i : Int)).fmod 6))), ?_, ?_⟩
    · rintro i x hx
      obtain ⟨hi, rfl⟩ := rng_at hx
      rw [Int.toNat_natCast] at hi
      obtain ⟨t, tm, h1, h2⟩ := at_ex (l := us) (k := (0 : Int) + (i : Int)) (by omega) (by omega)
      rw [show ((0 : Int) + (i : Int)).toNat = i by omega] at h1
      obtain ⟨d0, d1, d2⟩ := dn_div i
      have dz : 1 + ((0 : Int) + (i : Int)).fmod 6 ≠ 0 := by omega
      have hg : (gs [t] (1 + ((0 : Int) + (i : Int)).fmod 6)).natAbs < 2 ^ 8999 := Nat.lt_of_le_of_lt (gs_le dz) (Nat.lt_of_lt_of_le (show (1 + ((0 : Int) + (i : Int)).fmod 6).natAbs < 2 ^ 10 by omega) (Nat.pow_le_pow_right (by decide) (by decide)))
      walk_at "go"
      refine fun _ => ⟨hg, ?_⟩
      exact fun _ => ⟨t, h1, rfl⟩
    intro zs hl2 hz
    rw [rng_len, Int.toNat_natCast] at hl2
    obtain ⟨rs, e, hrs, hrs2⟩ := lc_map (fun p : Int × Int => R p.1 p.2) (P := fun i v => ∃ t : Int, us[i]? = some t ∧ v = (nT t (1 + ((0 : Int) + (i : Int)).fmod 6), nB t (1 + ((0 : Int) + (i : Int)).fmod 6))) hl2 (fun i z h => by
      obtain ⟨t, h1, h2⟩ := hz i z h
      exact ⟨_, h2, t, h1, rfl⟩)
    rw [e]
    clear e hz hl2 zs
    have rok : RsOk rs := ⟨by omega, fun r hr => by
      obtain ⟨i, hi⟩ := List.getElem?_of_mem hr
      obtain ⟨t, h1, rfl⟩ := hrs2 i r hi
      obtain ⟨d0, d1, d2⟩ := dn_div i
      have dz : 1 + ((0 : Int) + (i : Int)).fmod 6 ≠ 0 := by omega
      exact ⟨nB_pos dz, Int.dvd_trans (nB_dvd t dz) d1, Nat.lt_of_le_of_lt (nT_le _ _) ((hv.up (by decide)).bd t (List.mem_of_getElem? h1))⟩⟩
    have rne : rs ≠ [] := fun z => by rw [z] at hrs; simp at hrs; omega
    have tb : ∀ t ∈ tt, t.natAbs < 2 ^ 8999 := fun z hz => by
      obtain ⟨i, hi⟩ := List.getElem?_of_mem hz
      obtain ⟨t, h1, rfl⟩ := htt2 i z hi
      exact abs_up (abs_mul_lt (b := 10) (hv.bd t (List.mem_of_getElem? h1)) (Nat.lt_of_le_of_lt (Int.natAbs_fdiv_le_natAbs _ _) (by decide))) (by decide)
    have s60 : (60 : Int).natAbs < 2 ^ 8999 := Nat.lt_of_lt_of_le (show (60 : Int).natAbs < 2 ^ 10 by decide) (Nat.pow_le_pow_right (by decide) (by decide))
    have ttl : tt.length ≤ 1000 := by omega
    have tll : (lT tt 60).length ≤ 1000 := by rw [low_len]; omega
    have rll : rs.length ≤ 100000 := by omega
    have same : ∀ m : Int, 0 < m → (∀ r ∈ rs, r.2 ∣ m) → lT (overT rs m) m = lT tt 60 ∧ lB (overT rs m) m = lB tt 60 := fun m m0 hm => by
      refine low_cross (by omega) (by decide) ?_
      refine List.ext_getElem? fun i => ?_
      unfold overT
      rw [List.getElem?_map, List.getElem?_map, List.getElem?_map]
      cases e1 : rs[i]? with
      | none =>
        have h1 := List.getElem?_eq_none_iff.mp e1
        rw [List.getElem?_eq_none (show tt.length ≤ i by omega)]
        rfl
      | some r =>
        obtain ⟨t, h1, rfl⟩ := hrs2 i r e1
        have hi := (List.getElem?_eq_some_iff.mp e1).1
        have e2 : tt[i]? = some tt[i] := List.getElem?_eq_getElem (by omega)
        obtain ⟨t', h2, h3⟩ := htt2 i _ e2
        rw [h1] at h2
        cases h2
        rw [e2, h3]
        obtain ⟨d0, d1, d2⟩ := dn_div i
        exact congrArg some (of_cross (by omega) d1 (hm _ (List.mem_of_getElem? e1)))
    have okk := ok_k rs
    have rfk : (!eqD (.lst (kL rs)) (.lst (kL rs))) = false := by rw [eqD_refl okk]; rfl
    walk_at "go"
    refine ⟨fun i z => ∃ p : Int × Int, rs[i]? = some p ∧ z = some (.tup [.int p.1, .int p.2]), ?_, ?_⟩
    · rintro i x hx
      obtain ⟨z, hz, rfl⟩ := map_at hx
      walk_at "go"
      exact fun _ => ⟨z, hz, rfl⟩
    intro zs hl2 hz
    obtain ⟨ms, e, hm, hm2⟩ := lc_map (fun p : Int × Int => D.tup [.int p.1, .int p.2]) (P := fun i v => rs[i]? = some v) hl2 (fun i z h => by
      obtain ⟨p, h1, h2⟩ := hz i z h
      exact ⟨_, h2, h1⟩)
    have em : ms = rs := (map_is (f := id) (by rw [hm, List.length_map]) (fun i m h => ⟨m, hm2 i m h, rfl⟩)).trans (List.map_id _)
    rw [e, em]
    clear e em hm hm2 hz hl2
    walk_at "go"
    refine ⟨_, rs, rfl, .inl rfl, rok, fun z => absurd z rne, fun _ m m0 m1 m2 => ?_⟩
    rw [(same m m0 m2).1, (same m m0 m2).2]
    walk_at "go"
    refine ⟨fun i z => ∃ p : Int × Int, rs[i]? = some p ∧ z = some (.tup [.int p.1, .int p.2]), ?_, ?_⟩
    · rintro i x hx
      obtain ⟨z, hz, rfl⟩ := map_at hx
      walk_at "go"
      exact fun _ => ⟨z, hz, rfl⟩
    intro zs hl2 hz
    obtain ⟨ms, e, hm, hm2⟩ := lc_map (fun p : Int × Int => D.tup [.int p.1, .int p.2]) (P := fun i v => rs[i]? = some v) hl2 (fun i z h => by
      obtain ⟨p, h1, h2⟩ := hz i z h
      exact ⟨_, h2, h1⟩)
    have em : ms = rs := (map_is (f := id) (by rw [hm, List.length_map]) (fun i m h => ⟨m, hm2 i m h, rfl⟩)).trans (List.map_id _)
    rw [e, em]
    clear e em hm hm2 hz hl2
    walk_at "go"
    rw [rfk]
    walk_at "go"
    refine ⟨_, rs, rfl, .inr rfl, rok, fun z => absurd z rne, fun _ m m0 m1 m2 => ?_⟩
    rw [(same m m0 m2).1, (same m m0 m2).2]
    walk_at "go"
    exact q
end
end K02

namespace K02
open PySem PySem.Spec PyProof.Rows L2 LR DL
section
variable {P : Program} {w : World} {K : PySem.W.Frag} {mg : Str → Option Value} {base : Heap}
local macro_rules | `(tactic| walk_at "side") => `(tactic| first | with_reducible assumption | exact Bsame.mk (by with_reducible rfl) | omega | rfl | assumption | exact ⟨_, rfl⟩ | exact mulL (by omega) (by omega) | exact mulR (by omega) (by omega) | exact mulF (by decide) (by decide) | exact ⟨by decide, by decide +kernel⟩ | decide | exact Nat.le_of_ble_eq_true rfl | (simp only [List.length_cons, List.length_nil, List.length_map, List.nil_append, List.cons_append, sizeLine_eq]; omega) | (simp only [List.map_cons, List.map_nil, List.nil_append, List.cons_append]; decide +kernel))
local macro_rules | `(tactic| walk_at "go") => `(tactic| repeat (first
  | refine ⟨_, rfl, ?_⟩
  | refine ⟨_, _, rfl, rfl, ?_⟩
  | refine ⟨_, _, rfl, ?_⟩
  | refine ⟨_, _, _, rfl, rfl, ?_⟩
  | refine ⟨_, _, _, rfl, ?_⟩
  | refine ⟨_, _, _, _, rfl, rfl, ?_⟩
  | refine ⟨_, _, _, _, rfl, ?_⟩
  | refine ⟨_, _, rfl, by assumption, ?_⟩
  | refine ⟨_, _, _, rfl, rfl, rfl, ?_⟩
  | refine ⟨_, _, _, rfl, rfl, by assumption, ?_⟩
  | refine ⟨_, _, _, rfl, rfl, by walk_at "side", by assumption, ?_⟩
  | refine ⟨_, _, _, rfl, rfl, by walk_at "side", rfl, ?_⟩
  | refine ⟨_, _, _, rfl, rfl, rfl, by assumption, ?_⟩
  | refine .inl ⟨_, rfl, ?_⟩
  | refine .inr ⟨_, rfl, ?_⟩
  | refine .inr (.inl ⟨_, rfl, ?_⟩)
  | refine .inr (.inr ⟨_, rfl, ?_⟩)
  | refine ⟨_, .inl rfl, ?_⟩
  | refine ⟨_, .inr rfl, ?_⟩
  | refine .inr ⟨_, _, rfl, ?_⟩
  | refine .inl ⟨_, _, rfl, ?_⟩
  | refine And.intro (by walk_at "side") ?_))

theorem law_ok (T : Txt LL K mg) (M : Mo2 cs sms cis mxs K mg) : ∃ fd : FuncData, (∀ (s : Shared) (v : Value), BindsTo s fd ⟨[v], []⟩ [("script", v)]) ∧ ∀ base : Heap, FnOk P w K mg base CX0 12 (d_law.at_ K) fd ["script"] (spLaw K) := by
  refine law_of (T.d 50 (d := d_law)) sc_law rfl (fun _ _ _ _ _ _ us hl => match us, hl with | [_], _ => rfl) (fun base fd cdv A outer s H E hr => ?_)
  obtain ⟨F_law_draws⟩ := fn_law_draws (P := P) (w := w) (base := base) T M
  obtain ⟨F_law_thing⟩ := fn_law_thing (P := P) (w := w) (base := base) T M
  obtain ⟨F_law_factors⟩ := fn_law_factors (P := P) (w := w) (base := base) T M
  obtain ⟨F_law_low⟩ := fn_law_low (P := P) (w := w) (base := base) T M
  obtain ⟨F_law_made⟩ := fn_law_made (P := P) (w := w) (base := base) T M
  obtain ⟨F_law_is⟩ := fn_law_is (P := P) (w := w) (base := base) T M
  obtain ⟨F_law_alone⟩ := fn_law_alone (P := P) (w := w) (base := base) T M
  obtain ⟨F_law_pair⟩ := fn_law_pair (P := P) (w := w) (base := base) T M
  obtain ⟨F_law_made_others⟩ := fn_law_made_others (P := P) (w := w) (base := base) T M
  obtain ⟨F_law_refusals⟩ := fn_law_refusals (P := P) (w := w) (base := base) T M
  refine ⟨_, pdss_cons (pds_set (i := 1) sc_law.nd rfl (by first | exact Or.inl rfl | exact Or.inr rfl) (pd_call F_law_draws (hr.mono (by decide)) (by rfl) (T.g "_law_draws") (T.k "_law_draws") takes0 (pda_cons (pd_var (pv 0)) (pda_cons (pd_int pe_int) (pda_cons (pd_int pe_int) pda_nil))))) (pdss_cons (pds_set (i := 2) sc_law.nd rfl (by first | exact Or.inl rfl | exact Or.inr rfl) (pd_op op_add l_I0 (pd_int pe_int) (pd_op op_modN l_I (pd_cb (fun h => pe_callTy call_int1 (by rfl) (T.f "int") (by decide +kernel) h) l_int (pda_cons (pd_ix ix_list l_ixL (pd_var (pv 1)) (pd_int pe_int) (fun _ _ => rfl)) pda_nil)) (pd_int pe_int)))) (pdss_cut (pds_if (pdt_cmp op_eq l_eq (pd_op op_modN l_I (pd_cb (fun h => pe_callTy call_int1 (by rfl) (T.f "int") (by decide +kernel) h) l_int (pda_cons (pd_op op_fdivZ l_I (pd_ix ix_list l_ixL (pd_var (pv 1)) (pd_int pe_int) (fun _ _ => rfl)) (pd_int pe_int)) pda_nil)) (pd_int pe_int)) (pd_int pe_int) (nomark _)) (pdss_one (pds_set (i := 2) sc_law.nd rfl (by first | exact Or.inl rfl | exact Or.inr rfl) (pd_int pe_int))) pdss_nil) (pdss_cons (pds_set (i := 3) sc_law.nd rfl (by first | exact Or.inl rfl | exact Or.inr rfl) (pd_var (pv 2))) (pdss_cut (pds_if (pdt_cmp op_eq l_eq (pd_op op_modN l_I (pd_cb (fun h => pe_callTy call_int1 (by rfl) (T.f "int") (by decide +kernel) h) l_int (pda_cons (pd_ix ix_list l_ixL (pd_var (pv 1)) (pd_int pe_int) (fun _ _ => rfl)) pda_nil)) (pd_int pe_int)) (pd_int pe_int) (nomark _)) (pdss_one (pds_set (i := 3) sc_law.nd rfl (by first | exact Or.inl rfl | exact Or.inr rfl) (pd_op op_add l_I0 (pd_int pe_int) (pd_op op_modN l_I (pd_cb (fun h => pe_callTy call_int1 (by rfl) (T.f "int") (by decide +kernel) h) l_int (pda_cons (pd_op op_fdivZ l_I (pd_ix ix_list l_ixL (pd_var (pv 1)) (pd_int pe_int) (fun _ _ => rfl)) (pd_int pe_int)) pda_nil)) (pd_int pe_int))))) pdss_nil) (pdss_cons (pds_set (i := 4) sc_law.nd rfl (by first | exact Or.inl rfl | exact Or.inr rfl) (pd_call F_law_thing (hr.mono (by decide)) (by rfl) (T.g "_law_thing") (T.k "_law_thing") takes0 (pda_cons (pd_var (pv 0)) (pda_cons (pd_int pe_int) (pda_cons (pd_var (pv 2)) pda_nil))))) (pdss_cons (pds_set (i := 5) sc_law.nd rfl (by first | exact Or.inl rfl | exact Or.inr rfl) (pd_call F_law_thing (hr.mono (by decide)) (by rfl) (T.g "_law_thing") (T.k "_law_thing") takes0 (pda_cons (pd_var (pv 0)) (pda_cons (pd_int pe_int) (pda_cons (pd_var (pv 3)) pda_nil))))) (pdss_cons (pds_asg (pd_call F_law_factors (hr.mono (by decide)) (by rfl) (T.g "_law_factors") (T.k "_law_factors") takes0 (pda_cons (pd_var (pv 0)) (pda_cons (pd_var (pv 1)) pda_nil))) (pdg_tup (n := 2) (by rfl) (pdgs_cons (pdg_name (pg_name (i := 6) sc_law.nd rfl (by first | exact Or.inl rfl | exact Or.inr rfl))) (pdgs_cons (pdg_name (pg_name (i := 7) sc_law.nd rfl (by first | exact Or.inl rfl | exact Or.inr rfl))) pdgs_nil)))) (pdss_cons (pds_set (i := 8) sc_law.nd rfl (by first | exact Or.inl rfl | exact Or.inr rfl) (pd_call F_law_low (hr.mono (by decide)) (by rfl) (T.g "_law_low") (T.k "_law_low") takes0 (pda_cons (pd_ix ix_tup l_ixT (pd_var (pv 4)) (pd_int pe_int) (fun _ _ => rfl)) (pda_cons (pd_ix ix_tup l_ixT (pd_var (pv 4)) (pd_int pe_int) (fun _ _ => rfl)) pda_nil)))) (pdss_cons (pds_set (i := 9) sc_law.nd rfl (by first | exact Or.inl rfl | exact Or.inr rfl) (pd_call F_law_low (hr.mono (by decide)) (by rfl) (T.g "_law_low") (T.k "_law_low") takes0 (pda_cons (pd_ix ix_tup l_ixT (pd_var (pv 5)) (pd_int pe_int) (fun _ _ => rfl)) (pda_cons (pd_ix ix_tup l_ixT (pd_var (pv 5)) (pd_int pe_int) (fun _ _ => rfl)) pda_nil)))) (pdss_cons (pds_set (i := 10) sc_law.nd rfl (by first | exact Or.inl rfl | exact Or.inr rfl) (pd_call F_law_made (hr.mono (by decide)) (by rfl) (T.g "_law_made") (T.k "_law_made") takes0 (pda_cons (pd_var (pv 4)) pda_nil))) (pdss_cons (pds_set (i := 11) sc_law.nd rfl (by first | exact Or.inl rfl | exact Or.inr rfl) (pd_call F_law_made (hr.mono (by decide)) (by rfl) (T.g "_law_made") (T.k "_law_made") takes0 (pda_cons (pd_var (pv 5)) pda_nil))) (pdss_cons (pds_for (passes_of rfl) rfl (pdi_range1 rfl (T.f "range") (pda_cons (pd_int pe_int) pda_nil)) (pdg_name (pg_name (i := 12) sc_law.nd rfl (by first | exact Or.inl rfl | exact Or.inr rfl))) (pdss_cons (pds_if (PDW.pt (pdw_or (pdt_not (pdt_val (pd_call F_law_is (hr.mono (by decide)) (by rfl) (T.g "_law_is") (T.k "_law_is") takes0 (pda_cons (pd_var (pv 10)) (pda_cons (pd_var (pv 8)) pda_nil))))) (pdw_or1 (pdt_not (pdt_val (pd_call F_law_is (hr.mono (by decide)) (by rfl) (T.g "_law_is") (T.k "_law_is") takes0 (pda_cons (pd_var (pv 11)) (pda_cons (pd_var (pv 9)) pda_nil)))))))) (pdss_one (pds_ret (pd_bl pe_bl))) pdss_nil) (pdss_cons (pds_if (PDW.pt (pdw_or (pdt_not (pdt_val (pd_call F_law_alone (hr.mono (by decide)) (by rfl) (T.g "_law_alone") (T.k "_law_alone") takes0 (pda_cons (pd_var (pv 10)) (pda_cons (pd_var (pv 8)) (pda_cons (pd_var (pv 6)) (pda_cons (pd_var (pv 7)) pda_nil))))))) (pdw_or1 (pdt_not (pdt_val (pd_call F_law_alone (hr.mono (by decide)) (by rfl) (T.g "_law_alone") (T.k "_law_alone") takes0 (pda_cons (pd_var (pv 11)) (pda_cons (pd_var (pv 9)) (pda_cons (pd_var (pv 6)) (pda_cons (pd_var (pv 7)) pda_nil)))))))))) (pdss_one (pds_ret (pd_bl pe_bl))) pdss_nil) (pdss_cons (pds_if (PDW.pt (pdw_or (pdt_not (pdt_val (pd_call F_law_pair (hr.mono (by decide)) (by rfl) (T.g "_law_pair") (T.k "_law_pair") takes0 (pda_cons (pd_var (pv 10)) (pda_cons (pd_var (pv 11)) (pda_cons (pd_var (pv 8)) (pda_cons (pd_var (pv 9)) pda_nil))))))) (pdw_or (pdt_not (pdt_val (pd_call F_law_pair (hr.mono (by decide)) (by rfl) (T.g "_law_pair") (T.k "_law_pair") takes0 (pda_cons (pd_var (pv 11)) (pda_cons (pd_var (pv 10)) (pda_cons (pd_var (pv 9)) (pda_cons (pd_var (pv 8)) pda_nil))))))) (pdw_or1 (pdt_not (pdt_val (pd_call F_law_pair (hr.mono (by decide)) (by rfl) (T.g "_law_pair") (T.k "_law_pair") takes0 (pda_cons (pd_var (pv 10)) (pda_cons (pd_var (pv 10)) (pda_cons (pd_var (pv 8)) (pda_cons (pd_var (pv 8)) pda_nil))))))))))) (pdss_one (pds_ret (pd_bl pe_bl))) pdss_nil) (pdss_one (pds_if (PDW.pt (pdw_or (pdt_not (pdt_val (pd_call F_law_refusals (hr.mono (by decide)) (by rfl) (T.g "_law_refusals") (T.k "_law_refusals") takes0 (pda_cons (pd_var (pv 4)) pda_nil)))) (pdw_or1 (pdt_not (pdt_val (pd_call F_law_made_others (hr.mono (by decide)) (by rfl) (T.g "_law_made_others") (T.k "_law_made_others") takes0 (pda_cons (pd_var (pv 4)) (pda_cons (pd_var (pv 8)) (pda_cons (pd_op op_modN l_I (pd_cb (fun h => pe_callTy call_int1 (by rfl) (T.f "int") (by decide +kernel) h) l_int (pda_cons (pd_ix ix_list l_ixL (pd_var (pv 1)) (pd_int pe_int) (fun _ _ => rfl)) pda_nil)) (pd_var (pv 2))) pda_nil))))))))) (pdss_one (pds_ret (pd_bl pe_bl))) pdss_nil)))))) (pdss_one (pds_ret (pd_and (pd_call F_law_is (hr.mono (by decide)) (by rfl) (T.g "_law_is") (T.k "_law_is") takes0 (pda_cons (pd_var (pv 10)) (pda_cons (pd_var (pv 8)) pda_nil))) (pd_one (pd_call F_law_is (hr.mono (by decide)) (by rfl) (T.g "_law_is") (T.k "_law_is") takes0 (pda_cons (pd_var (pv 11)) (pda_cons (pd_var (pv 9)) pda_nil))))))))))))))))))), fun ns hl => ?_⟩
  walk_at "go"
  intro zs hzl hzb
  have hz8 : zs.length = 8 := by omega
  obtain ⟨d0, m0, _, x0⟩ := at_ex (l := zs) (k := 0) (by decide) (by omega)
  obtain ⟨d1, m1, _, x1⟩ := at_ex (l := zs) (k := 1) (by decide) (by omega)
  obtain ⟨d2, m2, _, x2⟩ := at_ex (l := zs) (k := 2) (by decide) (by omega)
  walk_at "go"
  refine ⟨fun env => ∃ n : Nat, env = [.val (.lst (ns.map D.int)), .val (.lst (zs.map D.int)), .val (.int n), .no, .no, .no, .no, .no, .no, .no, .no, .no, .no] ∧ 0 < n ∧ n ≤ 30, ?_, ?_⟩
  · walk_at "go"
    refine d_ite (fun c => ?_) (fun c => ?_)
    · walk_at "go"
      exact fun _ => ⟨30, rfl, by decide, by decide⟩
    · have a1 := fmod_lo d0 (j := 6) (by decide)
      have a2 := fmod_hi d0 (j := 6) (by decide)
      walk_at "go"
      exact fun _ => ⟨(1 + d0.fmod 6).toNat, by rw [Int.toNat_of_nonneg (by omega)]; rfl, by omega, by omega⟩
  rintro env ⟨n, rfl, n0, n1⟩
  walk_at "go"
  refine ⟨fun env => ∃ m : Nat, env = [.val (.lst (ns.map D.int)), .val (.lst (zs.map D.int)), .val (.int n), .val (.int m), .no, .no, .no, .no, .no, .no, .no, .no, .no] ∧ 0 < m ∧ m ≤ 30, ?_, ?_⟩
  · walk_at "go"
    refine d_ite (fun c => ?_) (fun c => ?_)
    · have a1 := fmod_lo (d1.fdiv 4) (j := 7) (by decide)
      have a2 := fmod_hi (d1.fdiv 4) (j := 7) (by decide)
      walk_at "go"
      exact fun _ => ⟨(1 + (d1.fdiv 4).fmod 7).toNat, by rw [Int.toNat_of_nonneg (by omega)]; rfl, by omega, by omega⟩
    · walk_at "go"
      exact fun _ => ⟨n, rfl, n0, n1⟩
  rintro env ⟨m, rfl, m0', m1'⟩
  walk_at "go"
  intro ts b htl hb htb hbb
  walk_at "go"
  intro us c hul hc hub hcb
  walk_at "go"
  intro f p q hf hp hq hq0
  have tn : ts ≠ [] := fun z => by rw [z] at htl; simp at htl; omega
  have un : us ≠ [] := fun z => by rw [z] at hul; simp at hul; omega
  have hb8 : b.natAbs < 2 ^ 8999 := abs_up hbb (by decide)
  have hc8 : c.natAbs < 2 ^ 8999 := abs_up hcb (by decide)
  have ht8 : ∀ t ∈ ts, t.natAbs < 2 ^ 8999 := htb.up (by decide)
  have hu8 : ∀ t ∈ us, t.natAbs < 2 ^ 8999 := hub.up (by decide)
  have tl : ts.length ≤ 1000 := by omega
  have ul : us.length ≤ 1000 := by omega
  have hv := low_vec hb tn tl htb hbb
  have hw := low_vec hc un ul hub hcb
  have tl2 : (lT ts b).length ≤ 30 := by rw [low_len]; omega
  have ul2 : (lT us c).length ≤ 30 := by rw [low_len]; omega
  have tl3 : (lT ts b).length ≤ 1000 := by omega
  have ul3 : (lT us c).length ≤ 1000 := by omega
  have ts30 : ts.length ≤ 30 := by omega
  have f60 : f.natAbs < 2 ^ 60 := Nat.lt_of_lt_of_le hf (by decide +kernel)
  have p60 : p.natAbs < 2 ^ 60 := Nat.lt_of_lt_of_le hp (by decide +kernel)
  have q60 : q.natAbs < 2 ^ 60 := Nat.lt_of_lt_of_le hq (by decide +kernel)
  have nz : (n : Int) ≠ 0 := by omega
  walk_at "go"
  refine ⟨fun i env => ∃ w : Sl, env = [.val (.lst (ns.map D.int)), .val (.lst (zs.map D.int)), .val (.int n), .val (.int m), .val (lowD ts b), .val (lowD us c), .val (.int f), .val (.lst [.int p, .int q]), .val (lowD (lT ts b) (lB ts b)), .val (lowD (lT us c) (lB us c)), .val (V (lT ts b) (lB ts b)), .val (V (lT us c) (lB us c)), w], fun _ => ⟨_, rfl⟩, ?_, ?_⟩
  · rintro i x env hx ⟨w, rfl⟩
    walk_at "go"
    refine ⟨lT ts b, lB ts b, f, p, q, rfl, hv, tl2, f60, p60, q60, hq0, ?_⟩
    walk_at "go"
    refine ⟨lT us c, lB us c, f, p, q, rfl, hw, ul2, f60, p60, q60, hq0, ?_⟩
    walk_at "go"
    exact fun _ => ⟨_, rfl⟩
  rintro env ⟨w, rfl⟩
  walk_at "go"
  rfl
end
end K02

open PySem PySem.W PySem.Calls PyProof.Rows
theorem PySem.Challenge.cw_lastrows_k02_vectors_holds : PySem.Challenge.rw_lastrows_k02_vectors.Holds := by
  w_on; o_law
  refine HandSHeadRun.head_imp (r := OpenLaw.row PySem.Challenge.rw_lastrows_k02_vectors) (q := view (OpenLaw.row PySem.Challenge.rw_lastrows_k02_vectors).prog [61]) (H := K02.hk) (ob := K02.ob) (M := 9000) (loose := K02.looseL) (d := HandSHeadRun.topDef (OpenLaw.row PySem.Challenge.rw_lastrows_k02_vectors).prog 61) (kwd := []) K02.ob_eq
    K02.run (by kernel_rfl) (by kernel_rfl) (by kernel_rfl) (by rfl) (by first | assumption | decide +kernel) (by decide +kernel) ⟨rfl, rfl, rfl, rfl, rfl, by decide +kernel⟩ ?hw ?hc
  case hw => w_witness2
  case hc =>
    refine L2.walk_ofE (l := PySem.Challenge.rw_lastrows_k02_vectors) (n := 63) (k := 12) (x := "script") (CX := L2.CX0) rfl (by decide) (by kernel_rfl) ⟨rfl, by decide, by decide⟩ ?F (fun _ _ _ _ z => z)
    intro w mg fa h Y G hmg0
    obtain ⟨K, KX, c, M⟩ := Y
    have hmg : mg ("law" : PySem.Str) = some (.ref fa) := by
      have e : (HandSHeadRun.topDef (OpenLaw.row PySem.Challenge.rw_lastrows_k02_vectors).prog 61).name = ("law" : PySem.Str) := by kernel_rfl
      rw [← e]
      exact hmg0
    have T : LR.Txt K02.LL K mg := LR.Txt.of KX G c
    have M2 : DL.Mo2 K02.cs K02.sms K02.cis K02.mxs K mg := DL.Mo2.of KX G (fun c hc => T.clA _ (K02.cs_cl c hc)) M
    have ea : fa = He.ga K "law" := Value.ref.inj (Option.some.inj (hmg.symm.trans (T.g "law")))
    subst ea
    obtain ⟨fd, hb, hF⟩ := K02.law_ok (P := (PySem.Challenge.rw_lastrows_k02_vectors).prog) (w := w) T M2
    exact ⟨K, fd, DL.spLaw K, KX, hb, fun H a ns hl _ hS => ⟨a, ns, rfl, hS, hl, fun _ => rfl⟩, fun base _ _ => hF base⟩

