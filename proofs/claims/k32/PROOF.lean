import PyProof.Rows.All
import Wide.All
import OpenK.AllK
import Wide.FinOn
import HandS.ForMost
import HandS.Exc
import HandS.ExcOwn
import HandS.ExcInit
import HandS.ExcField
import HandS.ExcIs
import HandS.TryOnly
import HandS.WordsExc
import HandS.IsInst
import HandS.Property
import HandS.Wide
import HandS.WideBits
import HandS.Gcd
import HandS.Flow
import HandS.Zip
import HandS.Codes
import KE.KOpsOwn
import HandS.Defaults
import HandS.Head0
import HandS.Head1
import HandS.Head2
import HandS.Head3
import HandS.HeadHook4
import HandS.HeadEnd
import PySem.Challenge.RW_lastrows_k32_trace_table
import HandS.FStr
import HandS.StrMore
import KE.KCallOwn
import KE.KxText
import PyProof.Rows.SeqMore
import HandS.TryMany
import PyProof.ListMulRight
import KE.KMathGC
import HandS.TupAny
import HandS.TupLe
import KE.GoesEnum
import HandS.Conv
import HandS.GenList
import KE.KDictZip
import HandS.Star
import HandS.Style
set_option Elab.async false
set_option linter.all false
set_option maxRecDepth 100000
set_option maxHeartbeats 4000000
set_option maxHeartbeats 1000000
namespace PySem.W
open PySem PySem.Spec PySem.Calls PyProof.Rows
section
variable {prog : Program} {w : World} {A : Around} {E : Value → Shared → Prop} {s : Shared} {K : Frag} {x D : Addr} {ox : Obj}
theorem kin_classD {Q : Option Value → Shared → Prop} (hga : findIn K (.ref D) "__getattribute__" = some (some (.builtin "BaseException.__getattribute__"))) (hgt : findIn K (.ref D) "__getattr__" = some none) (hsub : subIn K (.ref D) (.type "BaseException") = some true)
    (hdct : hasDictIn K D = true) (ha : findIn K (.ref D) "__class__" = some (some (.builtin "object.__class__")))
    (hn : specialIn K (.builtin "object.__class__") "__get__" = some (some (.builtin "getset_descriptor.__get__"))) (htk : takesIn K (.builtin "object.__class__") = some true) (hm : mroIn K D (.type "object") = some true)
    (X : K.In s.heap) {od : Obj} (I : InstAt s.heap x ox D (some od)) (h : Q (some (.ref D)) { s with toks := s.toks + 1 }) : wpAny (model prog w) A (getAttr? (.ref x) "__class__") Q E s := by
  have hf : findObj K D (some od) "__class__" = some (.bind (.builtin "getset_descriptor.__get__") (.builtin "object.__class__")) := findObj_data (by obtain ⟨cd, hc, _⟩ := any_some hdct; rw [hc]; rfl) ha hn htk
  obtain ⟨hp, g, d, t, os⟩ := s
  have L0 := I.type (M := model prog w)
  have L1 := looks_findIn (M := model prog w) X hga
  have L2 := looks_findIn (M := model prog w) X hgt
  have L3 := looks_find (M := model prog w) X I hf
  have sub : Looks (model prog w) hp (isInstance (.ref x) (.type "BaseException")) true := L0.andThen (looks_subIn X hsub)
  have hx0 : (false && onTheHeap (Value.builtin "BaseException.__getattribute__")) = false := rfl
  have hx2 : (Value.builtin "BaseException.__getattribute__" == Value.builtin "object.__getattribute__") = false := by decide +kernel
  have hx1 : (onTheHeap (Value.ref D) && Value.builtin "BaseException.__getattribute__" == Value.builtin "object.__getattribute__") = false := by rw [hx2]; rfl
  unfold getAttr? getAttrBy? getAttrBy
  refine wpAny_bind (wpAny_mkText (wpAny_bind (wpAny_attempt (wpAny_holding (wpAny_bind (L0.at (wpAny_bind (L1.at ?_))))))))
  show wpAny _ _ (if (onTheHeap (Value.ref D) && Value.builtin "BaseException.__getattribute__" == Value.builtin "object.__getattribute__") = true then _ else _) _ _ _
  rw [hx1, if_neg Bool.false_ne_true]
  unfold getAttrByItsOwn hookBefore
  refine wpAny_bind ?_
  rw [if_pos (show onTheHeap (Value.ref D) = true from rfl)]
  refine L2.at ?_
  refine wpAny_bind (wpAny_attempt (wpAny_holding ?_))
  unfold callGetattribute
  rw [hx0, if_neg Bool.false_ne_true]
  unfold boundAndCalled
  rw [PySem.F.excAttr_ValueError.ga.bind (.ref x)]
  refine wpAny_bind (wpAny_pure ?_)
  show wpAny _ _ (call (.builtin "BaseException.__getattribute__") [.ref x, .str "__class__" t]) _ _ _
  refine wpAny_call (codeAny_call_builtin PySem.F.excAttr_ValueError.ga.plain PySem.F.entry_bexc_ga ?_)
  refine @check_slot (model prog w) _ _ ⟨hp, g, d, t + 1, os⟩ "BaseException.__getattribute__" "BaseException" "__getattribute__" (.ref x) [.str "__class__" t] [] _ (by decide +kernel) (by decide +kernel) sub (PySem.F.args_bexc_ga (.ref x) (.str "__class__" t)) ?_
  unfold Builtin.«object.__getattribute__»
  refine wpAny_bind (wpAny_of_eq (a := ((Value.ref x : Value), [Value.str "__class__" t])) (by first | rfl | (simp only [slotArgs]; rfl)) ?_)
  refine wpAny_bind (wpAny_pure (wpAny_bind (L0.at (wpAny_bind (L3.at ?_)))))
  show wpAny _ _ (holding [Value.builtin "object.__class__"] (call (.builtin "getset_descriptor.__get__") [.builtin "object.__class__", .ref x, .ref D]) >>= ret) _ _ _
  refine wpAny_bind (wpAny_holding (wpAny_call (class_get (s := ⟨hp, g, d, t + 1, os⟩) (ox := ox) (od := some od) X I hm ?_)))
  refine wpAny_pure ?_
  show wpAny _ _ (handedOut (.ref D)) _ _ _
  rw [handedOut_of (v := .ref D) rfl]
  first
    | exact wpAny_pure (wpAny_pure h)
    | exact wpAny_pure h
    | exact wpAny_pure (wpAny_bind (wpAny_pure (wpAny_pure h)))
theorem kitx_excD (hga : findIn K (.ref D) "__getattribute__" = some (some (.builtin "BaseException.__getattribute__"))) (hgt : findIn K (.ref D) "__getattr__" = some none) (hsub : subIn K (.ref D) (.type "BaseException") = some true) (hdct : hasDictIn K D = true) (ha : findIn K (.ref D) "__class__" = some (some (.builtin "object.__class__")))
    (hn : specialIn K (.builtin "object.__class__") "__get__" = some (some (.builtin "getset_descriptor.__get__"))) (htk : takesIn K (.builtin "object.__class__") = some true) (hm : mroIn K D (.type "object") = some true) :
    KitX K (.ref x) (.ref D) (fun h => ∃ od : Obj, InstAt h x ox D (some od)) where
  ty := fun _ _ _ ⟨_, I⟩ => I.type
  it := fun _ _ X _ => by
    obtain ⟨cdD, hcD, _⟩ := any_some hdct
    unfold clsIn at hcD
    split at hcD
    · rename_i c' d' cd' sl' ho
      intro A' Q' E' s' k q
      unfold isType loadHead
      exact wpAny_bind (wpAny_loadPart (k _ _ (X _ _ ho)) (wpAny_pure q))
    · cases hcD
  ne := fun h tp dd its n sl X htp => by
    obtain ⟨cdD, hcD, _⟩ := any_some hdct
    refine Bool.eq_false_iff.mpr fun q => ?_
    have e : D = tp := Value.ref.inj (beq_iff_eq.mp q)
    subst e
    unfold clsIn at hcD
    split at hcD
    · rename_i c' d' cd' sl' ho
      have z := (X _ _ ho).symm.trans htp
      cases z
    · cases hcD
  ca := fun X ⟨_, I⟩ k => kin_classD hga hgt hsub hdct ha hn htk hm X I k
end
end PySem.W
namespace LR
open PySem PySem.Spec PyProof.Rows L2
/-- isinstance(e, c), e the exception that the suite holds (class cls, dict d) -/
def rIsD (K : PySem.W.Frag) (D a : Addr) (cls : Value) (d : Option Addr) : List V → Hp → VK → Prop := fun xs H Q => ∃ (c : V) (cv : Value) (b : Bool) (dd : Addr) (fs : List (Str × V)), xs = [.ref a, c] ∧ cls = .ref D ∧ d = some dd ∧ H dd = some (.xd fs) ∧ ClsV c cv ∧
  PySem.W.kitOne K (.ref D) cv = some b ∧ Q (.bl b) H
theorem call_isD {X : Cx} {a D : Addr} {cls : Value} {d : Option Addr} {oe : Obj} {pn : List (Addr × Obj)} (C : ExcC X.K D) (hz : Zc cls d oe) (hf : ∃ vs, oe.data = .fields vs) : CallR (X.suite a ((a, oe) :: pn)) (.builtin "isinstance") (rIsD X.K D a cls d) := by
  intro pins s σ H xs us Q I r h
  obtain ⟨c, cv, b, dd, fs, rfl, rfl, rfl, hd, hcv, e, q⟩ := h
  cases r with
  | cons rx rr =>
    cases rr with
    | cons rt rr =>
      cases rr
      cases rx
      have ec := hcv.eq rt
      subst ec
      obtain ⟨hget, _⟩ := I.pin (a, oe) (List.mem_append.mpr (.inl List.mem_cons_self))
      obtain ⟨vs, hv⟩ := hf
      have hx : ObjOk X.prog X.w H s.heap dd (.xd fs) := I.hok dd _ hd
      obtain ⟨mA, hns, hr⟩ := hx
      obtain ⟨od, ho, hl⟩ := lookIn_ns hns
      have J : PySem.W.InstAt s.heap a oe D (some od) := ⟨hget, hz.1, by unfold PySem.W.notCls; rw [hv] <;> rfl, by rw [hz.2]; exact ho⟩
      exact PySem.W.kia_one (PySem.W.kitx_excD C.hg C.hk C.hs C.hd C.ha C.hn C.ht C.hm) I.kIn ⟨od, J⟩ e (fun z => nomatch z) fun tk => ⟨.bl b, H, I.kept (t' := tk) fun _ _ z => z, rfl, q⟩
end LR
namespace LR
open PySem PySem.Spec PyProof.Rows L2
section
variable {X : Cx}
/-! wide ints -/
def CDivZ (_ j : Int) : Prop := j ≠ 0 ∧ j.natAbs.log2 < 9000
theorem op_fdivZ : OpR X (binaryOp .FloorDiv) (rI CDivZ fun i j => .int (i.fdiv j)) := opI fun i j _ _ _ _ _ hc q => floordiv_int hc.1 q (.inl (PyProof.noPylong_of_log2 hc.2))
def CPowZ (i j : Int) : Prop := 0 ≤ j ∧ (Builtin.Int.intBits i : Int) * j ≤ 2 ^ 27
theorem op_powZ : OpR X (binaryOp .Pow) (rI CPowZ fun i j => .int (i ^ j.toNat)) := opI fun i j _ _ _ _ _ hc q => pow_int hc.1 hc.2 q
end

/-! own operators -/
theorem cmpBack_of {v : V} {u : Value} {s : Shared} {Q : Value → Shared → Prop} (r : RelV v u) (h : Q u s) : PySem.W.CmpBack Q u s := by
  cases v with
  | non => cases (show u = Value.none from r); exact h
  | bl b => cases (show u = Value.bool b from r); exact h
  | int i => obtain ⟨t, rfl⟩ := (show ∃ t, u = Value.int i t from r); exact h
  | str x => obtain ⟨t, rfl⟩ := (show ∃ t, u = Value.str x t from r); exact h
  | byt b => obtain ⟨t, rfl⟩ := (show ∃ t, u = Value.bytes b t from r); exact h
  | flt b => obtain ⟨t, rfl⟩ := (show ∃ t, u = Value.float b t from r); exact h
  | ref a => cases (show u = Value.ref a from r); exact h
  | ty n => cases (show u = Value.type n from r); exact h

section
variable {X : Cx} {CX : CXT} {k : Nat} {C f : Addr} {fd : FuncData} {ps : List Str} {sp : Sp} {E : XK}
/-- x op y, two instances of one class, by its own method -/
def rBinO (C : Addr) (sp : Sp) (E : XK) : R2 := fun x y H Q => ∃ (a dx : Addr) (fs : List (Str × V)) (b dy : Addr) (gs : List (Str × V)), x = .ref a ∧ y = .ref b ∧ H a = some (.ins C dx fs) ∧ H b = some (.ins C dy gs) ∧ sp [.ref a, .ref b] H Q E
theorem op_binO {op : Operator} (hc : PySem.W.selfFirst X.K C = true) (hs : PySem.W.findIn X.K (.ref C) (PySem.dunder op.info.2) = some (some (.ref f))) (hf : PySem.W.isFn X.K (.ref f) = true)
    (F : FnOk X.prog X.w X.K X.mg X.base CX k f fd ps sp) (hr : Room k X.A) (hb : Binds X.K fd ps []) (hx : Passes CX X E) : OpR X (binaryOp op) (rBinO C sp E) := by
  intro pins s σ H x y v u Q I rx ry h
  obtain ⟨a, dx, fs, b, dy, gs, rfl, rfl, ha, hb', q⟩ := h
  cases rx
  cases ry
  obtain ⟨mA, J, _⟩ := ins_get I.hok ha
  obtain ⟨mB, J', _⟩ := ins_get I.hok hb'
  obtain ⟨od, J, _⟩ := J.look
  obtain ⟨od', J', _⟩ := J'.look
  obtain ⟨m, hF⟩ := I.fr
  refine PySem.W.binop_K hF I.ok.mod.kin J J'.type hc hs hf ?_
  exact wpAny_mono (run_fn F hr hb .nil hx I (vs := [.ref a, .ref b]) (.cons rfl (.cons rfl .nil)) q) (fun u s' z => by
    obtain ⟨v, H', I', r, q'⟩ := z
    exact cmpBack_of r ⟨v, H', I', r, q'⟩) fun _ _ e => e
/-- -x by its own method -/
def rUnO (C : Addr) (sp : Sp) (E : XK) : V → Hp → VK → Prop := fun x H Q => ∃ (a dx : Addr) (fs : List (Str × V)), x = .ref a ∧ H a = some (.ins C dx fs) ∧ sp [.ref a] H Q E
theorem un_negO (hs : PySem.W.findIn X.K (.ref C) "__neg__" = some (some (.ref f))) (hf : PySem.W.isFn X.K (.ref f) = true)
    (F : FnOk X.prog X.w X.K X.mg X.base CX k f fd ps sp) (hr : Room k X.A) (hb : Binds X.K fd ps []) (hx : Passes CX X E) : UnR X (unaryOp .USub) (rUnO C sp E) := by
  intro pins s σ H x v Q I rx h
  obtain ⟨a, dx, fs, rfl, ha, q⟩ := h
  cases rx
  obtain ⟨mA, J, _⟩ := ins_get I.hok ha
  obtain ⟨od, J, _⟩ := J.look
  obtain ⟨m, hF⟩ := I.fr
  refine PySem.W.ksp_neg hF I.ok.mod.kin J hs hf ?_
  exact run_fn F hr hb .nil hx I (vs := [.ref a]) (.cons rfl .nil) q
/-- x == y by its own method, y anything of a told type -/
def rCmpO (C : Addr) (sp : Sp) (E : XK) (K : PySem.W.Frag) : R2 := fun x y H Q => ∃ (a dx : Addr) (fs : List (Str × V)) (t : Value), x = .ref a ∧ H a = some (.ins C dx fs) ∧ TyX K H y t ∧ PySem.W.notFirst K C t = true ∧ sp [.ref a, y] H Q E
theorem op_eqO (hs : PySem.W.findIn X.K (.ref C) "__eq__" = some (some (.ref f))) (hf : PySem.W.isFn X.K (.ref f) = true)
    (F : FnOk X.prog X.w X.K X.mg X.base CX k f fd ps sp) (hr : Room k X.A) (hb : Binds X.K fd ps []) (hx : Passes CX X E) : OpR X (compareOp .Eq) (rCmpO C sp E X.K) := by
  intro pins s σ H x y v u Q I rx ry h
  obtain ⟨a, dx, fs, t, rfl, ha, ty, hn, q⟩ := h
  cases rx
  obtain ⟨P, Z, p, _⟩ := kit_of I ry ty
  obtain ⟨mA, J, _⟩ := ins_get I.hok ha
  obtain ⟨od, J, _⟩ := J.look
  obtain ⟨m, hF⟩ := I.fr
  show wpAny (model X.prog X.w) X.A (richCompare .Eq (.ref a) u) (EP X pins σ Q) X.xe s
  refine PySem.W.cmp_K (op := .Eq) (hu_of hr |> Nat.lt_of_succ_lt) hF I.ok.mod.kin J (Z.ty _ _ I.kIn p) hn hs hf ?_
  exact wpAny_mono (run_fn F hr hb .nil hx I (vs := [.ref a, y]) (.cons rfl (.cons ry .nil)) q) (fun u s' z => by
    obtain ⟨v, H', I', r, q'⟩ := z
    exact cmpBack_of r ⟨v, H', I', r, q'⟩) fun _ _ e => e
end

/-! != by an own __eq__ -/
section
open PySem.W PySem.Calls Builtin
variable {prog : Program} {w : World} {A : Around} {E : Value → Shared → Prop} {s : Shared} {K : PySem.W.Frag} {x C L f : Addr} {h₀ : Heap} {m : Str → Option Value} {ox : Obj} {od : Option Obj} {b tb : Value}
theorem ifBound_S {M : Model} {args : List Value} {name : Str} {id : String} {Q : Option Value → Shared → Prop} (X : K.In s.heap) (I : InstAt s.heap x ox C od) (hs : findIn K (.ref C) name = some (some (.builtin id)))
    (hb : ∀ self, bindSpecial (.builtin id) self = pure (.builtin id, [self])) (h : wpAny M A (call (.builtin id) (.ref x :: args)) (fun v => Q (some v)) E s) : wpAny M A (callSpecialIfBound? (.ref x) name args) Q E s := by
  simp only [callSpecialIfBound?, bindSpecialIfBound?]
  refine wpAny_holding (wpAny_bind (wpAny_bind (wpAny_bind (I.type.here ((looks_findIn X hs).here ?_)))))
  simp only [hb]
  refine wpAny_bind (wpAny_askSetting (wpAny_ite ?_))
  have fin : wpAny M A (call (.builtin id) ([.ref x] ++ args) >>= fun v => pure (some v)) Q E s := wpAny_bind (wpAny_mono h (fun v s' h' => wpAny_pure h') fun _ _ h' => h')
  split
  · exact wpAny_bind (wpAny_pure (wpAny_pure fin))
  · exact wpAny_tryCatch (wpAny_bind (wpAny_pure (wpAny_pure fin)))
theorem cmp_one {op : CmpOp} {Q : Value → Shared → Prop} (hu : A.units < cLine) (X : K.In s.heap) (I : InstAt s.heap x ox C od) (hb : Looks (model prog w) s.heap (typeOf b) tb) (hn : notFirst K C tb = true)
    (one : wpAny (model prog w) A (tryCompare (.ref x) (cmpInfo op).2.1 b) (fun r s' => ∃ v, r = some v ∧ Q v s') E s) : wpAny (model prog w) A (richCompare op (.ref x) b) Q E s := by
  unfold richCompare
  simp only [oneThing_ref]
  refine wpAny_holding (wpAny_bind (wpAny_cRoomFor hu ?_))
  refine wpAny_bind (I.type.here (wpAny_bind (hb.here ?_)))
  split
  · rename_i q
    have e : subIn K tb (.ref C) = some false := by
      rcases Bool.or_eq_true_iff.mp hn with e | e
      · rw [beq_iff_eq.mp e] at q; simp at q
      · exact beq_iff_eq.mp e
    refine wpAny_bind ((looks_subIn X e).here ?_)
    simp only [Bool.false_eq_true, if_false]
    refine wpAny_bind (wpAny_mono one (fun r s' z => ?_) fun _ _ e => e)
    obtain ⟨v, rfl, hq⟩ := z
    exact wpAny_pure hq
  · refine wpAny_bind (wpAny_pure ?_)
    simp only [Bool.false_eq_true, if_false]
    refine wpAny_bind (wpAny_mono one (fun r s' z => ?_) fun _ _ e => e)
    obtain ⟨v, rfl, hq⟩ := z
    exact wpAny_pure hq
theorem ne_try {Q : Option Value → Shared → Prop} (hu : A.units + 1 < cLine) (X : K.In s.heap) (I : InstAt s.heap x ox C od) (hn : findIn K (.ref C) "__ne__" = some (some (.builtin "object.__ne__"))) (ho : subIn K (.ref C) (.type "object") = some true)
    (hs : findIn K (.ref C) "__eq__" = some (some (.ref f))) (hf : isFn K (.ref f) = true)
    (h : wpAny (model prog w) A.in1 (call (.ref f) [.ref x, b]) (fun v s' => ∃ r, v = .bool r ∧ Q (some (.bool (!r))) s') E s) : wpAny (model prog w) A (tryCompare (.ref x) "__ne__" b) Q E s := by
  have SL : Slot "object" "__ne__" "object.__ne__" := .of (owner := "object") (n := "__ne__") (by rw [typeLookup_type, builtinLookup_eq_fast]; kernel_rfl) (by decide +kernel) (by decide +kernel) (by decide +kernel)
    (by first | exact .inl (by decide +kernel) | exact .inr (by decide +kernel)) (by rw [isSubtype_type]; kernel_rfl)
  simp only [tryCompare]
  refine wpAny_bind (ifBound_S X I hn SL.bind (wpAny_call (codeAny_call_builtin SL.plain PySem.F.cmpEntry_ne ?_)))
  refine @PySem.W.check_slot (model prog w) _ _ s "object.__ne__" "object" "__ne__" (.ref x) [b] [] _ PySem.F.cmpKind_ne PySem.F.cmpSplit_ne (I.type.andThen (looks_subIn X ho)) (PySem.F.cmpArgs_ne (.ref x) b) ?_
  unfold Builtin.«object.__ne__»
  refine wpAny_bind (wpAny_pure ?_)
  dsimp only
  refine wpAny_bind (wpAny_cRoomFor hu ?_)
  refine wpAny_bind (m := callSpecialIfBound? (.ref x) (Str.ofString "__eq__") [b]) (ifBound_K X I hs hf (wpAny_mono h (fun v s' hv => ?_) fun _ _ e => e))
  obtain ⟨r, rfl, hq⟩ := hv
  dsimp only
  refine wpAny_bind (m := truthy (.bool _)) (wpAny_truthy_bool ?_)
  first
    | exact wpAny_pure ⟨_, rfl, wpAny_pure hq⟩
    | exact wpAny_pure ⟨_, rfl, hq⟩
    | exact wpAny_pure (wpAny_pure hq)
    | exact wpAny_pure (wpAny_pure (wpAny_pure hq))
end

section
variable {X : Cx} {CX : CXT} {k : Nat} {C f : Addr} {fd : FuncData} {ps : List Str} {sp : Sp} {E : XK}
/-- x != y by its own == -/
def rNeO (C : Addr) (sp : Sp) (E : XK) (K : PySem.W.Frag) : R2 := fun x y H Q => ∃ (a dx : Addr) (fs : List (Str × V)) (t : Value), x = .ref a ∧ H a = some (.ins C dx fs) ∧ TyX K H y t ∧ PySem.W.notFirst K C t = true ∧
  sp [.ref a, y] H (fun v H' => ∃ b : Bool, v = .bl b ∧ Q (.bl (!b)) H') E
theorem op_neO (hn : PySem.W.findIn X.K (.ref C) "__ne__" = some (some (.builtin "object.__ne__"))) (ho : PySem.W.subIn X.K (.ref C) (.type "object") = some true)
    (hs : PySem.W.findIn X.K (.ref C) "__eq__" = some (some (.ref f))) (hf : PySem.W.isFn X.K (.ref f) = true)
    (F : FnOk X.prog X.w X.K X.mg X.base CX k f fd ps sp) (hr : Room (k + 1) X.A) (hb : Binds X.K fd ps []) (hx : Passes CX X.nox E) : OpR X (compareOp .NotEq) (rNeO C sp E X.K) := by
  intro pins s σ H x y v u Q I rx ry h
  obtain ⟨a, dx, fs, t, rfl, ha, ty, hnf, q⟩ := h
  cases rx
  obtain ⟨P, Z, p, _⟩ := kit_of I ry ty
  obtain ⟨mA, J, _⟩ := ins_get I.hok ha
  obtain ⟨od, J, _⟩ := J.look
  show wpAny (model X.prog X.w) X.A (richCompare .NotEq (.ref a) u) (EP X pins σ Q) X.xe s
  refine cmp_one (op := .NotEq) (hu_of hr |> Nat.lt_of_succ_lt) I.kIn J (Z.ty _ _ I.kIn p) hnf ?_
  have hl : [Value.ref a, u].length = ps.length := by
    rw [← F.len _ _ _ _ q]
    rfl
  refine ne_try (hu_of hr) I.kIn J hn ho hs hf (wpAny_call (codeAny_mono (F.run X.A.in1 X.stack s H ⟨[.ref a, u], []⟩ [.ref a, u] [.ref a, y] _ E hr.in1 I.env0.in1 (by simpa using hb s [.ref a, u] I.kIn (by simpa using hl)) (.cons rfl (.cons ry .nil)) q) fun r s' hq => ?_))
  cases r with
  | error er => exact False.elim (hx pins σ H s er s' (I.wish _) hq)
  | ok fl =>
    cases fl with
    | ret w =>
      obtain ⟨v, H', I', rv, b, rfl, q3⟩ := I.after hq
      cases rv
      exact ⟨b, rfl, _, rfl, .bl (!b), H', I', rfl, q3⟩
    | next => exact False.elim hq
    | brk => exact False.elim hq
    | cont => exact False.elim hq
/-- abs(x) by its own method -/
theorem call_absO (hs : PySem.W.findIn X.K (.ref C) "__abs__" = some (some (.ref f))) (hf : PySem.W.isFn X.K (.ref f) = true)
    (F : FnOk X.prog X.w X.K X.mg X.base CX k f fd ps sp) (hr : Room (k + 1) X.A) (hb : Binds X.K fd ps []) (hx : Passes CX X.nox E) : CallR X (.builtin "abs") (fun xs H Q => ∃ (a dx : Addr) (fs : List (Str × V)), xs = [.ref a] ∧ H a = some (.ins C dx fs) ∧ sp [.ref a] H Q E) := by
  intro pins s σ H xs us Q I r h
  obtain ⟨a, dx, fs, rfl, ha, q⟩ := h
  obtain ⟨u, rfl, ru⟩ := vals1 r
  cases ru
  obtain ⟨mA, J, _⟩ := ins_get I.hok ha
  obtain ⟨od, J, _⟩ := J.look
  have hl : [Value.ref a].length = ps.length := by
    rw [← F.len _ _ _ _ q]
    rfl
  refine PySem.Calls.call_function_entry kind_abs plain_abs entry_abs (args_abs _) ?_
  unfold Builtin.«abs»
  refine wpAny_bind (m := oneArg "abs" _) (wpAny_pure ?_)
  refine wpAny_bind (m := callSpecial? (.ref a) (Str.ofString "__abs__")) (PySem.W.special_fn I.kIn J hs (beq_iff_eq.mp hf) (wpAny_call (codeAny_mono (F.run X.A.in1 X.stack s H ⟨[.ref a], []⟩ [.ref a] [.ref a] _ E hr.in1 I.env0.in1 (by simpa using hb s [.ref a] I.kIn (by simpa using hl)) (.cons rfl .nil) q) fun r s' hq => ?_)))
  cases r with
  | error er => exact False.elim (hx pins σ H s er s' (I.wish _) hq)
  | ok fl =>
    cases fl with
    | ret w =>
      obtain ⟨v, H', I', rv, q3⟩ := I.after hq
      exact wpAny_pure ⟨_, rfl, v, H', I', rv, q3⟩
    | next => exact False.elim hq
    | brk => exact False.elim hq
    | cont => exact False.elim hq
end

/-! calls within a try -/
section
variable {X : Cx} {CX : CXT} {k : Nat} {C f : Addr} {fd : FuncData} {ps : List Str} {sp : Sp} {dvs : List V} {ds : List Value} {E : L2.St → XK} {x m : Str} {p pos apos : Pos} {e o : Expr} {es : List Expr} {ta : TE} {t : TA}
theorem run_makeS {pins : List (Addr × Obj)} {σ : L2.St} {H : Hp} {s : Shared} {Q : VK} {us : List Value} {vs : List V} (M : Mk X.K C f) (F : FnOk X.prog X.w X.K X.mg X.base CX k f fd ps sp) (hr : Room (k + 1) X.A) (hb : Binds X.K fd ps ds) (hd : Vals dvs ds)
    (hx : PassesAt CX X σ (E σ)) (I : Inv X pins σ H s) (r : Vals vs us)
    (h : ∀ x dx, H x = none → H dx = none → dx ≠ x → sp (.ref x :: (vs ++ dvs)) (upd (upd H dx (.own x)) x (.ins C dx [])) (fun v H2 => v = .non ∧ Q (.ref x) H2) (E σ)) :
    wpAny (model X.prog X.w) X.A (call (.ref C) us) (EP X pins σ Q) X.xe s := by
  have hq := h (s.heap.objs.size + 1) s.heap.objs.size (I.hok.fresh (Nat.le_succ _)) (I.hok.fresh (Nat.le_refl _)) (Nat.ne_of_lt (Nat.lt_succ_self _))
  have I2 := Inv.made (C := C) I
  have r2 : Vals (V.ref (s.heap.objs.size + 1) :: (vs ++ dvs)) (Value.ref (s.heap.objs.size + 1) :: (us ++ ds)) := .cons rfl (r.append hd)
  have hl : (Value.ref (s.heap.objs.size + 1) :: us ++ ds).length = ps.length := by
    have e := r2.length
    rw [F.len _ _ _ _ hq] at e
    exact e.symm
  refine wpAny_call (make_map (f := f) I.kIn M.makes M.init (beq_iff_eq.mp M.fn) (codeAny_mono (F.run _ X.stack _ _ ⟨Value.ref (s.heap.objs.size + 1) :: us, []⟩ (Value.ref (s.heap.objs.size + 1) :: (us ++ ds)) _ _ (E σ) (hr.make C us [])
    (I2.env0.make C us []) (hb _ (Value.ref (s.heap.objs.size + 1) :: us) I2.kIn hl) r2 hq) fun r s' hq' => ?_))
  cases r with
  | error e => exact hx pins _ _ e s' I2 hq'
  | ok fl =>
    cases fl with
    | ret u =>
      obtain ⟨v, H', I3, rv, ev, q3⟩ := I2.after hq'
      subst ev
      exact ⟨rv, ⟨V.ref (s.heap.objs.size + 1), H', I3, rfl, q3⟩⟩
    | next => exact False.elim hq'
    | brk => exact False.elim hq'
    | cont => exact False.elim hq'
def tMakeS (C : Addr) (sp : Sp) (dvs : List V) (E : L2.St → XK) (t : TA) : TE := fun σ H Q => t σ H fun vs H1 => ∀ x dx, H1 x = none → H1 dx = none → dx ≠ x →
  sp (.ref x :: (vs ++ dvs)) (upd (upd H1 dx (.own x)) x (.ins C dx [])) (fun v H2 => v = .non ∧ Q (.ref x) H2) (E σ)
theorem pe_makeS (M : Mk X.K C f) (F : FnOk X.prog X.w X.K X.mg X.base CX k f fd ps sp) (hr : Room (k + 1) X.A) (hg : Gl X x) (hm : X.mg x = some (.ref C)) (hb : Binds X.K fd ps ds) (hd : Vals dvs ds) (hx : ∀ σ, PassesAt CX X σ (E σ))
    (ha : PA X (e :: es) t) (hdb : (x == ("__debug__" : Str)) = false := by decide) (he : starEach (e :: es) X.env = (false, eval e X.env) :: starEach es X.env := by rfl) (hpl : (backTo pos (starEach es X.env)).any (·.1) = false := by rfl) :
    PE X (.Call (.Name x p) (e :: es) [] pos) (tMakeS C sp dvs E t) := by
  refine ⟨fun pins s σ H Q I h => ?_⟩
  refine wpAny_Call_Name_kw (ld_glob I hg hm ?_ hdb)
  refine PySem.W.callWith_K (h₀ := X.base) I.ok.mod.kin M.kp (thn (ha.run pos pins s σ H _ I h) fun us s1 ⟨vs, H1, I1, r, q⟩ => ⟨I1.kIn, ?_⟩) he hpl
  exact run_makeS M F hr hb hd (hx σ) I1 r q
/-- o.m(e, ..) within a try -/
def tMethS (C : Addr) (m : Str) (sp : Sp) (E : L2.St → XK) (ta : TE) (t : TA) : TE := fun σ H Q => ta σ H fun x H1 => ∃ a dx fs, x = .ref a ∧ H1 a = some (.ins C dx fs) ∧ fs.lookup m = none ∧ t σ H1 fun vs H2 => sp (x :: vs) H2 Q (E σ)
theorem pe_methS {pl : Sem Bool} (he : PE X o ta) (c : Cls X.K C) (hm : Meth X.K C m f)
    (F : FnOk X.prog X.w X.K X.mg X.base CX k f fd ps sp) (hr : Room k X.A) (hb : Binds X.K fd ps []) (hx : ∀ σ, PassesAt CX X σ (E σ)) (ha : PA X (e :: es) t)
    (hst : starEach (e :: es) X.env = (false, eval e X.env) :: starEach es X.env := by rfl) (hpl : (backTo pos (starEach es X.env)).any (·.1) = false := by rfl)
    (ht : eval (.Call (.Attribute o m apos) (e :: es) [] pos) X.env = (do
      let ov ← eval o X.env
      standAt apos.atName
      let (f, first) ← holding [ov] (getMethod ov m pl)
      callWith pos f first (backTo pos (starEach (e :: es) X.env)) (backToKw pos (keywordEach [] X.env))) := by rfl) :
    PE X (.Call (.Attribute o m apos) (e :: es) [] pos) (tMethS C m sp E ta t) := by
  refine ⟨fun pins s σ H Q I h => ?_⟩
  refine PySem.W.methodCall_KW (pl := pl) (thn (he.run pins s σ H _ I h) fun u s1 ⟨x, H1, I1, rx, a, dx, fs, ex, ea, l, q⟩ => ?_) ht
  subst ex
  obtain rfl : u = Value.ref a := rx
  refine getmeth_ok I1 ea c hm l ?_
  refine PySem.W.callWith_K (first := [.ref a]) (h₀ := X.base) I.ok.mod.kin hm.kp (thn (ha.run pos pins s1 σ H1 _ I1 q) fun us s2 ⟨vs, H2, I2, r, q2⟩ => ⟨I2.kIn, ?_⟩) hst hpl
  exact run_fnS (us := .ref a :: us) (vs := .ref a :: vs) F hr hb (hx σ) I2 (.cons rfl r) q2
/-- C(), an own exception made by its own __init__ -/
theorem pmk_oex0 {fI : Addr} {ps : List Str} {sp : Sp} (T : OexC X.K C) (iC : PySem.W.findIn X.K (.ref C) "__init__" = some (some (.ref fI))) (tI : PySem.W.typeIn X.K (.ref fI) = some (.type "function"))
    (F1 : FnOk X.prog X.w X.K X.mg X.base CX k fI fd ps sp) (hr : Room (k + 1) X.A) (hb : Binds X.K fd ps []) (hx : Passes CX X (fun _ _ _ => False)) (hg : Gl X x) (hm : X.mg x = some (.ref C))
    (hdb : (x == ("__debug__" : Str)) = false := by decide) :
    PMk X (.Call (.Name x p) [] [] pos) (tMkO C sp [] tNil) := by
  intro pins s σ H Q I h
  obtain ⟨nm, q, N, bs, bm, sn, sub, ab, col, dd, k0, k1, k2, k3, k5, hC, hbm⟩ := T.cls
  refine wpAny_Call_Name_kw (ld_glob I hg hm ?_ hdb)
  refine PySem.W.callWith_K0 I.kIn T.kC ?_
  show wpAny _ _ (call (.ref C) []) _ _ _
  obtain ⟨hz, q1⟩ := h
  obtain ⟨hp, g, dr, tk, os⟩ := s
  have hsz : hp.objs.size ≤ hp.objs.size + 1 := Nat.le_succ _
  have hn : H (hp.objs.size + 1) = none := I.hok.fresh hsz
  have hq := q1 (hp.objs.size + 1) hn
  have kk : ∀ b o, hp.get? b = some o → ((hp.push (PySem.W.kdv_tup [])).push (PySem.HandSPX.excO C hp.objs.size)).get? b = some o := fun b o e => Heap.get?_push_of_some _ (Heap.get?_push_of_some _ e)
  have hget : ((hp.push (PySem.W.kdv_tup [])).push (PySem.HandSPX.excO C hp.objs.size)).get? (hp.objs.size + 1) = some (PySem.HandSPX.excO C hp.objs.size) := by heap_get
  have I2 : Inv X pins σ (upd H (hp.objs.size + 1) (exo (hp.objs.size + 1) C none)) ⟨(hp.push (PySem.W.kdv_tup [])).push (PySem.HandSPX.excO C hp.objs.size), g, dr, tk, os⟩ :=
    I.laid (t' := tk) (a := hp.objs.size + 1) (o := exo (hp.objs.size + 1) C none) (h' := (hp.push (PySem.W.kdv_tup [])).push (PySem.HandSPX.excO C hp.objs.size)) kk hsz (exo_ok hget)
  have r2 : Vals [V.ref (hp.objs.size + 1)] [Value.ref (hp.objs.size + 1)] := .cons rfl .nil
  have hl : [Value.ref (hp.objs.size + 1)].length = ps.length := by
    have e := r2.length
    rw [← F1.len _ _ _ _ hq]
    rfl
  have hus : ([] : List Value).length ≤ sizeLine := by
    rw [sizeLine_eq]
    exact Nat.zero_le _
  refine wpAny_call (PySem.HandSPX.call_own F.excBase_ValueError (fun Y => PySem.HandSPX.refsVE_contains Y bm hbm) (I.kIn _ _ hC) (PySem.W.looks_findIn I.kIn iC) (fun self => PySem.W.bind_fn I.kIn self tI) hus
    (codeAny_mono (F1.run _ X.stack _ _ ⟨[Value.ref (hp.objs.size + 1)], []⟩ [Value.ref (hp.objs.size + 1)] [V.ref (hp.objs.size + 1)] _ (fun _ _ _ => False) (hr.make C [] []) (I2.env0.make C [] []) (by simpa using hb _ [Value.ref (hp.objs.size + 1)] I2.kIn (by simpa using hl)) r2 hq) fun r s' hq' => ?_))
  cases r with
  | error er => exact hx pins σ _ _ er s' I2 hq'
  | ok fl =>
    cases fl with
    | ret u =>
      obtain ⟨v, H2, os2, bare2, un2, hok2, rv, ev, d, fs, ea, ed, hd1, q2⟩ := hq'
      subst ev
      obtain ⟨h2, g2, d2, t2, os'⟩ := s'
      exact ⟨rv, mk_end (raises_own T.exC T.tyC) I hsz kk un2 hok2 os2 bare2 ea ed hd1 q2⟩
    | next => exact False.elim hq'
    | brk => exact False.elim hq'
    | cont => exact False.elim hq'
end
end LR

namespace LR
open PySem PySem.Spec PyProof.Rows L2
section
variable {X : Cx}
/-- * wherever the model lets it -/
theorem op_mulZ : OpR X (binaryOp .Mult) (rI IntMulOk fun i j => .int (i * j)) := opI fun _ _ _ _ _ _ _ hc q => mul_int q hc
end
theorem mulL {i j : Int} (h1 : -(2 ^ 63) ≤ i) (h2 : i ≤ 2 ^ 63) : IntMulOk i j := .of_left (PySem.intBits_le_64 (by omega) (by omega))
theorem mulR {i j : Int} (h1 : -(2 ^ 63) ≤ j) (h2 : j ≤ 2 ^ 63) : IntMulOk i j := .of_right (PySem.intBits_le_64 (by omega) (by omega))
theorem mulW {i j : Int} {a b : Nat} (ha : i.natAbs < 2 ^ a) (hb : j.natAbs < 2 ^ b) (h0 : 0 < a) (h1 : 0 < b) (h : a + b ≤ 1000000) : IntMulOk i j := (wide_mul ha hb h0 h1 h).ok
theorem divZ {i j : Int} {b : Nat} (h : j ≠ 0) (hb : j.natAbs < 2 ^ b) (h0 : 0 < b) (h9 : b ≤ 9000) : CDivZ i j := ⟨h, Nat.lt_of_lt_of_le (PySem.Flt.log2_lt_of h0 hb) h9⟩
/-! what is asked of the written part -/
def oexB (K : PySem.W.Frag) (C : Addr) : Bool := (match K.lookup C with
  | some ⟨.type "type", _, .cls cd, sl⟩ => (match cd.mro, sl.toList with
    | .ref C' :: bm, [_, _, _, _, some (.builtin n), _] => decide (C' = C) && (decide (n = "ValueError.__new__") && (!cd.hasDel && (cd.hasDict && PySem.HandSPX.refsVE bm)))
    | _, _ => false)
  | _ => false) && (decide (PySem.W.findIn K (.ref C) "__setattr__" = some (some (.builtin "object.__setattr__"))) && (decide (PySem.W.subIn K (.ref C) (.type "BaseException") = some true) &&
    (decide (PySem.W.typeIn K (.ref C) = some (.type "type")) && PySem.W.keepIn K (.ref C))))
theorem oexB_ok {K : PySem.W.Frag} {C : Addr} (h : oexB K C = true) : OexC K C := by
  obtain ⟨h1, h⟩ := Bool.and_eq_true_iff.mp h
  obtain ⟨h2, h⟩ := Bool.and_eq_true_iff.mp h
  obtain ⟨h3, h⟩ := Bool.and_eq_true_iff.mp h
  obtain ⟨h4, h5⟩ := Bool.and_eq_true_iff.mp h
  refine ⟨?_, of_decide_eq_true h2, of_decide_eq_true h3, of_decide_eq_true h4, h5⟩
  split at h1
  · rename_i dd cd sl ho
    split at h1
    · rename_i C' bm k0 k1 k2 k3 n k5 hm hs
      simp only [Bool.and_eq_true, decide_eq_true_eq, Bool.not_eq_true'] at h1
      obtain ⟨rfl, rfl, hdel, hdict, hv⟩ := h1
      obtain ⟨nm, bs, mro, ns, qn, hd, sn, sub, ab, col, dl⟩ := cd
      dsimp only at hm hdel hdict
      subst hm hdel hdict
      have hsl : sl = #[k0, k1, k2, k3, some (.builtin "ValueError.__new__"), k5] := by
        obtain ⟨l⟩ := sl
        dsimp only at hs
        rw [hs]
      subst hsl
      exact ⟨nm, qn, ns, bs, bm, sn, sub, ab, col, dd, k0, k1, k2, k3, k5, ho, hv⟩
    · cases h1
  · cases h1
def excB (K : PySem.W.Frag) (D : Addr) : Bool := decide (PySem.W.findIn K (.ref D) "__class__" = some (some (.builtin "object.__class__"))) && (decide (PySem.W.specialIn K (.builtin "object.__class__") "__get__" = some (some (.builtin "getset_descriptor.__get__"))) &&
  (decide (PySem.W.takesIn K (.builtin "object.__class__") = some true) && decide (PySem.W.mroIn K D (.type "object") = some true)))
theorem excB_ok {K : PySem.W.Frag} {D : Addr} (x : xfB K D = true) (h : excB K D = true) : ExcC K D := by
  obtain ⟨h1, h⟩ := Bool.and_eq_true_iff.mp h
  obtain ⟨h2, h⟩ := Bool.and_eq_true_iff.mp h
  obtain ⟨h3, h4⟩ := Bool.and_eq_true_iff.mp h
  have y := xfB_ok x
  exact ⟨y.ga, y.gg, y.exC, y.hdC, of_decide_eq_true h1, of_decide_eq_true h2, of_decide_eq_true h3, of_decide_eq_true h4⟩
/-- an own error class: made by its __init__, its fields read, asked by isinstance, named by except -/
def exAll (K : PySem.W.Frag) (x : Str) : Bool := oexB K (He.ga K x) && (xfB K (He.ga K x) && (excB K (He.ga K x) && (decide (PySem.W.findIn K (.ref (He.ga K x)) "__init__" = some (some (.ref (He.ma K (He.ga K x) "__init__")))) &&
  (decide (PySem.W.typeIn K (.ref (He.ma K (He.ga K x) "__init__")) = some (.type "function")) && decide (PySem.W.exmOne K (.ref (He.ga K x)) (.ref (He.ga K x)) = some true)))))
/-- an own class: its mro, its != -/
def clAll (K : PySem.W.Frag) (x : Str) : Bool := PySem.W.selfFirst K (He.ga K x) && (decide (PySem.W.findIn K (.ref (He.ga K x)) "__ne__" = some (some (.builtin "object.__ne__"))) && (decide (PySem.W.subIn K (.ref (He.ga K x)) (.type "object") = some true) &&
  (decide (PySem.W.findIn K (.ref (He.ga K x)) "__class__" = some (some (.builtin "object.__class__"))) && (decide (PySem.W.specialIn K (.builtin "object.__class__") "__get__" = some (some (.builtin "getset_descriptor.__get__"))) &&
  (decide (PySem.W.takesIn K (.builtin "object.__class__") = some true) && decide (PySem.W.mroIn K (He.ga K x) (.type "object") = some true))))))
/-- a property x.f: its record, its getter -/
def prAd (K : PySem.W.Frag) (x f : Str) : Addr := match PySem.W.findIn K (.ref (He.ga K x)) f with
  | some (some (.ref p)) => p
  | _ => 0
def prGet (K : PySem.W.Frag) (x f : Str) : Addr := match PySem.W.recIn K (prAd K x f) "property" with
  | some (.ref g :: _) => g
  | _ => 0
def prB (K : PySem.W.Frag) (x f : Str) : Bool := decide (PySem.W.findIn K (.ref (He.ga K x)) f = some (some (.ref (prAd K x f)))) && (decide (PySem.W.specialIn K (.ref (prAd K x f)) "__get__" = some (some (.builtin "property.__get__"))) &&
  (decide (PySem.W.takesIn K (.ref (prAd K x f)) = some true) && (match PySem.W.recIn K (prAd K x f) "property" with
    | some (.ref g :: _) => decide (g = prGet K x f)
    | _ => false)))
theorem prB_ok {K : PySem.W.Frag} {x f : Str} (h : prB K x f = true) : PropOf K (He.ga K x) f (prAd K x f) (prGet K x f) := by
  obtain ⟨h1, h⟩ := Bool.and_eq_true_iff.mp h
  obtain ⟨h2, h⟩ := Bool.and_eq_true_iff.mp h
  obtain ⟨h3, h4⟩ := Bool.and_eq_true_iff.mp h
  refine ⟨of_decide_eq_true h1, of_decide_eq_true h2, of_decide_eq_true h3, ?_⟩
  split at h4
  · rename_i g rest e
    exact ⟨rest, by rw [e, of_decide_eq_true h4]⟩
  · cases h4
/-- one def: its address in the written part, its name, qualified name, parameters, body, scope, defaults -/
structure Df where
  at_ : PySem.W.Frag → Addr
  name : Str
  qual : Str
  params : Arguments
  body : List Stmt
  scope : Scope
  dfl : List He.Dv := []
def fnWA (K : PySem.W.Frag) (f : Addr) : He.FnW := match K.lookup f with
  | some ⟨_, _, .func fd, _⟩ => some (fd.name, fd.qualname, fd.params, fd.body, fd.scope, fd.globals, fd.closure, fd.builtins)
  | _ => none
def Df.val (d : Df) : He.FnW := some (d.name, d.qual, d.params, .stmts d.body, d.scope, mainGlobals, [], builtinsNs)
def Df.dvs (K : PySem.W.Frag) (d : Df) : List V := d.dfl.map (He.Dv.v K)
def Df.ok (K : PySem.W.Frag) (d : Df) : Bool := PySem.W.keepIn K (.ref (d.at_ K)) && (match K.lookup (d.at_ K) with
  | some ⟨_, _, .func fd, _⟩ => PySem.W.codeIn K fd.code d.qual && He.dflB K fd.defaults (d.dvs K)
  | _ => false)
theorem Df.funD {K : PySem.W.Frag} {d : Df} (e : fnWA K (d.at_ K) = d.val) (c : d.ok K = true) : ∃ fd, FunD K d.name d.qual d.params d.body d.scope (d.dvs K) [] (d.at_ K) fd := by
  obtain ⟨kp, c2⟩ := Bool.and_eq_true_iff.mp c
  unfold fnWA at e
  cases q : K.lookup (d.at_ K) with
  | none =>
    rw [q] at c2
    exact absurd c2 Bool.false_ne_true
  | some o =>
    obtain ⟨oc, od, dt, osl⟩ := o
    rw [q] at c2 e
    cases dt with
    | func fd =>
      obtain ⟨n1, n2, n3, n4, n5, n6, n7, n8, n9, n10, n11, n12, n13, n14, n15⟩ := fd
      have e2 : (some (n1, n2, n3, n4, n5, n6, n7, n15) : He.FnW) = some (d.name, d.qual, d.params, .stmts d.body, d.scope, mainGlobals, [], builtinsNs) := e
      simp only [Option.some.injEq, Prod.mk.injEq] at e2
      obtain ⟨h1, h2, h3, h4, h5, h6, h7, h8⟩ := e2
      subst h1 h2 h3 h4 h5 h6 h7 h8
      obtain ⟨k1, k2⟩ := Bool.and_eq_true_iff.mp (show (PySem.W.codeIn K n13 d.qual && He.dflB K n8 (d.dvs K)) = true from c2)
      exact ⟨_, ⟨oc, od, n8, n9, n10, n11, n12, n13, n14, osl, rfl, q, k1, He.dflB_ok k2, .inl rfl⟩, kp⟩
    | _ => exact absurd c2 Bool.false_ne_true
/-- the lists of a law: global names (defs, classes), free ones, own classes, error classes, methods, attributes that no class holds, names of functions of other modules, answers of isinstance, properties; the defs -/
structure Ls where
  gl : List Str
  fr : List Str
  cl : List Str := []
  ex : List Str := []
  me : List (Str × Str) := []
  no : List (Str × Str) := []
  bl : List (Str × String) := []
  kit : List (Value × Str × Bool) := []
  kie : List (Str × Str × Bool) := []
  kiv : List (Str × String × Bool) := []
  pr : List (Str × Str) := []
  nf : List (Str × String) := []
  fn : List Df
def Ls.fa (L : Ls) : List He.Fa := L.gl.map He.Fa.glo ++ (L.gl.map He.Fa.keep ++ (L.fr.map He.Fa.free ++ (L.cl.map He.Fa.cls ++ (L.cl.map He.Fa.mkr ++ (L.me.map (fun p => He.Fa.meth p.1 p.2) ++ L.no.map (fun p => He.Fa.noat p.1 p.2))))))
def Ls.exb (L : Ls) (K : PySem.W.Frag) : Bool := L.cl.all (clAll K) && (L.ex.all (exAll K) && (L.bl.all (fun p => decide (PySem.W.nsIn K mainGlobals p.1 = some (some (.builtin p.2)))) && (L.kit.all (fun p => decide (PySem.W.kitOne K p.1 (.ref (He.ga K p.2.1)) = some p.2.2)) &&
  (L.kie.all (fun p => decide (PySem.W.kitOne K (.ref (He.ga K p.1)) (.ref (He.ga K p.2.1)) = some p.2.2)) && (L.kiv.all (fun p => decide (PySem.W.kitOne K (.ref (He.ga K p.1)) (.type p.2.1) = some p.2.2)) && (L.pr.all (fun p => prB K p.1 p.2) &&
  L.nf.all (fun p => PySem.W.notFirst K (He.ga K p.1) (.type p.2))))))))
def adrs : Nat → List Addr
  | 0 => []
  | n + 1 => n :: adrs n
abbrev AlL : Type := Bool × List He.FnW
def Ls.obs (L : Ls) (K : PySem.W.Frag) : AlL := ((L.fa.all fun f => f.ok K) && ((L.fn.all fun d => d.ok K) && L.exb K), L.fn.map fun d => fnWA K (d.at_ K))
def Ls.val (L : Ls) : AlL := (true, L.fn.map Df.val)
def Ls.obsG (n : Nat) (L : Ls) (g : Addr → Option Obj) : AlL := L.obs (He.frG g (adrs n))
def hookL (n : Nat) (L : Ls) : PySem.W.Hook where
  α := AlL
  obs := fun s => L.obsG n s.heap.get?
  val := fun _ => L.val
  says := fun _ h => ∃ K : PySem.W.Frag, K.In h ∧ L.obs K = L.val
  of := fun _ _ e => ⟨_, He.frG_in, e⟩
  keeps := fun _ _ _ ⟨K, hK, c⟩ k => ⟨K, PySem.W.Frag.In.keeps hK k, c⟩
theorem Ls.obsG_eq {n : Nat} {L : Ls} {g : Addr → Option Obj} {s : Shared} (h : ∀ a, g a = s.heap.get? a) : L.obsG n g = (hookL n L).obs s := by
  rw [show g = s.heap.get? from funext h] <;> rfl
structure Txt (L : Ls) (K : PySem.W.Frag) (mg : Str → Option Value) : Prop where
  gA : ∀ x ∈ L.gl, mg x = some (.ref (He.ga K x))
  kA : ∀ x ∈ L.gl, PySem.W.keepIn K (.ref (He.ga K x)) = true
  fA : ∀ x ∈ L.fr, mg x = none
  clA : ∀ x ∈ L.cl, Cls K (He.ga K x)
  mkA : ∀ x ∈ L.cl, Mk K (He.ga K x) (He.ma K (He.ga K x) "__init__")
  meA : ∀ p ∈ L.me, Meth K (He.ga K p.1) p.2 (He.ma K (He.ga K p.1) p.2)
  noA : ∀ p ∈ L.no, NoAttr K (He.ga K p.1) p.2
  c2A : ∀ x ∈ L.cl, clAll K x = true
  exA : ∀ x ∈ L.ex, exAll K x = true
  blA : ∀ p ∈ L.bl, mg p.1 = some (.builtin p.2)
  kitA : ∀ p ∈ L.kit, PySem.W.kitOne K p.1 (.ref (He.ga K p.2.1)) = some p.2.2
  kieA : ∀ p ∈ L.kie, PySem.W.kitOne K (.ref (He.ga K p.1)) (.ref (He.ga K p.2.1)) = some p.2.2
  kivA : ∀ p ∈ L.kiv, PySem.W.kitOne K (.ref (He.ga K p.1)) (.type p.2.1) = some p.2.2
  prA : ∀ p ∈ L.pr, prB K p.1 p.2 = true
  nfA : ∀ p ∈ L.nf, PySem.W.notFirst K (He.ga K p.1) (.type p.2) = true
  dA : ∀ (i : Nat) (d : Df), L.fn[i]? = some d → ∃ fd, FunD K d.name d.qual d.params d.body d.scope (d.dvs K) [] (d.at_ K) fd
theorem Txt.of {L : Ls} {K : PySem.W.Frag} {mg : Str → Option Value} {h : Heap} (X : K.In h) (G : h.Ns mainGlobals mg) (c : L.obs K = L.val) : Txt L K mg := by
  obtain ⟨c1, c2⟩ := Prod.mk.inj (show ((L.fa.all fun f => f.ok K) && ((L.fn.all fun d => d.ok K) && L.exb K), L.fn.map fun d => fnWA K (d.at_ K)) = (true, L.fn.map Df.val) from c)
  obtain ⟨c3, c4⟩ := Bool.and_eq_true_iff.mp c1
  obtain ⟨c5, m⟩ := Bool.and_eq_true_iff.mp c4
  have f : ∀ g ∈ L.fa, g.ok K = true := fun g hg => List.all_eq_true.mp c3 g hg
  unfold Ls.exb at m
  simp only [Bool.and_eq_true, List.all_eq_true, decide_eq_true_eq] at m
  obtain ⟨m1, m2, m3, m4, m5, m6, m7, m8⟩ := m
  have i1 : ∀ g ∈ L.gl.map He.Fa.glo, g ∈ L.fa := fun g hg => List.mem_append_left _ hg
  have i2 : ∀ g ∈ L.gl.map He.Fa.keep, g ∈ L.fa := fun g hg => List.mem_append_right _ (List.mem_append_left _ hg)
  have i3 : ∀ g ∈ L.fr.map He.Fa.free, g ∈ L.fa := fun g hg => List.mem_append_right _ (List.mem_append_right _ (List.mem_append_left _ hg))
  have i4 : ∀ g ∈ L.cl.map He.Fa.cls, g ∈ L.fa := fun g hg => List.mem_append_right _ (List.mem_append_right _ (List.mem_append_right _ (List.mem_append_left _ hg)))
  have i5 : ∀ g ∈ L.cl.map He.Fa.mkr, g ∈ L.fa := fun g hg => List.mem_append_right _ (List.mem_append_right _ (List.mem_append_right _ (List.mem_append_right _ (List.mem_append_left _ hg))))
  have i6 : ∀ g ∈ L.me.map (fun p => He.Fa.meth p.1 p.2), g ∈ L.fa := fun g hg => List.mem_append_right _ (List.mem_append_right _ (List.mem_append_right _ (List.mem_append_right _ (List.mem_append_right _ (List.mem_append_left _ hg)))))
  have i7 : ∀ g ∈ L.no.map (fun p => He.Fa.noat p.1 p.2), g ∈ L.fa := fun g hg => List.mem_append_right _ (List.mem_append_right _ (List.mem_append_right _ (List.mem_append_right _ (List.mem_append_right _ (List.mem_append_right _ hg)))))
  exact
    { gA := fun x hx => He.glo_ok X G (f _ (i1 _ (List.mem_map_of_mem hx)))
      kA := fun x hx => He.keep_ok (f _ (i2 _ (List.mem_map_of_mem hx)))
      fA := fun x hx => He.free_ok X G (f _ (i3 _ (List.mem_map_of_mem hx)))
      clA := fun x hx => He.cls_ok (f _ (i4 _ (List.mem_map_of_mem hx)))
      mkA := fun x hx => He.mkr_ok (f _ (i5 _ (List.mem_map_of_mem hx)))
      meA := fun p hp => He.meth_ok (f _ (i6 _ (List.mem_map_of_mem (f := fun p => He.Fa.meth p.1 p.2) hp)))
      noA := fun p hp => He.noat_ok (f _ (i7 _ (List.mem_map_of_mem (f := fun p => He.Fa.noat p.1 p.2) hp)))
      c2A := m1, exA := m2, blA := fun p hp => PySem.W.mg_of X G (m3 p hp), kitA := m4, kieA := m5, kivA := m6, prA := m7, nfA := m8
      dA := fun i d hd => by
        have e2 : (L.fn.map fun d => fnWA K (d.at_ K))[i]? = (L.fn.map Df.val)[i]? := by rw [c2]
        rw [List.getElem?_map, List.getElem?_map, hd] at e2
        exact Df.funD (Option.some.inj e2) (List.all_eq_true.mp c5 d (List.mem_of_getElem? hd)) }
section
variable {L : Ls} {K : PySem.W.Frag} {mg : Str → Option Value} (T : Txt L K mg)
include T
theorem Txt.g (x : Str) (h : x ∈ L.gl := by decide +kernel) : mg x = some (.ref (He.ga K x)) := T.gA x h
theorem Txt.k (x : Str) (h : x ∈ L.gl := by decide +kernel) : PySem.W.keepIn K (.ref (He.ga K x)) = true := T.kA x h
theorem Txt.f (x : Str) (h : x ∈ L.fr := by decide +kernel) : mg x = none := T.fA x h
theorem Txt.cl (x : Str) (h : x ∈ L.cl := by decide +kernel) : Cls K (He.ga K x) := T.clA x h
theorem Txt.mkk (x : Str) (h : x ∈ L.cl := by decide +kernel) : Mk K (He.ga K x) (He.ma K (He.ga K x) "__init__") := T.mkA x h
theorem Txt.me (x m : Str) (h : (x, m) ∈ L.me := by decide +kernel) : Meth K (He.ga K x) m (He.ma K (He.ga K x) m) := T.meA (x, m) h
theorem Txt.no (x m : Str) (h : (x, m) ∈ L.no := by decide +kernel) : NoAttr K (He.ga K x) m := T.noA (x, m) h
theorem Txt.b (x : Str) (y : String) (h : (x, y) ∈ L.bl := by decide +kernel) : mg x = some (.builtin y) := T.blA (x, y) h
theorem Txt.own (x m : Str) (h : (x, m) ∈ L.me := by decide +kernel) : PySem.W.findIn K (.ref (He.ga K x)) m = some (some (.ref (He.ma K (He.ga K x) m))) := (T.meA (x, m) h).at_
theorem Txt.fnn (x m : Str) (h : (x, m) ∈ L.me := by decide +kernel) : PySem.W.isFn K (.ref (He.ma K (He.ga K x) m)) = true := (T.meA (x, m) h).fn
theorem Txt.first (x : Str) (h : x ∈ L.cl := by decide +kernel) : PySem.W.selfFirst K (He.ga K x) = true := (Bool.and_eq_true_iff.mp (T.c2A x h)).1
theorem Txt.ne (x : Str) (h : x ∈ L.cl := by decide +kernel) : PySem.W.findIn K (.ref (He.ga K x)) "__ne__" = some (some (.builtin "object.__ne__")) := of_decide_eq_true (Bool.and_eq_true_iff.mp (Bool.and_eq_true_iff.mp (T.c2A x h)).2).1
theorem Txt.ob (x : Str) (h : x ∈ L.cl := by decide +kernel) : PySem.W.subIn K (.ref (He.ga K x)) (.type "object") = some true := of_decide_eq_true (Bool.and_eq_true_iff.mp (Bool.and_eq_true_iff.mp (Bool.and_eq_true_iff.mp (T.c2A x h)).2).2).1
/-- an instance of the class, for isinstance -/
theorem Txt.ty (x : Str) {H : Hp} {a dx : Addr} {fs : List (Str × V)} (e : H a = some (.ins (He.ga K x) dx fs)) (h : x ∈ L.cl := by decide +kernel) : TyX K H (.ref a) (.ref (He.ga K x)) := by
  have q := T.c2A x h
  unfold clAll at q
  simp only [Bool.and_eq_true, decide_eq_true_eq] at q
  obtain ⟨_, _, _, q4, q5, q6, q7⟩ := q
  exact .base (.ins e (T.clA x h) q4 q5 q6 q7)
theorem Txt.nfs (x : Str) (h : x ∈ L.cl := by decide +kernel) : PySem.W.notFirst K (He.ga K x) (.ref (He.ga K x)) = true := by
  unfold PySem.W.notFirst
  first
    | simp
    | rfl
theorem Txt.nf (x : Str) (t : String) (h : (x, t) ∈ L.nf := by decide +kernel) : PySem.W.notFirst K (He.ga K x) (.type t) = true := T.nfA (x, t) h
theorem Txt.oex (x : Str) (h : x ∈ L.ex := by decide +kernel) : OexC K (He.ga K x) := oexB_ok (Bool.and_eq_true_iff.mp (T.exA x h)).1
theorem Txt.exa (x : Str) (h : x ∈ L.ex := by decide +kernel) : XfC K (He.ga K x) ∧ ExcC K (He.ga K x) ∧ PySem.W.findIn K (.ref (He.ga K x)) "__init__" = some (some (.ref (He.ma K (He.ga K x) "__init__"))) ∧
    PySem.W.typeIn K (.ref (He.ma K (He.ga K x) "__init__")) = some (.type "function") ∧ PySem.W.exmOne K (.ref (He.ga K x)) (.ref (He.ga K x)) = some true := by
  obtain ⟨_, q⟩ := Bool.and_eq_true_iff.mp (T.exA x h)
  obtain ⟨q1, q⟩ := Bool.and_eq_true_iff.mp q
  obtain ⟨q2, q⟩ := Bool.and_eq_true_iff.mp q
  obtain ⟨q3, q⟩ := Bool.and_eq_true_iff.mp q
  obtain ⟨q4, q5⟩ := Bool.and_eq_true_iff.mp q
  exact ⟨xfB_ok q1, excB_ok q1 q2, of_decide_eq_true q3, of_decide_eq_true q4, of_decide_eq_true q5⟩
theorem Txt.exI (x : Str) (h : x ∈ L.ex := by decide +kernel) : PySem.W.findIn K (.ref (He.ga K x)) "__init__" = some (some (.ref (He.ma K (He.ga K x) "__init__"))) := (T.exa x h).2.2.1
theorem Txt.exT (x : Str) (h : x ∈ L.ex := by decide +kernel) : PySem.W.typeIn K (.ref (He.ma K (He.ga K x) "__init__")) = some (.type "function") := (T.exa x h).2.2.2.1
theorem Txt.exM (x : Str) (h : x ∈ L.ex := by decide +kernel) : PySem.W.exmOne K (.ref (He.ga K x)) (.ref (He.ga K x)) = some true := (T.exa x h).2.2.2.2
theorem Txt.kit (t : Value) (x : Str) (b : Bool) (h : (t, x, b) ∈ L.kit := by decide +kernel) : PySem.W.kitOne K t (.ref (He.ga K x)) = some b := T.kitA (t, x, b) h
theorem Txt.kie (y x : Str) (b : Bool) (h : (y, x, b) ∈ L.kie := by decide +kernel) : PySem.W.kitOne K (.ref (He.ga K y)) (.ref (He.ga K x)) = some b := T.kieA (y, x, b) h
theorem Txt.kiv (y : Str) (t : String) (b : Bool) (h : (y, t, b) ∈ L.kiv := by decide +kernel) : PySem.W.kitOne K (.ref (He.ga K y)) (.type t) = some b := T.kivA (y, t, b) h
theorem Txt.pr (x f : Str) (h : (x, f) ∈ L.pr := by decide +kernel) : PropOf K (He.ga K x) f (prAd K x f) (prGet K x f) := prB_ok (T.prA (x, f) h)
theorem Txt.d (i : Nat) {d : Df} (h : L.fn[i]? = some d := by rfl) : ∃ fd, FunD K d.name d.qual d.params d.body d.scope (d.dvs K) [] (d.at_ K) fd := T.dA i d h
end
/-- the def at f keeps its promise; all parameters written -/
def Ok (P : Program) (w : World) (K : PySem.W.Frag) (mg : Str → Option Value) (base : Heap) (f : Addr) (k : Nat) (ps : List Str) (sp : Sp) : Prop := ∃ fd, FnOk P w K mg base (L2.CX P w) k f fd ps sp ∧ Binds K fd ps []
theorem Ok.of {P : Program} {w : World} {K : PySem.W.Frag} {mg : Str → Option Value} {base : Heap} {x qual : Str} {params : Arguments} {body : List Stmt} {scope : Scope} {f : Addr} {N ps : List Str} {k : Nat} {sp : Sp}
    (h : ∃ fd, FunD K x qual params body scope [] [] f fd) (S : FnScope N ps scope)
    (hb : ∀ (kV doc pm : Value) (an : Option Addr) (cdv ct : Value) (us : List Value), us.length = ps.length → bindArgs (PySem.W.fnOf x qual params body scope .none kV doc pm an cdv ct) ⟨us, []⟩ = pure (ps.zip us))
    (len : ∀ vs H Q E, sp vs H Q E → vs.length = ps.length)
    (hbody : ∀ (fd : FuncData) (cdv : Value) (A : Around) (outer : List Env) (s : Shared) (H : Hp) (vs : List V) (Q : VK) (E : XK), Room k (A.deeper (envOfC qual scope s.heap.objs.size f cdv)) → sp vs H Q E →
      ∃ t, PSs (cxOf (L2.CX P w) P w K mg base N qual scope f cdv A outer s H E) body t ∧ t { nx := fun _ H' => Q .non H', rt := Q } (start N vs) H) : Ok P w K mg base f (k + 1) ps sp := by
  obtain ⟨fd, F⟩ := h
  exact ⟨fd, F.ok S len fun cdv A outer s H vs Q E hr hsp => hbody fd cdv A outer s H vs Q E hr hsp, F.bindsN hb⟩
/-! helpers -/
theorem ints_ix {ns : List Int} {i : Nat} {x : V} (h : (ns.map V.int)[i]? = some x) : ∃ z, ns[i]? = some z ∧ x = .int z := by
  rw [List.getElem?_map] at h
  cases e : ns[i]? with
  | none =>
    rw [e] at h
    cases h
  | some z =>
    rw [e] at h
    exact ⟨z, rfl, (Option.some.inj h).symm⟩
theorem cut_ints (ns : List Int) (lo hi : Option Int) : ∃ ms : List Int, cutV (ns.map V.int) lo hi = ms.map V.int ∧ ms.length ≤ ns.length ∧ ∀ z ∈ ms, z ∈ ns := by
  unfold cutV
  refine ⟨(ns.drop (HT.sIx (ns.map V.int).length 0 lo)).take (HT.sIx (ns.map V.int).length (ns.map V.int).length hi - HT.sIx (ns.map V.int).length 0 lo), ?_, ?_, fun z hz => List.mem_of_mem_drop (List.mem_of_mem_take hz)⟩
  · rw [List.map_take, List.map_drop]
  · rw [List.length_take, List.length_drop]
    omega
theorem at_ix {α : Type} {xs : List α} {k : Int} (h0 : 0 ≤ k) (h1 : k < (xs.length : Int)) : ∃ x, xs[k.toNat]? = some x ∧ x ∈ xs ∧ atI xs k = some x := by
  have hk : k.toNat < xs.length := by omega
  refine ⟨xs[k.toNat], List.getElem?_eq_getElem hk, List.getElem_mem hk, ?_⟩
  have e := atI_nat (List.getElem?_eq_getElem hk)
  rw [Int.toNat_of_nonneg h0] at e
  exact e
theorem at_ints {ns : List Int} {k : Int} (h0 : 0 ≤ k) (h1 : k < (ns.length : Int)) : ∃ z, z ∈ ns ∧ ns[k.toNat]? = some z ∧ atI (ns.map V.int) k = some (.int z) := by
  obtain ⟨x, e, _, q⟩ := at_ix (xs := ns.map V.int) h0 (by rw [List.length_map]; exact h1)
  obtain ⟨z, ez, rfl⟩ := ints_ix e
  exact ⟨z, List.mem_of_getElem? ez, ez, q⟩
theorem abs_nn (i : Int) : 0 ≤ (if i < 0 then -i else i) := by
  split <;> omega
theorem same_new {H : Hp} {p : Addr} {o : HO} (h : H p = none) : Same H (upd H p o) := fun b u e => by
  rw [upd_ne (ne_of_none e h)]
  exact e
theorem same_new' {H H1 : Hp} {p : Addr} {o : HO} (s : Same H H1) (h : H1 p = none) : Same H (upd H1 p o) := s.trans (same_new h)
/-- what H does not know may change -/
theorem same_mut {H H1 : Hp} {p : Addr} {o : HO} (s : Same H H1) (h : H p = none) : Same H (upd H1 p o) := fun b u e => by
  rw [upd_ne (ne_of_none e h)]
  exact s b u e
theorem fmod_lo (i : Int) {j : Int} (h : 0 < j) : 0 ≤ i.fmod j := Int.fmod_nonneg_of_pos i h
theorem fmod_hi (i : Int) {j : Int} (h : 0 < j) : i.fmod j < j := Int.fmod_lt_of_pos i h
theorem sz100 {n : Nat} (h : n ≤ 100000) : n < sizeLine := Nat.lt_of_le_of_lt h (by decide)
theorem mulF {a b j : Int} (h0 : 0 < b) (h1 : b ≤ 2 ^ 63) : IntMulOk (a.fmod b) j := mulL (Int.le_trans (by decide) (fmod_lo a h0)) (Int.le_trans (Int.le_of_lt (fmod_hi a h0)) h1)
theorem pside {p : Prop} (h : p) : p := h
/-- .. of a def whose last parameter has a default -/
def OkD (P : Program) (w : World) (K : PySem.W.Frag) (mg : Str → Option Value) (base : Heap) (f : Addr) (k : Nat) (ps : List Str) (dv : V) (sp : Sp) : Prop :=
  ∃ fd, FnOk P w K mg base (L2.CX P w) k f fd ps sp ∧ Binds K fd ps [] ∧ ∃ ds, Vals [dv] ds ∧ Binds K fd ps ds
theorem OkD.of {P : Program} {w : World} {K : PySem.W.Frag} {mg : Str → Option Value} {base : Heap} {x qual : Str} {params : Arguments} {body : List Stmt} {scope : Scope} {f : Addr} {N ps : List Str} {k : Nat} {sp : Sp} {dv : V}
    (h : ∃ fd, FunD K x qual params body scope [dv] [] f fd) (S : FnScope N ps scope)
    (hb : ∀ (n : Nat), (n = ps.length ∨ n + 1 = ps.length) → ∀ (T : Addr) (kV doc pm : Value) (an : Option Addr) (cdv ct : Value) (us its : List Value), us.length = n → its.length = 1 →
      ∃ k, bindArgs (PySem.W.fnOf x qual params body scope (.ref T) kV doc pm an cdv ct) ⟨us, []⟩ = seqItems? (.ref T) >>= k ∧ k (some its.toArray) = pure (ps.zip (us ++ its.drop (n + 1 - ps.length))))
    (h1 : 1 ≤ ps.length) (len : ∀ vs H Q E, sp vs H Q E → vs.length = ps.length)
    (hbody : ∀ (fd : FuncData) (cdv : Value) (A : Around) (outer : List Env) (s : Shared) (H : Hp) (vs : List V) (Q : VK) (E : XK), Room k (A.deeper (envOfC qual scope s.heap.objs.size f cdv)) → sp vs H Q E →
      ∃ t, PSs (cxOf (L2.CX P w) P w K mg base N qual scope f cdv A outer s H E) body t ∧ t { nx := fun _ H' => Q .non H', rt := Q } (start N vs) H) : OkD P w K mg base f (k + 1) ps dv sp := by
  obtain ⟨fd, F⟩ := h
  refine ⟨fd, F.ok S len fun cdv A outer s H vs Q E hr hsp => hbody fd cdv A outer s H vs Q E hr hsp, ?_, ?_⟩
  · obtain ⟨ds, v, b⟩ := F.binds1 (ps := ps) ps.length 1 (by simp) (by simp) (fun T kV doc pm an cdv ct us its hu hi => by
      obtain ⟨k, e1, e2⟩ := hb ps.length (.inl rfl) T kV doc pm an cdv ct us its hu hi
      rw [show ps.length + 1 - ps.length = 1 by omega] at e2
      exact ⟨k, e1, e2⟩)
    cases v
    exact b
  · obtain ⟨ds, v, b⟩ := F.binds1 (ps := ps) (ps.length - 1) 0 (by simp) (by simp; omega) (fun T kV doc pm an cdv ct us its hu hi => by
      obtain ⟨k, e1, e2⟩ := hb (ps.length - 1) (.inr (by omega)) T kV doc pm an cdv ct us its hu hi
      rw [show ps.length - 1 + 1 - ps.length = 0 by omega] at e2
      exact ⟨k, e1, e2⟩)
    exact ⟨ds, v, b⟩
end LR

namespace LR
open PySem PySem.Spec PyProof.Rows L2
section
variable {X : Cx} {CX : CXT} {k : Nat} {C fI : Addr} {fd : FuncData} {ps : List Str} {sp : Sp} {ds : List Value} {dvs : List V} {x : Str} {p pos : Pos} {e : Expr} {es : List Expr} {ta : TA}
/-- C(..) as a value, C an own exception with its own __init__: the new exception is kept in sight, with its dict -/
def tMkX (C : Addr) (sp : Sp) (dvs : List V) (ta : TA) : TE := fun σ H Q => ta σ H fun vs H1 => vs.length ≤ 1000 ∧ ∀ a, H1 a = none → sp (.ref a :: (vs ++ dvs)) (upd H1 a (exo a C none)) (fun v H2 => v = .non ∧ Q (.ref a) H2) (fun _ _ _ => False)
theorem run_mkX {pins : List (Addr × Obj)} {σ : L2.St} {H1 : Hp} {s1 : Shared} {Q : VK} {us : List Value} {vs : List V} (T : OexC X.K C) (iC : PySem.W.findIn X.K (.ref C) "__init__" = some (some (.ref fI))) (tI : PySem.W.typeIn X.K (.ref fI) = some (.type "function"))
    (F1 : FnOk X.prog X.w X.K X.mg X.base CX k fI fd ps sp) (hr : Room (k + 1) X.A) (hb : Binds X.K fd ps ds) (hd : Vals dvs ds) (hx : Passes CX X (fun _ _ _ => False)) (I1 : Inv X pins σ H1 s1) (r1 : Vals vs us) (hz : vs.length ≤ 1000)
    (q1 : ∀ a, H1 a = none → sp (.ref a :: (vs ++ dvs)) (upd H1 a (exo a C none)) (fun v H2 => v = .non ∧ Q (.ref a) H2) (fun _ _ _ => False)) :
    wpAny (model X.prog X.w) X.A (call (.ref C) us) (EP X pins σ Q) X.xe s1 := by
  obtain ⟨nm, q, N, bs, bm, sn, sub, ab, col, dd, k0, k1, k2, k3, k5, hC, hbm⟩ := T.cls
  obtain ⟨hp, g, dr, tk, os⟩ := s1
  have hsz : hp.objs.size ≤ hp.objs.size + 1 := Nat.le_succ _
  have hn : H1 (hp.objs.size + 1) = none := I1.hok.fresh hsz
  have hq := q1 (hp.objs.size + 1) hn
  have kk : ∀ b o, hp.get? b = some o → ((hp.push (PySem.W.kdv_tup us)).push (PySem.HandSPX.excO C hp.objs.size)).get? b = some o := fun b o e => Heap.get?_push_of_some _ (Heap.get?_push_of_some _ e)
  have hget : ((hp.push (PySem.W.kdv_tup us)).push (PySem.HandSPX.excO C hp.objs.size)).get? (hp.objs.size + 1) = some (PySem.HandSPX.excO C hp.objs.size) := by heap_get
  have I2 : Inv X pins σ (upd H1 (hp.objs.size + 1) (exo (hp.objs.size + 1) C none)) ⟨(hp.push (PySem.W.kdv_tup us)).push (PySem.HandSPX.excO C hp.objs.size), g, dr, tk, os⟩ :=
    I1.laid (t' := tk) (a := hp.objs.size + 1) (o := exo (hp.objs.size + 1) C none) (h' := (hp.push (PySem.W.kdv_tup us)).push (PySem.HandSPX.excO C hp.objs.size)) kk hsz (exo_ok hget)
  have r2 : Vals (V.ref (hp.objs.size + 1) :: (vs ++ dvs)) (Value.ref (hp.objs.size + 1) :: (us ++ ds)) := .cons rfl (r1.append hd)
  have hl : (Value.ref (hp.objs.size + 1) :: us ++ ds).length = ps.length := by
    have e := r2.length
    rw [F1.len _ _ _ _ hq] at e
    exact e.symm
  have hus : us.length ≤ sizeLine := by
    rw [← Paired.length r1, sizeLine_eq]
    omega
  refine wpAny_call (PySem.HandSPX.call_own F.excBase_ValueError (fun Y => PySem.HandSPX.refsVE_contains Y bm hbm) (I1.kIn _ _ hC) (PySem.W.looks_findIn I1.kIn iC) (fun self => PySem.W.bind_fn I1.kIn self tI) hus
    (codeAny_mono (F1.run _ X.stack _ _ ⟨Value.ref (hp.objs.size + 1) :: us, []⟩ (Value.ref (hp.objs.size + 1) :: (us ++ ds)) _ _ (fun _ _ _ => False) (hr.make C us []) (I2.env0.make C us []) (hb _ (Value.ref (hp.objs.size + 1) :: us) I2.kIn hl) r2 hq) fun r s' hq' => ?_))
  cases r with
  | error er => exact hx pins σ _ _ er s' I2 hq'
  | ok fl =>
    cases fl with
    | ret u =>
      obtain ⟨v, H', I', rv, ev, q3⟩ := I2.after hq'
      subst ev
      exact ⟨rv, .ref (hp.objs.size + 1), H', I', rfl, q3⟩
    | next => exact False.elim hq'
    | brk => exact False.elim hq'
    | cont => exact False.elim hq'
theorem pe_mkX (T : OexC X.K C) (iC : PySem.W.findIn X.K (.ref C) "__init__" = some (some (.ref fI))) (tI : PySem.W.typeIn X.K (.ref fI) = some (.type "function"))
    (F1 : FnOk X.prog X.w X.K X.mg X.base CX k fI fd ps sp) (hr : Room (k + 1) X.A) (hb : Binds X.K fd ps ds) (hd : Vals dvs ds) (hx : Passes CX X (fun _ _ _ => False)) (hg : Gl X x) (hm : X.mg x = some (.ref C)) (ha : PA X (e :: es) ta)
    (hdb : (x == ("__debug__" : Str)) = false := by decide) (he : starEach (e :: es) X.env = (false, eval e X.env) :: starEach es X.env := by rfl) (hpl : (backTo pos (starEach es X.env)).any (·.1) = false := by rfl) :
    PE X (.Call (.Name x p) (e :: es) [] pos) (tMkX C sp dvs ta) := by
  refine ⟨fun pins s σ H Q I h => ?_⟩
  refine wpAny_Call_Name_kw (ld_glob I hg hm ?_ hdb)
  exact PySem.W.callWith_K (h₀ := X.base) I.ok.mod.kin T.kC (thn (ha.run pos pins s σ H _ I h) fun us s1 ⟨vs, H1, I1, r1, hz, q1⟩ => ⟨I1.kIn, run_mkX T iC tI F1 hr hb hd hx I1 r1 hz q1⟩) he hpl
theorem pe_mkX0 (T : OexC X.K C) (iC : PySem.W.findIn X.K (.ref C) "__init__" = some (some (.ref fI))) (tI : PySem.W.typeIn X.K (.ref fI) = some (.type "function"))
    (F1 : FnOk X.prog X.w X.K X.mg X.base CX k fI fd ps sp) (hr : Room (k + 1) X.A) (hb : Binds X.K fd ps ds) (hd : Vals dvs ds) (hx : Passes CX X (fun _ _ _ => False)) (hg : Gl X x) (hm : X.mg x = some (.ref C))
    (hdb : (x == ("__debug__" : Str)) = false := by decide) : PE X (.Call (.Name x p) [] [] pos) (tMkX C sp dvs tNil) := by
  refine ⟨fun pins s σ H Q I h => ?_⟩
  obtain ⟨hz, q1⟩ := h
  refine wpAny_Call_Name_kw (ld_glob I hg hm ?_ hdb)
  exact PySem.W.callWith_K0 I.kIn T.kC (run_mkX T iC tI F1 hr hb hd hx I .nil hz q1)
/-- an exception of the class at C at a, with these fields -/
def XvAt (H : Hp) (a C : Addr) (fs : List (Str × V)) : Prop := ∃ dx, H a = some (exo a C (some dx)) ∧ H dx = some (exd dx fs)
theorem XvAt.same {H H' : Hp} {a C : Addr} {fs : List (Str × V)} (h : XvAt H a C fs) (s : Same H H') : XvAt H' a C fs := let ⟨dx, e1, e2⟩ := h; ⟨dx, s _ _ e1, s _ _ e2⟩
theorem xv_inst {pins : List (Addr × Obj)} {σ : L2.St} {H : Hp} {s : Shared} {a : Addr} {fs : List (Str × V)} (I : Inv X pins σ H s) (h : XvAt H a C fs) : ∃ (oe od : Obj) (mA : Str → Option Value), PySem.W.InstAt s.heap a oe C (some od) ∧ (∀ f, PySem.W.lookIn f od = some (mA f)) ∧ ∀ f, RelO (fs.lookup f) (mA f) := by
  obtain ⟨dx, e1, e2⟩ := h
  obtain ⟨t1, ha⟩ := exo_at I.hok e1
  obtain ⟨mA, hns, hr⟩ := exd_at I.hok e2
  obtain ⟨od, ho, hl⟩ := lookIn_ns hns
  exact ⟨_, od, mA, ⟨ha, rfl, rfl, ho⟩, hl, hr⟩
/-- e.f of such a value -/
def tXv (C : Addr) (f : Str) (te : TE) : TE := fun σ H Q => te σ H fun x H1 => ∃ (a : Addr) (fs : List (Str × V)) (v : V), x = .ref a ∧ XvAt H1 a C fs ∧ fs.lookup f = some v ∧ Q v H1
theorem pe_xv {te : TE} {n : Str} (T : XfC X.K C) (hno : PySem.W.findIn X.K (.ref C) n = some none) (he : PE X e te) (hb : attributeBase e n X.env (eval e X.env) = eval e X.env := by rfl) : PE X (.Attribute e n pos) (tXv C n te) := by
  refine ⟨fun pins s σ H Q I h => ?_⟩
  refine attr_of hb (thn (he.run pins s σ H _ I h) fun u s1 hh => ?_)
  obtain ⟨x, H1, I1, rx, a, fs, v, ex, hv, l, q⟩ := hh
  subst ex
  obtain rfl : u = Value.ref a := rx
  obtain ⟨oe, od, mA, J, hl, hr⟩ := xv_inst I1 hv
  obtain ⟨u, hu, ru⟩ := RelO.some_of (v := v) (o := mA n) (by rw [← l]; exact hr n)
  exact HandSPX.exc_get I1.kIn J T.ga T.gg T.exC (PySem.W.findObj_own T.hdC hno rfl (by rw [hl, hu])) (handed_of ru) ⟨v, H1, I1.tok _, ru, q⟩
/-- isinstance(e, c) of such a value -/
def rIsX (K : PySem.W.Frag) : List V → Hp → VK → Prop := fun xs H Q => ∃ (a C : Addr) (fs : List (Str × V)) (c : V) (cv : Value) (b : Bool), xs = [.ref a, c] ∧ XvAt H a C fs ∧ ExcC K C ∧ ClsV c cv ∧ PySem.W.kitOne K (.ref C) cv = some b ∧ Q (.bl b) H
theorem call_isX : CallR X (.builtin "isinstance") (rIsX X.K) := by
  intro pins s σ H xs us Q I r h
  obtain ⟨a, D, fs, c, cv, b, rfl, hv, C, hcv, e, q⟩ := h
  cases r with
  | cons rx rr =>
    cases rr with
    | cons rt rr =>
      cases rr
      cases rx
      have ec := hcv.eq rt
      subst ec
      obtain ⟨oe, od, mA, J, _, _⟩ := xv_inst I hv
      exact PySem.W.kia_one (PySem.W.kitx_excD C.hg C.hk C.hs C.hd C.ha C.hn C.ht C.hm) I.kIn ⟨od, J⟩ e (fun z => nomatch z) fun tk => ⟨.bl b, H, I.kept (t' := tk) fun _ _ z => z, rfl, q⟩
end
end LR

namespace LR
open PySem PySem.Spec PyProof.Rows L2
/-- the hook over told addresses: those that the facts look at; more facts in `mo` -/
def Ls.obsA (as : List Addr) (L : Ls) (mo : PySem.W.Frag → Bool) (g : Addr → Option Obj) : AlL × Bool := (L.obs (He.frG g as), mo (He.frG g as))
def hookA (as : List Addr) (L : Ls) (mo : PySem.W.Frag → Bool) : PySem.W.Hook where
  α := AlL × Bool
  obs := fun s => L.obsA as mo s.heap.get?
  val := fun _ => (L.val, true)
  says := fun _ h => ∃ K : PySem.W.Frag, K.In h ∧ L.obs K = L.val ∧ mo K = true
  of := fun _ _ e => ⟨_, He.frG_in, (Prod.mk.inj e).1, (Prod.mk.inj e).2⟩
  keeps := fun _ _ _ ⟨K, hK, c⟩ k => ⟨K, PySem.W.Frag.In.keeps hK k, c⟩
theorem Ls.obsA_eq {as : List Addr} {L : Ls} {mo : PySem.W.Frag → Bool} {g : Addr → Option Obj} {s : Shared} (h : ∀ a, g a = s.heap.get? a) : L.obsA as mo g = (hookA as L mo).obs s := by
  rw [show g = s.heap.get? from funext h] <;> rfl
/-! the bases of a family of error classes -/
def mroOne (K : PySem.W.Frag) (root x : Str) : Bool := match PySem.W.clsIn K (He.ga K x) with
  | some cd => (cd.mro == (if x = root then [] else [Value.ref (He.ga K x)]) ++ [.ref (He.ga K root), .type "ValueError", .type "Exception", .type "BaseException", .type "object"]) && PySem.W.typeIn K (.ref (He.ga K x)) == some (.type "type")
  | none => false
def mroB (K : PySem.W.Frag) (root : Str) (xs : List Str) : Bool := xs.all (mroOne K root) && decide ((xs.map (He.ga K)).Nodup)
theorem inj_of {α β : Type} {f : α → β} : ∀ {xs : List α}, (xs.map f).Nodup → ∀ x ∈ xs, ∀ y ∈ xs, f x = f y → x = y
  | [], _, x, hx, _, _, _ => nomatch hx
  | a :: r, h, x, hx, y, hy, e => by
    rw [List.map_cons, List.nodup_cons] at h
    obtain ⟨h1, h2⟩ := h
    rcases List.mem_cons.mp hx with rfl | hx
    · rcases List.mem_cons.mp hy with rfl | hy
      · rfl
      · exact absurd (List.mem_map.mpr ⟨y, hy, e.symm⟩) h1
    · rcases List.mem_cons.mp hy with ey | hy
      · exact absurd (List.mem_map.mpr ⟨x, hx, e.trans (by rw [ey])⟩) h1
      · exact inj_of h2 x hx y hy e
theorem kit_ex {K : PySem.W.Frag} {root : Str} {xs : List Str} (h : mroB K root xs = true) {x y : Str} (hr : root ∈ xs) (hx : x ∈ xs) (hy : y ∈ xs) : PySem.W.kitOne K (.ref (He.ga K x)) (.ref (He.ga K y)) = some (decide (x = y) || decide (y = root)) := by
  obtain ⟨h1, h2⟩ := Bool.and_eq_true_iff.mp h
  have hn := of_decide_eq_true h2
  have m1 := List.all_eq_true.mp h1 x hx
  have m2 := List.all_eq_true.mp h1 y hy
  unfold PySem.W.kitOne
  by_cases e : x = y
  · subst e
    rw [if_pos (beq_iff_eq.mpr rfl), decide_eq_true rfl, Bool.true_or]
  · have ne : He.ga K x ≠ He.ga K y := fun z => e (inj_of hn x hx y hy z)
    rw [if_neg (fun z => ne (Value.ref.inj (beq_iff_eq.mp z)))]
    unfold mroOne at m1 m2
    cases c1 : PySem.W.clsIn K (He.ga K x) with
    | none =>
      rw [c1] at m1
      cases m1
    | some cd =>
      cases c2 : PySem.W.clsIn K (He.ga K y) with
      | none =>
        rw [c2] at m2
        cases m2
      | some cd2 =>
        rw [c1] at m1
        rw [c2] at m2
        dsimp only at m1 m2
        obtain ⟨m1, _⟩ := Bool.and_eq_true_iff.mp m1
        obtain ⟨_, m2⟩ := Bool.and_eq_true_iff.mp m2
        unfold PySem.W.kitCls
        dsimp only
        rw [if_pos (by rw [c2, m2]; rfl)]
        unfold PySem.W.subIn PySem.W.mroIn
        dsimp only
        rw [c1]
        show (if cd.mro.isEmpty then none else some (cd.mro.contains (.ref (He.ga K y)))) = _
        rw [beq_iff_eq.mp m1]
        have nx : (He.ga K y == He.ga K x) = false := beq_eq_false_iff_ne.mpr (Ne.symm ne)
        have d1 : decide (x = y) = false := decide_eq_false e
        rw [d1, Bool.false_or]
        have dr : decide (y = root) = (Value.ref (He.ga K y) == Value.ref (He.ga K root)) := by
          by_cases er : y = root
          · rw [er, decide_eq_true rfl]
            exact (beq_iff_eq.mpr rfl).symm
          · rw [decide_eq_false er]
            exact (beq_eq_false_iff_ne.mpr fun z => er (inj_of hn y hy root hr (Value.ref.inj z))).symm
        rw [dr]
        have n2 : (Value.ref (He.ga K y) == Value.ref (He.ga K x)) = false := beq_eq_false_iff_ne.mpr fun z => ne (Value.ref.inj z).symm
        have t : ∀ s : String, (Value.ref (He.ga K y) == Value.type s) = false := fun s => beq_eq_false_iff_ne.mpr fun z => nomatch z
        have ce : ∀ v : Value, ([] : List Value).contains v = false := fun _ => rfl
        by_cases ex : x = root
        · rw [if_pos ex, List.nil_append, if_neg (by simp)]
          simp only [List.contains_cons, t, Bool.or_false, ce]
        · rw [if_neg ex, if_neg (by simp)]
          simp only [List.cons_append, List.nil_append, List.contains_cons, n2, t, Bool.false_or, Bool.or_false, ce]
theorem kit_ve {K : PySem.W.Frag} {root : Str} {xs : List Str} (h : mroB K root xs = true) {x : Str} (hx : x ∈ xs) : PySem.W.kitOne K (.ref (He.ga K x)) (.type "ValueError") = some true := by
  obtain ⟨h1, h2⟩ := Bool.and_eq_true_iff.mp h
  have m1 := List.all_eq_true.mp h1 x hx
  unfold PySem.W.kitOne
  rw [if_neg (by intro z; cases beq_iff_eq.mp z)]
  unfold mroOne at m1
  cases c1 : PySem.W.clsIn K (He.ga K x) with
  | none =>
    rw [c1] at m1
    cases m1
  | some cd =>
    rw [c1] at m1
    dsimp only at m1
    obtain ⟨m1, _⟩ := Bool.and_eq_true_iff.mp m1
    unfold PySem.W.kitCls
    dsimp only
    rw [if_pos (by decide +kernel)]
    unfold PySem.W.subIn PySem.W.mroIn
    dsimp only
    rw [c1]
    show (if cd.mro.isEmpty then none else some (cd.mro.contains (.type "ValueError"))) = _
    rw [beq_iff_eq.mp m1]
    by_cases ex : x = root
    · rw [if_pos ex, List.nil_append, if_neg (by simp)]
      simp
    · rw [if_neg ex, if_neg (by simp)]
      simp
end LR

/-! what the head is asked for: classes, static methods, constants, operators of mixed kinds, classes of errors -/
namespace DL
open PySem PySem.Spec PyProof.Rows L2 LR
def cname : Nat → Str
  | 0 => "Ratio" | 1 => "Vector" | 2 => "Matrix" | 3 => "Poly" | 4 => "Measure" | 5 => "Solution" | 6 => "Echelon" | 7 => "Task" | 8 => "Course" | 9 => "TwoSided" | 10 => "Walk" | 11 => "Reach" | 12 => "Memory" | _ => ""
def base6 : List String := ["NoneType", "bool", "int", "str", "list", "tuple"]
def isiB (cs : List Nat) (K : PySem.W.Frag) : Bool := cs.all fun c => clAll K (cname c) && (base6.all (fun t => decide (PySem.W.kitOne K (.type t) (.ref (He.ga K (cname c))) = some false) && (decide (PySem.W.kitOne K (.ref (He.ga K (cname c))) (.type t) = some false) && PySem.W.notFirst K (He.ga K (cname c)) (.type t))) &&
  cs.all fun c' => decide (PySem.W.kitOne K (.ref (He.ga K (cname c))) (.ref (He.ga K (cname c'))) = some (c == c')) && PySem.W.notFirst K (He.ga K (cname c)) (.ref (He.ga K (cname c'))))
def smP (K : PySem.W.Frag) (x m : Str) : Addr := match PySem.W.findCls K (.ref (He.ga K x)) (.type "type") m with
  | some (.get _ (.ref p) _ _) => p
  | _ => 0
def smF (K : PySem.W.Frag) (x m : Str) : Addr := match PySem.W.recIn K (smP K x m) "staticmethod" with
  | some (.ref f :: _) => f
  | _ => 0
def smB (K : PySem.W.Frag) (x m : Str) : Bool := PySem.W.readsIn K (He.ga K x) (.type "type") && (decide (PySem.W.specialIn K (.ref (He.ga K x)) "__getattribute__" = some (some (.builtin "type.__getattribute__"))) && ((match PySem.W.findCls K (.ref (He.ga K x)) (.type "type") m with
    | some (.get g (.ref p) ob tp) => decide (g = .builtin "staticmethod.__get__") && (decide (p = smP K x m) && (decide (ob = .none) && decide (tp = .ref (He.ga K x))))
    | _ => false) && ((match PySem.W.recIn K (smP K x m) "staticmethod" with
    | some (.ref f :: _) => decide (f = smF K x m)
    | _ => false) && PySem.W.keepIn K (.ref (smF K x m)))))
def ciB (K : PySem.W.Frag) (x : Str) (n : Int) : Bool := match PySem.W.nsIn K mainGlobals x with
  | some (some (.int m _)) => m == n
  | _ => false
def moB (cs : List Nat) (sms : List (Str × Str)) (cis : List (Str × Int)) (K : PySem.W.Frag) : Bool := isiB cs K && (sms.all (fun p => smB K p.1 p.2) && cis.all fun p => ciB K p.1 p.2)
def binB (K : PySem.W.Frag) (nm : String) (C : Addr) : Bool := PySem.W.selfFirst K C && ((match PySem.W.findIn K (.ref C) (PySem.dunder nm) with
    | some (some (.ref _)) => true
    | _ => false) && (match PySem.W.findIn K (.ref C) (dunderR nm) with
    | some none => true
    | some (some (.ref _)) => true
    | _ => false))
abbrev gc (K : PySem.W.Frag) (c : Nat) : Addr := He.ga K (cname c)
def mixB (K : PySem.W.Frag) (nm : String) (cs : List Nat) : Bool := cs.all (fun c => binB K nm (gc K c) && ((decide (PySem.W.subIn K (.type "int") (.ref (gc K c)) = some false) && decide (PySem.W.subIn K (.ref (gc K c)) (.type "int") = some false)) &&
    cs.all fun d => decide (c = d) || (decide (gc K c ≠ gc K d) && decide (PySem.W.subIn K (.ref (gc K d)) (.ref (gc K c)) = some false)))) &&
  ((PySem.W.findIn K (.type "int") (PySem.dunder nm)).isSome && (PySem.W.findIn K (.type "int") (dunderR nm)).isSome)
def mixesB (l : List (String × List Nat)) (K : PySem.W.Frag) : Bool := l.all fun p => mixB K p.1 p.2
def mo2B (cs : List Nat) (sms : List (Str × Str)) (cis : List (Str × Int)) (mxs : List (String × List Nat)) (K : PySem.W.Frag) : Bool := moB cs sms cis K && mixesB mxs K
def mo3B (cs : List Nat) (sms : List (Str × Str)) (cis : List (Str × Int)) (mxs : List (String × List Nat)) (exs : List (Str × Str)) (K : PySem.W.Frag) : Bool := mo2B cs sms cis mxs K && exs.all fun p => decide (PySem.W.exmOne K (.ref (He.ga K p.1)) (.ref (He.ga K p.2)) = some true)
end DL

namespace K32
open PySem PySem.Spec PyProof.Rows L2 LR DL
def top (i : Nat) : Stmt := PySem.Challenge.pw_lastrows_k32_trace_table.main.body.getD i (.Pass ⟨0, 0, 0, 0⟩)
abbrev s_ZeroBottom_init : Stmt := inClass (top 4) 0
abbrev s_Empty_init : Stmt := inClass (top 7) 0
abbrev s_RaggedRows_init : Stmt := inClass (top 8) 0
abbrev s_SizeMismatch_init : Stmt := inClass (top 9) 0
abbrev s_NotSquare_init : Stmt := inClass (top 10) 0
abbrev s_Ratio_init : Stmt := inClass (top 14) 0
abbrev s_Ratio_mul : Stmt := inClass (top 14) 3
abbrev s_Ratio_eq : Stmt := inClass (top 14) 6
abbrev s_common_divisor : Stmt := top 17
abbrev s_common_bottom : Stmt := top 18
abbrev s_over_one_bottom : Stmt := top 19
abbrev s_is_factor : Stmt := top 20
abbrev s_as_ratio : Stmt := top 21
abbrev s_Vector_init : Stmt := inClass (top 23) 0
abbrev s_Vector_of : Stmt := inClass (top 23) 15
abbrev s_sum_of_products : Stmt := top 24
abbrev s_Matrix_init : Stmt := inClass (top 27) 0
abbrev s_Matrix_getitem : Stmt := inClass (top 27) 1
abbrev s_Matrix_add : Stmt := inClass (top 27) 3
abbrev s_Matrix_mul : Stmt := inClass (top 27) 6
abbrev s_Matrix_eq : Stmt := inClass (top 27) 9
abbrev s_Matrix_times_matrix : Stmt := inClass (top 27) 11
abbrev s_Matrix_times_factor : Stmt := inClass (top 27) 13
abbrev s_Matrix_trace : Stmt := inClass (top 27) 16
abbrev s_Matrix_identity : Stmt := inClass (top 27) 20
abbrev s_from_rows : Stmt := top 28
abbrev s_check_square : Stmt := top 29
abbrev s_check_sizes : Stmt := top 30
abbrev s_check_rows : Stmt := top 31
abbrev s_Poly_init : Stmt := inClass (top 33) 0
abbrev s_Poly_eq : Stmt := inClass (top 33) 11
abbrev s_Poly_call : Stmt := inClass (top 33) 12
abbrev s_Poly_of : Stmt := inClass (top 33) 21
abbrev s_value : Stmt := top 36
abbrev s_powers : Stmt := top 39
abbrev s_trace_table : Stmt := top 41
abbrev s_matrix_powers : Stmt := top 42
abbrev s_skew_poly : Stmt := top 44
abbrev s_law_cell : Stmt := top 46
abbrev s_law_mix : Stmt := top 47
abbrev s_law_draws : Stmt := top 48
abbrev s_law_size : Stmt := top 49
abbrev s_law_small : Stmt := top 50
abbrev s_law_bottom : Stmt := top 51
abbrev s_law_matrix : Stmt := top 52
abbrev s_law_poly : Stmt := top 53
abbrev s_law_is_integer : Stmt := top 54
abbrev s_law_equal : Stmt := top 55
abbrev s_law_mul : Stmt := top 56
abbrev s_law_unit : Stmt := top 57
abbrev s_law_same_rows : Stmt := top 58
abbrev s_law_trace : Stmt := top 59
abbrev s_law_value : Stmt := top 60
abbrev s_law_ratio_of : Stmt := top 61
abbrev s_law_integers : Stmt := top 62
abbrev s_law_matrix_of : Stmt := top 63
abbrev s_law_poly_of : Stmt := top 64
abbrev s_law_great : Stmt := top 65
abbrev s_law_twice_the_mean : Stmt := top 66
abbrev s_law_at : Stmt := top 67
abbrev s_law_same_poly : Stmt := top 68
abbrev s_law_table_is_due : Stmt := top 69
abbrev s_law : Stmt := top 70
abbrev d_ZeroBottom_init : Df := ⟨(fun K => He.ma K (He.ga K "ZeroBottom") "__init__"), "__init__", "ZeroBottom.__init__", defArgs s_ZeroBottom_init, defBody s_ZeroBottom_init, defScope s_ZeroBottom_init, []⟩
abbrev d_Empty_init : Df := ⟨(fun K => He.ma K (He.ga K "Empty") "__init__"), "__init__", "Empty.__init__", defArgs s_Empty_init, defBody s_Empty_init, defScope s_Empty_init, []⟩
abbrev d_RaggedRows_init : Df := ⟨(fun K => He.ma K (He.ga K "RaggedRows") "__init__"), "__init__", "RaggedRows.__init__", defArgs s_RaggedRows_init, defBody s_RaggedRows_init, defScope s_RaggedRows_init, []⟩
abbrev d_SizeMismatch_init : Df := ⟨(fun K => He.ma K (He.ga K "SizeMismatch") "__init__"), "__init__", "SizeMismatch.__init__", defArgs s_SizeMismatch_init, defBody s_SizeMismatch_init, defScope s_SizeMismatch_init, []⟩
abbrev d_NotSquare_init : Df := ⟨(fun K => He.ma K (He.ga K "NotSquare") "__init__"), "__init__", "NotSquare.__init__", defArgs s_NotSquare_init, defBody s_NotSquare_init, defScope s_NotSquare_init, []⟩
abbrev d_Ratio_init : Df := ⟨(fun K => He.ma K (He.ga K "Ratio") "__init__"), "__init__", "Ratio.__init__", defArgs s_Ratio_init, defBody s_Ratio_init, defScope s_Ratio_init, [.int 1]⟩
abbrev d_Ratio_mul : Df := ⟨(fun K => He.ma K (He.ga K "Ratio") "__mul__"), "__mul__", "Ratio.__mul__", defArgs s_Ratio_mul, defBody s_Ratio_mul, defScope s_Ratio_mul, []⟩
abbrev d_Ratio_eq : Df := ⟨(fun K => He.ma K (He.ga K "Ratio") "__eq__"), "__eq__", "Ratio.__eq__", defArgs s_Ratio_eq, defBody s_Ratio_eq, defScope s_Ratio_eq, []⟩
abbrev d_common_divisor : Df := ⟨(fun K => He.ga K "common_divisor"), "common_divisor", "common_divisor", defArgs s_common_divisor, defBody s_common_divisor, defScope s_common_divisor, []⟩
abbrev d_common_bottom : Df := ⟨(fun K => He.ga K "common_bottom"), "common_bottom", "common_bottom", defArgs s_common_bottom, defBody s_common_bottom, defScope s_common_bottom, []⟩
abbrev d_over_one_bottom : Df := ⟨(fun K => He.ga K "over_one_bottom"), "over_one_bottom", "over_one_bottom", defArgs s_over_one_bottom, defBody s_over_one_bottom, defScope s_over_one_bottom, []⟩
abbrev d_is_factor : Df := ⟨(fun K => He.ga K "is_factor"), "is_factor", "is_factor", defArgs s_is_factor, defBody s_is_factor, defScope s_is_factor, []⟩
abbrev d_as_ratio : Df := ⟨(fun K => He.ga K "as_ratio"), "as_ratio", "as_ratio", defArgs s_as_ratio, defBody s_as_ratio, defScope s_as_ratio, []⟩
abbrev d_Vector_init : Df := ⟨(fun K => He.ma K (He.ga K "Vector") "__init__"), "__init__", "Vector.__init__", defArgs s_Vector_init, defBody s_Vector_init, defScope s_Vector_init, [.int 1]⟩
abbrev d_Vector_of : Df := ⟨(fun K => smF K "Vector" "of"), "of", "Vector.of", defArgs s_Vector_of, defBody s_Vector_of, defScope s_Vector_of, []⟩
abbrev d_sum_of_products : Df := ⟨(fun K => He.ga K "sum_of_products"), "sum_of_products", "sum_of_products", defArgs s_sum_of_products, defBody s_sum_of_products, defScope s_sum_of_products, []⟩
abbrev d_Matrix_init : Df := ⟨(fun K => He.ma K (He.ga K "Matrix") "__init__"), "__init__", "Matrix.__init__", defArgs s_Matrix_init, defBody s_Matrix_init, defScope s_Matrix_init, [.int 1]⟩
abbrev d_Matrix_getitem : Df := ⟨(fun K => He.ma K (He.ga K "Matrix") "__getitem__"), "__getitem__", "Matrix.__getitem__", defArgs s_Matrix_getitem, defBody s_Matrix_getitem, defScope s_Matrix_getitem, []⟩
abbrev d_Matrix_add : Df := ⟨(fun K => He.ma K (He.ga K "Matrix") "__add__"), "__add__", "Matrix.__add__", defArgs s_Matrix_add, defBody s_Matrix_add, defScope s_Matrix_add, []⟩
abbrev d_Matrix_mul : Df := ⟨(fun K => He.ma K (He.ga K "Matrix") "__mul__"), "__mul__", "Matrix.__mul__", defArgs s_Matrix_mul, defBody s_Matrix_mul, defScope s_Matrix_mul, []⟩
abbrev d_Matrix_eq : Df := ⟨(fun K => He.ma K (He.ga K "Matrix") "__eq__"), "__eq__", "Matrix.__eq__", defArgs s_Matrix_eq, defBody s_Matrix_eq, defScope s_Matrix_eq, []⟩
abbrev d_Matrix_times_matrix : Df := ⟨(fun K => He.ma K (He.ga K "Matrix") "_times_matrix"), "_times_matrix", "Matrix._times_matrix", defArgs s_Matrix_times_matrix, defBody s_Matrix_times_matrix, defScope s_Matrix_times_matrix, []⟩
abbrev d_Matrix_times_factor : Df := ⟨(fun K => He.ma K (He.ga K "Matrix") "_times_factor"), "_times_factor", "Matrix._times_factor", defArgs s_Matrix_times_factor, defBody s_Matrix_times_factor, defScope s_Matrix_times_factor, []⟩
abbrev d_Matrix_trace : Df := ⟨(fun K => He.ma K (He.ga K "Matrix") "trace"), "trace", "Matrix.trace", defArgs s_Matrix_trace, defBody s_Matrix_trace, defScope s_Matrix_trace, []⟩
abbrev d_Matrix_identity : Df := ⟨(fun K => smF K "Matrix" "identity"), "identity", "Matrix.identity", defArgs s_Matrix_identity, defBody s_Matrix_identity, defScope s_Matrix_identity, []⟩
abbrev d_from_rows : Df := ⟨(fun K => He.ga K "from_rows"), "from_rows", "from_rows", defArgs s_from_rows, defBody s_from_rows, defScope s_from_rows, []⟩
abbrev d_check_square : Df := ⟨(fun K => He.ga K "check_square"), "check_square", "check_square", defArgs s_check_square, defBody s_check_square, defScope s_check_square, []⟩
abbrev d_check_sizes : Df := ⟨(fun K => He.ga K "check_sizes"), "check_sizes", "check_sizes", defArgs s_check_sizes, defBody s_check_sizes, defScope s_check_sizes, []⟩
abbrev d_check_rows : Df := ⟨(fun K => He.ga K "_check_rows"), "_check_rows", "_check_rows", defArgs s_check_rows, defBody s_check_rows, defScope s_check_rows, []⟩
abbrev d_Poly_init : Df := ⟨(fun K => He.ma K (He.ga K "Poly") "__init__"), "__init__", "Poly.__init__", defArgs s_Poly_init, defBody s_Poly_init, defScope s_Poly_init, [.int 1]⟩
abbrev d_Poly_eq : Df := ⟨(fun K => He.ma K (He.ga K "Poly") "__eq__"), "__eq__", "Poly.__eq__", defArgs s_Poly_eq, defBody s_Poly_eq, defScope s_Poly_eq, []⟩
abbrev d_Poly_call : Df := ⟨(fun K => He.ma K (He.ga K "Poly") "__call__"), "__call__", "Poly.__call__", defArgs s_Poly_call, defBody s_Poly_call, defScope s_Poly_call, []⟩
abbrev d_Poly_of : Df := ⟨(fun K => smF K "Poly" "of"), "of", "Poly.of", defArgs s_Poly_of, defBody s_Poly_of, defScope s_Poly_of, []⟩
abbrev d_value : Df := ⟨(fun K => He.ga K "_value"), "_value", "_value", defArgs s_value, defBody s_value, defScope s_value, []⟩
abbrev d_powers : Df := ⟨(fun K => He.ga K "powers"), "powers", "powers", defArgs s_powers, defBody s_powers, defScope s_powers, []⟩
abbrev d_trace_table : Df := ⟨(fun K => He.ga K "trace_table"), "trace_table", "trace_table", defArgs s_trace_table, defBody s_trace_table, defScope s_trace_table, []⟩
abbrev d_matrix_powers : Df := ⟨(fun K => He.ga K "_matrix_powers"), "_matrix_powers", "_matrix_powers", defArgs s_matrix_powers, defBody s_matrix_powers, defScope s_matrix_powers, []⟩
abbrev d_skew_poly : Df := ⟨(fun K => He.ga K "skew_poly"), "skew_poly", "skew_poly", defArgs s_skew_poly, defBody s_skew_poly, defScope s_skew_poly, []⟩
abbrev d_law_cell : Df := ⟨(fun K => He.ga K "_law_cell"), "_law_cell", "_law_cell", defArgs s_law_cell, defBody s_law_cell, defScope s_law_cell, []⟩
abbrev d_law_mix : Df := ⟨(fun K => He.ga K "_law_mix"), "_law_mix", "_law_mix", defArgs s_law_mix, defBody s_law_mix, defScope s_law_mix, []⟩
abbrev d_law_draws : Df := ⟨(fun K => He.ga K "_law_draws"), "_law_draws", "_law_draws", defArgs s_law_draws, defBody s_law_draws, defScope s_law_draws, []⟩
abbrev d_law_size : Df := ⟨(fun K => He.ga K "_law_size"), "_law_size", "_law_size", defArgs s_law_size, defBody s_law_size, defScope s_law_size, []⟩
abbrev d_law_small : Df := ⟨(fun K => He.ga K "_law_small"), "_law_small", "_law_small", defArgs s_law_small, defBody s_law_small, defScope s_law_small, []⟩
abbrev d_law_bottom : Df := ⟨(fun K => He.ga K "_law_bottom"), "_law_bottom", "_law_bottom", defArgs s_law_bottom, defBody s_law_bottom, defScope s_law_bottom, []⟩
abbrev d_law_matrix : Df := ⟨(fun K => He.ga K "_law_matrix"), "_law_matrix", "_law_matrix", defArgs s_law_matrix, defBody s_law_matrix, defScope s_law_matrix, []⟩
abbrev d_law_poly : Df := ⟨(fun K => He.ga K "_law_poly"), "_law_poly", "_law_poly", defArgs s_law_poly, defBody s_law_poly, defScope s_law_poly, []⟩
abbrev d_law_is_integer : Df := ⟨(fun K => He.ga K "_law_is_integer"), "_law_is_integer", "_law_is_integer", defArgs s_law_is_integer, defBody s_law_is_integer, defScope s_law_is_integer, []⟩
abbrev d_law_equal : Df := ⟨(fun K => He.ga K "_law_equal"), "_law_equal", "_law_equal", defArgs s_law_equal, defBody s_law_equal, defScope s_law_equal, []⟩
abbrev d_law_mul : Df := ⟨(fun K => He.ga K "_law_mul"), "_law_mul", "_law_mul", defArgs s_law_mul, defBody s_law_mul, defScope s_law_mul, []⟩
abbrev d_law_unit : Df := ⟨(fun K => He.ga K "_law_unit"), "_law_unit", "_law_unit", defArgs s_law_unit, defBody s_law_unit, defScope s_law_unit, []⟩
abbrev d_law_same_rows : Df := ⟨(fun K => He.ga K "_law_same_rows"), "_law_same_rows", "_law_same_rows", defArgs s_law_same_rows, defBody s_law_same_rows, defScope s_law_same_rows, []⟩
abbrev d_law_trace : Df := ⟨(fun K => He.ga K "_law_trace"), "_law_trace", "_law_trace", defArgs s_law_trace, defBody s_law_trace, defScope s_law_trace, []⟩
abbrev d_law_value : Df := ⟨(fun K => He.ga K "_law_value"), "_law_value", "_law_value", defArgs s_law_value, defBody s_law_value, defScope s_law_value, []⟩
abbrev d_law_ratio_of : Df := ⟨(fun K => He.ga K "_law_ratio_of"), "_law_ratio_of", "_law_ratio_of", defArgs s_law_ratio_of, defBody s_law_ratio_of, defScope s_law_ratio_of, []⟩
abbrev d_law_integers : Df := ⟨(fun K => He.ga K "_law_integers"), "_law_integers", "_law_integers", defArgs s_law_integers, defBody s_law_integers, defScope s_law_integers, []⟩
abbrev d_law_matrix_of : Df := ⟨(fun K => He.ga K "_law_matrix_of"), "_law_matrix_of", "_law_matrix_of", defArgs s_law_matrix_of, defBody s_law_matrix_of, defScope s_law_matrix_of, []⟩
abbrev d_law_poly_of : Df := ⟨(fun K => He.ga K "_law_poly_of"), "_law_poly_of", "_law_poly_of", defArgs s_law_poly_of, defBody s_law_poly_of, defScope s_law_poly_of, []⟩
abbrev d_law_great : Df := ⟨(fun K => He.ga K "_law_great"), "_law_great", "_law_great", defArgs s_law_great, defBody s_law_great, defScope s_law_great, []⟩
abbrev d_law_twice_the_mean : Df := ⟨(fun K => He.ga K "_law_twice_the_mean"), "_law_twice_the_mean", "_law_twice_the_mean", defArgs s_law_twice_the_mean, defBody s_law_twice_the_mean, defScope s_law_twice_the_mean, []⟩
abbrev d_law_at : Df := ⟨(fun K => He.ga K "_law_at"), "_law_at", "_law_at", defArgs s_law_at, defBody s_law_at, defScope s_law_at, []⟩
abbrev d_law_same_poly : Df := ⟨(fun K => He.ga K "_law_same_poly"), "_law_same_poly", "_law_same_poly", defArgs s_law_same_poly, defBody s_law_same_poly, defScope s_law_same_poly, []⟩
abbrev d_law_table_is_due : Df := ⟨(fun K => He.ga K "_law_table_is_due"), "_law_table_is_due", "_law_table_is_due", defArgs s_law_table_is_due, defBody s_law_table_is_due, defScope s_law_table_is_due, []⟩
abbrev d_law : Df := ⟨(fun K => He.ga K "law"), "law", "law", defArgs s_law, defBody s_law, defScope s_law, []⟩
def fnL : List Df := (([d_ZeroBottom_init, d_Empty_init, d_RaggedRows_init, d_SizeMismatch_init, d_NotSquare_init, d_Ratio_init, d_Ratio_mul, d_Ratio_eq, d_common_divisor, d_common_bottom, d_over_one_bottom, d_is_factor, d_as_ratio, d_Vector_init, d_Vector_of, d_sum_of_products, d_Matrix_init, d_Matrix_getitem, d_Matrix_add, d_Matrix_mul, d_Matrix_eq, d_Matrix_times_matrix, d_Matrix_times_factor, d_Matrix_trace, d_Matrix_identity] : List Df) ++ ([d_from_rows, d_check_square, d_check_sizes, d_check_rows, d_Poly_init, d_Poly_eq, d_Poly_call, d_Poly_of, d_value, d_powers, d_trace_table, d_matrix_powers, d_skew_poly, d_law_cell, d_law_mix, d_law_draws, d_law_size, d_law_small, d_law_bottom, d_law_matrix, d_law_poly, d_law_is_integer, d_law_equal, d_law_mul, d_law_unit] : List Df) ++ ([d_law_same_rows, d_law_trace, d_law_value, d_law_ratio_of, d_law_integers, d_law_matrix_of, d_law_poly_of, d_law_great, d_law_twice_the_mean, d_law_at, d_law_same_poly, d_law_table_is_due, d_law] : List Df))
def LL : Ls where
  gl := ((["LastrowsError", "ZeroBottom", "BadNumber", "BadText", "Empty", "RaggedRows", "SizeMismatch", "NotSquare", "ZeroPoly", "Ratio", "Vector", "Matrix", "Poly", "common_divisor", "common_bottom", "over_one_bottom", "is_factor", "as_ratio", "sum_of_products", "from_rows", "check_square", "check_sizes", "_check_rows", "_value", "powers"] : List Str) ++ (["trace_table", "_matrix_powers", "skew_poly", "_law_cell", "_law_mix", "_law_draws", "_law_size", "_law_small", "_law_bottom", "_law_matrix", "_law_poly", "_law_is_integer", "_law_equal", "_law_mul", "_law_unit", "_law_same_rows", "_law_trace", "_law_value", "_law_ratio_of", "_law_integers", "_law_matrix_of", "_law_poly_of", "_law_great", "_law_twice_the_mean", "_law_at"] : List Str) ++ (["_law_same_poly", "_law_table_is_due", "law"] : List Str))
  fr := ["NotImplemented", "len", "abs", "int", "bool", "str", "range", "isinstance", "list", "tuple", "zip", "enumerate", "sum", "max", "any", "ValueError"]
  cl := ["Ratio", "Vector", "Matrix", "Poly"]
  ex := ((["Empty", "NotSquare", "RaggedRows", "SizeMismatch", "ZeroBottom"] : List Str))
  me := (([("Ratio", "__init__"), ("Ratio", "__mul__"), ("Ratio", "__eq__"), ("Vector", "__init__"), ("Matrix", "__init__"), ("Matrix", "__getitem__"), ("Matrix", "__add__"), ("Matrix", "__mul__"), ("Matrix", "__eq__"), ("Matrix", "_times_matrix"), ("Matrix", "_times_factor"), ("Matrix", "trace"), ("Poly", "__init__"), ("Poly", "__eq__"), ("Poly", "__call__")] : List (Str × Str)))
  no := (([("Ratio", "top"), ("Ratio", "bottom"), ("Vector", "tops"), ("Vector", "bottom"), ("Matrix", "tops"), ("Matrix", "bottom"), ("Matrix", "height"), ("Matrix", "width"), ("Poly", "tops"), ("Poly", "bottom"), ("Empty", "word"), ("NotSquare", "height"), ("NotSquare", "width"), ("NotSquare", "word"), ("RaggedRows", "index"), ("RaggedRows", "word"), ("SizeMismatch", "left"), ("SizeMismatch", "right"), ("SizeMismatch", "word"), ("ZeroBottom", "word")] : List (Str × Str)))
  bl := [("gcd", "math.gcd"), ("lcm", "math.lcm")]
  kit := []
  kie := ([] : List (Str × Str × Bool))
  kiv := ([] : List (Str × String × Bool))
  pr := ([] : List (Str × Str))
  nf := []
  fn := fnL
def cs : List Nat := [0, 1, 2, 3]
def sms : List (Str × Str) := [("Matrix", "identity"), ("Poly", "of"), ("Vector", "of")]
def cis : List (Str × Int) := [("_MOST_DIGITS", 400)]
def mxs : List (String × List Nat) := [("mul", [0, 2]), ("add", [2])]
def exs : List (Str × Str) := []
end K32

namespace K32
open PySem PySem.Spec PyProof.Rows L2 LR DL

abbrev HRow : PySem.W.OpenRow := PySem.W.OpenLaw.row PySem.Challenge.rw_lastrows_k32_trace_table
def ads : List Addr := (([1125, 1124, 1120, 1119, 1113, 1112, 1106, 1105, 1099, 1098, 1092, 1091, 1085, 1084, 1078, 1077, 1073, 1072, 1066, 1065, 1059, 1058, 1054, 1053, 1049, 1048, 1042, 1041, 1037, 1036, 1032, 1031, 1025, 1024, 1018, 1017, 1013, 1012, 1008, 1007, 1001, 1000, 994, 993, 987, 986, 980, 979, 973, 972] : List Addr) ++ ([966, 965, 959, 958, 952, 951, 947, 946, 935, 934, 910, 909, 898, 896, 895, 827, 826, 820, 819, 747, 746, 742, 734, 733, 727, 726, 720, 719, 713, 712, 704, 703, 666, 664, 663, 637, 636, 620, 619, 610, 609, 600, 599, 579, 578, 558, 557, 546, 545, 539] : List Addr) ++ ([538, 534, 519, 518, 510, 509, 498, 496, 495, 392, 391, 387, 379, 378, 372, 371, 365, 364, 360, 359, 353, 352, 328, 327, 278, 277, 257, 256, 236, 235, 229, 219, 200, 199, 197, 196, 181, 180, 178, 177, 162, 161, 159, 158, 143, 142, 140, 139, 124, 105] : List Addr) ++ ([86, 85, 83, 82, 66, 65, 3, 2] : List Addr))
def mo : PySem.W.Frag → Bool := fun K => mo3B cs sms cis mxs exs K
abbrev hk : PySem.W.Hook := hookA ads LL mo
def ob (s : PySem.W.SharedT) : AlL × Bool := LL.obsA ads mo (HandSHeadRun.getT s)
theorem ob_eq (s : PySem.W.SharedT) : ob s = hk.obs s.abs := Ls.obsA_eq (HandSHeadRun.getT_eq s)
def looseL : List Str := ((["gcd", "lcm", "_wall", "LastrowsError", "ZeroBottom", "BadNumber", "BadText", "Empty", "RaggedRows", "SizeMismatch", "NotSquare", "ZeroPoly", "_MOST_DIGITS", "Ratio", "_is_long", "_is_number", "common_divisor", "common_bottom", "over_one_bottom", "is_factor", "as_ratio", "Vector", "sum_of_products", "_check_lengths", "Matrix"] : List Str) ++ (["from_rows", "check_square", "check_sizes", "_check_rows", "Poly", "_padded", "_product", "_value", "_division", "powers", "trace_table", "_matrix_powers", "skew_poly", "_law_cell", "_law_mix", "_law_draws", "_law_size", "_law_small", "_law_bottom", "_law_matrix", "_law_poly", "_law_is_integer", "_law_equal", "_law_mul", "_law_unit"] : List Str) ++ (["_law_same_rows", "_law_trace", "_law_value", "_law_ratio_of", "_law_integers", "_law_matrix_of", "_law_poly_of", "_law_great", "_law_twice_the_mean", "_law_at", "_law_same_poly", "_law_table_is_due"] : List Str))
theorem run (w : World) : HandSHeadRun.RunEqI HRow (PySem.W.view HRow.prog [70]) hk ob 9500 looseL w := by
  unfold HandSHeadRun.RunEqI
  kernel_rfl
end K32

namespace LR
open PySem PySem.Spec PyProof.Rows L2
/-! ### ratios in lowest terms -/
/-- the greatest common divisor of tops and bottom -/
def cg (ts : List Int) (b : Int) : Nat := ts.foldl (fun g t => Nat.gcd g t.natAbs) b.natAbs
/-- .. with the sign of the bottom -/
def gs (ts : List Int) (b : Int) : Int := if b > 0 then (cg ts b : Int) else -(cg ts b : Int)
def nT (t b : Int) : Int := t.fdiv (gs [t] b)
def nB (t b : Int) : Int := b.fdiv (gs [t] b)
structure Nrm (t b : Int) : Prop where
  pos : 0 < b
  cop : Nat.gcd b.natAbs t.natAbs = 1
theorem cg1 (t b : Int) : cg [t] b = Nat.gcd b.natAbs t.natAbs := rfl
theorem fold_one : ∀ ts : List Int, ts.foldl (fun g t => Nat.gcd g t.natAbs) 1 = 1
  | [] => rfl
  | t :: r => by
    show r.foldl (fun g t => Nat.gcd g t.natAbs) (Nat.gcd 1 t.natAbs) = 1
    rw [Nat.gcd_one_left]
    exact fold_one r
theorem cg_dvd (ts : List Int) (b : Int) : cg ts b ∣ b.natAbs ∧ ∀ t ∈ ts, cg ts b ∣ t.natAbs := by
  have key : ∀ (ts : List Int) (g : Nat), ts.foldl (fun g t => Nat.gcd g t.natAbs) g ∣ g ∧ ∀ t ∈ ts, ts.foldl (fun g t => Nat.gcd g t.natAbs) g ∣ t.natAbs := by
    intro ts
    induction ts with
    | nil => exact fun g => ⟨Nat.dvd_refl g, fun t h => by cases h⟩
    | cons a r ih =>
      intro g
      obtain ⟨h1, h2⟩ := ih (Nat.gcd g a.natAbs)
      refine ⟨Nat.dvd_trans h1 (Nat.gcd_dvd_left _ _), fun t ht => ?_⟩
      rcases List.mem_cons.mp ht with e | e
      · rw [e]
        exact Nat.dvd_trans h1 (Nat.gcd_dvd_right _ _)
      · exact h2 t e
  exact key ts b.natAbs
theorem cg_pos {ts : List Int} {b : Int} (h : b ≠ 0) : 0 < cg ts b := Nat.pos_of_dvd_of_pos (cg_dvd ts b).1 (by omega)
theorem cg_le {ts : List Int} {b : Int} (h : b ≠ 0) : cg ts b ≤ b.natAbs := Nat.le_of_dvd (by omega) (cg_dvd ts b).1
theorem gs_abs (ts : List Int) (b : Int) : (gs ts b).natAbs = cg ts b := by
  unfold gs
  split <;> omega
theorem gs_ne {ts : List Int} {b : Int} (h : b ≠ 0) : gs ts b ≠ 0 := by
  have q := gs_abs ts b
  have p := cg_pos (ts := ts) h
  omega
theorem gs_le {ts : List Int} {b : Int} (h : b ≠ 0) : (gs ts b).natAbs ≤ b.natAbs := by
  rw [gs_abs]
  exact cg_le h
theorem gs_dvd (t b : Int) : gs [t] b ∣ t ∧ gs [t] b ∣ b := by
  obtain ⟨h1, h2⟩ := cg_dvd [t] b
  constructor
  · exact Int.natAbs_dvd_natAbs.mp (by rw [gs_abs]; exact h2 t (List.mem_singleton.mpr rfl))
  · exact Int.natAbs_dvd_natAbs.mp (by rw [gs_abs]; exact h1)
theorem nT_ed (t b : Int) : nT t b = t / gs [t] b := Int.fdiv_eq_ediv_of_dvd (gs_dvd t b).1
theorem nB_ed (t b : Int) : nB t b = b / gs [t] b := Int.fdiv_eq_ediv_of_dvd (gs_dvd t b).2
theorem nT_abs (t b : Int) : (nT t b).natAbs = t.natAbs / Nat.gcd b.natAbs t.natAbs := by
  rw [nT_ed, Int.natAbs_ediv_of_dvd (gs_dvd t b).1, gs_abs, cg1]
theorem nB_abs (t b : Int) : (nB t b).natAbs = b.natAbs / Nat.gcd b.natAbs t.natAbs := by
  rw [nB_ed, Int.natAbs_ediv_of_dvd (gs_dvd t b).2, gs_abs, cg1]
theorem nT_le (t b : Int) : (nT t b).natAbs ≤ t.natAbs := Int.natAbs_fdiv_le_natAbs _ _
theorem nB_le (t b : Int) : (nB t b).natAbs ≤ b.natAbs := Int.natAbs_fdiv_le_natAbs _ _
theorem nB_pos {t b : Int} (h : b ≠ 0) : 0 < nB t b := by
  have e : nB t b * gs [t] b = b := by
    rw [nB_ed]
    exact Int.ediv_mul_cancel (gs_dvd t b).2
  have p := cg_pos (ts := [t]) h
  unfold gs at e
  split at e
  · rename_i hb
    rcases Int.lt_or_le 0 (nB t b) with q | q
    · exact q
    · have z : nB t b * (cg [t] b : Int) ≤ 0 := Int.mul_nonpos_of_nonpos_of_nonneg q (Int.natCast_nonneg _)
      omega
  · rename_i hb
    rcases Int.lt_or_le 0 (nB t b) with q | q
    · exact q
    · have z : 0 ≤ nB t b * -(cg [t] b : Int) := Int.mul_nonneg_of_nonpos_of_nonpos q (by omega)
      omega
theorem nrm_of {t b : Int} (h : b ≠ 0) : Nrm (nT t b) (nB t b) := by
  refine ⟨nB_pos h, ?_⟩
  rw [nT_abs, nB_abs]
  exact Nat.gcd_div_gcd_div_gcd_of_pos_left (by omega)
theorem gs_nrm {t b : Int} (h : Nrm t b) : gs [t] b = 1 := by
  unfold gs
  rw [if_pos h.pos, cg1, h.cop]
  rfl
theorem nT_nrm {t b : Int} (h : Nrm t b) : nT t b = t := by
  unfold nT
  rw [gs_nrm h, Int.fdiv_one]
theorem nB_nrm {t b : Int} (h : Nrm t b) : nB t b = b := by
  unfold nB
  rw [gs_nrm h, Int.fdiv_one]
theorem gs_neg (t b : Int) : gs [-t] b = gs [t] b := by
  unfold gs
  rw [cg1, cg1, Int.natAbs_neg]
theorem nT_neg (t b : Int) : nT (-t) b = -nT t b := by
  rw [nT_ed, nT_ed, gs_neg, Int.neg_ediv_of_dvd (gs_dvd t b).1]
theorem nB_neg (t b : Int) : nB (-t) b = nB t b := by
  unfold nB
  rw [gs_neg]
theorem Nrm.neg {t b : Int} (h : Nrm t b) : Nrm (-t) b := ⟨h.pos, by rw [Int.natAbs_neg]; exact h.cop⟩
theorem Nrm.abs {t b : Int} (h : Nrm t b) : Nrm (if t < 0 then -t else t) b := by
  split
  · exact h.neg
  · exact h
theorem Nrm.one (t : Int) : Nrm t 1 := ⟨by decide, Nat.gcd_one_left _⟩
theorem Nrm.zero {b : Int} (h : b ≠ 0) : nT 0 b = 0 ∧ nB 0 b = 1 := by
  have q := nrm_of (t := 0) h
  have e : nT 0 b = 0 := Int.zero_fdiv _
  refine ⟨e, ?_⟩
  have c := q.cop
  rw [e, show ((0 : Int)).natAbs = 0 from rfl, Nat.gcd_zero_right] at c
  have p := q.pos
  omega
/-! ### Euclid, turn by turn -/
theorem mod_half {n m : Nat} (h : m ≤ n) (hm : 0 < m) : 2 * (n % m) ≤ n := by
  have h1 : n % m < m := Nat.mod_lt _ hm
  have h2 : n % m + m * (n / m) = n := Nat.mod_add_div n m
  have h3 : 1 ≤ n / m := (Nat.one_le_div_iff hm).mpr h
  have h4 : m * 1 ≤ m * (n / m) := Nat.mul_le_mul_left m h3
  omega
/-- behind i turns, b not zero so far -/
structure Euc (g B i a b : Nat) : Prop where
  gcd : Nat.gcd a b = g
  lo : b * 2 ^ (i / 2) ≤ B
  up : 1 ≤ i → b < a ∧ a * 2 ^ ((i - 1) / 2) ≤ B
theorem Euc.start (a b : Nat) : Euc (Nat.gcd a b) b 0 a b := ⟨rfl, by simp, fun h => by omega⟩
theorem Euc.step {g B i a b : Nat} (h : Euc g B i a b) (hb : 0 < b) : Euc g B (i + 1) b (a % b) := by
  have hlt : a % b < b := Nat.mod_lt _ hb
  refine ⟨?_, ?_, fun _ => ⟨hlt, h.lo⟩⟩
  · rw [← h.gcd, Nat.gcd_comm a b, Nat.gcd_rec b a, Nat.gcd_comm b]
  · rcases Nat.lt_or_ge i 1 with h0 | h1
    · have e : i = 0 := by omega
      subst e
      have z := h.lo
      simp at z ⊢
      omega
    · obtain ⟨u1, u2⟩ := h.up h1
      rcases Nat.mod_two_eq_zero_or_one i with e | e
      · have e2 : (i + 1) / 2 = i / 2 := by omega
        rw [e2]
        exact Nat.le_trans (Nat.mul_le_mul_right _ (Nat.le_of_lt hlt)) h.lo
      · have e2 : (i + 1) / 2 = (i - 1) / 2 + 1 := by omega
        rw [e2, Nat.pow_succ]
        have z := mod_half (Nat.le_of_lt u1) hb
        have y : a % b * (2 ^ ((i - 1) / 2) * 2) = 2 * (a % b) * 2 ^ ((i - 1) / 2) := by
          rw [Nat.mul_comm (2 ^ ((i - 1) / 2)) 2, ← Nat.mul_assoc, Nat.mul_comm (a % b) 2]
        rw [y]
        exact Nat.le_trans (Nat.mul_le_mul_right _ z) u2
theorem Euc.done {g B n a b : Nat} (h : Euc g B (2 * n + 2) a b) (hB : B < 2 ^ n) : b = 0 ∧ a = g := by
  have e : (2 * n + 2) / 2 = n + 1 := by omega
  have z := h.lo
  rw [e, Nat.pow_succ] at z
  have hb : b = 0 := by
    rcases Nat.eq_zero_or_pos b with q | q
    · exact q
    · have y : 1 * (2 ^ n * 2) ≤ b * (2 ^ n * 2) := Nat.mul_le_mul_right _ q
      omega
  refine ⟨hb, ?_⟩
  have q := h.gcd
  rw [hb, Nat.gcd_zero_right] at q
  exact q
theorem Euc.ret {g B i a : Nat} (h : Euc g B i a 0) : a = g := by
  have q := h.gcd
  rw [Nat.gcd_zero_right] at q
  exact q
theorem bits_hi (i : Int) : i.natAbs < 2 ^ Builtin.Int.intBits i := by
  unfold Builtin.Int.intBits
  split
  · rename_i h
    have e : i = 0 := by simpa using h
    rw [e]
    decide
  · exact Nat.lt_log2_self
/-! sizes -/
theorem abs_mul_lt {i j : Int} {a b : Nat} (ha : i.natAbs < 2 ^ a) (hb : j.natAbs < 2 ^ b) : (i * j).natAbs < 2 ^ (a + b) := wide_lt ha hb
theorem abs_add_lt {i j : Int} {a : Nat} (ha : i.natAbs < 2 ^ a) (hb : j.natAbs < 2 ^ a) : (i + j).natAbs < 2 ^ (a + 1) := by
  rw [Nat.pow_succ]
  omega
theorem abs_sub_lt {i j : Int} {a : Nat} (ha : i.natAbs < 2 ^ a) (hb : j.natAbs < 2 ^ a) : (i - j).natAbs < 2 ^ (a + 1) := by
  rw [Nat.pow_succ]
  omega
theorem abs_up {i : Int} {a b : Nat} (ha : i.natAbs < 2 ^ a) (h : a ≤ b) : i.natAbs < 2 ^ b := Nat.lt_of_lt_of_le ha (Nat.pow_le_pow_right (by decide) h)
end LR

/-! the layer of data: values without the heap -/
namespace DL
open PySem PySem.Spec PyProof.Rows L2 LR
/-- data: what a value stands for -/
inductive D where
  | non | bl (b : Bool) | int (i : Int) | str (s : Str) | lst (l : List D) | tup (l : List D) | ins (c : Nat) (l : List D)
/-- the own classes by number, and their fields in the order of __init__ -/
def shape : Nat → List Str
  | 0 => ["top", "bottom"] | 1 => ["tops", "bottom"] | 2 => ["tops", "bottom", "height", "width"] | 3 => ["tops", "bottom"] | 4 => ["matrix", "size", "triangle", "pivots"] | 5 => ["answer", "kernel", "bar"]
  | 6 => ["rows", "places", "scale", "turn"] | 7 => ["matrix", "side", "measure", "size"] | 8 => ["polys", "curve"] | 9 => ["rows", "partners", "pairings", "middles", "links", "halt", "ending"] | 10 => ["rows", "squares", "shares", "polys", "grade"] | 11 => ["least", "poly", "start"] | 12 => ["least", "poly", "start"] | _ => []
/-- v stands for d, by what H knows -/
inductive Rep (K : PySem.W.Frag) (H : Hp) : V → D → Prop where
  | non : Rep K H .non .non
  | bl (b : Bool) : Rep K H (.bl b) (.bl b)
  | int (i : Int) : Rep K H (.int i) (.int i)
  | str (s : Str) : Rep K H (.str s) (.str s)
  | lst {a : Addr} {vs : List V} {l : List D} (h : SqL K H a vs) (n : vs.length = l.length) (r : ∀ (i : Nat) v d, vs[i]? = some v → l[i]? = some d → Rep K H v d) : Rep K H (.ref a) (.lst l)
  | tup {a : Addr} {vs : List V} {l : List D} (h : SqT K H a vs) (n : vs.length = l.length) (r : ∀ (i : Nat) v d, vs[i]? = some v → l[i]? = some d → Rep K H v d) : Rep K H (.ref a) (.tup l)
  | ins {a dx : Addr} {c : Nat} {vs : List V} {l : List D} (h : H a = some (.ins (He.ga K (cname c)) dx ((shape c).zip vs))) (m : (shape c).length = vs.length) (n : vs.length = l.length)
      (r : ∀ (i : Nat) v d, vs[i]? = some v → l[i]? = some d → Rep K H v d) : Rep K H (.ref a) (.ins c l)
def Reps (K : PySem.W.Frag) (H : Hp) (vs : List V) (l : List D) : Prop := vs.length = l.length ∧ ∀ (i : Nat) v d, vs[i]? = some v → l[i]? = some d → Rep K H v d
theorem sqT_same {K : PySem.W.Frag} {H H' : Hp} {a : Addr} {xs : List V} (e : Same H H') (h : SqT K H a xs) : SqT K H' a xs := by
  rcases h with (h | ⟨o, h⟩) | h
  · exact .inl (.inl (e _ _ h))
  · exact .inl (.inr ⟨o, e _ _ h⟩)
  · exact .inr h
section
variable {K : PySem.W.Frag} {H H' : Hp} {v : V} {d : D} {vs : List V} {l : List D}
theorem Rep.same (r : Rep K H v d) (s : Same H H') : Rep K H' v d := by
  induction r with
  | non => exact .non
  | bl b => exact .bl b
  | int i => exact .int i
  | str x => exact .str x
  | lst h n _ ih => exact .lst (s.seq h) n ih
  | tup h n _ ih => exact .tup (sqT_same s h) n ih
  | ins h m n _ ih => exact .ins (s _ _ h) m n ih
theorem Reps.same (r : Reps K H vs l) (s : Same H H') : Reps K H' vs l := ⟨r.1, fun i v d h1 h2 => (r.2 i v d h1 h2).same s⟩
theorem Reps.nil : Reps K H [] [] := ⟨rfl, fun i v d h => by simp at h⟩
theorem Reps.cons (r : Rep K H v d) (rs : Reps K H vs l) : Reps K H (v :: vs) (d :: l) := ⟨by simp [rs.1], fun i w e h1 h2 => by
  cases i with
  | zero =>
    simp at h1 h2
    subst h1 h2
    exact r
  | succ i =>
    simp at h1 h2
    exact rs.2 i w e h1 h2⟩
theorem Reps.app {ws : List V} {m : List D} (r : Reps K H vs l) (rs : Reps K H ws m) : Reps K H (vs ++ ws) (l ++ m) := by
  refine ⟨by simp [r.1, rs.1], fun i w e h1 h2 => ?_⟩
  by_cases hi : i < vs.length
  · rw [List.getElem?_append_left hi] at h1
    rw [List.getElem?_append_left (by rw [← r.1]; exact hi)] at h2
    exact r.2 i w e h1 h2
  · rw [List.getElem?_append_right (by omega)] at h1
    rw [List.getElem?_append_right (by rw [← r.1]; omega), ← r.1] at h2
    exact rs.2 _ w e h1 h2
theorem Reps.at (r : Reps K H vs l) {i : Nat} {d : D} (h : l[i]? = some d) : ∃ v, vs[i]? = some v ∧ Rep K H v d := by
  have hi : i < l.length := (List.getElem?_eq_some_iff.mp h).1
  have hv : vs[i]? = some (vs[i]'(by rw [r.1]; exact hi)) := List.getElem?_eq_getElem _
  exact ⟨_, hv, r.2 i _ d hv h⟩
theorem Reps.at' (r : Reps K H vs l) {i : Nat} {v : V} (h : vs[i]? = some v) : ∃ d, l[i]? = some d ∧ Rep K H v d := by
  have hi : i < vs.length := (List.getElem?_eq_some_iff.mp h).1
  have hv : l[i]? = some (l[i]'(by rw [← r.1]; exact hi)) := List.getElem?_eq_getElem _
  exact ⟨_, hv, r.2 i v _ h hv⟩
theorem Reps.one (r : Rep K H v d) : Reps K H [v] [d] := Reps.nil.cons r
theorem Reps.set {w : V} {e : D} (r : Reps K H vs l) (q : Rep K H w e) (j : Nat) : Reps K H (vs.set j w) (l.set j e) := by
  refine ⟨by simp [r.1], fun i x y h1 h2 => ?_⟩
  rw [List.getElem?_set] at h1 h2
  by_cases hij : j = i
  · subst hij
    simp only [if_true] at h1 h2
    by_cases hl : j < vs.length
    · rw [if_pos hl] at h1
      rw [if_pos (by rw [← r.1]; exact hl)] at h2
      cases h1
      cases h2
      exact q
    · rw [if_neg hl] at h1
      cases h1
  · rw [if_neg hij] at h1 h2
    exact r.2 i x y h1 h2
theorem Reps.cut (r : Reps K H vs l) (n m : Nat) : Reps K H ((vs.drop n).take m) ((l.drop n).take m) := by
  refine ⟨by simp [r.1], fun i x y h1 h2 => ?_⟩
  rw [List.getElem?_take] at h1 h2
  split at h1
  · rename_i hi
    rw [if_pos hi] at h2
    rw [List.getElem?_drop] at h1 h2
    exact r.2 _ x y h1 h2
  · cases h1
theorem Reps.ints {ns : List Int} (r : Reps K H vs (ns.map D.int)) : vs = ns.map V.int := by
  refine List.ext_getElem? fun i => ?_
  cases h : vs[i]? with
  | none =>
    have : vs.length ≤ i := List.getElem?_eq_none_iff.mp h
    rw [r.1, List.length_map] at this
    exact (List.getElem?_eq_none_iff.mpr (by rw [List.length_map]; exact this)).symm
  | some v =>
    obtain ⟨d, hd, q⟩ := r.at' h
    rw [List.getElem?_map] at hd
    cases e : ns[i]? with
    | none =>
      rw [e] at hd
      cases hd
    | some n =>
      rw [e] at hd
      cases hd
      cases q
      rw [List.getElem?_map, e]
      rfl
theorem Reps.of_ints (ns : List Int) : Reps K H (ns.map V.int) (ns.map D.int) := by
  refine ⟨by simp, fun i v d h1 h2 => ?_⟩
  rw [List.getElem?_map] at h1 h2
  cases e : ns[i]? with
  | none =>
    rw [e] at h1
    cases h1
  | some n =>
    rw [e] at h1 h2
    cases h1
    cases h2
    exact .int n
theorem Rep.lst_inv {v : V} {l : List D} (r : Rep K H v (.lst l)) : ∃ a vs, v = .ref a ∧ SqL K H a vs ∧ Reps K H vs l := by
  cases r with
  | lst h n q => exact ⟨_, _, rfl, h, n, q⟩
theorem Rep.tup_inv {v : V} {l : List D} (r : Rep K H v (.tup l)) : ∃ a vs, v = .ref a ∧ SqT K H a vs ∧ Reps K H vs l := by
  cases r with
  | tup h n q => exact ⟨_, _, rfl, h, n, q⟩
theorem Rep.ins_inv {v : V} {c : Nat} {l : List D} (r : Rep K H v (.ins c l)) : ∃ a dx vs, v = .ref a ∧ H a = some (.ins (He.ga K (cname c)) dx ((shape c).zip vs)) ∧ (shape c).length = vs.length ∧ Reps K H vs l := by
  cases r with
  | ins h m n q => exact ⟨_, _, _, rfl, h, m, n, q⟩
theorem Rep.int_inv {v : V} {i : Int} (r : Rep K H v (.int i)) : v = .int i := by cases r; rfl
theorem Rep.bl_inv {v : V} {b : Bool} (r : Rep K H v (.bl b)) : v = .bl b := by cases r; rfl
theorem Rep.str_inv {v : V} {s : Str} (r : Rep K H v (.str s)) : v = .str s := by cases r; rfl
theorem Rep.non_inv {v : V} (r : Rep K H v .non) : v = .non := by cases r; rfl
end
/-- what came: H' is H and new things; G' (of H') knows G (of H) and new things alone -/
structure Ext (G H G' H' : Hp) : Prop where
  hh : Same H H'
  gg : Same G G'
  sub : Same G' H'
  new : ∀ a, G' a ≠ none → G a = none → H a = none
theorem Ext.refl {G H : Hp} (s : Same G H) : Ext G H G H := ⟨.refl _, .refl _, s, fun _ h1 h2 => absurd h2 h1⟩
theorem Ext.trans {G H G1 H1 G2 H2 : Hp} (a : Ext G H G1 H1) (b : Ext G1 H1 G2 H2) : Ext G H G2 H2 := ⟨a.hh.trans b.hh, a.gg.trans b.gg, b.sub, fun x h1 h2 => by
  cases e : G1 x with
  | none => exact a.hh.free (b.new x h1 e)
  | some o => exact a.new x (by rw [e]; simp) h2⟩
/-- a new object, known -/
theorem Ext.nw {G H : Hp} {p : Addr} {o : HO} (s : Same G H) (n : H p = none) : Ext G H (upd G p o) (upd H p o) := by
  refine ⟨same_new n, same_new (s.free n), fun b u e => ?_, fun a h1 h2 => ?_⟩
  · by_cases hb : b = p
    · subst hb
      rw [upd_same] at e ⊢
      exact e
    · rw [upd_ne hb] at e ⊢
      exact s b u e
  · by_cases hb : a = p
    · subst hb
      exact n
    · rw [upd_ne hb] at h1
      exact absurd h2 h1
/-- a new object, not known -/
theorem Ext.hid {G H : Hp} {p : Addr} {o : HO} (s : Same G H) (n : H p = none) : Ext G H G (upd H p o) := ⟨same_new n, .refl _, same_new' s n, fun _ h1 h2 => absurd h2 h1⟩

def RepF (K : PySem.W.Frag) (G : Hp) (fv : List (Str × V)) (fs : List (Str × D)) : Prop := fv.map (·.1) = fs.map (·.1) ∧ Reps K G (fv.map (·.2)) (fs.map (·.2))
theorem RepF.same {K : PySem.W.Frag} {G G' : Hp} {fv : List (Str × V)} {fs : List (Str × D)} (r : RepF K G fv fs) (s : Same G G') : RepF K G' fv fs := ⟨r.1, r.2.same s⟩
/-! ## data of one's own -/
/-- no list lies in it -/
def noL : D → Bool
  | .lst _ => false
  | .tup l => noLs l
  | .ins _ l => noLs l
  | _ => true
where noLs : List D → Bool
  | [] => true
  | d :: l => noL d && noLs l
/-- v stands for d; the lists in d (and the tuples that hold some) are nobody else's, their addresses are F -/
inductive Ow (K : PySem.W.Frag) (G H : Hp) : V → D → List Addr → Prop where
  | leaf {v : V} {d : D} (h : noL d = true) (r : Rep K G v d) : Ow K G H v d []
  | lst {a : Addr} {vs : List V} {l : List D} {Fs : List (List Addr)} (h : H a = some (.lst vs)) (n : vs.length = l.length) (m : Fs.length = l.length)
      (r : ∀ (i : Nat) v d F, vs[i]? = some v → l[i]? = some d → Fs[i]? = some F → Ow K G H v d F) : Ow K G H (.ref a) (.lst l) (a :: Fs.flatten)
  | tup {a : Addr} {vs : List V} {l : List D} {Fs : List (List Addr)} (h : H a = some (.tup vs)) (t : noL (.tup l) = false) (n : vs.length = l.length) (m : Fs.length = l.length)
      (r : ∀ (i : Nat) v d F, vs[i]? = some v → l[i]? = some d → Fs[i]? = some F → Ow K G H v d F) : Ow K G H (.ref a) (.tup l) (a :: Fs.flatten)
/-- a slot: unknown, a value, a list of the def's own that nothing else knows, an object in the making, a caught error, data of one's own -/
inductive Sl where
  | no | val (d : D) | own (l : List D) | ob (p : Addr) (c : Nat) (fs : List (Str × D)) | exc (a dd : Addr) (x : Str) (fs : List (Str × D)) | ow (d : D)
abbrev DE := List Sl
def SlOk (K : PySem.W.Frag) (H0 G H : Hp) (v : Option (Option V)) (F : List Addr) : Sl → Prop
  | .no => F = []
  | .val d => F = [] ∧ ∃ w, v = some (some w) ∧ Rep K G w d
  | .own l => ∃ p vs, F = [p] ∧ v = some (some (.ref p)) ∧ H p = some (.lst vs) ∧ G p = none ∧ H0 p = none ∧ Reps K G vs l
  | .ob p c fs => ∃ dx fv, F = [p] ∧ v = some (some (.ref p)) ∧ H p = some (.ins (He.ga K (cname c)) dx fv) ∧ G p = none ∧ H0 p = none ∧ RepF K G fv fs
  | .exc a dd x fs => F = [] ∧ ∃ fv, v = some (some (.ref a)) ∧ H dd = some (.xd fv) ∧ RepF K G fv fs
  | .ow d => ∃ w, v = some (some w) ∧ Ow K G H w d F ∧ F.Nodup ∧ ∀ a ∈ F, G a = none ∧ H0 a = none
/-- the state of a def's body: H0 and G0 at its entry; fp: the addresses of the slots' own things -/
structure SF (K : PySem.W.Frag) (H0 G0 G H : Hp) (σ : L2.St) (env : DE) (fp : Nat → List Addr) : Prop where
  same : Same H0 H
  sub : Same G H
  g0 : Same G0 G
  ext : ∀ a, G a ≠ none → G0 a = none → H0 a = none
  len : σ.length = env.length
  slot : ∀ (i : Nat) s, env[i]? = some s → SlOk K H0 G H (σ[i]?) (fp i) s
  apart : ∀ (i j : Nat) s t a, i ≠ j → env[i]? = some s → env[j]? = some t → a ∈ fp i → a ∉ fp j
def SR (K : PySem.W.Frag) (H0 G0 G H : Hp) (σ : L2.St) (env : DE) : Prop := ∃ fp, SF K H0 G0 G H σ env fp
section
variable {K : PySem.W.Frag} {H0 G0 G H G' H' : Hp} {σ : L2.St} {env : DE} {fp : Nat → List Addr}
/-- own data in another heap, where it is the same -/
theorem Ow.go {v : V} {d : D} {F : List Addr} (h : Ow K G H v d F) (k : ∀ a ∈ F, H' a = H a) (s : Same G G') : Ow K G' H' v d F := by
  induction h with
  | leaf h r => exact .leaf h (r.same s)
  | lst h n m r ih =>
    refine .lst ((k _ List.mem_cons_self).trans h) n m fun i v d F h1 h2 h3 => ih i v d F h1 h2 h3 fun a ha => k a (List.mem_cons_of_mem _ (List.mem_flatten.mpr ⟨F, List.mem_of_getElem? h3, ha⟩))
  | tup h t n m r ih =>
    refine .tup ((k _ List.mem_cons_self).trans h) t n m fun i v d F h1 h2 h3 => ih i v d F h1 h2 h3 fun a ha => k a (List.mem_cons_of_mem _ (List.mem_flatten.mpr ⟨F, List.mem_of_getElem? h3, ha⟩))
/-- its addresses hold lists or tuples -/
def LT2 (H : Hp) (a : Addr) : Prop := ∃ vs, H a = some (.lst vs) ∨ H a = some (.tup vs)
theorem Ow.foot {v : V} {d : D} {F : List Addr} (h : Ow K G H v d F) : ∀ a ∈ F, LT2 H a := by
  induction h with
  | leaf h r => exact fun a ha => by simp at ha
  | @lst b vs l Fs h n m r ih =>
    intro a ha
    rcases List.mem_cons.mp ha with rfl | ha
    · exact ⟨vs, .inl h⟩
    · obtain ⟨F, hF, ha⟩ := List.mem_flatten.mp ha
      obtain ⟨i, hi⟩ := List.getElem?_of_mem hF
      have hl := (List.getElem?_eq_some_iff.mp hi).1
      exact ih i _ _ F (List.getElem?_eq_getElem (by omega)) (List.getElem?_eq_getElem (by omega)) hi a ha
  | @tup b vs l Fs h t n m r ih =>
    intro a ha
    rcases List.mem_cons.mp ha with rfl | ha
    · exact ⟨vs, .inr h⟩
    · obtain ⟨F, hF, ha⟩ := List.mem_flatten.mp ha
      obtain ⟨i, hi⟩ := List.getElem?_of_mem hF
      have hl := (List.getElem?_eq_some_iff.mp hi).1
      exact ih i _ _ F (List.getElem?_eq_getElem (by omega)) (List.getElem?_eq_getElem (by omega)) hi a ha
theorem Ow.rep {v : V} {d : D} {F : List Addr} (h : Ow K G H v d F) (s : Same G G') (k : ∀ a ∈ F, G' a = H a) : Rep K G' v d := by
  induction h with
  | leaf h r => exact r.same s
  | @lst b vs l Fs h n m r ih =>
    refine .lst (SqL.of ((k _ List.mem_cons_self).trans h)) n fun i v d h1 h2 => ?_
    have hl := (List.getElem?_eq_some_iff.mp h2).1
    have hF : Fs[i]? = some (Fs[i]'(by omega)) := List.getElem?_eq_getElem _
    exact ih i v d _ h1 h2 hF fun a ha => k a (List.mem_cons_of_mem _ (List.mem_flatten.mpr ⟨_, List.mem_of_getElem? hF, ha⟩))
  | @tup b vs l Fs h t n m r ih =>
    refine .tup (SqT.of ((k _ List.mem_cons_self).trans h)) n fun i v d h1 h2 => ?_
    have hl := (List.getElem?_eq_some_iff.mp h2).1
    have hF : Fs[i]? = some (Fs[i]'(by omega)) := List.getElem?_eq_getElem _
    exact ih i v d _ h1 h2 hF fun a ha => k a (List.mem_cons_of_mem _ (List.mem_flatten.mpr ⟨_, List.mem_of_getElem? hF, ha⟩))
/-- what lies at the own addresses of a slot -/
theorem SlOk.foot {v : Option (Option V)} {s : Sl} {F : List Addr} (h : SlOk K H0 G H v F s) : ∀ a ∈ F, (∃ o, H a = some o) ∧ (∀ fv, H a ≠ some (.xd fv)) ∧ G a = none ∧ H0 a = none := by
  intro a ha
  cases s with
  | no => rw [show F = [] from h] at ha; simp at ha
  | val d => rw [h.1] at ha; simp at ha
  | exc a dd x fs => rw [h.1] at ha; simp at ha
  | own l =>
    obtain ⟨p, vs, rfl, e, hp, gp, op, _⟩ := h
    rw [List.mem_singleton.mp ha]
    exact ⟨⟨_, hp⟩, (fun fv z => by rw [hp] at z; cases z), gp, op⟩
  | ob p c fs =>
    obtain ⟨dx, fv, rfl, e, hp, gp, op, _⟩ := h
    rw [List.mem_singleton.mp ha]
    exact ⟨⟨_, hp⟩, (fun fv z => by rw [hp] at z; cases z), gp, op⟩
  | ow d =>
    obtain ⟨w, e, o, _, k⟩ := h
    obtain ⟨vs, z | z⟩ := o.foot a ha
    · exact ⟨⟨_, z⟩, (fun fv y => by rw [z] at y; cases y), k a ha⟩
    · exact ⟨⟨_, z⟩, (fun fv y => by rw [z] at y; cases y), k a ha⟩
/-- a slot in another heap: its own things are the same, nothing known is lost, no caught error is -/
theorem SlOk.go {v : Option (Option V)} {s : Sl} {F : List Addr} (h : SlOk K H0 G H v F s) (k : ∀ a ∈ F, H' a = H a ∧ G' a = none) (s' : Same G G') (x : ∀ a fv, H a = some (.xd fv) → H' a = some (.xd fv)) : SlOk K H0 G' H' v F s := by
  cases s with
  | no => exact h
  | val d =>
    obtain ⟨e0, w, e, r⟩ := h
    exact ⟨e0, w, e, r.same s'⟩
  | own l =>
    obtain ⟨p, vs, rfl, e, hp, gp, op, r⟩ := h
    obtain ⟨k1, k2⟩ := k p List.mem_cons_self
    exact ⟨p, vs, rfl, e, k1.trans hp, k2, op, r.same s'⟩
  | ob p c fs =>
    obtain ⟨dx, fv, rfl, e, hp, gp, op, r⟩ := h
    obtain ⟨k1, k2⟩ := k p List.mem_cons_self
    exact ⟨dx, fv, rfl, e, k1.trans hp, k2, op, r.same s'⟩
  | exc a dd x' fs =>
    obtain ⟨e0, fv, e, hp, r⟩ := h
    exact ⟨e0, fv, e, x _ _ hp, r.same s'⟩
  | ow d =>
    obtain ⟨w, e, o, nd, kk⟩ := h
    exact ⟨w, e, o.go (fun a ha => (k a ha).1) s', nd, fun a ha => ⟨(k a ha).2, (kk a ha).2⟩⟩
theorem SF.ex (S : SF K H0 G0 G H σ env fp) (x : Ext G H G' H') : SF K H0 G0 G' H' σ env fp := by
  refine ⟨S.same.trans x.hh, x.sub, S.g0.trans x.gg, fun a h1 h2 => ?_, S.len, fun i s h => (S.slot i s h).go (fun a ha => ?_) x.gg (fun a fv e => x.hh _ _ e), S.apart⟩
  · cases e : G a with
    | none => exact S.same.free (x.new a h1 e)
    | some o => exact S.ext a (by rw [e]; simp) h2
  · obtain ⟨⟨o, ho⟩, _, ga, _⟩ := (S.slot i s h).foot a ha
    refine ⟨(x.hh _ _ ho).trans ho.symm, ?_⟩
    cases z : G' a with
    | none => rfl
    | some o' =>
      have := x.new a (by rw [z]; simp) ga
      rw [ho] at this
      cases this
theorem SR.ex (S : SR K H0 G0 G H σ env) (x : Ext G H G' H') : SR K H0 G0 G' H' σ env := let ⟨_, S⟩ := S; ⟨_, S.ex x⟩
theorem SR.same (S : SR K H0 G0 G H σ env) : Same H0 H := let ⟨_, S⟩ := S; S.same
theorem SR.sub (S : SR K H0 G0 G H σ env) : Same G H := let ⟨_, S⟩ := S; S.sub
theorem SR.g0 (S : SR K H0 G0 G H σ env) : Same G0 G := let ⟨_, S⟩ := S; S.g0
theorem SR.ext (S : SR K H0 G0 G H σ env) : ∀ a, G a ≠ none → G0 a = none → H0 a = none := let ⟨_, S⟩ := S; S.ext
theorem SR.len (S : SR K H0 G0 G H σ env) : σ.length = env.length := let ⟨_, S⟩ := S; S.len
theorem SF.val (S : SF K H0 G0 G H σ env fp) (i : Nat) (d : D) (h : env[i]? = some (.val d)) : ∃ v, σ[i]? = some (some v) ∧ Rep K G v d := (S.slot i _ h).2
theorem SR.val (S : SR K H0 G0 G H σ env) (i : Nat) (d : D) (h : env[i]? = some (.val d)) : ∃ v, σ[i]? = some (some v) ∧ Rep K G v d := let ⟨_, S⟩ := S; S.val i d h
theorem SR.own (S : SR K H0 G0 G H σ env) (i : Nat) (l : List D) (h : env[i]? = some (.own l)) : ∃ p vs, σ[i]? = some (some (.ref p)) ∧ H p = some (.lst vs) ∧ G p = none ∧ H0 p = none ∧ Reps K G vs l := by
  obtain ⟨fp, S⟩ := S
  obtain ⟨p, vs, _, h⟩ := S.slot i _ h
  exact ⟨p, vs, h⟩
theorem SR.obj (S : SR K H0 G0 G H σ env) (i : Nat) (p : Addr) (c : Nat) (fs : List (Str × D)) (h : env[i]? = some (.ob p c fs)) : ∃ dx fv, σ[i]? = some (some (.ref p)) ∧ H p = some (.ins (He.ga K (cname c)) dx fv) ∧ G p = none ∧ H0 p = none ∧ RepF K G fv fs := by
  obtain ⟨fp, S⟩ := S
  obtain ⟨dx, fv, _, h⟩ := S.slot i _ h
  exact ⟨dx, fv, h⟩
theorem SR.err (S : SR K H0 G0 G H σ env) (i : Nat) (a dd : Addr) (x : Str) (fs : List (Str × D)) (h : env[i]? = some (.exc a dd x fs)) : ∃ fv, σ[i]? = some (some (.ref a)) ∧ H dd = some (.xd fv) ∧ RepF K G fv fs := by
  obtain ⟨fp, S⟩ := S
  exact (S.slot i _ h).2
theorem SF.all (S : SF K H0 G0 G H σ env fp) : Ext G0 H0 G H := ⟨S.same, S.g0, S.sub, S.ext⟩
theorem SR.all (S : SR K H0 G0 G H σ env) : Ext G0 H0 G H := let ⟨_, S⟩ := S; S.all
theorem set_key {α : Type} {l : List α} {i j : Nat} {x s : α} (h : (l.set i x)[j]? = some s) : (j = i ∧ s = x ∧ i < l.length) ∨ (j ≠ i ∧ l[j]? = some s) := by
  rw [List.getElem?_set] at h
  by_cases hj : i = j
  · subst hj
    rw [if_pos rfl] at h
    split at h
    · rename_i hl
      cases h
      exact .inl ⟨rfl, rfl, hl⟩
    · cases h
  · rw [if_neg hj] at h
    exact .inr ⟨Ne.symm hj, h⟩
theorem set_at {α : Type} {l : List α} {i : Nat} {x : α} (h : i < l.length) : (l.set i x)[i]? = some x := by
  rw [List.getElem?_set, if_pos rfl, if_pos h]
theorem set_off {α : Type} {l : List α} {i j : Nat} {x : α} (h : j ≠ i) : (l.set i x)[j]? = l[j]? := by
  rw [List.getElem?_set, if_neg (Ne.symm h)]
def fpSet (fp : Nat → List Addr) (i : Nat) (F : List Addr) : Nat → List Addr := fun j => if j = i then F else fp j
theorem fpSet_at {fp : Nat → List Addr} {i : Nat} {F : List Addr} : fpSet fp i F i = F := if_pos rfl
theorem fpSet_off {fp : Nat → List Addr} {i j : Nat} {F : List Addr} (h : j ≠ i) : fpSet fp i F j = fp j := if_neg h
/-- a slot is written; its own things lie in no other slot -/
theorem SF.put (S : SF K H0 G0 G H σ env fp) (i : Nat) (v : Option V) (s : Sl) (F : List Addr) (h : SlOk K H0 G H (some v) F s) (m : ∀ (j : Nat) t a, j ≠ i → env[j]? = some t → a ∈ F → a ∉ fp j) :
    SF K H0 G0 G H (σ.set i v) (env.set i s) (fpSet fp i F) := by
  refine ⟨S.same, S.sub, S.g0, S.ext, by simp [S.len], fun j t h' => ?_, fun j k t u a jk h1 h2 h3 => ?_⟩
  · rcases set_key h' with ⟨rfl, rfl, hl⟩ | ⟨hj, e1⟩
    · rw [set_at (by rw [S.len]; exact hl), fpSet_at]
      exact h
    · rw [set_off hj, fpSet_off hj]
      exact S.slot j t e1
  · rcases set_key h1 with ⟨rfl, rfl, hl⟩ | ⟨hj, e1⟩
    · rw [fpSet_at] at h3
      rcases set_key h2 with ⟨rfl, rfl, _⟩ | ⟨hk, f1⟩
      · exact absurd rfl jk
      · rw [fpSet_off hk]
        exact m k u a hk f1 h3
    · rw [fpSet_off hj] at h3
      rcases set_key h2 with ⟨rfl, rfl, hl⟩ | ⟨hk, f1⟩
      · rw [fpSet_at]
        exact fun z => m j t a hj e1 z h3
      · rw [fpSet_off hk]
        exact S.apart j k t u a jk e1 f1 h3
theorem SF.set (S : SF K H0 G0 G H σ env fp) {i : Nat} {v : V} {d : D} (r : Rep K G v d) : SF K H0 G0 G H (σ.set i (some v)) (env.set i (.val d)) (fpSet fp i []) := S.put i (some v) (.val d) [] ⟨rfl, v, rfl, r⟩ (fun _ _ _ _ _ z => by simp at z)
theorem SF.unset (S : SF K H0 G0 G H σ env fp) {i : Nat} {v : Option V} : SF K H0 G0 G H (σ.set i v) (env.set i .no) (fpSet fp i []) := S.put i v .no [] rfl (fun _ _ _ _ _ z => by simp at z)
theorem SR.set (S : SR K H0 G0 G H σ env) {i : Nat} {v : V} {d : D} (r : Rep K G v d) : SR K H0 G0 G H (σ.set i (some v)) (env.set i (.val d)) := let ⟨_, S⟩ := S; ⟨_, S.set r⟩
theorem SR.unset (S : SR K H0 G0 G H σ env) {i : Nat} {v : Option V} : SR K H0 G0 G H (σ.set i v) (env.set i .no) := let ⟨_, S⟩ := S; ⟨_, S.unset⟩
theorem SR.setErr (S : SR K H0 G0 G H σ env) {i : Nat} {a dd : Addr} {x : Str} {fv : List (Str × V)} {fs : List (Str × D)} (e : H dd = some (.xd fv)) (r : RepF K G fv fs) : SR K H0 G0 G H (σ.set i (some (.ref a))) (env.set i (.exc a dd x fs)) :=
  let ⟨_, S⟩ := S; ⟨_, S.put i (some (.ref a)) (.exc a dd x fs) [] ⟨rfl, fv, rfl, e, r⟩ (fun _ _ _ _ _ z => by simp at z)⟩
/-- a slot is forgotten, the state is as it was -/
theorem SF.drop (S : SF K H0 G0 G H σ env fp) (i : Nat) : SF K H0 G0 G H σ (env.set i .no) (fpSet fp i []) := by
  refine ⟨S.same, S.sub, S.g0, S.ext, by simp [S.len], fun j t h' => ?_, fun j k t u a jk h1 h2 h3 => ?_⟩
  · rcases set_key h' with ⟨rfl, rfl, hl⟩ | ⟨hj, e1⟩
    · rw [fpSet_at]; rfl
    · rw [fpSet_off hj]
      exact S.slot j t e1
  · rcases set_key h1 with ⟨rfl, rfl, hl⟩ | ⟨hj, e1⟩
    · rw [fpSet_at] at h3; simp at h3
    · rw [fpSet_off hj] at h3
      rcases set_key h2 with ⟨rfl, rfl, hl⟩ | ⟨hk, f1⟩
      · rw [fpSet_at]; simp
      · rw [fpSet_off hk]
        exact S.apart j k t u a jk e1 f1 h3
/-- a new list of the def's own -/
theorem SR.setOwn (S : SR K H0 G0 G H σ env) {i : Nat} {p : Addr} {vs : List V} {l : List D} (n : H p = none) (r : Reps K G vs l) : SR K H0 G0 G (upd H p (.lst vs)) (σ.set i (some (.ref p))) (env.set i (.own l)) := by
  obtain ⟨fp, S⟩ := S
  have S1 : SF K H0 G0 G (upd H p (.lst vs)) σ env fp := S.ex (Ext.hid S.sub n)
  refine ⟨_, S1.put i _ _ [p] ⟨p, vs, rfl, rfl, upd_same, S.sub.free n, S.same.free n, r⟩ fun j t a hj h1 h2 h3 => ?_⟩
  rw [List.mem_singleton.mp h2] at h3
  obtain ⟨⟨o, ho⟩, _⟩ := (S.slot j t h1).foot p h3
  rw [n] at ho
  cases ho
/-- the things of a slot are changed: H' is H but for them, and new things -/
theorem SF.chg (S : SF K H0 G0 G H σ env fp) {i : Nat} {s t : Sl} {F' : List Addr} (he : env[i]? = some s) (k : ∀ a o, H a = some o → a ∉ fp i → H' a = some o) (n : ∀ a ∈ F', a ∈ fp i ∨ ∀ (j : Nat) r, j ≠ i → env[j]? = some r → a ∉ fp j)
    (h : SlOk K H0 G H' (σ[i]?) F' t) : SF K H0 G0 G H' σ (env.set i t) (fpSet fp i F') := by
  have hf := (S.slot i s he).foot
  refine ⟨fun b u e => k b u (S.same b u e) fun z => ?_, fun b u e => k b u (S.sub b u e) fun z => ?_, S.g0, S.ext, by simp [S.len], fun j u h' => ?_, fun j l u w q jk h1 h2 h3 => ?_⟩
  · rw [(hf b z).2.2.2] at e; cases e
  · rw [(hf b z).2.2.1] at e; cases e
  · rcases set_key h' with ⟨rfl, rfl, hl⟩ | ⟨hj, e1⟩
    · rw [fpSet_at]
      exact h
    · rw [fpSet_off hj]
      have w := S.slot j u e1
      refine w.go (fun a ha => ?_) (.refl _) fun a fv e => k a _ e fun z => (hf a z).2.1 fv e
      obtain ⟨⟨o, ho⟩, _, ga, _⟩ := w.foot a ha
      exact ⟨(k a o ho (S.apart j i u s a hj e1 he ha)).trans ho.symm, ga⟩
  · have key : ∀ m r, m ≠ i → env[m]? = some r → ∀ a ∈ F', a ∉ fp m := fun m r hm e a ha z => by
      rcases n a ha with y | y
      · exact S.apart m i r s a hm e he z y
      · exact y m r hm e z
    rcases set_key h1 with ⟨rfl, rfl, _⟩ | ⟨hj, e1⟩
    · rw [fpSet_at] at h3
      rcases set_key h2 with ⟨rfl, rfl, _⟩ | ⟨hk, f1⟩
      · exact absurd rfl jk
      · rw [fpSet_off hk]
        exact key l w hk f1 q h3
    · rw [fpSet_off hj] at h3
      rcases set_key h2 with ⟨rfl, rfl, _⟩ | ⟨hk, f1⟩
      · rw [fpSet_at]
        exact fun z => key j u hj e1 q z h3
      · rw [fpSet_off hk]
        exact S.apart j l u w q jk e1 f1 h3
/-- the object of a slot is changed -/
theorem SF.mut (S : SF K H0 G0 G H σ env fp) {i : Nat} {p : Addr} {o : HO} {s t : Sl} (he : env[i]? = some s) (hp : fp i = [p])
    (h : SlOk K H0 G (upd H p o) (σ[i]?) [p] t) : SF K H0 G0 G (upd H p o) σ (env.set i t) (fpSet fp i [p]) :=
  S.chg he (fun a o ha hn => (upd_ne (fun e => hn (by rw [e, hp]; exact List.mem_singleton_self p))).trans ha) (fun a ha => .inl (by rw [hp]; exact ha)) h
/-- a list of one's own is changed -/
theorem SR.mutL (S : SR K H0 G0 G H σ env) {i : Nat} {p : Addr} {ws : List V} {l m : List D} (he : env[i]? = some (.own l)) (hp : σ[i]? = some (some (.ref p))) (r : Reps K G ws m) : SR K H0 G0 G (upd H p (.lst ws)) σ (env.set i (.own m)) := by
  obtain ⟨fp, S⟩ := S
  obtain ⟨p', vs, ef, e3, hq, gp, op, rq⟩ := S.slot i _ he
  rw [hp] at e3
  cases e3
  exact ⟨_, S.mut he ef ⟨p, ws, rfl, hp, upd_same, gp, op, r⟩⟩
/-- a field of the object in the making is set -/
theorem SR.mutO (S : SR K H0 G0 G H σ env) {i : Nat} {p dx : Addr} {c : Nat} {fv : List (Str × V)} {fs gs : List (Str × D)} (he : env[i]? = some (.ob p c fs)) (r : RepF K G fv gs) : SR K H0 G0 G (upd H p (.ins (He.ga K (cname c)) dx fv)) σ (env.set i (.ob p c gs)) := by
  obtain ⟨fp, S⟩ := S
  obtain ⟨dx', fv', ef, e3, hq, gp, op, rq⟩ := S.slot i _ he
  exact ⟨_, S.mut he ef ⟨dx, fv, rfl, e3, upd_same, gp, op, r⟩⟩
/-- own things become known -/
def joinH (G H : Hp) (F : List Addr) : Hp := fun a => if a ∈ F then H a else G a
theorem joinH_in {G H : Hp} {F : List Addr} {a : Addr} (h : a ∈ F) : joinH G H F a = H a := if_pos h
theorem joinH_out {G H : Hp} {F : List Addr} {a : Addr} (h : a ∉ F) : joinH G H F a = G a := if_neg h
theorem joinH_same {G H : Hp} {F : List Addr} (h : ∀ a ∈ F, G a = none) : Same G (joinH G H F) := fun b u e => by
  rw [joinH_out (fun z => by rw [h b z] at e; cases e)]
  exact e
theorem SF.frz (S : SF K H0 G0 G H σ env fp) {i : Nat} {s : Sl} {d : D} {w : V} (he : env[i]? = some s) (hw : σ[i]? = some (some w)) (hr : Rep K (joinH G H (fp i)) w d) :
    Same G (joinH G H (fp i)) ∧ SF K H0 G0 (joinH G H (fp i)) H σ (env.set i (.val d)) (fpSet fp i []) := by
  have hf := (S.slot i s he).foot
  have gG : Same G (joinH G H (fp i)) := joinH_same fun a ha => (hf a ha).2.2.1
  refine ⟨gG, S.same, fun b u e => ?_, S.g0.trans gG, fun a h1 h2 => ?_, by simp [S.len], fun j u h' => ?_, fun j k u w q jk h1 h2 h3 => ?_⟩
  · by_cases hb : b ∈ fp i
    · rw [joinH_in hb] at e; exact e
    · rw [joinH_out hb] at e; exact S.sub b u e
  · by_cases hb : a ∈ fp i
    · exact (hf a hb).2.2.2
    · rw [joinH_out hb] at h1; exact S.ext a h1 h2
  · rcases set_key h' with ⟨rfl, rfl, hl⟩ | ⟨hj, e1⟩
    · rw [fpSet_at]
      exact ⟨rfl, w, hw, hr⟩
    · rw [fpSet_off hj]
      have w := S.slot j u e1
      refine w.go (fun a ha => ⟨rfl, ?_⟩) gG fun a fv e => e
      rw [joinH_out (S.apart j i u s a hj e1 he ha)]
      exact (w.foot a ha).2.2.1
  · rcases set_key h1 with ⟨rfl, rfl, _⟩ | ⟨hj, e1⟩
    · rw [fpSet_at] at h3; simp at h3
    · rw [fpSet_off hj] at h3
      rcases set_key h2 with ⟨rfl, rfl, _⟩ | ⟨hk, f1⟩
      · rw [fpSet_at]; simp
      · rw [fpSet_off hk]
        exact S.apart j k u w q jk e1 f1 h3
/-- a list of one's own becomes a value -/
theorem SR.frz (S : SR K H0 G0 G H σ env) {i : Nat} {l : List D} (he : env[i]? = some (.own l)) : ∃ G', Same G G' ∧ SR K H0 G0 G' H σ (env.set i (.val (.lst l))) := by
  obtain ⟨fp, S⟩ := S
  obtain ⟨p, vs, ef, hp, hq, gp, op, rq⟩ := S.slot i _ he
  have gG : Same G (joinH G H (fp i)) := joinH_same fun a ha => ((S.slot i _ he).foot a ha).2.2.1
  have r2 := rq.same gG
  obtain ⟨s1, S1⟩ := S.frz he hp (.lst (SqL.of ((joinH_in (by rw [ef]; exact List.mem_singleton_self p)).trans hq)) r2.1 r2.2)
  exact ⟨_, s1, _, S1⟩
/-- data of one's own becomes a value -/
theorem SR.frzW (S : SR K H0 G0 G H σ env) {i : Nat} {d : D} (he : env[i]? = some (.ow d)) : ∃ G', Same G G' ∧ SR K H0 G0 G' H σ (env.set i (.val d)) := by
  obtain ⟨fp, S⟩ := S
  obtain ⟨w, hw, o, nd, k⟩ := S.slot i _ he
  obtain ⟨s1, S1⟩ := S.frz he hw (o.rep (joinH_same fun a ha => (k a ha).1) fun a ha => joinH_in ha)
  exact ⟨_, s1, _, S1⟩
end
end DL

namespace DL
open PySem PySem.Spec PyProof.Rows L2 LR
/-- an own error on its way: its class, its fields -/
abbrev EX := Str → List (Str × D) → Prop
abbrev DT := DE → (D → Prop) → EX → Prop
abbrev DTT := DE → (Bool → Prop) → EX → Prop
abbrev DTA := DE → (List D → Prop) → EX → Prop
def LkE (K : PySem.W.Frag) (H0 G0 G : Hp) (W : WX) (σ : L2.St) (env : DE) (ex : EX) : Prop :=
  ∀ (H' G' : Hp) (d : Addr) (x : Str) (fv : List (Str × V)) (fs : List (Str × D)), Same G G' → SR K H0 G0 G' H' σ env → H' d = some (.xd fv) → RepF K G' fv fs → ex x fs → W (.ref (He.ga K x)) (some d) σ H'
theorem LkE.mono {K : PySem.W.Frag} {H0 G0 G G1 : Hp} {W : WX} {σ : L2.St} {env : DE} {ex : EX} (h : LkE K H0 G0 G W σ env ex) (s : Same G G1) : LkE K H0 G0 G1 W σ env ex := fun H' G' d x fv fs s' => h H' G' d x fv fs (s.trans s')
theorem LkE.no {K : PySem.W.Frag} {H0 G0 G : Hp} {W : WX} {σ : L2.St} {env : DE} : LkE K H0 G0 G W σ env (fun _ _ => False) := fun _ _ _ _ _ _ _ _ _ _ h => h.elim
/-- what comes of an expression -/
def Got (K : PySem.W.Frag) (G H : Hp) (Q : D → Prop) (R : VK) : Prop := ∀ v H' G' d, Ext G H G' H' → Rep K G' v d → Q d → R v H'
def LE (X : Cx) (W : WX) (te : TE) (t : DT) : Prop := ∀ (H0 G0 G H : Hp) (σ : L2.St) (env : DE) (Q : D → Prop) (ex : EX) (R : VK), SR X.K H0 G0 G H σ env → LkE X.K H0 G0 G W σ env ex → t env Q ex → Got X.K G H Q R → te σ H R
def LT (X : Cx) (W : WX) (tt : TT) (t : DTT) : Prop := ∀ (H0 G0 G H : Hp) (σ : L2.St) (env : DE) (Q : Bool → Prop) (ex : EX) (R : Bool → Hp → Prop), SR X.K H0 G0 G H σ env → LkE X.K H0 G0 G W σ env ex → t env Q ex →
  (∀ b H' G', Ext G H G' H' → Q b → R b H') → tt σ H R
def LA (X : Cx) (W : WX) (ta : TA) (t : DTA) : Prop := ∀ (H0 G0 G H : Hp) (σ : L2.St) (env : DE) (Q : List D → Prop) (ex : EX) (R : List V → Hp → Prop), SR X.K H0 G0 G H σ env → LkE X.K H0 G0 G W σ env ex → t env Q ex →
  (∀ vs H' G' ds, Ext G H G' H' → Reps X.K G' vs ds → Q ds → R vs H') → ta σ H R
structure PD (X : Cx) (W : WX) (e : Expr) (t : DT) : Prop where
  of : ∃ te, PE X e te ∧ LE X W te t
structure PDT (X : Cx) (W : WX) (e : Expr) (t : DTT) : Prop where
  of : ∃ tt, PT X e tt ∧ LT X W tt t
structure PDW (X : Cx) (W : WX) (e : Expr) (t : DTT) : Prop where
  of : ∃ tt, PW X e tt ∧ LT X W tt t
structure PDA (X : Cx) (W : WX) (es : List Expr) (t : DTA) : Prop where
  of : ∃ ta, PA X es ta ∧ LA X W ta t
/-- a new list -/
def GotN (K : PySem.W.Frag) (G H : Hp) (Q : List D → Prop) (R : VK) : Prop := ∀ p vs H' H1 G' l, Ext G H G' H1 → H1 p = none → H' = upd H1 p (.lst vs) → Reps K G' vs l → Q l → R (.ref p) H'
abbrev DTN := DE → (List D → Prop) → EX → Prop
def LN (X : Cx) (W : WX) (te : TE) (t : DTN) : Prop := ∀ (H0 G0 G H : Hp) (σ : L2.St) (env : DE) (Q : List D → Prop) (ex : EX) (R : VK), SR X.K H0 G0 G H σ env → LkE X.K H0 G0 G W σ env ex → t env Q ex → GotN X.K G H Q R → te σ H R
structure PDN (X : Cx) (W : WX) (e : Expr) (t : DTN) : Prop where
  of : ∃ te, PE X e te ∧ LN X W te t
def dNew (t : DTN) : DT := fun env Q ex => t env (fun l => Q (.lst l)) ex
theorem LN.le {X : Cx} {W : WX} {te : TE} {t : DTN} (h : LN X W te t) : LE X W te (dNew t) := fun H0 G0 G H σ env Q ex R S L q g =>
  h H0 G0 G H σ env _ ex R S L q fun p vs H' H1 G' l x n e r ql => by
    subst e
    have x2 : Ext G' H1 (upd G' p (.lst vs)) (upd H1 p (.lst vs)) := Ext.nw x.sub n
    have r2 := r.same x2.gg
    exact g _ _ _ _ (x.trans x2) (.lst (SqL.of upd_same) r2.1 r2.2) ql
theorem pd_new {X : Cx} {W : WX} {e : Expr} {t : DTN} (h : PDN X W e t) : PD X W e (dNew t) := let ⟨te, h1, h2⟩ := h.of; ⟨te, h1, h2.le⟩
section
variable {X : Cx} {W : WX} {a b c e : Expr} {es : List Expr} {ta tb tc : DT} {t : DTA} {pos : Pos}
/-! names, constants -/
def dVar (i : Nat) : DT := fun env Q _ => ∃ d, env[i]? = some (.val d) ∧ Q d
theorem pd_var {i : Nat} (h : PE X e (tVar i)) : PD X W e (dVar i) := ⟨_, h, fun H0 G0 G H σ env Q ex R S L ⟨d, hd, q⟩ g => by
  obtain ⟨v, e1, r⟩ := S.val i d hd
  exact ⟨v, e1, g v H G d (.refl S.sub) r q⟩⟩
def dC (d : D) : DT := fun _ Q _ => Q d
theorem pd_int {i : Int} (h : PE X e (tC (.int i))) : PD X W e (dC (.int i)) := ⟨_, h, fun H0 G0 G H σ env Q ex R S L q g => g _ _ _ _ (.refl S.sub) (.int i) q⟩
theorem pd_bl {i : Bool} (h : PE X e (tC (.bl i))) : PD X W e (dC (.bl i)) := ⟨_, h, fun H0 G0 G H σ env Q ex R S L q g => g _ _ _ _ (.refl S.sub) (.bl i) q⟩
theorem pd_str {i : Str} (h : PE X e (tC (.str i))) : PD X W e (dC (.str i)) := ⟨_, h, fun H0 G0 G H σ env Q ex R S L q g => g _ _ _ _ (.refl S.sub) (.str i) q⟩
theorem pd_non (h : PE X e (tC .non)) : PD X W e (dC .non) := ⟨_, h, fun H0 G0 G H σ env Q ex R S L q g => g _ _ _ _ (.refl S.sub) .non q⟩
/-! operators by values -/
abbrev R2D := D → D → (D → Prop) → Prop
def L2R (K : PySem.W.Frag) (r : R2) (rD : R2D) : Prop := ∀ (G H : Hp) (x y : V) (a b : D) (Q : D → Prop) (R : VK), Same G H → Rep K G x a → Rep K G y b → rD a b Q → Got K G H Q R → r x y H R
def L1R (K : PySem.W.Frag) (r : V → Hp → VK → Prop) (rD : D → (D → Prop) → Prop) : Prop := ∀ (G H : Hp) (x : V) (a : D) (Q : D → Prop) (R : VK), Same G H → Rep K G x a → rD a Q → Got K G H Q R → r x H R
def LcR (K : PySem.W.Frag) (r : List V → Hp → VK → Prop) (rD : List D → (D → Prop) → Prop) : Prop := ∀ (G H : Hp) (vs : List V) (ds : List D) (Q : D → Prop) (R : VK), Same G H → Reps K G vs ds → rD ds Q → Got K G H Q R → r vs H R
def LcN (K : PySem.W.Frag) (r : List V → Hp → VK → Prop) (rD : List D → (List D → Prop) → Prop) : Prop := ∀ (G H : Hp) (vs : List V) (ds : List D) (Q : List D → Prop) (R : VK), Same G H → Reps K G vs ds → rD ds Q → GotN K G H Q R → r vs H R
def LmR (K : PySem.W.Frag) (r : V → List V → Hp → VK → Prop) (rD : D → List D → (D → Prop) → Prop) : Prop := ∀ (G H : Hp) (x : V) (vs : List V) (a : D) (ds : List D) (Q : D → Prop) (R : VK), Same G H → Rep K G x a → Reps K G vs ds → rD a ds Q → Got K G H Q R → r x vs H R
def dOp (r : R2D) (ta tb : DT) : DT := fun env Q ex => ta env (fun x => tb env (fun y => r x y Q) ex) ex
theorem le_op {r : R2} {rD : R2D} (hl : L2R X.K r rD) {sa sb : TE} (la : LE X W sa ta) (lb : LE X W sb tb) : LE X W (tOp r sa sb) (dOp rD ta tb) := fun H0 G0 G H σ env Q ex R S L q g =>
  la H0 G0 G H σ env _ ex _ S L q fun v H1 G1 d x1 r1 q1 => lb H0 G0 G1 H1 σ env _ ex _ (S.ex x1) (L.mono x1.gg) q1 fun u H2 G2 d2 x2 r2 q2 =>
    hl G2 H2 v u d d2 Q R x2.sub (r1.same x2.gg) r2 q2 fun w H3 G3 d3 x3 r3 q3 => g w H3 G3 d3 ((x1.trans x2).trans x3) r3 q3
theorem pd_op {op : Operator} {r : R2} {rD : R2D} (ho : OpR X (binaryOp op) r) (hl : L2R X.K r rD) (ha : PD X W a ta) (hb : PD X W b tb) : PD X W (.BinOp a op b pos) (dOp rD ta tb) :=
  let ⟨_, pa, la⟩ := ha.of; let ⟨_, pb, lb⟩ := hb.of; ⟨_, pe_op ho pa pb, le_op hl la lb⟩
theorem pd_ix {r : R2} {rD : R2D} (ho : IxR X r) (hl : L2R X.K r rD) (ha : PD X W a ta) (hb : PD X W b tb) (hp : PlainIx b) : PD X W (.Subscript a b pos) (dOp rD ta tb) :=
  let ⟨_, pa, la⟩ := ha.of; let ⟨_, pb, lb⟩ := hb.of; ⟨_, pe_ix ho pa pb hp, le_op hl la lb⟩
theorem pd_cmp {op : CmpOp} {r : R2} {rD : R2D} (ho : OpR X (compareOp op) r) (hl : L2R X.K r rD) (ha : PD X W a ta) (hb : PD X W b tb) (hm : behindInMarks op b = false) : PD X W (.Compare a [op] [b] pos) (dOp rD ta tb) :=
  let ⟨_, pa, la⟩ := ha.of; let ⟨_, pb, lb⟩ := hb.of; ⟨_, pe_cmpR ho pa pb hm, le_op hl la lb⟩
def dUn (r : D → (D → Prop) → Prop) (ta : DT) : DT := fun env Q ex => ta env (fun x => r x Q) ex
theorem le_un {r : V → Hp → VK → Prop} {rD : D → (D → Prop) → Prop} (hl : L1R X.K r rD) {sa : TE} (la : LE X W sa ta) : LE X W (tUn r sa) (dUn rD ta) := fun H0 G0 G H σ env Q ex R S L q g =>
  la H0 G0 G H σ env _ ex _ S L q fun v H1 G1 d x1 r1 q1 => hl G1 H1 v d Q R x1.sub r1 q1 fun w H3 G3 d3 x3 r3 q3 => g w H3 G3 d3 (x1.trans x3) r3 q3
theorem pd_un {op : UnaryOp} {r : V → Hp → VK → Prop} {rD : D → (D → Prop) → Prop} (ho : UnR X (unaryOp op) r) (hl : L1R X.K r rD) (ha : PD X W a ta) : PD X W (.UnaryOp op a pos) (dUn rD ta) :=
  let ⟨_, pa, la⟩ := ha.of; ⟨_, pe_un ho pa, le_un hl la⟩
/-! tests -/
def dTest (t : DT) : DTT := fun env Q ex => t env (fun d => ∃ k, d = .bl k ∧ Q k) ex
theorem lt_test {sa : TE} (la : LE X W sa ta) : LT X W (tTest sa) (dTest ta) := fun H0 G0 G H σ env Q ex R S L q g =>
  la H0 G0 G H σ env _ ex _ S L q fun v H1 G1 d x1 r1 ⟨k, e1, q1⟩ => ⟨k, by subst e1; exact r1.bl_inv, g k H1 G1 x1 q1⟩
theorem pdt_cmp {op : CmpOp} {r : R2} {rD : R2D} (ho : OpR X (compareOp op) r) (hl : L2R X.K r rD) (ha : PD X W a ta) (hb : PD X W b tb) (hm : behindInMarks op b = false) : PDT X W (.Compare a [op] [b] pos) (dTest (dOp rD ta tb)) :=
  let ⟨_, pa, la⟩ := ha.of; let ⟨_, pb, lb⟩ := hb.of; ⟨_, pt_cmpR ho pa pb hm, lt_test (le_op hl la lb)⟩
theorem pdt_val (ha : PD X W e ta) (h : ∀ (whole : Sem Value), PySem.isTrue e X.env whole = (do let v ← whole; standAt e.pos; holding [v] (truthy v)) := by intro _; rfl) : PDT X W e (dTest ta) :=
  let ⟨_, pa, la⟩ := ha.of; ⟨_, pt_val pa h, lt_test la⟩
/-- truth of a thing -/
def truD : D → Bool
  | .non => false | .bl b => b | .int i => i != 0 | .str s => s.length != 0 | .lst l => !l.isEmpty | .tup l => !l.isEmpty | .ins _ _ => true
def dTru (t : DT) : DTT := fun env Q ex => t env (fun d => (match d with | .lst _ => True | .tup _ => True | .int _ => True | .non => True | _ => False) ∧ Q (truD d)) ex
theorem emp_len {α β : Type} {l : List α} {m : List β} (h : l.length = m.length) : l.isEmpty = m.isEmpty := by
  cases l <;> cases m <;> first | rfl | (simp at h)
theorem pdt_truth (ha : PD X W e ta) (h : ∀ (whole : Sem Value), PySem.isTrue e X.env whole = (do let v ← whole; standAt e.pos; holding [v] (truthy v)) := by intro _; rfl) : PDT X W e (dTru ta) := by
  obtain ⟨sa, pa, la⟩ := ha.of
  refine ⟨_, pt_truth pa h, fun H0 G0 G H σ env Q ex R S L q g => la H0 G0 G H σ env _ ex _ S L q fun v H1 G1 d x1 r1 ⟨q0, q1⟩ => ⟨truD d, ?_, g _ H1 G1 x1 q1⟩⟩
  cases d with
  | non => rw [r1.non_inv]; rfl
  | int i => rw [r1.int_inv]; rfl
  | lst l =>
    obtain ⟨p, vs, rfl, h1, h2⟩ := (r1.same x1.sub).lst_inv
    exact .inl ⟨vs, h1, by unfold truD; rw [emp_len h2.1]⟩
  | tup l =>
    obtain ⟨p, vs, rfl, h1, h2⟩ := (r1.same x1.sub).tup_inv
    exact .inr (.inl ⟨vs, h1, by unfold truD; rw [emp_len h2.1]⟩)
  | bl b => exact q0.elim
  | str s => exact q0.elim
  | ins c l => exact q0.elim
def dNot (t : DTT) : DTT := fun env Q ex => t env (fun k => Q (!k)) ex
theorem pdt_not {t : DTT} (ha : PDT X W a t) : PDT X W (.UnaryOp .Not a pos) (dNot t) :=
  let ⟨_, pa, la⟩ := ha.of; ⟨_, pt_not pa, fun H0 G0 G H σ env Q ex R S L q g => la H0 G0 G H σ env _ ex _ S L q fun k H1 G1 x1 q1 => g _ H1 G1 x1 q1⟩
def dAnd (t u : DTT) : DTT := fun env Q ex => t env (fun k => if k = true then u env Q ex else Q false) ex
def dOr (t u : DTT) : DTT := fun env Q ex => t env (fun k => if k = true then Q true else u env Q ex) ex
theorem lt_and {sa sb : TT} {t u : DTT} (la : LT X W sa t) (lb : LT X W sb u) : LT X W (tAnd sa sb) (dAnd t u) := fun H0 G0 G H σ env Q ex R S L q g =>
  la H0 G0 G H σ env _ ex _ S L q fun k H1 G1 x1 q1 => by
    cases k with
    | true =>
      simp only [if_true] at q1 ⊢
      exact lb H0 G0 G1 H1 σ env _ ex _ (S.ex x1) (L.mono x1.gg) q1 fun j H2 G2 x2 q2 => g _ H2 G2 (x1.trans x2) q2
    | false => exact g _ H1 G1 x1 q1
theorem lt_or {sa sb : TT} {t u : DTT} (la : LT X W sa t) (lb : LT X W sb u) : LT X W (tOr sa sb) (dOr t u) := fun H0 G0 G H σ env Q ex R S L q g =>
  la H0 G0 G H σ env _ ex _ S L q fun k H1 G1 x1 q1 => by
    cases k with
    | true => exact g _ H1 G1 x1 q1
    | false => exact lb H0 G0 G1 H1 σ env _ ex _ (S.ex x1) (L.mono x1.gg) q1 fun j H2 G2 x2 q2 => g _ H2 G2 (x1.trans x2) q2
theorem pdw_and {rest : List Expr} {t u : DTT} (ha : PDT X W a t) (hb : PDW X W (.BoolOp .And (b :: rest) pos) u) : PDW X W (.BoolOp .And (a :: b :: rest) pos) (dAnd t u) :=
  let ⟨_, pa, la⟩ := ha.of; let ⟨_, pb, lb⟩ := hb.of; ⟨_, pw_and pa pb, lt_and la lb⟩
theorem pdw_or {rest : List Expr} {t u : DTT} (ha : PDT X W a t) (hb : PDW X W (.BoolOp .Or (b :: rest) pos) u) : PDW X W (.BoolOp .Or (a :: b :: rest) pos) (dOr t u) :=
  let ⟨_, pa, la⟩ := ha.of; let ⟨_, pb, lb⟩ := hb.of; ⟨_, pw_or pa pb, lt_or la lb⟩
theorem pdw_and1 {t : DTT} (ha : PDT X W a t) : PDW X W (.BoolOp .And [a] pos) t := let ⟨_, pa, la⟩ := ha.of; ⟨_, pw_and1 pa, la⟩
theorem pdw_or1 {t : DTT} (ha : PDT X W a t) : PDW X W (.BoolOp .Or [a] pos) t := let ⟨_, pa, la⟩ := ha.of; ⟨_, pw_or1 pa, la⟩
theorem PDW.pt {t : DTT} (ha : PDW X W e t) : PDT X W e t := let ⟨_, pa, la⟩ := ha.of; ⟨_, pa.pt, la⟩
/-- as values -/
def dAndV (ta tb : DT) : DT := fun env Q ex => ta env (fun x => ∃ k, x = .bl k ∧ if k = true then tb env Q ex else Q (.bl false)) ex
def dOrV (ta tb : DT) : DT := fun env Q ex => ta env (fun x => ∃ k, x = .bl k ∧ if k = true then Q (.bl true) else tb env Q ex) ex
def dNotV (ta : DT) : DT := fun env Q ex => ta env (fun x => ∃ k, x = .bl k ∧ Q (.bl (!k))) ex
theorem pd_and {rest : List Expr} (ha : PD X W a ta) (hb : PD X W (.BoolOp .And (b :: rest) pos) tb) : PD X W (.BoolOp .And (a :: b :: rest) pos) (dAndV ta tb) := by
  obtain ⟨_, pa, la⟩ := ha.of
  obtain ⟨_, pb, lb⟩ := hb.of
  refine ⟨_, pe_and pa pb, fun H0 G0 G H σ env Q ex R S L q g => la H0 G0 G H σ env _ ex _ S L q fun v H1 G1 d x1 r1 ⟨k, e1, q1⟩ => ?_⟩
  subst e1
  refine ⟨k, r1.bl_inv, ?_⟩
  cases k with
  | true => exact lb H0 G0 G1 H1 σ env _ ex _ (S.ex x1) (L.mono x1.gg) q1 fun v H2 G2 d x2 r2 q2 => g _ H2 G2 d (x1.trans x2) r2 q2
  | false => exact g _ H1 G1 _ x1 (.bl false) q1
theorem pd_or {rest : List Expr} (ha : PD X W a ta) (hb : PD X W (.BoolOp .Or (b :: rest) pos) tb) : PD X W (.BoolOp .Or (a :: b :: rest) pos) (dOrV ta tb) := by
  obtain ⟨_, pa, la⟩ := ha.of
  obtain ⟨_, pb, lb⟩ := hb.of
  refine ⟨_, pe_or pa pb, fun H0 G0 G H σ env Q ex R S L q g => la H0 G0 G H σ env _ ex _ S L q fun v H1 G1 d x1 r1 ⟨k, e1, q1⟩ => ?_⟩
  subst e1
  refine ⟨k, r1.bl_inv, ?_⟩
  cases k with
  | false => exact lb H0 G0 G1 H1 σ env _ ex _ (S.ex x1) (L.mono x1.gg) q1 fun v H2 G2 d x2 r2 q2 => g _ H2 G2 d (x1.trans x2) r2 q2
  | true => exact g _ H1 G1 _ x1 (.bl true) q1
theorem pd_one {op : BoolOp} (ha : PD X W a ta) : PD X W (.BoolOp op [a] pos) ta := let ⟨_, pa, la⟩ := ha.of; ⟨_, pe_one pa, la⟩
theorem pd_not (ha : PD X W a ta) : PD X W (.UnaryOp .Not a pos) (dNotV ta) := by
  obtain ⟨_, pa, la⟩ := ha.of
  refine ⟨_, pe_not pa, fun H0 G0 G H σ env Q ex R S L q g => la H0 G0 G H σ env _ ex _ S L q fun v H1 G1 d x1 r1 ⟨k, e1, q1⟩ => ?_⟩
  subst e1
  exact ⟨k, r1.bl_inv, g _ H1 G1 _ x1 (.bl _) q1⟩
def dIfE (t : DTT) (ta tb : DT) : DT := fun env Q ex => t env (fun k => if k = true then ta env Q ex else tb env Q ex) ex
theorem pd_ife {t : DTT} (hc : PDT X W c t) (ha : PD X W a ta) (hb : PD X W b tb) : PD X W (.IfExp c a b pos) (dIfE t ta tb) := by
  obtain ⟨_, pc, lc⟩ := hc.of
  obtain ⟨_, pa, la⟩ := ha.of
  obtain ⟨_, pb, lb⟩ := hb.of
  refine ⟨_, pe_ifExp pc pa pb, fun H0 G0 G H σ env Q ex R S L q g => lc H0 G0 G H σ env _ ex _ S L q fun k H1 G1 x1 q1 => ?_⟩
  cases k with
  | true => exact la H0 G0 G1 H1 σ env _ ex _ (S.ex x1) (L.mono x1.gg) q1 fun v H2 G2 d x2 r2 q2 => g _ H2 G2 d (x1.trans x2) r2 q2
  | false => exact lb H0 G0 G1 H1 σ env _ ex _ (S.ex x1) (L.mono x1.gg) q1 fun v H2 G2 d x2 r2 q2 => g _ H2 G2 d (x1.trans x2) r2 q2
/-! argument lists, displays -/
def dNil : DTA := fun _ Q _ => Q []
def dCons (ta : DT) (t : DTA) : DTA := fun env Q ex => ta env (fun x => t env (fun xs => Q (x :: xs)) ex) ex
theorem pda_nil : PDA X W [] dNil := ⟨_, pa_nil, fun H0 G0 G H σ env Q ex R S L q g => g [] H G [] (.refl S.sub) .nil q⟩
theorem pda_cons (ha : PD X W e ta) (hr : PDA X W es t) (hs : starEach (e :: es) X.env = (false, eval e X.env) :: starEach es X.env := by rfl) : PDA X W (e :: es) (dCons ta t) := by
  obtain ⟨_, pa, la⟩ := ha.of
  obtain ⟨_, pr, lr⟩ := hr.of
  refine ⟨_, pa_cons pa pr hs, fun H0 G0 G H σ env Q ex R S L q g => la H0 G0 G H σ env _ ex _ S L q fun v H1 G1 d x1 r1 q1 => ?_⟩
  exact lr H0 G0 G1 H1 σ env _ ex _ (S.ex x1) (L.mono x1.gg) q1 fun vs H2 G2 ds x2 r2 q2 => g _ H2 G2 (d :: ds) (x1.trans x2) (r2.cons (r1.same x2.gg)) q2
def dTup (t : DTA) : DT := fun env Q ex => t env (fun xs => xs.length ≤ sizeLine ∧ Q (.tup xs)) ex
theorem pd_tup {x1} (h : PDA X W es t) : PD X W (.Tuple es x1 pos) (dTup t) := by
  obtain ⟨_, pa, la⟩ := h.of
  refine ⟨_, pe_tup pa, fun H0 G0 G H σ env Q ex R S L q g => la H0 G0 G H σ env _ ex _ S L q fun vs H1 G1 ds x1 r1 ⟨z, q1⟩ => ⟨by rw [r1.1]; exact z, fun p n => ?_⟩⟩
  have x2 : Ext G1 H1 (upd G1 p (.tup vs)) (upd H1 p (.tup vs)) := Ext.nw x1.sub n
  have r2 := r1.same x2.gg
  exact g _ _ _ _ (x1.trans x2) (.tup (SqT.of upd_same) r2.1 r2.2) q1
def dLst (t : DTA) : DTN := fun env Q ex => t env (fun xs => xs.length ≤ sizeLine ∧ Q xs) ex
theorem pdn_lst (h : PDA X W es t) : PDN X W (.List es pos) (dLst t) := by
  obtain ⟨_, pa, la⟩ := h.of
  refine ⟨_, pe_lst pa, fun H0 G0 G H σ env Q ex R S L q g => la H0 G0 G H σ env _ ex _ S L q fun vs H1 G1 ds x1 r1 ⟨z, q1⟩ => ⟨by rw [r1.1]; exact z, fun p n => ?_⟩⟩
  exact g p vs _ H1 G1 ds x1 n rfl r1 q1
/-! calls of built-ins -/
def dCB (rD : List D → (D → Prop) → Prop) (t : DTA) : DT := fun env Q ex => t env (fun ds => rD ds Q) ex
theorem pd_cb {r : List V → Hp → VK → Prop} {rD : List D → (D → Prop) → Prop} (mk : ∀ {ta : TA}, PA X es ta → PE X c (tCB r ta)) (hl : LcR X.K r rD) (ha : PDA X W es t) : PD X W c (dCB rD t) := by
  obtain ⟨_, pa, la⟩ := ha.of
  refine ⟨_, mk pa, fun H0 G0 G H σ env Q ex R S L q g => la H0 G0 G H σ env _ ex _ S L q fun vs H1 G1 ds x1 r1 q1 => ?_⟩
  exact hl G1 H1 vs ds Q R x1.sub r1 q1 fun w H3 G3 d3 x3 r3 q3 => g w H3 G3 d3 (x1.trans x3) r3 q3
def dCN (rD : List D → (List D → Prop) → Prop) (t : DTA) : DTN := fun env Q ex => t env (fun ds => rD ds Q) ex
theorem pdn_cb {r : List V → Hp → VK → Prop} {rD : List D → (List D → Prop) → Prop} (mk : ∀ {ta : TA}, PA X es ta → PE X c (tCB r ta)) (hl : LcN X.K r rD) (ha : PDA X W es t) : PDN X W c (dCN rD t) := by
  obtain ⟨_, pa, la⟩ := ha.of
  refine ⟨_, mk pa, fun H0 G0 G H σ env Q ex R S L q g => la H0 G0 G H σ env _ ex _ S L q fun vs H1 G1 ds x1 r1 q1 => ?_⟩
  exact hl G1 H1 vs ds Q R x1.sub r1 q1 fun p vs' H3 H2 G3 l x3 n e r3 q3 => g p vs' H3 H2 G3 l (x1.trans x3) n e r3 q3
def dM0 (rD : D → List D → (D → Prop) → Prop) (to : DT) : DT := fun env Q ex => to env (fun x => (∃ s, x = .str s) ∧ rD x [] Q) ex
def dM1 (rD : D → List D → (D → Prop) → Prop) (to te : DT) : DT := fun env Q ex => to env (fun x => (∃ s, x = .str s) ∧ te env (fun y => rD x [y] Q) ex) ex
theorem pd_m0 {r : V → List V → Hp → VK → Prop} {rD : D → List D → (D → Prop) → Prop} (mk : ∀ {to : TE}, PE X a to → PE X c (tM0 r to)) (hl : LmR X.K r rD) (ha : PD X W a ta) : PD X W c (dM0 rD ta) := by
  obtain ⟨_, pa, la⟩ := ha.of
  refine ⟨_, mk pa, fun H0 G0 G H σ env Q ex R S L q g => la H0 G0 G H σ env _ ex _ S L q fun v H1 G1 d x1 r1 q1 => ?_⟩
  obtain ⟨⟨s, rfl⟩, q2⟩ := q1
  exact ⟨⟨s, r1.str_inv⟩, hl G1 H1 v [] _ [] Q R x1.sub r1 .nil q2 fun w H3 G3 d3 x3 r3 q3 => g w H3 G3 d3 (x1.trans x3) r3 q3⟩
theorem pd_m1 {r : V → List V → Hp → VK → Prop} {rD : D → List D → (D → Prop) → Prop} (mk : ∀ {to te : TE}, PE X a to → PE X b te → PE X c (tM1 r to te)) (hl : LmR X.K r rD) (ha : PD X W a ta) (hb : PD X W b tb) : PD X W c (dM1 rD ta tb) := by
  obtain ⟨_, pa, la⟩ := ha.of
  obtain ⟨_, pb, lb⟩ := hb.of
  refine ⟨_, mk pa pb, fun H0 G0 G H σ env Q ex R S L q g => la H0 G0 G H σ env _ ex _ S L q fun v H1 G1 d x1 r1 q1 => ?_⟩
  obtain ⟨⟨s, rfl⟩, q2⟩ := q1
  refine ⟨⟨s, r1.str_inv⟩, lb H0 G0 G1 H1 σ env _ ex _ (S.ex x1) (L.mono x1.gg) q2 fun u H2 G2 d2 x2 r2 q3 => ?_⟩
  exact hl G2 H2 v [u] _ [d2] Q R x2.sub (r1.same x2.gg) (.one r2) q3 fun w H3 G3 d3 x3 r3 q4 => g w H3 G3 d3 ((x1.trans x2).trans x3) r3 q4
/-- a method of a text that makes a new list -/
def LmN (K : PySem.W.Frag) (r : V → List V → Hp → VK → Prop) (rD : D → List D → (List D → Prop) → Prop) : Prop := ∀ (G H : Hp) (x : V) (vs : List V) (a : D) (ds : List D) (Q : List D → Prop) (R : VK), Same G H → Rep K G x a → Reps K G vs ds → rD a ds Q → GotN K G H Q R → r x vs H R
def dM1N (rD : D → List D → (List D → Prop) → Prop) (to te : DT) : DTN := fun env Q ex => to env (fun x => (∃ s, x = .str s) ∧ te env (fun y => rD x [y] Q) ex) ex
theorem pdn_m1 {r : V → List V → Hp → VK → Prop} {rD : D → List D → (List D → Prop) → Prop} (mk : ∀ {to te : TE}, PE X a to → PE X b te → PE X c (tM1 r to te)) (hl : LmN X.K r rD) (ha : PD X W a ta) (hb : PD X W b tb) : PDN X W c (dM1N rD ta tb) := by
  obtain ⟨_, pa, la⟩ := ha.of
  obtain ⟨_, pb, lb⟩ := hb.of
  refine ⟨_, mk pa pb, fun H0 G0 G H σ env Q ex R S L q g => la H0 G0 G H σ env _ ex _ S L q fun v H1 G1 d x1 r1 q1 => ?_⟩
  obtain ⟨⟨s, rfl⟩, q2⟩ := q1
  refine ⟨⟨s, r1.str_inv⟩, lb H0 G0 G1 H1 σ env _ ex _ (S.ex x1) (L.mono x1.gg) q2 fun u H2 G2 d2 x2 r2 q3 => ?_⟩
  exact hl G2 H2 v [u] _ [d2] Q R x2.sub (r1.same x2.gg) (.one r2) q3 fun p vs' H4 H3 G3 l x3 n e r3 q4 => g p vs' H4 H3 G3 l ((x1.trans x2).trans x3) n e r3 q4
end
end DL

namespace DL
open PySem PySem.Spec PyProof.Rows L2 LR
/-! ## fields -/
theorem lookup_zip {f : Str} {v : V} : ∀ {ks : List Str} {vs : List V} {k : Nat}, ks.Nodup → ks[k]? = some f → vs[k]? = some v → (ks.zip vs).lookup f = some v
  | [], _, _, _, h, _ => by simp at h
  | _ :: _, [], _, _, _, h => by simp at h
  | g :: ks, w :: vs, 0, _, h, h2 => by
    simp at h h2
    subst h h2
    have e : (g == g) = true := beq_self_eq_true g
    simp only [List.zip_cons_cons, List.lookup, e]
  | g :: ks, w :: vs, k + 1, hn, h, h2 => by
    rw [List.nodup_cons] at hn
    have h' : ks[k]? = some f := by simpa using h
    have ne : (f == g) = false := beq_eq_false_iff_ne.mpr fun z => hn.1 (by rw [← z]; exact List.mem_of_getElem? h')
    simp only [List.zip_cons_cons, List.lookup, ne]
    exact lookup_zip hn.2 h' (by simpa using h2)
theorem lookup_zip_none {f : Str} : ∀ {ks : List Str} {vs : List V}, f ∉ ks → (ks.zip vs).lookup f = none
  | [], _, _ => rfl
  | _ :: _, [], _ => rfl
  | g :: ks, w :: vs, h => by
    have ne : (f == g) = false := beq_eq_false_iff_ne.mpr fun z => h (by rw [z]; exact List.mem_cons_self)
    simp only [List.zip_cons_cons, List.lookup, ne]
    exact lookup_zip_none fun z => h (List.mem_cons_of_mem _ z)
section
variable {X : Cx} {W : WX} {a b c e : Expr} {es : List Expr} {ta tb tc : DT} {t : DTA} {pos : Pos}
def dFld (c k : Nat) (ta : DT) : DT := fun env Q ex => ta env (fun d => ∃ l x, d = .ins c l ∧ l[k]? = some x ∧ Q x) ex
theorem pd_fld {c k : Nat} {f : Str} (cl : Cls X.K (He.ga X.K (cname c))) (na : NoAttr X.K (He.ga X.K (cname c)) f) (fk : (shape c)[k]? = some f ∧ (shape c).Nodup) (ha : PD X W e ta)
    (hb : attributeBase e f X.env (eval e X.env) = eval e X.env := by rfl) : PD X W (.Attribute e f pos) (dFld c k ta) := by
  obtain ⟨_, pa, la⟩ := ha.of
  refine ⟨_, pe_fld pa hb, fun H0 G0 G H σ env Q ex R S L q g => la H0 G0 G H σ env _ ex _ S L q fun v H1 G1 d x1 r1 ⟨l, x, e1, hx, q1⟩ => ?_⟩
  subst e1
  obtain ⟨p, dx, vs, rfl, hp, hm, r2⟩ := r1.ins_inv
  obtain ⟨w, hw, rw⟩ := r2.at hx
  exact ⟨p, _, dx, _, w, rfl, x1.sub _ _ hp, cl, na, lookup_zip fk.2 fk.1 hw, g w H1 G1 x x1 rw q1⟩
/-! ## promises -/
abbrev Prm := List D → (D → Prop) → EX → Prop
/-- how an own error leaves -/
def Out (K : PySem.W.Frag) (G H : Hp) (ED : EX) (E : XK) : Prop := ∀ (H' G' : Hp) (d : Addr) (x : Str) (fv : List (Str × V)) (fs : List (Str × D)), Ext G H G' H' → H' d = some (.xd fv) → RepF K G' fv fs → ED x fs → E (.ref (He.ga K x)) (some d) H'
def spD (K : PySem.W.Frag) (n : Nat) (P : Prm) : Sp := fun vs H Q E => vs.length = n ∧ ∃ (G : Hp) (ds : List D) (QD : D → Prop) (ED : EX), Same G H ∧ Reps K G vs ds ∧ P ds QD ED ∧ Got K G H QD Q ∧ Out K G H ED E
theorem sp_call {K : PySem.W.Frag} {n : Nat} {H0 G0 G H : Hp} {σ : L2.St} {env : DE} {W : WX} {ex : EX} {P : Prm} {vs : List V} {ds : List D} {Q : D → Prop} {R : VK} (S : SR K H0 G0 G H σ env) (L : LkE K H0 G0 G W σ env ex) (hn : ∀ ds Q ex, P ds Q ex → ds.length = n) (r : Reps K G vs ds) (h : P ds Q ex) (g : Got K G H Q R) :
    spD K n P vs H R (WE W σ) := ⟨by rw [r.1]; exact hn _ _ _ h, G, ds, Q, ex, S.sub, r, h, g, fun H' G' d x fv fs xt e rf q => L H' G' d x fv fs xt.gg (S.ex xt) e rf q⟩
theorem sp_call0 {K : PySem.W.Frag} {n : Nat} {G H : Hp} {E : XK} {P : Prm} {vs : List V} {ds : List D} {Q : D → Prop} {R : VK} (s : Same G H) (hn : ∀ ds Q ex, P ds Q ex → ds.length = n) (r : Reps K G vs ds) (h : P ds Q (fun _ _ => False)) (g : Got K G H Q R) :
    spD K n P vs H R E := ⟨by rw [r.1]; exact hn _ _ _ h, G, ds, Q, _, s, r, h, g, fun H' G' d x fv fs xt e rf q => q.elim⟩
def dCall (P : Prm) (t : DTA) : DT := fun env Q ex => t env (fun ds => P ds Q ex) ex
/-- a def that keeps a promise on data; n parameters -/
structure Fn (P : Program) (w : World) (K : PySem.W.Frag) (mg : Str → Option Value) (base : Heap) (f : Addr) (k : Nat) (n : Nat) (Pm : Prm) where
  fd : FuncData
  ps : List Str
  ok : FnOk P w K mg base (L2.CX P w) k f fd ps (spD K n Pm)
  bd : Binds K fd ps []
  len : ∀ ds Q ex, Pm ds Q ex → ds.length = n
variable {k n : Nat} {f : Addr} {Pm : Prm} {x m : Str} {p apos : Pos} {o : Expr}
theorem pd_call (F : Fn X.prog X.w X.K X.mg X.base f k n Pm) (hr : Room k X.A) (hg : Gl X x) (hm : X.mg x = some (.ref f)) (hk : PySem.W.keepIn X.K (.ref f) = true) (tk : Takes X W) (ha : PDA X W (e :: es) t)
    (hdb : (x == ("__debug__" : Str)) = false := by decide) (he : starEach (e :: es) X.env = (false, eval e X.env) :: starEach es X.env := by rfl) (hpl : (backTo pos (starEach es X.env)).any (·.1) = false := by rfl) :
    PD X W (.Call (.Name x p) (e :: es) [] pos) (dCall Pm t) := by
  obtain ⟨_, pa, la⟩ := ha.of
  refine ⟨_, pe_callS F.ok hr hg hm hk F.bd (fun σ => passAt tk σ) pa hdb he hpl, fun H0 G0 G H σ env Q ex R S L q g => la H0 G0 G H σ env _ ex _ S L q fun vs H1 G1 ds x1 r1 q1 => ?_⟩
  exact sp_call (S.ex x1) (L.mono x1.gg) F.len r1 q1 fun v H2 G2 d x2 r2 q2 => g v H2 G2 d (x1.trans x2) r2 q2
theorem pd_call0 (F : Fn X.prog X.w X.K X.mg X.base f k n Pm) (hr : Room k X.A) (hg : Gl X x) (hm : X.mg x = some (.ref f)) (hk : PySem.W.keepIn X.K (.ref f) = true)
    (hdb : (x == ("__debug__" : Str)) = false := by decide) : PD X W (.Call (.Name x p) [] [] pos) (fun _ Q _ => Pm [] Q (fun _ _ => False)) :=
  ⟨_, pe_call0 F.ok hr hg hm hk F.bd .nil passL hdb, fun H0 G0 G H σ env Q ex R S L q g => sp_call0 S.sub F.len .nil q g⟩
/-- o.m(..) -/
def dMeth (c : Nat) (P : Prm) (ta : DT) (t : DTA) : DT := fun env Q ex => ta env (fun d => (∃ l, d = .ins c l) ∧ t env (fun ds => P (d :: ds) Q ex) ex) ex
theorem pd_meth {c : Nat} {pl : Sem Bool} (ho : PD X W o ta) (cl : Cls X.K (He.ga X.K (cname c))) (hm : Meth X.K (He.ga X.K (cname c)) m f) (F : Fn X.prog X.w X.K X.mg X.base f k n Pm) (hr : Room k X.A) (tk : Takes X W) (nm : m ∉ shape c) (ha : PDA X W (e :: es) t)
    (hst : starEach (e :: es) X.env = (false, eval e X.env) :: starEach es X.env := by rfl) (hpl : (backTo pos (starEach es X.env)).any (·.1) = false := by rfl)
    (ht : eval (.Call (.Attribute o m apos) (e :: es) [] pos) X.env = (do
      let ov ← eval o X.env
      standAt apos.atName
      let (f, first) ← holding [ov] (getMethod ov m pl)
      callWith pos f first (backTo pos (starEach (e :: es) X.env)) (backToKw pos (keywordEach [] X.env))) := by rfl) :
    PD X W (.Call (.Attribute o m apos) (e :: es) [] pos) (dMeth c Pm ta t) := by
  obtain ⟨_, po, lo⟩ := ho.of
  obtain ⟨_, pa, la⟩ := ha.of
  refine ⟨_, pe_methS po cl hm F.ok hr F.bd (fun σ => passAt tk σ) pa hst hpl ht, fun H0 G0 G H σ env Q ex R S L q g => lo H0 G0 G H σ env _ ex _ S L q fun v H1 G1 d x1 r1 q1 => ?_⟩
  obtain ⟨⟨l, rfl⟩, q2⟩ := q1
  obtain ⟨p, dx, ws, rfl, hp, hm', r2⟩ := id r1.ins_inv
  refine ⟨p, dx, _, rfl, x1.sub _ _ hp, lookup_zip_none nm, la H0 G0 G1 H1 σ env _ ex _ (S.ex x1) (L.mono x1.gg) q2 fun vs H2 G2 ds x2 r3 q3 => ?_⟩
  have x12 := x1.trans x2
  exact sp_call (S.ex x12) (L.mono x12.gg) F.len (r3.cons (r1.same x2.gg)) q3 fun v H3 G3 d x3 r4 q4 => g v H3 G3 d (x12.trans x3) r4 q4
/-- o.m() -/
theorem pe_meth0S {pl : Sem Bool} {C : Addr} {fd : FuncData} {ps : List Str} {sp : Sp} {E : L2.St → XK} {sa : TE} {CX : CXT} (he : PE X o sa) (c : Cls X.K C) (hm : Meth X.K C m f) (F : FnOk X.prog X.w X.K X.mg X.base CX k f fd ps sp) (hr : Room k X.A) (hb : Binds X.K fd ps []) (hx : ∀ σ, PassesAt CX X σ (E σ))
    (ht : eval (.Call (.Attribute o m apos) [] [] pos) X.env = (do
      let ov ← eval o X.env
      standAt apos.atName
      let (f, first) ← holding [ov] (getMethod ov m pl)
      callWith pos f first (backTo pos (starEach [] X.env)) (backToKw pos (keywordEach [] X.env))) := by rfl) :
    PE X (.Call (.Attribute o m apos) [] [] pos) (tMethS C m sp E sa tNil) := by
  refine ⟨fun pins s σ H Q I h => ?_⟩
  refine PySem.W.methodCall_KW (pl := pl) (thn (he.run pins s σ H _ I h) fun u s1 ⟨x, H1, I1, rx, a, dx, fs, ex, ea, l, q⟩ => ?_) ht
  subst ex
  obtain rfl : u = Value.ref a := rx
  refine getmeth_ok I1 ea c hm l ?_
  exact PySem.W.callWith_K0 (first := [.ref a]) I1.kIn hm.kp (run_fnS (us := [.ref a]) (vs := [.ref a]) F hr hb (hx σ) I1 (.cons rfl .nil) q)
theorem pd_meth0 {c : Nat} {pl : Sem Bool} (ho : PD X W o ta) (cl : Cls X.K (He.ga X.K (cname c))) (hm : Meth X.K (He.ga X.K (cname c)) m f) (F : Fn X.prog X.w X.K X.mg X.base f k n Pm) (hr : Room k X.A) (tk : Takes X W) (nm : m ∉ shape c)
    (ht : eval (.Call (.Attribute o m apos) [] [] pos) X.env = (do
      let ov ← eval o X.env
      standAt apos.atName
      let (f, first) ← holding [ov] (getMethod ov m pl)
      callWith pos f first (backTo pos (starEach [] X.env)) (backToKw pos (keywordEach [] X.env))) := by rfl) :
    PD X W (.Call (.Attribute o m apos) [] [] pos) (dMeth c Pm ta dNil) := by
  obtain ⟨_, po, lo⟩ := ho.of
  refine ⟨_, pe_meth0S po cl hm F.ok hr F.bd (fun σ => passAt tk σ) ht, fun H0 G0 G H σ env Q ex R S L q g => lo H0 G0 G H σ env _ ex _ S L q fun v H1 G1 d x1 r1 q1 => ?_⟩
  obtain ⟨⟨l, rfl⟩, q2⟩ := q1
  obtain ⟨p, dx, ws, rfl, hp, hm', r2⟩ := id r1.ins_inv
  refine ⟨p, dx, _, rfl, x1.sub _ _ hp, lookup_zip_none nm, ?_⟩
  exact sp_call (S.ex x1) (L.mono x1.gg) F.len (.one r1) q2 fun v H3 G3 d x3 r4 q4 => g v H3 G3 d (x1.trans x3) r4 q4
/-- o.f, a property -/
def dProp (c : Nat) (P : Prm) (ta : DT) : DT := fun env Q ex => ta env (fun d => (∃ l, d = .ins c l) ∧ P [d] Q (fun _ _ => False)) ex
theorem pd_prop {c : Nat} {f : Str} {ap g : Addr} (ho : PD X W e ta) (cl : Cls X.K (He.ga X.K (cname c))) (hp : PropOf X.K (He.ga X.K (cname c)) f ap g) (F : Fn X.prog X.w X.K X.mg X.base g k n Pm) (hr : Room (k + 1) X.A)
    (hab : attributeBase e f X.env (eval e X.env) = eval e X.env := by rfl) : PD X W (.Attribute e f pos) (dProp c Pm ta) := by
  obtain ⟨_, po, lo⟩ := ho.of
  refine ⟨_, pe_prop po cl hp F.ok hr F.bd .nil passL hab, fun H0 G0 G H σ env Q ex R S L q gg => lo H0 G0 G H σ env _ ex _ S L q fun v H1 G1 d x1 r1 q1 => ?_⟩
  obtain ⟨⟨l, rfl⟩, q2⟩ := q1
  obtain ⟨p, dx, ws, rfl, hp, hm', r2⟩ := id r1.ins_inv
  exact ⟨p, dx, _, rfl, x1.sub _ _ hp, sp_call0 x1.sub F.len (.one r1) q2 fun v H3 G3 d x3 r4 q4 => gg v H3 G3 d (x1.trans x3) r4 q4⟩
/-! ## objects made -/
/-- what an __init__ has done: the object at p stands for d -/
def Made (K : PySem.W.Frag) (G H : Hp) (p : Addr) (QD : D → Prop) (R : Hp → Prop) : Prop := ∀ (H' G' : Hp) (d : D), (∀ a o, H a = some o → a ≠ p → H' a = some o) → Same G G' → Same G' H' → (∀ a, G' a ≠ none → G a = none → H a = none ∨ a = p) → Rep K G' (.ref p) d → QD d → R H'
def OutI (K : PySem.W.Frag) (G H : Hp) (p : Addr) (ED : EX) (E : XK) : Prop := ∀ (H' G' : Hp) (d : Addr) (x : Str) (fv : List (Str × V)) (fs : List (Str × D)), (∀ a o, H a = some o → a ≠ p → H' a = some o) → Same G G' → Same G' H' → (∀ a, G' a ≠ none → G a = none → H a = none ∨ a = p) →
  H' d = some (.xd fv) → RepF K G' fv fs → ED x fs → E (.ref (He.ga K x)) (some d) H'
def spI (K : PySem.W.Frag) (c n : Nat) (P : Prm) : Sp := fun vs H Q E => ∃ (p dx : Addr) (us : List V) (G : Hp) (ds : List D) (QD : D → Prop) (ED : EX), vs = .ref p :: us ∧ us.length = n ∧ H p = some (.ins (He.ga K (cname c)) dx []) ∧ Same G H ∧ G p = none ∧ Reps K G us ds ∧ P ds QD ED ∧
  Made K G H p QD (fun H' => Q .non H') ∧ OutI K G H p ED E
structure FnI (P : Program) (w : World) (K : PySem.W.Frag) (mg : Str → Option Value) (base : Heap) (f : Addr) (k : Nat) (c n : Nat) (Pm : Prm) (dv : List V) (dd : List D) where
  fd : FuncData
  ps : List Str
  ok : FnOk P w K mg base (L2.CX P w) k f fd ps (spI K c n Pm)
  ds : List Value
  vd : Vals dv ds
  bd : Binds K fd ps ds
  len : ∀ ds Q ex, Pm ds Q ex → ds.length = n
def dMake (P : Prm) (dd : List D) (t : DTA) : DT := fun env Q ex => t env (fun ds => P (ds ++ dd) Q ex) ex
theorem pd_make {c : Nat} {dv : List V} {dd : List D} (M : Mk X.K (He.ga X.K (cname c)) f) (F : FnI X.prog X.w X.K X.mg X.base f k c n Pm dv dd) (hd : ∀ K H, Reps K H dv dd) (hr : Room (k + 1) X.A) (hg : Gl X x) (hm : X.mg x = some (.ref (He.ga X.K (cname c)))) (tk : Takes X W) (ha : PDA X W (e :: es) t)
    (hdb : (x == ("__debug__" : Str)) = false := by decide) (he : starEach (e :: es) X.env = (false, eval e X.env) :: starEach es X.env := by rfl) (hpl : (backTo pos (starEach es X.env)).any (·.1) = false := by rfl) :
    PD X W (.Call (.Name x p) (e :: es) [] pos) (dMake Pm dd t) := by
  obtain ⟨_, pa, la⟩ := ha.of
  refine ⟨_, pe_makeS M F.ok hr hg hm F.bd F.vd (fun σ => passAt tk σ) pa hdb he hpl, fun H0 G0 G H σ env Q ex R S L q g => la H0 G0 G H σ env _ ex _ S L q fun vs H1 G1 ds x1 r1 q1 => ?_⟩
  intro x dx nx nd ne
  have s0 : Same H1 (upd (upd H1 dx (.own x)) x (.ins (He.ga X.K (cname c)) dx [])) := fun a o h => by
    rw [upd_ne (ne_of_none h nx), upd_ne (ne_of_none h nd)]
    exact h
  have gx : G1 x = none := x1.sub.free nx
  have rr := r1.app (hd X.K G1)
  have back : ∀ a, (upd (upd H1 dx (.own x)) x (.ins (He.ga X.K (cname c)) dx [])) a = none ∨ a = x → H1 a = none := fun a h => by
    rcases h with h | h
    · by_cases h1 : a = x
      · subst h1; exact nx
      · rw [upd_ne h1] at h
        by_cases h2 : a = dx
        · subst h2; exact nd
        · rw [upd_ne h2] at h; exact h
    · subst h; exact nx
  have xt : ∀ H' G' : Hp, (∀ a o, (upd (upd H1 dx (.own x)) x (.ins (He.ga X.K (cname c)) dx [])) a = some o → a ≠ x → H' a = some o) → Same G1 G' → Same G' H' → (∀ a, G' a ≠ none → G1 a = none → (upd (upd H1 dx (.own x)) x (.ins (He.ga X.K (cname c)) dx [])) a = none ∨ a = x) → Ext G1 H1 G' H' := fun H' G' h1 h2 h3 h4 =>
    ⟨fun a o h => h1 a o (s0 a o h) (ne_of_none h nx), h2, h3, fun a h5 h6 => back a (h4 a h5 h6)⟩
  refine ⟨x, dx, vs ++ dv, G1, ds ++ dd, Q, ex, rfl, by rw [rr.1]; exact F.len _ _ _ q1, upd_same, x1.sub.trans s0, gx, rr, q1, fun H' G' d h1 h2 h3 h4 r q2 => ⟨rfl, g _ H' G' d (x1.trans (xt H' G' h1 h2 h3 h4)) r q2⟩, fun H' G' d x' fv fs h1 h2 h3 h4 e rf q2 => ?_⟩
  have z := xt H' G' h1 h2 h3 h4
  exact L H' G' d x' fv fs (x1.trans z).gg ((S.ex x1).ex z) e rf q2
end
end DL

namespace DL
open PySem PySem.Spec PyProof.Rows L2 LR
/-! ## what is walked -/
structure JOk (K : PySem.W.Frag) (J : It) (G : Hp) (items : List D) : Prop where
  go : ∀ (i : Nat) H, Same G H → i < items.length → J.go i H
  stop : ∀ H, Same G H → J.stop items.length H
  yld : ∀ (i : Nat) H G1 x H', Same G G1 → Same G1 H → i < items.length → J.yld i H x H' → ∃ G' d, items[i]? = some d ∧ Ext G1 H G' H' ∧ Rep K G' x d
abbrev DTI := DE → (List D → Prop) → EX → Prop
def LI (X : Cx) (W : WX) (ti : TI) (t : DTI) : Prop := ∀ (H0 G0 G H : Hp) (σ : L2.St) (env : DE) (Q : List D → Prop) (ex : EX) (R : It → Hp → Prop), SR X.K H0 G0 G H σ env → LkE X.K H0 G0 G W σ env ex → t env Q ex →
  (∀ J H' G' items, Ext G H G' H' → JOk X.K J G' items → Q items → R J H') → ti σ H R
structure PDI (X : Cx) (W : WX) (tg it : Expr) (t : DTI) : Prop where
  of : ∃ ti, PI X tg it ti ∧ LI X W ti t
theorem jok_list {K : PySem.W.Frag} {G : Hp} {a : Addr} {vs : List V} {l : List D} (h : SqL K G a vs) (r : Reps K G vs l) : JOk K (Itl K a) G l where
  go := fun i H s hi => ⟨vs, vs[i]'(by rw [r.1]; exact hi), s.seq h, List.getElem?_eq_getElem _⟩
  stop := fun H s => ⟨vs, s.seq h, by rw [r.1]; exact Nat.le_refl _⟩
  yld := fun i H G1 x H' s1 s2 hi ⟨e, y⟩ => by
    subst e
    have hx := y vs ((s1.trans s2).seq h)
    obtain ⟨d, hd, rd⟩ := r.at' hx
    exact ⟨G1, d, hd, .refl s2, rd.same s1⟩
theorem jok_tup {K : PySem.W.Frag} {G : Hp} {a : Addr} {vs : List V} {l : List D} (h : SqT K G a vs) (r : Reps K G vs l) : JOk K (Itt K a) G l where
  go := fun i H s hi => ⟨vs, vs[i]'(by rw [r.1]; exact hi), sqT_same s h, List.getElem?_eq_getElem _⟩
  stop := fun H s => ⟨vs, sqT_same s h, by rw [r.1]; exact Nat.le_refl _⟩
  yld := fun i H G1 x H' s1 s2 hi ⟨e, y⟩ => by
    subst e
    have hx := y vs (sqT_same (s1.trans s2) h)
    obtain ⟨d, hd, rd⟩ := r.at' hx
    exact ⟨G1, d, hd, .refl s2, rd.same s1⟩
def rngD (lo : Int) (n : Nat) : List D := (List.range n).map fun (i : Nat) => D.int (lo + i)
theorem jok_range {K : PySem.W.Frag} {G : Hp} {lo : Int} {n : Nat} : JOk K (Itr lo n) G (rngD lo n) where
  go := fun i H s hi => by show i < n; unfold rngD at hi; simpa using hi
  stop := fun H s => by show n ≤ _; unfold rngD; simp
  yld := fun i H G1 x H' s1 s2 hi ⟨e, y⟩ => by
    subst e y
    have hi' : i < n := by unfold rngD at hi; simpa using hi
    exact ⟨G1, _, by unfold rngD; simp [hi'], .refl s2, .int _⟩
theorem ext_pair {K : PySem.W.Frag} {G1 H : Hp} {T : Addr} {x y : V} {d e : D} (s : Same G1 H) (n : H T = none) (r1 : Rep K G1 x d) (r2 : Rep K G1 y e) : Ext G1 H (upd G1 T (.tup [x, y])) (upd H T (.tup [x, y])) ∧ Rep K (upd G1 T (.tup [x, y])) (.ref T) (.tup [d, e]) := by
  have x2 : Ext G1 H (upd G1 T (.tup [x, y])) (upd H T (.tup [x, y])) := Ext.nw s n
  have rr : Reps K (upd G1 T (.tup [x, y])) [x, y] [d, e] := (Reps.one (r2.same x2.gg)).cons (r1.same x2.gg)
  exact ⟨x2, .tup (SqT.of upd_same) rr.1 rr.2⟩
def enumD (l : List D) : List D := (List.range l.length).zipWith (fun (i : Nat) d => D.tup [.int i, d]) l
theorem enumD_len (l : List D) : (enumD l).length = l.length := by unfold enumD; simp
theorem enumD_at {l : List D} {i : Nat} {d : D} (h : l[i]? = some d) : (enumD l)[i]? = some (.tup [.int i, d]) := by
  have hi : i < l.length := (List.getElem?_eq_some_iff.mp h).1
  unfold enumD
  rw [List.getElem?_zipWith, h]
  simp [hi]
theorem jok_enum {K : PySem.W.Frag} {G : Hp} {a : Addr} {vs : List V} {l : List D} (h : SqL K G a vs) (r : Reps K G vs l) : JOk K (Ite K a) G (enumD l) where
  go := fun i H s hi => ⟨vs, vs[i]'(by rw [r.1]; rw [enumD_len] at hi; exact hi), s.seq h, List.getElem?_eq_getElem _⟩
  stop := fun H s => ⟨vs, s.seq h, by rw [r.1, enumD_len]; exact Nat.le_refl _⟩
  yld := fun i H G1 x H' s1 s2 hi ⟨T, x', e, n, e2, y⟩ => by
    subst e e2
    have hx := y vs ((s1.trans s2).seq h)
    obtain ⟨d, hd, rd⟩ := r.at' hx
    obtain ⟨x2, r2⟩ := ext_pair s2 n (.int (i : Nat)) (rd.same s1)
    exact ⟨_, _, enumD_at hd, x2, r2⟩
def zipD (l m : List D) : List D := l.zipWith (fun d e => D.tup [d, e]) m
theorem zipD_at {l m : List D} {i : Nat} {d e : D} (h : l[i]? = some d) (h2 : m[i]? = some e) : (zipD l m)[i]? = some (.tup [d, e]) := by
  unfold zipD
  rw [List.getElem?_zipWith, h, h2]
theorem zipD_len (l m : List D) : (zipD l m).length = min l.length m.length := by unfold zipD; simp
theorem jok_zip {K : PySem.W.Frag} {G : Hp} {a b : Addr} {vs us : List V} {l m : List D} (h : SqL K G a vs) (r : Reps K G vs l) (h2 : SqL K G b us) (r2 : Reps K G us m) : JOk K (Itz K a b) G (zipD l m) where
  go := fun i H s hi => by
    rw [zipD_len] at hi
    exact ⟨vs, us, vs[i]'(by rw [r.1]; omega), us[i]'(by rw [r2.1]; omega), s.seq h, s.seq h2, List.getElem?_eq_getElem _, List.getElem?_eq_getElem _⟩
  stop := fun H s => ⟨vs, us, s.seq h, s.seq h2, by rw [zipD_len, r.1, r2.1]; omega⟩
  yld := fun i H G1 x H' s1 s2 hi ⟨T, x', y', e, n, e2, y1, y2⟩ => by
    subst e e2
    have hx := y1 vs ((s1.trans s2).seq h)
    have hy := y2 us ((s1.trans s2).seq h2)
    obtain ⟨d, hd, rd⟩ := r.at' hx
    obtain ⟨d2, hd2, rd2⟩ := r2.at' hy
    obtain ⟨x3, r3⟩ := ext_pair s2 n (rd.same s1) (rd2.same s1)
    exact ⟨_, _, zipD_at hd hd2, x3, r3⟩
theorem jok_zipT {K : PySem.W.Frag} {G : Hp} {a b : Addr} {vs us : List V} {l m : List D} (h : SqT K G a vs) (r : Reps K G vs l) (h2 : SqT K G b us) (r2 : Reps K G us m) : JOk K (RZ.ItzT K a b) G (zipD l m) where
  go := fun i H s hi => by
    rw [zipD_len] at hi
    exact ⟨vs, us, vs[i]'(by rw [r.1]; omega), us[i]'(by rw [r2.1]; omega), sqT_same s h, sqT_same s h2, List.getElem?_eq_getElem _, List.getElem?_eq_getElem _⟩
  stop := fun H s => ⟨vs, us, sqT_same s h, sqT_same s h2, by rw [zipD_len, r.1, r2.1]; omega⟩
  yld := fun i H G1 x H' s1 s2 hi ⟨T, x', y', e, n, e2, y1, y2⟩ => by
    subst e e2
    have hx := y1 vs (sqT_same (s1.trans s2) h)
    have hy := y2 us (sqT_same (s1.trans s2) h2)
    obtain ⟨d, hd, rd⟩ := r.at' hx
    obtain ⟨d2, hd2, rd2⟩ := r2.at' hy
    obtain ⟨x3, r3⟩ := ext_pair s2 n (rd.same s1) (rd2.same s1)
    exact ⟨_, _, zipD_at hd hd2, x3, r3⟩
def strD (s : Str) : List D := s.cps.toList.map fun c => D.str ⟨#[c]⟩
theorem jok_str {K : PySem.W.Frag} {G : Hp} {s : Str} : JOk K (Its s) G (strD s) where
  go := fun i H _ hi => by show i < s.cps.size; unfold strD at hi; simpa using hi
  stop := fun H _ => by show s.cps.size ≤ _; unfold strD; simp
  yld := fun i H G1 x H' s1 s2 hi ⟨e, c, hc, ex⟩ => by
    subst e ex
    exact ⟨G1, .str ⟨#[c]⟩, by unfold strD; rw [List.getElem?_map, Array.getElem?_toList, hc]; rfl, .refl s2, .str _⟩
section
variable {X : Cx} {W : WX} {a b c e tg : Expr} {es : List Expr} {ta tb tc : DT} {t : DTA} {pos p : Pos}
def diL (ta : DT) : DTI := fun env Q ex => ta env (fun d => ∃ l, d = .lst l ∧ Q l) ex
def diT (ta : DT) : DTI := fun env Q ex => ta env (fun d => ∃ l, d = .tup l ∧ Q l) ex
theorem pdi_list (ha : PD X W e ta) : PDI X W tg e (diL ta) := by
  obtain ⟨_, pa, la⟩ := ha.of
  refine ⟨_, pi_list pa, fun H0 G0 G H σ env Q ex R S L q g => la H0 G0 G H σ env _ ex _ S L q fun v H1 G1 d x1 r1 ⟨l, e1, q1⟩ => ?_⟩
  subst e1
  obtain ⟨p, vs, rfl, h1, h2⟩ := r1.lst_inv
  exact ⟨p, rfl, ⟨vs, x1.sub.seq h1⟩, g _ H1 G1 l x1 (jok_list h1 h2) q1⟩
theorem pdi_tup (ha : PD X W e ta) : PDI X W tg e (diT ta) := by
  obtain ⟨_, pa, la⟩ := ha.of
  refine ⟨_, pi_tup pa, fun H0 G0 G H σ env Q ex R S L q g => la H0 G0 G H σ env _ ex _ S L q fun v H1 G1 d x1 r1 ⟨l, e1, q1⟩ => ?_⟩
  subst e1
  obtain ⟨p, vs, rfl, h1, h2⟩ := r1.tup_inv
  exact ⟨p, rfl, ⟨vs, sqT_same x1.sub h1⟩, g _ H1 G1 l x1 (jok_tup h1 h2) q1⟩
theorem pdi_str (ha : PD X W e ta) : PDI X W tg e (fun env Q ex => ta env (fun d => ∃ s, d = .str s ∧ Q (strD s)) ex) := by
  obtain ⟨_, pa, la⟩ := ha.of
  refine ⟨_, pi_str pa, fun H0 G0 G H σ env Q ex R S L q g => la H0 G0 G H σ env _ ex _ S L q fun v H1 G1 d x1 r1 ⟨l, e1, q1⟩ => ?_⟩
  subst e1
  exact ⟨l, r1.str_inv, g _ H1 G1 _ x1 jok_str q1⟩
def diR1 (t : DTA) : DTI := fun env Q ex => t env (fun ds => ∃ j : Int, ds = [.int j] ∧ -(2 ^ 62) ≤ j ∧ j < 2 ^ 62 ∧ Q (rngD 0 j.toNat)) ex
def diR2 (t : DTA) : DTI := fun env Q ex => t env (fun ds => ∃ i j : Int, ds = [.int i, .int j] ∧ (-(2 ^ 62) ≤ i ∧ i < 2 ^ 62 ∧ -(2 ^ 62) ≤ j ∧ j < 2 ^ 62) ∧ Q (rngD i (j - i).toNat)) ex
theorem reps1 {K : PySem.W.Frag} {G : Hp} {vs : List V} {d : D} (r : Reps K G vs [d]) : ∃ v, vs = [v] ∧ Rep K G v d := by
  obtain ⟨n, h⟩ := r
  match vs, n with
  | [v], _ => exact ⟨v, rfl, h 0 v d rfl rfl⟩
theorem reps2 {K : PySem.W.Frag} {G : Hp} {vs : List V} {d e : D} (r : Reps K G vs [d, e]) : ∃ v w, vs = [v, w] ∧ Rep K G v d ∧ Rep K G w e := by
  obtain ⟨n, h⟩ := r
  match vs, n with
  | [v, w], _ => exact ⟨v, w, rfl, h 0 v d rfl rfl, h 1 w e rfl rfl⟩
theorem pdi_range1 (hg : Gl X "range") (hm : X.mg "range" = none) (ha : PDA X W [a] t) (hs : starEach [a] X.env = [(false, eval a X.env)] := by rfl) : PDI X W tg (.Call (.Name "range" p) [a] [] pos) (diR1 t) := by
  obtain ⟨_, pa, la⟩ := ha.of
  refine ⟨_, pi_range1 hg hm pa hs, fun H0 G0 G H σ env Q ex R S L q g => la H0 G0 G H σ env _ ex _ S L q fun vs H1 G1 ds x1 r1 ⟨j, e1, h1, h2, q1⟩ => ?_⟩
  subst e1
  obtain ⟨v, rfl, r⟩ := reps1 r1
  exact ⟨j, by rw [r.int_inv], h1, h2, g _ H1 G1 _ x1 jok_range q1⟩
theorem pdi_range2 (hg : Gl X "range") (hm : X.mg "range" = none) (ha : PDA X W [a, b] t) (hs : starEach [a, b] X.env = [(false, eval a X.env), (false, eval b X.env)] := by rfl) (hs2 : starEach [b] X.env = [(false, eval b X.env)] := by rfl) :
    PDI X W tg (.Call (.Name "range" p) [a, b] [] pos) (diR2 t) := by
  obtain ⟨_, pa, la⟩ := ha.of
  refine ⟨_, pi_range2 hg hm pa hs hs2, fun H0 G0 G H σ env Q ex R S L q g => la H0 G0 G H σ env _ ex _ S L q fun vs H1 G1 ds x1 r1 ⟨i, j, e1, h1, q1⟩ => ?_⟩
  subst e1
  obtain ⟨v, w, rfl, r, r'⟩ := reps2 r1
  exact ⟨i, j, by rw [r.int_inv, r'.int_inv], h1, g _ H1 G1 _ x1 jok_range q1⟩
def diEnum (t : DTA) : DTI := fun env Q ex => t env (fun ds => ∃ l, ds = [.lst l] ∧ Q (enumD l)) ex
theorem pdi_enum {tpos : Pos} {elts : List Expr} {kk : Nat} (hg : Gl X "enumerate") (hm : X.mg "enumerate" = none) (ha : PDA X W [e] t) (hs : starEach [e] X.env = [(false, eval e X.env)] := by rfl) :
    PDI X W (.Tuple elts kk tpos) (.Call (.Name "enumerate" p) [e] [] pos) (diEnum t) := by
  obtain ⟨_, pa, la⟩ := ha.of
  refine ⟨_, pi_enum hg hm pa hs, fun H0 G0 G H σ env Q ex R S L q g => la H0 G0 G H σ env _ ex _ S L q fun vs H1 G1 ds x1 r1 ⟨l, e1, q1⟩ => ?_⟩
  subst e1
  obtain ⟨v, rfl, r⟩ := reps1 r1
  obtain ⟨p, ws, rfl, h1, h2⟩ := r.lst_inv
  exact ⟨p, ws, rfl, x1.sub.seq h1, g _ H1 G1 _ x1 (jok_enum h1 h2) q1⟩
def diZip (t : DTA) : DTI := fun env Q ex => t env (fun ds => (∃ l m, ds = [.lst l, .lst m] ∧ Q (zipD l m)) ∨ ∃ l m, ds = [.tup l, .tup m] ∧ Q (zipD l m)) ex
theorem pdi_zip {e2 : Expr} {tpos : Pos} {elts : List Expr} {kk : Nat} (hg : Gl X "zip") (hm : X.mg "zip" = none) (ha : PDA X W [e, e2] t)
    (hs : starEach [e, e2] X.env = (false, eval e X.env) :: starEach [e2] X.env := by rfl) (hpl : (backTo pos (starEach [e2] X.env)).any (·.1) = false := by rfl) :
    PDI X W (.Tuple elts kk tpos) (.Call (.Name "zip" p) [e, e2] [] pos) (diZip t) := by
  obtain ⟨_, pa, la⟩ := ha.of
  refine ⟨_, RZ.pi_zipA hg hm pa hs hpl, fun H0 G0 G H σ env Q ex R S L q g => la H0 G0 G H σ env _ ex _ S L q fun vs H1 G1 ds x1 r1 q0 => ?_⟩
  rcases q0 with ⟨l, m, e1, q1⟩ | ⟨l, m, e1, q1⟩
  · subst e1
    obtain ⟨v, w, rfl, r, r'⟩ := reps2 r1
    obtain ⟨p, ws, rfl, h1, h2⟩ := r.lst_inv
    obtain ⟨p', ws', rfl, h1', h2'⟩ := r'.lst_inv
    exact ⟨p, p', ws, ws', rfl, .inl ⟨x1.sub.seq h1, x1.sub.seq h1', g _ H1 G1 _ x1 (jok_zip h1 h2 h1' h2') q1⟩⟩
  · subst e1
    obtain ⟨v, w, rfl, r, r'⟩ := reps2 r1
    obtain ⟨p, ws, rfl, h1, h2⟩ := r.tup_inv
    obtain ⟨p', ws', rfl, h1', h2'⟩ := r'.tup_inv
    exact ⟨p, p', ws, ws', rfl, .inr ⟨sqT_same x1.sub h1, sqT_same x1.sub h1', g _ H1 G1 _ x1 (jok_zipT h1 h2 h1' h2') q1⟩⟩
/-! ## targets -/
abbrev DTG := D → DE → (DE → Prop) → Prop
abbrev DTGs := List D → DE → (DE → Prop) → Prop
/-- what a target stores lies in vs -/
def GIn (vs : List Nat) (g : TG) : Prop := ∀ v σ H (R R' : L2.St → Hp → Prop), (∀ σ2 H2, L2.wipe σ2 vs = L2.wipe σ vs → R σ2 H2 → R' σ2 H2) → g v σ H R → g v σ H R'
def GIns (vs : List Nat) (g : TGs) : Prop := ∀ us σ H (R R' : L2.St → Hp → Prop), (∀ σ2 H2, L2.wipe σ2 vs = L2.wipe σ vs → R σ2 H2 → R' σ2 H2) → g us σ H R → g us σ H R'
theorem wipe_get (σ : L2.St) : ∀ (vs : List Nat) (j : Nat), (L2.wipe σ vs)[j]? = if j ∈ vs then (σ[j]?).map (fun _ => none) else σ[j]?
  | [], j => by simp [L2.wipe]
  | v :: vs, j => by
    unfold L2.wipe
    rw [List.getElem?_set, wipe_get σ vs j, L2.wipe_length]
    by_cases h : v = j
    · subst h
      by_cases hl : v < σ.length
      · simp [hl]
      · simp [hl]
    · have h' : ¬ j = v := fun z => h z.symm
      simp [h, h']
theorem wipe_set {σ : L2.St} {vs : List Nat} {i : Nat} {x : Option V} (h : i ∈ vs) : L2.wipe (σ.set i x) vs = L2.wipe σ vs := by
  refine List.ext_getElem? fun j => ?_
  rw [wipe_get, wipe_get]
  by_cases hj : j ∈ vs
  · rw [if_pos hj, if_pos hj, List.getElem?_set]
    by_cases e : i = j
    · subst e
      rw [if_pos rfl]
      split
      · rename_i hl
        rw [List.getElem?_eq_getElem hl]
        rfl
      · rename_i hl
        rw [List.getElem?_eq_none (by omega)]
    · rw [if_neg e]
  · rw [if_neg hj, if_neg hj, List.getElem?_set, if_neg (fun z => hj (by rw [← z]; exact h))]
theorem wipe_wipe (σ : L2.St) (vs : List Nat) : L2.wipe (L2.wipe σ vs) vs = L2.wipe σ vs := by
  refine List.ext_getElem? fun j => ?_
  rw [wipe_get, wipe_get]
  by_cases hj : j ∈ vs
  · rw [if_pos hj, if_pos hj]
    cases σ[j]? <;> rfl
  · rw [if_neg hj, if_neg hj]
structure PDG (X : Cx) (tg : Expr) (ix : List Nat) (t : DTG) : Prop where
  of : ∃ g, PG X tg g ∧ (∀ (H0 G0 G H : Hp) (σ : L2.St) (env : DE) (v : V) (d : D) (Q : DE → Prop) (R : L2.St → Hp → Prop), SR X.K H0 G0 G H σ env → Rep X.K G v d → t d env Q → (∀ σ' env', SR X.K H0 G0 G H σ' env' → Q env' → R σ' H) → g v σ H R) ∧
    ∀ vs, (∀ i ∈ ix, i ∈ vs) → GIn vs g
structure PDGs (X : Cx) (tgs : List Expr) (ix : List Nat) (t : DTGs) : Prop where
  of : ∃ g, PGs X tgs g ∧ (∀ (H0 G0 G H : Hp) (σ : L2.St) (env : DE) (vs : List V) (ds : List D) (Q : DE → Prop) (R : L2.St → Hp → Prop), SR X.K H0 G0 G H σ env → Reps X.K G vs ds → t ds env Q → (∀ σ' env', SR X.K H0 G0 G H σ' env' → Q env' → R σ' H) → g vs σ H R) ∧
    ∀ vs, (∀ i ∈ ix, i ∈ vs) → GIns vs g
def dgName (i : Nat) : DTG := fun d env Q => Q (env.set i (.val d))
theorem pdg_name {i : Nat} (h : PG X tg (gName i)) : PDG X tg [i] (dgName i) := ⟨_, h, fun H0 G0 G H σ env v d Q R S r q g => g _ _ (S.set r) q, fun vs hv v σ H R R' k h => k _ _ (wipe_set (hv i (by simp))) h⟩
def dgNil : DTGs := fun ds env Q => ds = [] ∧ Q env
def dgCons (t : DTG) (u : DTGs) : DTGs := fun ds env Q => ∃ d r, ds = d :: r ∧ t d env (fun env' => u r env' Q)
theorem pdgs_nil : PDGs X [] [] dgNil := ⟨_, pgs_nil, fun H0 G0 G H σ env vs ds Q R S r ⟨e1, q⟩ g => by
  subst e1
  have : vs = [] := List.length_eq_zero_iff.mp r.1
  exact ⟨this, g _ _ S q⟩, fun vs _ us σ H R R' k ⟨h1, h2⟩ => ⟨h1, k _ _ rfl h2⟩⟩
theorem pdgs_cons {g : DTG} {u : DTGs} {ix jx : List Nat} (h : PDG X e ix g) (hs : PDGs X es jx u) (ha : (assignEach (e :: es) X.env).map (fun x => x.2) = assign e X.env :: (assignEach es X.env).map (fun x => x.2) := by rfl) : PDGs X (e :: es) (ix ++ jx) (dgCons g u) := by
  obtain ⟨_, pg, lg, ig⟩ := h.of
  obtain ⟨_, ps, ls, is⟩ := hs.of
  refine ⟨_, pgs_cons pg ps ha, fun H0 G0 G H σ env vs ds Q R S r ⟨d, l, e1, q⟩ g => ?_, fun vs hv us σ H R R' k ⟨v, r, h1, h2⟩ => ⟨v, r, h1, ig vs (fun i hi => hv i (List.mem_append_left _ hi)) v σ H _ _ (fun σ' H' e1 h => is vs (fun i hi => hv i (List.mem_append_right _ hi)) r σ' H' _ _ (fun σ2 H2 e2 h' => k σ2 H2 (e2.trans e1) h') h) h2⟩⟩
  subst e1
  match vs, r with
  | [], r => exact absurd r.1 (by simp)
  | v :: vs, r =>
    refine ⟨v, vs, rfl, lg H0 G0 G H σ env v d _ _ S (r.2 0 v d rfl rfl) q fun σ' env' S' q' => ?_⟩
    exact ls H0 G0 G H σ' env' vs l _ _ S' ⟨by have := r.1; simp at this; exact this, fun i v d h1 h2 => r.2 (i + 1) v d (by simpa using h1) (by simpa using h2)⟩ q' g
def dgTup (n : Nat) (t : DTGs) : DTG := fun d env Q => ∃ l, d = .tup l ∧ l.length = n ∧ t l env Q
theorem pdg_tup {k n : Nat} {u : DTGs} {ix : List Nat} (hc : X.calm = true) (hs : PDGs X es ix u) (hl : (assignEach es X.env).length = n := by rfl) (hf : (assignEach es X.env).findIdx? (fun x => x.1) = none := by rfl) : PDG X (.Tuple es k pos) ix (dgTup n u) := by
  obtain ⟨_, ps, ls, is⟩ := hs.of
  refine ⟨_, pg_tup hc ps hl hf, fun H0 G0 G H σ env v d Q R S r ⟨l, e1, hn, q⟩ g => ?_, fun vs hv v σ H R R' k ⟨a, xs, h1, h2, h3, h4⟩ => ⟨a, xs, h1, h2, h3, is vs hv xs σ H R R' k h4⟩⟩
  subst e1
  obtain ⟨p, ws, rfl, h1, h2⟩ := r.tup_inv
  exact ⟨p, ws, rfl, sqT_same S.sub h1, by rw [h2.1]; exact hn, ls H0 G0 G H σ env ws l _ _ S h2 q g⟩
/-! ## comprehensions -/
def wipeD (env : DE) : List Nat → DE
  | [] => env
  | v :: vs => (wipeD env vs).set v .no
theorem SR.wipe {K : PySem.W.Frag} {H0 G0 G H : Hp} {σ : L2.St} {env : DE} (S : SR K H0 G0 G H σ env) : ∀ vs : List Nat, SR K H0 G0 G H (L2.wipe σ vs) (wipeD env vs)
  | [] => S
  | v :: vs => (SR.wipe S vs).unset
end
structure PDTs (X : Cx) (ifs : List Expr) (t : DTT) : Prop where
  of : ∃ tt, PTs X ifs tt ∧ LT X (fun _ _ _ _ => False) tt t
def dYes : DTT := fun _ Q _ => Q true
theorem pdts_nil {X : Cx} : PDTs X [] dYes := ⟨_, pts_nil, fun H0 G0 G H σ env Q ex R S L q g => g true H G (.refl S.sub) q⟩
theorem pdts_one {X : Cx} {c : Expr} {t : DTT} (h : PDT X (fun _ _ _ _ => False) c t) : PDTs X [c] t := let ⟨_, pa, la⟩ := h.of; ⟨_, pts_one pa, la⟩
/-- [elt for target in iter if ..]: R what holds of what the i-th turn gives -/
def dLc (ti : DTI) (g : DTG) (tt : DTT) (te : DT) (vs : List Nat) : DTN := fun env Q ex => ti env (fun items => items.length < sizeLine ∧ ∃ R : Nat → Option D → Prop, (∀ (i : Nat) x, items[i]? = some x → g x (wipeD env vs) fun env2 => tt env2 (fun b =>
  if b = true then te env2 (fun d => True → R i (some d)) (fun _ _ => False) else True → R i none) (fun _ _ => False)) ∧ ∀ zs : List (Option D), zs.length = items.length → (∀ (i : Nat) z, zs[i]? = some z → R i z) → Q (zs.filterMap id)) ex
abbrev WN : WX := fun _ _ _ _ => False
theorem filt_snoc {α : Type} (zs : List (Option α)) (o : Option α) : (zs ++ [o]).filterMap id = zs.filterMap id ++ o.toList := by
  rw [List.filterMap_append]
  cases o <;> rfl
theorem snoc_all {α : Type} {zs : List α} {o : α} {i : Nat} {R : Nat → α → Prop} (hl : zs.length = i) (h : ∀ (j : Nat) z, zs[j]? = some z → R j z) (ho : R i o) : ∀ (j : Nat) z, (zs ++ [o])[j]? = some z → R j z := fun j z hz => by
  by_cases hj : j < zs.length
  · rw [List.getElem?_append_left hj] at hz
    exact h j z hz
  · rw [List.getElem?_append_right (by omega)] at hz
    have : j - zs.length = 0 := by
      have := (List.getElem?_eq_some_iff.mp hz).1
      simp at this
      omega
    rw [this] at hz
    cases hz
    rw [show j = i by omega]
    exact ho
theorem lc_lift {X : Cx} {W : WX} {ti : TI} {di : DTI} {g : TG} {dg : DTG} {tt : TT} {dt : DTT} {te : TE} {de : DT} {vs : List Nat} {Xb : Cx} (eK : Xb.K = X.K) (hi : LI X W ti di)
    (hg : ∀ (H0 G0 G H : Hp) (σ : L2.St) (env : DE) (v : V) (d : D) (Q : DE → Prop) (R : L2.St → Hp → Prop), SR X.K H0 G0 G H σ env → Rep X.K G v d → dg d env Q → (∀ σ' env', SR X.K H0 G0 G H σ' env' → Q env' → R σ' H) → g v σ H R)
    (hw : GIn vs g)
    (ht : LT Xb WN tt dt) (he : LE Xb WN te de) : LN X W (tLc ti g tt te vs) (dLc di dg dt de vs) := fun H0 G0 G H σ env Q ex R S L q gg =>
  hi H0 G0 G H σ env _ ex _ S L q fun J H1 G1 items x1 j ⟨hs, RR, step, q1⟩ => by
    intro Da nD
    have nG : G1 Da = none := x1.sub.free nD
    -- the invariant
    refine ⟨fun i m Hc => m = items.length - i ∧ i ≤ items.length ∧ ∃ (Hb Gc : Hp) (vs' : List V) (zs : List (Option D)), Ext G1 H1 Gc Hb ∧ Hb Da = none ∧ Hc = upd Hb Da (.lst vs') ∧ zs.length = i ∧ (∀ (j : Nat) z, zs[j]? = some z → RR j z) ∧ Reps X.K Gc vs' (zs.filterMap id), ⟨items.length, by simp, Nat.zero_le _, H1, G1, [], [], .refl x1.sub, nD, rfl, rfl, fun _ _ z => by simp at z, by simpa using Reps.nil⟩, ?_⟩
    rintro i m Hc ⟨rfl, hi', Hb, Gc, vs', zs, xb, nb, rfl, hzl, hzR, rr⟩
    have nGc : Gc Da = none := xb.sub.free nb
    have sG : Same Gc (upd Hb Da (.lst vs')) := same_new' xb.sub nb
    by_cases hlt : i < items.length
    · refine .inr ⟨j.go i _ (xb.gg.trans sG) hlt, fun Hn => i + 1 ≤ items.length ∧ ∃ (Hb' Gc' : Hp) (vs2 : List V) (zs2 : List (Option D)), Ext G1 H1 Gc' Hb' ∧ Hb' Da = none ∧ Hn = upd Hb' Da (.lst vs2) ∧ zs2.length = i + 1 ∧ (∀ (j : Nat) z, zs2[j]? = some z → RR j z) ∧ Reps X.K Gc' vs2 (zs2.filterMap id), fun H' h' => ⟨items.length - (i + 1), by omega, rfl, h'⟩, fun x H' y => ?_⟩
      obtain ⟨G2, d, hd, x2, r2⟩ := j.yld i _ Gc x H' xb.gg sG hlt y
      have st := step i d hd
      -- from here the heap is H', where Da still holds vs'
      have SB : SR X.K H0 G0 Gc (upd Hb Da (.lst vs')) σ env := (((S.ex x1).ex xb).ex (Ext.hid xb.sub nb))
      have SC := (SB.ex x2).wipe vs
      refine hw x _ H' _ _ (fun σ2 H2 e r => ⟨e.trans (wipe_wipe σ vs), r⟩) (hg H0 G0 G2 H' _ _ x d _ _ SC r2 st fun σ2 env2 S2 q2 => ?_)
      have key : ∀ H3 G3, Ext G2 H' G3 H3 → ∃ Hb3, H3 = upd Hb3 Da (.lst vs') ∧ Ext G1 H1 G3 Hb3 ∧ Hb3 Da = none ∧ Same Gc G3 := fun H3 G3 x3 => by
        have x23 := x2.trans x3
        have eD : H3 Da = some (.lst vs') := x23.hh _ _ upd_same
        have g3D : G3 Da = none := by
          cases z : G3 Da with
          | none => rfl
          | some o =>
            have := x23.new Da (by rw [z]; simp) nGc
            rw [upd_same] at this
            cases this
        refine ⟨fun b => if b = Da then none else H3 b, ?_, ⟨fun b u e => ?_, xb.gg.trans x23.gg, fun b u e => ?_, fun b h1 h2 => ?_⟩, if_pos rfl, x23.gg⟩
        · funext b
          by_cases hb : b = Da
          · subst hb
            rw [eD, upd_same]
          · rw [upd_ne hb]
            exact (if_neg hb).symm
        · have hb : b ≠ Da := ne_of_none e nD
          show (if b = Da then none else H3 b) = some u
          rw [if_neg hb]
          refine x23.hh _ _ ?_
          rw [upd_ne hb]
          exact xb.hh _ _ e
        · have hb : b ≠ Da := ne_of_none e g3D
          show (if b = Da then none else H3 b) = some u
          rw [if_neg hb]
          exact x23.sub _ _ e
        · cases z : Gc b with
          | some o => exact xb.new b (by rw [z]; simp) h2
          | none =>
            have := x23.new b h1 z
            by_cases hb : b = Da
            · subst hb; exact nD
            · rw [upd_ne hb] at this
              exact xb.hh.free this
      refine ht H0 G0 G2 H' σ2 env2 _ (fun _ _ => False) _ (by rw [eK]; exact S2) (fun _ _ _ _ _ _ _ _ _ _ z => z.elim) q2 fun bb H3 G3 x3 q3 => ?_
      cases bb with
      | true =>
        simp only [if_true] at q3 ⊢
        refine he H0 G0 G3 H3 σ2 env2 _ (fun _ _ => False) _ (by rw [eK]; exact S2.ex x3) (fun _ _ _ _ _ _ _ _ _ _ z => z.elim) q3 fun w H4 G4 d4 x4 r4 q4 => ?_
        obtain ⟨Hb4, e4, xb4, n4, s4⟩ := key H4 G4 (x3.trans x4)
        have lt : vs'.length < sizeLine := by
          rw [rr.1]
          exact Nat.lt_of_le_of_lt (List.length_filterMap_le _ _) (by omega)
        refine ⟨vs', by rw [e4, upd_same], lt, by omega, Hb4, G4, vs' ++ [w], zs ++ [some d4], xb4, n4, ?_, by simp [hzl], snoc_all hzl hzR (q4 trivial), ?_⟩
        · rw [e4]
          funext b
          by_cases hb : b = Da
          · subst hb
            rw [upd_same, upd_same]
          · rw [upd_ne hb, upd_ne hb, upd_ne hb]
        · rw [filt_snoc]
          rw [eK] at r4
          exact (rr.same s4).app (.one r4)
      | false =>
        simp only [Bool.false_eq_true, if_false] at q3 ⊢
        obtain ⟨Hb3, e3, xb3, n3, s3⟩ := key H3 G3 x3
        refine ⟨by omega, Hb3, G3, vs', zs ++ [none], xb3, n3, e3, by simp [hzl], snoc_all hzl hzR (q3 trivial), ?_⟩
        rw [filt_snoc]
        simpa using rr.same s3
    · have e : i = items.length := by omega
      subst e
      refine .inl ⟨j.stop _ (xb.gg.trans sG), ?_⟩
      exact gg Da vs' _ Hb Gc _ (x1.trans xb) nb rfl rr (q1 zs (by omega) hzR)
end DL

namespace DL
open PySem PySem.Spec PyProof.Rows L2 LR
/-! ## the same in many contexts -/
section
variable {ι : Type} {Xf : ι → Cx} {X : Cx} {W : WX} {e : Expr} {tg : Expr} {ifs : List Expr}
theorem pd_all {t : DT} (hK : ∀ i, (Xf i).K = X.K) (h : ∀ i, PD (Xf i) W e t) : ∃ te, (∀ i, PE (Xf i) e te) ∧ LE X W te t := by
  refine ⟨fun σ H Q => ∀ i, (h i).of.choose σ H Q, fun i => ⟨fun pins s σ H Q I q => (h i).of.choose_spec.1.run pins s σ H Q I (q i)⟩, fun H0 G0 G H σ env Q ex R S L q g i => ?_⟩
  exact (h i).of.choose_spec.2 H0 G0 G H σ env Q ex R (by rw [hK]; exact S) (by rw [hK]; exact L) q (by rw [hK]; exact g)
theorem pdts_all {t : DTT} (hK : ∀ i, (Xf i).K = X.K) (h : ∀ i, PDTs (Xf i) ifs t) : ∃ te, (∀ i, PTs (Xf i) ifs te) ∧ LT X WN te t := by
  refine ⟨fun σ H Q => ∀ i, (h i).of.choose σ H Q, fun i => ⟨fun pins s σ H Q I q => (h i).of.choose_spec.1.run pins s σ H Q I (q i)⟩, fun H0 G0 G H σ env Q ex R S L q g i => ?_⟩
  exact (h i).of.choose_spec.2 H0 G0 G H σ env Q ex R (by rw [hK]; exact S) (by rw [hK]; exact L) q g
theorem pdg_all {t : DTG} {ix : List Nat} (hK : ∀ i, (Xf i).K = X.K) (h : ∀ i, PDG (Xf i) tg ix t) : ∃ g, (∀ i, PG (Xf i) tg g) ∧ (∀ (H0 G0 G H : Hp) (σ : L2.St) (env : DE) (v : V) (d : D) (Q : DE → Prop) (R : L2.St → Hp → Prop), SR X.K H0 G0 G H σ env → Rep X.K G v d → t d env Q →
    (∀ σ' env', SR X.K H0 G0 G H σ' env' → Q env' → R σ' H) → g v σ H R) ∧ ∀ vs, (∀ i ∈ ix, i ∈ vs) → GIn vs g := by
  refine ⟨fun v σ H R => ∀ i, (h i).of.choose v σ H R, fun i => ⟨fun pins s σ H v u Q I r q => (h i).of.choose_spec.1.run pins s σ H v u Q I r (q i)⟩, fun H0 G0 G H σ env v d Q R S r q g i => ?_, fun vs hv v σ H R R' k q i => (h i).of.choose_spec.2.2 vs hv v σ H R R' k (q i)⟩
  exact (h i).of.choose_spec.2.1 H0 G0 G H σ env v d Q R (by rw [hK]; exact S) (by rw [hK]; exact r) q (by rw [hK]; exact g)
end
section
variable {X : Cx} {W : WX} {a b c e tg : Expr} {es : List Expr} {ta tb tc : DT} {t : DTA} {pos p : Pos}
theorem pdn_lc {elt iter : Expr} {ifs : List Expr} {scope : Scope} {own : List (Str × Nat)} {di : DTI} {dg : DTG} {dt : DTT} {de : DT} {ix : List Nat} (hc : X.calm = true) (hN : X.N.Nodup) (hi : PDI X W tg iter di) (ok : BlkOk X.N X.env.scope scope own) (hx : ∀ i ∈ ix, i ∈ own.map (·.2))
    (hg : ∀ (s : Shared) (H : Hp) (C : Addr) (cl : List (Str × Addr)) (fp : List Addr), PDG (X.blk s H scope (compEnvC scope cl C X.env) fp) tg ix dg) (ht : ∀ (s : Shared) (H : Hp) (C : Addr) (cl : List (Str × Addr)) (fp : List Addr), PDTs (X.blk s H scope (compEnvC scope cl C X.env) fp) ifs dt)
    (he : ∀ (s : Shared) (H : Hp) (C : Addr) (cl : List (Str × Addr)) (fp : List Addr), PD (X.blk s H scope (compEnvC scope cl C X.env) fp) WN elt de) (hs : ∀ x, foldedSetIterable iter X.env x = pure x := by intro _; rfl) :
    PDN X W (.ListComp elt [⟨tg, iter, ifs, 0⟩] scope pos) (dLc di dg dt de (own.map (·.2))) := by
  obtain ⟨ti, pi, li⟩ := hi.of
  let Xf : (Shared × Hp × Addr × List (Str × Addr) × List Addr) → Cx := fun q => X.blk q.1 q.2.1 scope (compEnvC scope q.2.2.2.1 q.2.2.1 X.env) q.2.2.2.2
  obtain ⟨g, pg, lg, ig⟩ := pdg_all (Xf := Xf) (X := X) (fun _ => rfl) fun q => hg q.1 q.2.1 q.2.2.1 q.2.2.2.1 q.2.2.2.2
  obtain ⟨tt, pt, lt⟩ := pdts_all (Xf := Xf) (X := X) (fun _ => rfl) fun q => ht q.1 q.2.1 q.2.2.1 q.2.2.2.1 q.2.2.2.2
  obtain ⟨te, pe, le⟩ := pd_all (Xf := Xf) (X := X) (fun _ => rfl) fun q => he q.1 q.2.1 q.2.2.1 q.2.2.2.1 q.2.2.2.2
  exact ⟨_, pe_lc hc hN pi ok (fun s H C cl fp => pg (s, H, C, cl, fp)) (fun s H C cl fp => pt (s, H, C, cl, fp)) (fun s H C cl fp => pe (s, H, C, cl, fp)) hs, lc_lift rfl li lg (ig _ hx) lt le⟩
/-! ## statements -/
structure DEnds where
  nx : DE → Prop
  rt : D → Prop
  bk : DE → Prop := fun _ => False
  ct : DE → Prop := fun _ => False
  ex : Str → List (Str × D) → DE → Prop := fun _ _ _ => False
  /-- what is handed back and is nobody else's -/
  rf : D → Prop := fun _ => False
abbrev DTS := DEnds → DE → Prop
/-- what the machine wants behind a statement, and what is wanted of the data -/
structure Lk (K : PySem.W.Frag) (H0 G0 G : Hp) (W : WX) (B : Ends) (E : DEnds) : Prop where
  nx : ∀ σ' H' G' env', Same G G' → SR K H0 G0 G' H' σ' env' → E.nx env' → B.nx σ' H'
  bk : ∀ σ' H' G' env', Same G G' → SR K H0 G0 G' H' σ' env' → E.bk env' → B.bk σ' H'
  ct : ∀ σ' H' G' env', Same G G' → SR K H0 G0 G' H' σ' env' → E.ct env' → B.ct σ' H'
  rt : ∀ v H' G' d, Same G G' → Ext G0 H0 G' H' → Rep K G' v d → E.rt d → B.rt v H'
  ex : ∀ (σ' : L2.St) (H' G' : Hp) env' (d : Addr) (x : Str) (fv : List (Str × V)) (fs : List (Str × D)), Same G G' → SR K H0 G0 G' H' σ' env' → H' d = some (.xd fv) → RepF K G' fv fs → E.ex x fs env' → W (.ref (He.ga K x)) (some d) σ' H'
  rf : ∀ v H' G' d F, Same G G' → Ext G0 H0 G' H' → Ow K G' H' v d F → F.Nodup → (∀ a ∈ F, G' a = none ∧ H0 a = none) → E.rf d → B.rt v H'
theorem Lk.mono {K : PySem.W.Frag} {H0 G0 G G1 : Hp} {W : WX} {B : Ends} {E : DEnds} (h : Lk K H0 G0 G W B E) (s : Same G G1) : Lk K H0 G0 G1 W B E :=
  ⟨fun σ' H' G' env' s' => h.nx σ' H' G' env' (s.trans s'), fun σ' H' G' env' s' => h.bk σ' H' G' env' (s.trans s'), fun σ' H' G' env' s' => h.ct σ' H' G' env' (s.trans s'), fun v H' G' d s' => h.rt v H' G' d (s.trans s'), fun σ' H' G' env' d x fv fs s' => h.ex σ' H' G' env' d x fv fs (s.trans s'), fun v H' G' d F s' => h.rf v H' G' d F (s.trans s')⟩
theorem Lk.le {K : PySem.W.Frag} {H0 G0 G : Hp} {W : WX} {B : Ends} {E : DEnds} (h : Lk K H0 G0 G W B E) (σ : L2.St) (env : DE) : LkE K H0 G0 G W σ env (fun x fs => E.ex x fs env) := fun H' G' d x fv fs s S e r q => h.ex σ H' G' env d x fv fs s S e r q
def LS (X : Cx) (W : WX) (ts : TS) (t : DTS) : Prop := ∀ (H0 G0 G H : Hp) (σ : L2.St) (env : DE) (B : Ends) (E : DEnds), SR X.K H0 G0 G H σ env → Lk X.K H0 G0 G W B E → t E env → ts B σ H
structure PDS (X : Cx) (W : WX) (st : Stmt) (t : DTS) : Prop where
  of : ∃ ts, PS X st ts ∧ LS X W ts t
structure PDSs (X : Cx) (W : WX) (st : List Stmt) (t : DTS) : Prop where
  of : ∃ ts, PSs X st ts ∧ LS X W ts t
variable {st : Stmt} {rest : List Stmt} {t1 t2 : DTS}
def dNext : DTS := fun E env => E.nx env
def dSeq (t u : DTS) : DTS := fun E env => t { E with nx := fun env' => u E env' } env
theorem pdss_nil : PDSs X W [] dNext := ⟨_, pss_nil, fun H0 G0 G H σ env B E S L q => L.nx _ _ _ _ (.refl _) S q⟩
theorem pdss_one (h : PDS X W st t1) : PDSs X W [st] t1 := let ⟨_, p, l⟩ := h.of; ⟨_, pss_one p, l⟩
theorem pdss_cons (h : PDS X W st t1) (hr : PDSs X W rest t2) : PDSs X W (st :: rest) (dSeq t1 t2) := by
  obtain ⟨_, p, l⟩ := h.of
  obtain ⟨_, pr, lr⟩ := hr.of
  refine ⟨_, pss_cons p pr, fun H0 G0 G H σ env B E S L q => l H0 G0 G H σ env _ { E with nx := fun env' => t2 E env' } S ⟨fun σ' H' G' env' s' S' q' => ?_, L.bk, L.ct, L.rt, L.ex, L.rf⟩ q⟩
  exact lr H0 G0 G' H' σ' env' B E S' (L.mono s') q'
/-- a list of one's own is one no more -/
def dFrz (i : Nat) (t : DTS) : DTS := fun E env => ∃ l, env[i]? = some (.own l) ∧ t E (env.set i (.val (.lst l)))
theorem pdss_frz (i : Nat) (h : PDSs X W rest t1) : PDSs X W rest (dFrz i t1) := by
  obtain ⟨_, p, l⟩ := h.of
  refine ⟨_, p, fun H0 G0 G H σ env B E S L ⟨m, e, q⟩ => ?_⟩
  obtain ⟨G', s, S'⟩ := S.frz e
  exact l H0 G0 G' H σ _ B E S' (L.mono s) q
/-- a cut: what holds behind the first statement, said -/
def dCut (t u : DTS) : DTS := fun E env => ∃ M : DE → Prop, t { E with nx := fun e => True → M e } env ∧ ∀ env', M env' → u E env'
theorem pdss_cut (h : PDS X W st t1) (hr : PDSs X W rest t2) : PDSs X W (st :: rest) (dCut t1 t2) := by
  obtain ⟨_, p, l⟩ := h.of
  obtain ⟨_, pr, lr⟩ := hr.of
  refine ⟨_, pss_cons p pr, fun H0 G0 G H σ env B E S L ⟨M, q, k⟩ => l H0 G0 G H σ env _ { E with nx := fun e => True → M e } S ⟨fun σ' H' G' env' s' S' q' => ?_, L.bk, L.ct, L.rt, L.ex, L.rf⟩ q⟩
  exact lr H0 G0 G' H' σ' env' B E S' (L.mono s') (k env' (q' trivial))
def dRet (ta : DT) : DTS := fun E env => ta env E.rt (fun x fs => E.ex x fs env)
theorem pds_ret (h : PD X W e ta) : PDS X W (.Return (some e) pos) (dRet ta) := by
  obtain ⟨_, p, l⟩ := h.of
  exact ⟨_, ps_ret p, fun H0 G0 G H σ env B E S L q => l H0 G0 G H σ env _ _ _ S (L.le σ env) q fun v H' G' d x r q' => L.rt v H' G' d x.gg (S.all.trans x) r q'⟩
theorem pds_retN : PDS X W (.Return none pos) (fun E _ => E.rt .non) := ⟨_, ps_retN, fun H0 G0 G H σ env B E S L q => L.rt _ _ _ _ (.refl _) S.all .non q⟩
def dSet (i : Nat) (ta : DT) : DTS := fun E env => ta env (fun d => E.nx (env.set i (.val d))) (fun x fs => E.ex x fs env)
theorem pds_set {i : Nat} {x : Str} {pos' : Pos} (h1 : X.N.Nodup) (h2 : X.N[i]? = some x) (h3 : L2.Loc X.env.scope x) (h : PD X W e ta) (h5 : swapsWith e (some (.Name x pos')) pos.line X.env = pure false := by rfl)
    (h6 : X.fn x = true ∨ X.env.scope.names.lookup x = some .local := by first | exact Or.inl rfl | exact Or.inr rfl) : PDS X W (.Assign [.Name x pos'] e pos) (dSet i ta) := by
  obtain ⟨_, p, l⟩ := h.of
  exact ⟨_, ps_set h1 h2 h3 p h5 h6, fun H0 G0 G H σ env B E S L q => l H0 G0 G H σ env _ _ _ S (L.le σ env) q fun v H' G' d x r q' => L.nx _ _ _ _ x.gg ((S.ex x).set r) q'⟩
def dSetN (i : Nat) (tn : DTN) : DTS := fun E env => tn env (fun l => E.nx (env.set i (.own l))) (fun x fs => E.ex x fs env)
theorem pds_setN {i : Nat} {x : Str} {pos' : Pos} {tn : DTN} (h1 : X.N.Nodup) (h2 : X.N[i]? = some x) (h3 : L2.Loc X.env.scope x) (h : PDN X W e tn) (h5 : swapsWith e (some (.Name x pos')) pos.line X.env = pure false := by rfl)
    (h6 : X.fn x = true ∨ X.env.scope.names.lookup x = some .local := by first | exact Or.inl rfl | exact Or.inr rfl) : PDS X W (.Assign [.Name x pos'] e pos) (dSetN i tn) := by
  obtain ⟨_, p, l⟩ := h.of
  refine ⟨_, ps_set h1 h2 h3 p h5 h6, fun H0 G0 G H σ env B E S L q => l H0 G0 G H σ env _ _ _ S (L.le σ env) q fun p vs H' H1 G' l x n e r q' => ?_⟩
  subst e
  exact L.nx _ _ _ _ x.gg ((S.ex x).setOwn n r) q'
/-- y = [.. for ..] (the comprehension on the right) -/
theorem pds_asgN {i : Nat} {tn : DTN} {te : TE} (hp : PS X st (tAsg te (gName i))) (hl : LN X W te tn) : PDS X W st (dSetN i tn) := by
  refine ⟨_, hp, fun H0 G0 G H σ env B E S L q => hl H0 G0 G H σ env _ _ _ S (L.le σ env) q fun p vs H' H1 G' l x n e r q' => ?_⟩
  subst e
  exact L.nx _ _ _ _ x.gg ((S.ex x).setOwn n r) q'
def dAsg (ta : DT) (g : DTG) : DTS := fun E env => ta env (fun d => g d env E.nx) (fun x fs => E.ex x fs env)
theorem pds_asg {g : DTG} {ix : List Nat} (h : PD X W e ta) (hg : PDG X tg ix g) (h1 : swapsWithSole [tg] e pos.line X.env = pure false := by rfl) (h2 : swappedStores [tg] e X.env = pure none := by rfl)
    (h3 : (assignEach [tg] X.env).map (fun x => x.2) = [assign tg X.env] := by rfl) : PDS X W (.Assign [tg] e pos) (dAsg ta g) := by
  obtain ⟨_, p, l⟩ := h.of
  obtain ⟨_, pg, lg, _⟩ := hg.of
  exact ⟨_, ps_asg p pg h1 h2 h3, fun H0 G0 G H σ env B E S L q => l H0 G0 G H σ env _ _ _ S (L.le σ env) q fun v H' G' d x r q' => lg H0 G0 G' H' σ env v d _ _ (S.ex x) r q' fun σ' env' S' q2 => L.nx _ _ _ _ x.gg S' q2⟩
def dPar (i j : Nat) (ta tb : DT) : DTS := fun E env => ta env (fun x => tb env (fun y => E.nx ((env.set i (.val x)).set j (.val y))) (fun x fs => E.ex x fs env)) (fun x fs => E.ex x fs env)
theorem pds_par {i j : Nat} {x y : Str} {px py pt pt2 : Pos} {kt k2 : Nat} (h0 : X.calm = true) (h1 : X.N.Nodup) (h2 : X.N[i]? = some x) (h3 : X.N[j]? = some y) (h4 : i ≠ j) (h5 : X.env.scope.names.lookup x = some .local) (h6 : X.env.scope.names.lookup y = some .local)
    (ha : PD X W a ta) (hb : PD X W b tb) (hsw : swappedStores [.Tuple [.Name x px, .Name y py] kt pt] (.Tuple [a, b] k2 pt2) X.env = pure (some [x, y]))
    (h7 : swapsWithSole [.Tuple [.Name x px, .Name y py] kt pt] (.Tuple [a, b] k2 pt2) pos.line X.env = pure false := by rfl)
    (hs : starEach [a, b] X.env = (false, eval a X.env) :: starEach [b] X.env := by rfl) (hs2 : starEach [b] X.env = (false, eval b X.env) :: starEach [] X.env := by rfl) :
    PDS X W (.Assign [.Tuple [.Name x px, .Name y py] kt pt] (.Tuple [a, b] k2 pt2) pos) (dPar i j ta tb) := by
  obtain ⟨_, pa, la⟩ := ha.of
  obtain ⟨_, pb, lb⟩ := hb.of
  refine ⟨_, ps_par h0 h1 h2 h3 h4 h5 h6 (pa_cons pa (pa_cons pb pa_nil hs2) hs) hsw h7, fun H0 G0 G H σ env B E S L q => la H0 G0 G H σ env _ _ _ S (L.le σ env) q fun v H1 G1 d x1 r1 q1 => ?_⟩
  refine lb H0 G0 G1 H1 σ env _ _ _ (S.ex x1) ((L.mono x1.gg).le σ env) q1 fun u H2 G2 d2 x2 r2 q2 => ?_
  have S2 := (S.ex x1).ex x2
  exact ⟨v, u, rfl, L.nx _ _ _ _ (x1.gg.trans x2.gg) ((S2.set (r1.same x2.gg)).set r2) q2⟩
def dAug (i : Nat) (f : Int → Int → Int) (ta : DT) : DTS := fun E env => ∃ n, env[i]? = some (.val (.int n)) ∧ ta env (fun d => ∃ m, d = .int m ∧ E.nx (env.set i (.val (.int (f n m))))) (fun x fs => E.ex x fs env)
theorem pds_aug {i : Nat} {x : Str} {op : Operator} {f : Int → Int → Int} {pos' : Pos} (h1 : X.N.Nodup) (h2 : X.N[i]? = some x) (h3 : L2.Loc X.env.scope x) (h : PD X W e ta) (ho : PIp X op (ipI f))
    (h6 : X.fn x = true ∨ X.env.scope.names.lookup x = some .local := by first | exact Or.inl rfl | exact Or.inr rfl) : PDS X W (.AugAssign (.Name x pos') op e pos) (dAug i f ta) := by
  obtain ⟨_, p, l⟩ := h.of
  refine ⟨_, ps_aug h1 h2 h3 p ho h6, fun H0 G0 G H σ env B E S L ⟨n, en, q⟩ => ?_⟩
  obtain ⟨v, ev, rv⟩ := S.val i _ en
  refine ⟨v, ev, l H0 G0 G H σ env _ _ _ S (L.le σ env) q fun u H' G' d x r ⟨m, em, q'⟩ => ?_⟩
  subst em
  exact ⟨n, m, rv.int_inv, r.int_inv, L.nx _ _ _ _ x.gg ((S.ex x).set (.int _)) q'⟩
def dDrop (ta : DT) : DTS := fun E env => ta env (fun _ => E.nx env) (fun x fs => E.ex x fs env)
theorem pds_expr (h : PD X W e ta) (h5 : swapsWith e none pos.line X.env = pure false := by rfl) : PDS X W (.Expr e pos) (dDrop ta) := by
  obtain ⟨_, p, l⟩ := h.of
  exact ⟨_, ps_expr p h5, fun H0 G0 G H σ env B E S L q => l H0 G0 G H σ env _ _ _ S (L.le σ env) q fun v H' G' d x r q' => L.nx _ _ _ _ x.gg (S.ex x) q'⟩
def dIfS (t : DTT) (t1 t2 : DTS) : DTS := fun E env => t env (fun k => if k = true then t1 E env else t2 E env) (fun x fs => E.ex x fs env)
theorem pds_if {A B : List Stmt} {t : DTT} (hc : PDT X W c t) (h1 : PDSs X W A t1) (h2 : PDSs X W B t2) : PDS X W (.If c A B pos) (dIfS t t1 t2) := by
  obtain ⟨_, pc, lc⟩ := hc.of
  obtain ⟨_, p1, l1⟩ := h1.of
  obtain ⟨_, p2, l2⟩ := h2.of
  refine ⟨_, ps_if pc p1 p2, fun H0 G0 G H σ env B E S L q => lc H0 G0 G H σ env _ _ _ S (L.le σ env) q fun k H1 G1 x1 q1 => ?_⟩
  cases k with
  | true => exact l1 H0 G0 G1 H1 σ env B E (S.ex x1) (L.mono x1.gg) q1
  | false => exact l2 H0 G0 G1 H1 σ env B E (S.ex x1) (L.mono x1.gg) q1
theorem pds_pass : PDS X W (.Pass pos) dNext := ⟨_, ps_pass, fun H0 G0 G H σ env B E S L q => L.nx _ _ _ _ (.refl _) S q⟩
theorem pds_break : PDS X W (.Break pos) (fun E env => E.bk env) := ⟨_, ps_break, fun H0 G0 G H σ env B E S L q => L.bk _ _ _ _ (.refl _) S q⟩
theorem pds_cont : PDS X W (.Continue pos) (fun E env => E.ct env) := ⟨_, ps_continue, fun H0 G0 G H σ env B E S L q => L.ct _ _ _ _ (.refl _) S q⟩
theorem pds_never : PDS X W st (fun _ _ => False) := ⟨_, ps_never, fun H0 G0 G H σ env B E S L q => q⟩
theorem pdss_never : PDSs X W rest (fun _ _ => False) := ⟨_, pss_never, fun H0 G0 G H σ env B E S L q => q⟩
/-- for: what holds ahead of each turn -/
def dFor (ti : DTI) (g : DTG) (tb : DTS) : DTS := fun E env => ti env (fun items => ∃ Inv : Nat → DE → Prop, (True → Inv 0 env) ∧ (∀ (i : Nat) x env', items[i]? = some x → Inv i env' → g x env' fun env2 => tb { E with nx := fun e => True → Inv (i + 1) e, ct := fun e => True → Inv (i + 1) e, bk := E.nx } env2) ∧
  ∀ env', Inv items.length env' → E.nx env') (fun x fs => E.ex x fs env)
theorem pds_for {iter : Expr} {body : List Stmt} {di : DTI} {g : DTG} {ix : List Nat} {tb : DTS} (hp : PassesOwn (model X.prog X.w) X.A X.env X.xe) (hc : X.calm = true) (hi : PDI X W tg iter di) (hg : PDG X tg ix g) (hb : PDSs X W body tb)
    (hs : ∀ x, foldedSetIterable iter X.env x = pure x := by intro _; rfl) : PDS X W (.For tg iter body [] pos) (dFor di g tb) := by
  obtain ⟨_, pi, li⟩ := hi.of
  obtain ⟨_, pg, lg, _⟩ := hg.of
  obtain ⟨_, pb, lb⟩ := hb.of
  refine ⟨_, ps_for hp hc pi pg pb hs, fun H0 G0 G H σ env B E S L q => li H0 G0 G H σ env _ _ _ S (L.le σ env) q fun J H1 G1 items x1 j ⟨Iv, i0, step, done⟩ => ?_⟩
  refine ⟨fun i m σ' H' => m = items.length - i ∧ i ≤ items.length ∧ ∃ G' env', Same G1 G' ∧ SR X.K H0 G0 G' H' σ' env' ∧ Iv i env', ⟨items.length, by simp, Nat.zero_le _, G1, env, .refl _, S.ex x1, i0 trivial⟩, ?_⟩
  rintro i m σ' H' ⟨rfl, hi', G', env', sg, S', iv⟩
  by_cases hlt : i < items.length
  · refine .inr ⟨j.go i _ (sg.trans S'.sub) hlt, fun σ2 H2 => ∃ G2 env2, Same G1 G2 ∧ SR X.K H0 G0 G2 H2 σ2 env2 ∧ Iv (i + 1) env2, fun σ2 H2 h2 => ⟨items.length - (i + 1), by omega, rfl, hlt, h2⟩, fun x H2 y => ?_⟩
    obtain ⟨G2, d, hd, x2, r2⟩ := j.yld i _ G' x H2 sg S'.sub hlt y
    refine lg H0 G0 G2 H2 σ' env' x d _ _ (S'.ex x2) r2 (step i d env' hd iv) fun σ3 env3 S3 q3 => ?_
    have s2 : Same G1 G2 := sg.trans x2.gg
    have L2' := L.mono (x1.gg.trans s2)
    exact lb H0 G0 G2 H2 σ3 env3 _ { E with nx := fun e => True → Iv (i + 1) e, ct := fun e => True → Iv (i + 1) e, bk := E.nx } S3 ⟨fun σ4 H4 G4 env4 s4 S4 q4 => ⟨G4, env4, s2.trans s4, S4, q4 trivial⟩, fun σ4 H4 G4 env4 s4 S4 q4 => L2'.nx _ _ _ _ s4 S4 q4, fun σ4 H4 G4 env4 s4 S4 q4 => ⟨G4, env4, s2.trans s4, S4, q4 trivial⟩, L2'.rt, L2'.ex, L2'.rf⟩ q3
  · have e : i = items.length := by omega
    subst e
    exact .inl ⟨j.stop _ (sg.trans S'.sub), L.nx _ _ _ _ (x1.gg.trans sg) S' (done env' iv)⟩
/-- while: what holds ahead of each turn, with a measure -/
def dWhile (t : DTT) (tb : DTS) : DTS := fun E env => ∃ Inv : Nat → DE → Prop, (True → ∃ m, Inv m env) ∧ ∀ m env', Inv m env' → t env' (fun k => if k = true then tb { E with nx := fun e2 => True → ∃ m', m' < m ∧ Inv m' e2, ct := fun e2 => True → ∃ m', m' < m ∧ Inv m' e2, bk := E.nx } env' else E.nx env') (fun x fs => E.ex x fs env')
theorem pds_while {body : List Stmt} {t : DTT} {tb : DTS} (hp : PassesOwn (model X.prog X.w) X.A X.env X.xe) (hc : PDT X W c t) (hb : PDSs X W body tb) : PDS X W (.While c body [] pos) (dWhile t tb) := by
  obtain ⟨_, pc, lc⟩ := hc.of
  obtain ⟨_, pb, lb⟩ := hb.of
  refine ⟨_, ps_while hp pc pb, fun H0 G0 G H σ env B E S L ⟨Iv, i00, step⟩ => ?_⟩
  obtain ⟨m0, i0⟩ := i00 trivial
  refine ⟨fun m σ' H' => ∃ G' env', Same G G' ∧ SR X.K H0 G0 G' H' σ' env' ∧ Iv m env', ⟨m0, G, env, .refl _, S, i0⟩, ?_⟩
  rintro m σ' H' ⟨G', env', sg, S', iv⟩
  refine lc H0 G0 G' H' σ' env' _ _ _ S' ((L.mono sg).le σ' env') (step m env' iv) fun k H1 G1 x1 q1 => ?_
  have s1 := sg.trans x1.gg
  have L1 := L.mono s1
  cases k with
  | true =>
    simp only [if_true] at q1 ⊢
    refine ⟨fun σ2 H2 => ∃ m', m' < m ∧ ∃ G2 env2, Same G G2 ∧ SR X.K H0 G0 G2 H2 σ2 env2 ∧ Iv m' env2, fun σ2 H2 h => h, ?_⟩
    exact lb H0 G0 G1 H1 σ' env' _ { E with nx := fun e2 => True → ∃ m', m' < m ∧ Iv m' e2, ct := fun e2 => True → ∃ m', m' < m ∧ Iv m' e2, bk := E.nx } (S'.ex x1) ⟨fun σ4 H4 G4 env4 s4 S4 q => let ⟨m', hm, q4⟩ := q trivial; ⟨m', hm, G4, env4, s1.trans s4, S4, q4⟩, fun σ4 H4 G4 env4 s4 S4 q4 => L1.nx _ _ _ _ s4 S4 q4, fun σ4 H4 G4 env4 s4 S4 q => let ⟨m', hm, q4⟩ := q trivial; ⟨m', hm, G4, env4, s1.trans s4, S4, q4⟩, L1.rt, L1.ex, L1.rf⟩ q1
  | false => exact L1.nx _ _ _ _ (.refl _) (S'.ex x1) q1
/-! lists of one's own -/
def dApp (i : Nat) (ta : DT) : DTS := fun E env => ∃ l, env[i]? = some (.own l) ∧ ta env (fun d => l.length < sizeLine ∧ E.nx (env.set i (.own (l ++ [d])))) (fun x fs => E.ex x fs env)
theorem pds_app {i : Nat} {x : Str} {p1 p2 p3 : Pos} {te : TE → TE} (hv : ∀ {sa : TE}, PE X e sa → PE X c (tBM X.K "list" rAppend (tVar i) (tCons sa tNil))) (h : PD X W e ta) (h5 : swapsWith c none pos.line X.env = pure false := by rfl) : PDS X W (.Expr c pos) (dApp i ta) := by
  obtain ⟨_, p, l⟩ := h.of
  refine ⟨_, ps_expr (hv p) h5, fun H0 G0 G H σ env B E S L ⟨m, em, q⟩ => ?_⟩
  obtain ⟨pp, vs, e3, hp, gp, op, rr⟩ := S.own i m em
  refine ⟨_, e3, .inl ⟨rfl, _, SqL.of hp⟩, l H0 G0 G H σ env _ _ _ S (L.le σ env) q fun v H' G' d x r ⟨hl, q'⟩ => ?_⟩
  have S' := S.ex x
  refine ⟨pp, vs, v, rfl, rfl, x.hh _ _ hp, by rw [rr.1]; exact hl, ?_⟩
  exact L.nx _ _ _ _ x.gg (S'.mutL em e3 ((rr.same x.gg).app (.one r))) q'
def dIxO (i : Nat) (tb : DT) : DT := fun env Q ex => ∃ l, env[i]? = some (.own l) ∧ tb env (fun d => ∃ k x, d = .int k ∧ atI l k = some x ∧ Q x) ex
theorem atI_len {α β : Type} {l : List α} {m : List β} (h : l.length = m.length) {k : Int} {x : α} (e : atI l k = some x) : ∃ j, l[j]? = some x ∧ ixN m.length k = some j ∧ ixN l.length k = some j := by
  unfold atI at e
  cases q : ixN l.length k with
  | none =>
    rw [q] at e
    cases e
  | some j =>
    rw [q] at e
    exact ⟨j, e, by rw [← h]; exact q, rfl⟩
theorem Reps.ix {K : PySem.W.Frag} {G : Hp} {vs : List V} {l : List D} (r : Reps K G vs l) {k : Int} {x : D} (e : atI l k = some x) : ∃ v, atI vs k = some v ∧ Rep K G v x := by
  obtain ⟨j, h1, h2, _⟩ := atI_len (m := vs) r.1.symm e
  obtain ⟨v, hv, rv⟩ := r.at h1
  exact ⟨v, by unfold atI; rw [h2]; exact hv, rv⟩
theorem pd_ixO {i : Nat} (ho : IxR X (rIxL X.K)) (ha : PE X a (tVar i)) (hb : PD X W b tb) (hp : PlainIx b) : PD X W (.Subscript a b pos) (dIxO i tb) := by
  obtain ⟨_, pb, lb⟩ := hb.of
  refine ⟨_, pe_ix ho ha pb hp, fun H0 G0 G H σ env Q ex R S L ⟨m, em, q⟩ g => ?_⟩
  obtain ⟨pp, vs, e3, hp, gp, op, rr⟩ := S.own i m em
  refine ⟨_, e3, lb H0 G0 G H σ env _ ex _ S L q fun v H1 G1 d x1 r1 ⟨k, x, e1, e2, q1⟩ => ?_⟩
  subst e1
  obtain ⟨w, hw, rw⟩ := rr.ix e2
  exact ⟨pp, vs, k, w, rfl, r1.int_inv, SqL.of (x1.hh _ _ hp), hw, g w H1 G1 x x1 (rw.same x1.gg) q1⟩
def dLenO (i : Nat) : DT := fun env Q _ => ∃ l, env[i]? = some (.own l) ∧ Q (.int l.length)
theorem pd_lenO {i : Nat} (mk : ∀ {sa : TE}, PE X a sa → PE X c (tCB (fun xs H Q => ∃ x n, xs = [x] ∧ LenV X.K x H n ∧ Q (.int n) H) (tCons sa tNil))) (ha : PE X a (tVar i)) : PD X W c (dLenO i) := by
  refine ⟨_, mk ha, fun H0 G0 G H σ env Q ex R S L ⟨m, em, q⟩ g => ?_⟩
  obtain ⟨pp, vs, e3, hp, gp, op, rr⟩ := S.own i m em
  exact ⟨_, e3, _, m.length, rfl, .inl ⟨vs, SqL.of hp, rr.1.symm⟩, g _ _ _ _ (.refl S.sub) (.int _) q⟩
/-- xs[k] = e, xs the def's own -/
def dPut (i : Nat) (ta tb : DT) : DTS := fun E env => ta env (fun d => ∃ l, env[i]? = some (.own l) ∧ tb env (fun y => ∃ k j, y = .int k ∧ ixN l.length k = some j ∧ E.nx (env.set i (.own (l.set j d)))) (fun x fs => E.ex x fs env)) (fun x fs => E.ex x fs env)
theorem pds_put {i : Nat} {kk : Pos} (hv : ∀ {sb : TE}, PE X b sb → PG X tg (gSub (tVar i) sb rSetL)) (ha : PD X W e ta) (hb : PD X W b tb) (h1 : swapsWithSole [tg] e pos.line X.env = pure false := by rfl) (h2 : swappedStores [tg] e X.env = pure none := by rfl)
    (h3 : (assignEach [tg] X.env).map (fun x => x.2) = [assign tg X.env] := by rfl) : PDS X W (.Assign [tg] e pos) (dPut i ta tb) := by
  obtain ⟨_, pa, la⟩ := ha.of
  obtain ⟨_, pb, lb⟩ := hb.of
  refine ⟨_, ps_asg pa (hv pb) h1 h2 h3, fun H0 G0 G H σ env B E S L q => la H0 G0 G H σ env _ _ _ S (L.le σ env) q fun v H1 G1 d x1 r1 ⟨m, em, q1⟩ => ?_⟩
  have S1 := S.ex x1
  obtain ⟨pp, vs, e3, hp, gp, op, rr⟩ := S1.own i m em
  refine ⟨_, e3, lb H0 G0 G1 H1 σ env _ _ _ S1 ((L.mono x1.gg).le σ env) q1 fun u H2 G2 y x2 r2 ⟨k, j, ey, hj, q2⟩ => ?_⟩
  subst ey
  refine ⟨pp, vs, k, j, rfl, r2.int_inv, x2.hh _ _ hp, by rw [rr.1]; exact hj, ?_⟩
  exact L.nx _ _ _ _ (x1.gg.trans x2.gg) ((S1.ex x2).mutL em e3 ((rr.same x2.gg).set (r1.same x2.gg) j)) q2
/-- y = [.. for ..] -/
theorem pds_asgLc {i : Nat} {y : Str} {py spos : Pos} {elt iter : Expr} {ifs : List Expr} {scope : Scope} {own : List (Str × Nat)} {di : DTI} {dg : DTG} {dt : DTT} {de : DT} {ix : List Nat} (hc : X.calm = true) (hN : X.N.Nodup) (hy : X.N[i]? = some y) (hyl : X.env.scope.names.lookup y = some .local)
    (hsw : swapsWith (.ListComp elt [⟨tg, iter, ifs, 0⟩] scope pos) (some (.Name y py)) spos.line X.env = pure true) (hi : PDI X W tg iter di) (ok : BlkOk X.N X.env.scope scope own) (hx : ∀ i ∈ ix, i ∈ own.map (·.2))
    (hg : ∀ (s : Shared) (H : Hp) (C : Addr) (cl : List (Str × Addr)) (fp : List Addr), PDG (X.blk s H scope (compEnvC scope cl C X.env) fp) tg ix dg) (ht : ∀ (s : Shared) (H : Hp) (C : Addr) (cl : List (Str × Addr)) (fp : List Addr), PDTs (X.blk s H scope (compEnvC scope cl C X.env) fp) ifs dt)
    (he : ∀ (s : Shared) (H : Hp) (C : Addr) (cl : List (Str × Addr)) (fp : List Addr), PD (X.blk s H scope (compEnvC scope cl C X.env) fp) WN elt de) (hs : ∀ x, foldedSetIterable iter X.env x = pure x := by intro _; rfl) :
    PDS X W (.Assign [.Name y py] (.ListComp elt [⟨tg, iter, ifs, 0⟩] scope pos) spos) (dSetN i (dLc di dg dt de (own.map (·.2)))) ∧ PDS X W (.Assign [.Name y py] (.ListComp elt [⟨tg, iter, ifs, 0⟩] scope pos) spos) (dSet i (dNew (dLc di dg dt de (own.map (·.2))))) := by
  obtain ⟨ti, pi, li⟩ := hi.of
  let Xf : (Shared × Hp × Addr × List (Str × Addr) × List Addr) → Cx := fun q => X.blk q.1 q.2.1 scope (compEnvC scope q.2.2.2.1 q.2.2.1 X.env) q.2.2.2.2
  obtain ⟨g, pg, lg, ig⟩ := pdg_all (Xf := Xf) (X := X) (fun _ => rfl) fun q => hg q.1 q.2.1 q.2.2.1 q.2.2.2.1 q.2.2.2.2
  obtain ⟨tt, pt, lt⟩ := pdts_all (Xf := Xf) (X := X) (fun _ => rfl) fun q => ht q.1 q.2.1 q.2.2.1 q.2.2.2.1 q.2.2.2.2
  obtain ⟨te, pe, le⟩ := pd_all (Xf := Xf) (X := X) (fun _ => rfl) fun q => he q.1 q.2.1 q.2.2.1 q.2.2.2.1 q.2.2.2.2
  have P := ps_setLc (py := py) (spos := spos) hc hN hy hyl hsw pi ok (fun s H C cl fp => pg (s, H, C, cl, fp)) (fun s H C cl fp => pt (s, H, C, cl, fp)) (fun s H C cl fp => pe (s, H, C, cl, fp)) hs
  have l := lc_lift (W := W) rfl li lg (ig _ hx) lt le
  refine ⟨pds_asgN P l, ⟨_, P, fun H0 G0 G H σ env B E S L q => l.le H0 G0 G H σ env _ _ _ S (L.le σ env) q fun v H' G' d x r q' => L.nx _ _ _ _ x.gg ((S.ex x).set r) q'⟩⟩
theorem pds_lcN {i : Nat} {y : Str} {py spos : Pos} {elt iter : Expr} {ifs : List Expr} {scope : Scope} {own : List (Str × Nat)} {di : DTI} {dg : DTG} {dt : DTT} {de : DT} {ix : List Nat} (hc : X.calm = true) (hN : X.N.Nodup) (hy : X.N[i]? = some y) (hyl : X.env.scope.names.lookup y = some .local)
    (hsw : swapsWith (.ListComp elt [⟨tg, iter, ifs, 0⟩] scope pos) (some (.Name y py)) spos.line X.env = pure true) (hi : PDI X W tg iter di) (ok : BlkOk X.N X.env.scope scope own) (hx : ∀ i ∈ ix, i ∈ own.map (·.2))
    (hg : ∀ (s : Shared) (H : Hp) (C : Addr) (cl : List (Str × Addr)) (fp : List Addr), PDG (X.blk s H scope (compEnvC scope cl C X.env) fp) tg ix dg) (ht : ∀ (s : Shared) (H : Hp) (C : Addr) (cl : List (Str × Addr)) (fp : List Addr), PDTs (X.blk s H scope (compEnvC scope cl C X.env) fp) ifs dt)
    (he : ∀ (s : Shared) (H : Hp) (C : Addr) (cl : List (Str × Addr)) (fp : List Addr), PD (X.blk s H scope (compEnvC scope cl C X.env) fp) WN elt de) (hs : ∀ x, foldedSetIterable iter X.env x = pure x := by intro _; rfl) :
    PDS X W (.Assign [.Name y py] (.ListComp elt [⟨tg, iter, ifs, 0⟩] scope pos) spos) (dSetN i (dLc di dg dt de (own.map (·.2)))) := (pds_asgLc hc hN hy hyl hsw hi ok hx hg ht he hs).1
theorem pds_lcV {i : Nat} {y : Str} {py spos : Pos} {elt iter : Expr} {ifs : List Expr} {scope : Scope} {own : List (Str × Nat)} {di : DTI} {dg : DTG} {dt : DTT} {de : DT} {ix : List Nat} (hc : X.calm = true) (hN : X.N.Nodup) (hy : X.N[i]? = some y) (hyl : X.env.scope.names.lookup y = some .local)
    (hsw : swapsWith (.ListComp elt [⟨tg, iter, ifs, 0⟩] scope pos) (some (.Name y py)) spos.line X.env = pure true) (hi : PDI X W tg iter di) (ok : BlkOk X.N X.env.scope scope own) (hx : ∀ i ∈ ix, i ∈ own.map (·.2))
    (hg : ∀ (s : Shared) (H : Hp) (C : Addr) (cl : List (Str × Addr)) (fp : List Addr), PDG (X.blk s H scope (compEnvC scope cl C X.env) fp) tg ix dg) (ht : ∀ (s : Shared) (H : Hp) (C : Addr) (cl : List (Str × Addr)) (fp : List Addr), PDTs (X.blk s H scope (compEnvC scope cl C X.env) fp) ifs dt)
    (he : ∀ (s : Shared) (H : Hp) (C : Addr) (cl : List (Str × Addr)) (fp : List Addr), PD (X.blk s H scope (compEnvC scope cl C X.env) fp) WN elt de) (hs : ∀ x, foldedSetIterable iter X.env x = pure x := by intro _; rfl) :
    PDS X W (.Assign [.Name y py] (.ListComp elt [⟨tg, iter, ifs, 0⟩] scope pos) spos) (dSet i (dNew (dLc di dg dt de (own.map (·.2))))) := (pds_asgLc hc hN hy hyl hsw hi ok hx hg ht he hs).2
end
end DL

namespace DL
open PySem PySem.Spec PyProof.Rows L2 LR
/-! ## a def from its body -/
def start (n : Nat) (ds : List D) : DE := ds.map Sl.val ++ List.replicate (n - ds.length) .no
theorem sr_start {K : PySem.W.Frag} {G H : Hp} {N : List Str} {vs : List V} {ds : List D} (s : Same G H) (r : Reps K G vs ds) : SR K H G G H (L2.start N vs) (start N.length ds) := by
  refine ⟨fun _ => [], .refl _, s, .refl _, fun a h1 h2 => absurd h2 h1, by simp [L2.start, start, r.1], fun i t h => ?_, fun i j s t p _ h1 _ m1 => by simp at m1⟩
  · unfold start at h
    by_cases hi : i < ds.length
    · rw [List.getElem?_append_left (by simpa using hi), List.getElem?_map] at h
      obtain ⟨v, hv, rv⟩ := r.at (List.getElem?_eq_getElem hi)
      rw [List.getElem?_eq_getElem hi] at h
      cases h
      refine ⟨rfl, v, ?_, rv⟩
      show (vs.map some ++ _)[i]? = _
      rw [List.getElem?_append_left (by simp [r.1, hi]), List.getElem?_map, hv]
      rfl
    · rw [List.getElem?_append_right (by simp; omega), List.getElem?_replicate] at h
      split at h
      · cases h
        exact (rfl : ([] : List Addr) = [])
      · cases h
theorem Fn.of {P : Program} {w : World} {K : PySem.W.Frag} {mg : Str → Option Value} {base : Heap} {x qual : Str} {params : Arguments} {body : List Stmt} {scope : Scope} {f : Addr} {N ps : List Str} {k n : Nat} {Pm : Prm}
    (h : ∃ fd, FunD K x qual params body scope [] [] f fd) (S : FnScope N ps scope) (hn : ps.length = n)
    (hb : ∀ (kV doc pm : Value) (an : Option Addr) (cdv ct : Value) (us : List Value), us.length = ps.length → bindArgs (PySem.W.fnOf x qual params body scope .none kV doc pm an cdv ct) ⟨us, []⟩ = pure (ps.zip us))
    (len : ∀ ds Q ex, Pm ds Q ex → ds.length = n)
    (hbody : ∀ (fd : FuncData) (cdv : Value) (A : Around) (outer : List Env) (s : Shared) (H : Hp) (E : XK), Room k (A.deeper (envOfC qual scope s.heap.objs.size f cdv)) →
      ∃ t, PDSs (cxOf (L2.CX P w) P w K mg base N qual scope f cdv A outer s H E) (fun cls d _ H => E cls d H) body t ∧ ∀ ds Q ex, Pm ds Q ex → t { nx := fun _ => Q .non, rt := Q, ex := fun x fs _ => ex x fs } (start N.length ds)) :
    Nonempty (Fn P w K mg base f (k + 1) n Pm) := by
  suffices ok : Ok P w K mg base f (k + 1) ps (spD K n Pm) by
    obtain ⟨fd, F, b⟩ := ok
    exact ⟨⟨fd, ps, F, b, len⟩⟩
  refine Ok.of (P := P) (w := w) (mg := mg) (base := base) (k := k) (sp := spD K n Pm) h S hb (fun vs H Q E q => q.1.trans hn.symm) (fun fd cdv A outer s H vs Q E hr hs => ?_)
  · obtain ⟨t, pd, q⟩ := hbody fd cdv A outer s H E hr
    obtain ⟨ts, pts, l⟩ := pd.of
    obtain ⟨hv, G, ds, QD, ED, sG, rr, pm, got, out⟩ := hs
    refine ⟨ts, pts, l H G G H _ _ _ { nx := fun _ => QD .non, rt := QD, ex := fun x fs _ => ED x fs } (sr_start sG rr) ⟨fun σ' H' G' env' _ S' q' => ?_, fun σ' H' G' env' _ S' q' => q'.elim, fun σ' H' G' env' _ S' q' => q'.elim, fun v H' G' d _ x r q' => got v H' G' d x r q', fun σ' H' G' env' d x fv fs _ S' e r q' => out H' G' d x fv fs S'.all e r q', fun v H' G' d F _ x o nd k q' => q'.elim⟩ (q ds QD ED pm)⟩
    exact got _ _ _ _ S'.all .non q'
/-! ## an __init__ from its body -/
def startI (n : Nat) (p : Addr) (c : Nat) (ds : List D) : DE := .ob p c [] :: ds.map Sl.val ++ List.replicate (n - (ds.length + 1)) .no
theorem zip_of_map {α β : Type} : ∀ (l : List (α × β)), l = (l.map (·.1)).zip (l.map (·.2))
  | [] => rfl
  | (a, b) :: r => by
    show (a, b) :: r = (a, b) :: (r.map (·.1)).zip (r.map (·.2))
    rw [← zip_of_map r]
theorem sr_startI {K : PySem.W.Frag} {G H : Hp} {N : List Str} {vs : List V} {ds : List D} {p dx : Addr} {c : Nat} (s : Same G H) (hp : H p = some (.ins (He.ga K (cname c)) dx [])) (gp : G p = none) (r : Reps K G vs ds) :
    SR K (del H p) G G H (L2.start N (.ref p :: vs)) (startI N.length p c ds) := by
  have one : ∀ (i : Nat) (t : Sl), (startI N.length p c ds)[i]? = some t → (i = 0 ∧ t = .ob p c []) ∨ ((∃ d, t = .val d ∧ ∃ v, (L2.start N (.ref p :: vs))[i]? = some (some v) ∧ Rep K G v d) ∨ t = .no) := fun i t h => by
    cases i with
    | zero =>
      left
      unfold startI at h
      simp at h
      exact ⟨rfl, h.symm⟩
    | succ i =>
      right
      unfold startI at h
      rw [List.cons_append, List.getElem?_cons_succ] at h
      by_cases hi : i < ds.length
      · rw [List.getElem?_append_left (by simpa using hi), List.getElem?_map, List.getElem?_eq_getElem hi] at h
        cases h
        obtain ⟨v, hv, rv⟩ := r.at (List.getElem?_eq_getElem hi)
        refine .inl ⟨_, rfl, v, ?_, rv⟩
        show (some (V.ref p) :: vs.map some ++ _)[i + 1]? = _
        rw [List.cons_append, List.getElem?_cons_succ, List.getElem?_append_left (by simp [r.1, hi]), List.getElem?_map, hv]
        rfl
      · rw [List.getElem?_append_right (by simp; omega), List.getElem?_replicate] at h
        split at h
        · cases h
          exact .inr rfl
        · cases h
  refine ⟨fun i => if i = 0 then [p] else [], fun a o h => ?_, s, .refl _, fun a h1 h2 => absurd h2 h1, by simp [L2.start, startI, r.1], fun i t h => ?_, fun i j s t q ij h1 h2 m1 m2 => ?_⟩
  · by_cases ha : a = p
    · subst ha
      rw [del_same] at h
      cases h
    · rw [del_ne ha] at h
      exact h
  · by_cases i0 : i = 0
    · subst i0
      rcases one 0 t h with ⟨_, rfl⟩ | ⟨d, rfl, v, e, rv⟩ | rfl
      · exact ⟨dx, [], rfl, rfl, hp, gp, del_same, rfl, .nil⟩
      · unfold startI at h
        simp at h
      · unfold startI at h
        simp at h
    · rw [if_neg i0]
      rcases one i t h with ⟨rfl, rfl⟩ | ⟨d, rfl, v, e, rv⟩ | rfl
      · exact absurd rfl i0
      · exact ⟨rfl, v, e, rv⟩
      · exact (rfl : ([] : List Addr) = [])
  · have m1 : q ∈ if i = 0 then [p] else [] := m1
    have m2 : q ∈ if j = 0 then [p] else [] := m2
    by_cases i0 : i = 0
    · rw [if_neg (show ¬ j = 0 by omega)] at m2
      simp at m2
    · rw [if_neg i0] at m1
      simp at m1
/-- what an __init__'s body is to reach -/
def endI (p : Addr) (c : Nat) (Q : D → Prop) : DE → Prop := fun env => ∃ fs, env[0]? = some (.ob p c fs) ∧ fs.map (·.1) = shape c ∧ Q (.ins c (fs.map (·.2)))
theorem FnI.body {P : Program} {w : World} {K : PySem.W.Frag} {mg : Str → Option Value} {base : Heap} {qual : Str} {scope : Scope} {f : Addr} {N : List Str} {c n : Nat} {Pm : Prm} {cdv : Value} {A : Around} {outer : List Env} {s : Shared} {H : Hp} {E : XK} {body : List Stmt} {t : DTS} {vs : List V} {Q : VK}
    (pd : PDSs (cxOf (L2.CX P w) P w K mg base N qual scope f cdv A outer s H E) (fun cls d _ H => E cls d H) body t) (q : ∀ p ds Q ex, Pm ds Q ex → t { nx := endI p c Q, rt := fun _ => False, ex := fun x fs _ => ex x fs } (startI N.length p c ds)) (hs : spI K c n Pm vs H Q E) :
    ∃ ts, PSs (cxOf (L2.CX P w) P w K mg base N qual scope f cdv A outer s H E) body ts ∧ ts { nx := fun _ H' => Q .non H', rt := Q } (L2.start N vs) H := by
  obtain ⟨ts, pts, l⟩ := pd.of
  obtain ⟨p, dx, us, G, ds, QD, ED, rfl, hl, hp, sG, gp, rr, pm, made, out⟩ := hs
  have keep : ∀ {H' : Hp}, Same (del H p) H' → ∀ a o, H a = some o → a ≠ p → H' a = some o := fun h a o e ne => h a o ((del_ne ne).trans e)
  have new : ∀ {G' : Hp}, (∀ a, G' a ≠ none → G a = none → del H p a = none) → ∀ a, G' a ≠ none → G a = none → H a = none ∨ a = p := fun h a h1 h2 => by
    by_cases ha : a = p
    · exact .inr ha
    · have := h a h1 h2
      rw [del_ne ha] at this
      exact .inl this
  refine ⟨ts, pts, l (del H p) G G H _ _ _ { nx := endI p c QD, rt := fun _ => False, ex := fun x fs _ => ED x fs } (sr_startI sG hp gp rr) ⟨fun σ' H' G' env' _ S' q' => ?_, fun σ' H' G' env' _ S' q' => q'.elim, fun σ' H' G' env' _ S' q' => q'.elim, fun v H' G' d _ x r q' => q'.elim, fun σ' H' G' env' d x fv fs _ S' e r q' => ?_, fun v H' G' d F _ x o nd k q' => q'.elim⟩ (q p ds QD ED pm)⟩
  · obtain ⟨fs, e0, es, q2⟩ := q'
    obtain ⟨dx', fv, e1, hp', gp', _, rf⟩ := S'.obj 0 _ _ _ e0
    have gG : Same G' (upd G' p (.ins (He.ga K (cname c)) dx' fv)) := same_new gp'
    have hz : fv = (shape c).zip (fv.map (·.2)) := by
      have := zip_of_map fv
      rw [rf.1, es] at this
      exact this
    have rl : (fv.map (·.2)).length = (fs.map (·.2)).length := rf.2.1
    have ml : (shape c).length = (fv.map (·.2)).length := by rw [← es, rl]; simp
    refine made H' (upd G' p (.ins (He.ga K (cname c)) dx' fv)) _ (keep S'.same) (S'.g0.trans gG) (fun b u e => ?_) (fun a h1 h2 => ?_) (.ins (dx := dx') ?_ ml rl (rf.2.same gG).2) q2
    · by_cases hb : b = p
      · subst hb
        rw [upd_same] at e
        cases e
        exact hp'
      · rw [upd_ne hb] at e
        exact S'.sub b u e
    · by_cases ha : a = p
      · exact .inr ha
      · rw [upd_ne ha] at h1
        exact new S'.ext a h1 h2
    · rw [upd_same, ← hz]
  · exact out H' G' d x fv fs (keep S'.same) S'.g0 S'.sub (new S'.ext) e r q'
theorem spI_len {K : PySem.W.Frag} {c n : Nat} {Pm : Prm} {vs : List V} {H : Hp} {Q : VK} {E : XK} (h : spI K c n Pm vs H Q E) : vs.length = n + 1 := by
  obtain ⟨p, dx, us, G, ds, QD, ED, rfl, hl, _⟩ := h
  simp [hl]
/-- all parameters given -/
theorem FnI.of {P : Program} {w : World} {K : PySem.W.Frag} {mg : Str → Option Value} {base : Heap} {x qual : Str} {params : Arguments} {body : List Stmt} {scope : Scope} {f : Addr} {N ps : List Str} {k c n : Nat} {Pm : Prm}
    (h : ∃ fd, FunD K x qual params body scope [] [] f fd) (S : FnScope N ps scope) (hn : ps.length = n + 1)
    (hb : ∀ (kV doc pm : Value) (an : Option Addr) (cdv ct : Value) (us : List Value), us.length = ps.length → bindArgs (PySem.W.fnOf x qual params body scope .none kV doc pm an cdv ct) ⟨us, []⟩ = pure (ps.zip us))
    (len : ∀ ds Q ex, Pm ds Q ex → ds.length = n)
    (hbody : ∀ (fd : FuncData) (cdv : Value) (A : Around) (outer : List Env) (s : Shared) (H : Hp) (E : XK), Room k (A.deeper (envOfC qual scope s.heap.objs.size f cdv)) →
      ∃ t, PDSs (cxOf (L2.CX P w) P w K mg base N qual scope f cdv A outer s H E) (fun cls d _ H => E cls d H) body t ∧ ∀ p ds Q ex, Pm ds Q ex → t { nx := endI p c Q, rt := fun _ => False, ex := fun x fs _ => ex x fs } (startI N.length p c ds)) :
    Nonempty (FnI P w K mg base f (k + 1) c n Pm [] []) := by
  have ok := Ok.of (P := P) (w := w) (mg := mg) (base := base) (k := k) (sp := spI K c n Pm) h S hb (fun vs H Q E q => (spI_len q).trans hn.symm) (fun fd cdv A outer s H vs Q E hr hs => by
    obtain ⟨t, pd, q⟩ := hbody fd cdv A outer s H E hr
    exact FnI.body pd q hs)
  obtain ⟨fd, F, b⟩ := ok
  exact ⟨⟨fd, ps, F, [], .nil, b, len⟩⟩
/-- the last parameter may be left out -/
theorem FnI.ofD {P : Program} {w : World} {K : PySem.W.Frag} {mg : Str → Option Value} {base : Heap} {x qual : Str} {params : Arguments} {body : List Stmt} {scope : Scope} {f : Addr} {N ps : List Str} {k c n : Nat} {Pm : Prm} {dv : V} {dd : D}
    (h : ∃ fd, FunD K x qual params body scope [dv] [] f fd) (S : FnScope N ps scope) (hn : ps.length = n + 1)
    (hb : ∀ (n : Nat), (n = ps.length ∨ n + 1 = ps.length) → ∀ (T : Addr) (kV doc pm : Value) (an : Option Addr) (cdv ct : Value) (us its : List Value), us.length = n → its.length = 1 →
      ∃ k, bindArgs (PySem.W.fnOf x qual params body scope (.ref T) kV doc pm an cdv ct) ⟨us, []⟩ = seqItems? (.ref T) >>= k ∧ k (some its.toArray) = pure (ps.zip (us ++ its.drop (n + 1 - ps.length))))
    (len : ∀ ds Q ex, Pm ds Q ex → ds.length = n)
    (hbody : ∀ (fd : FuncData) (cdv : Value) (A : Around) (outer : List Env) (s : Shared) (H : Hp) (E : XK), Room k (A.deeper (envOfC qual scope s.heap.objs.size f cdv)) →
      ∃ t, PDSs (cxOf (L2.CX P w) P w K mg base N qual scope f cdv A outer s H E) (fun cls d _ H => E cls d H) body t ∧ ∀ p ds Q ex, Pm ds Q ex → t { nx := endI p c Q, rt := fun _ => False, ex := fun x fs _ => ex x fs } (startI N.length p c ds)) :
    Nonempty (FnI P w K mg base f (k + 1) c n Pm [] []) ∧ Nonempty (FnI P w K mg base f (k + 1) c n Pm [dv] [dd]) := by
  have ok := OkD.of (P := P) (w := w) (mg := mg) (base := base) (k := k) (sp := spI K c n Pm) h S hb (by omega) (fun vs H Q E q => (spI_len q).trans hn.symm) (fun fd cdv A outer s H vs Q E hr hs => by
    obtain ⟨t, pd, q⟩ := hbody fd cdv A outer s H E hr
    exact FnI.body pd q hs)
  obtain ⟨fd, F, b, ds, hv, b2⟩ := ok
  exact ⟨⟨⟨fd, ps, F, [], .nil, b, len⟩⟩, ⟨⟨fd, ps, F, ds, hv, b2, len⟩⟩⟩
/-! ## stores of fields -/
section
variable {X : Cx} {W : WX} {a b c e o tg : Expr} {es : List Expr} {ta tb tc : DT} {t : DTA} {pos p : Pos}
theorem putF_new {f : Str} {v : V} : ∀ {fv : List (Str × V)}, f ∉ fv.map (·.1) → putF f v fv = fv ++ [(f, v)]
  | [], _ => rfl
  | (g, w) :: r, h => by
    have h1 : g ≠ f := fun z => h (by simp [z])
    have h2 : f ∉ r.map (·.1) := fun z => h (by simp at z ⊢; exact .inr z)
    unfold putF
    rw [if_neg h1, putF_new h2]
    rfl
theorem RepF.snoc {K : PySem.W.Frag} {G : Hp} {fv : List (Str × V)} {fs : List (Str × D)} {f : Str} {v : V} {d : D} (r : RepF K G fv fs) (rv : Rep K G v d) : RepF K G (fv ++ [(f, v)]) (fs ++ [(f, d)]) := by
  refine ⟨by simp [r.1], ?_⟩
  rw [List.map_append, List.map_append]
  exact r.2.app (.one rv)
def dFst (i c : Nat) (f : Str) (ta : DT) : DTS := fun E env => ta env (fun d => ∃ p fs, env[i]? = some (.ob p c fs) ∧ fs.length < 1000 ∧ f ∉ fs.map (·.1) ∧ E.nx (env.set i (.ob p c (fs ++ [(f, d)])))) (fun x fs => E.ex x fs env)
theorem pds_fst {i c : Nat} {f : Str} {st : Stmt} (cl : Cls X.K (He.ga X.K (cname c))) (na : NoAttr X.K (He.ga X.K (cname c)) f) (mk : ∀ {te : TE}, PE X e te → PS X st (sFld X.K (tVar i) te f)) (h : PD X W e ta) : PDS X W st (dFst i c f ta) := by
  obtain ⟨_, p, l⟩ := h.of
  refine ⟨_, mk p, fun H0 G0 G H σ env B E S L q => l H0 G0 G H σ env _ _ _ S (L.le σ env) q fun v H1 G1 d x1 r1 ⟨pp, fs, ee, hl, nf, q1⟩ => ?_⟩
  have S1 := S.ex x1
  obtain ⟨dx, fv, e3, hp, gp, op, rf⟩ := S1.obj i _ _ _ ee
  refine ⟨_, e3, pp, _, dx, fv, rfl, hp, cl, na, ?_, ?_⟩
  · have := rf.2.1
    simp at this
    omega
  · rw [putF_new (by rw [rf.1]; exact nf)]
    exact L.nx _ _ _ _ x1.gg (S1.mutO ee (rf.snoc r1)) q1
/-! ## own errors -/
/-- where an error's fields come from: an argument, a word -/
abbrev Xsh := List (Str × (Nat ⊕ Str))
def xV (sh : Xsh) (ws : List V) : List (Str × V) := sh.map fun q => (q.1, match q.2 with | .inl k => ws.getD k .non | .inr w => .str w)
def xD (sh : Xsh) (ws : List D) : List (Str × D) := sh.map fun q => (q.1, match q.2 with | .inl k => ws.getD k .non | .inr w => .str w)
theorem x_rep {K : PySem.W.Frag} {G : Hp} (sh : Xsh) {ws : List V} {ds : List D} (r : Reps K G ws ds) : RepF K G (xV sh ws) (xD sh ds) := by
  refine ⟨by simp [xV, xD], by simp [xV, xD], fun i v d h1 h2 => ?_⟩
  unfold xV at h1
  unfold xD at h2
  rw [List.map_map, List.getElem?_map] at h1 h2
  cases e : sh[i]? with
  | none =>
    rw [e] at h1
    cases h1
  | some q =>
    rw [e] at h1 h2
    obtain ⟨f, s⟩ := q
    cases s with
    | inl k =>
      cases h1
      cases h2
      show Rep K G (ws.getD k .non) (ds.getD k .non)
      by_cases hk : k < ws.length
      · have hk' : k < ds.length := by rw [← r.1]; exact hk
        rw [List.getD_eq_getElem?_getD, List.getD_eq_getElem?_getD, List.getElem?_eq_getElem hk, List.getElem?_eq_getElem hk']
        exact r.2 k _ _ (List.getElem?_eq_getElem hk) (List.getElem?_eq_getElem hk')
      · rw [List.getD_eq_getElem?_getD, List.getD_eq_getElem?_getD, List.getElem?_eq_none (by omega), List.getElem?_eq_none (by rw [← r.1]; omega)]
        exact .non
    | inr w =>
      cases h1
      cases h2
      exact .str w
/-- the promise of an error's __init__ -/
def spX (K : PySem.W.Frag) (x : Str) (n : Nat) (sh : Xsh) : Sp := fun vs H Q _ => ∃ (a : Addr) (ws : List V), vs = .ref a :: ws ∧ ws.length = n ∧ H a = some (exo a (He.ga K x) none) ∧
  ∀ (H' : Hp) (dx : Addr), (∀ b o, H b = some o → b ≠ a → H' b = some o) → H dx = none → dx ≠ a → H' a = some (exo a (He.ga K x) (some dx)) → H' dx = some (exd dx (xV sh ws)) → Q .non H'
structure FnX (P : Program) (w : World) (K : PySem.W.Frag) (mg : Str → Option Value) (base : Heap) (f : Addr) (k : Nat) (x : Str) (n : Nat) (sh : Xsh) where
  fd : FuncData
  ps : List Str
  ok : FnOk P w K mg base (L2.CX P w) k f fd ps (spX K x n sh)
  bd : Binds K fd ps []
def dRaise (x : Str) (n : Nat) (sh : Xsh) (t : DTA) : DTS := fun E env => t env (fun ds => ds.length = n ∧ n ≤ 1000 ∧ E.ex x (xD sh ds) env) (fun x fs => E.ex x fs env)
theorem lk_raise {K : PySem.W.Frag} {H0 G0 G : Hp} {W : WX} {B : Ends} {E : DEnds} {σ : L2.St} {env : DE} {x : Str} {n : Nat} {sh : Xsh} {H1 G1 : Hp} {ws : List V} {ds : List D} {dvs : List V} (L : Lk K H0 G0 G W B E) (S : SR K H0 G0 G1 H1 σ env) (s : Same G G1) (r : Reps K G1 ws ds) (hn : ds.length = n) (q : E.ex x (xD sh ds) env) (hd : dvs = []) :
    ∀ a, H1 a = none → spX K x n sh (.ref a :: (ws ++ dvs)) (upd H1 a (exo a (He.ga K x) none)) (fun v H2 => v = .non ∧ ∃ d fs, H2 a = some (exo a (He.ga K x) (some d)) ∧ H2 d = some (exd d fs) ∧ H1 d = none ∧ W (.ref (He.ga K x)) (some d) σ (upd (del H2 a) d (.xd fs))) (fun _ _ _ => False) := by
  intro a na
  subst hd
  refine ⟨a, ws, by simp, by rw [r.1, hn], upd_same, fun H' dx keep nd ne ea ed => ⟨rfl, dx, _, ea, ed, ?_, ?_⟩⟩
  · rw [upd_ne ne] at nd
    exact nd
  · have nd1 : H1 dx = none := by rw [upd_ne ne] at nd; exact nd
    have x1 : Ext G1 H1 G1 (upd (del H' a) dx (.xd (xV sh ws))) := by
      refine ⟨fun b o e => ?_, .refl _, fun b o e => ?_, fun b h1 h2 => absurd h2 h1⟩
      · have hb1 : b ≠ dx := ne_of_none e nd1
        have hb2 : b ≠ a := ne_of_none e na
        rw [upd_ne hb1, del_ne hb2]
        exact keep b o ((upd_ne hb2).trans e) hb2
      · have e' := S.sub b o e
        have hb1 : b ≠ dx := ne_of_none e' nd1
        have hb2 : b ≠ a := ne_of_none e' na
        rw [upd_ne hb1, del_ne hb2]
        exact keep b o ((upd_ne hb2).trans e') hb2
    exact L.ex σ _ G1 env dx x _ _ s (S.ex x1) upd_same (x_rep sh r) q
theorem pds_raise {x : Str} {n : Nat} {sh : Xsh} {r : Expr} (hc : X.calm = true) (tk : Takes X W) (mk : ∀ {sa : TA}, PA X es sa → PMk X r (tMkO (He.ga X.K x) (spX X.K x n sh) [] sa)) (ha : PDA X W es t) : PDS X W (.Raise (some r) none pos) (dRaise x n sh t) := by
  obtain ⟨_, pa, la⟩ := ha.of
  refine ⟨_, ps_raise hc tk (mk pa), fun H0 G0 G H σ env B E S L q => la H0 G0 G H σ env _ _ _ S (L.le σ env) q fun vs H1 G1 ds x1 r1 ⟨hn, h3, q1⟩ => ⟨by rw [r1.1, hn]; exact h3, ?_⟩⟩
  exact lk_raise L (S.ex x1) x1.gg r1 hn q1 rfl
theorem pds_raise0 {x : Str} {sh : Xsh} {r : Expr} (hc : X.calm = true) (tk : Takes X W) (mk : PMk X r (tMkO (He.ga X.K x) (spX X.K x 0 sh) [] tNil)) : PDS X W (.Raise (some r) none pos) (fun E env => E.ex x (xD sh []) env) :=
  ⟨_, ps_raise hc tk mk, fun H0 G0 G H σ env B E S L q => ⟨Nat.zero_le _, lk_raise L S (.refl _) .nil rfl q rfl⟩⟩
/-! ## try, one clause -/
def dTry (K : PySem.W.Frag) (x : Str) (i : Nat) (tb : DTS) (ts : Addr → Value → Option Addr → DTS) : DTS := fun E env => tb { E with ex := fun y fs e => (y = x ∧ ∀ a dd, ts a (.ref (He.ga K x)) (some dd) { nx := fun e => E.nx (e.set i .no), rt := E.rt, bk := fun e => E.bk (e.set i .no), ct := fun e => E.ct (e.set i .no), rf := E.rf } (e.set i (.exc a dd x fs))) ∨
  (PySem.W.exmOne K (.ref (He.ga K y)) (.ref (He.ga K x)) = some false ∧ E.ex y fs e) } env
theorem pds_try {x n : Str} {i : Nat} {body suite : List Stmt} {b₀ : Stmt} {np pos' : Pos} {tb : DTS} {ts : Addr → Value → Option Addr → DTS} (hs : X.stack = X.env :: X.outer) (hf : X.env.frame = some X.env.locals) (hN : X.N.Nodup) (hi : X.N[i]? = some n) (hln : X.env.kindOf n = some .local)
    (hc : Names X x (.ref (He.ga X.K x))) (hm : PySem.W.exmOne X.K (.ref (He.ga X.K x)) (.ref (He.ga X.K x)) = some true) (tk : Takes X W)
    (hb : ∀ (W' : WX) (pn : List (Addr × Obj)) (xe : Value → Shared → Prop), Takes (X.tr pn xe) W' → PassesOwn (model X.prog X.w) X.A X.env xe → PDSs (X.tr pn xe) W' body tb)
    (hsu : ∀ (a : Addr) (oe : Obj) (cls : Value) (d : Option Addr) (pn : List (Addr × Obj)), Zc cls d oe → (∃ vs, oe.data = .fields vs) → PDSs (X.suite a ((a, oe) :: pn)) WN (b₀ :: suite) (ts a cls d)) :
    PDS X W (.Try body [.ExceptHandler (some (.Name x np)) (some n) (b₀ :: suite) pos'] [] [] pos) (dTry X.K x i tb ts) := by
  refine ⟨_, ps_try_as (Wout := W) (tb := fun W' B σ H => ∀ pn xe (h1 : Takes (X.tr pn xe) W') (h2 : PassesOwn (model X.prog X.w) X.A X.env xe), (hb W' pn xe h1 h2).of.choose B σ H)
    (ts := fun a cls d B σ H => ∀ oe pn (h1 : Zc cls d oe) (h2 : ∃ vs, oe.data = .fields vs), (hsu a oe cls d pn h1 h2).of.choose B σ H) hs hf hN hi hln hc tk
    (fun W' pn xe h1 h2 => ⟨fun pins s σ H B I q => (hb W' pn xe h1 h2).of.choose_spec.1.run pins s σ H B I (q pn xe h1 h2)⟩)
    (fun a oe cls d pn h1 h2 => ⟨fun pins s σ H B I q => (hsu a oe cls d pn h1 h2).of.choose_spec.1.run pins s σ H B I (q oe pn h1 h2)⟩), fun H0 G0 G H σ env B E S L q => ?_⟩
  intro pn xe h1 h2
  refine (hb _ pn xe h1 h2).of.choose_spec.2 H0 G0 G H σ env _ { E with ex := fun y fs e => (y = x ∧ ∀ a dd, ts a (.ref (He.ga X.K x)) (some dd) { nx := fun e => E.nx (e.set i .no), rt := E.rt, bk := fun e => E.bk (e.set i .no), ct := fun e => E.ct (e.set i .no), rf := E.rf } (e.set i (.exc a dd x fs))) ∨
    (PySem.W.exmOne X.K (.ref (He.ga X.K y)) (.ref (He.ga X.K x)) = some false ∧ E.ex y fs e) } S ⟨L.nx, L.bk, L.ct, L.rt, fun σ' H' G' env' dd y fv fs s' S' e r q' => ?_, L.rf⟩ q
  rcases q' with ⟨rfl, q'⟩ | ⟨hn, q'⟩
  · refine ⟨true, hm, fun _ a na oe pn h1 h2 => ?_, fun z => Bool.noConfusion z⟩
    have S2 : SR X.K H0 G0 G' H' (σ'.set i (some (.ref a))) (env'.set i (.exc a dd y fs)) := S'.setErr e r
    have L2 := L.mono s'
    exact (hsu a oe _ _ pn h1 h2).of.choose_spec.2 H0 G0 G' H' _ _ _ { nx := fun e => E.nx (e.set i .no), rt := E.rt, bk := fun e => E.bk (e.set i .no), ct := fun e => E.ct (e.set i .no), rf := E.rf } S2 ⟨fun σ4 H4 G4 env4 s4 S4 q4 => L2.nx _ _ _ _ s4 S4.unset q4, fun σ4 H4 G4 env4 s4 S4 q4 => L2.bk _ _ _ _ s4 S4.unset q4, fun σ4 H4 G4 env4 s4 S4 q4 => L2.ct _ _ _ _ s4 S4.unset q4, L2.rt, fun _ _ _ _ _ _ _ _ _ _ _ _ z => z.elim, L2.rf⟩ (q' a dd)
  · exact ⟨false, hn, fun z => Bool.noConfusion z, fun _ => L.ex σ' H' G' env' dd y fv fs s' S' e r q'⟩
/-- e.f of a caught error -/
def dXf (K : PySem.W.Frag) (i : Nat) (x : Str) (f : Str) (a : Addr) (cls : Value) (d : Option Addr) : DT := fun env Q _ => ∃ dd fs y, env[i]? = some (.exc a dd x fs) ∧ cls = .ref (He.ga K x) ∧ d = some dd ∧ fs.lookup f = some y ∧ Q y
theorem lookup_rep {K : PySem.W.Frag} {G : Hp} {f : Str} {y : D} : ∀ {fs : List (Str × D)} {fv : List (Str × V)}, RepF K G fv fs → fs.lookup f = some y → ∃ v, fv.lookup f = some v ∧ Rep K G v y
  | [], _, _, h => by cases h
  | (g, z) :: fs, [], r, h => absurd r.1 (by simp)
  | (g, z) :: fs, (g', v) :: fv, r, h => by
    have e1 := r.1
    simp at e1
    obtain ⟨rfl, e1⟩ := e1
    by_cases hf : f = g'
    · have hb : (f == g') = true := beq_iff_eq.mpr hf
      simp only [List.lookup, hb] at h ⊢
      cases h
      exact ⟨v, rfl, r.2.2 0 v _ rfl rfl⟩
    · have hb : (f == g') = false := beq_eq_false_iff_ne.mpr hf
      simp only [List.lookup, hb] at h ⊢
      exact lookup_rep ⟨e1, by have := r.2.1; simp at this; simpa using this, fun i v d h1 h2 => r.2.2 (i + 1) v d (by simpa using h1) (by simpa using h2)⟩ h
theorem pd_xf {i : Nat} {x f : Str} {a : Addr} {cls : Value} {d : Option Addr} (K : PySem.W.Frag) (hK : X.K = K) (mk : PE X e (tXf a cls d (He.ga K x) f (tVar i))) : PD X W e (dXf K i x f a cls d) := by
  subst hK
  refine ⟨_, mk, fun H0 G0 G H σ env Q ex R S L ⟨dd, fs, y, e1, e2, e3, hl, q⟩ g => ?_⟩
  obtain ⟨fv, e4, hd, rf⟩ := S.err i _ _ _ _ e1
  obtain ⟨v, hv, rv⟩ := lookup_rep rf hl
  exact ⟨_, e4, rfl, e2, dd, fv, v, e3, hd, hv, g v H G y (.refl S.sub) rv q⟩
/-- isinstance(e, C) of a caught error -/
def dXi (K : PySem.W.Frag) (i : Nat) (x : Str) (cv : Value) (a : Addr) (cls : Value) (d : Option Addr) : DT := fun env Q _ => ∃ dd fs b, env[i]? = some (.exc a dd x fs) ∧ cls = .ref (He.ga K x) ∧ d = some dd ∧ PySem.W.kitOne K (.ref (He.ga K x)) cv = some b ∧ Q (.bl b)
theorem pd_xi {i : Nat} {x : Str} {a : Addr} {cls cv : Value} {d : Option Addr} {c : V} (K : PySem.W.Frag) (hK : X.K = K) (hc : ClsV c cv) (mk : PE X e (tCB (rIsD K (He.ga K x) a cls d) (tCons (tVar i) (tCons (tC c) tNil)))) : PD X W e (dXi K i x cv a cls d) := by
  subst hK
  refine ⟨_, mk, fun H0 G0 G H σ env Q ex R S L ⟨dd, fs, b, e1, e2, e3, hk, q⟩ g => ?_⟩
  obtain ⟨fv, e4, hd, rf⟩ := S.err i _ _ _ _ e1
  exact ⟨_, e4, c, cv, b, dd, fv, rfl, e2, e3, hd, hc, hk, g _ H G _ (.refl S.sub) (.bl b) q⟩
end
end DL

namespace DL
open PySem PySem.Spec PyProof.Rows L2 LR
section
variable {K : PySem.W.Frag} {X : Cx} {W : WX}
/-! ## ints -/
def dI (C : Int → Int → Prop) (f : Int → Int → Int) : R2D := fun a b Q => ∃ i j, a = .int i ∧ b = .int j ∧ C i j ∧ Q (.int (f i j))
def dI0 (f : Int → Int → Int) : R2D := fun a b Q => ∃ i j, a = .int i ∧ b = .int j ∧ Q (.int (f i j))
def dB0 (f : Int → Int → Bool) : R2D := fun a b Q => ∃ i j, a = .int i ∧ b = .int j ∧ Q (.bl (f i j))
theorem l_I {C : Int → Int → Prop} {f : Int → Int → Int} : L2R K (rI C fun i j => .int (f i j)) (dI C f) := fun G H x y a b Q R s r1 r2 ⟨i, j, e1, e2, c, q⟩ g => by
  subst e1 e2
  exact ⟨i, j, r1.int_inv, r2.int_inv, c, g _ H G _ (.refl s) (.int _) q⟩
theorem l_I0 {f : Int → Int → Int} : L2R K (rI0 fun i j => .int (f i j)) (dI0 f) := fun G H x y a b Q R s r1 r2 ⟨i, j, e1, e2, q⟩ g => by
  subst e1 e2
  exact ⟨i, j, r1.int_inv, r2.int_inv, g _ H G _ (.refl s) (.int _) q⟩
theorem l_B0 {f : Int → Int → Bool} : L2R K (rI0 fun i j => .bl (f i j)) (dB0 f) := fun G H x y a b Q R s r1 r2 ⟨i, j, e1, e2, q⟩ g => by
  subst e1 e2
  exact ⟨i, j, r1.int_inv, r2.int_inv, g _ H G _ (.refl s) (.bl _) q⟩
def dU (f : Int → Int) : D → (D → Prop) → Prop := fun a Q => ∃ i, a = .int i ∧ Q (.int (f i))
theorem l_U {f : Int → Int} : L1R K (rU fun i => .int (f i)) (dU f) := fun G H x a Q R s r ⟨i, e, q⟩ g => by
  subst e
  exact ⟨i, r.int_inv, g _ H G _ (.refl s) (.int _) q⟩
/-- == of scalars -/
def eqS : D → D → Option Bool
  | .non, .non => some true | .non, .int _ => some false | .int _, .non => some false | .non, .bl _ => some false | .bl _, .non => some false | .non, .str _ => some false | .str _, .non => some false
  | .int i, .int j => some (decide (i = j)) | .bl a, .bl b => some (a == b) | .str s, .str t => some (decide (s = t)) | .int _, .str _ => some false | .str _, .int _ => some false | .bl _, .str _ => some false | .str _, .bl _ => some false
  | _, _ => none
def dEq : R2D := fun a b Q => ∃ k, eqS a b = some k ∧ Q (.bl k)
def dNe : R2D := fun a b Q => ∃ k, eqS a b = some k ∧ Q (.bl (!k))
theorem eqS_ok {G : Hp} {x y : V} {a b : D} {k : Bool} (r1 : Rep K G x a) (r2 : Rep K G y b) (h : eqS a b = some k) : scal x y = true ∧ decide (x = y) = k := by
  cases a <;> cases b <;> first
    | (cases h; done)
    | (cases r1; cases r2; cases h; refine ⟨rfl, ?_⟩; first | (simp; done) | (rw [Bool.eq_iff_iff]; simp))
theorem l_eq : L2R K rEq dEq := fun G H x y a b Q R s r1 r2 ⟨k, e, q⟩ g => by
  obtain ⟨h1, h2⟩ := eqS_ok r1 r2 e
  exact ⟨h1, by rw [h2]; exact g _ H G _ (.refl s) (.bl _) q⟩
theorem l_ne : L2R K rNe dNe := fun G H x y a b Q R s r1 r2 ⟨k, e, q⟩ g => by
  obtain ⟨h1, h2⟩ := eqS_ok r1 r2 e
  exact ⟨h1, by rw [h2]; exact g _ H G _ (.refl s) (.bl _) q⟩
def isN : D → Bool
  | .non => true | _ => false
theorem isN_ok {G : Hp} {x : V} {a : D} (r : Rep K G x a) : decide (x = .non) = isN a := by
  cases r <;> simp [isN]
def dIsN : R2D := fun a b Q => b = .non ∧ Q (.bl (isN a))
def dNotN : R2D := fun a b Q => b = .non ∧ Q (.bl (!isN a))
theorem l_isN : L2R K (fun x y H Q => y = .non ∧ Q (.bl (decide (x = .non))) H) dIsN := fun G H x y a b Q R s r1 r2 ⟨e, q⟩ g => by
  subst e
  exact ⟨r2.non_inv, by rw [isN_ok r1]; exact g _ H G _ (.refl s) (.bl _) q⟩
theorem l_notN : L2R K (fun x y H Q => y = .non ∧ Q (.bl (!decide (x = .non))) H) dNotN := fun G H x y a b Q R s r1 r2 ⟨e, q⟩ g => by
  subst e
  exact ⟨r2.non_inv, by rw [isN_ok r1]; exact g _ H G _ (.refl s) (.bl _) q⟩
/-! ## texts, lists -/
def dAddS : R2D := fun a b Q => ∃ i j, a = .str i ∧ b = .str j ∧ i.length + j.length ≤ sizeLine ∧ Q (.str (i ++ j))
theorem l_addS : L2R K (fun x y H Q => ∃ i j, x = .str i ∧ y = .str j ∧ i.length + j.length ≤ sizeLine ∧ Q (.str (i ++ j)) H) dAddS := fun G H x y a b Q R s r1 r2 ⟨i, j, e1, e2, h, q⟩ g => by
  subst e1 e2
  exact ⟨i, j, r1.str_inv, r2.str_inv, h, g _ H G _ (.refl s) (.str _) q⟩
def occ (j i : Str) : Bool := !(Builtin.Str.occurrences j i 0 j.length 1).isEmpty
def dInS : R2D := fun a b Q => ∃ i j, a = .str i ∧ b = .str j ∧ Q (.bl (occ j i))
def dNotInS : R2D := fun a b Q => ∃ i j, a = .str i ∧ b = .str j ∧ Q (.bl (!occ j i))
theorem l_inS : L2R K (fun x y H Q => ∃ i j, x = .str i ∧ y = .str j ∧ Q (.bl (!(Builtin.Str.occurrences j i 0 j.length 1).isEmpty)) H) dInS := fun G H x y a b Q R s r1 r2 ⟨i, j, e1, e2, q⟩ g => by
  subst e1 e2
  exact ⟨i, j, r1.str_inv, r2.str_inv, g _ H G _ (.refl s) (.bl _) q⟩
theorem l_notInS : L2R K (fun x y H Q => ∃ i j, x = .str i ∧ y = .str j ∧ Q (.bl (!!(Builtin.Str.occurrences j i 0 j.length 1).isEmpty)) H) dNotInS := fun G H x y a b Q R s r1 r2 ⟨i, j, e1, e2, q⟩ g => by
  subst e1 e2
  exact ⟨i, j, r1.str_inv, r2.str_inv, g _ H G _ (.refl s) (.bl _) q⟩
def dIxL : R2D := fun a b Q => ∃ l k x, a = .lst l ∧ b = .int k ∧ atI l k = some x ∧ Q x
def dIxT : R2D := fun a b Q => ∃ l k x, a = .tup l ∧ b = .int k ∧ atI l k = some x ∧ Q x
def dIxS : R2D := fun a b Q => ∃ s k c, a = .str s ∧ b = .int k ∧ s.length ≤ sizeLine ∧ atI s.cps.toList k = some c ∧ Q (.str ⟨#[c]⟩)
theorem l_ixL : L2R K (rIxL K) dIxL := fun G H x y a b Q R s r1 r2 ⟨l, k, z, e1, e2, h, q⟩ g => by
  subst e1 e2
  obtain ⟨p, vs, rfl, h1, h2⟩ := r1.lst_inv
  obtain ⟨w, hw, rw⟩ := h2.ix h
  exact ⟨p, vs, k, w, rfl, r2.int_inv, s.seq h1, hw, g _ H G _ (.refl s) rw q⟩
theorem l_ixT : L2R K (rIxT K) dIxT := fun G H x y a b Q R s r1 r2 ⟨l, k, z, e1, e2, h, q⟩ g => by
  subst e1 e2
  obtain ⟨p, vs, rfl, h1, h2⟩ := r1.tup_inv
  obtain ⟨w, hw, rw⟩ := h2.ix h
  exact ⟨p, vs, k, w, rfl, r2.int_inv, sqT_same s h1, hw, g _ H G _ (.refl s) rw q⟩
theorem l_ixS : L2R K rIxS dIxS := fun G H x y a b Q R s r1 r2 ⟨l, k, z, e1, e2, h0, h, q⟩ g => by
  subst e1 e2
  exact ⟨l, k, z, r1.str_inv, r2.int_inv, h0, h, g _ H G _ (.refl s) (.str _) q⟩
/-! ### slices -/
abbrev DTO := DE → (Option Int → Prop) → EX → Prop
structure PDO (X : Cx) (W : WX) (e : Option Expr) (t : DTO) : Prop where
  of : ∃ to, PO X e to ∧ ∀ (H0 G0 G H : Hp) (σ : L2.St) (env : DE) (Q : Option Int → Prop) (ex : EX) (R : Option Int → Hp → Prop), SR X.K H0 G0 G H σ env → LkE X.K H0 G0 G W σ env ex → t env Q ex → (∀ o H' G', Ext G H G' H' → Q o → R o H') → to σ H R
def dNoPart : DTO := fun _ Q _ => Q none
def dPart (t : DT) : DTO := fun env Q ex => t env (fun d => ∃ i, d = .int i ∧ Q (some i)) ex
theorem pdo_none : PDO X W none dNoPart := ⟨_, po_none, fun H0 G0 G H σ env Q ex R S L q g => g _ H G (.refl S.sub) q⟩
theorem pdo_some {e : Expr} {t : DT} (h : PD X W e t) : PDO X W (some e) (dPart t) := by
  obtain ⟨_, p, l⟩ := h.of
  exact ⟨_, po_some p, fun H0 G0 G H σ env Q ex R S L q g => l H0 G0 G H σ env _ ex _ S L q fun v H1 G1 d x1 r1 ⟨i, e1, q1⟩ => ⟨i, by subst e1; exact r1.int_inv, g _ H1 G1 x1 q1⟩⟩
def dSl (r : D → Option Int → Option Int → (D → Prop) → Prop) (te : DT) (tl th : DTO) : DT := fun env Q ex => te env (fun x => tl env (fun l => th env (fun u => r x l u Q) ex) ex) ex
def dSlN (r : D → Option Int → Option Int → (List D → Prop) → Prop) (te : DT) (tl th : DTO) : DTN := fun env Q ex => te env (fun x => tl env (fun l => th env (fun u => r x l u Q) ex) ex) ex
def cutD (xs : List D) (lo hi : Option Int) : List D := (xs.drop (HT.sIx xs.length 0 lo)).take (HT.sIx xs.length xs.length hi - HT.sIx xs.length 0 lo)
theorem Reps.cutV {G : Hp} {vs : List V} {l : List D} (r : Reps K G vs l) (lo hi : Option Int) : Reps K G (L2.cutV vs lo hi) (cutD l lo hi) := by
  unfold L2.cutV cutD
  rw [r.1]
  exact r.cut _ _
def dCutL : D → Option Int → Option Int → (List D → Prop) → Prop := fun a lo hi Q => ∃ l, a = .lst l ∧ Q (cutD l lo hi)
theorem pdn_slL {e : Expr} {lo hi : Option Expr} {te : DT} {tl th : DTO} {pos p2 : Pos} (h : PD X W e te) (hl : PDO X W lo tl) (hh : PDO X W hi th) : PDN X W (.Subscript e (.Slice lo hi none p2) pos) (dSlN dCutL te tl th) := by
  obtain ⟨_, p, l⟩ := h.of
  obtain ⟨_, pl, ll⟩ := hl.of
  obtain ⟨_, ph, lh⟩ := hh.of
  refine ⟨_, pe_slice sl_list p pl ph, fun H0 G0 G H σ env Q ex R S L q g => l H0 G0 G H σ env _ ex _ S L q fun v H1 G1 d x1 r1 q1 => ?_⟩
  refine ll H0 G0 G1 H1 σ env _ ex _ (S.ex x1) (L.mono x1.gg) q1 fun o H2 G2 x2 q2 => ?_
  have x12 := x1.trans x2
  refine lh H0 G0 G2 H2 σ env _ ex _ (S.ex x12) (L.mono x12.gg) q2 fun u H3 G3 x3 q3 => ?_
  obtain ⟨m, e1, q4⟩ := q3
  subst e1
  obtain ⟨pp, vs, rfl, h1, h2⟩ := (r1.same (x2.gg.trans x3.gg)).lst_inv
  exact ⟨pp, vs, rfl, x3.sub.seq h1, fun p' n => g p' _ _ H3 G3 _ (x12.trans x3) n rfl (h2.cutV o u) q4⟩
def dCutS : D → Option Int → Option Int → (D → Prop) → Prop := fun a lo hi Q => ∃ s, a = .str s ∧ s.length ≤ sizeLine ∧ Q (.str (cutS s lo hi))
theorem pd_slS {e : Expr} {lo hi : Option Expr} {te : DT} {tl th : DTO} {pos p2 : Pos} (h : PD X W e te) (hl : PDO X W lo tl) (hh : PDO X W hi th) : PD X W (.Subscript e (.Slice lo hi none p2) pos) (dSl dCutS te tl th) := by
  obtain ⟨_, p, l⟩ := h.of
  obtain ⟨_, pl, ll⟩ := hl.of
  obtain ⟨_, ph, lh⟩ := hh.of
  refine ⟨_, pe_slice sl_str p pl ph, fun H0 G0 G H σ env Q ex R S L q g => l H0 G0 G H σ env _ ex _ S L q fun v H1 G1 d x1 r1 q1 => ?_⟩
  refine ll H0 G0 G1 H1 σ env _ ex _ (S.ex x1) (L.mono x1.gg) q1 fun o H2 G2 x2 q2 => ?_
  have x12 := x1.trans x2
  refine lh H0 G0 G2 H2 σ env _ ex _ (S.ex x12) (L.mono x12.gg) q2 fun u H3 G3 x3 q3 => ?_
  obtain ⟨m, e1, hz, q4⟩ := q3
  subst e1
  exact ⟨m, r1.str_inv, hz, g _ H3 G3 _ (x12.trans x3) (.str _) q4⟩
/-! ### lists made of lists -/
theorem l_list : LcN K (fun xs H Q => ∃ p ys, xs = [.ref p] ∧ (SqL K H p ys ∨ SqT K H p ys) ∧ ∀ l, H l = none → Q (.ref l) (upd H l (.lst ys))) (fun ds Q => ∃ l, (ds = [.lst l] ∨ ds = [.tup l]) ∧ Q l) := fun G H vs ds Q R s r ⟨l, e, q⟩ g => by
  rcases e with e | e
  · subst e
    obtain ⟨v, rfl, r1⟩ := reps1 r
    obtain ⟨p, ws, rfl, h1, h2⟩ := r1.lst_inv
    exact ⟨p, ws, rfl, .inl (s.seq h1), fun p' n => g p' _ _ H G _ (.refl s) n rfl h2 q⟩
  · subst e
    obtain ⟨v, rfl, r1⟩ := reps1 r
    obtain ⟨p, ws, rfl, h1, h2⟩ := r1.tup_inv
    exact ⟨p, ws, rfl, .inr (sqT_same s h1), fun p' n => g p' _ _ H G _ (.refl s) n rfl h2 q⟩
theorem l_tuple : LcR K (fun xs H Q => ∃ p ys, xs = [.ref p] ∧ ((SqL K H p ys ∧ ∀ l, H l = none → Q (.ref l) (upd H l (.tup ys))) ∨ (SqT K H p ys ∧ Q (.ref p) H))) (fun ds Q => ∃ l, (ds = [.lst l] ∨ ds = [.tup l]) ∧ Q (.tup l)) := fun G H vs ds Q R s r ⟨l, e, q⟩ g => by
  rcases e with e | e
  · subst e
    obtain ⟨v, rfl, r1⟩ := reps1 r
    obtain ⟨p, ws, rfl, h1, h2⟩ := r1.lst_inv
    refine ⟨p, ws, rfl, .inl ⟨s.seq h1, fun p' n => ?_⟩⟩
    have x2 : Ext G H (upd G p' (.tup ws)) (upd H p' (.tup ws)) := Ext.nw s n
    have r2 := h2.same x2.gg
    exact g _ _ _ _ x2 (.tup (SqT.of upd_same) r2.1 r2.2) q
  · subst e
    obtain ⟨v, rfl, r1⟩ := reps1 r
    obtain ⟨p, ws, rfl, h1, h2⟩ := id r1.tup_inv
    exact ⟨p, ws, rfl, .inr ⟨sqT_same s h1, g _ _ _ _ (.refl s) r1 q⟩⟩
/-- a list that stands in H by itself (not the script's) is what + and * want: both sides new lists -/
def dCat (ta tb : DTN) : DTN := fun env Q ex => ta env (fun l => tb env (fun m => l.length + m.length ≤ sizeLine ∧ Q (l ++ m)) ex) ex
theorem pdn_cat {a b : Expr} {ta tb : DTN} {pos : Pos} (ha : PDN X W a ta) (hb : PDN X W b tb) : PDN X W (.BinOp a .Add b pos) (dCat ta tb) := by
  obtain ⟨_, pa, la⟩ := ha.of
  obtain ⟨_, pb, lb⟩ := hb.of
  refine ⟨_, pe_op op_cat pa pb, fun H0 G0 G H σ env Q ex R S L q g => la H0 G0 G H σ env _ ex _ S L q fun p vs H' H1 G1 l x1 n e r1 q1 => ?_⟩
  subst e
  have x1' : Ext G H G1 (upd H1 p (.lst vs)) := x1.trans (Ext.hid x1.sub n)
  refine lb H0 G0 G1 _ σ env _ ex _ (S.ex x1') (L.mono x1'.gg) q1 fun p2 us H'' H2 G2 m x2 n2 e2 r2 ⟨hz, q2⟩ => ?_
  subst e2
  have hp : H2 p = some (.lst vs) := x2.hh _ _ upd_same
  refine ⟨p, p2, vs, us, rfl, rfl, (upd_ne (ne_of_none hp n2)).trans hp, upd_same, by rw [r1.1, r2.1]; exact hz, fun p3 n3 => ?_⟩
  exact g p3 _ _ _ G2 _ ((x1'.trans x2).trans (Ext.hid x2.sub n2)) n3 rfl ((r1.same x2.gg).app r2) q2
/-- a list at a name on the left -/
def dCatV (ta : DT) (tb : DTN) : DTN := fun env Q ex => ta env (fun d => ∃ l, d = .lst l ∧ tb env (fun m => l.length + m.length ≤ sizeLine ∧ Q (l ++ m)) ex) ex
def dRep (ta : DTN) (tb : DT) : DTN := fun env Q ex => ta env (fun l => tb env (fun d => ∃ k, d = .int k ∧ -(2 ^ 63) ≤ k ∧ k < 2 ^ 63 ∧ l.length * k.toNat ≤ sizeLine ∧ Q (List.replicate k.toNat l).flatten) ex) ex
theorem reps_flat {G : Hp} {vs : List V} {l : List D} (r : Reps K G vs l) : ∀ k : Nat, Reps K G (List.replicate k vs).flatten (List.replicate k l).flatten
  | 0 => by simpa using Reps.nil
  | k + 1 => by
    rw [List.replicate_succ, List.replicate_succ, List.flatten_cons, List.flatten_cons]
    exact r.app (reps_flat r k)
/-! ## calls -/
theorem l_len : LcR K (fun xs H Q => ∃ x n, xs = [x] ∧ LenV K x H n ∧ Q (.int n) H) (fun ds Q => (∃ l, ds = [.lst l] ∧ Q (.int l.length)) ∨ (∃ l, ds = [.tup l] ∧ Q (.int l.length)) ∨ ∃ s : Str, ds = [.str s] ∧ s.length ≤ sizeLine ∧ Q (.int s.length)) := fun G H vs ds Q R s r q g => by
  rcases q with ⟨l, e, q⟩ | ⟨l, e, q⟩ | ⟨z, e, hz, q⟩
  · subst e
    obtain ⟨v, rfl, r1⟩ := reps1 r
    obtain ⟨p, ws, rfl, h1, h2⟩ := r1.lst_inv
    exact ⟨_, _, rfl, .inl ⟨ws, s.seq h1, h2.1.symm⟩, g _ _ _ _ (.refl s) (.int _) q⟩
  · subst e
    obtain ⟨v, rfl, r1⟩ := reps1 r
    obtain ⟨p, ws, rfl, h1, h2⟩ := r1.tup_inv
    exact ⟨_, _, rfl, .inr ⟨ws, sqT_same s h1, h2.1.symm⟩, g _ _ _ _ (.refl s) (.int _) q⟩
  · subst e
    obtain ⟨v, rfl, r1⟩ := reps1 r
    rw [r1.str_inv]
    exact ⟨_, _, rfl, ⟨hz, rfl⟩, g _ _ _ _ (.refl s) (.int _) q⟩
theorem l_abs : LcR K (fun xs H Q => ∃ i, xs = [.int i] ∧ Q (.int (if i < 0 then -i else i)) H) (fun ds Q => ∃ i : Int, ds = [.int i] ∧ Q (.int (i.natAbs : Int))) := fun G H vs ds Q R s r ⟨i, e, q⟩ g => by
  subst e
  obtain ⟨v, rfl, r1⟩ := reps1 r
  refine ⟨i, by rw [r1.int_inv], ?_⟩
  rw [show (if i < 0 then -i else i) = (i.natAbs : Int) by split <;> omega]
  exact g _ _ _ _ (.refl s) (.int _) q
theorem l_int : LcR K (fun xs H Q => (∃ i, xs = [.int i] ∧ Q (.int i) H) ∨ ∃ k, xs = [.bl k] ∧ Q (.int (if k then 1 else 0)) H) (fun ds Q => (∃ i, ds = [.int i] ∧ Q (.int i)) ∨ ∃ k, ds = [.bl k] ∧ Q (.int (if k then 1 else 0))) := fun G H vs ds Q R s r q g => by
  rcases q with ⟨i, e, q⟩ | ⟨i, e, q⟩
  · subst e
    obtain ⟨v, rfl, r1⟩ := reps1 r
    exact .inl ⟨i, by rw [r1.int_inv], g _ _ _ _ (.refl s) (.int _) q⟩
  · subst e
    obtain ⟨v, rfl, r1⟩ := reps1 r
    exact .inr ⟨i, by rw [r1.bl_inv], g _ _ _ _ (.refl s) (.int _) q⟩
theorem l_strI : LcR K (fun xs H Q => ∃ i, xs = [.int i] ∧ i.natAbs.log2 < 1920 ∧ Q (.str (toString i)) H) (fun ds Q => ∃ i, ds = [.int i] ∧ i.natAbs.log2 < 1920 ∧ Q (.str (toString i))) := fun G H vs ds Q R s r ⟨i, e, h, q⟩ g => by
  subst e
  obtain ⟨v, rfl, r1⟩ := reps1 r
  exact ⟨i, by rw [r1.int_inv], h, g _ _ _ _ (.refl s) (.str _) q⟩
theorem l_intS : LcR K (fun xs H Q => ∃ a n, xs = [.str a] ∧ PySem.intText? a = some n ∧ a.length ≤ 640 ∧ Q (.int n) H) (fun ds Q => ∃ a n, ds = [.str a] ∧ PySem.intText? a = some n ∧ a.length ≤ 640 ∧ Q (.int n)) := fun G H vs ds Q R s r ⟨a, n, e, h, h2, q⟩ g => by
  subst e
  obtain ⟨v, rfl, r1⟩ := reps1 r
  exact ⟨a, n, by rw [r1.str_inv], h, h2, g _ _ _ _ (.refl s) (.int _) q⟩
theorem l_gcd : LcR K rGcd (fun ds Q => ∃ a b : Int, ds = [.int a, .int b] ∧ Q (.int ((Nat.gcd a.natAbs b.natAbs : Nat) : Int))) := fun G H vs ds Q R s r ⟨a, b, e, q⟩ g => by
  subst e
  obtain ⟨v, w, rfl, r1, r2⟩ := reps2 r
  exact ⟨a, b, by rw [r1.int_inv, r2.int_inv], g _ _ _ _ (.refl s) (.int _) q⟩
theorem l_sum : LcR K (rSum K) (fun ds Q => ∃ ns : List Int, (ds = [.lst (ns.map D.int)]) ∧ Q (.int ns.sum)) := fun G H vs ds Q R s r ⟨ns, e, q⟩ g => by
  subst e
  obtain ⟨v, rfl, r1⟩ := reps1 r
  obtain ⟨p, ws, rfl, h1, h2⟩ := r1.lst_inv
  rw [h2.ints] at h1
  exact ⟨p, ns, rfl, s.seq h1, g _ _ _ _ (.refl s) (.int _) q⟩
theorem l_max2 : LcR K (fun xs H Q => ∃ i j, xs = [.int i, .int j] ∧ Q (.int (if j > i then j else i)) H) (fun ds Q => ∃ i j : Int, ds = [.int i, .int j] ∧ Q (.int (max i j))) := fun G H vs ds Q R s r ⟨i, j, e, q⟩ g => by
  subst e
  obtain ⟨v, w, rfl, r1, r2⟩ := reps2 r
  refine ⟨i, j, by rw [r1.int_inv, r2.int_inv], ?_⟩
  rw [show (if j > i then j else i) = max i j by rw [Int.max_def]; split <;> split <;> omega]
  exact g _ _ _ _ (.refl s) (.int _) q
theorem l_min2 : LcR K (fun xs H Q => ∃ i j, xs = [.int i, .int j] ∧ Q (.int (if j < i then j else i)) H) (fun ds Q => ∃ i j : Int, ds = [.int i, .int j] ∧ Q (.int (min i j))) := fun G H vs ds Q R s r ⟨i, j, e, q⟩ g => by
  subst e
  obtain ⟨v, w, rfl, r1, r2⟩ := reps2 r
  refine ⟨i, j, by rw [r1.int_inv, r2.int_inv], ?_⟩
  rw [show (if j < i then j else i) = min i j by rw [Int.min_def]; split <;> split <;> omega]
  exact g _ _ _ _ (.refl s) (.int _) q
/-! ## methods of texts -/
theorem l_m1S {f : Str → Str → Str} {C : Str → Str → Prop} : LmR K (fun x xs H Q => ∃ a b, x = .str a ∧ xs = [.str b] ∧ C a b ∧ Q (.str (f a b)) H) (fun a ds Q => ∃ s z, a = .str s ∧ ds = [.str z] ∧ C s z ∧ Q (.str (f s z))) := fun G H x vs a ds Q R s r rs ⟨z, y, e1, e2, c, q⟩ g => by
  subst e1 e2
  obtain ⟨v, rfl, r1⟩ := reps1 rs
  exact ⟨z, y, r.str_inv, by rw [r1.str_inv], c, g _ _ _ _ (.refl s) (.str _) q⟩
theorem l_m0B {f : Str → Bool} : LmR K (fun x xs H Q => ∃ a, x = .str a ∧ xs = [] ∧ True ∧ Q (.bl (f a)) H) (fun a ds Q => ∃ s, a = .str s ∧ ds = [] ∧ Q (.bl (f s))) := fun G H x vs a ds Q R s r rs ⟨z, e1, e2, q⟩ g => by
  subst e1 e2
  have : vs = [] := List.length_eq_zero_iff.mp rs.1
  exact ⟨z, r.str_inv, this, trivial, g _ _ _ _ (.refl s) (.bl _) q⟩
theorem l_m1B {f : Str → Str → Bool} : LmR K (fun x xs H Q => ∃ a b, x = .str a ∧ xs = [.str b] ∧ Q (.bl (f a b)) H) (fun a ds Q => ∃ s z, a = .str s ∧ ds = [.str z] ∧ Q (.bl (f s z))) := fun G H x vs a ds Q R s r rs ⟨z, y, e1, e2, q⟩ g => by
  subst e1 e2
  obtain ⟨v, rfl, r1⟩ := reps1 rs
  exact ⟨z, y, r.str_inv, by rw [r1.str_inv], g _ _ _ _ (.refl s) (.bl _) q⟩
theorem l_part : LmR K (fun x xs H Q => ∃ a b, x = .str a ∧ xs = [.str b] ∧ (b.length == 0) = false ∧ a.length ≤ sizeLine ∧ ∀ p, H p = none → Q (.ref p) (upd H p (.tup [.str (Txt.partition a b).1, .str (Txt.partition a b).2.1, .str (Txt.partition a b).2.2])))
    (fun a ds Q => ∃ s z, a = .str s ∧ ds = [.str z] ∧ (z.length == 0) = false ∧ s.length ≤ sizeLine ∧ Q (.tup [.str (Txt.partition s z).1, .str (Txt.partition s z).2.1, .str (Txt.partition s z).2.2])) := fun G H x vs a ds Q R s r rs ⟨z, y, e1, e2, h1, h2, q⟩ g => by
  subst e1 e2
  obtain ⟨v, rfl, r1⟩ := reps1 rs
  refine ⟨z, y, r.str_inv, by rw [r1.str_inv], h1, h2, fun p n => ?_⟩
  have x2 : Ext G H (upd G p (.tup [.str (Txt.partition z y).1, .str (Txt.partition z y).2.1, .str (Txt.partition z y).2.2])) (upd H p (.tup [.str (Txt.partition z y).1, .str (Txt.partition z y).2.1, .str (Txt.partition z y).2.2])) := Ext.nw s n
  have rr : Reps K (upd G p (.tup [.str (Txt.partition z y).1, .str (Txt.partition z y).2.1, .str (Txt.partition z y).2.2])) [.str (Txt.partition z y).1, .str (Txt.partition z y).2.1, .str (Txt.partition z y).2.2] [.str (Txt.partition z y).1, .str (Txt.partition z y).2.1, .str (Txt.partition z y).2.2] :=
    ((Reps.one (.str _)).cons (.str _)).cons (.str _)
  exact g _ _ _ _ x2 (.tup (SqT.of upd_same) rr.1 rr.2) q
theorem reps_strs {G : Hp} (ys : List Str) : Reps K G (ys.map V.str) (ys.map D.str) := by
  refine ⟨by simp, fun i v d h1 h2 => ?_⟩
  rw [List.getElem?_map] at h1 h2
  cases e : ys[i]? with
  | none =>
    rw [e] at h1
    cases h1
  | some n =>
    rw [e] at h1 h2
    cases h1
    cases h2
    exact .str n
theorem Reps.strs {G : Hp} {vs : List V} {ys : List Str} (r : Reps K G vs (ys.map D.str)) : vs = ys.map V.str := by
  refine List.ext_getElem? fun i => ?_
  cases h : vs[i]? with
  | none =>
    have : vs.length ≤ i := List.getElem?_eq_none_iff.mp h
    rw [r.1, List.length_map] at this
    exact (List.getElem?_eq_none_iff.mpr (by rw [List.length_map]; exact this)).symm
  | some v =>
    obtain ⟨d, hd, q⟩ := r.at' h
    rw [List.getElem?_map] at hd
    cases e : ys[i]? with
    | none =>
      rw [e] at hd
      cases hd
    | some n =>
      rw [e] at hd
      cases hd
      cases q
      rw [List.getElem?_map, e]
      rfl
theorem l_split : LmN K (fun x xs H Q => ∃ a b, x = .str a ∧ xs = [.str b] ∧ (b.length == 0) = false ∧ a.length + 2 ≤ sizeLine ∧ rNewStrs (Txt.split a b) H Q) (fun a ds Q => ∃ s z, a = .str s ∧ ds = [.str z] ∧ (z.length == 0) = false ∧ s.length + 2 ≤ sizeLine ∧ Q ((Txt.split s z).map D.str)) :=
  fun G H x vs a ds Q R s r rs ⟨z, y, e1, e2, h1, h2, q⟩ g => by
  subst e1 e2
  obtain ⟨v, rfl, r1⟩ := reps1 rs
  exact ⟨z, y, r.str_inv, by rw [r1.str_inv], h1, h2, fun p n => g p _ _ H G _ (.refl s) n rfl (reps_strs _) q⟩
theorem l_join : LmR K (fun x xs H Q => ∃ a p ys, x = .str a ∧ xs = [.ref p] ∧ (SqL K H p (ys.map V.str) ∨ SqT K H p (ys.map V.str)) ∧ (ys.map (fun x => x.length)).sum + ys.length * a.length ≤ 16777216 ∧ Q (.str (Txt.join a ys)) H)
    (fun a ds Q => ∃ (s : Str) (ys : List Str), a = .str s ∧ ds = [.lst (ys.map D.str)] ∧ (ys.map (fun x => x.length)).sum + ys.length * s.length ≤ 16777216 ∧ Q (.str (Txt.join s ys))) := fun G H x vs a ds Q R s r rs ⟨z, ys, e1, e2, h, q⟩ g => by
  subst e1 e2
  obtain ⟨v, rfl, r1⟩ := reps1 rs
  obtain ⟨p, ws, rfl, h1, h2⟩ := r1.lst_inv
  rw [h2.strs] at h1
  exact ⟨z, p, ys, r.str_inv, rfl, .inl (s.seq h1), h, g _ _ _ _ (.refl s) (.str _) q⟩
/-! ## f-strings -/
inductive PDJ (X : Cx) (W : WX) : List Expr → List DT → Prop where
  | nil : PDJ X W [] []
  | cons {e : Expr} {t : DT} {es : List Expr} {ts : List DT} (h : PD X W e t) (r : PDJ X W es ts) : PDJ X W (e :: es) (t :: ts)
def dJs : List DT → Str → DE → (Str → Prop) → EX → Prop
  | [], acc, _, Q, _ => Q acc
  | t :: ts, acc, env, Q, ex => t env (fun d => ∃ y : Str, d = .str y ∧ (acc ++ y).length ≤ sizeLine ∧ dJs ts (acc ++ y) env Q ex) ex
theorem pdj {es : List Expr} {ts : List DT} (h : PDJ X W es ts) : ∃ ss, PJ X es ss ∧ ∀ (H0 G0 G H : Hp) (σ : L2.St) (env : DE) (Q : Str → Prop) (ex : EX) (R : Str → Hp → Prop) (acc : Str), SR X.K H0 G0 G H σ env → LkE X.K H0 G0 G W σ env ex → dJs ts acc env Q ex → (∀ o H' G', Ext G H G' H' → Q o → R o H') → tJs ss acc σ H R := by
  induction h with
  | nil => exact ⟨[], .nil, fun H0 G0 G H σ env Q ex R acc S L q g => g _ H G (.refl S.sub) q⟩
  | @cons e t es ts h _ ih =>
    obtain ⟨s, p, l⟩ := h.of
    obtain ⟨ss, ps, ls⟩ := ih
    refine ⟨s :: ss, .cons p ps, fun H0 G0 G H σ env Q ex R acc S L q g => l H0 G0 G H σ env _ ex _ S L q fun v H1 G1 d x1 r1 ⟨y, e1, hz, q1⟩ => ?_⟩
    subst e1
    exact ⟨y, r1.str_inv, hz, ls H0 G0 G1 H1 σ env Q ex R _ (S.ex x1) (L.mono x1.gg) q1 fun o H2 G2 x2 q2 => g o H2 G2 (x1.trans x2) q2⟩
def dJoined (ts : List DT) : DT := fun env Q ex => dJs ts Str.empty env (fun o => Q (.str o)) ex
theorem pd_joined {v1 v2 : Expr} {rest : List Expr} {ts : List DT} {pos : Pos} (h : PDJ X W (v1 :: v2 :: rest) ts) : PD X W (.JoinedStr (v1 :: v2 :: rest) pos) (dJoined ts) := by
  obtain ⟨ss, p, l⟩ := pdj h
  exact ⟨_, pe_joined p, fun H0 G0 G H σ env Q ex R S L q g => l H0 G0 G H σ env _ ex _ Str.empty S L q fun o H' G' x q' => g _ H' G' _ x (.str o) q'⟩
def dFmt (t : DT) : DT := fun env Q ex => t env (fun d => (∃ y : Str, d = .str y ∧ y.length ≤ sizeLine ∧ Q (.str y)) ∨ ∃ i : Int, d = .int i ∧ i.natAbs.log2 < 1920 ∧ Q (.str (toString i))) ex
theorem pd_fmt {e : Expr} {t : DT} {pos : Pos} (h : PD X W e t) : PD X W (.FormattedValue e (-1) none pos) (dFmt t) := by
  obtain ⟨_, p, l⟩ := h.of
  refine ⟨_, pe_fmt p, fun H0 G0 G H σ env Q ex R S L q g => l H0 G0 G H σ env _ ex _ S L q fun v H1 G1 d x1 r1 q1 => ?_⟩
  rcases q1 with ⟨y, e1, hz, q1⟩ | ⟨i, e1, hz, q1⟩
  · subst e1
    exact .inl ⟨y, r1.str_inv, hz, g _ H1 G1 _ x1 (.str _) q1⟩
  · subst e1
    exact .inr ⟨i, r1.int_inv, hz, g _ H1 G1 _ x1 (.str _) q1⟩
/-! ## data as a whole -/
mutual
def toP : D → PyData
  | .non => .none | .bl b => .bool b | .int i => .int i | .str s => .str s | .lst l => .list (toPs l) | .tup l => .tuple (toPs l) | .ins _ _ => .none
def toPs : List D → List PyData
  | [] => []
  | d :: r => toP d :: toPs r
end
mutual
def plainD : D → Bool
  | .ins _ _ => false | .lst l => plainDs l | .tup l => plainDs l | _ => true
def plainDs : List D → Bool
  | [] => true
  | d :: r => plainD d && plainDs r
end
theorem dpAll {H : Hp} {l : List D} : ∀ {m : List D} {vs : List V}, vs.length = m.length → plainDs m = true → (∀ (i : Nat) v d, vs[i]? = some v → m[i]? = some d → plainD d = true → Dp K H v (toP d)) → DpAll K H vs (toPs m)
  | [], [], _, _, _ => .nil
  | [], _ :: _, h, _, _ => by simp at h
  | _ :: _, [], h, _, _ => by simp at h
  | d :: m, v :: vs, h, hp, k => by
    rw [plainDs, Bool.and_eq_true] at hp
    rw [toPs]
    exact .cons (k 0 v d rfl rfl hp.1) (dpAll (l := l) (by simpa using h) hp.2 fun i v d h1 h2 => k (i + 1) v d (by simpa using h1) (by simpa using h2))
theorem Rep.dp {G H : Hp} {v : V} {d : D} (r : Rep K G v d) (s : Same G H) (hp : plainD d = true) : Dp K H v (toP d) := by
  induction r with
  | non => rw [toP]; exact .non
  | bl b => rw [toP]; exact .bl b
  | int i => rw [toP]; exact .int i
  | str x => rw [toP]; exact .str x
  | lst h n q ih =>
    rw [toP]
    rw [plainD] at hp
    exact .lst (s.seq h) (dpAll (l := []) n hp fun i v d h1 h2 h3 => ih i v d h1 h2 h3)
  | tup h n q ih =>
    rw [toP]
    rw [plainD] at hp
    exact .tup (sqT_same s h) (dpAll (l := []) n hp fun i v d h1 h2 h3 => ih i v d h1 h2 h3)
  | ins h m n q ih =>
    rw [plainD] at hp
    cases hp
def okD (d : D) : Bool := plainD d && SeqAt.shaped (toP d)
def eqD (a b : D) : Bool := PyData.eqv (toP a) (toP b)
def dEqD : R2D := fun a b Q => okD a = true ∧ okD b = true ∧ Q (.bl (eqD a b))
def dNeD : R2D := fun a b Q => okD a = true ∧ okD b = true ∧ Q (.bl (!eqD a b))
theorem l_eqD : L2R K (rEqD K) dEqD := fun G H x y a b Q R s r1 r2 ⟨h1, h2, q⟩ g => by
  obtain ⟨p1, s1⟩ := Bool.and_eq_true_iff.mp h1
  obtain ⟨p2, s2⟩ := Bool.and_eq_true_iff.mp h2
  exact ⟨_, _, r1.dp s p1, r2.dp s p2, s1, s2, g _ _ _ _ (.refl s) (.bl _) q⟩
theorem l_neD : L2R K (rNeD K) dNeD := fun G H x y a b Q R s r1 r2 ⟨h1, h2, q⟩ g => by
  obtain ⟨p1, s1⟩ := Bool.and_eq_true_iff.mp h1
  obtain ⟨p2, s2⟩ := Bool.and_eq_true_iff.mp h2
  exact ⟨_, _, r1.dp s p1, r2.dp s p2, s1, s2, g _ _ _ _ (.refl s) (.bl _) q⟩
end
end DL

namespace DL
open PySem PySem.Spec PyProof.Rows L2 LR
/-! ## isinstance -/
inductive Cr where
  | int | bool | str | list | tuple | own (c : Nat)
  deriving DecidableEq
def crV (K : PySem.W.Frag) : Cr → Value
  | .int => .type "int" | .bool => .type "bool" | .str => .type "str" | .list => .type "list" | .tuple => .type "tuple" | .own c => .ref (He.ga K (cname c))
def crW (K : PySem.W.Frag) : Cr → V
  | .int => .ty "int" | .bool => .ty "bool" | .str => .ty "str" | .list => .ty "list" | .tuple => .ty "tuple" | .own c => .ref (He.ga K (cname c))
theorem crClsV (K : PySem.W.Frag) (c : Cr) : ClsV (crW K c) (crV K c) := by
  cases c <;> first | exact .ty _ | exact .own _
def isD : D → Cr → Bool
  | .int _, .int => true | .bl _, .int => true | .bl _, .bool => true | .str _, .str => true | .lst _, .list => true | .tup _, .tuple => true | .ins c _, .own c' => c == c' | _, _ => false
def tyD (K : PySem.W.Frag) : D → Value
  | .non => .type "NoneType" | .bl _ => .type "bool" | .int _ => .type "int" | .str _ => .type "str" | .lst _ => .type "list" | .tup _ => .type "tuple" | .ins c _ => .ref (He.ga K (cname c))
/-- the own classes cs: what isinstance and == ask of them -/
structure Isi (cs : List Nat) (K : PySem.W.Frag) : Prop where
  cl : ∀ c ∈ cs, clAll K (cname c) = true
  k1 : ∀ c ∈ cs, ∀ t ∈ base6, PySem.W.kitOne K (.type t) (.ref (He.ga K (cname c))) = some false
  k2 : ∀ c ∈ cs, ∀ t ∈ base6, PySem.W.kitOne K (.ref (He.ga K (cname c))) (.type t) = some false
  n1 : ∀ c ∈ cs, ∀ t ∈ base6, PySem.W.notFirst K (He.ga K (cname c)) (.type t) = true
  k3 : ∀ c ∈ cs, ∀ c' ∈ cs, PySem.W.kitOne K (.ref (He.ga K (cname c))) (.ref (He.ga K (cname c'))) = some (c == c')
  n2 : ∀ c ∈ cs, ∀ c' ∈ cs, PySem.W.notFirst K (He.ga K (cname c)) (.ref (He.ga K (cname c'))) = true
theorem Isi.of {cs : List Nat} {K : PySem.W.Frag} (h : isiB cs K = true) : Isi cs K := by
  unfold isiB at h
  simp only [List.all_eq_true, Bool.and_eq_true, decide_eq_true_eq] at h
  exact ⟨fun c hc => (h c hc).1, fun c hc t ht => ((h c hc).2.1 t ht).1, fun c hc t ht => ((h c hc).2.1 t ht).2.1, fun c hc t ht => ((h c hc).2.1 t ht).2.2, fun c hc c' hc' => ((h c hc).2.2 c' hc').1, fun c hc c' hc' => ((h c hc).2.2 c' hc').2⟩
/-- a datum whose type is told -/
def kind (cs : List Nat) : D → Bool
  | .ins c _ => cs.contains c | _ => true
section
variable {K : PySem.W.Frag} {cs : List Nat}
theorem rep_ty {G H : Hp} {v : V} {d : D} (I : Isi cs K) (hc : ∀ c ∈ cs, Cls K (He.ga K (cname c))) (r : Rep K G v d) (s : Same G H) (hk : kind cs d = true) : TyX K H v (tyD K d) := by
  cases r with
  | non => exact .base .non
  | bl b => exact .base (.bl b)
  | int i => exact .base (.int i)
  | str x => exact .base (.str x)
  | lst h n q =>
    rcases s.seq h with (h | ⟨o, h⟩) | ⟨o, its, n', e1, e2, _⟩
    · exact .base (.lst h)
    · exact .base (.frz h)
    · exact .kList e1 e2
  | tup h n q =>
    rcases sqT_same s h with (h | ⟨o, h⟩) | ⟨o, its, n', e1, e2, _⟩
    · exact .base (.tup h)
    · exact .fTuple h
    · exact .kTuple e1 e2
  | @ins a dx c vs l h m n q =>
    have hcs : c ∈ cs := by unfold kind at hk; simpa using hk
    have z := I.cl c hcs
    unfold clAll at z
    simp only [Bool.and_eq_true, decide_eq_true_eq] at z
    obtain ⟨_, _, _, q4, q5, q6, q7⟩ := z
    exact .base (.ins (s _ _ h) (hc c hcs) q4 q5 q6 q7)
theorem kit_cr (I : Isi cs K) {d : D} {cr : Cr} (hk : kind cs d = true) (hcr : ∀ c, cr = .own c → c ∈ cs) : PySem.W.kitOne K (tyD K d) (crV K cr) = some (isD d cr) := by
  cases cr with
  | own c =>
    have hc := hcr c rfl
    cases d with
    | ins c' l =>
      have hcs : c' ∈ cs := by unfold kind at hk; simpa using hk
      exact I.k3 c' hcs c hc
    | non => exact I.k1 c hc "NoneType" (by decide)
    | bl b => exact I.k1 c hc "bool" (by decide)
    | int i => exact I.k1 c hc "int" (by decide)
    | str s => exact I.k1 c hc "str" (by decide)
    | lst l => exact I.k1 c hc "list" (by decide)
    | tup l => exact I.k1 c hc "tuple" (by decide)
  | int =>
    cases d with
    | ins c' l => exact I.k2 c' (by unfold kind at hk; simpa using hk) "int" (by decide)
    | non => exact kit_ty (a := "NoneType") (b := "int") (r := false) (by decide +kernel)
    | bl b => exact kit_ty (a := "bool") (b := "int") (r := true) (by decide +kernel)
    | int i => exact kit_ty (a := "int") (b := "int") (r := true) (by decide +kernel)
    | str s => exact kit_ty (a := "str") (b := "int") (r := false) (by decide +kernel)
    | lst l => exact kit_ty (a := "list") (b := "int") (r := false) (by decide +kernel)
    | tup l => exact kit_ty (a := "tuple") (b := "int") (r := false) (by decide +kernel)
  | bool =>
    cases d with
    | ins c' l => exact I.k2 c' (by unfold kind at hk; simpa using hk) "bool" (by decide)
    | non => exact kit_ty (a := "NoneType") (b := "bool") (r := false) (by decide +kernel)
    | bl b => exact kit_ty (a := "bool") (b := "bool") (r := true) (by decide +kernel)
    | int i => exact kit_ty (a := "int") (b := "bool") (r := false) (by decide +kernel)
    | str s => exact kit_ty (a := "str") (b := "bool") (r := false) (by decide +kernel)
    | lst l => exact kit_ty (a := "list") (b := "bool") (r := false) (by decide +kernel)
    | tup l => exact kit_ty (a := "tuple") (b := "bool") (r := false) (by decide +kernel)
  | str =>
    cases d with
    | ins c' l => exact I.k2 c' (by unfold kind at hk; simpa using hk) "str" (by decide)
    | non => exact kit_ty (a := "NoneType") (b := "str") (r := false) (by decide +kernel)
    | bl b => exact kit_ty (a := "bool") (b := "str") (r := false) (by decide +kernel)
    | int i => exact kit_ty (a := "int") (b := "str") (r := false) (by decide +kernel)
    | str s => exact kit_ty (a := "str") (b := "str") (r := true) (by decide +kernel)
    | lst l => exact kit_ty (a := "list") (b := "str") (r := false) (by decide +kernel)
    | tup l => exact kit_ty (a := "tuple") (b := "str") (r := false) (by decide +kernel)
  | list =>
    cases d with
    | ins c' l => exact I.k2 c' (by unfold kind at hk; simpa using hk) "list" (by decide)
    | non => exact kit_ty (a := "NoneType") (b := "list") (r := false) (by decide +kernel)
    | bl b => exact kit_ty (a := "bool") (b := "list") (r := false) (by decide +kernel)
    | int i => exact kit_ty (a := "int") (b := "list") (r := false) (by decide +kernel)
    | str s => exact kit_ty (a := "str") (b := "list") (r := false) (by decide +kernel)
    | lst l => exact kit_ty (a := "list") (b := "list") (r := true) (by decide +kernel)
    | tup l => exact kit_ty (a := "tuple") (b := "list") (r := false) (by decide +kernel)
  | tuple =>
    cases d with
    | ins c' l => exact I.k2 c' (by unfold kind at hk; simpa using hk) "tuple" (by decide)
    | non => exact kit_ty (a := "NoneType") (b := "tuple") (r := false) (by decide +kernel)
    | bl b => exact kit_ty (a := "bool") (b := "tuple") (r := false) (by decide +kernel)
    | int i => exact kit_ty (a := "int") (b := "tuple") (r := false) (by decide +kernel)
    | str s => exact kit_ty (a := "str") (b := "tuple") (r := false) (by decide +kernel)
    | lst l => exact kit_ty (a := "list") (b := "tuple") (r := false) (by decide +kernel)
    | tup l => exact kit_ty (a := "tuple") (b := "tuple") (r := true) (by decide +kernel)
end
section
variable {X : Cx} {W : WX} {a b c e o : Expr} {es : List Expr} {ta tb : DT} {t : DTA} {pos p apos : Pos} {cs : List Nat}
def dIsi (cs : List Nat) (cr : Cr) (ta : DT) : DT := fun env Q ex => ta env (fun d => kind cs d = true ∧ Q (.bl (isD d cr))) ex
theorem pd_isi {cr : Cr} (I : Isi cs X.K) (hc : ∀ c ∈ cs, Cls X.K (He.ga X.K (cname c))) (hcr : ∀ c, cr = .own c → c ∈ cs) (mk : ∀ {sa : TE}, PE X e sa → PE X c (tCB (rIsi X.K) (tCons sa (tCons (tC (crW X.K cr)) tNil)))) (ha : PD X W e ta) : PD X W c (dIsi cs cr ta) := by
  obtain ⟨_, pa, la⟩ := ha.of
  refine ⟨_, mk pa, fun H0 G0 G H σ env Q ex R S L q g => la H0 G0 G H σ env _ ex _ S L q fun v H1 G1 d x1 r1 ⟨hk, q1⟩ => ?_⟩
  exact ⟨v, _, _, _, _, rfl, crClsV _ cr, rep_ty I hc r1 x1.sub hk, kit_cr I hk hcr, g _ H1 G1 _ x1 (.bl _) q1⟩
/-- isinstance(x, (A, B)) -/
def dIsi2 (cs : List Nat) (c1 c2 : Cr) (ta : DT) : DT := fun env Q ex => ta env (fun d => kind cs d = true ∧ Q (.bl (isD d c1 || isD d c2))) ex
theorem pd_isi2 {c1 c2 : Cr} (I : Isi cs X.K) (hc : ∀ c ∈ cs, Cls X.K (He.ga X.K (cname c))) (hcr : ∀ c, c1 = .own c → c ∈ cs) (hcr2 : ∀ c, c2 = .own c → c ∈ cs)
    (mk : ∀ {sa : TE}, PE X e sa → PE X c (tCB (rIsiT X.K) (tCons sa (tCons (tTup (tCons (tC (crW X.K c1)) (tCons (tC (crW X.K c2)) tNil))) tNil)))) (ha : PD X W e ta) : PD X W c (dIsi2 cs c1 c2 ta) := by
  obtain ⟨_, pa, la⟩ := ha.of
  refine ⟨_, mk pa, fun H0 G0 G H σ env Q ex R S L q g => la H0 G0 G H σ env _ ex _ S L q fun v H1 G1 d x1 r1 ⟨hk, q1⟩ => ⟨by show 2 ≤ sizeLine; decide, fun pp n => ?_⟩⟩
  refine ⟨v, pp, _, _, [crV X.K c1, crV X.K c2], _, rfl, upd_same, .cons (crClsV _ c1) (.cons (crClsV _ c2) .nil), rep_ty I hc r1 (same_new' x1.sub n) hk, ?_, g _ _ G1 _ (x1.trans (Ext.hid x1.sub n)) (.bl _) q1⟩
  refine kitAny_cons (kit_cr I hk hcr) (fun h1 => ?_) (fun h1 => by rw [h1]; rfl)
  refine kitAny_cons (kit_cr I hk hcr2) (fun h2 => ?_) (fun h2 => by rw [h2, Bool.or_true])
  rw [h1, h2]
  rfl
/-! ## own operators -/
variable {k n : Nat} {f : Addr} {Pm : Prm} {x m : Str}
def dBinO (c : Nat) (P : Prm) : R2D := fun a b Q => (∃ l, a = .ins c l) ∧ (∃ l, b = .ins c l) ∧ P [a, b] Q (fun _ _ => False)
theorem l_binO {K : PySem.W.Frag} {c : Nat} {E : XK} (hn : ∀ ds Q ex, Pm ds Q ex → ds.length = 2) : L2R K (rBinO (He.ga K (cname c)) (spD K 2 Pm) E) (dBinO c Pm) := fun G H x y a b Q R s r1 r2 ⟨⟨l, e1⟩, ⟨m, e2⟩, q⟩ g => by
  subst e1 e2
  obtain ⟨p, dx, ws, rfl, hp, _, _⟩ := id r1.ins_inv
  obtain ⟨p', dx', ws', rfl, hp', _, _⟩ := id r2.ins_inv
  exact ⟨p, dx, _, p', dx', _, rfl, rfl, s _ _ hp, s _ _ hp', sp_call0 s hn ((Reps.one r2).cons r1) q g⟩
def dUnO (c : Nat) (P : Prm) : D → (D → Prop) → Prop := fun a Q => (∃ l, a = .ins c l) ∧ P [a] Q (fun _ _ => False)
theorem l_unO {K : PySem.W.Frag} {c : Nat} {E : XK} (hn : ∀ ds Q ex, Pm ds Q ex → ds.length = 1) : L1R K (rUnO (He.ga K (cname c)) (spD K 1 Pm) E) (dUnO c Pm) := fun G H x a Q R s r1 ⟨⟨l, e1⟩, q⟩ g => by
  subst e1
  obtain ⟨p, dx, ws, rfl, hp, _, _⟩ := id r1.ins_inv
  exact ⟨p, dx, _, rfl, s _ _ hp, sp_call0 s hn (Reps.one r1) q g⟩
theorem l_absO {K : PySem.W.Frag} {c : Nat} {E : XK} (hn : ∀ ds Q ex, Pm ds Q ex → ds.length = 1) : LcR K (fun xs H Q => ∃ (a dx : Addr) (fs : List (Str × V)), xs = [.ref a] ∧ H a = some (.ins (He.ga K (cname c)) dx fs) ∧ spD K 1 Pm [.ref a] H Q E) (fun ds Q => ∃ l, ds = [.ins c l] ∧ Pm ds Q (fun _ _ => False)) :=
  fun G H vs ds Q R s r ⟨l, e1, q⟩ g => by
  subst e1
  obtain ⟨v, rfl, r1⟩ := reps1 r
  obtain ⟨p, dx, ws, rfl, hp, _, _⟩ := id r1.ins_inv
  exact ⟨p, dx, _, rfl, s _ _ hp, sp_call0 s hn (Reps.one r1) q g⟩
/-- == by an own __eq__ -/
def dCmpO (cs : List Nat) (c : Nat) (P : Prm) : R2D := fun a b Q => (∃ l, a = .ins c l) ∧ kind cs b = true ∧ P [a, b] Q (fun _ _ => False)
theorem nf_of {K : PySem.W.Frag} (I : Isi cs K) {c : Nat} (hc : c ∈ cs) {d : D} (hk : kind cs d = true) : PySem.W.notFirst K (He.ga K (cname c)) (tyD K d) = true := by
  cases d with
  | ins c' l => exact I.n2 c hc c' (by unfold kind at hk; simpa using hk)
  | non => exact I.n1 c hc "NoneType" (by decide)
  | bl b => exact I.n1 c hc "bool" (by decide)
  | int i => exact I.n1 c hc "int" (by decide)
  | str s => exact I.n1 c hc "str" (by decide)
  | lst l => exact I.n1 c hc "list" (by decide)
  | tup l => exact I.n1 c hc "tuple" (by decide)
theorem l_cmpO {K : PySem.W.Frag} {c : Nat} {E : XK} (I : Isi cs K) (hcl : ∀ c ∈ cs, Cls K (He.ga K (cname c))) (hc : c ∈ cs) (hn : ∀ ds Q ex, Pm ds Q ex → ds.length = 2) : L2R K (rCmpO (He.ga K (cname c)) (spD K 2 Pm) E K) (dCmpO cs c Pm) := fun G H x y a b Q R s r1 r2 ⟨⟨l, e1⟩, hk, q⟩ g => by
  subst e1
  obtain ⟨p, dx, ws, rfl, hp, _, _⟩ := id r1.ins_inv
  exact ⟨p, dx, _, _, rfl, s _ _ hp, rep_ty I hcl r2 s hk, nf_of I hc hk, sp_call0 s hn ((Reps.one r2).cons r1) q g⟩
def dNeO (cs : List Nat) (c : Nat) (P : Prm) : R2D := fun a b Q => (∃ l, a = .ins c l) ∧ kind cs b = true ∧ P [a, b] (fun d => ∃ k, d = .bl k ∧ Q (.bl (!k))) (fun _ _ => False)
theorem l_neO {K : PySem.W.Frag} {c : Nat} {E : XK} (I : Isi cs K) (hcl : ∀ c ∈ cs, Cls K (He.ga K (cname c))) (hc : c ∈ cs) (hn : ∀ ds Q ex, Pm ds Q ex → ds.length = 2) : L2R K (rNeO (He.ga K (cname c)) (spD K 2 Pm) E K) (dNeO cs c Pm) := fun G H x y a b Q R s r1 r2 ⟨⟨l, e1⟩, hk, q⟩ g => by
  subst e1
  obtain ⟨p, dx, ws, rfl, hp, _, _⟩ := id r1.ins_inv
  refine ⟨p, dx, _, _, rfl, s _ _ hp, rep_ty I hcl r2 s hk, nf_of I hc hk, sp_call0 s hn ((Reps.one r2).cons r1) q fun v H' G' d x r ⟨kk, e, q'⟩ => ?_⟩
  subst e
  exact ⟨kk, r.bl_inv, g _ H' G' _ x (.bl _) q'⟩
/-- str(x) by an own __str__ -/
theorem call_strO {C : Addr} {fd : FuncData} {ps : List Str} {sp : Sp} {E : XK} {CX : CXT} (hs : PySem.W.findIn X.K (.ref C) "__str__" = some (some (.ref f))) (hf : PySem.W.isFn X.K (.ref f) = true)
    (F : FnOk X.prog X.w X.K X.mg X.base CX k f fd ps sp) (hr : Room (k + 2) X.A) (hb : Binds X.K fd ps []) (hx : Passes CX X.nox E) : CallR X (.type "str") (fun xs H Q => ∃ (a dx : Addr) (fs : List (Str × V)), xs = [.ref a] ∧ H a = some (.ins C dx fs) ∧ sp [.ref a] H (fun v H' => ∃ s : Str, v = .str s ∧ Q v H') E) := by
  intro pins s σ H xs us Q I r h
  obtain ⟨a, dx, fs, rfl, ha, q⟩ := h
  obtain ⟨u, rfl, ru⟩ := vals1 r
  cases ru
  obtain ⟨mA, J, _⟩ := ins_get I.hok ha
  obtain ⟨od, J, _⟩ := J.look
  have hl : [Value.ref a].length = ps.length := by
    rw [← F.len _ _ _ _ q]
    rfl
  have hu : X.A.in1.in1.units < cLine := hr.in1.in1.units0
  refine PySem.W.kso_call hu I.kIn J hs hf (wpAny_call (codeAny_mono (F.run X.A.in1.in1 X.stack s H ⟨[.ref a], []⟩ [.ref a] [.ref a] _ E hr.in1.in1 I.env0.in1.in1 (by simpa using hb s [.ref a] I.kIn (by simpa using hl)) (.cons rfl .nil) q) fun r s' hq => ?_))
  cases r with
  | error er => exact False.elim (hx pins σ H s er s' (I.wish _) hq)
  | ok fl =>
    cases fl with
    | ret w =>
      obtain ⟨v, H', I', rv, z, rfl, q3⟩ := I.after hq
      obtain ⟨t', rfl⟩ := rv
      exact ⟨.str z, H', I', ⟨t', rfl⟩, q3⟩
    | next => exact False.elim hq
    | brk => exact False.elim hq
    | cont => exact False.elim hq
theorem l_strO {K : PySem.W.Frag} {c : Nat} {E : XK} (hn : ∀ ds Q ex, Pm ds Q ex → ds.length = 1) : LcR K (fun xs H Q => ∃ (a dx : Addr) (fs : List (Str × V)), xs = [.ref a] ∧ H a = some (.ins (He.ga K (cname c)) dx fs) ∧ spD K 1 Pm [.ref a] H (fun v H' => ∃ s : Str, v = .str s ∧ Q v H') E)
    (fun ds Q => ∃ l, ds = [.ins c l] ∧ Pm ds (fun d => ∃ s, d = .str s ∧ Q d) (fun _ _ => False)) := fun G H vs ds Q R s r ⟨l, e1, q⟩ g => by
  subst e1
  obtain ⟨v, rfl, r1⟩ := reps1 r
  obtain ⟨p, dx, ws, rfl, hp, _, _⟩ := id r1.ins_inv
  refine ⟨p, dx, _, rfl, s _ _ hp, sp_call0 s hn (Reps.one r1) q fun v H' G' d x r ⟨z, e, q'⟩ => ?_⟩
  subst e
  exact ⟨z, r.str_inv, g _ H' G' _ x r q'⟩
/-! ## static methods -/
structure SmOk (K : PySem.W.Frag) (x m : Str) : Prop where
  rd : PySem.W.readsIn K (He.ga K x) (.type "type") = true
  ga : PySem.W.specialIn K (.ref (He.ga K x)) "__getattribute__" = some (some (.builtin "type.__getattribute__"))
  at_ : PySem.W.findCls K (.ref (He.ga K x)) (.type "type") m = some (.get (.builtin "staticmethod.__get__") (.ref (smP K x m)) .none (.ref (He.ga K x)))
  rc : ∃ rest, PySem.W.recIn K (smP K x m) "staticmethod" = some (.ref (smF K x m) :: rest)
  kp : PySem.W.keepIn K (.ref (smF K x m)) = true
theorem SmOk.of {K : PySem.W.Frag} {x m : Str} (h : smB K x m = true) : SmOk K x m := by
  unfold smB at h
  simp only [Bool.and_eq_true, decide_eq_true_eq] at h
  obtain ⟨h1, h2, h3, h4, h5⟩ := h
  refine ⟨h1, h2, ?_, ?_, h5⟩
  · split at h3
    · rename_i g p ob tp e
      simp only [Bool.and_eq_true, decide_eq_true_eq] at h3
      obtain ⟨rfl, rfl, rfl, rfl⟩ := h3
      exact e
    · cases h3
  · split at h4
    · rename_i f rest e
      exact ⟨rest, by rw [e, of_decide_eq_true h4]⟩
    · cases h4
theorem getmethsm_ok {pins : List (Addr × Obj)} {σ : L2.St} {H : Hp} {s : Shared} {A : Around} {E : Value → Shared → Prop} {pl : Sem Bool} {Q : Value × List Value → Shared → Prop} (I : L2.Inv X pins σ H s) (r : SmOk X.K x m)
    (h : ∀ s', L2.Inv X pins σ H s' → Q (.ref (smF X.K x m), []) s') : wpAny (model X.prog X.w) A (getMethod (.ref (He.ga X.K x)) m pl) Q E s := by
  obtain ⟨rest, hp⟩ := r.rc
  refine PySem.W.method_cls I.kIn r.ga (PySem.W.cls_bind I.kIn r.rd r.at_ ?_)
  exact wpAny_call (PySem.W.sm_get (s := { s with toks := s.toks + 1 }) I.kIn hp (PySem.W.handed_on rfl (h _ (I.tok _))))
def tSm (sp : Sp) (E : L2.St → XK) (t : TA) : TE := fun σ H Q => t σ H fun vs H1 => sp vs H1 Q (E σ)
theorem pe_sm {pl : Sem Bool} {fd : FuncData} {ps : List Str} {sp : Sp} {E : L2.St → XK} {CX : CXT} {sa : TA} (hg : Gl X x) (hm : X.mg x = some (.ref (He.ga X.K x))) (r : SmOk X.K x m) (F : FnOk X.prog X.w X.K X.mg X.base CX k (smF X.K x m) fd ps sp) (hr : Room k X.A) (hb : Binds X.K fd ps []) (hx : ∀ σ, PassesAt CX X σ (E σ)) (ha : PA X (e :: es) sa)
    (hdb : (x == ("__debug__" : Str)) = false := by decide)
    (hst : starEach (e :: es) X.env = (false, eval e X.env) :: starEach es X.env := by rfl) (hpl : (backTo pos (starEach es X.env)).any (·.1) = false := by rfl)
    (ht : eval (.Call (.Attribute (.Name x p) m apos) (e :: es) [] pos) X.env = (do
      let ov ← eval (.Name x p) X.env
      standAt apos.atName
      let (f, first) ← holding [ov] (getMethod ov m pl)
      callWith pos f first (backTo pos (starEach (e :: es) X.env)) (backToKw pos (keywordEach [] X.env))) := by rfl) :
    PE X (.Call (.Attribute (.Name x p) m apos) (e :: es) [] pos) (tSm sp E sa) := by
  refine ⟨fun pins s σ H Q I h => ?_⟩
  refine PySem.W.methodCall_KW (pl := pl) (ld_glob I hg hm ?_ hdb) ht
  refine getmethsm_ok I r fun s1 I1 => ?_
  refine PySem.W.callWith_K (first := []) (h₀ := X.base) I1.ok.mod.kin r.kp (thn (ha.run pos pins s1 σ H _ I1 h) fun us s2 ⟨vs, H2, I2, rv, q2⟩ => ⟨I2.kIn, ?_⟩) hst hpl
  exact run_fnS (us := us) (vs := vs) F hr hb (hx σ) I2 rv q2
theorem pd_sm {pl : Sem Bool} (hg : Gl X x) (hm : X.mg x = some (.ref (He.ga X.K x))) (r : SmOk X.K x m) (F : Fn X.prog X.w X.K X.mg X.base (smF X.K x m) k n Pm) (hr : Room k X.A) (tk : Takes X W) (ha : PDA X W (e :: es) t)
    (hdb : (x == ("__debug__" : Str)) = false := by decide)
    (hst : starEach (e :: es) X.env = (false, eval e X.env) :: starEach es X.env := by rfl) (hpl : (backTo pos (starEach es X.env)).any (·.1) = false := by rfl)
    (ht : eval (.Call (.Attribute (.Name x p) m apos) (e :: es) [] pos) X.env = (do
      let ov ← eval (.Name x p) X.env
      standAt apos.atName
      let (f, first) ← holding [ov] (getMethod ov m pl)
      callWith pos f first (backTo pos (starEach (e :: es) X.env)) (backToKw pos (keywordEach [] X.env))) := by rfl) :
    PD X W (.Call (.Attribute (.Name x p) m apos) (e :: es) [] pos) (dCall Pm t) := by
  obtain ⟨_, pa, la⟩ := ha.of
  refine ⟨_, pe_sm hg hm r F.ok hr F.bd (fun σ => passAt tk σ) pa hdb hst hpl ht, fun H0 G0 G H σ env Q ex R S L q g => la H0 G0 G H σ env _ ex _ S L q fun vs H1 G1 ds x1 r1 q1 => ?_⟩
  exact sp_call (S.ex x1) (L.mono x1.gg) F.len r1 q1 fun v H2 G2 d x2 r2 q2 => g v H2 G2 d (x1.trans x2) r2 q2
theorem foldl_sz (a : Array Nat) : ∀ (n : Nat) (acc : Array Nat), ((List.replicate n a).foldl (· ++ ·) acc).size = acc.size + n * a.size
  | 0, acc => by simp
  | n + 1, acc => by
    rw [List.replicate_succ, List.foldl_cons, foldl_sz a n, Array.size_append, Nat.add_mul]
    omega
theorem szrep (z : Str) (i : Int) (hs : z.length * i.toNat ≤ 16777216) (h0 : sizeLine = 16777216) : (⟨(List.replicate i.toNat z.cps).foldl (· ++ ·) #[]⟩ : Str).length ≤ sizeLine := by
  show ((List.replicate i.toNat z.cps).foldl (· ++ ·) #[]).size ≤ sizeLine
  rw [foldl_sz]
  have : z.cps.size * i.toNat ≤ 16777216 := hs
  rw [Nat.mul_comm] at this
  simp
  omega
/-- text * int -/
theorem op_mulS : OpR X (binaryOp .Mult) (fun x y H Q => ∃ z i, x = .str z ∧ y = .int i ∧ z.length ≤ 100000 ∧ -(2 ^ 63) ≤ i ∧ i ≤ 100000 ∧ z.length * i.toNat ≤ 16777216 ∧ Q (.str (if i < 1 then Str.empty else ⟨(List.replicate i.toNat z.cps).foldl (· ++ ·) #[]⟩)) H) := by
  intro pins s σ H x y v u Q I rx ry h
  obtain ⟨z, i, rfl, rfl, hz, h0, h1, hs, q⟩ := h
  obtain ⟨t, rfl⟩ := rx
  obtain ⟨t', rfl⟩ := ry
  have hs' : sizeLine = 16777216 := sizeLine_eq
  refine PySem.P.mul_str ?_ (fun h2 h3 => ?_) (fun h2 h3 => ?_) ?_
  · rw [decide_eq_false (by omega), decide_eq_false (by omega)]
    rfl
  · have h4 : (100000 : Int) ≤ (2 ^ 63 - 1) / i := by
      rw [Int.le_ediv_iff_mul_le (by omega)]
      omega
    omega
  · unfold PySem.Builtin.Str.tooLong
    rw [decide_eq_false (by omega)]
  · split
    · exact ⟨by decide, .str _, H, I.tok _, ⟨_, rfl⟩, by rw [if_pos (by assumption)] at q; exact q⟩
    · rw [if_neg (by assumption)] at q
      split
      · rename_i h5
        have ez : (⟨(List.replicate i.toNat z.cps).foldl (· ++ ·) #[]⟩ : Str) = z := by
          rcases Bool.or_eq_true_iff.mp h5 with h6 | h6
          · have h7 : i = 1 := beq_iff_eq.mp h6
            subst h7
            show (⟨(List.replicate 1 z.cps).foldl (· ++ ·) #[]⟩ : Str) = z
            simp [List.replicate]
          · have h7 : z.cps = #[] := Array.size_eq_zero_iff.mp (beq_iff_eq.mp h6)
            have h8 : (List.replicate i.toNat z.cps).foldl (· ++ ·) #[] = #[] := Array.size_eq_zero_iff.mp (by rw [foldl_sz, h7]; rfl)
            rw [h8, ← h7]
        rw [ez] at q
        exact ⟨.str _, H, I, ⟨_, rfl⟩, q⟩
      · exact ⟨szrep z i hs (by omega), .str _, H, I.tok _, ⟨_, rfl⟩, q⟩
def dMulS : R2D := fun a b Q => ∃ z i, a = .str z ∧ b = .int i ∧ z.length ≤ 100000 ∧ -(2 ^ 63) ≤ i ∧ i ≤ 100000 ∧ z.length * i.toNat ≤ 16777216 ∧ Q (.str (if i < 1 then Str.empty else ⟨(List.replicate i.toNat z.cps).foldl (· ++ ·) #[]⟩))
theorem l_mulS {K : PySem.W.Frag} : L2R K (fun x y H Q => ∃ z i, x = .str z ∧ y = .int i ∧ z.length ≤ 100000 ∧ -(2 ^ 63) ≤ i ∧ i ≤ 100000 ∧ z.length * i.toNat ≤ 16777216 ∧ Q (.str (if i < 1 then Str.empty else ⟨(List.replicate i.toNat z.cps).foldl (· ++ ·) #[]⟩)) H) dMulS :=
  fun G H x y a b Q R s r1 r2 ⟨z, i, e1, e2, h1, h2, h3, h4, q⟩ g => by
  subst e1 e2
  exact ⟨z, i, r1.str_inv, r2.int_inv, h1, h2, h3, h4, g _ H G _ (.refl s) (.str _) q⟩
end
/-! ## more facts of the text -/
structure Mo (cs : List Nat) (sms : List (Str × Str)) (cis : List (Str × Int)) (K : PySem.W.Frag) (mg : Str → Option Value) : Prop where
  isi : Isi cs K
  cls : ∀ c ∈ cs, Cls K (He.ga K (cname c))
  smA : ∀ p ∈ sms, SmOk K p.1 p.2
  ciA : ∀ p ∈ cis, ∃ t, mg p.1 = some (.int p.2 t)
theorem Mo.of {cs : List Nat} {sms : List (Str × Str)} {cis : List (Str × Int)} {K : PySem.W.Frag} {mg : Str → Option Value} {h : Heap} (X : K.In h) (G : h.Ns mainGlobals mg) (hc : ∀ c ∈ cs, Cls K (He.ga K (cname c))) (m : moB cs sms cis K = true) : Mo cs sms cis K mg := by
  obtain ⟨m1, m2⟩ := Bool.and_eq_true_iff.mp m
  obtain ⟨m2, m3⟩ := Bool.and_eq_true_iff.mp m2
  refine ⟨Isi.of m1, hc, fun p hp => SmOk.of (List.all_eq_true.mp m2 p hp), fun p hp => ?_⟩
  have z := List.all_eq_true.mp m3 p hp
  unfold ciB at z
  split at z
  · rename_i n t e
    rw [← beq_iff_eq.mp z]
    exact ⟨t, PySem.W.mg_of X G e⟩
  · cases z
section
variable {cs : List Nat} {sms : List (Str × Str)} {cis : List (Str × Int)} {K : PySem.W.Frag} {mg : Str → Option Value} (M : Mo cs sms cis K mg)
include M
theorem Mo.sm (x m : Str) (h : (x, m) ∈ sms := by decide +kernel) : SmOk K x m := M.smA (x, m) h
theorem Mo.c (x : Str) (n : Int) (h : (x, n) ∈ cis := by decide +kernel) : ∃ t, mg x = some (.int n t) := M.ciA (x, n) h
end
end DL

namespace DL
open PySem PySem.Spec PyProof.Rows L2 LR
/-- the law's own promise -/
def spLaw (K : PySem.W.Frag) : Sp := fun vs H Q _ => ∃ (a : Addr) (ns : List Int), vs = [.ref a] ∧ SqL K H a (ns.map V.int) ∧ ns.length ≤ 63 ∧ ∀ H', Q (.bl true) H'
theorem law_of {P : Program} {w : World} {K : PySem.W.Frag} {mg : Str → Option Value} {x qual : Str} {params : Arguments} {body : List Stmt} {scope : Scope} {f : Addr} {N ps : List Str} {k : Nat}
    (h : ∃ fd, FunD K x qual params body scope [] [] f fd) (S : FnScope N ps scope) (hps : ps = ([("script" : Str)] : List Str))
    (hb : ∀ (kV doc pm : Value) (an : Option Addr) (cdv ct : Value) (us : List Value), us.length = ps.length → bindArgs (PySem.W.fnOf x qual params body scope .none kV doc pm an cdv ct) ⟨us, []⟩ = pure (ps.zip us))
    (hbody : ∀ (base : Heap) (fd : FuncData) (cdv : Value) (A : Around) (outer : List Env) (s : Shared) (H : Hp) (E : XK), Room k (A.deeper (envOfC qual scope s.heap.objs.size f cdv)) →
      ∃ t, PDSs (cxOf CX0 P w K mg base N qual scope f cdv A outer s H E) WN body t ∧ ∀ ns : List Int, ns.length ≤ 63 → t { nx := fun _ => False, rt := fun d => d = .bl true } (start N.length [.lst (ns.map .int)])) :
    ∃ fd : FuncData, (∀ (s : Shared) (v : Value), BindsTo s fd ⟨[v], []⟩ [("script", v)]) ∧ ∀ base : Heap, FnOk P w K mg base CX0 (k + 1) f fd ["script"] (spLaw K) := by
  obtain ⟨fd, F⟩ := h
  subst hps
  refine ⟨fd, fun s v => FunD.bindsA (ps := ["script"]) F (fun kV doc pm an cdv ct us hl => hb kV doc pm an cdv ct us hl) s [v] rfl, fun base => ?_⟩
  refine F.ok S (fun vs H Q E h => ?_) (fun cdv A outer s H vs Q E hr h => ?_)
  · obtain ⟨a, ns, rfl, _⟩ := h
    rfl
  · obtain ⟨a, ns, rfl, hS, hl, q⟩ := h
    obtain ⟨t, pd, ht⟩ := hbody base fd cdv A outer s H E hr
    obtain ⟨ts, pts, l⟩ := pd.of
    have rr : Reps K H [.ref a] [.lst (ns.map .int)] := .one (.lst hS (by simp) (Reps.of_ints ns).2)
    refine ⟨ts, pts, l H H H H _ _ _ { nx := fun _ => False, rt := fun d => d = .bl true } (sr_start (.refl _) rr) ⟨fun σ' H' G' env' _ S' q' => q'.elim, fun σ' H' G' env' _ S' q' => q'.elim, fun σ' H' G' env' _ S' q' => q'.elim, fun v H' G' d _ x r q' => ?_, fun σ' H' G' env' d x fv fs _ S' e r q' => q'.elim, fun v H' G' d F _ x o nd k q' => q'.elim⟩ (ht ns hl)⟩
    subst q'
    rw [r.bl_inv]
    exact q _
/-- n.bit_length() -/
def dBits (ta : DT) : DT := fun env Q ex => ta env (fun d => ∃ i : Int, d = .int i ∧ Q (.int ((Builtin.Int.intBits i : Nat) : Int))) ex
theorem pd_bits {X : Cx} {W : WX} {o : Expr} {ta : DT} {apos pos : Pos} (h : PD X W o ta) (hbase : attributeBase o "bit_length" X.env (eval o X.env) = eval o X.env := by rfl) (hline : (apos.endLine == pos.line) = true := by rfl) : PD X W (.Call (.Attribute o "bit_length" apos) [] [] pos) (dBits ta) := by
  obtain ⟨_, p, l⟩ := h.of
  refine ⟨_, pe_bits p hbase hline, fun H0 G0 G H σ env Q ex R S L q g => l H0 G0 G H σ env _ ex _ S L q fun v H1 G1 d x1 r1 ⟨i, e1, q1⟩ => ?_⟩
  subst e1
  exact ⟨i, r1.int_inv, g _ H1 G1 _ x1 (.int _) q1⟩
/-! ## helpers for readings -/
theorem len0 {α : Type} {ws : List α} (h : ws.length = 0) : ws = [] := List.length_eq_zero_iff.mp h
theorem len1 {α : Type} {ws : List α} (h : ws.length = 1) : ∃ a, ws = [a] := List.length_eq_one_iff.mp h
theorem len2 {α : Type} {ws : List α} (h : ws.length = 2) : ∃ a b, ws = [a, b] := match ws, h with | [a, b], _ => ⟨a, b, rfl⟩
theorem len3 {α : Type} {ws : List α} (h : ws.length = 3) : ∃ a b c, ws = [a, b, c] := match ws, h with | [a, b, c], _ => ⟨a, b, c, rfl⟩

theorem d_ite {c : Bool} {p q : Prop} (h1 : c = true → p) (h2 : c = false → q) : if c = true then p else q := by
  cases c with
  | true => exact h1 rfl
  | false => exact h2 rfl
theorem at_map {α : Type} {f : α → D} {l : List α} {k : Int} {x : α} (h0 : 0 ≤ k) (h : l[k.toNat]? = some x) : atI (l.map f) k = some (f x) := by
  have e := atI_nat (xs := l.map f) (j := k.toNat) (v := f x) (by rw [List.getElem?_map, h]; rfl)
  rwa [Int.toNat_of_nonneg h0] at e
theorem at_ex {l : List Int} {k : Int} (h0 : 0 ≤ k) (h1 : k < (l.length : Int)) : ∃ z, z ∈ l ∧ l[k.toNat]? = some z ∧ atI (l.map D.int) k = some (.int z) := by
  have hk : k.toNat < l.length := by omega
  exact ⟨l[k.toNat], List.getElem_mem hk, List.getElem?_eq_getElem hk, at_map h0 (List.getElem?_eq_getElem hk)⟩
theorem map_at {α : Type} {f : α → D} {l : List α} {i : Nat} {d : D} (h : (l.map f)[i]? = some d) : ∃ x, l[i]? = some x ∧ d = f x := by
  rw [List.getElem?_map] at h
  cases e : l[i]? with
  | none =>
    rw [e] at h
    cases h
  | some x =>
    rw [e] at h
    exact ⟨x, rfl, (Option.some.inj h).symm⟩
theorem rng_at {lo : Int} {n i : Nat} {d : D} (h : (rngD lo n)[i]? = some d) : i < n ∧ d = .int (lo + i) := by
  unfold rngD at h
  obtain ⟨x, e, rfl⟩ := map_at h
  obtain ⟨hx, hi⟩ := List.getElem?_eq_some_iff.mp e
  have hi' : i < n := by simpa using hx
  rw [List.getElem_range] at hi
  exact ⟨hi', by rw [hi]⟩
theorem rng_len {lo : Int} {n : Nat} : (rngD lo n).length = n := by simp [rngD]
/-- a comprehension without an if: what holds of the i-th -/
theorem lc_all {α : Type} {n : Nat} {zs : List (Option α)} {R : Nat → α → Prop} (hl : zs.length = n) (h : ∀ (i : Nat) z, zs[i]? = some z → ∃ d, z = some d ∧ R i d) : ∃ l : List α, zs.filterMap id = l ∧ l.length = n ∧ ∀ (i : Nat) d, l[i]? = some d → R i d := by
  have key : ∀ (zs : List (Option α)) (o : Nat), (∀ (i : Nat) z, zs[i]? = some z → ∃ d, z = some d ∧ R (o + i) d) → (zs.filterMap id).length = zs.length ∧ ∀ (i : Nat) d, (zs.filterMap id)[i]? = some d → R (o + i) d := by
    intro zs
    induction zs with
    | nil => exact fun o _ => ⟨rfl, fun i d h => by simp at h⟩
    | cons a r ih =>
      intro o h
      obtain ⟨d, rfl, hd⟩ := h 0 a rfl
      obtain ⟨h1, h2⟩ := ih (o + 1) fun i z hz => by
        have := h (i + 1) z (by simpa using hz)
        rwa [show o + (i + 1) = o + 1 + i by omega] at this
      refine ⟨by simp [h1], fun i e he => ?_⟩
      cases i with
      | zero =>
        simp at he
        subst he
        exact hd
      | succ i =>
        have := h2 i e (by simpa using he)
        rwa [show o + 1 + i = o + (i + 1) by omega] at this
  obtain ⟨h1, h2⟩ := key zs 0 fun i z hz => by simpa using h i z hz
  exact ⟨_, rfl, h1.trans hl, fun i d hd => by simpa using h2 i d hd⟩
/-- .. of the kind f, with P -/
theorem lc_map {α : Type} (f : α → D) {P : Nat → α → Prop} {n : Nat} {zs : List (Option D)} (hl : zs.length = n) (h : ∀ (i : Nat) z, zs[i]? = some z → ∃ v, z = some (f v) ∧ P i v) : ∃ ms : List α, zs.filterMap id = ms.map f ∧ ms.length = n ∧ ∀ (i : Nat) m, ms[i]? = some m → P i m := by
  have key : ∀ (zs : List (Option D)) (o : Nat), (∀ (i : Nat) z, zs[i]? = some z → ∃ v, z = some (f v) ∧ P (o + i) v) → ∃ ms : List α, zs.filterMap id = ms.map f ∧ ms.length = zs.length ∧ ∀ (i : Nat) m, ms[i]? = some m → P (o + i) m := by
    intro zs
    induction zs with
    | nil => exact fun o _ => ⟨[], rfl, rfl, fun i m h => by simp at h⟩
    | cons a r ih =>
      intro o h
      obtain ⟨v, rfl, hv⟩ := h 0 a rfl
      obtain ⟨ms, h1, h2, h3⟩ := ih (o + 1) fun i z hz => by
        have := h (i + 1) z (by simpa using hz)
        rwa [show o + (i + 1) = o + 1 + i by omega] at this
      refine ⟨v :: ms, by simp [h1], by simp [h2], fun i m hm => ?_⟩
      cases i with
      | zero =>
        simp at hm
        subst hm
        exact hv
      | succ i =>
        have := h3 i m (by simpa using hm)
        rwa [show o + 1 + i = o + (i + 1) by omega] at this
  obtain ⟨ms, h1, h2, h3⟩ := key zs 0 fun i z hz => by simpa using h i z hz
  exact ⟨ms, h1, h2.trans hl, fun i m hm => by simpa using h3 i m hm⟩
theorem pick {l : List D} {k : Int} {n : Nat} (hn : l.length = n) (h0 : 0 ≤ k) (h1 : k < n) : ∃ x, atI l k = some x ∧ x ∈ l := by
  obtain ⟨x, _, hm, e⟩ := at_ix (xs := l) h0 (by omega)
  exact ⟨x, e, hm⟩
theorem filt_some {α β : Type} (f : α → β) (l : List α) : (l.map fun x => some (f x)).filterMap id = l.map f := by
  induction l with
  | nil => rfl
  | cons a r ih => simp [ih]
theorem cut_map {α : Type} (f : α → D) (l : List α) (lo hi : Option Int) : ∃ m : List α, cutD (l.map f) lo hi = m.map f ∧ m.length ≤ l.length ∧ ∀ z ∈ m, z ∈ l := by
  unfold cutD
  refine ⟨(l.drop (HT.sIx (l.map f).length 0 lo)).take (HT.sIx (l.map f).length (l.map f).length hi - HT.sIx (l.map f).length 0 lo), ?_, ?_, fun z hz => List.mem_of_mem_drop (List.mem_of_mem_take hz)⟩
  · rw [List.map_take, List.map_drop]
  · rw [List.length_take, List.length_drop]
    omega
end DL

namespace DL
open PySem PySem.Spec PyProof.Rows L2 LR
section
variable {X : Cx} {W : WX} {a b c e : Expr} {ta tb : DT} {pos : Pos}
/-- list + list, whatever the lists are -/
def rCatL (K : PySem.W.Frag) : R2 := fun x y H Q => ∃ l b xs zs, x = .ref l ∧ y = .ref b ∧ SqL K H l xs ∧ SqL K H b zs ∧ xs.length + zs.length ≤ sizeLine ∧ ∀ p, H p = none → Q (.ref p) (upd H p (.lst (xs ++ zs)))
theorem op_catL : OpR X (binaryOp .Add) (rCatL X.K) := by
  intro pins s σ H x y v u Q I rx ry h
  obtain ⟨l, b, xs, zs, rfl, rfl, hH, hB, hz, q⟩ := h
  cases rx
  cases ry
  obtain ⟨its, r, p1, _⟩ := I.list hH
  obtain ⟨its2, r2, p2, _⟩ := I.list hB
  obtain ⟨⟨cls, dd, data, sl⟩, n, ho, hc, hdd, hd⟩ := _root_.id p1
  obtain ⟨⟨cls2, dd2, data2, sl2⟩, n2, ho2, hc2, hdd2, hd2⟩ := _root_.id p2
  simp only at hc hd hdd hc2 hd2 hdd2
  subst hc hd hdd hc2 hd2 hdd2
  have e : its.toArray ++ its2.toArray = (its ++ its2).toArray := by simp
  have hz' : its.length + its2.length ≤ sizeLine := by rw [← r.length, ← r2.length]; exact hz
  refine concat_meets ⟨_, ho, rfl⟩ ⟨_, ho2, rfl⟩ noFill_list_add seq_list_add PySem.F.slot_list_add PySem.F.entry_list_add (PySem.F.args_list_add_2 _ _) (list_addW l b its.toArray its2.toArray n n2 none none sl sl2 (by simpa using hz')) ⟨ho, ho2, ?_⟩
  rw [e]
  exact ⟨.ref _, _, I.lnew (t' := s.toks) (r.append r2) (by rw [List.length_append]; omega), rfl, q _ I.fresh⟩
def dCatA (ta tb : DT) : DTN := fun env Q ex => ta env (fun x => ∃ l, x = .lst l ∧ tb env (fun y => ∃ m, y = .lst m ∧ l.length + m.length ≤ sizeLine ∧ Q (l ++ m)) ex) ex
theorem pdn_catA (ha : PD X W a ta) (hb : PD X W b tb) : PDN X W (.BinOp a .Add b pos) (dCatA ta tb) := by
  obtain ⟨_, pa, la⟩ := ha.of
  obtain ⟨_, pb, lb⟩ := hb.of
  refine ⟨_, pe_op op_catL pa pb, fun H0 G0 G H σ env Q ex R S L q g => la H0 G0 G H σ env _ ex _ S L q fun v H1 G1 d x1 r1 ⟨l, e1, q1⟩ => ?_⟩
  subst e1
  refine lb H0 G0 G1 H1 σ env _ ex _ (S.ex x1) (L.mono x1.gg) q1 fun u H2 G2 d2 x2 r2 ⟨m, e2, hz, q2⟩ => ?_
  subst e2
  obtain ⟨p, vs, rfl, h1, h2⟩ := (r1.same x2.gg).lst_inv
  obtain ⟨p2, us, rfl, h3, h4⟩ := r2.lst_inv
  exact ⟨p, p2, vs, us, rfl, rfl, x2.sub.seq h1, x2.sub.seq h3, by rw [h2.1, h4.1]; exact hz, fun p3 n3 => g p3 _ _ H2 G2 _ (x1.trans x2) n3 rfl (h2.app h4) q2⟩
theorem pdn_rep {tn : DTN} (ha : PDN X W a tn) (hb : PD X W b tb) : PDN X W (.BinOp a .Mult b pos) (dRep tn tb) := by
  obtain ⟨_, pa, la⟩ := ha.of
  obtain ⟨_, pb, lb⟩ := hb.of
  refine ⟨_, pe_op op_rep pa pb, fun H0 G0 G H σ env Q ex R S L q g => la H0 G0 G H σ env _ ex _ S L q fun p vs H' H1 G1 l x1 n e r1 q1 => ?_⟩
  subst e
  have x1' : Ext G H G1 (upd H1 p (.lst vs)) := x1.trans (Ext.hid x1.sub n)
  refine lb H0 G0 G1 _ σ env _ ex _ (S.ex x1') (L.mono x1'.gg) q1 fun u H2 G2 d2 x2 r2 ⟨k, e2, h1, h2, hz, q2⟩ => ?_
  subst e2
  exact ⟨p, k, vs, rfl, r2.int_inv, x2.hh _ _ upd_same, h1, h2, by rw [r1.1]; exact hz, fun p3 n3 => g p3 _ _ H2 G2 _ (x1'.trans x2) n3 rfl (reps_flat (r1.same x2.gg) _) q2⟩
end
/-! data that == may ask -/
def OkS (x : Str) : Prop := ∀ c ∈ x.cps.toList, c < 1114112
theorem OkS.ok {x : Str} (h : OkS x) : PyData.strOk x = true := by
  unfold PyData.strOk
  rw [← Array.all_toList, List.all_eq_true]
  exact fun c hc => decide_eq_true (h c hc)
theorem OkS.of {x : Str} (h : x.cps.toList.all (fun c => decide (c < 1114112)) = true) : OkS x := fun c hc => of_decide_eq_true (List.all_eq_true.mp h c hc)
theorem OkS.app {x y : Str} (h : OkS x) (g : OkS y) : OkS (x ++ y) := fun c hc => by
  rw [Str.cps_append, Array.toList_append] at hc
  rcases List.mem_append.mp hc with h1 | h1
  · exact h c h1
  · exact g c h1
theorem OkS.sub {x y : Str} (h : OkS x) (g : ∀ c ∈ y.cps.toList, c ∈ x.cps.toList) : OkS y := fun c hc => h c (g c hc)
theorem OkS.cut {x : Str} (h : OkS x) (lo hi : Option Int) : OkS (cutS x lo hi) := h.sub fun c hc => by
  unfold cutS at hc
  exact List.mem_of_mem_drop (List.mem_of_mem_take (by simpa using hc))
theorem OkS.rep {x : Str} (h : OkS x) (i : Int) : OkS (if i < 1 then Str.empty else (⟨(List.replicate i.toNat x.cps).foldl (· ++ ·) #[]⟩ : Str)) := by
  split
  · intro c hc
    cases hc
  · have key : ∀ (n : Nat) (acc : Array Nat) (c : Nat), c ∈ ((List.replicate n x.cps).foldl (· ++ ·) acc).toList → c ∈ acc.toList ∨ c ∈ x.cps.toList := by
      intro n
      induction n with
      | zero => exact fun acc c hc => .inl hc
      | succ n ih =>
        intro acc c hc
        rw [List.replicate_succ, List.foldl_cons] at hc
        rcases ih _ c hc with h1 | h1
        · rw [Array.toList_append] at h1
          exact List.mem_append.mp h1
        · exact .inr h1
    intro c hc
    rcases key _ _ c hc with h1 | h1
    · cases h1
    · exact h c h1
theorem OkS.one {c : Nat} (h : c < 1114112) : OkS ⟨#[c]⟩ := fun d hd => by
  have e : d = c := List.mem_singleton.mp hd
  rw [e]
  exact h
theorem OkS.join0 : ∀ ys : List Str, (∀ y ∈ ys, OkS y) → OkS (Str.join ("" : Str) ys)
  | [], _ => fun c hc => by cases hc
  | [y], h => h y List.mem_cons_self
  | y :: z :: r, h => by
    show OkS (y ++ ("" : Str) ++ Str.join ("" : Str) (z :: r))
    exact ((h y List.mem_cons_self).app (OkS.of (by decide +kernel))).app (OkS.join0 (z :: r) fun w hw => h w (List.mem_cons_of_mem _ hw))
theorem OkS.joinE {ys : List Str} (h : ∀ y ∈ ys, OkS y) : OkS (Txt.join ("" : Str) ys) := by
  show OkS (Builtin.Str.glued ("" : Str) ys)
  rw [StrLaws.glued_eq_join]
  exact OkS.join0 ys h
def okN : Nat → D → Prop
  | _, .non => True
  | _, .bl _ => True
  | _, .int _ => True
  | _, .str s => OkS s
  | _, .ins _ _ => False
  | n + 1, .lst l => ∀ x ∈ l, okN n x
  | n + 1, .tup l => ∀ x ∈ l, okN n x
  | 0, .lst _ => False
  | 0, .tup _ => False
theorem okN_all {n : Nat} (ih : ∀ d, okN n d → plainD d = true ∧ (toP d).canLay0 = true ∧ (toP d).depth ≤ n) : ∀ l : List D, (∀ x ∈ l, okN n x) → plainDs l = true ∧ PyData.canLayAll0 (toPs l) = true ∧ PyData.depthAll (toPs l) ≤ n
  | [], _ => ⟨rfl, rfl, Nat.zero_le _⟩
  | d :: r, h => by
    obtain ⟨a1, a2, a3⟩ := ih d (h d List.mem_cons_self)
    obtain ⟨b1, b2, b3⟩ := okN_all ih r fun x hx => h x (List.mem_cons_of_mem _ hx)
    refine ⟨by rw [plainDs, a1, b1]; rfl, ?_, ?_⟩
    · rw [toPs, PyData.canLayAll0, a2, b2]
      rfl
    · rw [toPs, PyData.depthAll]
      exact Nat.max_le.mpr ⟨a3, b3⟩
theorem okN_ok : ∀ (n : Nat) (d : D), okN n d → plainD d = true ∧ (toP d).canLay0 = true ∧ (toP d).depth ≤ n
  | n, .non, _ => by refine ⟨rfl, ?_, ?_⟩ <;> rw [toP] <;> first | rfl | exact Nat.zero_le _
  | n, .bl _, _ => by refine ⟨rfl, ?_, ?_⟩ <;> rw [toP] <;> first | rfl | exact Nat.zero_le _
  | n, .int _, _ => by refine ⟨rfl, ?_, ?_⟩ <;> rw [toP] <;> first | rfl | exact Nat.zero_le _
  | n, .str s, h => by
    have h : OkS s := by cases n <;> exact h
    refine ⟨rfl, ?_, ?_⟩ <;> rw [toP]
    · exact h.ok
    · exact Nat.zero_le _
  | n, .ins _ _, h => by cases n <;> exact h.elim
  | n + 1, .lst l, h => by
    obtain ⟨b1, b2, b3⟩ := okN_all (okN_ok n) l h
    refine ⟨by rw [plainD]; exact b1, ?_, ?_⟩ <;> rw [toP]
    · exact b2
    · exact Nat.succ_le_succ b3
  | n + 1, .tup l, h => by
    obtain ⟨b1, b2, b3⟩ := okN_all (okN_ok n) l h
    refine ⟨by rw [plainD]; exact b1, ?_, ?_⟩ <;> rw [toP]
    · exact b2
    · exact Nat.succ_le_succ b3
  | 0, .lst _, h => h.elim
  | 0, .tup _, h => h.elim
theorem okD_of {d : D} (n : Nat) (h : okN n d) (hn : n ≤ 64) : okD d = true := by
  obtain ⟨h1, h2, h3⟩ := okN_ok n d h
  unfold okD SeqAt.shaped
  rw [h1, h2, decide_eq_true (Nat.le_trans h3 hn)]
  rfl
theorem eqD_refl {d : D} (h : okD d = true) : eqD d d = true := SeqAt.eqv_refl _ (SeqAt.canLay_of_shaped (Bool.and_eq_true_iff.mp h).2)
/-- a field of an error by its place -/
theorem lookup_at {f : Str} {y : D} : ∀ {fs : List (Str × D)} {k : Nat}, (fs.map (·.1)).Nodup → fs[k]? = some (f, y) → fs.lookup f = some y
  | [], _, _, h => by simp at h
  | (g, z) :: fs, 0, _, h => by
    simp at h
    obtain ⟨rfl, rfl⟩ := h
    have e : (g == g) = true := beq_self_eq_true g
    simp only [List.lookup, e]
  | (g, z) :: fs, k + 1, hn, h => by
    rw [List.map_cons, List.nodup_cons] at hn
    have h' : fs[k]? = some (f, y) := by simpa using h
    have ne : (f == g) = false := beq_eq_false_iff_ne.mpr fun e => hn.1 (by rw [← e]; exact List.mem_map.mpr ⟨_, List.mem_of_getElem? h', rfl⟩)
    simp only [List.lookup, ne]
    exact lookup_at hn.2 h'
/-- the i-th of some texts -/
theorem pick_str {ys : List Str} {n B : Nat} {k : Int} (hn : ys.length = n) (hB : ys.all (fun s => decide (s.length ≤ B)) = true) (h0 : 0 ≤ k) (h1 : k < n) : ∃ s : Str, atI (ys.map D.str) k = some (.str s) ∧ s.length ≤ B := by
  obtain ⟨x, e, hm⟩ := pick (l := ys.map D.str) (n := n) (by rw [List.length_map]; exact hn) h0 h1
  obtain ⟨s, hs, rfl⟩ := List.mem_map.mp hm
  exact ⟨s, e, of_decide_eq_true (List.all_eq_true.mp hB s hs)⟩
theorem pick_strP {ys : List Str} {n B : Nat} {k : Int} (hn : ys.length = n) (hB : ∀ y ∈ ys, y.length ≤ B) (h0 : 0 ≤ k) (h1 : k < n) : ∃ s : Str, atI (ys.map D.str) k = some (.str s) ∧ s.length ≤ B := by
  obtain ⟨x, e, hm⟩ := pick (l := ys.map D.str) (n := n) (by rw [List.length_map]; exact hn) h0 h1
  obtain ⟨s, hs, rfl⟩ := List.mem_map.mp hm
  exact ⟨s, e, hB s hs⟩
/-- .. with what all of them are -/
theorem pick_strQ {ys : List Str} {n : Nat} {k : Int} {P : Str → Prop} (hn : ys.length = n) (hB : ∀ y ∈ ys, P y) (h0 : 0 ≤ k) (h1 : k < n) : ∃ s : Str, atI (ys.map D.str) k = some (.str s) ∧ P s := by
  obtain ⟨x, e, hm⟩ := pick (l := ys.map D.str) (n := n) (by rw [List.length_map]; exact hn) h0 h1
  obtain ⟨s, hs, rfl⟩ := List.mem_map.mp hm
  exact ⟨s, e, hB s hs⟩
theorem all_okS {ys : List Str} (h : ys.all (fun s => s.cps.toList.all fun c => decide (c < 1114112)) = true) : ∀ y ∈ ys, OkS y := fun y hy => OkS.of (List.all_eq_true.mp h y hy)
theorem pick_int {ys : List Int} {n : Nat} {lo hi k : Int} (hn : ys.length = n) (hB : ys.all (fun m => decide (lo ≤ m) && decide (m ≤ hi)) = true) (h0 : 0 ≤ k) (h1 : k < n) : ∃ m : Int, atI (ys.map D.int) k = some (.int m) ∧ lo ≤ m ∧ m ≤ hi := by
  obtain ⟨x, e, hm⟩ := pick (l := ys.map D.int) (n := n) (by rw [List.length_map]; exact hn) h0 h1
  obtain ⟨m, hs, rfl⟩ := List.mem_map.mp hm
  have := List.all_eq_true.mp hB m hs
  rw [Bool.and_eq_true, decide_eq_true_eq, decide_eq_true_eq] at this
  exact ⟨m, e, this⟩
/-- text * int -/
theorem rep_len (z : Str) (i : Int) : (if i < 1 then Str.empty else (⟨(List.replicate i.toNat z.cps).foldl (· ++ ·) #[]⟩ : Str)).length ≤ z.length * i.toNat := by
  split
  · exact Nat.zero_le _
  · show ((List.replicate i.toNat z.cps).foldl (· ++ ·) #[]).size ≤ _
    rw [foldl_sz, Nat.mul_comm]
    simp [Str.length]
theorem sz_two {a b : Nat} (ha : a ≤ 1000000) (hb : b ≤ 1000000) : a + b ≤ sizeLine := by rw [sizeLine_eq]; omega
theorem ones_sum : ∀ ys : List Str, (∀ y ∈ ys, y.length = 1) → (ys.map (·.length)).sum = ys.length
  | [], _ => rfl
  | y :: ys, h => by
    have e := ones_sum ys fun z hz => h z (List.mem_cons_of_mem _ hz)
    have e1 := h y List.mem_cons_self
    simp only [List.map_cons, List.sum_cons, List.length_cons]
    omega
end DL

namespace DL
open PySem PySem.Spec PyProof.Rows L2 LR
/-! ## lists lent -/
/-- a thing that holds no list -/
inductive NoL : D → Prop
  | non : NoL .non
  | bl (b : Bool) : NoL (.bl b)
  | int (i : Int) : NoL (.int i)
  | str (s : Str) : NoL (.str s)
  | tup {l : List D} (h : ∀ x ∈ l, NoL x) : NoL (.tup l)
  | ins {c : Nat} {l : List D} (h : ∀ x ∈ l, NoL x) : NoL (.ins c l)
theorem NoL.ints (ns : List Int) : ∀ x ∈ ns.map D.int, NoL x := fun x hx => by
  obtain ⟨n, _, rfl⟩ := List.mem_map.mp hx
  exact .int n
theorem NoL.two {x y : D} (h1 : NoL x) (h2 : NoL y) : ∀ z ∈ [x, y], NoL z := fun z hz => by
  simp only [List.mem_cons, List.not_mem_nil, or_false] at hz
  rcases hz with rfl | rfl <;> assumption
theorem NoL.vec {c : Nat} {ns : List Int} {b : Int} : NoL (.ins c [.tup (ns.map D.int), .int b]) := .ins (NoL.two (.tup (NoL.ints ns)) (.int b))
theorem Rep.cut {K : PySem.W.Frag} {G G' : Hp} {F : List Addr} (hp : ∀ a ∈ F, ∃ ws, G a = some (.lst ws)) (hs : ∀ a, a ∉ F → G' a = G a) {v : V} {d : D} (r : Rep K G v d) : NoL d → Rep K G' v d := by
  induction r with
  | non => exact fun _ => .non
  | bl b => exact fun _ => .bl b
  | int i => exact fun _ => .int i
  | str x => exact fun _ => .str x
  | lst h n _ ih => exact fun z => by cases z
  | @tup a vs l h n _ ih =>
    intro z
    cases z with
    | tup z =>
      refine .tup ?_ n fun i v d h1 h2 => ih i v d h1 h2 (z d (List.mem_of_getElem? h2))
      rcases h with (h | ⟨o, h⟩) | h
      · have ne : a ∉ F := fun e => by
          obtain ⟨ws, e⟩ := hp a e
          rw [e] at h
          cases h
        exact .inl (.inl ((hs a ne).trans h))
      · have ne : a ∉ F := fun e => by
          obtain ⟨ws, e⟩ := hp a e
          rw [e] at h
          cases h
        exact .inl (.inr ⟨o, (hs a ne).trans h⟩)
      · exact .inr h
  | @ins a dx c vs l h m n _ ih =>
    intro z
    cases z with
    | ins z =>
      have ne : a ∉ F := fun e => by
        obtain ⟨ws, e⟩ := hp a e
        rw [e] at h
        cases h
      exact .ins ((hs a ne).trans h) m n fun i v d h1 h2 => ih i v d h1 h2 (z d (List.mem_of_getElem? h2))
/-- a thing of no parts -/
def scal : D → Bool
  | .non => true | .bl _ => true | .int _ => true | .str _ => true | _ => false
theorem Rep.scal {K : PySem.W.Frag} {G G' : Hp} {v : V} {d : D} (r : Rep K G v d) (h : scal d = true) : Rep K G' v d := by
  cases r with
  | non => exact .non
  | bl b => exact .bl b
  | int i => exact .int i
  | str x => exact .str x
  | lst _ _ _ => cases h
  | tup _ _ _ => cases h
  | ins _ _ _ _ => cases h
/-- no tuple that holds a list -/
def noT : D → Bool
  | .lst l => noTs l
  | .tup l => noL (.tup l)
  | _ => true
where noTs : List D → Bool
  | [] => true
  | d :: l => noT d && noTs l
theorem noT_at {l : List D} : ∀ {i : Nat} {d : D}, noT.noTs l = true → l[i]? = some d → noT d = true := by
  induction l with
  | nil => intro i d _ h; simp at h
  | cons x l ih =>
    intro i d h e
    rw [noT.noTs, Bool.and_eq_true] at h
    cases i with
    | zero => simp at e; rw [← e]; exact h.1
    | succ i => exact ih h.2 (by simpa using e)
theorem Ow.lists {K : PySem.W.Frag} {G H : Hp} {v : V} {d : D} {F : List Addr} (h : Ow K G H v d F) : noT d = true → ∀ a ∈ F, ∃ ws, H a = some (.lst ws) := by
  induction h with
  | leaf h r => exact fun _ a ha => by simp at ha
  | @lst b vs l Fs h n m r ih =>
    intro t a ha
    rcases List.mem_cons.mp ha with rfl | ha
    · exact ⟨vs, h⟩
    · obtain ⟨F, hF, ha⟩ := List.mem_flatten.mp ha
      obtain ⟨i, hi⟩ := List.getElem?_of_mem hF
      have hl := (List.getElem?_eq_some_iff.mp hi).1
      exact ih i _ _ F (List.getElem?_eq_getElem (by omega)) (List.getElem?_eq_getElem (by omega)) hi (noT_at t (List.getElem?_eq_getElem (by omega))) a ha
  | @tup b vs l Fs h t n m r ih =>
    intro z
    rw [noT, t] at z
    cases z
section
variable {K : PySem.W.Frag} {H0 G0 G H : Hp} {σ : L2.St} {env : DE}
/-- a slot's own things, lent: known for a while -/
theorem SR.lend (S : SR K H0 G0 G H σ env) {i : Nat} {l : List D} (he : env[i]? = some (.own l)) : ∃ F, (∀ a ∈ F, G a = none ∧ ∃ ws, H a = some (.lst ws)) ∧ SR K H0 G0 (joinH G H F) H σ (env.set i (.val (.lst l))) := by
  obtain ⟨fp, S⟩ := S
  obtain ⟨p, vs, ef, hp, hq, gp, op, rq⟩ := S.slot i _ he
  have gG : Same G (joinH G H (fp i)) := joinH_same fun a ha => ((S.slot i _ he).foot a ha).2.2.1
  have r2 := rq.same gG
  obtain ⟨s1, S1⟩ := S.frz he hp (.lst (SqL.of ((joinH_in (by rw [ef]; exact List.mem_singleton_self p)).trans hq)) r2.1 r2.2)
  refine ⟨fp i, fun a ha => ?_, _, S1⟩
  rw [ef] at ha
  rw [List.mem_singleton.mp ha]
  exact ⟨gp, vs, hq⟩
theorem SR.lendW (S : SR K H0 G0 G H σ env) {i : Nat} {d : D} (he : env[i]? = some (.ow d)) : ∃ F, (∀ a ∈ F, G a = none ∧ ∃ o, H a = some o) ∧ (noT d = true → ∀ a ∈ F, ∃ ws, H a = some (.lst ws)) ∧ SR K H0 G0 (joinH G H F) H σ (env.set i (.val d)) := by
  obtain ⟨fp, S⟩ := S
  obtain ⟨w, hw, o, nd, k⟩ := S.slot i _ he
  obtain ⟨s1, S1⟩ := S.frz he hw (o.rep (joinH_same fun a ha => (k a ha).1) fun a ha => joinH_in ha)
  exact ⟨fp i, fun a ha => ⟨(k a ha).1, ((S.slot i _ he).foot a ha).1⟩, fun t => o.lists t, _, S1⟩
/-- behind the loan -/
def cutH (G : Hp) (F : List Addr) : Hp := fun a => if a ∈ F then none else G a
theorem cutH_in {G : Hp} {F : List Addr} {a : Addr} (h : a ∈ F) : cutH G F a = none := if_pos h
theorem cutH_out {G : Hp} {F : List Addr} {a : Addr} (h : a ∉ F) : cutH G F a = G a := if_neg h
theorem Ext.back {H' G' : Hp} {F : List Addr} (gp : ∀ a ∈ F, G a = none) (x : Ext (joinH G H F) H G' H') : Ext G H (cutH G' F) H' := by
  refine ⟨x.hh, fun a o e => ?_, fun a o e => ?_, fun a h1 h2 => ?_⟩
  · have ne : a ∉ F := fun z => by rw [gp a z] at e; cases e
    rw [cutH_out ne]
    exact x.gg a o ((joinH_out ne).trans e)
  · by_cases ne : a ∈ F
    · rw [cutH_in ne] at e
      cases e
    · rw [cutH_out ne] at e
      exact x.sub a o e
  · by_cases ne : a ∈ F
    · rw [cutH_in ne] at h1
      exact absurd rfl h1
    · rw [cutH_out ne] at h1
      exact x.new a h1 ((joinH_out ne).trans h2)
end
section
variable {X : Cx} {W : WX} {a b c e : Expr} {es : List Expr} {ta tb tc : DT} {t : DTA} {pos : Pos}
def dLend (i : Nat) (ta : DT) : DT := fun env Q _ => ∃ l, env[i]? = some (.own l) ∧ ta (env.set i (.val (.lst l))) (fun d => NoL d ∧ Q d) (fun _ _ => False)
def dLendT (i : Nat) (t : DTT) : DTT := fun env Q _ => ∃ l, env[i]? = some (.own l) ∧ t (env.set i (.val (.lst l))) Q (fun _ _ => False)
theorem pd_lend (i : Nat) (h : PD X W e ta) : PD X W e (dLend i ta) := by
  obtain ⟨_, pa, la⟩ := h.of
  refine ⟨_, pa, fun H0 G0 G H σ env Q ex R S L ⟨l, hl, q⟩ g => ?_⟩
  obtain ⟨F, hF, S1⟩ := S.lend hl
  refine la H0 G0 _ H σ _ _ _ R S1 LkE.no q fun v H2 G2 d x r ⟨nl, q2⟩ => ?_
  refine g v H2 _ d (x.back fun a ha => (hF a ha).1) (r.cut (F := F) (fun a ha => ?_) (fun a ne => cutH_out ne) nl) q2
  obtain ⟨ws, e⟩ := (hF a ha).2
  exact ⟨ws, x.gg a _ ((joinH_in ha).trans e)⟩
theorem pdt_lend {t : DTT} (i : Nat) (h : PDT X W e t) : PDT X W e (dLendT i t) := by
  obtain ⟨_, pa, la⟩ := h.of
  refine ⟨_, pa, fun H0 G0 G H σ env Q ex R S L ⟨l, hl, q⟩ g => ?_⟩
  obtain ⟨F, hF, S1⟩ := S.lend hl
  exact la H0 G0 _ H σ _ _ _ R S1 LkE.no q fun v H2 G2 x q2 => g v H2 _ (x.back fun a ha => (hF a ha).1) q2
/-- data of one's own, lent -/
def dLendW (i : Nat) (ta : DT) : DT := fun env Q _ => ∃ w, env[i]? = some (.ow w) ∧ ta (env.set i (.val w)) (fun d => (scal d = true ∨ (NoL d ∧ noT w = true)) ∧ Q d) (fun _ _ => False)
def dLendWT (i : Nat) (t : DTT) : DTT := fun env Q _ => ∃ w, env[i]? = some (.ow w) ∧ t (env.set i (.val w)) Q (fun _ _ => False)
theorem pd_lendW (i : Nat) (h : PD X W e ta) : PD X W e (dLendW i ta) := by
  obtain ⟨_, pa, la⟩ := h.of
  refine ⟨_, pa, fun H0 G0 G H σ env Q ex R S L ⟨w, hl, q⟩ g => ?_⟩
  obtain ⟨F, hF, hT, S1⟩ := S.lendW hl
  refine la H0 G0 _ H σ _ _ _ R S1 LkE.no q fun v H2 G2 d x r ⟨nl, q2⟩ => ?_
  refine g v H2 _ d (x.back fun a ha => (hF a ha).1) ?_ q2
  rcases nl with nl | ⟨nl, t⟩
  · exact r.scal nl
  · refine r.cut (F := F) (fun a ha => ?_) (fun a ne => cutH_out ne) nl
    obtain ⟨ws, e⟩ := hT t a ha
    exact ⟨ws, x.gg a _ ((joinH_in ha).trans e)⟩
theorem pdt_lendW {t : DTT} (i : Nat) (h : PDT X W e t) : PDT X W e (dLendWT i t) := by
  obtain ⟨_, pa, la⟩ := h.of
  refine ⟨_, pa, fun H0 G0 G H σ env Q ex R S L ⟨l, hl, q⟩ g => ?_⟩
  obtain ⟨F, hF, _, S1⟩ := S.lendW hl
  exact la H0 G0 _ H σ _ _ _ R S1 LkE.no q fun v H2 G2 x q2 => g v H2 _ (x.back fun a ha => (hF a ha).1) q2
end
end DL

namespace PySem.W
open PySem PySem.Calls PyProof.Rows
section
variable {prog : Program} {w : World} {A : Around} {E : Value → Shared → Prop} {s : Shared} {K : Frag} {x y C D f f0 g : Addr} {ox oy : Obj} {od oyd : Option Obj}
/-- x op b, two own classes: the left one's method answers -/
theorem two_own {op : Operator} {b : Value} {rc rd : Option Value} {Q : Value → Shared → Prop} (X : K.In s.heap) (I : InstAt s.heap x ox C od) (hb : Looks (model prog w) s.heap (typeOf b) (.ref D)) (hne : C ≠ D) (hc : selfFirst K C = true) (hd : selfFirst K D = true)
    (hs : findIn K (.ref C) (PySem.dunder op.info.2) = some (some (.ref f))) (hf : isFn K (.ref f) = true) (hr : findIn K (.ref C) (dunderR op.info.2) = some rc) (hp : rc = none ∨ ∃ z : Addr, rc = some (.ref z))
    (hs2 : findIn K (.ref D) (PySem.dunder op.info.2) = some (some (.ref g))) (hr2 : findIn K (.ref D) (dunderR op.info.2) = some rd) (hp2 : rd = none ∨ ∃ z : Addr, rd = some (.ref z)) (hsub : subIn K (.ref D) (.ref C) = some false)
    (h : wpAny (model prog w) A (call (.ref f) [.ref x, b]) (CmpBack Q) E s) : wpAny (model prog w) A (binaryOp op (.ref x) b) Q E s := by
  obtain ⟨cd, rest, hcd, hm⟩ := ksp_first hc
  obtain ⟨cd2, rest2, hcd2, hm2⟩ := ksp_first hd
  rcases hi : op.info with ⟨sym, nm⟩
  rw [hi] at hs hr hs2 hr2
  dsimp only at hs hr hs2 hr2
  have one := ksp_try X I hs hf h
  obtain ⟨hh, gn, dr, tk, os⟩ := s
  have l1 : Looks (model prog w) hh (typeOf (.ref x)) (.ref C) := I.type
  have l2 : Looks (model prog w) hh (typeOf b) (.ref D) := hb
  have l3 : Looks (model prog w) hh (fillsNumberSlot (.ref C) nm) true := fills_K X hcd hm hs
  have l4 : Looks (model prog w) hh (fillsNumberSlot (.ref D) nm) true := fills_K X hcd2 hm2 hs2
  have l5 : Looks (model prog w) hh (isSubtype (.ref D) (.ref C)) false := looks_subIn X hsub
  have l6 : Looks (model prog w) hh (numberSlotInPython (.ref C) nm) true := ksp_inPy X hs hr hp
  have l7 : Looks (model prog w) hh (numberSlotInPython (.ref D) nm) true := ksp_inPy X hs2 hr2 hp2
  have ne : (Value.ref C == Value.ref D) = false := beq_eq_false_iff_ne.mpr fun z => hne (Value.ref.inj z)
  simp only [binaryOp, hi]
  refine wpAny_holding (wpAny_bind ?_)
  unfold binaryOp1
  refine wpAny_bind (l1.at (wpAny_bind (l2.at (wpAny_bind (l3.at ?_)))))
  simp only [ne, Bool.false_eq_true, if_false]
  ksp_lk
  refine wpAny_mono one (fun r s' hr' => ?_) fun _ _ e => e
  obtain ⟨v, rfl, hq⟩ := hr'
  ksp_lk
  exact hq
theorem try_none {Q : Option Value → Shared → Prop} {name : Str} {b : Value} (X : K.In s.heap) (I : InstAt s.heap x ox C od) (hs : findIn K (.ref C) name = some (some (.ref f))) (hf : isFn K (.ref f) = true)
    (h : wpAny (model prog w) A (call (.ref f) [.ref x, b]) (fun v s' => v = .notImplemented ∧ Q none s') E s) : wpAny (model prog w) A (tryMethod (.ref x) name b) Q E s := by
  unfold tryMethod
  refine wpAny_bind (special_fn X I hs (beq_iff_eq.mp hf) (wpAny_mono h (fun v s' hv => ?_) fun _ _ e => e))
  obtain ⟨rfl, hq⟩ := hv
  exact wpAny_pure hq
/-- x op y, two own classes: the left one's method declines, the right one's reflected method answers -/
theorem two_refl {op : Operator} {rd : Option Value} {Q : Value → Shared → Prop} (X : K.In s.heap) (I : InstAt s.heap x ox D od) (J : InstAt s.heap y oy C oyd) (hne : D ≠ C) (hc : selfFirst K C = true) (hd : selfFirst K D = true)
    (hs : findIn K (.ref D) (PySem.dunder op.info.2) = some (some (.ref f0))) (hf0 : isFn K (.ref f0) = true) (hr : findIn K (.ref D) (dunderR op.info.2) = some rd) (hp : rd = none ∨ ∃ z : Addr, rd = some (.ref z))
    (hs2 : findIn K (.ref C) (PySem.dunder op.info.2) = some (some (.ref g))) (hr2 : findIn K (.ref C) (dunderR op.info.2) = some (some (.ref f))) (hf : isFn K (.ref f) = true) (hsub : subIn K (.ref C) (.ref D) = some false)
    (h : wpAny (model prog w) A (call (.ref f0) [.ref x, .ref y]) (fun v s1 => v = .notImplemented ∧ K.In s1.heap ∧ (∃ o d, InstAt s1.heap x o D d) ∧ (∃ o d, InstAt s1.heap y o C d) ∧ wpAny (model prog w) A (call (.ref f) [.ref y, .ref x]) (CmpBack Q) E s1) E s) :
    wpAny (model prog w) A (binaryOp op (.ref x) (.ref y)) Q E s := by
  obtain ⟨cd, rest, hcd, hm⟩ := ksp_first hd
  obtain ⟨cd2, rest2, hcd2, hm2⟩ := ksp_first hc
  rcases hi : op.info with ⟨sym, nm⟩
  rw [hi] at hs hr hs2 hr2
  dsimp only at hs hr hs2 hr2
  have one : ∀ {R : Option Value → Shared → Prop}, (∀ s1, K.In s1.heap → (∃ o d, InstAt s1.heap x o D d) → (∃ o d, InstAt s1.heap y o C d) → wpAny (model prog w) A (call (.ref f) [.ref y, .ref x]) (CmpBack Q) E s1 → R none s1) → wpAny (model prog w) A (tryMethod (.ref x) (PySem.dunder nm) (.ref y)) R E s := fun k =>
    try_none X I hs hf0 (wpAny_mono h (fun v s1 z => ⟨z.1, k s1 z.2.1 z.2.2.1 z.2.2.2.1 z.2.2.2.2⟩) fun _ _ e => e)
  obtain ⟨hh, gn, dr, tk, os⟩ := s
  have l1 : Looks (model prog w) hh (typeOf (.ref x)) (.ref D) := I.type
  have l2 : Looks (model prog w) hh (typeOf (.ref y)) (.ref C) := J.type
  have l3 : Looks (model prog w) hh (fillsNumberSlot (.ref D) nm) true := fills_K X hcd hm hs
  have l4 : Looks (model prog w) hh (fillsNumberSlot (.ref C) nm) true := fills_K X hcd2 hm2 hs2
  have l5 : Looks (model prog w) hh (isSubtype (.ref C) (.ref D)) false := looks_subIn X hsub
  have l6 : Looks (model prog w) hh (numberSlotInPython (.ref D) nm) true := ksp_inPy X hs hr hp
  have l7 : Looks (model prog w) hh (numberSlotInPython (.ref C) nm) true := ksp_inPy X hs2 hr2 (.inr ⟨_, rfl⟩)
  have ne : (Value.ref D == Value.ref C) = false := beq_eq_false_iff_ne.mpr fun z => hne (Value.ref.inj z)
  simp only [binaryOp, hi]
  refine wpAny_holding (wpAny_bind ?_)
  unfold binaryOp1
  refine wpAny_bind (l1.at (wpAny_bind (l2.at (wpAny_bind (l3.at ?_)))))
  simp only [ne, Bool.false_eq_true, if_false]
  ksp_lk
  refine one fun s1 X1 ⟨o1, d1, I1⟩ ⟨o2, d2, J1⟩ z => ?_
  have two := ksp_try X1 J1 hr2 hf z
  obtain ⟨hh1, gn1, dr1, tk1, os1⟩ := s1
  have m1 : Looks (model prog w) hh1 (typeOf (.ref x)) (.ref D) := I1.type
  have m2 : Looks (model prog w) hh1 (typeOf (.ref y)) (.ref C) := J1.type
  simp only [if_true]
  refine wpAny_bind (m1.at (wpAny_bind (m2.at ?_)))
  simp only [ne, Bool.false_eq_true, if_false]
  ksp_lk
  refine wpAny_mono two (fun r s' hr' => ?_) fun _ _ e => e
  obtain ⟨v, rfl, hq⟩ := hr'
  ksp_lk
  exact hq
theorem int_mul_own (i : Int) (t : Tok) (y dy : Addr) : Meets (Builtin.«int.__mul__» ⟨[.int i t, .ref y], []⟩) (fun _ R s => s.heap.get? y = some (instObj C dy) ∧ R (.ok (.ret Value.notImplemented)) s) :=
  .of_wp fun prog w A R s h => by
    obtain ⟨hh, gn, dr, tk, os⟩ := s
    obtain ⟨hl, h⟩ := h
    wp_walk
    exact ⟨_, rfl, h⟩
/-- a op y, a of a built-in type, y of an own class with a reflected method, where the type's own method declines -/
theorem blt_refl {op : Operator} {a : Value} {T : String} {Q : Value → Shared → Prop} (ha : typeOf a = pure (.type T)) (X : K.In s.heap) (J : InstAt s.heap y oy C oyd) (hc : selfFirst K C = true) (hfill : fillsNumberSlot (.type T) op.info.2 = pure true)
    (one : ∀ {R : Option Value → Shared → Prop}, R none s → wpAny (model prog w) A (tryMethod a (PySem.dunder op.info.2) (.ref y)) R E s)
    (hs2 : findIn K (.ref C) (PySem.dunder op.info.2) = some (some (.ref g))) (hr2 : findIn K (.ref C) (dunderR op.info.2) = some (some (.ref f))) (hf : isFn K (.ref f) = true) (hsub : subIn K (.ref C) (.type T) = some false)
    (h : wpAny (model prog w) A (call (.ref f) [.ref y, a]) (CmpBack Q) E s) : wpAny (model prog w) A (binaryOp op a (.ref y)) Q E s := by
  obtain ⟨cd2, rest2, hcd2, hm2⟩ := ksp_first hc
  rcases hi : op.info with ⟨sym, nm⟩
  rw [hi] at hs2 hr2 hfill one
  dsimp only at hs2 hr2 hfill one
  have two := ksp_try X J hr2 hf h
  obtain ⟨hh, gn, dr, tk, os⟩ := s
  have l1 : Looks (model prog w) hh (typeOf a) (.type T) := Looks.of_pure ha
  have l2 : Looks (model prog w) hh (typeOf (.ref y)) (.ref C) := J.type
  have l3 : Looks (model prog w) hh (fillsNumberSlot (.type T) nm) true := Looks.of_pure hfill
  have l4 : Looks (model prog w) hh (fillsNumberSlot (.ref C) nm) true := fills_K X hcd2 hm2 hs2
  have l5 : Looks (model prog w) hh (isSubtype (.ref C) (.type T)) false := looks_subIn X hsub
  have l6 : Looks (model prog w) hh (numberSlotInPython (.type T) nm) false := Looks.of_pure rfl
  have ne : (Value.type T == Value.ref C) = false := beq_eq_false_iff_ne.mpr fun z => by cases z
  simp only [binaryOp, hi]
  refine wpAny_holding (wpAny_bind ?_)
  unfold binaryOp1
  refine wpAny_bind (l1.at (wpAny_bind (l2.at (wpAny_bind (l3.at ?_)))))
  simp only [ne, Bool.false_eq_true, if_false]
  ksp_lk
  refine one ?_
  ksp_lk
  refine wpAny_mono two (fun r s' hr' => ?_) fun _ _ e => e
  obtain ⟨v, rfl, hq⟩ := hr'
  ksp_lk
  exact hq
theorem int_call {dy : Addr} {i : Int} {t : Tok} {R : Value → Shared → Prop} (J : s.heap.get? y = some (instObj C dy)) (k : R .notImplemented s) : wpAny (model prog w) A (call (.builtin "int.__mul__") [.int i t, .ref y]) R E s :=
  call_meets F.slot_int_mul (typeIs_int s i t) F.entry_int_mul (F.args_int_mul_2 _ _) (int_mul_own (C := C) i t y dy) ⟨J, k⟩
theorem int_declines {dy : Addr} {i : Int} {t : Tok} {R : Option Value → Shared → Prop} (J : s.heap.get? y = some (instObj C dy)) (k : R none s) : wpAny (model prog w) A (tryMethod (.int i t) (PySem.dunder "mul") (.ref y)) R E s := by
  have hT := typeIs_int s i t
  have hS := F.slot_int_mul
  have z := @wpAny_tryMethod_declines (model prog w) A E s (.int i t) (.ref y) "int" (PySem.dunder "mul") "int.__mul__" R hT hS
  exact z (int_call J ⟨rfl, k⟩)
theorem int_refl {dy : Addr} {i : Int} {t : Tok} {Q : Value → Shared → Prop} (X : K.In s.heap) (J : InstAt s.heap y (instObj C dy) C oyd) (hc : selfFirst K C = true)
    (hs2 : findIn K (.ref C) (PySem.dunder "mul") = some (some (.ref g))) (hr2 : findIn K (.ref C) (dunderR "mul") = some (some (.ref f))) (hf : isFn K (.ref f) = true) (hsub : subIn K (.ref C) (.type "int") = some false)
    (h : wpAny (model prog w) A (call (.ref f) [.ref y, .int i t]) (CmpBack Q) E s) : wpAny (model prog w) A (binaryOp .Mult (.int i t) (.ref y)) Q E s := by
  have e : Operator.info .Mult = ("*", "mul") := rfl
  refine blt_refl (op := .Mult) (T := "int") (g := g) rfl X J hc ?_ (fun {R} k => ?_) ?_ ?_ hf hsub h
  · rw [e]
    exact F.fills_int_mul
  · rw [e]
    exact int_declines J.at_ k
  · rw [e]
    exact hs2
  · rw [e]
    exact hr2
end
end PySem.W
namespace DL
open PySem PySem.Spec PyProof.Rows L2 LR
/-! ## operators of mixed kinds -/
structure BinC (K : PySem.W.Frag) (nm : String) (C : Addr) : Prop where
  fst : PySem.W.selfFirst K C = true
  fn : ∃ f : Addr, PySem.W.findIn K (.ref C) (PySem.dunder nm) = some (some (.ref f))
  rf : ∃ rc, PySem.W.findIn K (.ref C) (dunderR nm) = some rc ∧ (rc = none ∨ ∃ z : Addr, rc = some (.ref z))
theorem BinC.of {K : PySem.W.Frag} {nm : String} {C : Addr} (h : binB K nm C = true) : BinC K nm C := by
  unfold binB at h
  obtain ⟨h1, h2⟩ := Bool.and_eq_true_iff.mp h
  obtain ⟨h2, h3⟩ := Bool.and_eq_true_iff.mp h2
  refine ⟨h1, ?_, ?_⟩
  · split at h2
    · rename_i f e
      exact ⟨f, e⟩
    · cases h2
  · split at h3
    · rename_i e
      exact ⟨_, e, .inl rfl⟩
    · rename_i f e
      exact ⟨_, e, .inr ⟨f, rfl⟩⟩
    · cases h3
structure Mix (K : PySem.W.Frag) (nm : String) (cs : List Nat) : Prop where
  bin : ∀ c ∈ cs, BinC K nm (gc K c)
  ti : ∀ c ∈ cs, PySem.W.subIn K (.type "int") (.ref (gc K c)) = some false ∧ PySem.W.subIn K (.ref (gc K c)) (.type "int") = some false
  ne : ∀ c ∈ cs, ∀ d ∈ cs, c ≠ d → gc K c ≠ gc K d ∧ PySem.W.subIn K (.ref (gc K d)) (.ref (gc K c)) = some false
  io : (∃ fo, PySem.W.findIn K (.type "int") (PySem.dunder nm) = some fo) ∧ ∃ ro, PySem.W.findIn K (.type "int") (dunderR nm) = some ro
theorem Mix.of {K : PySem.W.Frag} {nm : String} {cs : List Nat} (h : mixB K nm cs = true) : Mix K nm cs := by
  unfold mixB at h
  obtain ⟨h1, h2⟩ := Bool.and_eq_true_iff.mp h
  obtain ⟨h2, h3⟩ := Bool.and_eq_true_iff.mp h2
  have k := fun c hc => Bool.and_eq_true_iff.mp (List.all_eq_true.mp h1 c hc)
  refine ⟨fun c hc => .of (k c hc).1, fun c hc => ?_, fun c hc d hd cd => ?_, Option.isSome_iff_exists.mp h2, Option.isSome_iff_exists.mp h3⟩
  · obtain ⟨z, _⟩ := Bool.and_eq_true_iff.mp (k c hc).2
    obtain ⟨z1, z2⟩ := Bool.and_eq_true_iff.mp z
    exact ⟨of_decide_eq_true z1, of_decide_eq_true z2⟩
  · obtain ⟨_, z⟩ := Bool.and_eq_true_iff.mp (k c hc).2
    have z := List.all_eq_true.mp z d hd
    rw [decide_eq_false cd, Bool.false_or] at z
    obtain ⟨z1, z2⟩ := Bool.and_eq_true_iff.mp z
    exact ⟨of_decide_eq_true z1, of_decide_eq_true z2⟩
section
variable {X : Cx} {W : WX} {a b e : Expr} {ta tb : DT} {sa sb : TE} {pos : Pos} {k : Nat} {f : Addr} {Pm : Prm} {fd : FuncData} {ps : List Str} {sp : Sp} {E : L2.St → XK} {CX : CXT} {c : Nat} {cs : List Nat} {op : Operator}
abbrev R2S := L2.St → R2
def OpS (X : Cx) (op : Operator) (r : R2S) : Prop := ∀ (pins : List (Addr × Obj)) (s : Shared) (σ : L2.St) (H : Hp) (x y : V) (v u : Value) (Q : VK), Inv X pins σ H s → RelV x v → RelV y u → r σ x y H Q →
    wpAny (model X.prog X.w) X.A (binaryOp op v u) (EP X pins σ Q) X.xe s
def tOpS (r : R2S) (ta tb : TE) : TE := fun σ H Q => ta σ H fun x H1 => tb σ H1 fun y H2 => r σ x y H2 Q
theorem pe_opS {r : R2S} (ho : OpS X op r) (ha : PE X a sa) (hb : PE X b sb) : PE X (.BinOp a op b pos) (tOpS r sa sb) :=
  ⟨fun pins s σ H Q I h => wpAny_BinOp (binT ha hb I h fun v u s2 x y H2 I2 rx ry q => ho pins s2 σ H2 x y v u Q I2 rx ry q)⟩
/-- own instance op thing -/
def rMixO (K : PySem.W.Frag) (cs : List Nat) (c : Nat) (sp : Sp) (E : L2.St → XK) : R2S := fun σ x y H Q => ∃ (a dx : Addr) (fs : List (Str × V)), x = .ref a ∧ H a = some (.ins (gc K c) dx fs) ∧
  ((∃ i, y = .int i) ∨ ∃ d ∈ cs, ∃ (b dy : Addr) (gs : List (Str × V)), y = .ref b ∧ H b = some (.ins (gc K d) dy gs)) ∧ sp [.ref a, y] H Q (E σ)
theorem ret_back {pins : List (Addr × Obj)} {σ : L2.St} {Q : VK} {m : Sem Value} {A : Around} {s : Shared} {xe : Value → Shared → Prop} (h : wpAny (model X.prog X.w) A m (EP X pins σ Q) xe s) : wpAny (model X.prog X.w) A m (PySem.W.CmpBack (EP X pins σ Q)) xe s :=
  wpAny_mono h (fun u s' z => by
    obtain ⟨v, H', I', r, q'⟩ := z
    exact cmpBack_of r ⟨v, H', I', r, q'⟩) fun _ _ e => e
theorem op_mixO (M : Mix X.K op.info.2 cs) (hc : c ∈ cs) (hs : PySem.W.findIn X.K (.ref (gc X.K c)) (PySem.dunder op.info.2) = some (some (.ref f))) (hf : PySem.W.isFn X.K (.ref f) = true)
    (F : FnOk X.prog X.w X.K X.mg X.base CX k f fd ps sp) (hr : Room k X.A) (hb : Binds X.K fd ps []) (hx : ∀ σ, PassesAt CX X σ (E σ)) : OpS X op (rMixO X.K cs c sp E) := by
  intro pins s σ H x y v u Q I rx ry h
  obtain ⟨a, dx, fs, rfl, ha, ho, q⟩ := h
  cases rx
  obtain ⟨mA, J, _⟩ := ins_get I.hok ha
  obtain ⟨od, J, _⟩ := J.look
  obtain ⟨m, hF⟩ := I.fr
  obtain ⟨rc, hr1, hr2⟩ := (M.bin c hc).rf
  have go := ret_back (run_fnS (us := [.ref a, u]) (vs := [.ref a, y]) F hr hb (hx σ) I (.cons rfl (.cons ry .nil)) q)
  rcases ho with ⟨i, rfl⟩ | ⟨d, hd, b, dy, gs, rfl, hb'⟩
  · obtain ⟨t, rfl⟩ := ry
    obtain ⟨⟨fo, h1⟩, ⟨ro, h2⟩⟩ := M.io
    exact PySem.W.ksp_binT (T := "int") hF I.ok.mod.kin J rfl (M.bin c hc).fst hs hf hr1 hr2 h1 h2 (M.ti c hc).1 go
  · cases ry
    obtain ⟨mB, J', _⟩ := ins_get I.hok hb'
    obtain ⟨od', J', _⟩ := J'.look
    by_cases hcd : c = d
    · subst hcd
      exact PySem.W.binop_K hF I.ok.mod.kin J J'.type (M.bin c hc).fst hs hf go
    · obtain ⟨n1, n2⟩ := M.ne c hc d hd hcd
      obtain ⟨g, hg⟩ := (M.bin d hd).fn
      obtain ⟨rd, hd1, hd2⟩ := (M.bin d hd).rf
      exact PySem.W.two_own I.kIn J J'.type n1 (M.bin c hc).fst (M.bin d hd).fst hs hf hr1 hr2 hg hd1 hd2 n2 go
def dOpX (r : D → D → (D → Prop) → EX → Prop) (ta tb : DT) : DT := fun env Q ex => ta env (fun x => tb env (fun y => r x y Q ex) ex) ex
def othD (cs : List Nat) : D → Bool
  | .int _ => true | .ins c _ => cs.contains c | _ => false
def dMixO (cs : List Nat) (c : Nat) (P : Prm) : D → D → (D → Prop) → EX → Prop := fun a b Q ex => (∃ l, a = .ins c l) ∧ othD cs b = true ∧ P [a, b] Q ex
theorem pd_mixO (M : Mix X.K op.info.2 cs) (hc : c ∈ cs) (hs : PySem.W.findIn X.K (.ref (gc X.K c)) (PySem.dunder op.info.2) = some (some (.ref f))) (hf : PySem.W.isFn X.K (.ref f) = true)
    (F : Fn X.prog X.w X.K X.mg X.base f k 2 Pm) (hr : Room k X.A) (tk : Takes X W) (ha : PD X W a ta) (hb : PD X W b tb) : PD X W (.BinOp a op b pos) (dOpX (dMixO cs c Pm) ta tb) := by
  obtain ⟨_, pa, la⟩ := ha.of
  obtain ⟨_, pb, lb⟩ := hb.of
  refine ⟨_, pe_opS (op_mixO M hc hs hf F.ok hr F.bd (fun σ => passAt tk σ)) pa pb, fun H0 G0 G H σ env Q ex R S L q g => la H0 G0 G H σ env _ ex _ S L q fun v H1 G1 d x1 r1 q1 => ?_⟩
  refine lb H0 G0 G1 H1 σ env _ ex _ (S.ex x1) (L.mono x1.gg) q1 fun u H2 G2 d2 x2 r2 ⟨⟨l, e1⟩, hk, q2⟩ => ?_
  subst e1
  have x12 := x1.trans x2
  obtain ⟨p, dx, ws, rfl, hp, _, _⟩ := id (r1.same x2.gg).ins_inv
  refine ⟨p, dx, _, rfl, x2.sub _ _ hp, ?_, sp_call (S.ex x12) (L.mono x12.gg) F.len ((Reps.one r2).cons (r1.same x2.gg)) q2 fun w H3 G3 d3 x3 r3 q3 => g w H3 G3 d3 (x12.trans x3) r3 q3⟩
  cases d2 with
  | int i => exact .inl ⟨i, r2.int_inv⟩
  | ins c' m =>
    obtain ⟨p', dx', ws', rfl, hp', _, _⟩ := id r2.ins_inv
    exact .inr ⟨c', List.contains_iff_mem.mp hk, p', dx', _, rfl, x2.sub _ _ hp'⟩
  | non => cases hk
  | bl b => cases hk
  | str s => cases hk
  | lst l => cases hk
  | tup l => cases hk
/-! int * own -/
def rRefI (K : PySem.W.Frag) (c : Nat) (sp : Sp) (E : L2.St → XK) : R2S := fun σ x y H Q => ∃ (i : Int) (b dy : Addr) (gs : List (Str × V)), x = .int i ∧ y = .ref b ∧ H b = some (.ins (gc K c) dy gs) ∧ sp [.ref b, .int i] H Q (E σ)
theorem op_refI (M : Mix X.K "mul" cs) (hc : c ∈ cs) (hs : PySem.W.findIn X.K (.ref (gc X.K c)) (dunderR "mul") = some (some (.ref f))) (hf : PySem.W.isFn X.K (.ref f) = true)
    (F : FnOk X.prog X.w X.K X.mg X.base CX k f fd ps sp) (hr : Room k X.A) (hb : Binds X.K fd ps []) (hx : ∀ σ, PassesAt CX X σ (E σ)) : OpS X .Mult (rRefI X.K c sp E) := by
  intro pins s σ H x y v u Q I rx ry h
  obtain ⟨i, b, dy, gs, rfl, rfl, hb', q⟩ := h
  obtain ⟨t, rfl⟩ := rx
  cases ry
  obtain ⟨mB, J, _⟩ := ins_get I.hok hb'
  obtain ⟨od, J, _⟩ := J.look
  obtain ⟨g, hg⟩ := (M.bin c hc).fn
  exact PySem.W.int_refl I.kIn J (M.bin c hc).fst hg hs hf (M.ti c hc).2 (ret_back (run_fnS (us := [.ref b, .int i t]) (vs := [.ref b, .int i]) F hr hb (hx σ) I (.cons rfl (.cons ⟨t, rfl⟩ .nil)) q))
def dRefI (c : Nat) (P : Prm) : D → D → (D → Prop) → EX → Prop := fun a b Q ex => (∃ i, a = .int i) ∧ (∃ l, b = .ins c l) ∧ P [b, a] Q ex
theorem pd_refI (M : Mix X.K "mul" cs) (hc : c ∈ cs) (hs : PySem.W.findIn X.K (.ref (gc X.K c)) (dunderR "mul") = some (some (.ref f))) (hf : PySem.W.isFn X.K (.ref f) = true)
    (F : Fn X.prog X.w X.K X.mg X.base f k 2 Pm) (hr : Room k X.A) (tk : Takes X W) (ha : PD X W a ta) (hb : PD X W b tb) : PD X W (.BinOp a .Mult b pos) (dOpX (dRefI c Pm) ta tb) := by
  obtain ⟨_, pa, la⟩ := ha.of
  obtain ⟨_, pb, lb⟩ := hb.of
  refine ⟨_, pe_opS (op_refI M hc hs hf F.ok hr F.bd (fun σ => passAt tk σ)) pa pb, fun H0 G0 G H σ env Q ex R S L q g => la H0 G0 G H σ env _ ex _ S L q fun v H1 G1 d x1 r1 q1 => ?_⟩
  refine lb H0 G0 G1 H1 σ env _ ex _ (S.ex x1) (L.mono x1.gg) q1 fun u H2 G2 d2 x2 r2 ⟨⟨i, e1⟩, ⟨l, e2⟩, q2⟩ => ?_
  subst e1 e2
  have x12 := x1.trans x2
  obtain ⟨p, dx, ws, rfl, hp, _, _⟩ := id r2.ins_inv
  have ei := r1.int_inv
  subst ei
  exact ⟨i, p, dx, _, rfl, rfl, x2.sub _ _ hp, sp_call (S.ex x12) (L.mono x12.gg) F.len ((Reps.one (.int i)).cons r2) q2 fun w H3 G3 d3 x3 r3 q3 => g w H3 G3 d3 (x12.trans x3) r3 q3⟩
end
/-! ## a method that declines -/
structure Nim (P : Program) (w : World) (K : PySem.W.Frag) (mg : Str → Option Value) (base : Heap) (f : Addr) (k : Nat) (C : D → Prop) : Prop where
  run : ∀ (A : Around) (outer : List Env) (s : Shared) (H G : Hp) (x y : V) (u v : Value) (a b : D), Room k A → Env0 P w K mg base A outer s H → RelV x u → RelV y v → Same G H → Rep K G x a → Rep K G y b → C b →
    codeAny (model P w) A (.call (.ref f) ⟨[u, v], []⟩) (fun r s' => r = .ok (.ret .notImplemented) ∧ CE outer P w H s (fun _ H' => ∃ G', Ext G H G' H') .none s') s
theorem Nim.of {P : Program} {w : World} {K : PySem.W.Frag} {mg : Str → Option Value} {base : Heap} {x qual : Str} {params : Arguments} {body rest : List Stmt} {scope : Scope} {f : Addr} {N ps : List Str} {k : Nat} {C : D → Prop} {c : Expr} {p1 p2 p3 : Pos}
    (h : ∃ fd, FunD K x qual params body scope [] [] f fd) (S : FnScope N ps scope) (hn : ps.length = 2)
    (hb : ∀ (kV doc pm : Value) (an : Option Addr) (cdv ct : Value) (us : List Value), us.length = ps.length → bindArgs (PySem.W.fnOf x qual params body scope .none kV doc pm an cdv ct) ⟨us, []⟩ = pure (ps.zip us))
    (hbd : body = .If c [.Return (some (.Name "NotImplemented" p1)) p2] [] p3 :: rest) (hm : mg "NotImplemented" = none)
    (hbody : ∀ (cdv : Value) (A : Around) (outer : List Env) (s : Shared) (H : Hp), Room k (A.deeper (envOfC qual scope s.heap.objs.size f cdv)) →
      Gl (cxOf CX0 P w K mg base N qual scope f cdv A outer s H (fun _ _ _ => False)) "NotImplemented" ∧ ∃ t, PDT (cxOf CX0 P w K mg base N qual scope f cdv A outer s H (fun _ _ _ => False)) WN c t ∧ ∀ a b, C b → t (start N.length [a, b]) (fun q => q = true) (fun _ _ => False)) :
    Nim P w K mg base f (k + 1) C := by
  obtain ⟨fd, F⟩ := h
  refine ⟨fun A outer s H G x0 y0 u v a b hr e0 ru rv sG ra rb hC => ?_⟩
  have bd := FunD.bindsA (ps := ps) F (fun kV doc pm an cdv ct us hl => hb kV doc pm an cdv ct us hl) s [u, v] (by rw [hn]; rfl)
  obtain ⟨oc, od, dV, kV, doc, pm, an, cdv, ct, osl, rfl, lk, hcd, _, _⟩ := F.ex
  have rr : Vals [x0, y0] [u, v] := .cons ru (.cons rv .nil)
  have kin : K.In s.heap := e0.mod.kin.keeps fun b o e => (e0.bs b o e).1
  have noL : s.heap.NoLimit := e0.mod.nolimit.keeps fun b o e => (e0.bs b o e).1
  have kinds : ∀ z ∈ ps.zip [u, v], scope.names.lookup z.1 = some .local ∨ (scope.names.lookup z.1 = some .cell ∧ ((cellsFrom (s.heap.objs.size + 1) scope.names []).lookup z.1).isSome = true) := fun z hz =>
    (S.par z.1 (List.of_mem_zip (a := z.1) (b := z.2) hz).1).imp id fun q => ⟨q, PySem.W.cellsFrom_some _ _ _ (.inl q)⟩
  refine codeAny_call_function hr.depth (kin _ _ lk) rfl S.co S.gen rfl (PySem.W.codeRec_of kin hcd) (bd _ _ _ _ ?_)
  refine wpAny_newFunctionEnv_cells S.kind kinds fun env he s1 xc => ?_
  subst he
  refine ⟨noL.keeps xc.toInCall.keep, codeAny_func ?_⟩
  obtain ⟨hg, t, pd, hq⟩ := hbody cdv A outer s H (hr.deeper _)
  obtain ⟨tt, pt, lt⟩ := pd.of
  have I : Inv (cxOf CX0 P w K mg base N qual scope f cdv A outer s H (fun _ _ _ => False)) [] (L2.start N [x0, y0]) H s1 := inv_start S hr.hd e0 (by rw [hn]; rfl) rr xc
  have go := lt H G G H _ _ _ _ (fun b H' => b = true ∧ ∃ G', Ext G H G' H') (sr_start sG ((Reps.one rb).cons ra)) LkE.no (hq a b hC) fun b H' G' x' q' => ⟨q', G', x'⟩
  have main : wpAny (model P w) (A.deeper (envOfC qual scope s.heap.objs.size f cdv)) (execs body (envOfC qual scope s.heap.objs.size f cdv)) (fun fl s' => fl = .ret .notImplemented ∧ ∃ H' G', Inv (cxOf CX0 P w K mg base N qual scope f cdv A outer s H (fun _ _ _ => False)) [] (L2.start N [x0, y0]) H' s' ∧ Ext G H G' H')
      (cxOf CX0 P w K mg base N qual scope f cdv A outer s H (fun _ _ _ => False)).xe s1 := by
    rw [hbd]
    refine wpAny_execs_cons (wpAny_If (thn (pt.run [] s1 _ H _ I go) fun d s2 z => ?_))
    obtain ⟨H2, I2, rfl, G2, x2⟩ := z
    refine wpAny_execs_cons (wpAny_Return_some (ld_blt (u := .notImplemented) I2 hg hm (by decide +kernel) ?_))
    exact ⟨rfl, H2, G2, I2, x2⟩
  refine wpAny_mono main (fun fl s' z => ?_) fun e s' z => ?_
  · obtain ⟨rfl, H', G', J, x'⟩ := z
    exact ⟨rfl, .non, H', J.os, J.bare, J.base, J.hok, rfl, G', x'⟩
  · exact wpAny_mono z (fun _ _ q => q.elim) fun _ _ q => q.elim
section
variable {X : Cx} {W : WX} {a b e : Expr} {ta tb : DT} {sa sb : TE} {pos : Pos} {k k0 : Nat} {f f0 : Addr} {Pm : Prm} {fd : FuncData} {ps : List Str} {sp : Sp} {E : L2.St → XK} {CX : CXT} {c d : Nat} {cs : List Nat} {op : Operator} {C : D → Prop}
/-- own * own, the left one's method declines -/
def rRefN (K : PySem.W.Frag) (d c : Nat) (C : D → Prop) (sp : Sp) (E : L2.St → XK) : R2S := fun σ x y H Q => ∃ (G : Hp) (dx' dy' : D) (a dx : Addr) (fs : List (Str × V)) (b dy : Addr) (gs : List (Str × V)), Same G H ∧ Rep K G x dx' ∧ Rep K G y dy' ∧ C dy' ∧ x = .ref a ∧ H a = some (.ins (gc K d) dx fs) ∧ y = .ref b ∧ H b = some (.ins (gc K c) dy gs) ∧
  ∀ H' G', Ext G H G' H' → sp [.ref b, .ref a] H' Q (E σ)
theorem op_refN (M : Mix X.K op.info.2 cs) (hc : c ∈ cs) (hd : d ∈ cs) (hcd : d ≠ c) (hs0 : PySem.W.findIn X.K (.ref (gc X.K d)) (PySem.dunder op.info.2) = some (some (.ref f0))) (hf0 : PySem.W.isFn X.K (.ref f0) = true) (N : Nim X.prog X.w X.K X.mg X.base f0 k0 C) (hr0 : Room k0 X.A)
    (hs : PySem.W.findIn X.K (.ref (gc X.K c)) (dunderR op.info.2) = some (some (.ref f))) (hf : PySem.W.isFn X.K (.ref f) = true)
    (F : FnOk X.prog X.w X.K X.mg X.base CX k f fd ps sp) (hr : Room k X.A) (hb : Binds X.K fd ps []) (hx : ∀ σ, PassesAt CX X σ (E σ)) : OpS X op (rRefN X.K d c C sp E) := by
  intro pins s σ H x y v u Q I rx ry h
  obtain ⟨G, d1, d2, a, dx, fs, b, dy, gs, sG, r1, r2, hC, rfl, ha, rfl, hb', q⟩ := h
  cases rx
  cases ry
  have inst : ∀ {H' : Hp} {s' : Shared} {p dp : Addr} {n : Nat} {hs : List (Str × V)}, Inv X pins σ H' s' → H' p = some (.ins (gc X.K n) dp hs) → ∃ o dd, PySem.W.InstAt s'.heap p o (gc X.K n) dd := fun J e => by
    obtain ⟨mA, Z, _⟩ := ins_get J.hok e
    obtain ⟨od, Z, _⟩ := Z.look
    exact ⟨_, _, Z⟩
  obtain ⟨o1, q1, J1⟩ := inst I ha
  obtain ⟨o2, q2, J2⟩ := inst I hb'
  obtain ⟨n1, _⟩ := M.ne d hd c hc hcd
  obtain ⟨_, n2⟩ := M.ne d hd c hc hcd
  obtain ⟨rd, hd1, hd2⟩ := (M.bin d hd).rf
  obtain ⟨g, hg⟩ := (M.bin c hc).fn
  refine PySem.W.two_refl I.kIn J1 J2 n1 (M.bin c hc).fst (M.bin d hd).fst hs0 hf0 hd1 hd2 hg hs hf n2 (wpAny_call (codeAny_mono (N.run X.A X.stack s H G (.ref a) (.ref b) (.ref a) (.ref b) d1 d2 hr0 I.env0 rfl rfl sG r1 r2 hC) fun r s1 z => ?_))
  obtain ⟨rfl, z⟩ := z
  obtain ⟨_, H1, I1, _, G1, x1⟩ := I.after z
  exact ⟨rfl, I1.kIn, inst I1 (x1.hh _ _ ha), inst I1 (x1.hh _ _ hb'), ret_back (run_fnS (us := [.ref b, .ref a]) (vs := [.ref b, .ref a]) F hr hb (hx σ) I1 (.cons rfl (.cons rfl .nil)) (q H1 G1 x1))⟩
def dRefN (d c : Nat) (C : D → Prop) (P : Prm) : D → D → (D → Prop) → EX → Prop := fun a b Q ex => (∃ l, a = .ins d l) ∧ (∃ l, b = .ins c l) ∧ C b ∧ P [b, a] Q ex
theorem pd_refN (M : Mix X.K op.info.2 cs) (hc : c ∈ cs) (hd : d ∈ cs) (hcd : d ≠ c) (hs0 : PySem.W.findIn X.K (.ref (gc X.K d)) (PySem.dunder op.info.2) = some (some (.ref f0))) (hf0 : PySem.W.isFn X.K (.ref f0) = true) (N : Nim X.prog X.w X.K X.mg X.base f0 k0 C) (hr0 : Room k0 X.A)
    (hs : PySem.W.findIn X.K (.ref (gc X.K c)) (dunderR op.info.2) = some (some (.ref f))) (hf : PySem.W.isFn X.K (.ref f) = true)
    (F : Fn X.prog X.w X.K X.mg X.base f k 2 Pm) (hr : Room k X.A) (tk : Takes X W) (ha : PD X W a ta) (hb : PD X W b tb) : PD X W (.BinOp a op b pos) (dOpX (dRefN d c C Pm) ta tb) := by
  obtain ⟨_, pa, la⟩ := ha.of
  obtain ⟨_, pb, lb⟩ := hb.of
  refine ⟨_, pe_opS (op_refN M hc hd hcd hs0 hf0 N hr0 hs hf F.ok hr F.bd (fun σ => passAt tk σ)) pa pb, fun H0 G0 G H σ env Q ex R S L q g => la H0 G0 G H σ env _ ex _ S L q fun v H1 G1 d' x1 r1 q1 => ?_⟩
  refine lb H0 G0 G1 H1 σ env _ ex _ (S.ex x1) (L.mono x1.gg) q1 fun u H2 G2 d2 x2 r2 ⟨⟨i, e1⟩, ⟨l, e2⟩, hC, q2⟩ => ?_
  subst e1 e2
  have x12 := x1.trans x2
  have r1' := r1.same x2.gg
  obtain ⟨p, dx, ws, rfl, hp, _, _⟩ := id r1'.ins_inv
  obtain ⟨p', dx', ws', rfl, hp', _, _⟩ := id r2.ins_inv
  refine ⟨G2, _, _, p, dx, _, p', dx', _, x2.sub, r1', r2, hC, rfl, x2.sub _ _ hp, rfl, x2.sub _ _ hp', fun H' G' x' => ?_⟩
  have x3 := x12.trans x'
  exact sp_call (S.ex x3) (L.mono x3.gg) F.len ((Reps.one (r1'.same x'.gg)).cons (r2.same x'.gg)) q2 fun w H3 G3 d3 x4 r3 q3 => g w H3 G3 d3 (x3.trans x4) r3 q3
end
end DL

/-! several clauses, each with a name -/
namespace LR
open PySem PySem.Spec PyProof.Rows L2
abbrev ClA := Value × Nat × (Addr → Value → Option Addr → TS)
def offS (i : Nat) (D : Ends) : Ends := { nx := fun σ H => D.nx (σ.set i none) H, rt := D.rt, bk := fun σ H => D.bk (σ.set i none) H, ct := fun σ H => D.ct (σ.set i none) H }
def wAll (K : PySem.W.Frag) (Wout : WX) (D : Ends) : List ClA → WX
  | [] => Wout
  | q :: r => fun cls d σ H => ∃ b, PySem.W.exmOne K cls q.1 = some b ∧ (b = true → ∀ a, H a = none → q.2.2 a cls d (offS q.2.1 D) (σ.set q.2.1 (some (.ref a))) H) ∧ (b = false → wAll K Wout D r cls d σ H)
inductive HdA (X : Cx) : List ExceptHandler → List ClA → Prop
  | nil : HdA X [] []
  | cons {x n : Str} {c : Value} {i : Nat} {ts : Addr → Value → Option Addr → TS} {st : Stmt} {sts : List Stmt} {np ps : Pos} {hds : List ExceptHandler} {l : List ClA} (hc : Names X x c) (hi : X.N[i]? = some n) (hk : X.env.kindOf n = some .local)
      (hsu : ∀ (a : Addr) (oe : Obj) (cls : Value) (d : Option Addr) (pn : List (Addr × Obj)), Zc cls d oe → (∃ vs, oe.data = .fields vs) → PSs (X.suite a ((a, oe) :: pn)) (st :: sts) (ts a cls d)) (r : HdA X hds l) :
      HdA X (.ExceptHandler (some (.Name x np)) (some n) (st :: sts) ps :: hds) ((c, i, ts) :: l)
section
variable {X : Cx} {body : List Stmt} {h0 : ExceptHandler} {hds : List ExceptHandler} {l : List ClA} {pos : Pos} {tb : WX → TS} {Wout : WX}
theorem ps_tryN (hs : X.stack = X.env :: X.outer) (hf : X.env.frame = some X.env.locals) (hN : X.N.Nodup) (tk : Takes X Wout)
    (hb : ∀ (W : WX) (pn : List (Addr × Obj)) (xe : Value → Shared → Prop), Takes (X.tr pn xe) W → PassesOwn (model X.prog X.w) X.A X.env xe → PSs (X.tr pn xe) body (tb W)) (hh : HdA X (h0 :: hds) l) :
    PS X (.Try body (h0 :: hds) [] [] pos) (fun D σ H => tb (wAll X.K Wout D l) D σ H) := by
  refine ⟨fun pins s σ H D I h => wpAny_Try_except (wpAny_mono ((hb (wAll X.K Wout D l) (X.pn ++ pins) (fun e s₁ => wpAny (model X.prog X.w) X.A (noteFrame e X.env) (fun _ s₂ => wpAny (model X.prog X.w) X.A (setFlight e none) (fun _ s₃ =>
    wpAny (model X.prog X.w) X.A (handleBy e X.env (h0 :: hds)) (SP X pins D) X.xe s₃) X.xe s₂) X.xe s₁) (fun u s' xx => ?_) PassesOwn.looking).run [] s σ H D (I.toTry _) h) (fun f s1 z => ?_) fun e s1 he => he)⟩
  · obtain ⟨a, B, sI, pins', σ1, H1, cls, d, rfl, J', nb, up, sky, na, os, ag, wish⟩ := xx
    have J : Inv X pins σ1 H1 sI := J'.ofTry I.ok
    have frs0 : X.A.frames = some (X.env :: X.outer) := I.ok.frames.trans (by rw [hs])
    refine Sky.land Zc.steady frs0 hf (hs ▸ sky) fun h3 fl3 up3 => ?_
    have u3 := up.trans up3
    obtain ⟨o3, v3, e3, z3, d3⟩ := fl3.there
    have away : a ∉ frs (X.env :: X.outer) := fun hm => by
      obtain ⟨_, o', e', hnf⟩ := fl3.2.2.1.mem hm
      rw [e3] at e'
      cases e'
      exact hnf _ d3
    have awL : a ≠ X.env.locals := fun z => away (List.mem_filterMap.mpr ⟨X.env, List.mem_cons_self, by rw [hf, z]⟩)
    have awF : a ∉ X.fs := fun hm => by
      obtain ⟨e, he, q⟩ := List.mem_filterMap.mp hm
      exact away (List.mem_filterMap.mpr ⟨e, List.mem_cons_of_mem _ he, q⟩)
    have J3 : Inv X pins σ1 H1 { s' with heap := h3 } := J.landed nb fl3.1 u3 os ag
    have S3 := J3.suite e3 d3 na awL awF
    have ty : PySem.W.Looks (model X.prog X.w) h3 (typeOf (.ref a)) cls := fun A Q E s k q => wpAny_typeOf_ref (k _ _ e3) (z3.1.symm ▸ q)
    suffices go : ∀ {hs' : List ExceptHandler} {l' : List ClA}, HdA X hs' l' → wAll X.K Wout D l' cls d σ1 H1 → wpAny (model X.prog X.w) X.A (handleBy (.ref a) X.env hs') (SP X pins D) X.xe { s' with heap := h3 } from go hh wish
    intro hs' l' hk
    induction hk with
    | nil =>
      intro wish
      refine wpAny_handleBy_nil ?_
      obtain ⟨_, _, _, _, _, T, _, _, he, _, hd, h1, _⟩ := id fl3
      unfold PySem.passOn
      refine wpAny_bind (wpAny_field he hd h1 ?_)
      rw [if_neg (by simp)]
      have up_ : wpAny (model X.prog X.w) X.A (setFlight (.ref a) X.env.frame) (fun _ s4 => wpAny (model X.prog X.w) X.A (throw (.ref a) : Sem Flow) (SP X pins D) X.xe s4) X.xe { s' with heap := h3 } := by
        rw [hf]
        exact HandSPX.setFlight_upZ fl3 fun h4 hh4 up4 => wpAny_throw (tk _ _ ⟨a, B, sI, pins, σ1, H1, cls, d, rfl, J, nb, u3.trans up4, .inr (.inr (hs ▸ hh4)), na, os, ag, wish⟩)
      first
        | exact wpAny_bind up_
        | exact wpAny_bind (wpAny_pure (wpAny_bind up_))
    | @cons x n c i ts st sts np ps hs2 l2 hc hi hkn hsu r ih =>
      intro ⟨b, hb1, hyes, hno⟩
      refine wpAny_handleBy_cons (codeAny_handlers_test ?_) (by intro q; cases q)
      have named : ∀ {Q E : Value → Shared → Prop}, Q c { s' with heap := h3 } → wpAny (model X.prog X.w) (X.A.mark (some (.ref a))) (eval (.Name x np) X.env) Q E { s' with heap := h3 } := fun {Q E} q =>
        match hc with
        | ⟨g, dbg, .inl m⟩ => ld_glob (X := X.suite a ((a, o3) :: (X.pn ++ pins))) S3 g m q dbg
        | ⟨g, dbg, .inr ⟨m, bv, nn⟩⟩ => ld_blt (X := X.suite a ((a, o3) :: (X.pn ++ pins))) S3 g m bv q nn dbg
      refine named ((PySem.W.exm_one (M := model X.prog X.w) J3.kIn ty hb1).here ?_)
      cases b with
      | false => exact ih (hno rfl)
      | true =>
        refine codeAny_handlers_suite_as (HandSPX.lands_againZ fl3 fun h4 fl4 up4 => ?_)
        obtain ⟨o4, v4, e4, z4, d4⟩ := fl4.there
        have J4 : Inv X pins σ1 H1 { s' with heap := h4 } := J.landed nb fl4.1 (u3.trans up4) os ag
        have S4 := J4.suite e4 d4 na awL awF
        refine store_ok (X := X.suite a ((a, o4) :: (X.pn ++ pins))) (v := .ref a) S4 hN hi (.inl hkn) rfl (fun s5 S5 => ?_) (.inr hkn)
        refine wpAny_mono ((hsu a o4 cls d (X.pn ++ pins) z4 ⟨_, d4⟩).run [] s5 _ H1 _ S5 (hyes rfl a na)) (fun f s6 z => ?_) fun _ _ z => z.elim
        have off : ∀ {σ6 : L2.St} {H6 : Hp} {Q : Shared → Prop}, Inv (X.suite a ((a, o4) :: (X.pn ++ pins))) [] σ6 H6 s6 → (∀ s7, Inv X pins (σ6.set i none) H6 s7 → Q s7) →
          wpAny (model X.prog X.w) X.A (do bindName X.env n .none; unbindBehindTheSuite X.env n ps) (fun _ s7 => Q s7) X.xe s6 := fun S6 hq => gone_ok (S6.unsuite I.ok) hN hi hkn hq
        cases f with
        | next => exact match z with | ⟨_, _, S6, q6⟩ => off S6 fun s7 J7 => ⟨_, _, J7, q6⟩
        | brk => exact match z with | ⟨_, _, S6, q6⟩ => off S6 fun s7 J7 => ⟨_, _, J7, q6⟩
        | cont => exact match z with | ⟨_, _, S6, q6⟩ => off S6 fun s7 J7 => ⟨_, _, J7, q6⟩
        | ret u => exact match z with | ⟨_, _, _, S6, r6, q6⟩ => off S6 fun s7 J7 => ⟨_, _, _, J7, r6, q6⟩
  · cases f with
    | next => exact match z with | ⟨_, _, J', q⟩ => wpAny_execs_nil ⟨_, _, J'.ofTry I.ok, q⟩
    | brk => exact match z with | ⟨_, _, J', q⟩ => ⟨_, _, J'.ofTry I.ok, q⟩
    | cont => exact match z with | ⟨_, _, J', q⟩ => ⟨_, _, J'.ofTry I.ok, q⟩
    | ret u => exact match z with | ⟨_, _, _, J', r, q⟩ => ⟨_, _, _, J'.ofTry I.ok, r, q⟩
end
/-! any(xs) of a tuple of ints; lcm -/
section
variable {X : Cx}
def rAnyT (K : PySem.W.Frag) : List V → Hp → VK → Prop := fun vs H Q => ∃ (a : Addr) (ns : List Int), vs = [V.ref a] ∧ SqT K H a (ns.map V.int) ∧ Q (.bl (ns.any (· != 0))) H
theorem any_at : ∀ ns : List Int, (List.range ns.length).any (fun i => ns.getD i 0 != 0) = ns.any (· != 0)
  | [] => rfl
  | b :: bs => by
    rw [List.length_cons, List.range_succ_eq_map, List.any_cons, List.any_map, List.any_cons, ← any_at bs]
    rfl
theorem truth_ints {prog : Program} {w : World} {A : Around} {ns : List Int} {its : List Value} (r : Vals (ns.map V.int) its) : TruthOf prog w A (fun i v => its.toArray[i]? = some v) (fun i => ns.getD i 0 != 0) := fun i v s Q E hv hq => by
  have hv' : its[i]? = some v := by simpa using hv
  have hl := r.length
  have hi : i < (ns.map V.int).length := by
    rw [hl]
    exact (List.getElem?_eq_some_iff.mp hv').1
  obtain ⟨u, hu, ru⟩ := r.get (List.getElem?_eq_getElem hi)
  rw [hv'] at hu
  cases hu
  rw [List.getElem_map] at ru
  obtain ⟨t, rfl⟩ := ru
  have hi' : i < ns.length := by simpa using hi
  have e : ns.getD i 0 = ns[i] := by rw [List.getD_eq_getElem?_getD, List.getElem?_eq_getElem hi']; rfl
  dsimp only at hq
  rw [e] at hq
  exact PyProof.Rows.truthy_int hq
theorem cr_anyT (hc : X.calm = true) : CallR X (.builtin "any") (rAnyT X.K) := by
  intro pins s σ H vs us Q I r h
  obtain ⟨a, ns, rfl, hs, q⟩ := h
  obtain ⟨its, rv, hl, _⟩ := I.tuple hs
  rw [Vals.ref1 r]
  have ht : s.heap.IsTuple a its.toArray := hl
  have hlt : a < s.heap.objs.size := by
    obtain ⟨_, e, _⟩ := id ht
    exact Heap.lt_size e
  refine call_any_walk (wpAny_pyIter_tuple ht ?_)
  refine ⟨_, _, _, _, _, _, _, rfl, Walks.tuple (A := X.A.in1) (I.ok.hd hc) _ a (Nat.ne_of_lt hlt) its.toArray, ⟨⟨_, Heap.get?_push_size _ rfl, rfl, rfl⟩, ht.push _⟩, truth_ints rv, fun h' tk hk => ?_⟩
  refine ⟨.bl _, H, I.kept fun b o eo => hk b o (fun hm => ?_) (Heap.get?_push_of_some _ eo), ?_, q⟩
  · have e1 := List.mem_singleton.mp hm
    exact absurd (e1 ▸ Heap.lt_size eo) (Nat.lt_irrefl _)
  · show Value.bool _ = Value.bool _
    rw [← any_at, List.size_toArray, ← rv.length, List.length_map]
def rLcm : List V → Hp → VK → Prop := fun vs H Q => ∃ a b : Int, vs = [.int a, .int b] ∧ a.natAbs < 2 ^ 64 ∧ b.natAbs < 2 ^ 64 ∧ Q (.int ((Nat.lcm a.natAbs b.natAbs : Nat) : Int)) H
theorem cr_lcm : CallR X (.builtin "math.lcm") rLcm := by
  intro pins s σ H vs us Q I r h
  obtain ⟨a, b, rfl, ha, hb, q⟩ := h
  obtain ⟨t, u, rfl⟩ := Vals.int2 r
  exact PySem.W.mc_lcm ha hb fun _ => ⟨.int _, H, I.tok _, ⟨_, rfl⟩, q⟩
/-! len(x), x[i] by own methods -/
variable {CX : CXT} {k : Nat} {C f : Addr} {fd : FuncData} {ps : List Str} {sp : Sp} {E : XK} {a b : Expr} {ta tb : TE} {pos : Pos}
def rLenO (C : Addr) (sp : Sp) (E : XK) : List V → Hp → VK → Prop := fun xs H Q => ∃ (a dx : Addr) (fs : List (Str × V)), xs = [.ref a] ∧ H a = some (.ins C dx fs) ∧ sp [.ref a] H (fun v H' => ∃ n : Int, v = .int n ∧ 0 ≤ n ∧ n < 2 ^ 63 ∧ Q v H') E
theorem call_lenO (hs : PySem.W.findIn X.K (.ref C) "__len__" = some (some (.ref f))) (hf : PySem.W.isFn X.K (.ref f) = true)
    (F : FnOk X.prog X.w X.K X.mg X.base CX k f fd ps sp) (hr : Room (k + 1) X.A) (hb : Binds X.K fd ps []) (hx : Passes CX X.nox E) : CallR X (.builtin "len") (rLenO C sp E) := by
  intro pins s σ H xs us Q I r h
  obtain ⟨a, dx, fs, rfl, ha, q⟩ := h
  obtain ⟨u, rfl, ru⟩ := vals1 r
  cases ru
  obtain ⟨mA, J, _⟩ := ins_get I.hok ha
  obtain ⟨od, J, _⟩ := J.look
  obtain ⟨m, hF⟩ := I.fr
  have hl : [Value.ref a].length = ps.length := (F.len _ _ _ _ q).symm ▸ rfl
  refine PySem.W.len_K hF I.ok.mod.kin J hs hf (wpAny_call (codeAny_mono (F.run X.A.in1 X.stack s H ⟨[.ref a], []⟩ [.ref a] [.ref a] _ E hr.in1 I.env0.in1 (by simpa using hb s [.ref a] I.kIn (by simpa using hl)) (.cons rfl .nil) q) fun r s' z => ?_))
  cases r with
  | error er => exact (hx pins σ H s er s' (I.wish _) z).elim
  | ok fl =>
    cases fl with
    | ret w =>
      obtain ⟨v, H', I', rv, n, rfl, h0, h1, q3⟩ := I.after z
      obtain ⟨t, rfl⟩ := rv
      exact ⟨⟨h0, h1⟩, .int n, H', I'.tok _, ⟨_, rfl⟩, q3⟩
    | next => exact z.elim
    | brk => exact z.elim
    | cont => exact z.elim
/-- what stands in an index, as Python code's own __getitem__ sees it -/
def OwnIx (b : Expr) : Prop := ∀ o i, subscripted b true o i = runValue (.builtin "lifetime.subscript" ⟨[o, i], []⟩)
def rIxO (C : Addr) (sp : Sp) (E : XK) : R2 := fun x y H Q => ∃ (a dx : Addr) (fs : List (Str × V)), x = .ref a ∧ H a = some (.ins C dx fs) ∧ sp [.ref a, y] H Q E
theorem pe_ixO (hs : PySem.W.findIn X.K (.ref C) "__getitem__" = some (some (.ref f))) (hfn : PySem.W.fnIn X.K f = true) (hf : PySem.W.isFn X.K (.ref f) = true)
    (F : FnOk X.prog X.w X.K X.mg X.base CX k f fd ps sp) (hr : Room (k + 1) X.A) (hb : Binds X.K fd ps []) (hx : Passes CX X.nox E) (ha : PE X a ta) (hbx : PE X b tb) (ho : OwnIx b) : PE X (.Subscript a b pos) (tOp (rIxO C sp E) ta tb) := by
  refine ⟨fun pins s σ H Q I h => Subscript_ (binT ha hbx I h fun v u s2 x y H2 I2 rx ry ⟨p, dx, fs, e, hp, q⟩ => ?_)⟩
  subst e
  cases rx
  obtain ⟨mA, J, _⟩ := ins_get I2.hok hp
  obtain ⟨od, J, _⟩ := J.look
  obtain ⟨m, hF⟩ := I2.fr
  have hl : [Value.ref p, u].length = ps.length := (F.len _ _ _ _ q).symm ▸ rfl
  refine PySem.W.sub_K hF I2.ok.mod.kin J hs hfn hf (wpAny_call (codeAny_mono (F.run X.A.in1 X.stack s2 H2 ⟨[.ref p, u], []⟩ [.ref p, u] [.ref p, y] _ E hr.in1 I2.env0.in1 (by simpa using hb s2 [.ref p, u] I2.kIn (by simpa using hl)) (.cons rfl (.cons ry .nil)) q) fun r s' z => ?_)) (ho _ _)
  cases r with
  | error er => exact (hx pins σ H2 s2 er s' (I2.wish _) z).elim
  | ok fl =>
    cases fl with
    | ret w => exact I2.after z
    | next => exact z.elim
    | brk => exact z.elim
    | cont => exact z.elim
/-! a walk over a list or a tuple -/
theorem PI.or {tg it : Expr} {t u : TI} (h : PI X tg it t) (g : PI X tg it u) : PI X tg it (fun σ H R => t σ H R ∨ u σ H R) := ⟨fun pins s σ H R I q => by
  rcases q with q | q
  · exact h.run pins s σ H R I q
  · exact g.run pins s σ H R I q⟩
end
end LR

namespace DL
open PySem PySem.Spec PyProof.Rows L2 LR
/-! ## == of lists of ints -/
theorem eqv_ints : ∀ ms ns : List Int, PyData.eqvAll (toPs (ms.map D.int)) (toPs (ns.map D.int)) = decide (ms = ns)
  | [], [] => by simp [toPs, PyData.eqvAll]
  | [], n :: ns => by simp [toPs, PyData.eqvAll]
  | m :: ms, [] => by simp [toPs, PyData.eqvAll]
  | m :: ms, n :: ns => by
    rw [List.map_cons, List.map_cons, toPs, toPs, PyData.eqvAll, eqv_ints ms ns, toP, toP, PyData.eqv, Bool.eq_iff_iff]
    simp
theorem eqD_lst (ms ns : List Int) : eqD (.lst (ms.map D.int)) (.lst (ns.map D.int)) = decide (ms = ns) := by
  unfold eqD
  rw [toP, toP, PyData.eqv, eqv_ints]
theorem eqD_tup (ms ns : List Int) : eqD (.tup (ms.map D.int)) (.tup (ns.map D.int)) = decide (ms = ns) := by
  unfold eqD
  rw [toP, toP, PyData.eqv, eqv_ints]
theorem okD_lst (ms : List Int) : okD (.lst (ms.map D.int)) = true := okD_of 1 (fun y hy => by
  obtain ⟨m, _, rfl⟩ := List.mem_map.mp hy
  exact trivial) (by decide)
theorem okD_tup (ms : List Int) : okD (.tup (ms.map D.int)) = true := okD_of 1 (fun y hy => by
  obtain ⟨m, _, rfl⟩ := List.mem_map.mp hy
  exact trivial) (by decide)
/-- whether a class of errors is another, by isinstance's answer -/
theorem exm_no {K : PySem.W.Frag} {x y : Str} (c : ExcC K (He.ga K y)) (h : PySem.W.kitOne K (.ref (He.ga K x)) (.ref (He.ga K y)) = some false) : PySem.W.exmOne K (.ref (He.ga K x)) (.ref (He.ga K y)) = some false := by
  unfold PySem.W.exmOne
  rw [if_pos (by rw [c.hs]; rfl)]
  unfold PySem.W.kitOne at h
  split at h
  · cases h
  · exact h
theorem fn_in {K : PySem.W.Frag} {x qual : Str} {params : Arguments} {body : List Stmt} {scope : Scope} {dvs : List V} {f : Addr} (h : ∃ fd, FunD K x qual params body scope dvs [] f fd) : PySem.W.fnIn K f = true := by
  obtain ⟨fd, F⟩ := h
  obtain ⟨oc, od, dV, kV, doc, pm, an, cdv, ct, osl, rfl, lk, _⟩ := F.ex
  unfold PySem.W.fnIn
  rw [lk]
section
variable {X : Cx} {W : WX} {a b c e tg : Expr} {es : List Expr} {ta tb tc : DT} {t : DTA} {pos p : Pos} {K : PySem.W.Frag} {k : Nat} {f : Addr} {Pm : Prm}
/-! ## a walk over a list or a tuple at a name -/
def diSeq (i : Nat) : DTI := fun env Q _ => ∃ l, (env[i]? = some (.val (.lst l)) ∨ env[i]? = some (.val (.tup l))) ∧ Q l
theorem pdi_seq {i : Nat} (hv : PE X e (tVar i)) : PDI X W tg e (diSeq i) := ⟨_, PI.or (pi_list hv) (pi_tup hv), fun H0 G0 G H σ env Q ex R S L ⟨l, hl, q⟩ g => by
  rcases hl with hl | hl
  · obtain ⟨v, ev, r⟩ := S.val i _ hl
    obtain ⟨p, vs, rfl, h1, h2⟩ := r.lst_inv
    exact .inl ⟨_, ev, p, rfl, ⟨vs, S.sub.seq h1⟩, g _ H G l (.refl S.sub) (jok_list h1 h2) q⟩
  · obtain ⟨v, ev, r⟩ := S.val i _ hl
    obtain ⟨p, vs, rfl, h1, h2⟩ := r.tup_inv
    exact .inr ⟨_, ev, p, rfl, ⟨vs, sqT_same S.sub h1⟩, g _ H G l (.refl S.sub) (jok_tup h1 h2) q⟩⟩
/-! ## any, lcm, len, x[i] -/
theorem l_anyT : LcR K (rAnyT K) (fun ds Q => ∃ ns : List Int, ds = [.tup (ns.map D.int)] ∧ Q (.bl (ns.any (· != 0)))) := fun G H vs ds Q R s r ⟨ns, e, q⟩ g => by
  subst e
  obtain ⟨v, rfl, r1⟩ := reps1 r
  obtain ⟨p, ws, rfl, h1, h2⟩ := r1.tup_inv
  rw [h2.ints] at h1
  exact ⟨p, ns, rfl, sqT_same s h1, g _ _ _ _ (.refl s) (.bl _) q⟩
theorem l_lcm : LcR K rLcm (fun ds Q => ∃ a b : Int, ds = [.int a, .int b] ∧ a.natAbs < 2 ^ 64 ∧ b.natAbs < 2 ^ 64 ∧ Q (.int ((Nat.lcm a.natAbs b.natAbs : Nat) : Int))) := fun G H vs ds Q R s r ⟨a, b, e, h1, h2, q⟩ g => by
  subst e
  obtain ⟨v, w, rfl, r1, r2⟩ := reps2 r
  exact ⟨a, b, by rw [r1.int_inv, r2.int_inv], h1, h2, g _ _ _ _ (.refl s) (.int _) q⟩
theorem l_lenO {c : Nat} {E : XK} (hn : ∀ ds Q ex, Pm ds Q ex → ds.length = 1) : LcR K (rLenO (He.ga K (cname c)) (spD K 1 Pm) E) (fun ds Q => ∃ l, ds = [.ins c l] ∧ Pm ds (fun d => ∃ n : Int, d = .int n ∧ 0 ≤ n ∧ n < 2 ^ 63 ∧ Q d) (fun _ _ => False)) := fun G H vs ds Q R s r ⟨l, e1, q⟩ g => by
  subst e1
  obtain ⟨v, rfl, r1⟩ := reps1 r
  obtain ⟨p, dx, ws, rfl, hp, _, _⟩ := id r1.ins_inv
  refine ⟨p, dx, _, rfl, s _ _ hp, sp_call0 s hn (Reps.one r1) q fun v H' G' d x r ⟨n, e, h0, h1, q'⟩ => ?_⟩
  subst e
  exact ⟨n, r.int_inv, h0, h1, g _ H' G' _ x r q'⟩
def dIxC (c : Nat) (P : Prm) : R2D := fun a b Q => (∃ l, a = .ins c l) ∧ P [a, b] Q (fun _ _ => False)
theorem l_ixC {c : Nat} {E : XK} (hn : ∀ ds Q ex, Pm ds Q ex → ds.length = 2) : L2R K (rIxO (He.ga K (cname c)) (spD K 2 Pm) E) (dIxC c Pm) := fun G H x y a b Q R s r1 r2 ⟨⟨l, e1⟩, q⟩ g => by
  subst e1
  obtain ⟨p, dx, ws, rfl, hp, _, _⟩ := id r1.ins_inv
  exact ⟨p, dx, _, rfl, s _ _ hp, sp_call0 s hn ((Reps.one r2).cons r1) q g⟩
theorem pd_ixC {c : Nat} (hs : PySem.W.findIn X.K (.ref (He.ga X.K (cname c))) "__getitem__" = some (some (.ref f))) (hfn : PySem.W.fnIn X.K f = true) (hf : PySem.W.isFn X.K (.ref f) = true)
    (F : Fn X.prog X.w X.K X.mg X.base f k 2 Pm) (hr : Room (k + 1) X.A) (ha : PD X W a ta) (hb : PD X W b tb) (ho : OwnIx b) : PD X W (.Subscript a b pos) (dOp (dIxC c Pm) ta tb) :=
  let ⟨_, pa, la⟩ := ha.of; let ⟨_, pb, lb⟩ := hb.of; ⟨_, pe_ixO (E := fun _ _ _ => False) hs hfn hf F.ok hr F.bd passL pa pb ho, le_op (l_ixC F.len) la lb⟩
/-! ## try with several clauses -/
abbrev ClD := Str × Nat × (Addr → Value → Option Addr → DTS)
def offD (i : Nat) (E : DEnds) : DEnds := { nx := fun e => E.nx (e.set i .no), rt := E.rt, bk := fun e => E.bk (e.set i .no), ct := fun e => E.ct (e.set i .no), rf := E.rf }
def dCl (K : PySem.W.Frag) (E : DEnds) (y : Str) (fs : List (Str × D)) (e : DE) : List ClD → Prop
  | [] => E.ex y fs e
  | q :: r => (y = q.1 ∧ ∀ a dd, q.2.2 a (.ref (He.ga K q.1)) (some dd) (offD q.2.1 E) (e.set q.2.1 (.exc a dd q.1 fs))) ∨ (PySem.W.exmOne K (.ref (He.ga K y)) (.ref (He.ga K q.1)) = some false ∧ dCl K E y fs e r)
def dTryN (K : PySem.W.Frag) (l : List ClD) (tb : DTS) : DTS := fun E env => tb { E with ex := fun y fs e => dCl K E y fs e l } env
inductive HdD (X : Cx) : List ExceptHandler → List ClD → Prop
  | nil : HdD X [] []
  | cons {x n : Str} {i : Nat} {ts : Addr → Value → Option Addr → DTS} {st : Stmt} {sts : List Stmt} {np ps : Pos} {hds : List ExceptHandler} {l : List ClD} (hc : Names X x (.ref (He.ga X.K x))) (hm : PySem.W.exmOne X.K (.ref (He.ga X.K x)) (.ref (He.ga X.K x)) = some true)
      (hi : X.N[i]? = some n) (hk : X.env.kindOf n = some .local) (hsu : ∀ (a : Addr) (oe : Obj) (cls : Value) (d : Option Addr) (pn : List (Addr × Obj)), Zc cls d oe → (∃ vs, oe.data = .fields vs) → PDSs (X.suite a ((a, oe) :: pn)) WN (st :: sts) (ts a cls d)) (r : HdD X hds l) :
      HdD X (.ExceptHandler (some (.Name x np)) (some n) (st :: sts) ps :: hds) ((x, i, ts) :: l)
theorem HdD.lift {hds : List ExceptHandler} {l : List ClD} (h : HdD X hds l) : ∃ l' : List ClA, HdA X hds l' ∧ ∀ (W : WX) (H0 G0 G : Hp) (B : Ends) (E : DEnds), Lk X.K H0 G0 G W B E → ∀ (σ' : L2.St) (H' G' : Hp) (env' : DE) (dd : Addr) (y : Str) (fv : List (Str × V)) (fs : List (Str × D)), Same G G' →
    SR X.K H0 G0 G' H' σ' env' → H' dd = some (.xd fv) → RepF X.K G' fv fs → dCl X.K E y fs env' l → wAll X.K W B l' (.ref (He.ga X.K y)) (some dd) σ' H' := by
  induction h with
  | nil => exact ⟨[], .nil, fun W H0 G0 G B E L σ' H' G' env' dd y fv fs s S e r q => L.ex σ' H' G' env' dd y fv fs s S e r q⟩
  | @cons x n i ts st sts np ps hds l hc hm hi hk hsu r ih =>
    obtain ⟨l', h', go⟩ := ih
    refine ⟨(.ref (He.ga X.K x), i, fun a cls d B σ H => ∀ oe pn (h1 : Zc cls d oe) (h2 : ∃ vs, oe.data = .fields vs), (hsu a oe cls d pn h1 h2).of.choose B σ H) :: l', .cons hc hi hk (fun a oe cls d pn h1 h2 => ⟨fun pins s σ H B I q => (hsu a oe cls d pn h1 h2).of.choose_spec.1.run pins s σ H B I (q oe pn h1 h2)⟩) h', ?_⟩
    intro W H0 G0 G B E L σ' H' G' env' dd y fv fs s S e rf q
    rcases q with ⟨rfl, q⟩ | ⟨hn, q⟩
    · refine ⟨true, hm, fun _ a na oe pn h1 h2 => ?_, fun z => Bool.noConfusion z⟩
      have S2 := S.setErr (i := i) (a := a) (x := y) e rf
      have L2 := L.mono s
      exact (hsu a oe _ _ pn h1 h2).of.choose_spec.2 H0 G0 G' H' _ _ _ (offD i E) S2 ⟨fun σ4 H4 G4 env4 s4 S4 q4 => L2.nx _ _ _ _ s4 S4.unset q4, fun σ4 H4 G4 env4 s4 S4 q4 => L2.bk _ _ _ _ s4 S4.unset q4, fun σ4 H4 G4 env4 s4 S4 q4 => L2.ct _ _ _ _ s4 S4.unset q4, L2.rt, fun _ _ _ _ _ _ _ _ _ _ _ _ z => z.elim, L2.rf⟩ (q a dd)
    · exact ⟨false, hn, fun z => Bool.noConfusion z, fun _ => go W H0 G0 G B E L σ' H' G' env' dd y fv fs s S e rf q⟩
theorem pds_tryN {body : List Stmt} {h0 : ExceptHandler} {hds : List ExceptHandler} {l : List ClD} {tb : DTS} (hs : X.stack = X.env :: X.outer) (hf : X.env.frame = some X.env.locals) (hN : X.N.Nodup) (tk : Takes X W)
    (hb : ∀ (W' : WX) (pn : List (Addr × Obj)) (xe : Value → Shared → Prop), Takes (X.tr pn xe) W' → PassesOwn (model X.prog X.w) X.A X.env xe → PDSs (X.tr pn xe) W' body tb) (hh : HdD X (h0 :: hds) l) : PDS X W (.Try body (h0 :: hds) [] [] pos) (dTryN X.K l tb) := by
  obtain ⟨l', h', go⟩ := hh.lift
  refine ⟨_, ps_tryN (Wout := W) (tb := fun W' B σ H => ∀ pn xe (h1 : Takes (X.tr pn xe) W') (h2 : PassesOwn (model X.prog X.w) X.A X.env xe), (hb W' pn xe h1 h2).of.choose B σ H) hs hf hN tk
    (fun W' pn xe h1 h2 => ⟨fun pins s σ H B I q => (hb W' pn xe h1 h2).of.choose_spec.1.run pins s σ H B I (q pn xe h1 h2)⟩) h', fun H0 G0 G H σ env B E S L q pn xe h1 h2 => ?_⟩
  exact (hb _ pn xe h1 h2).of.choose_spec.2 H0 G0 G H σ env _ { E with ex := fun y fs e => dCl X.K E y fs e l } S ⟨L.nx, L.bk, L.ct, L.rt, fun σ' H' G' env' dd y fv fs s' S' e r q' => go W H0 G0 G B E L σ' H' G' env' dd y fv fs s' S' e r q', L.rf⟩ q
end
end DL
namespace DL
open PySem PySem.Spec PyProof.Rows L2 LR
theorem dm_Mult : PySem.dunder (Operator.info .Mult).2 = ("__mul__" : Str) := by decide +kernel
theorem dm_Add : PySem.dunder (Operator.info .Add).2 = ("__add__" : Str) := by decide +kernel
theorem dm_Sub : PySem.dunder (Operator.info .Sub).2 = ("__sub__" : Str) := by decide +kernel
theorem dm_FloorDiv : PySem.dunder (Operator.info .FloorDiv).2 = ("__floordiv__" : Str) := by decide +kernel
theorem dr_Mult : dunderR (Operator.info .Mult).2 = ("__rmul__" : Str) := by decide +kernel
theorem dr_mul : dunderR "mul" = ("__rmul__" : Str) := by decide +kernel
structure Mo2 (cs : List Nat) (sms : List (Str × Str)) (cis : List (Str × Int)) (mxs : List (String × List Nat)) (K : PySem.W.Frag) (mg : Str → Option Value) : Prop extends Mo cs sms cis K mg where
  mxA : ∀ p ∈ mxs, Mix K p.1 p.2
theorem Mo2.of {cs : List Nat} {sms : List (Str × Str)} {cis : List (Str × Int)} {mxs : List (String × List Nat)} {K : PySem.W.Frag} {mg : Str → Option Value} {h : Heap} (X : K.In h) (G : h.Ns mainGlobals mg) (hc : ∀ c ∈ cs, Cls K (He.ga K (cname c))) (m : mo2B cs sms cis mxs K = true) : Mo2 cs sms cis mxs K mg :=
  let ⟨m1, m2⟩ := Bool.and_eq_true_iff.mp m
  { Mo.of X G hc m1 with mxA := fun p hp => Mix.of (List.all_eq_true.mp m2 p hp) }
theorem Mo2.mx {cs : List Nat} {sms : List (Str × Str)} {cis : List (Str × Int)} {mxs : List (String × List Nat)} {K : PySem.W.Frag} {mg : Str → Option Value} (M : Mo2 cs sms cis mxs K mg) (nm : String) (l : List Nat) (h : (nm, l) ∈ mxs := by decide +kernel) : Mix K nm l := M.mxA (nm, l) h
end DL

namespace DL
open PySem PySem.Spec PyProof.Rows L2 LR
/-! ## lowest terms of a list of ints over a bottom -/
def lT (ts : List Int) (b : Int) : List Int := ts.map fun t => t.fdiv (gs ts b)
def lB (ts : List Int) (b : Int) : Int := b.fdiv (gs ts b)
def Bd (n : Nat) (ts : List Int) : Prop := ∀ t ∈ ts, t.natAbs < 2 ^ n
/-- in lowest terms, its numbers below 2 ^ n -/
structure Vec (n : Nat) (ts : List Int) (b : Int) : Prop where
  ne : ts ≠ []
  len : ts.length ≤ 1000
  pos : 0 < b
  cop : cg ts b = 1
  bd : Bd n ts
  sb : b.natAbs < 2 ^ n
theorem Bd.up {n m : Nat} {ts : List Int} (h : Bd n ts) (k : n ≤ m) : Bd m ts := fun t ht => abs_up (h t ht) k
theorem Vec.up {n m : Nat} {ts : List Int} {b : Int} (h : Vec n ts b) (k : n ≤ m) : Vec m ts b := ⟨h.ne, h.len, h.pos, h.cop, h.bd.up k, abs_up h.sb k⟩
theorem map_is {α β : Type} {f : α → β} {ts : List α} {ms : List β} (hl : ms.length = ts.length) (h : ∀ (i : Nat) m, ms[i]? = some m → ∃ t, ts[i]? = some t ∧ m = f t) : ms = ts.map f := by
  refine List.ext_getElem? fun i => ?_
  rw [List.getElem?_map]
  cases e : ms[i]? with
  | none =>
    rw [List.getElem?_eq_none (by have := List.getElem?_eq_none_iff.mp e; omega)]
    rfl
  | some m =>
    obtain ⟨t, h1, h2⟩ := h i m e
    rw [h1, h2]
    rfl
theorem fold_scale (k : Nat) : ∀ (ts : List Int) (z : Int) (n : Nat), z.natAbs = k → (ts.map fun t => z * t).foldl (fun g t => Nat.gcd g t.natAbs) (k * n) = k * ts.foldl (fun g t => Nat.gcd g t.natAbs) n
  | [], _, _, _ => rfl
  | t :: ts, z, n, hz => by
    rw [List.map_cons, List.foldl_cons, List.foldl_cons, Int.natAbs_mul, hz, Nat.gcd_mul_left]
    exact fold_scale k ts z _ hz
theorem cg_scale (ts : List Int) (b z : Int) : cg (ts.map fun t => z * t) (z * b) = z.natAbs * cg ts b := by
  unfold cg
  rw [Int.natAbs_mul]
  exact fold_scale _ ts z _ rfl
theorem gs_scale {ts : List Int} {b z : Int} (hb : b ≠ 0) (hz : z ≠ 0) : gs (ts.map fun t => z * t) (z * b) = z * gs ts b := by
  unfold gs
  rw [cg_scale]
  have e : ((z.natAbs * cg ts b : Nat) : Int) = (z.natAbs : Int) * (cg ts b : Int) := by push_cast; rfl
  rw [e]
  rcases Int.lt_or_gt_of_ne hb with hb | hb <;> rcases Int.lt_or_gt_of_ne hz with hz | hz
  · rw [if_pos (Int.mul_pos_of_neg_of_neg hz hb), if_neg (by omega), show (z.natAbs : Int) = -z by omega, Int.neg_mul, Int.mul_neg]
  · rw [if_neg (by have := Int.mul_neg_of_pos_of_neg hz hb; omega), if_neg (by omega), show (z.natAbs : Int) = z by omega, Int.mul_neg]
  · rw [if_neg (by have := Int.mul_neg_of_neg_of_pos hz hb; omega), if_pos hb, show (z.natAbs : Int) = -z by omega, Int.neg_mul, Int.neg_neg]
  · rw [if_pos (Int.mul_pos hz hb), if_pos hb, show (z.natAbs : Int) = z by omega]
theorem gs_dvds (ts : List Int) (b : Int) : (∀ t ∈ ts, gs ts b ∣ t) ∧ gs ts b ∣ b := by
  obtain ⟨h1, h2⟩ := cg_dvd ts b
  exact ⟨fun t ht => Int.natAbs_dvd_natAbs.mp (by rw [gs_abs]; exact h2 t ht), Int.natAbs_dvd_natAbs.mp (by rw [gs_abs]; exact h1)⟩
theorem fdiv_of {g s : Int} (h : g ≠ 0) : (g * s).fdiv g = s := by rw [Int.fdiv_eq_ediv_of_dvd (Int.dvd_mul_right g s), Int.mul_ediv_cancel_left s h]
theorem lT_mul (ts : List Int) {b : Int} (h : b ≠ 0) : (lT ts b).map (fun t => gs ts b * t) = ts := by
  unfold lT
  rw [List.map_map]
  have k : ∀ t ∈ ts, ((fun t => gs ts b * t) ∘ fun t => t.fdiv (gs ts b)) t = id t := fun t ht => by
    obtain ⟨s, hs⟩ := (gs_dvds ts b).1 t ht
    show gs ts b * t.fdiv (gs ts b) = t
    rw [congrArg (fun z => z.fdiv (gs ts b)) hs, fdiv_of (gs_ne h), ← hs]
  rw [List.map_congr_left k, List.map_id]
theorem lB_mul (ts : List Int) {b : Int} (h : b ≠ 0) : gs ts b * lB ts b = b := by
  unfold lB
  obtain ⟨s, hs⟩ := (gs_dvds ts b).2
  rw [congrArg (fun z => z.fdiv (gs ts b)) hs, fdiv_of (gs_ne h), ← hs]
theorem low_scale {ts : List Int} {b z : Int} (hb : b ≠ 0) (hz : z ≠ 0) : lT (ts.map fun t => z * t) (z * b) = lT ts b ∧ lB (ts.map fun t => z * t) (z * b) = lB ts b := by
  have hg := gs_ne (ts := ts) hb
  have hzg : z * gs ts b ≠ 0 := Int.mul_ne_zero hz hg
  unfold lT lB
  rw [gs_scale hb hz]
  constructor
  · rw [List.map_map]
    refine List.map_congr_left fun t ht => ?_
    obtain ⟨s, hs⟩ := (gs_dvds ts b).1 t ht
    show (z * t).fdiv (z * gs ts b) = t.fdiv (gs ts b)
    rw [show z * t = (z * gs ts b) * s by rw [Int.mul_assoc, ← hs], fdiv_of hzg, congrArg (fun y => y.fdiv (gs ts b)) hs, fdiv_of hg]
  · obtain ⟨s, hs⟩ := (gs_dvds ts b).2
    rw [show z * b = (z * gs ts b) * s by rw [Int.mul_assoc, ← hs], fdiv_of hzg, congrArg (fun y => y.fdiv (gs ts b)) hs, fdiv_of hg]
/-- equal fractions, equal lowest terms -/
theorem low_cross {ts us : List Int} {b c : Int} (hb : b ≠ 0) (hc : c ≠ 0) (h : ts.map (fun t => c * t) = us.map fun t => b * t) : lT ts b = lT us c ∧ lB ts b = lB us c := by
  obtain ⟨h1, h2⟩ := low_scale (ts := ts) (b := b) (z := c) hb hc
  obtain ⟨h3, h4⟩ := low_scale (ts := us) (b := c) (z := b) hc hb
  rw [h, Int.mul_comm c b] at h1 h2
  exact ⟨h1.symm.trans h3, h2.symm.trans h4⟩
theorem lB_pos {ts : List Int} {b : Int} (h : b ≠ 0) : 0 < lB ts b := by
  have e := lB_mul ts h
  have hp : 0 < cg ts b := cg_pos h
  unfold gs at e
  by_cases hb : b > 0
  · rw [if_pos hb] at e
    have : 0 < (cg ts b : Int) * lB ts b := by rw [e]; exact hb
    exact Int.pos_of_mul_pos_right this (by omega) |> fun z => z
  · rw [if_neg hb] at e
    have e2 : (cg ts b : Int) * -lB ts b = b := by rw [Int.mul_neg, ← Int.neg_mul]; exact e
    have e3 : 0 < (cg ts b : Int) * lB ts b := by rw [Int.mul_neg] at e2; omega
    exact Int.pos_of_mul_pos_right e3 (by omega)
theorem low_cop {ts : List Int} {b : Int} (h : b ≠ 0) : cg (lT ts b) (lB ts b) = 1 := by
  have e := cg_scale (lT ts b) (lB ts b) (gs ts b)
  rw [lT_mul ts h, lB_mul ts h, gs_abs] at e
  have hp : 0 < cg ts b := cg_pos h
  exact (Nat.mul_eq_left (Nat.ne_of_gt hp)).mp e.symm
theorem low_bd {n : Nat} {ts : List Int} {b : Int} (h : Bd n ts) : Bd n (lT ts b) := fun t ht => by
  unfold lT at ht
  obtain ⟨s, hs, rfl⟩ := List.mem_map.mp ht
  exact Nat.lt_of_le_of_lt (Int.natAbs_fdiv_le_natAbs _ _) (h s hs)
theorem low_len (ts : List Int) (b : Int) : (lT ts b).length = ts.length := by
  unfold lT
  rw [List.length_map]
theorem low_vec {n : Nat} {ts : List Int} {b : Int} (h : b ≠ 0) (hn : ts ≠ []) (hl : ts.length ≤ 1000) (ht : Bd n ts) (hs : b.natAbs < 2 ^ n) : Vec n (lT ts b) (lB ts b) :=
  ⟨fun z => hn (List.length_eq_zero_iff.mp (by rw [← low_len ts b, z]; rfl)), by rw [low_len]; exact hl, lB_pos h, low_cop h, low_bd ht, Nat.lt_of_le_of_lt (Int.natAbs_fdiv_le_natAbs _ _) hs⟩
theorem Vec.gs {n : Nat} {ts : List Int} {b : Int} (v : Vec n ts b) : LR.gs ts b = 1 := by
  unfold LR.gs
  rw [if_pos v.pos, v.cop]
  rfl
theorem Vec.low {n : Nat} {ts : List Int} {b : Int} (v : Vec n ts b) : lT ts b = ts ∧ lB ts b = b := by
  unfold lT lB
  rw [v.gs]
  exact ⟨by rw [List.map_congr_left (g := id) (fun t _ => Int.fdiv_one t), List.map_id], Int.fdiv_one b⟩
def negT (ts : List Int) : List Int := ts.map fun t => -t
theorem cg_neg (ts : List Int) (b : Int) : cg (negT ts) b = cg ts b := by
  unfold cg negT
  rw [List.foldl_map]
  congr 1
  funext g t
  rw [Int.natAbs_neg]
theorem Vec.neg {n : Nat} {ts : List Int} {b : Int} (v : Vec n ts b) : Vec n (negT ts) b :=
  ⟨fun z => v.ne (by unfold negT at z; exact List.map_eq_nil_iff.mp z), by unfold negT; rw [List.length_map]; exact v.len, v.pos, by rw [cg_neg]; exact v.cop, fun t ht => by
    unfold negT at ht
    obtain ⟨s, hs, rfl⟩ := List.mem_map.mp ht
    rw [Int.natAbs_neg]
    exact v.bd s hs, v.sb⟩
theorem gs_one' (ts : List Int) : LR.gs ts 1 = 1 := by
  unfold LR.gs
  rw [if_pos (by decide)]
  show ((ts.foldl (fun g t => Nat.gcd g t.natAbs) 1 : Nat) : Int) = 1
  rw [fold_one]
  rfl
theorem low_one (ts : List Int) : lT ts 1 = ts ∧ lB ts 1 = 1 := by
  unfold lT lB
  rw [gs_one']
  exact ⟨by rw [List.map_congr_left (g := id) (fun t _ => Int.fdiv_one t), List.map_id], Int.fdiv_one 1⟩
end DL

namespace DL
open PySem PySem.Spec PyProof.Rows L2 LR
/-! ## products of polynomials, by their coefficients -/
abbrev Cf := Nat → Int
def cf (ts : List Int) : Cf := fun k => ts.getD k 0
def tl (f : Cf) : Cf := fun k => f (k + 1)
def sm (z : Int) (f : Cf) : Cf := fun k => z * f k
def ad (f g : Cf) : Cf := fun k => f k + g k
def cv (f h : Cf) : Cf
  | 0 => f 0 * h 0
  | k + 1 => f 0 * h (k + 1) + cv (tl f) h k
theorem cv_ad : ∀ (k : Nat) (f g h : Cf), cv (ad f g) h k = cv f h k + cv g h k
  | 0, f, g, h => by
    show (f 0 + g 0) * h 0 = _
    rw [Int.add_mul]
    rfl
  | k + 1, f, g, h => by
    show (f 0 + g 0) * h (k + 1) + cv (ad (tl f) (tl g)) h k = (f 0 * h (k + 1) + cv (tl f) h k) + (g 0 * h (k + 1) + cv (tl g) h k)
    rw [cv_ad k, Int.add_mul]
    omega
theorem cv_sm : ∀ (k : Nat) (z : Int) (f h : Cf), cv (sm z f) h k = z * cv f h k
  | 0, z, f, h => Int.mul_assoc z (f 0) (h 0)
  | k + 1, z, f, h => by
    show z * f 0 * h (k + 1) + cv (sm z (tl f)) h k = z * (f 0 * h (k + 1) + cv (tl f) h k)
    rw [cv_sm k, Int.mul_assoc, Int.mul_add]
theorem cv_sm2 : ∀ (k : Nat) (z : Int) (f h : Cf), cv f (sm z h) k = z * cv f h k
  | 0, z, f, h => by
    show f 0 * (z * h 0) = z * (f 0 * h 0)
    exact Int.mul_left_comm _ _ _
  | k + 1, z, f, h => by
    show f 0 * (z * h (k + 1)) + cv (tl f) (sm z h) k = z * (f 0 * h (k + 1) + cv (tl f) h k)
    rw [cv_sm2 k, Int.mul_add, Int.mul_left_comm]
theorem cv_last : ∀ (k : Nat) (f h : Cf), cv f h (k + 1) = cv f (tl h) k + f (k + 1) * h 0
  | 0, f, h => rfl
  | k + 1, f, h => by
    show f 0 * h (k + 2) + cv (tl f) h (k + 1) = (f 0 * h (k + 2) + cv (tl f) (tl h) k) + f (k + 2) * h 0
    rw [cv_last k (tl f) h]
    show f 0 * h (k + 2) + (cv (tl f) (tl h) k + f (k + 2) * h 0) = _
    omega
theorem cv_comm : ∀ (k : Nat) (f h : Cf), cv f h k = cv h f k
  | 0, f, h => Int.mul_comm _ _
  | k + 1, f, h => by
    rw [cv_last k f h]
    show _ = h 0 * f (k + 1) + cv (tl h) f k
    rw [cv_comm k f (tl h), Int.mul_comm (f (k + 1)), Int.add_comm]
theorem tl_cv (f g : Cf) : tl (cv f g) = ad (sm (f 0) (tl g)) (cv (tl f) g) := rfl
theorem cv_assoc : ∀ (k : Nat) (f g h : Cf), cv (cv f g) h k = cv f (cv g h) k
  | 0, f, g, h => Int.mul_assoc _ _ _
  | k + 1, f, g, h => by
    show f 0 * g 0 * h (k + 1) + cv (tl (cv f g)) h k = f 0 * (g 0 * h (k + 1) + cv (tl g) h k) + cv (tl f) (cv g h) k
    rw [tl_cv, cv_ad, cv_sm, cv_assoc k, Int.mul_add, Int.mul_assoc]
    omega
theorem cv_zero : ∀ (k : Nat) (f h : Cf), (∀ i, f i = 0) → cv f h k = 0
  | 0, f, h, z => by
    show f 0 * h 0 = 0
    rw [z 0, Int.zero_mul]
  | k + 1, f, h, z => by
    show f 0 * h (k + 1) + cv (tl f) h k = 0
    rw [z 0, Int.zero_mul, cv_zero k (tl f) h fun i => z (i + 1)]
    rfl
/-! fractions of polynomials with a number below -/
/-- f / b and g / c are the same -/
def PEq (f : Cf) (b : Int) (g : Cf) (c : Int) : Prop := ∀ k, c * f k = b * g k
theorem PEq.refl (f : Cf) (b : Int) : PEq f b f b := fun _ => rfl
theorem PEq.symm {f g : Cf} {b c : Int} (h : PEq f b g c) : PEq g c f b := fun k => (h k).symm
theorem PEq.trans {f g h : Cf} {b c d : Int} (hc : c ≠ 0) (p : PEq f b g c) (q : PEq g c h d) : PEq f b h d := fun k => by
  refine Int.eq_of_mul_eq_mul_left hc ?_
  rw [Int.mul_left_comm, p k, Int.mul_left_comm c b, ← q k, Int.mul_left_comm]
theorem PEq.mul {f f' g g' : Cf} {b b' c c' : Int} (p : PEq f b f' b') (q : PEq g c g' c') : PEq (cv f g) (b * c) (cv f' g') (b' * c') := fun k => by
  have e1 : sm b' f = sm b f' := funext p
  have e2 : sm c' g = sm c g' := funext q
  have h1 : b' * c' * cv f g k = cv (sm b' f) (sm c' g) k := by rw [cv_sm, cv_sm2, Int.mul_assoc]
  have h2 : b * c * cv f' g' k = cv (sm b f') (sm c g') k := by rw [cv_sm, cv_sm2, Int.mul_assoc]
  rw [h1, h2, e1, e2]
theorem PEq.add {f f' g g' : Cf} {b b' c c' : Int} (p : PEq f b f' b') (q : PEq g c g' c') : PEq (ad (sm c f) (sm b g)) (b * c) (ad (sm c' f') (sm b' g')) (b' * c') := fun k => by
  have h1 := p k
  have h2 := q k
  show b' * c' * (c * f k + b * g k) = b * c * (c' * f' k + b' * g' k)
  rw [Int.mul_add, Int.mul_add]
  have e1 : b' * c' * (c * f k) = b * c * (c' * f' k) := by
    have : b' * c' * (c * f k) = c * c' * (b' * f k) := by simp only [Int.mul_assoc, Int.mul_comm, Int.mul_left_comm]
    rw [this, h1]
    simp only [Int.mul_assoc, Int.mul_comm, Int.mul_left_comm]
  have e2 : b' * c' * (b * g k) = b * c * (b' * g' k) := by
    have : b' * c' * (b * g k) = b * b' * (c' * g k) := by simp only [Int.mul_assoc, Int.mul_comm, Int.mul_left_comm]
    rw [this, h2]
    simp only [Int.mul_assoc, Int.mul_comm, Int.mul_left_comm]
  rw [e1, e2]
/-! without the zeros at the end -/
def trim : List Int → List Int
  | [] => []
  | t :: ts => match trim ts with
    | [] => if t = 0 then [] else [t]
    | s => t :: s
theorem trim_nil {t : Int} {ts : List Int} (e : trim ts = []) : trim (t :: ts) = if t = 0 then [] else [t] := by
  show (match trim ts with | [] => if t = 0 then [] else [t] | s => t :: s) = _
  rw [e]
theorem trim_cons {t a : Int} {ts r : List Int} (e : trim ts = a :: r) : trim (t :: ts) = t :: a :: r := by
  show (match trim ts with | [] => if t = 0 then [] else [t] | s => t :: s) = _
  rw [e]
theorem trim_cf : ∀ ts : List Int, cf (trim ts) = cf ts
  | [] => rfl
  | t :: ts => by
    have ih := trim_cf ts
    funext k
    cases e : trim ts with
    | nil =>
      rw [e] at ih
      rw [trim_nil e]
      cases k with
      | zero =>
        by_cases h : t = 0
        · rw [if_pos h, h]
          rfl
        · rw [if_neg h]
          rfl
      | succ k =>
        have := congrFun ih k
        by_cases h : t = 0
        · rw [if_pos h]
          exact this
        · rw [if_neg h]
          exact this
    | cons a r =>
      rw [e] at ih
      rw [trim_cons e]
      cases k with
      | zero => rfl
      | succ k => exact congrFun ih k
theorem trim_last : ∀ (ts : List Int) (n : Nat), (trim ts).length = n + 1 → cf (trim ts) n ≠ 0
  | [], n, h => by cases h
  | t :: ts, n, h => by
    cases e : trim ts with
    | nil =>
      rw [trim_nil e] at h ⊢
      by_cases ht : t = 0
      · rw [if_pos ht] at h
        cases h
      · rw [if_neg ht] at h ⊢
        have : n = 0 := by simpa using h.symm
        subst this
        exact ht
    | cons a r =>
      rw [trim_cons e] at h ⊢
      have hn : r.length + 1 = n := by simpa using h
      subst hn
      have := trim_last ts r.length (by rw [e]; rfl)
      rw [e] at this
      exact this
theorem cf_ge {ts : List Int} {k : Nat} (h : ts.length ≤ k) : cf ts k = 0 := by
  unfold cf
  rw [List.getD_eq_getElem?_getD, List.getElem?_eq_none h]
  rfl
theorem cf_at {ts : List Int} {k : Nat} {t : Int} (h : ts[k]? = some t) : cf ts k = t := by
  unfold cf
  rw [List.getD_eq_getElem?_getD, h]
  rfl
theorem trim_le {ts us : List Int} (h : ∀ k, cf us k = 0 → cf ts k = 0) : (trim ts).length ≤ (trim us).length := by
  cases e : (trim ts).length with
  | zero => exact Nat.zero_le _
  | succ n =>
    have h1 := trim_last ts n e
    rw [trim_cf] at h1
    refine Nat.lt_of_not_le fun z => h1 (h n ?_)
    rw [← trim_cf us]
    exact cf_ge z
/-- a polynomial's own form -/
def pT (ts : List Int) (b : Int) : List Int := lT (trim ts) b
def pB (ts : List Int) (b : Int) : Int := lB (trim ts) b
theorem poly_cross {ts us : List Int} {b c : Int} (hb : b ≠ 0) (hc : c ≠ 0) (h : PEq (cf ts) b (cf us) c) : pT ts b = pT us c ∧ pB ts b = pB us c := by
  have hl : (trim ts).length = (trim us).length := Nat.le_antisymm (trim_le fun k z => by
    have := h k
    rw [z, Int.mul_zero] at this
    exact (Int.mul_eq_zero.mp this).resolve_left hc) (trim_le fun k z => by
    have := h k
    rw [z, Int.mul_zero] at this
    exact (Int.mul_eq_zero.mp this.symm).resolve_left hb)
  refine low_cross hb hc (List.ext_getElem? fun i => ?_)
  rw [List.getElem?_map, List.getElem?_map]
  by_cases hi : i < (trim ts).length
  · have e1 := List.getElem?_eq_getElem hi
    have e2 := List.getElem?_eq_getElem (l := trim us) (i := i) (by omega)
    have h1 := cf_at e1
    have h2 := cf_at e2
    rw [trim_cf] at h1 h2
    rw [e1, e2, ← h1, ← h2]
    exact congrArg some (h i)
  · rw [List.getElem?_eq_none (by omega), List.getElem?_eq_none (by omega)]
    rfl
theorem cf_map (z : Int) (ts : List Int) : cf (ts.map fun t => z * t) = sm z (cf ts) := by
  funext k
  show (ts.map fun t => z * t).getD k 0 = z * ts.getD k 0
  rw [List.getD_eq_getElem?_getD, List.getD_eq_getElem?_getD, List.getElem?_map]
  cases ts[k]? with
  | none => exact (Int.mul_zero z).symm
  | some t => rfl
theorem low_cf (ts : List Int) {b : Int} (h : b ≠ 0) : PEq (cf (lT ts b)) (lB ts b) (cf ts) b := fun k => by
  have e1 := congrFun (cf_map (gs ts b) (lT ts b)) k
  rw [lT_mul ts h] at e1
  have e2 := lB_mul ts h
  refine Int.eq_of_mul_eq_mul_left (gs_ne (ts := ts) h) ?_
  rw [e1]
  show gs ts b * (b * cf (lT ts b) k) = gs ts b * (lB ts b * (gs ts b * cf (lT ts b) k))
  rw [← Int.mul_assoc (gs ts b) (lB ts b), e2, Int.mul_left_comm]
theorem poly_cf (ts : List Int) {b : Int} (h : b ≠ 0) : PEq (cf (pT ts b)) (pB ts b) (cf ts) b := by
  have := low_cf (trim ts) h
  rw [trim_cf] at this
  exact this
end DL

namespace DL
open PySem PySem.Spec PyProof.Rows L2 LR
section
variable {X : Cx} {W : WX} {a b c e tg : Expr} {es : List Expr} {ta tb tc : DT} {t : DTA} {pos p : Pos} {K : PySem.W.Frag}
/-! range(i, j, -1) -/
def dwnD (i : Int) (n : Nat) : List D := (List.range n).map fun (k : Nat) => D.int (i + (k : Int) * (-1))
theorem dwn_len {i : Int} {n : Nat} : (dwnD i n).length = n := by simp [dwnD]
theorem dwn_at {i : Int} {n k : Nat} {d : D} (h : (dwnD i n)[k]? = some d) : k < n ∧ d = .int (i - (k : Int)) := by
  unfold dwnD at h
  obtain ⟨x, e, rfl⟩ := map_at h
  obtain ⟨hx, hi⟩ := List.getElem?_eq_some_iff.mp e
  have hi' : k < n := by simpa using hx
  rw [List.getElem_range] at hi
  subst hi
  exact ⟨hi', by rw [show i + (k : Int) * (-1) = i - (k : Int) by omega]⟩
theorem jok_dwn {G : Hp} {i : Int} {n : Nat} : JOk K (Itc i (-1) n) G (dwnD i n) where
  go := fun k H s hk => by rw [dwn_len] at hk; exact hk
  stop := fun H s => by rw [dwn_len]; exact Nat.le_refl _
  yld := fun k H G1 x H' s1 s2 hk ⟨e, y⟩ => by
    subst e
    subst y
    rw [dwn_len] at hk
    refine ⟨G1, _, ?_, .refl s2, .int _⟩
    unfold dwnD
    rw [List.getElem?_map, List.getElem?_range hk]
    rfl
def diRd (t : DTA) : DTI := fun env Q ex => t env (fun ds => ∃ i j : Int, ds = [.int i, .int j, .int (-1)] ∧ (-(2 ^ 62) ≤ i ∧ i < 2 ^ 62 ∧ -(2 ^ 62) ≤ j ∧ j < 2 ^ 62) ∧ Q (dwnD i (i - j).toNat)) ex
theorem pdi_rangeD (hg : Gl X "range") (hm : X.mg "range" = none) (ha : PDA X W [a, b, c] t) (hs : starEach [a, b, c] X.env = (false, eval a X.env) :: starEach [b, c] X.env := by rfl) (hpl : (backTo pos (starEach [b, c] X.env)).any (·.1) = false := by rfl) :
    PDI X W tg (.Call (.Name "range" p) [a, b, c] [] pos) (diRd t) := by
  obtain ⟨_, pa, la⟩ := ha.of
  refine ⟨_, pi_range3 hg hm pa hs hpl, fun H0 G0 G H σ env Q ex R S L q g => la H0 G0 G H σ env _ ex _ S L q fun vs H1 G1 ds x1 r1 ⟨i, j, e1, ⟨h1, h2, h3, h4⟩, q1⟩ => ?_⟩
  subst e1
  have ev : vs = [.int i, .int j, .int (-1)] := Reps.ints (ns := [i, j, -1]) r1
  exact ⟨i, j, -1, (i - j).toNat, ev, RgC.neg h1 h2 h3 h4, g _ H1 G1 _ x1 jok_dwn q1⟩
/-! a slice of a list or a tuple -/
def dSlq : D → Option Int → Option Int → (D → Prop) → Prop := fun a lo hi Q => ∃ l, (a = .lst l ∧ Q (.lst (cutD l lo hi))) ∨ (a = .tup l ∧ Q (.tup (cutD l lo hi)))
theorem pd_slq {lo hi : Option Expr} {te : DT} {tl th : DTO} {p2 : Pos} (h : PD X W e te) (hl : PDO X W lo tl) (hh : PDO X W hi th) : PD X W (.Subscript e (.Slice lo hi none p2) pos) (dSl dSlq te tl th) := by
  obtain ⟨_, pe, le⟩ := h.of
  obtain ⟨_, pl, ll⟩ := hl.of
  obtain ⟨_, ph, lh⟩ := hh.of
  refine ⟨_, pe_slice (SlR.or sl_list sl_tupA) pe pl ph, fun H0 G0 G H σ env Q ex R S L q g => le H0 G0 G H σ env _ ex _ S L q fun v H1 G1 d x1 r1 q1 => ?_⟩
  refine ll H0 G0 G1 H1 σ env _ ex _ (S.ex x1) (L.mono x1.gg) q1 fun o H2 G2 x2 q2 => ?_
  have x12 := x1.trans x2
  refine lh H0 G0 G2 H2 σ env _ ex _ (S.ex x12) (L.mono x12.gg) q2 fun u H3 G3 x3 q3 => ?_
  have r3 := r1.same (x2.gg.trans x3.gg)
  obtain ⟨l, ⟨e1, q4⟩ | ⟨e1, q4⟩⟩ := q3
  · subst e1
    obtain ⟨pp, vs, rfl, h1, h2⟩ := r3.lst_inv
    refine .inl ⟨pp, vs, rfl, x3.sub.seq h1, fun p' n => ?_⟩
    have x4 : Ext G3 H3 (upd G3 p' (.lst (L2.cutV vs o u))) (upd H3 p' (.lst (L2.cutV vs o u))) := Ext.nw x3.sub n
    have r4 := (h2.cutV o u).same x4.gg
    exact g _ _ _ _ ((x12.trans x3).trans x4) (.lst (SqL.of upd_same) r4.1 r4.2) q4
  · subst e1
    obtain ⟨pp, vs, rfl, h1, h2⟩ := id r3.tup_inv
    refine .inr ⟨pp, vs, rfl, sqT_same x3.sub h1, fun hw => ?_, fun hw p' n => ?_⟩
    · have e5 : cutD l o u = l := by
        unfold cutD
        rw [← h2.1, hw.1, hw.2, List.drop_zero, Nat.sub_zero, h2.1, List.take_length]
      rw [e5] at q4
      exact g _ _ _ _ (x12.trans x3) r3 q4
    · have x4 : Ext G3 H3 (upd G3 p' (.tup (L2.cutV vs o u))) (upd H3 p' (.tup (L2.cutV vs o u))) := Ext.nw x3.sub n
      have r4 := (h2.cutV o u).same x4.gg
      exact g _ _ _ _ ((x12.trans x3).trans x4) (.tup (SqT.of upd_same) r4.1 r4.2) q4
/-! xs.pop() -/
def dPop (i : Nat) : DTS := fun E env => ∃ m y, env[i]? = some (.own (m ++ [y])) ∧ E.nx (env.set i (.own m))
theorem reps_pop {G : Hp} {vs : List V} {m : List D} {y : D} (r : Reps K G vs (m ++ [y])) : ∃ v, vs[vs.length - 1]? = some v ∧ Reps K G vs.dropLast m := by
  have hl := r.1
  rw [List.length_append] at hl
  have hl' : vs.length = m.length + 1 := hl
  refine ⟨vs[vs.length - 1]'(by omega), List.getElem?_eq_getElem _, by rw [List.length_dropLast]; omega, fun i v d h1 h2 => r.2 i v d ?_ ?_⟩
  · have hi := (List.getElem?_eq_some_iff.mp h1).1
    rw [List.length_dropLast] at hi
    rw [List.getElem?_dropLast, if_pos (by omega)] at h1
    exact h1
  · have hi := (List.getElem?_eq_some_iff.mp h2).1
    rw [List.getElem?_append_left hi]
    exact h2
theorem pds_pop {i : Nat} (hv : PE X c (tBM0 X.K "list" rPop (tVar i))) (h5 : swapsWith c none pos.line X.env = pure false := by rfl) : PDS X W (.Expr c pos) (dPop i) := by
  refine ⟨_, ps_expr hv h5, fun H0 G0 G H σ env B E S L ⟨m, y, em, q⟩ => ?_⟩
  obtain ⟨pp, vs, e3, hp, gp, op, rr⟩ := S.own i _ em
  obtain ⟨v, hv, r2⟩ := reps_pop rr
  refine ⟨_, e3, .inl ⟨rfl, _, SqL.of hp⟩, pp, vs, v, rfl, rfl, hp, hv, ?_⟩
  exact L.nx _ _ _ _ (.refl _) (S.mutL em e3 r2) q
/-! is of bools -/
def dIsB : R2D := fun a b Q => ∃ x y, a = .bl x ∧ b = .bl y ∧ Q (.bl (decide (x = y)))
def dIsNB : R2D := fun a b Q => ∃ x y, a = .bl x ∧ b = .bl y ∧ Q (.bl (!decide (x = y)))
theorem l_isB : L2R K (fun x y H Q => ∃ a b, x = .bl a ∧ y = .bl b ∧ Q (.bl (decide (a = b))) H) dIsB := fun G H x y a b Q R s r1 r2 ⟨i, j, e1, e2, q⟩ g => by
  subst e1 e2
  exact ⟨i, j, r1.bl_inv, r2.bl_inv, g _ H G _ (.refl s) (.bl _) q⟩
theorem l_isNB : L2R K (fun x y H Q => ∃ a b, x = .bl a ∧ y = .bl b ∧ Q (.bl (!decide (a = b))) H) dIsNB := fun G H x y a b Q R s r1 r2 ⟨i, j, e1, e2, q⟩ g => by
  subst e1 e2
  exact ⟨i, j, r1.bl_inv, r2.bl_inv, g _ H G _ (.refl s) (.bl _) q⟩
end
end DL

/-! enumerate of a tuple -/
namespace LR
open PySem PySem.Spec PyProof.Rows L2
set_option maxHeartbeats 1000000 in
theorem meets_enum1 {v : Value} {o : Obj} {B : Heap → Prop} (b : Begins v o B) : Meets (Builtin.«enumerate.__new__» ⟨[.type "enumerate", v], []⟩) (fun _ R s => B s.heap ∧
    R (.ok (.ret (.ref (s.heap.push o).objs.size))) { s with heap := (s.heap.push o).push { cls := .type "enumerate", data := .fields #[.none, .bool false, .ref s.heap.objs.size, rawInt 0, .none, .none] } }) :=
  .of_wp fun prog w A R s h => by
    obtain ⟨hh, gn, dr, tk, os⟩ := s
    obtain ⟨h1, h⟩ := h
    have sub := sub_enumerate
    have go : ∀ {A' : Around} {E Q : Value → Shared → Prop}, Q (.ref hh.objs.size) ⟨hh.push o, gn, dr, tk, os⟩ → wpAny (model prog w) A' (pyIter v) Q E ⟨hh, gn, dr, tk, os⟩ := fun q => b.iter prog w _ _ ⟨hh, gn, dr, tk, os⟩ _ h1 q
    wp_walk using go
    refine wpAny_stack_any fun st => wpAny_pure ?_
    split
    · rename_i c _ _ _ _ _
      cases (c == Value.type "enumerate") <;> (wp_walk using go; exact ⟨_, rfl, h⟩)
    · wp_walk using go
      exact ⟨_, rfl, h⟩
theorem enum1 {prog : Program} {w : World} {A : Around} {E : Value → Shared → Prop} {s : Shared} {v : Value} {o : Obj} {B : Heap → Prop} {Q : Value → Shared → Prop} (b : Begins v o B) (h1 : B s.heap)
    (h : ∀ h', IsEnum h' (s.heap.objs.size + 1) s.heap.objs.size 0 .none → h'.get? s.heap.objs.size = some o → h'.objs.size = s.heap.objs.size + 2 → (∀ a ob, s.heap.get? a = some ob → h'.get? a = some ob) → Q (.ref (s.heap.objs.size + 1)) { s with heap := h' }) :
    wpAny (model prog w) A (call (.type "enumerate") [v]) Q E s := by
  refine callType_new F.called_enumerate (by decide) (F.typeCall_enumerate_1 _) (F.newCall_enumerate_1 _) (fun obj => F.args_object_init_2 obj _) F.entry_enumerate_new (meets_enum1 b) ⟨h1, ?_⟩
  have sz : (s.heap.push o).objs.size = s.heap.objs.size + 1 := Heap.size_push ..
  have he := Heap.get?_push_size (s.heap.push o) (o := { cls := .type "enumerate", data := .fields #[.none, .bool false, .ref s.heap.objs.size, rawInt 0, .none, .none] }) rfl
  show _ ∧ _
  rw [sz] at he ⊢
  exact ⟨⟨_, he, rfl⟩, h _ he (Heap.get?_push_of_some _ (Heap.get?_push_size _ b.free)) (by rw [Heap.size_push, sz]) fun a ob x => Heap.get?_push_of_some _ (Heap.get?_push_of_some _ x)⟩
def IteT (K : PySem.W.Frag) (a : Addr) : It :=
  ⟨fun i H => ∃ (xs : List V) (x : V), SqT K H a xs ∧ xs[i]? = some x, fun i H v H' => ∃ T x, v = .ref T ∧ H T = none ∧ H' = upd H T (.tup [.int (i : Nat), x]) ∧ ∀ xs, SqT K H a xs → xs[i]? = some x, fun i H => ∃ xs : List V, SqT K H a xs ∧ xs.length ≤ i⟩
theorem turn_enumT {P : Program} {w : World} {K : PySem.W.Frag} {elts : List Expr} {kk : Nat} {tpos : Pos} (a e it : Addr) (ha : a ≠ it) (ha2 : a ≠ e) :
    Turn P w K (.Tuple elts kk tpos) (IteT K a) [e, it] e (fun i h => (∃ old, IsEnum h e it ((i : Nat) : Int) old) ∧ h.IsTupleIter it a i ∧ e ≠ it) where
  mem := by simp
  obj := fun i h ⟨⟨old, he⟩, ⟨o, ho, hc, hd⟩, _⟩ b hb => by
    rcases (by simpa using hb : b = e ∨ b = it) with rfl | rfl
    · exact ⟨_, he, fun v q => nomatch q⟩
    · exact ⟨o, ho, fun v q => by rw [hd] at q; cases q⟩
  keep := fun i h h' ⟨⟨old, he⟩, hi, hne⟩ k => ⟨⟨old, k e (by simp) _ he⟩, hi.at fun o q => k it (by simp) o q, hne⟩
  item := by
    intro X hP hw hK hc i pins s σ H E I hf ⟨⟨old, he⟩, hit, hne⟩ ⟨xs, x, hq, hx⟩
    subst hP hw hK
    obtain ⟨its, rv, p, hz⟩ := I.tuple hq
    obtain ⟨u, hu, ru⟩ := rv.get hx
    have ht : s.heap.IsTuple a its.toArray := p
    have hel : e < s.heap.objs.size := Heap.lt_size he
    have hil : it < s.heap.objs.size := by
      obtain ⟨_, q, _⟩ := id hit
      exact Heap.lt_size q
    have hlt : i < its.toArray.size := by
      have := (List.getElem?_eq_some_iff.mp hu).1
      simpa using this
    have D := Draws.tuple (prog := X.prog) (w := X.w) (A := X.A.in1) (I.ok.hd hc) it a ha its.toArray
    refine wpAny_pyNext_enum_itemD D he ⟨hit, ht⟩ hlt hne (by simp [hne, Ne.symm ha2]) fun x' h' tk hP ho hs' hT hsz hk => ?_
    have ex : x' = u := by
      have e1 : its[i]? = some x' := by simpa using hP
      rw [hu] at e1
      exact (Option.some.inj e1).symm
    subst ex
    refine ⟨_, rfl, wpAny_letOwnedTupleGo_enum (s := { s with heap := h', toks := tk + 1 }) ho fun h'' he' sb => ?_⟩
    have hT2 : h''.get? s.heap.objs.size = some { cls := .type "tuple", data := .seq #[.int i tk, x'] } := (sb.2 _ (Nat.ne_of_gt hel)).trans hT
    have new : ObjOk X.prog X.w (upd H s.heap.objs.size (.tup [.int (i : Nat), x])) h'' s.heap.objs.size (.tup [.int (i : Nat), x]) := ⟨by show 2 ≤ sizeLine; decide, [.int i tk, x'], .cons ⟨_, rfl⟩ (.cons ru .nil), ⟨_, hT2, rfl, _, rfl⟩⟩
    have I1 : Inv X pins σ (upd H s.heap.objs.size (.tup [.int (i : Nat), x])) { s with heap := h'', toks := tk + 1 } :=
      I.turnedNew (ch := [e, it]) (fun b ob hb q => (sb.2 b fun z => hb (by simp [z])).trans (hk b ob (fun z => hb (by simp [z])) (fun z => hb (by simp [z])) q)) hf (Nat.le_refl _) new
    refine ⟨.ref s.heap.objs.size, _, I1, rfl, ⟨_, x, rfl, I.hok.fresh (Nat.le_refl _), rfl, fun ys hy => by rw [I.tuple_inj hy hq]; exact hx⟩, ⟨⟨x', ?_⟩, hs'.1.at fun o q => (sb.2 it (Ne.symm hne)).trans q, hne⟩, fun b hb => ?_⟩
    · rw [show ((i + 1 : Nat) : Int) = (i : Int) + 1 by omega]
      exact he'
    · have hb' : b < s.heap.objs.size := by
        rcases (by simpa using hb : b = e ∨ b = it) with rfl | rfl
        · exact hel
        · exact hil
      rw [upd_ne (Nat.ne_of_lt hb')]
      exact (hf b hb).1
  done := by
    intro X hP hw hK hc i pins s σ H E I hf ⟨⟨old, he⟩, hit, hne⟩ ⟨xs, hq, hx⟩
    subst hP hw hK
    obtain ⟨its, rv, p, hz⟩ := I.tuple hq
    have ht : s.heap.IsTuple a its.toArray := p
    obtain ⟨f0, f1, f2, f3, f4, f5⟩ := hf it (by simp)
    have hl := rv.length
    have hT : s.TypeIs (.ref e) "enumerate" := ⟨_, he, rfl⟩
    unfold pyNext
    refine wpAny_bind (wpAny_attempt (wpAny_callSpecial?_slot (name := Str.ofString "__next__") hT F.slot_enumerate_next (wpAny_call_entry F.slot_enumerate_next hT F.entry_enumerate_next ?_ (F.args_enumerate_next_1 _))))
    show wpAny _ _ (field (.ref e) 2 >>= _) _ _ _
    refine wpAny_bind (wpAny_field he rfl (x := .ref it) rfl ?_)
    refine wpAny_bind (wpAny_nextOf_tuple_end (I.ok.hd hc) hit ht (by simp; omega) fun h' x he' hx' => ?_)
    obtain ⟨o, ho, hc'⟩ := hx'
    refine wpAny_bind (wpAny_isInstance (T := "StopIteration") (b := true) ⟨o, ho, hc'⟩ isSubtype_stop ?_)
    exact wpAny_pure ⟨rfl, I.turned (t' := s.toks) (fun b o hb q => he' b o hb q) f0 f1 f3 f4 f5⟩
  self := fun A i s Q E ⟨⟨_, he⟩, _⟩ h => wpAny_pyIter_enum he h
def iEnumT (K : PySem.W.Frag) (ta : TA) : TI := fun σ H R => ta σ H fun vs H1 => ∃ a xs, vs = [.ref a] ∧ SqT K H1 a xs ∧ R (IteT K a) H1
theorem pi_enumT {X : Cx} {e : Expr} {ta : TA} {p pos tpos : Pos} {elts : List Expr} {kk : Nat} (hg : Gl X "enumerate") (hm : X.mg "enumerate" = none) (ha : PA X [e] ta) (hs : starEach [e] X.env = [(false, eval e X.env)] := by rfl) :
    PI X (.Tuple elts kk tpos) (.Call (.Name "enumerate" p) [e] [] pos) (iEnumT X.K ta) := by
  refine ⟨fun pins s σ H R I h => ?_⟩
  refine Call_ (ld_blt I hg hm boot_enumerate (PyProof.Rows.callWith_type1 (thn (ha.run pos pins s σ H _ I h) fun us s1 ⟨vs, H1, I1, r1, a, xs, ex, hq, q⟩ => ?_) hs rfl))
  subst ex
  cases r1 with
  | cons r rr =>
    cases rr
    cases r
    obtain ⟨its, rv, p', hz⟩ := I1.tuple hq
    have ht : s1.heap.IsTuple a its.toArray := p'
    have hlt : a < s1.heap.objs.size := by
      obtain ⟨_, q, _⟩ := id ht
      exact Heap.lt_size q
    refine enum1 (begins_tuple a its.toArray) ht fun h' he hit hsz hk => wpAny_pyIter_enum he ?_
    have I2 : Inv X pins σ H1 { s1 with heap := h' } := I1.kept (t' := s1.toks) hk
    refine ⟨s1.heap.objs.size + 1, [s1.heap.objs.size + 1, s1.heap.objs.size], _, _, H1, rfl, I2, turn_enumT a (s1.heap.objs.size + 1) s1.heap.objs.size (Nat.ne_of_lt hlt) (Nat.ne_of_lt (Nat.lt_succ_of_lt hlt)), ⟨⟨.none, he⟩, ⟨_, hit, rfl, rfl⟩, Nat.succ_ne_self _⟩, fun b hb => ?_, q⟩
    have hle : s1.heap.objs.size ≤ b := by
      rcases (by simpa using hb : b = s1.heap.objs.size + 1 ∨ b = s1.heap.objs.size) with rfl | rfl
      · exact Nat.le_add_right _ _
      · exact Nat.le_refl _
    exact I1.fpOk hle (I1.hok.fresh hle)
end LR

/-! list(zip(*rows)), rows a tuple of tuples -/
namespace ZS
open PySem PySem.Spec PyProof.Rows L2 LR
local macro_rules | `(tactic| walk_at "aom") => `(tactic| (try dsimp only [Addr] at *); omega)
theorem typeCall_zip (us : List Value) : checkTypeCall "zip" ⟨us, []⟩ = pure () := by kernel_rfl
theorem newCall_zip : ∀ us : List Value, us.length ≤ 12 → checkBuiltinCall "zip.__new__" ⟨.type "zip" :: us, []⟩ = pure ()
  | [], _ => by kernel_rfl
  | [_], _ => by kernel_rfl
  | [_, _], _ => by kernel_rfl
  | [_, _, _], _ => by kernel_rfl
  | [_, _, _, _], _ => by kernel_rfl
  | [_, _, _, _, _], _ => by kernel_rfl
  | [_, _, _, _, _, _], _ => by kernel_rfl
  | [_, _, _, _, _, _, _], _ => by kernel_rfl
  | [_, _, _, _, _, _, _, _], _ => by kernel_rfl
  | [_, _, _, _, _, _, _, _, _], _ => by kernel_rfl
  | [_, _, _, _, _, _, _, _, _, _], _ => by kernel_rfl
  | [_, _, _, _, _, _, _, _, _, _, _], _ => by kernel_rfl
  | [_, _, _, _, _, _, _, _, _, _, _, _], _ => by kernel_rfl
  | _ :: _ :: _ :: _ :: _ :: _ :: _ :: _ :: _ :: _ :: _ :: _ :: _ :: _, h => by simp at h
theorem args_object_init (us : List Value) : argsOk "object.__init__" ⟨us, []⟩ := by
  unfold argsOk
  rw [signature?_of (id := "object.__init__") (n := ['_', '_', 't', 'i', 'n', 'i', '_', '_']) (o := ['t', 'c', 'e', 'j', 'b', 'o']) (by kernel_rfl) F.owner_object]
  kernel_rfl

section
variable {M : Model} {A : Around} {E : Value → Shared → Prop}
theorem forIn_go {α β : Type} {f : α → β → Sem (ForInStep β)} {Q : β → Shared → Prop} (Inv : Nat → β → Shared → Prop) : ∀ (l : List α) (n : Nat), (∀ (i : Nat) a b s, l[i]? = some a → Inv (n + i) b s → wpAny M A (f a b) (fun r s' => ∃ b', r = .yield b' ∧ Inv (n + i + 1) b' s') E s) →
    (∀ b s, Inv (n + l.length) b s → Q b s) → ∀ b s, Inv n b s → wpAny M A (forIn l b f) Q E s
  | [], n, _, fin, b, s, h => by
    rw [List.forIn_nil]
    exact wpAny_pure (fin b s h)
  | a :: l, n, step, fin, b, s, h => by
    rw [List.forIn_cons]
    refine wpAny_bind (wpAny_mono (step 0 a b s rfl h) (fun r s' ⟨b', e, h'⟩ => ?_) fun _ _ x => x)
    subst e
    refine forIn_go Inv l (n + 1) (fun i a b s hi hv => ?_) (fun b s hv => fin b s ?_) b' s' h'
    · have := step (i + 1) a b s (by simpa using hi) (by rw [show n + (i + 1) = n + 1 + i by omega]; exact hv)
      rw [show n + (i + 1) + 1 = n + 1 + i + 1 by omega] at this
      exact this
    · rw [List.length_cons, show n + (l.length + 1) = n + 1 + l.length by omega]
      exact hv
theorem forIn_rule {α β : Type} {l : List α} {f : α → β → Sem (ForInStep β)} {Q : β → Shared → Prop} {b : β} {s : Shared} (Inv : Nat → β → Shared → Prop) (h : Inv 0 b s) (step : ∀ (i : Nat) a b s, l[i]? = some a → Inv i b s → wpAny M A (f a b) (fun r s' => ∃ b', r = .yield b' ∧ Inv (i + 1) b' s') E s)
    (fin : ∀ b s, Inv l.length b s → Q b s) : wpAny M A (forIn l b f) Q E s :=
  forIn_go Inv l 0 (fun i a b s hi hv => by
    have := step i a b s hi (by rw [Nat.zero_add] at hv; exact hv)
    rw [Nat.zero_add]
    exact this) (fun b s hv => fin b s (by rw [Nat.zero_add] at hv; exact hv)) b s h
end
/-- the rows: where they lie, what they hold -/
structure Rws (b : Nat) (h : Heap) (ls : List Addr) (xss : List (Array Value)) : Prop where
  n : xss.length = ls.length
  lt : ∀ l ∈ ls, l < b
  tp : ∀ (j : Nat) l xs, ls[j]? = some l → xss[j]? = some xs → h.IsTuple l xs
def itsOf (b n : Nat) : List Value := (List.range n).map fun j => Value.ref (b + j)
/-- the iterators, the first i of them one further than k -/
structure Its (b : Nat) (h : Heap) (ls : List Addr) (k i : Nat) : Prop where
  lo : ∀ (j : Nat) l, j < i → ls[j]? = some l → h.IsTupleIter (b + j) l (k + 1)
  hi : ∀ (j : Nat) l, i ≤ j → ls[j]? = some l → h.IsTupleIter (b + j) l k
abbrev TIof (b : Nat) (h : Heap) (n : Nat) : Prop := h.get? (b + n) = some { cls := .type "tuple", data := .seq (itsOf b n).toArray }
abbrev ZN (h : Heap) (b n : Nat) (f0 : Value) (f : Bool) : Prop := h.get? (b + n + 2) = some { cls := .type "zip", dict := none, data := .fields #[f0, .bool f, .bool false, .ref (b + n), .ref (b + n + 1)], slots := #[] }
/-- but for the iterators and z -/
def KeepZ (b n : Nat) (h h' : Heap) : Prop := ∀ c o, ¬ (b ≤ c ∧ c ≤ b + n + 2) → h.get? c = some o → h'.get? c = some o
def colV (xss : List (Array Value)) (k : Nat) : List Value := xss.map fun xs => xs.getD k .none
section
variable {prog : Program} {w : World} {A : Around} {E : Value → Shared → Prop} {s : Shared} {b : Nat} {h h' : Heap} {ls : List Addr} {xss : List (Array Value)} {k i : Nat}
theorem Rws.up (r : Rws b h ls xss) (hk : ∀ c o, c < b → h.get? c = some o → h'.get? c = some o) : Rws b h' ls xss := ⟨r.n, r.lt, fun j l xs h1 h2 => (r.tp j l xs h1 h2).at fun o e => hk _ _ (r.lt l (List.mem_of_getElem? h1)) e⟩
theorem Its.step (t : Its b h ls k i) {l : Addr} (hl : ls[i]? = some l) (it : h'.IsTupleIter (b + i) l (k + 1)) (sb : Heap.SameBut (b + i) h h') : Its b h' ls k (i + 1) := by
  refine ⟨fun j m hj hm => ?_, fun j m hj hm => ?_⟩
  · by_cases e : j = i
    · subst e
      rw [hl] at hm
      cases hm
      exact it
    · exact (t.lo j m (by omega) hm).extBut sb.extBut fun z => e (Nat.add_left_cancel z)
  · exact (t.hi j m (by omega) hm).extBut sb.extBut fun z => by have := Nat.add_left_cancel z; omega
theorem Its.turn (t : Its b h ls k ls.length) : Its b h ls (k + 1) 0 := ⟨fun j l hj _ => by omega, fun j l _ hl => t.lo j l (List.getElem?_eq_some_iff.mp hl).1 hl⟩
theorem Its.up (t : Its b h ls k i) (hk : ∀ c o, b ≤ c → c < b + ls.length → h.get? c = some o → h'.get? c = some o) : Its b h' ls k i :=
  ⟨fun j l hj hl => (t.lo j l hj hl).at fun o e => hk (b + j) _ (by omega) (by have := (List.getElem?_eq_some_iff.mp hl).1; omega) e, fun j l hj hl => (t.hi j l hj hl).at fun o e => hk (b + j) _ (by omega) (by have := (List.getElem?_eq_some_iff.mp hl).1; omega) e⟩
theorem its_at {b n : Nat} {i : Nat} {v : Value} (h : (itsOf b n)[i]? = some v) : i < n ∧ v = .ref (b + i) := by
  unfold itsOf at h
  rw [List.getElem?_map] at h
  have hi : i < n := by
    by_cases hi : i < n
    · exact hi
    · rw [List.getElem?_eq_none (by simpa using hi)] at h
      cases h
  rw [List.getElem?_range hi] at h
  exact ⟨hi, (Option.some.inj h).symm⟩
theorem its_len (b n : Nat) : (itsOf b n).length = n := by unfold itsOf; simp
/-- the next tuple, the one before still out -/
theorem next_held {T : Addr} {f : Bool} {oT : Obj} {Q : Value → Shared → Prop} (hz : ZN s.heap b ls.length (rawInt T) f) (hT : s.heap.get? T = some oT) (hTI : TIof b s.heap ls.length) (hr : Rws b s.heap ls xss) (t : Its b s.heap ls k 0) (n0 : 0 < ls.length) (hsz : xss.length ≤ sizeLine) (hk : ∀ xs ∈ xss, k < xs.size)
    (hQ : ∀ h', ZN h' b ls.length (rawInt T) true → TIof b h' ls.length → Its b h' ls (k + 1) 0 → h'.get? s.heap.objs.size = some { cls := .type "tuple", data := .seq (colV xss k).toArray } → h'.objs.size = s.heap.objs.size + 1 → KeepZ b ls.length s.heap h' → Q (.ref s.heap.objs.size) { s with heap := h' }) :
    wpAny (model prog w) A (Builtin.«zip.__next__» ⟨[.ref (b + ls.length + 2)], []⟩) (fun fin s' => ∃ v, fin = .done (.ret v) ∧ Q v s') E s := by
  show wpAny _ _ (field (.ref (b + ls.length + 2)) 2 >>= _) _ _ _
  refine wpAny_bind (wpAny_field hz rfl (x := .bool false) rfl ?_)
  show wpAny _ _ (field (.ref (b + ls.length + 2)) 3 >>= _) _ _ _
  refine wpAny_bind (wpAny_field hz rfl (x := .ref (b + ls.length)) rfl ?_)
  refine wpAny_bind (wpAny_seqItems hTI rfl ?_)
  have hne : ((itsOf b ls.length).toArray.isEmpty = true) = False := by
    refine eq_false fun e => ?_
    have := its_len b ls.length
    simp at e
    rw [e] at this
    simp at this
    omega
  simp only [hne, if_false]
  show wpAny _ _ (Builtin.SmallTypes.ownedTupleIsFree (.ref (b + ls.length + 2)) >>= _) _ _ _
  refine wpAny_bind (wpAny_tupleHeld_zip hz hT fun h₁ hz₁ hs₁ => ?_)
  simp only [Bool.false_eq_true, if_false]
  refine wpAny_bind ?_
  rw [← Array.forIn_toList]
  have hl : (itsOf b ls.length).toArray.toList.length = ls.length := by rw [List.toList_toArray]; exact its_len _ _
  refine forIn_rule (fun i acc s' => acc = (none, ((colV xss k).take i).toArray) ∧ ∃ h2, s' = { s with heap := h2 } ∧ Its b h2 ls k i ∧ h2.objs.size = s.heap.objs.size ∧ ∀ c o, ¬ (b ≤ c ∧ c < b + ls.length) → h₁.get? c = some o → h2.get? c = some o)
    ⟨by simp, h₁, rfl, t.up fun c o h1 h2 e => hs₁.extBut c o (by walk_at "aom") e, hs₁.1, fun c o _ e => e⟩ (fun i a acc s' hi ⟨ea, h2, es, t2, sz, kp⟩ => ?_) (fun acc s' ⟨ea, h2, es, t2, sz, kp⟩ => ?_)
  · subst ea es
    rw [List.toList_toArray] at hi
    obtain ⟨hin, rfl⟩ := its_at hi
    have hl : ls[i]? = some ls[i] := List.getElem?_eq_getElem hin
    have hx : xss[i]? = some (xss[i]'(by rw [hr.n]; exact hin)) := List.getElem?_eq_getElem _
    have hlt := hr.lt _ (List.getElem_mem hin)
    have tp := hr.tp i _ _ hl hx
    have hkx := hk _ (List.getElem_mem (by rw [hr.n]; exact hin))
    generalize ls[i] = l at *
    generalize xss[i]'(by rw [hr.n]; exact hin) = xs at *
    have tp2 : h2.IsTuple l xs := (tp.extBut hs₁.extBut (by walk_at "aom")).at fun o e => kp l o (by walk_at "aom") e
    refine wpAny_bind (wpAny_holding ?_)
    show wpAny _ _ (Builtin.SmallTypes.nextOf (.ref (b + i)) >>= _) _ _ _
    refine wpAny_bind (RZ.nextOf_tuple_item (s := { s with heap := h2 }) (t2.hi i l (Nat.le_refl _) hl) tp2 (Array.getElem?_eq_getElem hkx) fun h3 it3 sb3 => wpAny_pure ?_)
    refine wpAny_pure ⟨_, rfl, ?_, h3, rfl, t2.step hl it3 sb3, sb3.1.trans sz, fun c o hc e => sb3.extBut c o (by walk_at "aom") (kp c o hc e)⟩
    have ek : (colV xss k)[i]? = some xs[k] := by
      unfold colV
      rw [List.getElem?_map, hx]
      show some (xs.getD k .none) = _
      rw [Array.getD_eq_getD_getElem?, Array.getElem?_eq_getElem hkx]
      rfl
    rw [List.take_add_one, ek]
    simp
  · subst ea es
    rw [hl] at t2 ⊢
    have e1 : (colV xss k).take ls.length = colV xss k := List.take_of_length_le (by unfold colV; rw [List.length_map, hr.n]; exact Nat.le_refl _)
    rw [e1]
    show wpAny _ _ (newTuple (colV xss k).toArray.toList >>= _) _ _ _
    rw [List.toList_toArray]
    refine wpAny_bind (wpAny_newTuple (hsz := by show (colV xss k).length ≤ sizeLine; unfold colV; rw [List.length_map]; exact hsz) ?_)
    refine wpAny_pure ⟨_, rfl, ?_⟩
    show Q (.ref h2.objs.size) _
    have hp : (h2.push { cls := .type "tuple", data := .seq (colV xss k).toArray }).get? h2.objs.size = some { cls := .type "tuple", data := .seq (colV xss k).toArray } := Heap.get?_push_size _ rfl
    have hz4 : (h2.push { cls := .type "tuple", data := .seq (colV xss k).toArray }).objs.size = h2.objs.size + 1 := Heap.size_push ..
    rw [sz] at hp hz4 ⊢
    refine hQ _ ?_ ?_ ?_ hp hz4 fun c o hc e => ?_
    · exact Heap.get?_push_of_some _ (kp _ _ (by walk_at "aom") hz₁)
    · exact Heap.get?_push_of_some _ (kp _ _ (by walk_at "aom") (hs₁.extBut _ _ (by walk_at "aom") hTI))
    · exact t2.turn.up fun c o _ _ e => Heap.get?_push_of_some _ e
    · exact Heap.get?_push_of_some _ (kp c o (by walk_at "aom") (hs₁.extBut c o (by walk_at "aom") e))
theorem take_set {α : Type} {A B : List α} {i : Nat} {x : α} (hA : A[i]? = some x) (hl : B.length = A.length) : (A.take i ++ B.drop i).set i x = A.take (i + 1) ++ B.drop (i + 1) := by
  have hi := (List.getElem?_eq_some_iff.mp hA).1
  have e1 : (A.take i).length = i := by rw [List.length_take]; omega
  rw [List.drop_eq_getElem_cons (l := B) (i := i) (by omega), List.set_append_right _ _ (by omega), e1, Nat.sub_self, List.set_cons_zero, List.take_add_one, hA]
  simp
/-- the first tuple -/
theorem next_first {Q : Value → Shared → Prop} {arr : List Value} (hz : ZN s.heap b ls.length .none false) (hTI : TIof b s.heap ls.length) (hTO : s.heap.get? (b + ls.length + 1) = some { cls := .type "tuple", data := .seq arr.toArray }) (ha : arr.length = ls.length) (hr : Rws b s.heap ls xss) (t : Its b s.heap ls k 0) (n0 : 0 < ls.length) (hsz : xss.length ≤ sizeLine) (hk : ∀ xs ∈ xss, k < xs.size)
    (hQ : ∀ h', ZN h' b ls.length (rawInt s.heap.objs.size) false → TIof b h' ls.length → Its b h' ls (k + 1) 0 → h'.get? s.heap.objs.size = some { cls := .type "tuple", data := .seq (colV xss k).toArray } → h'.objs.size = s.heap.objs.size + 1 → KeepZ b ls.length s.heap h' → Q (.ref s.heap.objs.size) { s with heap := h' }) :
    wpAny (model prog w) A (Builtin.«zip.__next__» ⟨[.ref (b + ls.length + 2)], []⟩) (fun fin s' => ∃ v, fin = .done (.ret v) ∧ Q v s') E s := by
  show wpAny _ _ (field (.ref (b + ls.length + 2)) 2 >>= _) _ _ _
  refine wpAny_bind (wpAny_field hz rfl (x := .bool false) rfl ?_)
  show wpAny _ _ (field (.ref (b + ls.length + 2)) 3 >>= _) _ _ _
  refine wpAny_bind (wpAny_field hz rfl (x := .ref (b + ls.length)) rfl ?_)
  refine wpAny_bind (wpAny_seqItems hTI rfl ?_)
  have hne : ((itsOf b ls.length).toArray.isEmpty = true) = False := by
    refine eq_false fun e => ?_
    have := its_len b ls.length
    simp at e
    rw [e] at this
    simp at this
    omega
  simp only [hne, if_false]
  show wpAny _ _ (Builtin.SmallTypes.ownedTupleIsFree (.ref (b + ls.length + 2)) >>= _) _ _ _
  refine wpAny_bind ?_
  unfold Builtin.SmallTypes.ownedTupleIsFree
  refine wpAny_bind (wpAny_field hz rfl (x := .none) rfl (wpAny_pure ?_))
  simp only [if_true]
  refine wpAny_bind (wpAny_rule ?_)
  refine wpAny_bind (wpAny_field hz rfl (x := .ref (b + ls.length + 1)) rfl ?_)
  refine wpAny_bind (wpAny_setField_rec hz (by simp) fun h₁ hz₁ hs₁ => ?_)
  replace hz₁ : ZN h₁ b ls.length .ellipsis false := hz₁
  refine wpAny_bind ?_
  have hl : (itsOf b ls.length).zipIdx.length = ls.length := by rw [List.length_zipIdx]; exact its_len _ _
  have hcl : (colV xss k).length = ls.length := by unfold colV; rw [List.length_map, hr.n]
  refine forIn_rule (fun i acc s' => acc = (none, ()) ∧ ∃ h2, s' = { s with heap := h2 } ∧ Its b h2 ls k i ∧ h2.objs.size = s.heap.objs.size ∧ h2.get? (b + ls.length + 1) = some { cls := .type "tuple", data := .seq ((colV xss k).take i ++ arr.drop i).toArray } ∧ ∀ c o, ¬ (b ≤ c ∧ c < b + ls.length) → c ≠ b + ls.length + 1 → h₁.get? c = some o → h2.get? c = some o)
    ⟨by simp, h₁, rfl, t.up fun c o h1 h2 e => hs₁.extBut c o (by walk_at "aom") e, hs₁.1, hs₁.extBut _ _ (by walk_at "aom") (by simpa using hTO), fun c o _ _ e => e⟩ (fun i a acc s' hi ⟨ea, h2, es, t2, sz, to2, kp⟩ => ?_) (fun acc s' ⟨ea, h2, es, t2, sz, to2, kp⟩ => ?_)
  · subst ea es
    obtain ⟨a, j⟩ := a
    have hi2 : (itsOf b ls.length)[i]? = some a ∧ j = i := by
      rw [List.getElem?_zipIdx] at hi
      cases e : (itsOf b ls.length)[i]? with
      | none => rw [e] at hi; cases hi
      | some z => rw [e] at hi; cases hi; exact ⟨rfl, by omega⟩
    obtain ⟨hi2, rfl⟩ := hi2
    obtain ⟨hin, rfl⟩ := its_at hi2
    have hl : ls[j]? = some ls[j] := List.getElem?_eq_getElem hin
    have hx : xss[j]? = some (xss[j]'(by rw [hr.n]; exact hin)) := List.getElem?_eq_getElem _
    have hlt := hr.lt _ (List.getElem_mem hin)
    have tp := hr.tp j _ _ hl hx
    have hkx := hk _ (List.getElem_mem (by rw [hr.n]; exact hin))
    generalize ls[j] = l at *
    generalize xss[j]'(by rw [hr.n]; exact hin) = xs at *
    have tp2 : h2.IsTuple l xs := (tp.extBut hs₁.extBut (by walk_at "aom")).at fun o e => kp l o (by walk_at "aom") (by walk_at "aom") e
    have ek : (colV xss k)[j]? = some xs[k] := by
      unfold colV
      rw [List.getElem?_map, hx]
      show some (xs.getD k .none) = _
      rw [Array.getD_eq_getD_getElem?, Array.getElem?_eq_getElem hkx]
      rfl
    refine wpAny_bind (wpAny_onRaise ?_)
    show wpAny _ _ (Builtin.SmallTypes.nextOf (.ref (b + j)) >>= _) _ _ _
    refine wpAny_bind (RZ.nextOf_tuple_item (s := { s with heap := h2 }) (t2.hi j l (Nat.le_refl _) hl) tp2 (Array.getElem?_eq_getElem hkx) fun h3 it3 sb3 => wpAny_pure ?_)
    have to3 := sb3.extBut _ _ (by walk_at "aom") to2
    refine wpAny_bind (wpAny_seqItems to3 rfl ?_)
    have hz0 : (((colV xss k).take j ++ arr.drop j).toArray).size ≤ sizeLine := by rw [List.size_toArray, List.length_append, List.length_take, List.length_drop]; rw [hr.n] at hsz; omega
    refine wpAny_bind (wpAny_updateSeq (hz := hz0) to3 rfl ?_)
    have up4 := Heap.get?_update_self (Obj.mapSeq (·.setIfInBounds j xs[k])) to3 rfl
    have sb4 := Heap.SameBut.update h3 (b + ls.length + 1) (Obj.mapSeq (·.setIfInBounds j xs[k]))
    generalize h3.update (b + ls.length + 1) (Obj.mapSeq (·.setIfInBounds j xs[k])) = h4 at *
    refine wpAny_bind (wpAny_letGo ?_)
    refine wpAny_pure ⟨_, rfl, rfl, h4, rfl, (t2.step hl it3 sb3).up fun c o h1 h2 e => sb4.extBut c o (by walk_at "aom") e, sb4.1.trans (sb3.1.trans sz), ?_, fun c o hc hc2 e => sb4.extBut c o hc2 (sb3.extBut c o (by walk_at "aom") (kp c o hc hc2 e))⟩
    rw [up4, ← take_set ek (by rw [ha, hcl])]
    simp [Obj.mapSeq]
  · subst ea es
    rw [hl] at t2 to2
    have e1 : (colV xss k).take ls.length ++ arr.drop ls.length = colV xss k := by
      rw [List.take_of_length_le (by omega), List.drop_of_length_le (by omega), List.append_nil]
    rw [e1] at to2
    refine wpAny_bind (wpAny_seqItems to2 rfl ?_)
    show wpAny _ _ (newTuple (colV xss k).toArray.toList >>= _) _ _ _
    rw [List.toList_toArray]
    refine wpAny_bind (wpAny_newTuple (hsz := by show (colV xss k).length ≤ sizeLine; rw [hcl, ← hr.n]; exact hsz) ?_)
    have zz : ZN h2 b ls.length .ellipsis false := kp _ _ (by walk_at "aom") (by walk_at "aom") hz₁
    have hzlt := Heap.lt_size zz
    show wpAny _ _ (Builtin.SmallTypes.ownedTupleHandOut (.ref (b + ls.length + 2)) (.ref h2.objs.size) >>= _) _ _ _
    refine wpAny_bind ?_
    unfold Builtin.SmallTypes.ownedTupleHandOut
    have hp : (h2.push { cls := .type "tuple", data := .seq (colV xss k).toArray }).get? h2.objs.size = some { cls := .type "tuple", data := .seq (colV xss k).toArray } := Heap.get?_push_size _ rfl
    have hz4 : (h2.push { cls := .type "tuple", data := .seq (colV xss k).toArray }).objs.size = h2.objs.size + 1 := Heap.size_push ..
    have kp5 : ∀ c o, h2.get? c = some o → (h2.push { cls := .type "tuple", data := .seq (colV xss k).toArray }).get? c = some o := fun c o e => Heap.get?_push_of_some _ e
    have zz5 : ZN (h2.push { cls := .type "tuple", data := .seq (colV xss k).toArray }) b ls.length .ellipsis false := kp5 _ _ zz
    show wpAny _ _ (setField (.ref (b + ls.length + 2)) 0 (rawInt h2.objs.size) >>= fun _ => setField (.ref (b + ls.length + 2)) 1 (.bool false)) _ _ _
    refine wpAny_bind (wpAny_setField_rec zz5 (by simp) fun h₇ hz₇ hs₇ => ?_)
    replace hz₇ : ZN h₇ b ls.length (rawInt h2.objs.size) false := hz₇
    refine wpAny_setField_rec hz₇ (by simp) fun h₈ hz₈ hs₈ => ?_
    replace hz₈ : ZN h₈ b ls.length (rawInt h2.objs.size) false := hz₈
    refine wpAny_pure ⟨_, rfl, ?_⟩
    show Q (.ref h2.objs.size) _
    have up : ∀ c o, c ≠ b + ls.length + 2 → h2.get? c = some o → h₈.get? c = some o := fun c o hc e => hs₈.extBut c o hc (hs₇.extBut c o hc (kp5 c o e))
    have tp8 := hs₈.extBut _ _ (Nat.ne_of_gt hzlt) (hs₇.extBut _ _ (Nat.ne_of_gt hzlt) hp)
    have sz8 : h₈.objs.size = s.heap.objs.size + 1 := by rw [hs₈.1, hs₇.1, hz4, sz]
    rw [sz] at hz₈ tp8 ⊢
    refine hQ _ hz₈ ?_ ?_ tp8 sz8 fun c o hc e => ?_
    · exact up _ _ (by walk_at "aom") (kp _ _ (by walk_at "aom") (by walk_at "aom") (hs₁.extBut _ _ (by walk_at "aom") hTI))
    · exact t2.turn.up fun c o h1 h2 e => up c o (by walk_at "aom") e
    · exact up c o (by walk_at "aom") (kp c o (by walk_at "aom") (by walk_at "aom") (hs₁.extBut c o (by walk_at "aom") e))
/-- the end -/
theorem next_end {Q : Fin → Shared → Prop} {T : Addr} {f : Bool} {oT : Obj} (hh : A.handled = none) (hz : ZN s.heap b ls.length (rawInt T) f) (hT : s.heap.get? T = some oT) (hTI : TIof b s.heap ls.length) (hr : Rws b s.heap ls xss) (t : Its b s.heap ls k 0) (n0 : 0 < ls.length) (hk : ∀ xs ∈ xss, xs.size = k)
    (hE : ∀ h' e, KeepZ b ls.length s.heap h' → (∃ o, h'.get? e = some o ∧ o.cls = .type "StopIteration") → E (.ref e) { s with heap := h' }) :
    wpAny (model prog w) A (Builtin.«zip.__next__» ⟨[.ref (b + ls.length + 2)], []⟩) Q E s := by
  show wpAny _ _ (field (.ref (b + ls.length + 2)) 2 >>= _) _ _ _
  refine wpAny_bind (wpAny_field hz rfl (x := .bool false) rfl ?_)
  show wpAny _ _ (field (.ref (b + ls.length + 2)) 3 >>= _) _ _ _
  refine wpAny_bind (wpAny_field hz rfl (x := .ref (b + ls.length)) rfl ?_)
  refine wpAny_bind (wpAny_seqItems hTI rfl ?_)
  have hne : ((itsOf b ls.length).toArray.isEmpty = true) = False := by
    refine eq_false fun e => ?_
    have := its_len b ls.length
    simp at e
    rw [e] at this
    simp at this
    omega
  simp only [hne, if_false]
  show wpAny _ _ (Builtin.SmallTypes.ownedTupleIsFree (.ref (b + ls.length + 2)) >>= _) _ _ _
  refine wpAny_bind (wpAny_tupleHeld_zip hz hT fun h₁ hz₁ hs₁ => ?_)
  simp only [Bool.false_eq_true, if_false]
  refine wpAny_bind ?_
  rw [← Array.forIn_toList]
  obtain ⟨l, rest, el⟩ : ∃ l rest, ls = l :: rest := by
    cases ls with
    | nil => simp at n0
    | cons l r => exact ⟨l, r, rfl⟩
  obtain ⟨xs, rx, ex⟩ : ∃ l rest, xss = l :: rest := by
    cases e : xss with
    | nil => have := hr.n; rw [e] at this; simp at this; omega
    | cons l r => exact ⟨l, r, rfl⟩
  have hl : ls[0]? = some l := by rw [el]; rfl
  have hx : xss[0]? = some xs := by rw [ex]; rfl
  have hlt := hr.lt l (List.mem_of_getElem? hl)
  have ei : (itsOf b ls.length).toArray.toList = Value.ref (b + 0) :: (List.range (ls.length - 1)).map fun j => Value.ref (b + (j + 1)) := by
    rw [List.toList_toArray]
    unfold itsOf
    obtain ⟨m, em⟩ : ∃ m, ls.length = m + 1 := ⟨ls.length - 1, by omega⟩
    rw [em, List.range_succ_eq_map]
    simp
  rw [ei, List.forIn_cons]
  refine wpAny_bind (wpAny_bind (wpAny_holding ?_))
  show wpAny _ _ (Builtin.SmallTypes.nextOf (.ref (b + 0)) >>= _) _ _ _
  have tp2 : h₁.IsTuple l xs := (hr.tp 0 l xs hl hx).extBut hs₁.extBut (by walk_at "aom")
  have it2 : h₁.IsTupleIter (b + 0) l k := (t.hi 0 l (Nat.le_refl _) hl).extBut hs₁.extBut (by walk_at "aom")
  refine wpAny_bind (RZ.nextOf_tuple_end (s := { s with heap := h₁ }) hh it2 tp2 (by rw [Array.getElem?_eq_none]; rw [hk xs (List.mem_of_getElem? hx)]; exact Nat.le_refl _) fun h₂ e hs₂ he => ?_)
  exact hE h₂ e (fun c o hc x => hs₂ c o (by walk_at "aom") (hs₁.extBut c o (by walk_at "aom") x)) he
end
end ZS

namespace ZS
open PySem PySem.Spec PyProof.Rows L2 LR
local macro_rules | `(tactic| walk_at "aom") => `(tactic| (try dsimp only [Addr] at *); omega)
section
variable {prog : Program} {w : World} {A : Around} {E : Value → Shared → Prop} {s : Shared} {b : Nat} {h h' : Heap} {ls : List Addr} {xss : List (Array Value)} {k i : Nat}
theorem pyNext_first {Q : Option Value → Shared → Prop} {arr : List Value} (hz : ZN s.heap b ls.length .none false) (hTI : TIof b s.heap ls.length) (hTO : s.heap.get? (b + ls.length + 1) = some { cls := .type "tuple", data := .seq arr.toArray }) (ha : arr.length = ls.length) (hr : Rws b s.heap ls xss) (t : Its b s.heap ls k 0) (n0 : 0 < ls.length) (hsz : xss.length ≤ sizeLine) (hk : ∀ xs ∈ xss, k < xs.size)
    (hQ : ∀ h', ZN h' b ls.length (rawInt s.heap.objs.size) false → TIof b h' ls.length → Its b h' ls (k + 1) 0 → h'.get? s.heap.objs.size = some { cls := .type "tuple", data := .seq (colV xss k).toArray } → h'.objs.size = s.heap.objs.size + 1 → KeepZ b ls.length s.heap h' → Q (some (.ref s.heap.objs.size)) { s with heap := h' }) :
    wpAny (model prog w) A (pyNext (.ref (b + ls.length + 2))) Q E s := by
  have hT : s.TypeIs (.ref (b + ls.length + 2)) "zip" := ⟨_, hz, rfl⟩
  unfold pyNext
  exact wpAny_bind (wpAny_attempt (wpAny_callSpecial?_slot (name := Str.ofString "__next__") hT F.slot_zip_next
    (wpAny_call_entry F.slot_zip_next hT F.entry_zip_next
      (next_first hz hTI hTO ha hr t n0 hsz hk fun h' a1 a2 a3 a4 a5 a6 => wpAny_pure (hQ h' a1 a2 a3 a4 a5 a6)) (F.args_zip_next_1 _))))
theorem pyNext_held {T : Addr} {f : Bool} {oT : Obj} {Q : Option Value → Shared → Prop} (hz : ZN s.heap b ls.length (rawInt T) f) (hT : s.heap.get? T = some oT) (hTI : TIof b s.heap ls.length) (hr : Rws b s.heap ls xss) (t : Its b s.heap ls k 0) (n0 : 0 < ls.length) (hsz : xss.length ≤ sizeLine) (hk : ∀ xs ∈ xss, k < xs.size)
    (hQ : ∀ h', ZN h' b ls.length (rawInt T) true → TIof b h' ls.length → Its b h' ls (k + 1) 0 → h'.get? s.heap.objs.size = some { cls := .type "tuple", data := .seq (colV xss k).toArray } → h'.objs.size = s.heap.objs.size + 1 → KeepZ b ls.length s.heap h' → Q (some (.ref s.heap.objs.size)) { s with heap := h' }) :
    wpAny (model prog w) A (pyNext (.ref (b + ls.length + 2))) Q E s := by
  have hTy : s.TypeIs (.ref (b + ls.length + 2)) "zip" := ⟨_, hz, rfl⟩
  unfold pyNext
  exact wpAny_bind (wpAny_attempt (wpAny_callSpecial?_slot (name := Str.ofString "__next__") hTy F.slot_zip_next
    (wpAny_call_entry F.slot_zip_next hTy F.entry_zip_next
      (next_held hz hT hTI hr t n0 hsz hk fun h' a1 a2 a3 a4 a5 a6 => wpAny_pure (hQ h' a1 a2 a3 a4 a5 a6)) (F.args_zip_next_1 _))))
theorem pyNext_end {T : Addr} {f : Bool} {oT : Obj} {Q : Option Value → Shared → Prop} (hh : A.handled = none) (hz : ZN s.heap b ls.length (rawInt T) f) (hT : s.heap.get? T = some oT) (hTI : TIof b s.heap ls.length) (hr : Rws b s.heap ls xss) (t : Its b s.heap ls k 0) (n0 : 0 < ls.length) (hk : ∀ xs ∈ xss, xs.size = k)
    (hQ : ∀ h', KeepZ b ls.length s.heap h' → Q none { s with heap := h' }) : wpAny (model prog w) A (pyNext (.ref (b + ls.length + 2))) Q E s := by
  have hTy : s.TypeIs (.ref (b + ls.length + 2)) "zip" := ⟨_, hz, rfl⟩
  unfold pyNext
  refine wpAny_bind (wpAny_attempt (wpAny_callSpecial?_slot (name := Str.ofString "__next__") hTy F.slot_zip_next
    (wpAny_call_entry F.slot_zip_next hTy F.entry_zip_next (next_end hh hz hT hTI hr t n0 hk fun h' e hk he => ?_) (F.args_zip_next_1 _))))
  obtain ⟨o, ho, hc⟩ := he
  refine wpAny_bind (wpAny_isInstance (T := "StopIteration") (b := true) ⟨o, ho, hc⟩ isSubtype_stop ?_)
  exact wpAny_pure (hQ _ hk)
/-- the list S holds the first columns, the tuples where ts says -/
structure GotL (b n : Nat) (h0 h : Heap) (S : Nat) (xss : List (Array Value)) (ts : List Nat) : Prop where
  lst : ∃ c, h.get? S = some { cls := .type "list", dict := none, data := .seq (ts.map Value.ref).toArray c, slots := #[] }
  tup : ∀ (j : Nat) (t : Nat), ts[j]? = some t → h.get? t = some { cls := .type "tuple", data := .seq (colV xss j).toArray } ∧ h0.objs.size ≤ t ∧ S < t
  keep : ∀ (c : Nat) o, ¬ (b ≤ c ∧ c ≤ b + n + 2) → c ≠ S → h0.get? c = some o → h.get? c = some o
  nd : ts.Pairwise (· < ·)
structure Got (b : Nat) (h0 h : Heap) (S : Nat) (ls : List Addr) (xss : List (Array Value)) (ts : List Nat) : Prop extends GotL b ls.length h0 h S xss ts where
  rows : Rws b h ls xss
  its : Its b h ls ts.length 0
  ti : TIof b h ls.length
  size : h0.objs.size ≤ h.objs.size
/-- the list gets one more -/
theorem Got.push {S : Nat} {ts : List Nat} {h0 h h1 : Heap} {c : Nat} (hSb : b + ls.length + 2 < S) (hS0 : S < h0.objs.size) (g : Got b h0 h S ls xss ts) (ti1 : TIof b h1 ls.length) (it1 : Its b h1 ls (ts.length + 1) 0) (t1 : h1.get? h.objs.size = some { cls := .type "tuple", data := .seq (colV xss ts.length).toArray }) (sz1 : h1.objs.size = h.objs.size + 1) (kp : KeepZ b ls.length h h1)
    (hS1 : h1.get? S = some { cls := .type "list", dict := none, data := .seq (ts.map Value.ref).toArray c, slots := #[] }) : Got b h0 (h1.update S (Obj.mapSeq (·.push (.ref h.objs.size)))) S ls xss (ts ++ [h.objs.size]) := by
  have up := Heap.get?_update_self (Obj.mapSeq (·.push (Value.ref h.objs.size))) hS1 rfl
  have sb := Heap.SameBut.update h1 S (Obj.mapSeq (·.push (Value.ref h.objs.size)))
  generalize h1.update S (Obj.mapSeq (·.push (Value.ref h.objs.size))) = h2 at *
  have lt : ∀ t ∈ ts, t < h.objs.size := fun t ht => by
    obtain ⟨j, hj⟩ := List.getElem?_of_mem ht
    exact Heap.lt_size (g.tup j t hj).1
  have oth : ∀ (c : Nat) o, ¬ (b ≤ c ∧ c ≤ b + ls.length + 2) → c ≠ S → h.get? c = some o → h2.get? c = some o := fun c o hc hcS e => sb.extBut c o hcS (kp c o hc e)
  have gsz := g.size
  refine ⟨⟨⟨c + 1, by rw [up]; simp [Obj.mapSeq]⟩, fun j t hj => ?_, fun c o hc hcS e => oth c o hc hcS (g.keep c o hc hcS e), ?_⟩, g.rows.up fun c o hc e => oth c o (by walk_at "aom") (by walk_at "aom") e, ?_, sb.extBut _ _ (by walk_at "aom") ti1, by rw [sb.1, sz1]; omega⟩
  · by_cases hj2 : j < ts.length
    · rw [List.getElem?_append_left hj2] at hj
      obtain ⟨e, h1', h2'⟩ := g.tup j t hj
      exact ⟨oth t _ (by walk_at "aom") (by walk_at "aom") e, h1', h2'⟩
    · rw [List.getElem?_append_right (by omega)] at hj
      have z : j - ts.length = 0 := by
        have := (List.getElem?_eq_some_iff.mp hj).1
        simp at this
        omega
      rw [z] at hj
      cases hj
      have ej : j = ts.length := by omega
      subst ej
      exact ⟨sb.extBut _ _ (by walk_at "aom") t1, gsz, by omega⟩
  · rw [List.pairwise_append]
    refine ⟨g.nd, List.pairwise_singleton _ _, fun a ha b hb => ?_⟩
    rw [List.mem_singleton.mp hb]
    exact lt a ha
  · rw [List.length_append, List.length_singleton]
    exact it1.up fun c o hc1 hc2 e => sb.extBut c o (by walk_at "aom") e
theorem loop {R : Result → Shared → Prop} {S : Nat} {h0 : Heap} {w' : Nat} {gens : Array GenState} {drawn : Drawn} {toks : Nat} {os : OsState} (hh : A.handled = none) (hSb : b + ls.length + 2 < S) (hS0 : S < h0.objs.size) (n0 : 0 < ls.length) (hsz : xss.length ≤ sizeLine) (hw : ∀ xs ∈ xss, xs.size = w') (hws : w' ≤ sizeLine)
    (hR : ∀ h ts, GotL b ls.length h0 h S xss ts → ts.length = w' → R (.ok (.ret .none)) ⟨h, gens, drawn, toks, os⟩) :
    ∀ (m : Nat) (h : Heap) (ts : List Nat), Got b h0 h S ls xss ts → ts.length + m = w' → (∃ (T : Nat) (f : Bool), ZN h b ls.length (rawInt T) f ∧ T ∈ ts) →
      codeAny (model prog w) A (.builtin "list.extend.loop" ⟨[.ref S, .ref (b + ls.length + 2), .none], []⟩) R ⟨h, gens, drawn, toks, os⟩ := by
  intro m
  induction m with
  | zero =>
    intro h ts g hm ⟨T, f, hz, hT⟩
    refine codeAny_builtin F.entry_extend_loop ?_
    rw [Around.under_plainId F.plain_extend_loop _]
    obtain ⟨j, hj⟩ := List.getElem?_of_mem hT
    show wpAny _ A.in1 (pyNext (.ref (b + ls.length + 2)) >>= _) _ _ _
    refine wpAny_bind (pyNext_end (s := ⟨h, gens, drawn, toks, os⟩) (A := A.in1) hh hz (g.tup j T hj).1 g.ti g.rows g.its n0 (fun xs hx => by rw [hw xs hx]; omega) fun h' hk => ?_)
    obtain ⟨c, hS⟩ := g.lst
    refine wpAny_pure (hR h' ts ⟨⟨c, hk S _ (by omega) hS⟩, fun j t hj => ?_, fun c o hc hcS e => hk c o hc (g.keep c o hc hcS e), g.nd⟩ (by omega))
    obtain ⟨e, h1', h2'⟩ := g.tup j t hj
    exact ⟨hk t _ (by omega) e, h1', h2'⟩
  | succ m ih =>
    intro h ts g hm ⟨T, f, hz, hT⟩
    refine codeAny_builtin F.entry_extend_loop ?_
    rw [Around.under_plainId F.plain_extend_loop _]
    obtain ⟨j, hj⟩ := List.getElem?_of_mem hT
    show wpAny _ A.in1 (pyNext (.ref (b + ls.length + 2)) >>= _) _ _ _
    refine wpAny_bind (pyNext_held (s := ⟨h, gens, drawn, toks, os⟩) (A := A.in1) hz (g.tup j T hj).1 g.ti g.rows g.its n0 hsz (fun xs hx => by rw [hw xs hx]; omega) fun h1 z1 ti1 it1 t1 sz1 kp => ?_)
    obtain ⟨c, hS⟩ := g.lst
    have hS1 := kp S _ (by omega) hS
    have g2 := g.push hSb hS0 ti1 it1 t1 sz1 kp hS1
    have hz2 : ZN (h1.update S (Obj.mapSeq (·.push (Value.ref h.objs.size)))) b ls.length (rawInt T) true := (Heap.SameBut.update h1 S _).extBut _ _ (by walk_at "aom") z1
    show wpAny _ A.in1 (updateSeq S (·.push (.ref h.objs.size)) >>= _) _ _ _
    refine wpAny_bind ?_
    exact wpAny_updateSeq hS1 rfl (wpAny_pure ⟨plainId_quiet F.plain_extend_loop _, ih _ _ g2 (by rw [List.length_append, List.length_singleton]; omega) ⟨T, true, hz2, List.mem_append_left _ hT⟩⟩)
      (by rw [List.size_toArray, List.length_map]; omega) (by show ((ts.map Value.ref).toArray.push (Value.ref h.objs.size)).size ≤ sizeLine + 1; rw [Array.size_push, List.size_toArray, List.length_map]; omega)
end
end ZS

namespace ZS
open PySem PySem.Spec PyProof.Rows L2 LR
local macro_rules | `(tactic| walk_at "aom") => `(tactic| (try dsimp only [Addr] at *); omega)
section
variable {prog : Program} {w : World} {A : Around} {E : Value → Shared → Prop} {s : Shared} {b : Nat} {h h' : Heap} {ls : List Addr} {xss : List (Array Value)} {k i : Nat}
theorem new_code {R : Result → Shared → Prop} (hr : Rws s.heap.objs.size s.heap ls xss) (hsz : ls.length ≤ 12)
    (hR : ∀ h', ZN h' s.heap.objs.size ls.length .none false → TIof s.heap.objs.size h' ls.length → h'.get? (s.heap.objs.size + ls.length + 1) = some { cls := .type "tuple", data := .seq (List.replicate ls.length Value.none).toArray } → Its s.heap.objs.size h' ls 0 0 →
      h'.objs.size = s.heap.objs.size + ls.length + 3 → (∀ c o, s.heap.get? c = some o → h'.get? c = some o) → R (.ok (.ret (.ref (s.heap.objs.size + ls.length + 2)))) { s with heap := h' }) :
    wpAny (model prog w) A (Builtin.«zip.__new__» ⟨.type "zip" :: ls.map Value.ref, []⟩) (fun fin s' => ∃ v, fin = .done (.ret v) ∧ R (.ok (.ret v)) s') (fun e s' => R (.error e) s') s := by
  obtain ⟨hp, g, d, tk, os⟩ := s
  have hsub := sub_zip
  unfold Builtin.«zip.__new__»
  repeat (any_goals (first | assumption | wp_step))
  have hr : Rws hp.objs.size hp ls xss := hr
  show wpAny _ _ (forIn (ls.map Value.ref) (#[] : Array Value) fun x its => (do let r ← holding its.toList (pyIter x); pure (ForInStep.yield (its.push r)))) _ _ _
  refine forIn_rule (fun i acc s' => acc = (itsOf hp.objs.size i).toArray ∧ ∃ h2, s' = ⟨h2, g, d, tk, os⟩ ∧ h2.objs.size = hp.objs.size + i ∧ (∀ c o, hp.get? c = some o → h2.get? c = some o) ∧ ∀ (j : Nat) l, j < i → ls[j]? = some l → h2.IsTupleIter (hp.objs.size + j) l 0)
    ⟨rfl, hp, rfl, rfl, fun _ _ e => e, fun j l h => by omega⟩ (fun i a acc s' hi ⟨ea, h2, es, sz, kp, it⟩ => ?_) (fun acc s' ⟨ea, h2, es, sz, kp, it⟩ => ?_)
  · subst ea es
    rw [List.getElem?_map] at hi
    cases hl : ls[i]? with
    | none => rw [hl] at hi; cases hi
    | some l =>
      rw [hl] at hi
      cases hi
      have hin := (List.getElem?_eq_some_iff.mp hl).1
      have hx : xss[i]? = some (xss[i]'(by rw [hr.n]; exact hin)) := List.getElem?_eq_getElem _
      have tp : h2.IsTuple l _ := (hr.tp i l _ hl hx).at fun o e => kp l o e
      refine wpAny_bind (wpAny_holding ?_)
      refine wpAny_pyIter_tuple (s := ⟨h2, g, d, tk, os⟩) tp ?_
      refine wpAny_pure ⟨_, rfl, ?_, _, rfl, by rw [Heap.size_push]; show h2.objs.size + 1 = _; omega, fun c o e => Heap.get?_push_of_some _ (kp c o e), fun j m hj hm => ?_⟩
      · have e1 : itsOf hp.objs.size (i + 1) = itsOf hp.objs.size i ++ [Value.ref (hp.objs.size + i)] := by
          unfold itsOf
          rw [List.range_succ, List.map_append]
          rfl
        rw [e1, ← sz]
        simp
      · by_cases e : j = i
        · subst e
          rw [hl] at hm
          cases hm
          rw [← sz]
          exact ⟨_, Heap.get?_push_size _ rfl, rfl, rfl⟩
        · exact (it j m (by omega) hm).at fun o e => Heap.get?_push_of_some _ e
  · subst ea es
    rw [List.length_map] at sz it ⊢
    show wpAny _ _ (pure (itsOf hp.objs.size ls.length).toArray.toList) _ _ _
    rw [List.toList_toArray]
    refine wpAny_pure ?_
    have hsl : sizeLine = 16777216 := sizeLine_eq
    refine wpAny_bind (wpAny_newTuple (hsz := by rw [its_len]; omega) ?_)
    refine wpAny_bind (wpAny_newTuple (hsz := by rw [List.length_map, its_len]; omega) ?_)
    have em : (itsOf hp.objs.size ls.length).map (fun _ => Value.none) = List.replicate ls.length Value.none := List.eq_replicate_iff.mpr ⟨by rw [List.length_map, its_len], fun v hv => by obtain ⟨_, _, rfl⟩ := List.mem_map.mp hv; rfl⟩
    rw [em]
    generalize e3 : h2.push { cls := .type "tuple", data := .seq (itsOf hp.objs.size ls.length).toArray } = h3
    have z3 : h3.objs.size = h2.objs.size + 1 := by rw [← e3]; exact Heap.size_push ..
    have g3 : h3.get? h2.objs.size = some { cls := .type "tuple", data := .seq (itsOf hp.objs.size ls.length).toArray } := by rw [← e3]; exact Heap.get?_push_size _ rfl
    have k3 : ∀ c o, h2.get? c = some o → h3.get? c = some o := fun c o e => by rw [← e3]; exact Heap.get?_push_of_some _ e
    show wpAny _ _ (newObj (.type "zip") (.fields #[.none, .bool false, .bool false, .ref h2.objs.size, .ref h3.objs.size]) >>= fun v => ret v) _ _ ⟨h3.push { cls := .type "tuple", data := .seq (List.replicate ls.length Value.none).toArray }, g, d, tk, os⟩
    refine wpAny_bind (wpAny_newObj_type (wpAny_pure ⟨_, rfl, ?_⟩))
    generalize e4 : h3.push { cls := .type "tuple", data := .seq (List.replicate ls.length Value.none).toArray } = h4
    have z4 : h4.objs.size = h3.objs.size + 1 := by rw [← e4]; exact Heap.size_push ..
    have g4 : h4.get? h3.objs.size = some { cls := .type "tuple", data := .seq (List.replicate ls.length Value.none).toArray } := by rw [← e4]; exact Heap.get?_push_size _ rfl
    have k4 : ∀ c o, h3.get? c = some o → h4.get? c = some o := fun c o e => by rw [← e4]; exact Heap.get?_push_of_some _ e
    have g5 : (h4.push { cls := .type "zip", data := .fields #[.none, .bool false, .bool false, .ref h2.objs.size, .ref h3.objs.size] }).get? h4.objs.size = some { cls := .type "zip", data := .fields #[.none, .bool false, .bool false, .ref h2.objs.size, .ref h3.objs.size] } := Heap.get?_push_size _ rfl
    have z5 : (h4.push { cls := .type "zip", data := .fields #[.none, .bool false, .bool false, .ref h2.objs.size, .ref h3.objs.size] }).objs.size = h4.objs.size + 1 := Heap.size_push ..
    have k5 : ∀ c o, h4.get? c = some o → (h4.push { cls := .type "zip", data := .fields #[.none, .bool false, .bool false, .ref h2.objs.size, .ref h3.objs.size] }).get? c = some o := fun c o e => Heap.get?_push_of_some _ e
    show R (.ok (.ret (.ref h4.objs.size))) ⟨h4.push { cls := .type "zip", data := .fields #[.none, .bool false, .bool false, .ref h2.objs.size, .ref h3.objs.size] }, g, d, tk, os⟩
    generalize h4.push { cls := .type "zip", data := .fields #[.none, .bool false, .bool false, .ref h2.objs.size, .ref h3.objs.size] } = h5 at *
    rw [z4, z3, sz] at g5 z5 ⊢
    rw [z3, sz] at g4
    rw [sz] at g3
    have e5 : hp.objs.size + ls.length + 1 + 1 = hp.objs.size + ls.length + 2 := rfl
    rw [e5] at g5 ⊢
    exact hR h5 g5 (k5 _ _ (k4 _ _ g3)) (k5 _ _ g4) ⟨fun j l hj _ => by omega, fun j l _ hl => (it j l (List.getElem?_eq_some_iff.mp hl).1 hl).at fun o e => k5 _ _ (k4 _ _ (k3 _ _ e))⟩ z5 fun c o e => k5 _ _ (k4 _ _ (k3 _ _ (kp c o e)))
end
end ZS

namespace ZS
open PySem PySem.Spec PyProof.Rows L2 LR
local macro_rules | `(tactic| walk_at "aom") => `(tactic| (try dsimp only [Addr] at *); omega)
theorem zip_no_len : typeLookup (.type "zip") "__len__" = pure none := by rw [typeLookup_type, builtinLookup_eq_fast]; kernel_rfl
theorem zip_no_hint : typeLookup (.type "zip") "__length_hint__" = pure none := by rw [typeLookup_type, builtinLookup_eq_fast]; kernel_rfl
section
variable {prog : Program} {w : World} {A : Around} {E : Value → Shared → Prop} {s : Shared} {b : Nat} {h h' : Heap} {ls : List Addr} {xss : List (Array Value)} {k i : Nat}
/-- what zip(*rows) leaves -/
structure Made (hp h' : Heap) (ls : List Addr) : Prop where
  z : ZN h' hp.objs.size ls.length .none false
  ti : TIof hp.objs.size h' ls.length
  to : h'.get? (hp.objs.size + ls.length + 1) = some { cls := .type "tuple", data := .seq (List.replicate ls.length Value.none).toArray }
  its : Its hp.objs.size h' ls 0 0
  size : h'.objs.size = hp.objs.size + ls.length + 3
  keep : ∀ c o, hp.get? c = some o → h'.get? c = some o
theorem call_zip {Q : Value → Shared → Prop} (hr : Rws s.heap.objs.size s.heap ls xss) (hsz : ls.length ≤ 12) (hQ : ∀ h', Made s.heap h' ls → Q (.ref (s.heap.objs.size + ls.length + 2)) { s with heap := h' }) :
    wpAny (model prog w) A (call (.type "zip") (ls.map Value.ref)) Q E s := by
  refine callType_new F.called_zip (by decide) (typeCall_zip _) (newCall_zip _ (by rw [List.length_map]; exact hsz)) (fun obj => args_object_init _) F.entry_zip_new
    (Meets.of_wp (S := fun A R s => ∃ xss, Rws s.heap.objs.size s.heap ls xss ∧ ∀ h', Made s.heap h' ls → R (.ok (.ret (.ref (s.heap.objs.size + ls.length + 2)))) { s with heap := h' }) fun prog w A R s ⟨xss, hr, hR⟩ => new_code hr hsz fun h' a1 a2 a3 a4 a5 a6 => hR h' ⟨a1, a2, a3, a4, a5, a6⟩) ?_
  exact ⟨xss, hr, fun h' m => ⟨⟨_, m.z, rfl⟩, hQ h' m⟩⟩
/-- list(z) for the z just made; the rows are there and have the length w' -/
theorem call_list {Q : Value → Shared → Prop} {hp : Heap} {w' : Nat} (hh : A.handled = none) (m : Made hp s.heap ls) (hr : Rws hp.objs.size hp ls xss) (n0 : 0 < ls.length) (hsz : xss.length ≤ sizeLine) (w0 : 0 < w') (hw : ∀ xs ∈ xss, xs.size = w') (hws : w' ≤ sizeLine)
    (hQ : ∀ h ts, GotL hp.objs.size ls.length (s.heap.push { cls := .type "list", data := .seq #[] }) h s.heap.objs.size xss ts → ts.length = w' → Q (.ref s.heap.objs.size) { s with heap := h }) :
    wpAny (model prog w) A (call (.type "list") [.ref (hp.objs.size + ls.length + 2)]) Q E s := by
  obtain ⟨h, gens, drawn, toks, os⟩ := s
  have m : Made hp h ls := m
  refine callType_codes (Q₁ := fun obj s₁ => obj = .ref h.objs.size ∧ s₁ = ⟨h.push { cls := .type "list", data := .seq #[] }, gens, drawn, toks, os⟩) F.called_list (F.typeCall_list_1 _) F.entry_list_init
    (code_list_new _ ⟨rfl, rfl⟩) fun obj s₁ h₁ => ?_
  obtain ⟨rfl, rfl⟩ := h₁
  have hS : (h.push { cls := .type "list", data := .seq #[] }).get? h.objs.size = some { cls := .type "list", data := .seq #[] } := Heap.get?_push_size _ rfl
  have hQ : ∀ h2 ts, GotL hp.objs.size ls.length (h.push { cls := .type "list", data := .seq #[] }) h2 h.objs.size xss ts → ts.length = w' → Q (.ref h.objs.size) ⟨h2, gens, drawn, toks, os⟩ := hQ
  have szh := m.size
  have sz0 : (h.push { cls := .type "list", data := .seq #[] }).objs.size = h.objs.size + 1 := Heap.size_push ..
  have kp0 : ∀ c o, h.get? c = some o → (h.push { cls := .type "list", data := .seq #[] }).get? c = some o := fun c o e => Heap.get?_push_of_some _ e
  generalize h.push { cls := .type "list", data := .seq #[] } = h0 at *
  refine ⟨⟨_, hS, rfl⟩, F.args_list_init_2 _ _, ?_⟩
  show wpAny _ A.in1.in1 (do let old ← Builtin.List.listItems (.ref h.objs.size); Builtin.List.listUpdate (.ref h.objs.size) (fun _ => #[]); letGo old.toList.reverse; Builtin.List.listExtendWith (.ref h.objs.size) (.ref (hp.objs.size + ls.length + 2)) .none) _ _ _
  refine wpAny_bind ?_
  unfold Builtin.List.listItems
  refine wpAny_bind (wpAny_seqItems hS rfl (wpAny_pure ?_))
  show wpAny _ A.in1.in1 (updateSeq h.objs.size (fun _ => #[]) >>= fun _ => letGo (#[] : Array Value).toList.reverse >>= fun _ => Builtin.List.listExtendWith (.ref h.objs.size) (.ref (hp.objs.size + ls.length + 2)) .none) _ _ _
  refine wpAny_bind (wpAny_updateSeq hS rfl ?_)
  have hS1 := Heap.get?_update_self (Obj.mapSeq (fun _ => (#[] : Array Value))) hS rfl
  have sb1 := Heap.SameBut.update h0 h.objs.size (Obj.mapSeq (fun _ => (#[] : Array Value)))
  refine wpAny_bind (wpAny_letGo ?_)
  show wpAny _ A.in1.in1 _ _ _ ⟨h0.update h.objs.size (Obj.mapSeq (fun _ => (#[] : Array Value))), gens, drawn, toks, os⟩
  generalize h0.update h.objs.size (Obj.mapSeq (fun _ => (#[] : Array Value))) = h1 at *
  have zne : hp.objs.size + ls.length + 2 ≠ h.objs.size := by rw [szh]; omega
  have zn1 : ZN h1 hp.objs.size ls.length .none false := sb1.extBut _ _ zne (kp0 _ _ m.z)
  have hTy : (⟨h1, gens, drawn, toks, os⟩ : Shared).TypeIs (.ref (hp.objs.size + ls.length + 2)) "zip" := ⟨_, zn1, rfl⟩
  unfold Builtin.List.listExtendWith
  refine wpAny_bind (wpAny_typeOf hTy ?_)
  have e1 : Builtin.List.listSameRef (.ref h.objs.size) (.ref (hp.objs.size + ls.length + 2)) = false := by simp [Builtin.List.listSameRef, Ne.symm zne]
  have e2 : (Value.type "zip" == Value.type "list") = false := by decide
  have e3 : (Value.type "zip" == Value.type "tuple") = false := by decide
  simp only [e1, e2, e3, Bool.or_false, Bool.false_eq_true, if_false]
  refine wpAny_bind (wpAny_pyIter_zip zn1 ?_)
  refine wpAny_bind (wpAny_holding ?_)
  unfold Builtin.List.listLengthHint
  refine wpAny_bind (wpAny_specialOf hTy zip_no_len ?_)
  show wpAny _ A.in1.in1 (specialOf (Value.ref (hp.objs.size + ls.length + 2)) (Str.ofString "__length_hint__") >>= _) _ _ _
  refine wpAny_bind (wpAny_specialOf hTy zip_no_hint ?_)
  refine wpAny_pure ?_
  show wpAny _ A.in1.in1 (rule "list.extend.makes-room" >>= fun _ => Builtin.List.listTouch (.ref h.objs.size) >>= fun _ =>
    again (.builtin "list.extend.loop" ⟨[.ref h.objs.size, .ref (hp.objs.size + ls.length + 2), .none], []⟩)) _ _ _
  refine wpAny_bind (wpAny_rule ?_)
  refine wpAny_bind ?_
  show wpAny _ A.in1.in1 (updateSeq h.objs.size (·.push .none) >>= fun _ => updateSeq h.objs.size (·.pop)) _ _ _
  refine wpAny_bind (wpAny_updateSeq hS1 rfl ?_)
  have hS2 := Heap.get?_update_self (Obj.mapSeq (·.push Value.none)) hS1 rfl
  have sb2 := Heap.SameBut.update h1 h.objs.size (Obj.mapSeq (·.push Value.none))
  show wpAny _ A.in1.in1 _ _ _ ⟨h1.update h.objs.size (Obj.mapSeq (·.push Value.none)), gens, drawn, toks, os⟩
  generalize h1.update h.objs.size (Obj.mapSeq (·.push Value.none)) = h2 at *
  refine wpAny_updateSeq (hz := by seq_fits) hS2 rfl ?_
  have hS3 := Heap.get?_update_self (Obj.mapSeq (·.pop)) hS2 rfl
  have sb3 := Heap.SameBut.update h2 h.objs.size (Obj.mapSeq (·.pop))
  show wpAny _ A.in1.in1 _ _ _ ⟨h2.update h.objs.size (Obj.mapSeq (·.pop)), gens, drawn, toks, os⟩
  generalize h2.update h.objs.size (Obj.mapSeq (·.pop)) = h3 at *
  refine wpAny_pure ⟨plainId_quiet F.plain_extend_loop _, ?_⟩
  have oth : ∀ (c : Nat) o, c ≠ h.objs.size → h0.get? c = some o → h3.get? c = some o := fun c o hc e => sb3.extBut c o hc (sb2.extBut c o hc (sb1.extBut c o hc e))
  have zn3 : ZN h3 hp.objs.size ls.length .none false := oth _ _ zne (kp0 _ _ m.z)
  have ti3 : TIof hp.objs.size h3 ls.length := oth _ _ (by rw [szh]; omega) (kp0 _ _ m.ti)
  have to3 := oth (hp.objs.size + ls.length + 1) _ (by rw [szh]; omega) (kp0 _ _ m.to)
  have rw3 : Rws hp.objs.size h3 ls xss := hr.up fun c o hc e => oth c o (by rw [szh]; omega) (kp0 c o (m.keep c o e))
  have it3 : Its hp.objs.size h3 ls 0 0 := m.its.up fun c o hc1 hc2 e => oth c o (by rw [szh]; omega) (kp0 c o e)
  have s3 : h3.objs.size = h.objs.size + 1 := by rw [sb3.1, sb2.1, sb1.1, sz0]
  refine codeAny_builtin F.entry_extend_loop ?_
  rw [Around.under_plainId F.plain_extend_loop _]
  show wpAny _ A.in1.in1 (pyNext (.ref (hp.objs.size + ls.length + 2)) >>= _) _ _ _
  refine wpAny_bind (pyNext_first (s := ⟨h3, gens, drawn, toks, os⟩) zn3 ti3 to3 List.length_replicate rw3 it3 n0 hsz (fun xs hx => by rw [hw xs hx]; exact w0) fun h4 z4 ti4 it4 t4 sz4 kp4 => ?_)
  have hS4 := kp4 _ _ (by rw [szh]; omega) hS3
  have g0 : Got hp.objs.size h0 h3 h.objs.size ls xss [] := ⟨⟨⟨_, hS3⟩, fun j t hj => by simp at hj, fun c o _ hc e => oth c o hc e, List.Pairwise.nil⟩, rw3, it3, ti3, by rw [s3, sz0]; exact Nat.le_refl _⟩
  have g1 := g0.push (by rw [szh]; omega) (by rw [sz0]; exact Nat.lt_succ_self _) ti4 it4 t4 sz4 kp4 hS4
  have z5 : ZN (h4.update h.objs.size (Obj.mapSeq (·.push (Value.ref h3.objs.size)))) hp.objs.size ls.length (rawInt h3.objs.size) false := (Heap.SameBut.update h4 h.objs.size _).extBut _ _ zne z4
  show wpAny _ A.in1.in1 (updateSeq h.objs.size (·.push (.ref h3.objs.size)) >>= _) _ _ _
  refine wpAny_bind ?_
  refine wpAny_updateSeq hS4 rfl (wpAny_pure ⟨plainId_quiet F.plain_extend_loop _, ?_⟩) (by seq_fits) (by seq_fits)
  refine loop (A := A.in1) hh (by rw [szh]; omega) (by rw [sz0]; exact Nat.lt_succ_self _) n0 hsz hw hws (fun h6 ts g6 e6 => ?_) (w' - 1) _ _ g1 (by simp; omega) ⟨_, false, z5, by simp⟩
  exact ⟨rfl, hQ h6 ts g6 e6⟩
end
end ZS

namespace DL
open PySem PySem.Spec PyProof.Rows L2 LR
section
variable {X : Cx} {W : WX} {a b c e tg : Expr} {es : List Expr} {ta tb tc : DT} {t : DTA} {pos p : Pos} {K : PySem.W.Frag}
/-! enumerate of a tuple -/
theorem jok_enumT {G : Hp} {a : Addr} {vs : List V} {l : List D} (h : SqT K G a vs) (r : Reps K G vs l) : JOk K (IteT K a) G (enumD l) where
  go := fun i H s hi => ⟨vs, vs[i]'(by rw [r.1]; rw [enumD_len] at hi; exact hi), sqT_same s h, List.getElem?_eq_getElem _⟩
  stop := fun H s => ⟨vs, sqT_same s h, by rw [r.1, enumD_len]; exact Nat.le_refl _⟩
  yld := fun i H G1 x H' s1 s2 hi ⟨T, x', e, n, e2, y⟩ => by
    subst e e2
    have hx := y vs (sqT_same (s1.trans s2) h)
    obtain ⟨d, hd, rd⟩ := r.at' hx
    obtain ⟨x2, r2⟩ := ext_pair s2 n (.int (i : Nat)) (rd.same s1)
    exact ⟨_, _, enumD_at hd, x2, r2⟩
def diEnumT (t : DTA) : DTI := fun env Q ex => t env (fun ds => ∃ l, ds = [.tup l] ∧ Q (enumD l)) ex
theorem pdi_enumT {tpos : Pos} {elts : List Expr} {kk : Nat} (hg : Gl X "enumerate") (hm : X.mg "enumerate" = none) (ha : PDA X W [e] t) (hs : starEach [e] X.env = [(false, eval e X.env)] := by rfl) :
    PDI X W (.Tuple elts kk tpos) (.Call (.Name "enumerate" p) [e] [] pos) (diEnumT t) := by
  obtain ⟨_, pa, la⟩ := ha.of
  refine ⟨_, pi_enumT hg hm pa hs, fun H0 G0 G H σ env Q ex R S L q g => la H0 G0 G H σ env _ ex _ S L q fun vs H1 G1 ds x1 r1 ⟨l, e1, q1⟩ => ?_⟩
  subst e1
  obtain ⟨v, rfl, r⟩ := reps1 r1
  obtain ⟨p, ws, rfl, h1, h2⟩ := r.tup_inv
  exact ⟨p, ws, rfl, sqT_same x1.sub h1, g _ H1 G1 _ x1 (jok_enumT h1 h2) q1⟩
/-! list(range(n)) -/
def dLRg (ta : DT) : DTN := fun env Q ex => ta env (fun d => ∃ n : Nat, d = .int n ∧ n ≤ 2 ^ 24 ∧ Q (rngD 0 n)) ex
theorem pdn_lrg {p2 pos2 : Pos} (hc : X.calm = true) (hg : Gl X "list") (hm : X.mg "list" = none) (hg2 : Gl X "range") (hm2 : X.mg "range" = none) (ha : PD X W a ta)
    (na : starEach [a] X.env = (false, eval a X.env) :: starEach [] X.env := by rfl) (na2 : starEach [.Call (.Name "range" p) [a] [] pos] X.env = (false, eval (.Call (.Name "range" p) [a] [] pos) X.env) :: starEach [] X.env := by rfl) :
    PDN X W (.Call (.Name "list" p2) [.Call (.Name "range" p) [a] [] pos] [] pos2) (dLRg ta) := by
  obtain ⟨_, pa, la⟩ := ha.of
  refine ⟨_, pe_listRg hc hg hm (prg_1 hg2 hm2 pa na) na2, fun H0 G0 G H σ env Q ex R S L q g => la H0 G0 G H σ env _ ex _ S L q fun v H1 G1 d x1 r1 ⟨n, e1, hn, q1⟩ => ?_⟩
  subst e1
  refine ⟨n, r1.int_inv, ⟨by decide, by decide, by omega, by omega, by omega⟩, fun q hq => ?_⟩
  have er : rgV 0 n = (((List.range n).map fun (i : Nat) => (0 : Int) + (i : Int))).map V.int := by
    unfold rgV
    rw [List.map_map, show ((n : Int) - 0).toNat = n by omega]
    rfl
  have ed : rngD 0 n = (((List.range n).map fun (i : Nat) => (0 : Int) + (i : Int))).map D.int := by
    unfold rngD
    rw [List.map_map]
    rfl
  exact g q _ _ H1 G1 _ x1 hq rfl (by rw [er, ed]; exact Reps.of_ints _) q1
/-! a clause for a class of errors of which the error's own class is one -/
abbrev ClE := Str × Str × Nat × (Addr → Value → Option Addr → DTS)
def dClE (K : PySem.W.Frag) (E : DEnds) (z : Str) (fs : List (Str × D)) (e : DE) : List ClE → Prop
  | [] => E.ex z fs e
  | q :: r => (z = q.2.1 ∧ ∀ a dd, q.2.2.2 a (.ref (He.ga K q.2.1)) (some dd) (offD q.2.2.1 E) (e.set q.2.2.1 (.exc a dd q.2.1 fs))) ∨ (PySem.W.exmOne K (.ref (He.ga K z)) (.ref (He.ga K q.1)) = some false ∧ dClE K E z fs e r)
def dTryE (K : PySem.W.Frag) (l : List ClE) (tb : DTS) : DTS := fun E env => tb { E with ex := fun z fs e => dClE K E z fs e l } env
/-- x the clause's class, y the class of the error that comes -/
inductive HdE (X : Cx) : List ExceptHandler → List ClE → Prop
  | nil : HdE X [] []
  | cons {x y n : Str} {i : Nat} {ts : Addr → Value → Option Addr → DTS} {st : Stmt} {sts : List Stmt} {np ps : Pos} {hds : List ExceptHandler} {l : List ClE} (hc : Names X x (.ref (He.ga X.K x))) (hm : PySem.W.exmOne X.K (.ref (He.ga X.K y)) (.ref (He.ga X.K x)) = some true)
      (hi : X.N[i]? = some n) (hk : X.env.kindOf n = some .local) (hsu : ∀ (a : Addr) (oe : Obj) (cls : Value) (d : Option Addr) (pn : List (Addr × Obj)), Zc cls d oe → (∃ vs, oe.data = .fields vs) → PDSs (X.suite a ((a, oe) :: pn)) WN (st :: sts) (ts a cls d)) (r : HdE X hds l) :
      HdE X (.ExceptHandler (some (.Name x np)) (some n) (st :: sts) ps :: hds) ((x, y, i, ts) :: l)
theorem HdE.lift {hds : List ExceptHandler} {l : List ClE} (h : HdE X hds l) : ∃ l' : List ClA, HdA X hds l' ∧ ∀ (W : WX) (H0 G0 G : Hp) (B : Ends) (E : DEnds), Lk X.K H0 G0 G W B E → ∀ (σ' : L2.St) (H' G' : Hp) (env' : DE) (dd : Addr) (z : Str) (fv : List (Str × V)) (fs : List (Str × D)), Same G G' →
    SR X.K H0 G0 G' H' σ' env' → H' dd = some (.xd fv) → RepF X.K G' fv fs → dClE X.K E z fs env' l → wAll X.K W B l' (.ref (He.ga X.K z)) (some dd) σ' H' := by
  induction h with
  | nil => exact ⟨[], .nil, fun W H0 G0 G B E L σ' H' G' env' dd z fv fs s S e r q => L.ex σ' H' G' env' dd z fv fs s S e r q⟩
  | @cons x y n i ts st sts np ps hds l hc hm hi hk hsu r ih =>
    obtain ⟨l', h', go⟩ := ih
    refine ⟨(.ref (He.ga X.K x), i, fun a cls d B σ H => ∀ oe pn (h1 : Zc cls d oe) (h2 : ∃ vs, oe.data = .fields vs), (hsu a oe cls d pn h1 h2).of.choose B σ H) :: l', .cons hc hi hk (fun a oe cls d pn h1 h2 => ⟨fun pins s σ H B I q => (hsu a oe cls d pn h1 h2).of.choose_spec.1.run pins s σ H B I (q oe pn h1 h2)⟩) h', ?_⟩
    intro W H0 G0 G B E L σ' H' G' env' dd z fv fs s S e rf q
    rcases q with ⟨rfl, q⟩ | ⟨hn, q⟩
    · refine ⟨true, hm, fun _ a na oe pn h1 h2 => ?_, fun z => Bool.noConfusion z⟩
      have S2 := S.setErr (i := i) (a := a) (x := z) e rf
      have L2 := L.mono s
      exact (hsu a oe _ _ pn h1 h2).of.choose_spec.2 H0 G0 G' H' _ _ _ (offD i E) S2 ⟨fun σ4 H4 G4 env4 s4 S4 q4 => L2.nx _ _ _ _ s4 S4.unset q4, fun σ4 H4 G4 env4 s4 S4 q4 => L2.bk _ _ _ _ s4 S4.unset q4, fun σ4 H4 G4 env4 s4 S4 q4 => L2.ct _ _ _ _ s4 S4.unset q4, L2.rt, fun _ _ _ _ _ _ _ _ _ _ _ _ z => z.elim, L2.rf⟩ (q a dd)
    · exact ⟨false, hn, fun z => Bool.noConfusion z, fun _ => go W H0 G0 G B E L σ' H' G' env' dd z fv fs s S e rf q⟩
theorem pds_tryE {body : List Stmt} {h0 : ExceptHandler} {hds : List ExceptHandler} {l : List ClE} {tb : DTS} (hs : X.stack = X.env :: X.outer) (hf : X.env.frame = some X.env.locals) (hN : X.N.Nodup) (tk : Takes X W)
    (hb : ∀ (W' : WX) (pn : List (Addr × Obj)) (xe : Value → Shared → Prop), Takes (X.tr pn xe) W' → PassesOwn (model X.prog X.w) X.A X.env xe → PDSs (X.tr pn xe) W' body tb) (hh : HdE X (h0 :: hds) l) : PDS X W (.Try body (h0 :: hds) [] [] pos) (dTryE X.K l tb) := by
  obtain ⟨l', h', go⟩ := hh.lift
  refine ⟨_, ps_tryN (Wout := W) (tb := fun W' B σ H => ∀ pn xe (h1 : Takes (X.tr pn xe) W') (h2 : PassesOwn (model X.prog X.w) X.A X.env xe), (hb W' pn xe h1 h2).of.choose B σ H) hs hf hN tk
    (fun W' pn xe h1 h2 => ⟨fun pins s σ H B I q => (hb W' pn xe h1 h2).of.choose_spec.1.run pins s σ H B I (q pn xe h1 h2)⟩) h', fun H0 G0 G H σ env B E S L q pn xe h1 h2 => ?_⟩
  exact (hb _ pn xe h1 h2).of.choose_spec.2 H0 G0 G H σ env _ { E with ex := fun z fs e => dClE X.K E z fs e l } S ⟨L.nx, L.bk, L.ct, L.rt, fun σ' H' G' env' dd z fv fs s' S' e r q' => go W H0 G0 G B E L σ' H' G' env' dd z fv fs s' S' e r q', L.rf⟩ q
end
/-- facts of classes of errors, one under another -/
structure Mo3 (cs : List Nat) (sms : List (Str × Str)) (cis : List (Str × Int)) (mxs : List (String × List Nat)) (exs : List (Str × Str)) (K : PySem.W.Frag) (mg : Str → Option Value) : Prop extends Mo2 cs sms cis mxs K mg where
  exA : ∀ p ∈ exs, PySem.W.exmOne K (.ref (He.ga K p.1)) (.ref (He.ga K p.2)) = some true
theorem Mo3.of {cs : List Nat} {sms : List (Str × Str)} {cis : List (Str × Int)} {mxs : List (String × List Nat)} {exs : List (Str × Str)} {K : PySem.W.Frag} {mg : Str → Option Value} {h : Heap} (X : K.In h) (G : h.Ns mainGlobals mg) (hc : ∀ c ∈ cs, Cls K (He.ga K (cname c))) (m : mo3B cs sms cis mxs exs K = true) : Mo3 cs sms cis mxs exs K mg :=
  let ⟨m1, m2⟩ := Bool.and_eq_true_iff.mp m
  { Mo2.of X G hc m1 with exA := fun p hp => of_decide_eq_true (List.all_eq_true.mp m2 p hp) }
theorem Mo3.exm {cs : List Nat} {sms : List (Str × Str)} {cis : List (Str × Int)} {mxs : List (String × List Nat)} {exs : List (Str × Str)} {K : PySem.W.Frag} {mg : Str → Option Value} (M : Mo3 cs sms cis mxs exs K mg) (x y : Str) (h : (x, y) ∈ exs := by decide +kernel) : PySem.W.exmOne K (.ref (He.ga K x)) (.ref (He.ga K y)) = some true := M.exA (x, y) h
theorem dm_Pow : PySem.dunder (Operator.info .Pow).2 = ("__pow__" : Str) := by decide +kernel
end DL

/-! list(zip(*rows)): the rule, and the layer of data -/
namespace ZS
open PySem PySem.Spec PyProof.Rows L2 LR
local macro_rules | `(tactic| walk_at "aom") => `(tactic| (try dsimp only [Addr] at *); omega)
section
variable {X : Cx} {pins : List (Addr × Obj)} {σ : L2.St} {H H' : Hp} {s : Shared} {h' : Heap}
/-- many new objects -/
theorem Inv.many {t' : Nat} (I : Inv X pins σ H s) (k : ∀ b u, s.heap.get? b = some u → h'.get? b = some u) (sm : Same H H') (new : ∀ a o, H a = none → H' a = some o → s.heap.objs.size ≤ a ∧ ObjOk X.prog X.w H' h' a o) : Inv X pins σ H' { s with heap := h', toks := t' } := by
  refine I.un ⟨fun b o q _ _ _ => k b o q, fun b o q _ _ _ => ⟨o.slots, k b o q⟩, fun b o q n _ => ?_, fun b o q _ => ⟨o, k b o q⟩, fun b xs q => sm _ _ q, fun b o u q => sm _ _ q, fun b ps q => ⟨#[], by rw [sm _ _ q]; simp⟩⟩ fun a o e => ?_
  · cases e : H' b with
    | none => rfl
    | some u => exact absurd (Heap.lt_size q) (Nat.not_lt.mpr (new b u n e).1)
  · cases e2 : H a with
    | none => exact (new a o e2 e).2
    | some u =>
      have := sm _ _ e2
      rw [e] at this
      cases this
      exact (I.hok a o e2).stay (fun b u _ q => k b u q) (fun b q => sm _ _ q) fun b xs q => sm _ _ q
theorem vals_refs {ls : List Addr} : ∀ {us : List Value}, Vals (ls.map V.ref) us → us = ls.map Value.ref := by
  induction ls with
  | nil => intro us h; cases h; rfl
  | cons l ls ih =>
    intro us h
    cases h with
    | cons r t =>
      rw [ih t]
      exact congrArg (· :: _) r
theorem rows_its {K : PySem.W.Frag} (hK : K = X.K) (I : Inv X pins σ H s) : ∀ (ls : List Addr) (rows : List (List V)), rows.length = ls.length → (∀ (j : Nat) l r, ls[j]? = some l → rows[j]? = some r → SqT K H l r) →
    ∃ xss : List (Array Value), xss.length = ls.length ∧ (∀ (j : Nat) l xs, ls[j]? = some l → xss[j]? = some xs → s.heap.IsTuple l xs) ∧ Paired (fun (r : List V) (xs : Array Value) => Vals r xs.toList) rows xss := by
  subst hK
  intro ls
  induction ls with
  | nil =>
    intro rows hl hf
    cases rows with
    | nil => exact ⟨[], rfl, fun j l xs h => by simp at h, .nil⟩
    | cons r rs => simp at hl
  | cons l ls ih =>
    intro rows hl hf
    cases rows with
    | nil => simp at hl
    | cons r rs =>
      obtain ⟨xss, e1, e2, e3⟩ := ih rs (by simpa using hl) fun j l r h1 h2 => hf (j + 1) l r (by simpa using h1) (by simpa using h2)
      obtain ⟨its, rv, p, _⟩ := I.tuple (hf 0 l r rfl rfl)
      refine ⟨its.toArray :: xss, by simp [e1], fun j l' xs h1 h2 => ?_, .cons (by simpa using rv) e3⟩
      cases j with
      | zero =>
        simp at h1 h2
        subst h1 h2
        exact p
      | succ j => exact e2 j l' xs (by simpa using h1) (by simpa using h2)
/-- column k -/
def colD {α : Type} (z : α) (rows : List (List α)) (k : Nat) : List α := rows.map fun r => r.getD k z
theorem vals_col {k : Nat} : ∀ {rows : List (List V)} {xss : List (Array Value)}, Paired (fun (r : List V) (xs : Array Value) => Vals r xs.toList) rows xss → (∀ r ∈ rows, k < r.length) → Vals (colD .non rows k) (colV xss k)
  | _, _, .nil, _ => .nil
  | r :: rows, xs :: xss, .cons h t, hk => by
    have hr : r[k]? = some (r[k]'(hk r (List.mem_cons_self))) := List.getElem?_eq_getElem _
    obtain ⟨u, hu, ru⟩ := h.get hr
    refine .cons ?_ (vals_col t fun r h => hk r (List.mem_cons_of_mem _ h))
    have e1 : r.getD k .non = r[k]'(hk r (List.mem_cons_self)) := by rw [List.getD_eq_getElem?_getD, hr]; rfl
    have e2 : xs.getD k .none = u := by
      have : xs[k]? = some u := by rw [← hu]; simp
      rw [Array.getD_eq_getD_getElem?, this]
      rfl
    show RelV (r.getD k .non) (xs.getD k .none)
    rw [e1, e2]
    exact ru
theorem paired_sizes {w' : Nat} : ∀ {rows : List (List V)} {xss : List (Array Value)}, Paired (fun (r : List V) (xs : Array Value) => Vals r xs.toList) rows xss → (∀ r ∈ rows, r.length = w') → ∀ xs ∈ xss, xs.size = w'
  | _, _, .nil, _ => fun xs h => by simp at h
  | r :: rows, ys :: xss, .cons h t, hk => fun xs hx => by
    rcases List.mem_cons.mp hx with rfl | hx
    · have := h.length
      rw [hk r (List.mem_cons_self)] at this
      simpa using this.symm
    · exact paired_sizes t (fun r h => hk r (List.mem_cons_of_mem _ h)) xs hx
/-- what list(zip(*rows)) makes -/
structure Zd (H H' : Hp) (S : Addr) (ts : List Addr) (rows : List (List V)) (w' : Nat) : Prop where
  lst : H' S = some (.lst (ts.map V.ref))
  n : ts.length = w'
  tup : ∀ (j : Nat) (t : Addr), ts[j]? = some t → H' t = some (.tup (colD .non rows j)) ∧ H t = none ∧ t ≠ S
  nd : ts.Nodup
  ns : H S = none
  keep : ∀ a : Addr, a ≠ S → a ∉ ts → H' a = H a
/-- ts hold cs -/
def putT (H : Hp) : List Addr → List (List V) → Hp
  | t :: ts, c :: cs => upd (putT H ts cs) t (.tup c)
  | _, _ => H
theorem putT_off : ∀ {ts : List Addr} {cs : List (List V)} {a : Addr}, a ∉ ts → putT H ts cs a = H a
  | [], _, _, _ => by unfold putT; rfl
  | _ :: _, [], _, _ => by unfold putT; rfl
  | t :: ts, c :: cs, a, h => by
    show upd (putT H ts cs) t (.tup c) a = _
    rw [upd_ne fun e => h (by rw [e]; exact List.mem_cons_self)]
    exact putT_off fun e => h (List.mem_cons_of_mem _ e)
theorem putT_at : ∀ {ts : List Addr} {cs : List (List V)} {j : Nat} {t : Addr} {c : List V}, ts.Nodup → ts[j]? = some t → cs[j]? = some c → putT H ts cs t = some (.tup c)
  | [], _, _, _, _, _, h, _ => by simp at h
  | _ :: _, [], _, _, _, _, _, h => by simp at h
  | t :: ts, c :: cs, 0, _, _, nd, h1, h2 => by
    simp at h1 h2
    subst h1 h2
    exact upd_same
  | t :: ts, c :: cs, j + 1, t', c', nd, h1, h2 => by
    show upd (putT H ts cs) t (.tup c) t' = _
    have h1' : ts[j]? = some t' := by simpa using h1
    rw [upd_ne fun e => (List.nodup_cons.mp nd).1 (by rw [← e]; exact List.mem_of_getElem? h1')]
    exact putT_at (List.nodup_cons.mp nd).2 h1' (by simpa using h2)
def tLZ (K : PySem.W.Frag) (te : TE) : TE := fun σ H Q => te σ H fun y H1 => ∃ (a : Addr) (ls : List Addr) (rows : List (List V)) (w' : Nat), y = .ref a ∧ (SqT K H1 a (ls.map V.ref) ∨ SqL K H1 a (ls.map V.ref)) ∧ rows.length = ls.length ∧
  (∀ (j : Nat) l r, ls[j]? = some l → rows[j]? = some r → SqT K H1 l r) ∧ 0 < ls.length ∧ ls.length ≤ 12 ∧ 0 < w' ∧ w' ≤ 4000 ∧ (∀ r ∈ rows, r.length = w') ∧ ∀ S ts H2, Zd H1 H2 S ts rows w' → Q (.ref S) H2
theorem pe_listZip {e : Expr} {te : TE} {p p2 sp pos pos2 : Pos} (hc : X.calm = true) (hg : Gl X "list") (hm : X.mg "list" = none) (hg2 : Gl X "zip") (hm2 : X.mg "zip" = none) (he : PE X e te)
    (hst : starEach [.Starred e sp] X.env = [(true, eval e X.env)] := by rfl)
    (na2 : starEach [.Call (.Name "zip" p) [.Starred e sp] [] pos] X.env = (false, eval (.Call (.Name "zip" p) [.Starred e sp] [] pos) X.env) :: starEach [] X.env := by rfl) :
    PE X (.Call (.Name "list" p2) [.Call (.Name "zip" p) [.Starred e sp] [] pos] [] pos2) (tLZ X.K te) := by
  refine ⟨fun pins s σ H Q I h => ?_⟩
  refine Call_ (ld_blt I hg hm boot_list (PyProof.Rows.callWith_type1 (args_cons ?_ na2) na2))
  refine wpAny_Call_Name_kw (ld_blt I hg2 hm2 (show bootBuiltins "zip" = some (.type "zip") from by kernel_rfl) ?_ (by decide) (by decide))
  rw [hst]
  refine PySem.W.ks_call (P := fun _ => True) rfl (fun _ _ => ⟨.machine, .inr (.inl rfl), PySem.W.Looks.of_pure rfl⟩) (PySem.W.ks_lone (thn (he.run pins s σ H _ I h) fun v s1 ⟨y, H1, I1, ry, a, ls, rows, w', ey, hls, hrn, hrt, l0, l12, w0, w4, hw, q⟩ => ?_))
  subst ey
  obtain rfl : v = Value.ref a := ry
  refine StX.star_any I1 hls fun us s2 I2 rv => ⟨trivial, ?_⟩
  have e1 := vals_refs rv
  subst e1
  obtain ⟨xss, hx1, hx2, hx3⟩ := rows_its rfl I2 ls rows hrn hrt
  have hsl : sizeLine = 16777216 := sizeLine_eq
  have hr : Rws s2.heap.objs.size s2.heap ls xss := ⟨hx1, fun l hl => by
    obtain ⟨j, hj⟩ := List.getElem?_of_mem hl
    have hjl := (List.getElem?_eq_some_iff.mp hj).1
    obtain ⟨o, ho, _⟩ := hx2 j l _ hj (List.getElem?_eq_getElem (by rw [hx1]; exact hjl))
    exact Heap.lt_size ho, hx2⟩
  show wpAny _ _ (call (.type "zip") (ls.map Value.ref)) _ _ s2
  refine call_zip hr l12 fun h3 m => args_nil ?_
  refine call_list (s := { s2 with heap := h3 }) (I2.ok.hd hc) m hr l0 (by rw [hx1, hsl]; omega) w0 (paired_sizes hx3 hw) (by rw [hsl]; omega) fun h4 ts g hts => ?_
  have szm := m.size
  have S0 : s2.heap.objs.size ≤ h3.objs.size := by rw [szm]; exact Nat.le_trans (Nat.le_add_right _ _) (Nat.le_add_right _ 3)
  have kp : ∀ b u, s2.heap.get? b = some u → h4.get? b = some u := fun b u e => g.keep b u (fun z => by have := Heap.lt_size e; walk_at "aom") (fun z => by have := Heap.lt_size e; subst z; exact Nat.lt_irrefl _ (Nat.lt_of_lt_of_le this S0)) (Heap.get?_push_of_some _ (m.keep b u e))
  have nd : ts.Nodup := g.nd.imp fun h => Nat.ne_of_lt h
  have tS : ∀ t ∈ ts, h3.objs.size < t := fun t ht => by
    obtain ⟨j, hj⟩ := List.getElem?_of_mem ht
    exact (g.tup j t hj).2.2
  have nS : h3.objs.size ∉ ts := fun z => Nat.lt_irrefl _ (tS _ z)
  have fr : ∀ a, s2.heap.objs.size ≤ a → H1 a = none := fun a ha => I2.hok.fresh ha
  have hcs : ∀ (j : Nat), j < w' → ((List.range w').map fun j => colD V.non rows j)[j]? = some (colD V.non rows j) := fun j hj => by rw [List.getElem?_map, List.getElem?_range hj]; rfl
  have zd : Zd H1 (upd (putT H1 ts ((List.range w').map fun j => colD V.non rows j)) h3.objs.size (.lst (ts.map V.ref))) h3.objs.size ts rows w' := by
    refine ⟨upd_same, hts, fun j t hj => ?_, nd, fr _ S0, fun a h1 h2 => by rw [upd_ne h1]; exact putT_off h2⟩
    have ht := List.mem_of_getElem? hj
    have hjw : j < w' := by rw [← hts]; exact (List.getElem?_eq_some_iff.mp hj).1
    have hne : t ≠ h3.objs.size := fun e => nS (e ▸ ht)
    exact ⟨by rw [upd_ne hne]; exact putT_at nd hj (hcs j hjw), fr _ (Nat.le_trans S0 (Nat.le_of_lt (tS t ht))), hne⟩
  generalize upd (putT H1 ts ((List.range w').map fun j => colD V.non rows j)) h3.objs.size (.lst (ts.map V.ref)) = H2 at zd
  have sm : Same H1 H2 := fun b u e => by
    have n1 : b ≠ h3.objs.size := fun z => by rw [z, fr _ S0] at e; cases e
    have n2 : b ∉ ts := fun z => by rw [fr _ (Nat.le_trans S0 (Nat.le_of_lt (tS b z)))] at e; cases e
    rw [zd.keep b n1 n2]
    exact e
  have I3 : Inv X pins σ H2 { s2 with heap := h4, toks := s2.toks } := by
    refine Inv.many I2 kp sm fun b o n e => ?_
    by_cases hb : b = h3.objs.size
    · subst hb
      rw [zd.lst] at e
      cases e
      obtain ⟨c, hc⟩ := g.lst
      refine ⟨S0, by rw [List.length_map, hts, hsl]; omega, ts.map Value.ref, c, ?_, hc⟩
      exact vals_of_at (by simp) fun j x u h1 h2 => by
        rw [List.getElem?_map] at h1 h2
        cases hj : ts[j]? with
        | none => rw [hj] at h1; cases h1
        | some t =>
          rw [hj] at h1 h2
          cases h1
          cases h2
          rfl
    · by_cases ht : b ∈ ts
      · obtain ⟨j, hj⟩ := List.getElem?_of_mem ht
        rw [(zd.tup j b hj).1] at e
        cases e
        have hjw : j < w' := by rw [← hts]; exact (List.getElem?_eq_some_iff.mp hj).1
        refine ⟨Nat.le_trans S0 (Nat.le_of_lt (tS b ht)), ?_, colV xss j, vals_col hx3 fun r hr => by rw [hw r hr]; exact hjw, _, (g.tup j b hj).1, rfl, _, rfl⟩
        unfold colD
        rw [List.length_map, hrn, hsl]
        omega
      · rw [zd.keep b hb ht, n] at e
        cases e
  exact ⟨.ref h3.objs.size, H2, I3, rfl, q _ _ _ zd⟩
end
end ZS
namespace DL
open PySem PySem.Spec PyProof.Rows L2 LR ZS
section
variable {X : Cx} {W : WX} {a b c e tg : Expr} {es : List Expr} {ta tb tc : DT} {t : DTA} {pos p : Pos} {K : PySem.W.Frag}
theorem ext_putT {G H : Hp} : ∀ {ts : List Addr} {cs : List (List V)}, Same G H → ts.Nodup → (∀ t ∈ ts, H t = none) → Ext G H (putT G ts cs) (putT H ts cs)
  | [], cs, s, _, _ => by unfold putT; exact .refl s
  | _ :: _, [], s, _, _ => by unfold putT; exact .refl s
  | t :: ts, c :: cs, s, nd, n => by
    have x := ext_putT (cs := cs) s (List.nodup_cons.mp nd).2 fun u h => n u (List.mem_cons_of_mem _ h)
    refine x.trans (Ext.nw x.sub ?_)
    rw [putT_off (List.nodup_cons.mp nd).1]
    exact n t (List.mem_cons_self)
theorem Zd.eq {H1 H2 : Hp} {S : Addr} {ts : List Addr} {rows : List (List V)} {w' : Nat} (z : Zd H1 H2 S ts rows w') : H2 = upd (putT H1 ts ((List.range w').map fun j => colD V.non rows j)) S (.lst (ts.map V.ref)) := by
  funext a
  by_cases ha : a = S
  · subst ha
    rw [z.lst, upd_same]
  · rw [upd_ne ha]
    by_cases ht : a ∈ ts
    · obtain ⟨j, hj⟩ := List.getElem?_of_mem ht
      have hjw : j < w' := by rw [← z.n]; exact (List.getElem?_eq_some_iff.mp hj).1
      rw [(z.tup j a hj).1, putT_at z.nd hj (by rw [List.getElem?_map, List.getElem?_range hjw]; rfl)]
    · rw [z.keep a ha ht, putT_off ht]
theorem reps_tups {G : Hp} : ∀ {vs : List V} {f : List (List D)}, Reps K G vs (f.map D.tup) → ∃ (ls : List Addr) (rows : List (List V)), vs = ls.map V.ref ∧ rows.length = ls.length ∧ (∀ (j : Nat) l r, ls[j]? = some l → rows[j]? = some r → SqT K G l r) ∧ Paired (fun r m => Reps K G r m) rows f := by
  intro vs
  induction vs with
  | nil =>
    intro f h
    cases f with
    | nil => exact ⟨[], [], rfl, rfl, fun j l r h => by simp at h, .nil⟩
    | cons m f => have := h.1; simp at this
  | cons v vs ih =>
    intro f h
    cases f with
    | nil => have := h.1; simp at this
    | cons m f =>
      obtain ⟨ls, rows, e1, e2, e3, e4⟩ := ih (f := f) ⟨by have := h.1; simp at this ⊢; exact this, fun i v d h1 h2 => h.2 (i + 1) v d (by simpa using h1) (by simpa using h2)⟩
      obtain ⟨p, ws, rfl, h1, h2⟩ := (h.2 0 v (.tup m) rfl rfl).tup_inv
      refine ⟨p :: ls, ws :: rows, by rw [e1]; rfl, by simp [e2], fun j l r a1 a2 => ?_, .cons h2 e4⟩
      cases j with
      | zero =>
        simp at a1 a2
        subst a1 a2
        exact h1
      | succ j => exact e3 j l r (by simpa using a1) (by simpa using a2)
theorem paired_lens {G : Hp} {w' : Nat} : ∀ {rows : List (List V)} {f : List (List D)}, Paired (fun r m => Reps K G r m) rows f → (∀ m ∈ f, m.length = w') → ∀ r ∈ rows, r.length = w'
  | _, _, .nil, _ => fun r h => by simp at h
  | r :: rows, m :: f, .cons h t, hf => fun r' h' => by
    rcases List.mem_cons.mp h' with rfl | h'
    · rw [h.1]; exact hf m (List.mem_cons_self)
    · exact paired_lens t (fun m h => hf m (List.mem_cons_of_mem _ h)) r' h'
theorem paired_col {G : Hp} {k : Nat} : ∀ {rows : List (List V)} {f : List (List D)}, Paired (fun r m => Reps K G r m) rows f → (∀ m ∈ f, k < m.length) → Reps K G (colD .non rows k) (colD .non f k)
  | _, _, .nil, _ => .nil
  | r :: rows, m :: f, .cons h t, hf => by
    have hm := hf m (List.mem_cons_self)
    have hr : r[k]? = some (r[k]'(by rw [h.1]; exact hm)) := List.getElem?_eq_getElem _
    have hd : m[k]? = some (m[k]'hm) := List.getElem?_eq_getElem _
    refine Reps.cons ?_ (paired_col t fun m h => hf m (List.mem_cons_of_mem _ h))
    have e1 : r.getD k .non = r[k]'(by rw [h.1]; exact hm) := by rw [List.getD_eq_getElem?_getD, hr]; rfl
    have e2 : m.getD k .non = m[k]'hm := by rw [List.getD_eq_getElem?_getD, hd]; rfl
    show Rep K G (r.getD k .non) (m.getD k .non)
    rw [e1, e2]
    exact h.2 k _ _ hr hd
def dLZ (ta : DT) : DTN := fun env Q ex => ta env (fun d => ∃ (f : List (List D)) (w' : Nat), (d = .tup (f.map D.tup) ∨ d = .lst (f.map D.tup)) ∧ 0 < f.length ∧ f.length ≤ 12 ∧ 0 < w' ∧ w' ≤ 4000 ∧ (∀ m ∈ f, m.length = w') ∧ Q ((List.range w').map fun k => .tup (colD .non f k))) ex
theorem pdn_lz {p2 sp pos2 : Pos} (hc : X.calm = true) (hg : Gl X "list") (hm : X.mg "list" = none) (hg2 : Gl X "zip") (hm2 : X.mg "zip" = none) (ha : PD X W a ta)
    (hst : starEach [.Starred a sp] X.env = [(true, eval a X.env)] := by rfl)
    (na2 : starEach [.Call (.Name "zip" p) [.Starred a sp] [] pos] X.env = (false, eval (.Call (.Name "zip" p) [.Starred a sp] [] pos) X.env) :: starEach [] X.env := by rfl) :
    PDN X W (.Call (.Name "list" p2) [.Call (.Name "zip" p) [.Starred a sp] [] pos] [] pos2) (dLZ ta) := by
  obtain ⟨_, pa, la⟩ := ha.of
  refine ⟨_, pe_listZip hc hg hm hg2 hm2 pa hst na2, fun H0 G0 G H σ env Q ex R S L q g => la H0 G0 G H σ env _ ex _ S L q fun v H1 G1 d x1 r1 ⟨f, w', ed, f0, f12, w0, w4, hw, q1⟩ => ?_⟩
  have key : ∃ p vs, v = .ref p ∧ (SqT X.K G1 p vs ∨ SqL X.K G1 p vs) ∧ Reps X.K G1 vs (f.map D.tup) := by
    rcases ed with rfl | rfl
    · obtain ⟨p, vs, e, h1, h2⟩ := r1.tup_inv
      exact ⟨p, vs, e, .inl h1, h2⟩
    · obtain ⟨p, vs, e, h1, h2⟩ := r1.lst_inv
      exact ⟨p, vs, e, .inr h1, h2⟩
  obtain ⟨p, vs, rfl, h1, h2⟩ := key
  obtain ⟨ls, rows, rfl, e2, e3, e4⟩ := reps_tups h2
  have hl : ls.length = f.length := by
    have := h2.1
    simpa using this
  refine ⟨p, ls, rows, w', rfl, h1.imp (fun h => sqT_same x1.sub h) (fun h => x1.sub.seq h), e2, fun j l r a1 a2 => sqT_same x1.sub (e3 j l r a1 a2), by omega, by omega, w0, w4, paired_lens e4 hw, fun S2 ts H2 z => ?_⟩
  have ez := Zd.eq z
  have hfr : ∀ t ∈ ts, H1 t = none := fun t ht => by
    obtain ⟨j, hj⟩ := List.getElem?_of_mem ht
    exact (z.tup j t hj).2.1
  have x2 := ext_putT (cs := (List.range w').map fun j => colD V.non rows j) x1.sub z.nd hfr
  have nS : S2 ∉ ts := fun h => by
    obtain ⟨j, hj⟩ := List.getElem?_of_mem h
    exact (z.tup j _ hj).2.2 rfl
  refine g S2 (ts.map V.ref) H2 _ _ _ (x1.trans x2) (by rw [putT_off nS]; exact z.ns) ez ⟨by simp [z.n], fun i v d a1 a2 => ?_⟩ q1
  rw [List.getElem?_map] at a1 a2
  have hi : i < w' := by
    cases e : (List.range w')[i]? with
    | none => rw [e] at a2; cases a2
    | some k =>
      have := (List.getElem?_eq_some_iff.mp e).1
      simpa using this
  rw [List.getElem?_range hi] at a2
  cases a2
  cases et : ts[i]? with
  | none => rw [et] at a1; cases a1
  | some t =>
    rw [et] at a1
    cases a1
    have rc := paired_col (k := i) e4 fun m hm => by rw [hw m hm]; exact hi
    have rc2 := rc.same x2.gg
    exact .tup (.inl (.inl (putT_at z.nd et (by rw [List.getElem?_map, List.getElem?_range hi]; rfl)))) rc2.1 rc2.2
end
end DL

namespace DL
open PySem PySem.Spec PyProof.Rows L2 LR
section
variable {X : Cx} {W : WX} {a b c e tg o : Expr} {es : List Expr} {ta tb tc : DT} {t : DTA} {pos p apos : Pos} {K : PySem.W.Frag} {k n : Nat} {f : Addr} {Pm : Prm} {x m : Str}
/-! C.m(), a static method without arguments -/
theorem pe_sm0 {pl : Sem Bool} {fd : FuncData} {ps : List Str} {sp : Sp} {E : L2.St → XK} {CX : CXT} (hg : Gl X x) (hm : X.mg x = some (.ref (He.ga X.K x))) (r : SmOk X.K x m) (F : FnOk X.prog X.w X.K X.mg X.base CX k (smF X.K x m) fd ps sp) (hr : Room k X.A) (hb : Binds X.K fd ps []) (hx : ∀ σ, PassesAt CX X σ (E σ))
    (hdb : (x == ("__debug__" : Str)) = false := by decide)
    (ht : eval (.Call (.Attribute (.Name x p) m apos) [] [] pos) X.env = (do
      let ov ← eval (.Name x p) X.env
      standAt apos.atName
      let (f, first) ← holding [ov] (getMethod ov m pl)
      callWith pos f first (backTo pos (starEach [] X.env)) (backToKw pos (keywordEach [] X.env))) := by rfl) :
    PE X (.Call (.Attribute (.Name x p) m apos) [] [] pos) (fun σ H Q => sp [] H Q (E σ)) := by
  refine ⟨fun pins s σ H Q I h => ?_⟩
  refine PySem.W.methodCall_KW (pl := pl) (ld_glob I hg hm ?_ hdb) ht
  refine getmethsm_ok I r fun s1 I1 => ?_
  exact PySem.W.callWith_K0 (first := []) I1.kIn r.kp (run_fnS (us := []) (vs := []) F hr hb (hx σ) I1 .nil h)
theorem pd_sm0 {pl : Sem Bool} (hg : Gl X x) (hm : X.mg x = some (.ref (He.ga X.K x))) (r : SmOk X.K x m) (F : Fn X.prog X.w X.K X.mg X.base (smF X.K x m) k n Pm) (hr : Room k X.A) (tk : Takes X W)
    (hdb : (x == ("__debug__" : Str)) = false := by decide)
    (ht : eval (.Call (.Attribute (.Name x p) m apos) [] [] pos) X.env = (do
      let ov ← eval (.Name x p) X.env
      standAt apos.atName
      let (f, first) ← holding [ov] (getMethod ov m pl)
      callWith pos f first (backTo pos (starEach [] X.env)) (backToKw pos (keywordEach [] X.env))) := by rfl) :
    PD X W (.Call (.Attribute (.Name x p) m apos) [] [] pos) (dCall Pm dNil) := by
  refine ⟨_, pe_sm0 hg hm r F.ok hr F.bd (fun σ => passAt tk σ) hdb ht, fun H0 G0 G H σ env Q ex R S L q g => ?_⟩
  exact sp_call S L F.len .nil q g
end
end DL

/-! data of one's own: lists in lists that the def may change -/
namespace DL
open PySem PySem.Spec PyProof.Rows L2 LR
theorem Ow.noL_nil {K : PySem.W.Frag} {G H : Hp} {v : V} {d : D} {F : List Addr} (h : Ow K G H v d F) (n : noL d = true) : F = [] ∧ Rep K G v d := by
  cases h with
  | leaf h r => exact ⟨rfl, r⟩
  | lst h _ _ _ => cases n
  | tup h t _ _ _ => rw [t] at n; cases n
/-- own data that came: its lists are new, or lie in the slots ms -/
structure Own1 (K : PySem.W.Frag) (H G' H' : Hp) (env : DE) (fp : Nat → List Addr) (ms : List Nat) (v : V) (d : D) (F : List Addr) : Prop where
  ow : Ow K G' H' v d F
  nd : F.Nodup
  nk : ∀ a ∈ F, G' a = none
  fr : ∀ a ∈ F, H a = none ∨ ∃ m ∈ ms, (∃ s, env[m]? = some s) ∧ a ∈ fp m
structure Owns (K : PySem.W.Frag) (H G' H' : Hp) (env : DE) (fp : Nat → List Addr) (ms : List Nat) (vs : List V) (ds : List D) (Fs : List (List Addr)) : Prop where
  n : vs.length = ds.length
  m : Fs.length = ds.length
  ow : ∀ (i : Nat) v d F, vs[i]? = some v → ds[i]? = some d → Fs[i]? = some F → Ow K G' H' v d F
  nd : Fs.flatten.Nodup
  nk : ∀ a ∈ Fs.flatten, G' a = none
  fr : ∀ a ∈ Fs.flatten, H a = none ∨ ∃ m ∈ ms, (∃ s, env[m]? = some s) ∧ a ∈ fp m
def LW (X : Cx) (W : WX) (te : TE) (ms : List Nat) (t : DT) : Prop := ∀ (H0 G0 G H : Hp) (σ : L2.St) (env : DE) (fp : Nat → List Addr) (Q : D → Prop) (ex : EX) (R : VK), SF X.K H0 G0 G H σ env fp → LkE X.K H0 G0 G W σ env ex → t env Q ex →
  (∀ v H' G' d F, Ext G H G' H' → Own1 X.K H G' H' env fp ms v d F → Q d → R v H') → te σ H R
def LWA (X : Cx) (W : WX) (ta : TA) (ms : List Nat) (t : DTA) : Prop := ∀ (H0 G0 G H : Hp) (σ : L2.St) (env : DE) (fp : Nat → List Addr) (Q : List D → Prop) (ex : EX) (R : List V → Hp → Prop), SF X.K H0 G0 G H σ env fp → LkE X.K H0 G0 G W σ env ex → t env Q ex →
  (∀ vs H' G' ds Fs, Ext G H G' H' → Owns X.K H G' H' env fp ms vs ds Fs → Q ds → R vs H') → ta σ H R
structure PF (X : Cx) (W : WX) (e : Expr) (ms : List Nat) (t : DT) : Prop where
  of : ∃ te, PE X e te ∧ LW X W te ms t
structure PFA (X : Cx) (W : WX) (es : List Expr) (ms : List Nat) (t : DTA) : Prop where
  of : ∃ ta, PA X es ta ∧ LWA X W ta ms t
section
variable {K : PySem.W.Frag} {H0 G0 G H G' H' : Hp} {σ : L2.St} {env : DE} {fp : Nat → List Addr} {ms ms2 : List Nat} {v : V} {d : D} {F : List Addr} {vs : List V} {ds : List D} {Fs : List (List Addr)}
theorem Own1.has (o : Own1 K H G' H' env fp ms v d F) : ∀ a ∈ F, ∃ u, H' a = some u := fun a ha => by
  obtain ⟨vs, h | h⟩ := o.ow.foot a ha <;> exact ⟨_, h⟩
theorem Own1.h0 (o : Own1 K H G' H' env fp ms v d F) (S : SF K H0 G0 G H σ env fp) : ∀ a ∈ F, H0 a = none := fun a ha => by
  rcases o.fr a ha with h | ⟨m, hm, ⟨s, hs⟩, h⟩
  · exact S.same.free h
  · exact ((S.slot m s hs).foot a h).2.2.2
/-- apart from the slots that are not moved -/
theorem Own1.off (o : Own1 K H G' H' env fp ms v d F) (S : SF K H0 G0 G H σ env fp) {j : Nat} {t : Sl} (hj : j ∉ ms) (e : env[j]? = some t) : ∀ a ∈ F, a ∉ fp j := fun a ha z => by
  rcases o.fr a ha with h | ⟨m, hm, ⟨s, hs⟩, h⟩
  · obtain ⟨⟨u, hu⟩, _⟩ := (S.slot j t e).foot a z
    rw [h] at hu
    cases hu
  · exact S.apart m j s t a (fun q => hj (q ▸ hm)) hs e h z
theorem Own1.up {G2 H2 : Hp} (o : Own1 K H G' H' env fp ms v d F) (x : Ext G' H' G2 H2) : Own1 K H G2 H2 env fp ms v d F := by
  have k : ∀ a ∈ F, H2 a = H' a ∧ G2 a = none := fun a ha => by
    obtain ⟨u, hu⟩ := o.has a ha
    refine ⟨(x.hh _ _ hu).trans hu.symm, ?_⟩
    cases z : G2 a with
    | none => rfl
    | some w =>
      have := x.new a (by rw [z]; simp) (o.nk a ha)
      rw [hu] at this
      cases this
  exact ⟨o.ow.go (fun a ha => (k a ha).1) x.gg, o.nd, fun a ha => (k a ha).2, o.fr⟩
theorem Owns.nil : Owns K H G' H' env fp [] [] [] [] := ⟨rfl, rfl, fun i v d F h => by simp at h, List.Pairwise.nil, fun a ha => by simp at ha, fun a ha => by simp at ha⟩
/-- one more in front; it came first -/
theorem Own1.cons {G1 H1 : Hp} (S : SF K H0 G0 G H σ env fp) (o : Own1 K H G1 H1 env fp ms v d F) (x1 : Ext G H G1 H1) (x2 : Ext G1 H1 G' H') (r : Owns K H1 G' H' env fp ms2 vs ds Fs) (hd : ∀ m ∈ ms, m ∉ ms2) : Owns K H G' H' env fp (ms ++ ms2) (v :: vs) (d :: ds) (F :: Fs) := by
  have o2 := o.up x2
  refine ⟨by simp [r.n], by simp [r.m], fun i w e E h1 h2 h3 => ?_, ?_, fun a ha => ?_, fun a ha => ?_⟩
  · cases i with
    | zero =>
      simp at h1 h2 h3
      subst h1 h2 h3
      exact o2.ow
    | succ i => exact r.ow i w e E (by simpa using h1) (by simpa using h2) (by simpa using h3)
  · rw [List.flatten_cons, List.nodup_append]
    refine ⟨o.nd, r.nd, fun a ha b hb e => ?_⟩
    subst e
    obtain ⟨u, hu⟩ := o.has a ha
    rcases r.fr a hb with h | ⟨m, hm, ⟨s, hs⟩, h⟩
    · rw [hu] at h
      cases h
    · exact o.off S (fun z => hd m z hm) hs a ha h
  · rw [List.flatten_cons, List.mem_append] at ha
    rcases ha with ha | ha
    · exact o2.nk a ha
    · exact r.nk a ha
  · rw [List.flatten_cons, List.mem_append] at ha
    rcases ha with ha | ha
    · rcases o.fr a ha with h | ⟨m, hm, h⟩
      · exact .inl h
      · exact .inr ⟨m, List.mem_append_left _ hm, h⟩
    · rcases r.fr a ha with h | ⟨m, hm, h⟩
      · exact .inl (x1.hh.free h)
      · exact .inr ⟨m, List.mem_append_right _ hm, h⟩
/-- a new list of them -/
theorem Owns.lst {p : Addr} (r : Owns K H G' H' env fp ms vs ds Fs) (x : Ext G H G' H') (n : H' p = none) : Ext G H G' (upd H' p (.lst vs)) ∧ Own1 K H G' (upd H' p (.lst vs)) env fp ms (.ref p) (.lst ds) (p :: Fs.flatten) := by
  have hp : p ∉ Fs.flatten := fun z => by
    obtain ⟨F, hF, ha⟩ := List.mem_flatten.mp z
    obtain ⟨i, hi⟩ := List.getElem?_of_mem hF
    have hl := (List.getElem?_eq_some_iff.mp hi).1
    have := r.n
    have := r.m
    obtain ⟨ws, h | h⟩ := (r.ow i _ _ F (List.getElem?_eq_getElem (by omega)) (List.getElem?_eq_getElem (by omega)) hi).foot p ha <;> (rw [n] at h; cases h)
  refine ⟨x.trans (Ext.hid x.sub n), .lst upd_same r.n r.m fun i v d F h1 h2 h3 => (r.ow i v d F h1 h2 h3).go (fun a ha => upd_ne fun e => hp (by rw [← e]; exact List.mem_flatten.mpr ⟨F, List.mem_of_getElem? h3, ha⟩)) (.refl _), List.nodup_cons.mpr ⟨hp, r.nd⟩, fun a ha => ?_, fun a ha => ?_⟩
  · rcases List.mem_cons.mp ha with rfl | ha
    · exact x.sub.free n
    · exact r.nk a ha
  · rcases List.mem_cons.mp ha with rfl | ha
    · exact .inl (x.hh.free n)
    · exact r.fr a ha
theorem Owns.tup {p : Addr} (r : Owns K H G' H' env fp ms vs ds Fs) (t : noL (.tup ds) = false) (x : Ext G H G' H') (n : H' p = none) : Ext G H G' (upd H' p (.tup vs)) ∧ Own1 K H G' (upd H' p (.tup vs)) env fp ms (.ref p) (.tup ds) (p :: Fs.flatten) := by
  have hp : p ∉ Fs.flatten := fun z => by
    obtain ⟨F, hF, ha⟩ := List.mem_flatten.mp z
    obtain ⟨i, hi⟩ := List.getElem?_of_mem hF
    have hl := (List.getElem?_eq_some_iff.mp hi).1
    have := r.n
    have := r.m
    obtain ⟨ws, h | h⟩ := (r.ow i _ _ F (List.getElem?_eq_getElem (by omega)) (List.getElem?_eq_getElem (by omega)) hi).foot p ha <;> (rw [n] at h; cases h)
  refine ⟨x.trans (Ext.hid x.sub n), .tup upd_same t r.n r.m fun i v d F h1 h2 h3 => (r.ow i v d F h1 h2 h3).go (fun a ha => upd_ne fun e => hp (by rw [← e]; exact List.mem_flatten.mpr ⟨F, List.mem_of_getElem? h3, ha⟩)) (.refl _), List.nodup_cons.mpr ⟨hp, r.nd⟩, fun a ha => ?_, fun a ha => ?_⟩
  · rcases List.mem_cons.mp ha with rfl | ha
    · exact x.sub.free n
    · exact r.nk a ha
  · rcases List.mem_cons.mp ha with rfl | ha
    · exact .inl (x.hh.free n)
    · exact r.fr a ha
theorem noLs_at {l : List D} : ∀ {i : Nat} {d : D}, noL.noLs l = true → l[i]? = some d → noL d = true := by
  induction l with
  | nil => intro i d _ h; simp at h
  | cons x l ih =>
    intro i d h e
    rw [noL.noLs, Bool.and_eq_true] at h
    cases i with
    | zero => simp at e; rw [← e]; exact h.1
    | succ i => exact ih h.2 (by simpa using e)
theorem noLs_ints (ns : List Int) : noL.noLs (ns.map D.int) = true := by
  induction ns with
  | nil => rfl
  | cons n ns ih => exact ih
/-- leaves alone -/
theorem Owns.leaves (x : Ext G H G' H') (h : noL.noLs ds = true) (r : Reps K G' vs ds) : Owns K H G' H' env fp [] vs ds (List.replicate ds.length []) := by
  have e : (List.replicate ds.length ([] : List Addr)).flatten = [] := by simp
  refine ⟨r.1, by simp, fun i v d F h1 h2 h3 => ?_, by rw [e]; exact List.Pairwise.nil, fun a ha => by rw [e] at ha; simp at ha, fun a ha => by rw [e] at ha; simp at ha⟩
  rw [(List.mem_replicate.mp (List.mem_of_getElem? h3)).2]
  exact .leaf (noLs_at h h2) (r.2 i v d h1 h2)
end
section
variable {X : Cx} {W : WX} {a b c e tg o : Expr} {es : List Expr} {ta tb tc : DT} {t t2 : DTA} {pos p apos : Pos} {ms ms2 : List Nat} {tn : DTN}
/-! ## expressions that give data of one's own -/
def dLeaf (ta : DT) : DT := fun env Q ex => ta env (fun d => noL d = true ∧ Q d) ex
theorem pf_leaf (h : PD X W e ta) : PF X W e [] (dLeaf ta) := by
  obtain ⟨_, pa, la⟩ := h.of
  refine ⟨_, pa, fun H0 G0 G H σ env fp Q ex R S L q g => la H0 G0 G H σ env _ ex _ ⟨fp, S⟩ L q fun v H1 G1 d x r ⟨n, q1⟩ => ?_⟩
  exact g v H1 G1 d [] x ⟨.leaf n r, List.Pairwise.nil, fun a ha => by simp at ha, fun a ha => by simp at ha⟩ q1
def dFlat (tn : DTN) : DT := fun env Q ex => tn env (fun l => noL.noLs l = true ∧ Q (.lst l)) ex
theorem pf_new (h : PDN X W e tn) : PF X W e [] (dFlat tn) := by
  obtain ⟨_, pa, la⟩ := h.of
  refine ⟨_, pa, fun H0 G0 G H σ env fp Q ex R S L q g => la H0 G0 G H σ env _ ex _ ⟨fp, S⟩ L q fun p vs H' H1 G1 l x n e r ⟨z, q1⟩ => ?_⟩
  subst e
  obtain ⟨x2, o⟩ := (Owns.leaves (env := env) (fp := fp) x z r).lst x n
  exact g _ _ _ _ _ x2 o q1
def dMove (i : Nat) : DT := fun env Q _ => ∃ d, env[i]? = some (.ow d) ∧ Q d
theorem pf_move {i : Nat} (h : PE X e (tVar i)) : PF X W e [i] (dMove i) := ⟨_, h, fun H0 G0 G H σ env fp Q ex R S L ⟨d, hd, q⟩ g => by
  obtain ⟨w, hw, o, nd, k⟩ := S.slot i _ hd
  exact ⟨w, hw, g w H G d (fp i) (.refl S.sub) ⟨o, nd, fun a ha => (k a ha).1, fun a ha => .inr ⟨i, List.mem_singleton_self i, ⟨_, hd⟩, ha⟩⟩ q⟩⟩
def dMoveL (i : Nat) : DT := fun env Q _ => ∃ l, env[i]? = some (.own l) ∧ noL.noLs l = true ∧ Q (.lst l)
theorem pf_moveL {i : Nat} (h : PE X e (tVar i)) : PF X W e [i] (dMoveL i) := ⟨_, h, fun H0 G0 G H σ env fp Q ex R S L ⟨l, hl, z, q⟩ g => by
  obtain ⟨p, vs, ef, hw, hp, gp, op, r⟩ := S.slot i _ hl
  refine ⟨_, hw, g _ H G _ (fp i) (.refl S.sub) ⟨?_, by rw [ef]; simp, fun a ha => ?_, fun a ha => .inr ⟨i, List.mem_singleton_self i, ⟨_, hl⟩, ha⟩⟩ q⟩
  · have e1 : fp i = p :: (List.replicate l.length ([] : List Addr)).flatten := by rw [ef]; simp
    rw [e1]
    refine .lst hp r.1 (by simp) fun j v d F h1 h2 h3 => ?_
    rw [(List.mem_replicate.mp (List.mem_of_getElem? h3)).2]
    exact .leaf (noLs_at z h2) (r.2 j v d h1 h2)
  · rw [ef] at ha
    rw [List.mem_singleton.mp ha]
    exact gp⟩
theorem pfa_nil : PFA X W [] [] dNil := ⟨_, pa_nil, fun H0 G0 G H σ env fp Q ex R S L q g => g [] H G [] [] (.refl S.sub) Owns.nil q⟩
theorem pfa_cons (ha : PF X W e ms ta) (hr : PFA X W es ms2 t) (hd : ∀ m ∈ ms, m ∉ ms2 := by decide) (hs : starEach (e :: es) X.env = (false, eval e X.env) :: starEach es X.env := by rfl) : PFA X W (e :: es) (ms ++ ms2) (dCons ta t) := by
  obtain ⟨_, pa, la⟩ := ha.of
  obtain ⟨_, pr, lr⟩ := hr.of
  refine ⟨_, pa_cons pa pr hs, fun H0 G0 G H σ env fp Q ex R S L q g => la H0 G0 G H σ env fp _ ex _ S L q fun v H1 G1 d F x1 o q1 => ?_⟩
  exact lr H0 G0 G1 H1 σ env fp _ ex _ (S.ex x1) (L.mono x1.gg) q1 fun vs H2 G2 ds Fs x2 r q2 => g _ H2 G2 (d :: ds) (F :: Fs) (x1.trans x2) (o.cons S x1 x2 r hd) q2
def dTupF (t : DTA) : DT := fun env Q ex => t env (fun xs => xs.length ≤ sizeLine ∧ noL (.tup xs) = false ∧ Q (.tup xs)) ex
theorem pf_tup {x1} (h : PFA X W es ms t) : PF X W (.Tuple es x1 pos) ms (dTupF t) := by
  obtain ⟨_, pa, la⟩ := h.of
  refine ⟨_, pe_tup pa, fun H0 G0 G H σ env fp Q ex R S L q g => la H0 G0 G H σ env fp _ ex _ S L q fun vs H1 G1 ds Fs x1 r ⟨z, nl, q1⟩ => ⟨by rw [r.n]; exact z, fun p n => ?_⟩⟩
  obtain ⟨x2, o⟩ := r.tup nl x1 n
  exact g _ _ _ _ _ x2 o q1
def dLstF (t : DTA) : DT := fun env Q ex => t env (fun xs => xs.length ≤ sizeLine ∧ Q (.lst xs)) ex
theorem pf_lst (h : PFA X W es ms t) : PF X W (.List es pos) ms (dLstF t) := by
  obtain ⟨_, pa, la⟩ := h.of
  refine ⟨_, pe_lst pa, fun H0 G0 G H σ env fp Q ex R S L q g => la H0 G0 G H σ env fp _ ex _ S L q fun vs H1 G1 ds Fs x1 r ⟨z, q1⟩ => ⟨by rw [r.n]; exact z, fun p n => ?_⟩⟩
  obtain ⟨x2, o⟩ := r.lst x1 n
  exact g _ _ _ _ _ x2 o q1
/-! ## defs whose results are nobody else's -/
def spF (K : PySem.W.Frag) (n : Nat) (P : Prm) : Sp := fun vs H Q E => vs.length = n ∧ ∃ (G : Hp) (ds : List D) (QD : D → Prop) (ED : EX), Same G H ∧ Reps K G vs ds ∧ P ds QD ED ∧
  (∀ v H' G' d F, Ext G H G' H' → Own1 K H G' H' [] (fun _ => []) [] v d F → QD d → Q v H') ∧ Out K G H ED E
structure FnF (P : Program) (w : World) (K : PySem.W.Frag) (mg : Str → Option Value) (base : Heap) (f : Addr) (k : Nat) (n : Nat) (Pm : Prm) where
  fd : FuncData
  ps : List Str
  ok : FnOk P w K mg base (L2.CX P w) k f fd ps (spF K n Pm)
  bd : Binds K fd ps []
  len : ∀ ds Q ex, Pm ds Q ex → ds.length = n
theorem Own1.any {K : PySem.W.Frag} {H G' H' : Hp} {env env2 : DE} {fp fp2 : Nat → List Addr} {ms2 : List Nat} {v : V} {d : D} {F : List Addr} (o : Own1 K H G' H' env fp [] v d F) : Own1 K H G' H' env2 fp2 ms2 v d F :=
  ⟨o.ow, o.nd, o.nk, fun a ha => by
    rcases o.fr a ha with h | ⟨m, hm, _⟩
    · exact .inl h
    · simp at hm⟩
theorem Own1.frz {K : PySem.W.Frag} {G H G' H' : Hp} {env : DE} {fp : Nat → List Addr} {v : V} {d : D} {F : List Addr} (o : Own1 K H G' H' env fp [] v d F) (x : Ext G H G' H') : Ext G H (joinH G' H' F) H' ∧ Rep K (joinH G' H' F) v d := by
  refine ⟨⟨x.hh, x.gg.trans (joinH_same o.nk), fun b u e => ?_, fun b h1 h2 => ?_⟩, o.ow.rep (joinH_same o.nk) fun a ha => joinH_in ha⟩
  · by_cases hb : b ∈ F
    · rw [joinH_in hb] at e; exact e
    · rw [joinH_out hb] at e; exact x.sub b u e
  · by_cases hb : b ∈ F
    · rcases o.fr b hb with h | ⟨m, hm, _⟩
      · exact h
      · simp at hm
    · rw [joinH_out hb] at h1; exact x.new b h1 h2
theorem spD_spF {K : PySem.W.Frag} {n : Nat} {P : Prm} {vs : List V} {H : Hp} {Q : VK} {E : XK} (h : spD K n P vs H Q E) : spF K n P vs H Q E := by
  obtain ⟨hn, G, ds, QD, ED, s, r, pm, got, out⟩ := h
  refine ⟨hn, G, ds, QD, ED, s, r, pm, fun v H' G' d F x o q => ?_, out⟩
  obtain ⟨x2, r2⟩ := o.frz x
  exact got v H' _ d x2 r2 q
variable {k n : Nat} {f : Addr} {Pm : Prm} {x m : Str}
/-- as a def whose result is a value -/
def FnF.fn {P : Program} {w : World} {K : PySem.W.Frag} {mg : Str → Option Value} {base : Heap} {f : Addr} {k n : Nat} {Pm : Prm} (F : FnF P w K mg base f k n Pm) : Fn P w K mg base f k n Pm :=
  ⟨F.fd, F.ps, F.ok.imp fun vs H Q E h => spD_spF h, F.bd, F.len⟩
end
end DL

namespace DL
open PySem PySem.Spec PyProof.Rows L2 LR
section
variable {K : PySem.W.Frag} {H0 G0 G H G' H' : Hp} {σ : L2.St} {env : DE} {fp : Nat → List Addr} {ms ms2 : List Nat} {v : V} {d : D} {F : List Addr} {vs : List V} {ds : List D} {Fs : List (List Addr)}
/-- slots that are moved: dead -/
def killD : DE → List Nat → DE
  | env, [] => env
  | env, m :: ms => killD (env.set m .no) ms
theorem kill_go : ∀ (ms : List Nat) (env : DE) (fp : Nat → List Addr), SF K H0 G0 G H σ env fp → ∃ fp2, SF K H0 G0 G H σ (killD env ms) fp2 ∧ ∀ (j : Nat) t a, (killD env ms)[j]? = some t → a ∈ fp2 j → j ∉ ms ∧ env[j]? = some t ∧ a ∈ fp j
  | [], env, fp, S => ⟨fp, S, fun j t a h ha => ⟨by simp, h, ha⟩⟩
  | m :: ms, env, fp, S => by
    obtain ⟨fp2, S2, k⟩ := kill_go ms _ _ (S.drop m)
    refine ⟨fp2, S2, fun j t a h ha => ?_⟩
    obtain ⟨h1, h2, h3⟩ := k j t a h ha
    by_cases e : j = m
    · subst e
      rw [fpSet_at] at h3
      simp at h3
    · rw [fpSet_off e] at h3
      rw [set_off e] at h2
      exact ⟨by simp [e, h1], h2, h3⟩
theorem SF.kill (S : SF K H0 G0 G H σ env fp) (ms : List Nat) : ∃ fp2, SF K H0 G0 G H σ (killD env ms) fp2 ∧ ∀ (j : Nat) t a, (killD env ms)[j]? = some t → a ∈ fp2 j → j ∉ ms ∧ env[j]? = some t ∧ a ∈ fp j := kill_go ms env fp S
/-- a slot gets data of one's own -/
theorem SF.setW (S : SF K H0 G0 G H σ env fp) (x : Ext G H G' H') (o : Own1 K H G' H' env fp ms v d F) (i : Nat) : SR K H0 G0 G' H' (σ.set i (some v)) ((killD env ms).set i (.ow d)) := by
  obtain ⟨fp2, S2, k⟩ := (S.ex x).kill ms
  refine ⟨_, S2.put i (some v) (.ow d) F ⟨v, rfl, o.ow, o.nd, fun a ha => ⟨o.nk a ha, o.h0 S a ha⟩⟩ fun j t a hj e ha z => ?_⟩
  obtain ⟨h1, h2, h3⟩ := k j t a e z
  exact o.off S h1 h2 a ha h3
theorem SF.killed (S : SF K H0 G0 G H σ env fp) (ms : List Nat) : SR K H0 G0 G H σ (killD env ms) := let ⟨fp2, S2, _⟩ := S.kill ms; ⟨fp2, S2⟩
end
section
variable {X : Cx} {W : WX} {a b c e tg o st : Expr} {es : List Expr} {ta tb tc : DT} {t t2 : DTA} {pos p apos : Pos} {ms ms2 : List Nat} {tn : DTN} {rest : List Stmt} {t1 : DTS} {sta : Stmt}
/-! ## statements -/
def dSetF (i : Nat) (ms : List Nat) (ta : DT) : DTS := fun E env => ta env (fun d => E.nx ((killD env ms).set i (.ow d))) (fun x fs => E.ex x fs env)
theorem pds_setFg {i : Nat} {te : TE} (hp : PS X sta (tAsg te (gName i))) (hl : LW X W te ms ta) : PDS X W sta (dSetF i ms ta) := by
  refine ⟨_, hp, fun H0 G0 G H σ env B E S L q => ?_⟩
  obtain ⟨fp, S⟩ := S
  exact hl H0 G0 G H σ env fp _ _ _ S (L.le σ env) q fun v H' G' d F x o q' => L.nx _ _ _ _ x.gg (S.setW x o i) q'
theorem pds_setF {i : Nat} {x : Str} {pos' : Pos} (h1 : X.N.Nodup) (h2 : X.N[i]? = some x) (h3 : L2.Loc X.env.scope x) (h : PF X W e ms ta) (h5 : swapsWith e (some (.Name x pos')) pos.line X.env = pure false := by rfl)
    (h6 : X.fn x = true ∨ X.env.scope.names.lookup x = some .local := by first | exact Or.inl rfl | exact Or.inr rfl) : PDS X W (.Assign [.Name x pos'] e pos) (dSetF i ms ta) := by
  obtain ⟨_, p, l⟩ := h.of
  exact pds_setFg (ps_set h1 h2 h3 p h5 h6) l
def dRetF (ta : DT) : DTS := fun E env => ta env E.rf (fun x fs => E.ex x fs env)
theorem pds_retF (h : PF X W e ms ta) : PDS X W (.Return (some e) pos) (dRetF ta) := by
  obtain ⟨_, p, l⟩ := h.of
  refine ⟨_, ps_ret p, fun H0 G0 G H σ env B E S L q => ?_⟩
  obtain ⟨fp, S⟩ := S
  exact l H0 G0 G H σ env fp _ _ _ S (L.le σ env) q fun v H' G' d F x o q' => L.rf v H' G' d F x.gg (S.all.trans x) o.ow o.nd (fun a ha => ⟨o.nk a ha, o.h0 S a ha⟩) q'
/-- data of one's own is so no more -/
def dFrzW (i : Nat) (t : DTS) : DTS := fun E env => ∃ d, env[i]? = some (.ow d) ∧ t E (env.set i (.val d))
theorem pdss_frzW (i : Nat) (h : PDSs X W rest t1) : PDSs X W rest (dFrzW i t1) := by
  obtain ⟨_, p, l⟩ := h.of
  refine ⟨_, p, fun H0 G0 G H σ env B E S L ⟨m, e, q⟩ => ?_⟩
  obtain ⟨G', s, S'⟩ := S.frzW e
  exact l H0 G0 G' H σ _ B E S' (L.mono s) q
/-- a flat list of one's own, seen so -/
theorem SR.flat {K : PySem.W.Frag} {H0 G0 G H : Hp} {σ : L2.St} {env : DE} (S : SR K H0 G0 G H σ env) {i : Nat} {l : List D} (he : env[i]? = some (.own l)) (z : noL.noLs l = true) : SR K H0 G0 G H σ (env.set i (.ow (.lst l))) := by
  obtain ⟨fp, S⟩ := S
  obtain ⟨p, vs, ef, hw, hp, gp, op, r⟩ := S.slot i _ he
  have e1 : fp i = p :: (List.replicate l.length ([] : List Addr)).flatten := by rw [ef]; simp
  have k : ∀ a ∈ fp i, G a = none ∧ H0 a = none := fun a ha => by
    rw [ef] at ha
    rw [List.mem_singleton.mp ha]
    exact ⟨gp, op⟩
  refine ⟨_, S.chg (F' := fp i) he (fun a o h _ => h) (fun a ha => .inl ha) ⟨_, hw, ?_, by rw [ef]; simp, k⟩⟩
  rw [e1]
  refine .lst hp r.1 (by simp) fun j v d F h1 h2 h3 => ?_
  rw [(List.mem_replicate.mp (List.mem_of_getElem? h3)).2]
  exact .leaf (noLs_at z h2) (r.2 j v d h1 h2)
def dFlatW (i : Nat) (t : DTS) : DTS := fun E env => ∃ l, env[i]? = some (.own l) ∧ noL.noLs l = true ∧ t E (env.set i (.ow (.lst l)))
theorem pdss_flatW (i : Nat) (h : PDSs X W rest t1) : PDSs X W rest (dFlatW i t1) := by
  obtain ⟨_, p, l⟩ := h.of
  exact ⟨_, p, fun H0 G0 G H σ env B E S L ⟨m, e, z, q⟩ => l H0 G0 G H σ _ B E (S.flat e z) L q⟩
/-! ## loans -/
/-- what holds no tuple of lists, its leaves no lists: in a heap that knows less -/
theorem Ow.cut {K : PySem.W.Frag} {G G' H : Hp} {v : V} {d : D} {F E : List Addr} (h : Ow K G H v d F) (k : ∀ v d, noL d = true → Rep K G v d → Rep K G' v d) : Ow K G' H v d F := by
  induction h with
  | leaf h r => exact .leaf h (k _ _ h r)
  | lst h n m r ih => exact .lst h n m ih
  | tup h t n m r ih => exact .tup h t n m ih
theorem NoL_of : ∀ (d : D), noL d = true → NoL d
  | .non, _ => .non
  | .bl b, _ => .bl b
  | .int i, _ => .int i
  | .str s, _ => .str s
  | .lst l, h => by simp [noL] at h
  | .tup l, h => .tup (NoL_all l (by rw [noL] at h; exact h))
  | .ins c l, h => .ins (NoL_all l (by rw [noL] at h; exact h))
where NoL_all : ∀ (l : List D), noL.noLs l = true → ∀ x ∈ l, NoL x
  | [], _, x, hx => by simp at hx
  | d :: l, h, x, hx => by
    rw [noL.noLs, Bool.and_eq_true] at h
    have h1 := NoL_of d h.1
    have h2 := NoL_all l h.2
    rcases List.mem_cons.mp hx with e | hx
    · rw [e]; exact h1
    · exact h2 x hx
/-- all leaves are of no parts -/
def scalT : D → Bool
  | .lst l => scalTs l
  | .tup l => scalTs l
  | d => scal d
where scalTs : List D → Bool
  | [] => true
  | d :: l => scalT d && scalTs l
def dLendF (i : Nat) (ta : DT) : DT := fun env Q _ => ∃ w, env[i]? = some (.ow w) ∧ noT w = true ∧ ta (env.set i (.val w)) Q (fun _ _ => False)
/-- new data of one's own, a slot's data lent -/
theorem pf_lend (i : Nat) (h : PF X W e [] ta) : PF X W e [] (dLendF i ta) := by
  obtain ⟨_, pa, la⟩ := h.of
  refine ⟨_, pa, fun H0 G0 G H σ env fp Q ex R S L ⟨w, hl, nt, q⟩ g => ?_⟩
  obtain ⟨F, hF, hT, fp1, S1⟩ := SR.lendW ⟨fp, S⟩ hl
  refine la H0 G0 _ H σ _ fp1 _ _ R S1 LkE.no q fun v H2 G2 d F2 x o q2 => ?_
  have sF : ∀ a ∈ F, ∃ ws, G2 a = some (.lst ws) := fun a ha => by
    obtain ⟨ws, e⟩ := hT nt a ha
    exact ⟨ws, x.gg a _ ((joinH_in ha).trans e)⟩
  refine g v H2 _ d F2 (x.back fun a ha => (hF a ha).1) ⟨?_, o.nd, fun a ha => ?_, fun a ha => ?_⟩ q2
  · exact Ow.cut (E := []) o.ow fun v d n r => r.cut sF (fun a ne => cutH_out ne) (NoL_of d n)
  · by_cases hb : a ∈ F
    · exact cutH_in hb
    · rw [cutH_out hb]
      exact o.nk a ha
  · rcases o.fr a ha with h | ⟨m, hm, _⟩
    · exact .inl h
    · simp at hm
/-! ## calls -/
variable {k n : Nat} {f : Addr} {Pm : Prm} {x m : Str}
theorem pf_call (F : FnF X.prog X.w X.K X.mg X.base f k n Pm) (hr : Room k X.A) (hg : Gl X x) (hm : X.mg x = some (.ref f)) (hk : PySem.W.keepIn X.K (.ref f) = true) (tk : Takes X W) (ha : PDA X W (e :: es) t)
    (hdb : (x == ("__debug__" : Str)) = false := by decide) (he : starEach (e :: es) X.env = (false, eval e X.env) :: starEach es X.env := by rfl) (hpl : (backTo pos (starEach es X.env)).any (·.1) = false := by rfl) :
    PF X W (.Call (.Name x p) (e :: es) [] pos) [] (dCall Pm t) := by
  obtain ⟨_, pa, la⟩ := ha.of
  refine ⟨_, pe_callS F.ok hr hg hm hk F.bd (fun σ => passAt tk σ) pa hdb he hpl, fun H0 G0 G H σ env fp Q ex R S L q g => la H0 G0 G H σ env _ ex _ ⟨fp, S⟩ L q fun vs H1 G1 ds x1 r1 q1 => ?_⟩
  refine ⟨by rw [r1.1]; exact F.len _ _ _ q1, G1, ds, Q, ex, x1.sub, r1, q1, fun v H2 G2 d F2 x2 o q2 => g v H2 G2 d F2 (x1.trans x2) ⟨o.ow, o.nd, o.nk, fun a ha => ?_⟩ q2, fun H' G' d x fv fs xt e rf q => (L.mono x1.gg) H' G' d x fv fs xt.gg (((S.ex x1).ex xt) |> fun z => ⟨fp, z⟩) e rf q⟩
  rcases o.fr a ha with h | ⟨m, hm, _⟩
  · exact .inl (x1.hh.free h)
  · simp at hm
theorem FnF.of {P : Program} {w : World} {K : PySem.W.Frag} {mg : Str → Option Value} {base : Heap} {x qual : Str} {params : Arguments} {body : List Stmt} {scope : Scope} {f : Addr} {N ps : List Str} {k n : Nat} {Pm : Prm}
    (h : ∃ fd, FunD K x qual params body scope [] [] f fd) (S : FnScope N ps scope) (hn : ps.length = n)
    (hb : ∀ (kV doc pm : Value) (an : Option Addr) (cdv ct : Value) (us : List Value), us.length = ps.length → bindArgs (PySem.W.fnOf x qual params body scope .none kV doc pm an cdv ct) ⟨us, []⟩ = pure (ps.zip us))
    (len : ∀ ds Q ex, Pm ds Q ex → ds.length = n)
    (hbody : ∀ (fd : FuncData) (cdv : Value) (A : Around) (outer : List Env) (s : Shared) (H : Hp) (E : XK), Room k (A.deeper (envOfC qual scope s.heap.objs.size f cdv)) →
      ∃ t, PDSs (cxOf (L2.CX P w) P w K mg base N qual scope f cdv A outer s H E) (fun cls d _ H => E cls d H) body t ∧ ∀ ds Q ex, Pm ds Q ex → t { nx := fun _ => False, rt := fun d => noL d = true ∧ Q d, ex := fun x fs _ => ex x fs, rf := Q } (start N.length ds)) :
    Nonempty (FnF P w K mg base f (k + 1) n Pm) := by
  suffices ok : Ok P w K mg base f (k + 1) ps (spF K n Pm) by
    obtain ⟨fd, F, b⟩ := ok
    exact ⟨⟨fd, ps, F, b, len⟩⟩
  refine Ok.of (P := P) (w := w) (mg := mg) (base := base) (k := k) (sp := spF K n Pm) h S hb (fun vs H Q E q => q.1.trans hn.symm) (fun fd cdv A outer s H vs Q E hr hs => ?_)
  · obtain ⟨t, pd, q⟩ := hbody fd cdv A outer s H E hr
    obtain ⟨ts, pts, l⟩ := pd.of
    obtain ⟨hv, G, ds, QD, ED, sG, rr, pm, got, out⟩ := hs
    refine ⟨ts, pts, l H G G H _ _ _ { nx := fun _ => False, rt := fun d => noL d = true ∧ QD d, ex := fun x fs _ => ED x fs, rf := QD } (sr_start sG rr) ⟨fun σ' H' G' env' _ S' q' => q'.elim, fun σ' H' G' env' _ S' q' => q'.elim, fun σ' H' G' env' _ S' q' => q'.elim,
      fun v H' G' d _ x r q' => got v H' G' d [] x ⟨.leaf q'.1 r, List.Pairwise.nil, fun a ha => by simp at ha, fun a ha => by simp at ha⟩ q'.2, fun σ' H' G' env' d x fv fs _ S' e r q' => out H' G' d x fv fs S'.all e r q', fun v H' G' d F _ x o nd k q' => got v H' G' d F x ⟨o, nd, fun a ha => (k a ha).1, fun a ha => .inl (k a ha).2⟩ q'⟩ (q ds QD ED pm)⟩
end
end DL

namespace DL
open PySem PySem.Spec PyProof.Rows L2 LR
/-! ## places in data of one's own -/
def NodeAt (H : Hp) : V → List Nat → V → Prop
  | v, [], w => v = w
  | v, k :: ks, w => ∃ a vs u, v = .ref a ∧ (H a = some (.lst vs) ∨ H a = some (.tup vs)) ∧ vs[k]? = some u ∧ NodeAt H u ks w
def nodeD : D → List Nat → Option D
  | d, [] => some d
  | .lst l, k :: ks => (l[k]?).bind fun d => nodeD d ks
  | .tup l, k :: ks => (l[k]?).bind fun d => nodeD d ks
  | _, _ :: _ => none
/-- the node at ks is changed by f -/
def modD (f : List D → List D) : List Nat → D → D
  | [], .lst l => .lst (f l)
  | [], d => d
  | k :: ks, .lst l => .lst (l.modify k (modD f ks))
  | k :: ks, .tup l => .tup (l.modify k (modD f ks))
  | _ :: _, d => d
section
variable {K : PySem.W.Frag} {H0 G0 G H G' H' : Hp} {σ : L2.St} {env : DE} {fp : Nat → List Addr} {v u : V} {d e : D} {F : List Addr}
theorem NodeAt.same {ks : List Nat} (s : Same H H') : ∀ {v w : V}, NodeAt H v ks w → NodeAt H' v ks w := by
  induction ks with
  | nil => exact fun h => h
  | cons k ks ih =>
    rintro v w ⟨a, vs, u, e, h, hu, r⟩
    exact ⟨a, vs, u, e, h.imp (s _ _) (s _ _), hu, ih r⟩
/-- the child of own data -/
theorem Ow.child {k : Nat} (h : Ow K G H v d F) (n : noL d = false) {l : List D} (hd : d = .lst l ∨ d = .tup l) : ∃ (a : Addr) (vs : List V) (Fs : List (List Addr)), v = .ref a ∧ F = a :: Fs.flatten ∧ ((d = .lst l ∧ H a = some (.lst vs)) ∨ (d = .tup l ∧ H a = some (.tup vs))) ∧ vs.length = l.length ∧ Fs.length = l.length ∧
    ∀ (i : Nat) v d F, vs[i]? = some v → l[i]? = some d → Fs[i]? = some F → Ow K G H v d F := by
  cases h with
  | leaf h r => rw [n] at h; cases h
  | lst h n2 m r =>
    rcases hd with e | e
    · cases e
      exact ⟨_, _, _, rfl, rfl, .inl ⟨rfl, h⟩, n2, m, r⟩
    · cases e
  | tup h t n2 m r =>
    rcases hd with e | e
    · cases e
    · cases e
      exact ⟨_, _, _, rfl, rfl, .inr ⟨rfl, h⟩, n2, m, r⟩
theorem nodeD_snoc {k : Nat} : ∀ {ks : List Nat} {d e : D} {l : List D}, nodeD d ks = some e → (e = .lst l ∨ e = .tup l) → nodeD d (ks ++ [k]) = l[k]?
  | [], d, e, l, h, he => by
    cases h
    rcases he with rfl | rfl <;> (show (l[k]?).bind (fun d => nodeD d []) = _; cases l[k]? <;> rfl)
  | j :: ks, d, e, l, h, he => by
    cases d with
    | lst m =>
      rw [nodeD] at h
      show (m[j]?).bind (fun d => nodeD d (ks ++ [k])) = _
      cases q : m[j]? with
      | none => rw [q] at h; cases h
      | some x => rw [q] at h; exact nodeD_snoc (d := x) h he
    | tup m =>
      rw [nodeD] at h
      show (m[j]?).bind (fun d => nodeD d (ks ++ [k])) = _
      cases q : m[j]? with
      | none => rw [q] at h; cases h
      | some x => rw [q] at h; exact nodeD_snoc (d := x) h he
    | non => cases h
    | bl b => cases h
    | int b => cases h
    | str b => cases h
    | ins c b => cases h
theorem NodeAt.snoc {k : Nat} {a : Addr} {vs : List V} {x : V} (hh : H a = some (.lst vs) ∨ H a = some (.tup vs)) (hx : vs[k]? = some x) : ∀ {ks : List Nat} {v : V}, NodeAt H v ks (.ref a) → NodeAt H v (ks ++ [k]) x
  | [], v, e => ⟨a, vs, x, e, hh, hx, rfl⟩
  | j :: ks, v, ⟨b, ws, u, e, h, hu, r⟩ => ⟨b, ws, u, e, h, hu, NodeAt.snoc hh hx (ks := ks) r⟩
/-- the node of a place, own data again -/
theorem Ow.node : ∀ {ks : List Nat} {v : V} {d : D} {F : List Addr}, Ow K G H v d F → ∀ {w : V} {e : D}, NodeAt H v ks w → nodeD d ks = some e → noL e = false → ∃ F', Ow K G H w e F' ∧ ∀ a ∈ F', a ∈ F
  | [], v, d, F, h, w, e, hn, hd, hl => by
    cases hn
    cases hd
    exact ⟨F, h, fun a ha => ha⟩
  | k :: ks, v, d, F, h, w, e, ⟨a, vs, u, ev, hh, hu, hn⟩, hd, hl => by
    subst ev
    cases h with
    | leaf h r =>
      exfalso
      have key : ∀ (ks : List Nat) (d : D), noL d = true → nodeD d ks = some e → noL e = true := by
        intro ks
        induction ks with
        | nil => intro d h q; cases q; exact h
        | cons j js ih =>
          intro d h q
          cases d with
          | lst m => cases h
          | tup m =>
            rw [nodeD] at q
            cases z : m[j]? with
            | none => rw [z] at q; cases q
            | some x => rw [z] at q; exact ih x (noLs_at (by rw [noL] at h; exact h) z) q
          | non => cases q
          | bl b => cases q
          | int b => cases q
          | str b => cases q
          | ins c b => cases q
      rw [key _ _ h hd] at hl
      cases hl
    | @lst _ vs' l Fs h n m r =>
      rw [nodeD] at hd
      cases z : l[k]? with
      | none => rw [z] at hd; cases hd
      | some x =>
        rw [z] at hd
        have ev : vs' = vs := by rcases hh with hh | hh <;> (rw [h] at hh; first | (cases hh; done) | (cases hh; rfl))
        subst ev
        have lk := (List.getElem?_eq_some_iff.mp z).1
        have hF : Fs[k]? = some (Fs[k]'(by omega)) := List.getElem?_eq_getElem _
        obtain ⟨F', o, sub⟩ := Ow.node (r k u x _ hu z hF) hn hd hl
        exact ⟨F', o, fun b hb => List.mem_cons_of_mem _ (List.mem_flatten.mpr ⟨_, List.mem_of_getElem? hF, sub b hb⟩)⟩
    | @tup _ vs' l Fs h t n m r =>
      rw [nodeD] at hd
      cases z : l[k]? with
      | none => rw [z] at hd; cases hd
      | some x =>
        rw [z] at hd
        have ev : vs' = vs := by rcases hh with hh | hh <;> (rw [h] at hh; first | (cases hh; done) | (cases hh; rfl))
        subst ev
        have lk := (List.getElem?_eq_some_iff.mp z).1
        have hF : Fs[k]? = some (Fs[k]'(by omega)) := List.getElem?_eq_getElem _
        obtain ⟨F', o, sub⟩ := Ow.node (r k u x _ hu z hF) hn hd hl
        exact ⟨F', o, fun b hb => List.mem_cons_of_mem _ (List.mem_flatten.mpr ⟨_, List.mem_of_getElem? hF, sub b hb⟩)⟩
theorem nodup_at {α : Type} : ∀ {Fs : List (List α)}, Fs.flatten.Nodup → ∀ {i j : Nat} {A B : List α} {a : α}, Fs[i]? = some A → Fs[j]? = some B → a ∈ A → a ∈ B → i = j
  | [], _, i, j, A, B, a, h, _, _, _ => by simp at h
  | F :: Fs, nd, i, j, A, B, a, h1, h2, ha, hb => by
    rw [List.flatten_cons, List.nodup_append] at nd
    obtain ⟨_, n2, n3⟩ := nd
    cases i with
    | zero =>
      simp at h1
      subst h1
      cases j with
      | zero => rfl
      | succ j => exact absurd rfl (n3 a ha a (List.mem_flatten.mpr ⟨B, List.mem_of_getElem? (by simpa using h2), hb⟩))
    | succ i =>
      cases j with
      | zero =>
        simp at h2
        subst h2
        exact absurd rfl (n3 a hb a (List.mem_flatten.mpr ⟨A, List.mem_of_getElem? (by simpa using h1), ha⟩))
      | succ j => rw [nodup_at n2 (i := i) (j := j) (by simpa using h1) (by simpa using h2) ha hb]
theorem nodup_in {α : Type} : ∀ {Fs : List (List α)}, Fs.flatten.Nodup → ∀ {i : Nat} {A : List α}, Fs[i]? = some A → A.Nodup
  | [], _, i, A, h => by simp at h
  | F :: Fs, nd, i, A, h => by
    rw [List.flatten_cons, List.nodup_append] at nd
    cases i with
    | zero => simp at h; rw [← h]; exact nd.1
    | succ i => exact nodup_in nd.2.1 (i := i) (by simpa using h)
/-- the list at a place is changed; what changes are leaves -/
theorem Ow.modify {f : List D → List D} {q : Addr} {ws ws' : List V} {l : List D} (hq : H q = some (.lst ws)) :
    ∀ {ks : List Nat} {v : V} {d : D} {F : List Addr}, Ow K G H v d F → F.Nodup → NodeAt H v ks (.ref q) → nodeD d ks = some (.lst l) →
    (∀ F', Ow K G H (.ref q) (.lst l) F' → F'.Nodup → Ow K G (upd H q (.lst ws')) (.ref q) (.lst (f l)) F') → Ow K G (upd H q (.lst ws')) v (modD f ks d) F ∧ q ∈ F
  | [], v, d, F, h, nd, e, hd, k => by
    cases hd
    have e : v = .ref q := e
    subst e
    refine ⟨k F h nd, ?_⟩
    cases h with
    | leaf h _ => cases h
    | lst h _ _ _ => exact List.mem_cons_self
  | j :: ks, v, d, F, h, nd, ⟨a, vs, u, ev, hh, hu, hn⟩, hd, k => by
    subst ev
    cases h with
    | leaf h r =>
      exfalso
      have key : ∀ (ks : List Nat) (d : D), noL d = true → nodeD d ks = some (.lst l) → False := by
        intro ks
        induction ks with
        | nil => intro d h q; cases q; cases h
        | cons j js ih =>
          intro d h q
          cases d with
          | lst m => cases h
          | tup m =>
            rw [nodeD] at q
            cases z : m[j]? with
            | none => rw [z] at q; cases q
            | some x => rw [z] at q; exact ih x (noLs_at (by rw [noL] at h; exact h) z) q
          | non => cases q
          | bl b => cases q
          | int b => cases q
          | str b => cases q
          | ins c b => cases q
      exact key _ _ h hd
    | @lst _ vs' m Fs h n mm r =>
      rw [nodeD] at hd
      cases z : m[j]? with
      | none => rw [z] at hd; cases hd
      | some x =>
        rw [z] at hd
        have ev : vs' = vs := by rcases hh with hh | hh <;> (rw [h] at hh; first | (cases hh; done) | (cases hh; rfl))
        subst ev
        have lk := (List.getElem?_eq_some_iff.mp z).1
        have hF : Fs[j]? = some (Fs[j]'(by omega)) := List.getElem?_eq_getElem _
        rw [List.nodup_cons] at nd
        obtain ⟨o, hm⟩ := Ow.modify hq (r j u x _ hu z hF) (nodup_in nd.2 hF) hn hd k
        have qF : q ∈ Fs.flatten := List.mem_flatten.mpr ⟨_, List.mem_of_getElem? hF, hm⟩
        have aq : a ≠ q := fun e => nd.1 (by rw [e]; exact qF)
        refine ⟨?_, List.mem_cons_of_mem _ qF⟩
        rw [modD]
        refine .lst ((upd_ne aq).trans h) (by simp [n]) (by simp [mm]) fun i v d F h1 h2 h3 => ?_
        rw [List.getElem?_modify] at h2
        by_cases hij : j = i
        · subst hij
          rw [hu] at h1
          cases h1
          rw [z] at h2
          have e2 : modD f ks x = d := by simpa using h2
          rw [hF] at h3
          cases h3
          rw [← e2]
          exact o
        · have h2' : m[i]? = some d := by simpa [hij] using h2
          exact (r i v d F h1 h2' h3).go (fun b hb => upd_ne fun e => hij (nodup_at nd.2 hF h3 hm (by rw [← e]; exact hb))) (.refl _)
    | @tup _ vs' m Fs h t n mm r =>
      rw [nodeD] at hd
      cases z : m[j]? with
      | none => rw [z] at hd; cases hd
      | some x =>
        rw [z] at hd
        have ev : vs' = vs := by rcases hh with hh | hh <;> (rw [h] at hh; first | (cases hh; done) | (cases hh; rfl))
        subst ev
        have lk := (List.getElem?_eq_some_iff.mp z).1
        have hF : Fs[j]? = some (Fs[j]'(by omega)) := List.getElem?_eq_getElem _
        rw [List.nodup_cons] at nd
        obtain ⟨o, hm⟩ := Ow.modify hq (r j u x _ hu z hF) (nodup_in nd.2 hF) hn hd k
        have qF : q ∈ Fs.flatten := List.mem_flatten.mpr ⟨_, List.mem_of_getElem? hF, hm⟩
        have aq : a ≠ q := fun e => nd.1 (by rw [e]; exact qF)
        have nl : noL (modD f ks x) = false := by
          cases w : noL (modD f ks x) with
          | false => rfl
          | true =>
            have := (o.noL_nil w).1
            rw [this] at hm
            simp at hm
        refine ⟨?_, List.mem_cons_of_mem _ qF⟩
        rw [modD]
        refine .tup ((upd_ne aq).trans h) ?_ (by simp [n]) (by simp [mm]) fun i v d F h1 h2 h3 => ?_
        · rw [noL]
          cases w : noL.noLs (m.modify j (modD f ks)) with
          | false => rfl
          | true =>
            have := noLs_at (i := j) (d := modD f ks x) w (by rw [List.getElem?_modify, z]; simp)
            rw [nl] at this
            cases this
        rw [List.getElem?_modify] at h2
        by_cases hij : j = i
        · subst hij
          rw [hu] at h1
          cases h1
          rw [z] at h2
          have e2 : modD f ks x = d := by simpa using h2
          rw [hF] at h3
          cases h3
          rw [← e2]
          exact o
        · have h2' : m[i]? = some d := by simpa [hij] using h2
          exact (r i v d F h1 h2' h3).go (fun b hb => upd_ne fun e => hij (nodup_at nd.2 hF h3 hm (by rw [← e]; exact hb))) (.refl _)
/-- a leaf is set -/
theorem Ow.setLeaf {q : Addr} {ws : List V} {l : List D} {j : Nat} {x : D} {w : V} (hq : H q = some (.lst ws)) (hl : ∀ y, l[j]? = some y → noL y = true) (hx : noL x = true) (r : Rep K G w x) (F : List Addr) (o : Ow K G H (.ref q) (.lst l) F) (nd : F.Nodup) :
    Ow K G (upd H q (.lst (ws.set j w))) (.ref q) (.lst (l.set j x)) F := by
  cases o with
  | leaf h _ => cases h
  | @lst _ vs _ Fs h n m rr =>
    have : vs = ws := by rw [h] at hq; cases hq; rfl
    subst this
    rw [List.nodup_cons] at nd
    refine .lst upd_same (by simp [n]) (by simp [m]) fun i v d F h1 h2 h3 => ?_
    rcases set_key h1 with ⟨rfl, rfl, hi⟩ | ⟨hi, g1⟩
    · rw [set_at (by rw [← n]; exact hi)] at h2
      cases h2
      have hi' : i < l.length := by omega
      have old := rr i _ _ F (List.getElem?_eq_getElem hi) (List.getElem?_eq_getElem hi') h3
      rw [(old.noL_nil (hl _ (List.getElem?_eq_getElem hi'))).1]
      exact .leaf hx r
    · rw [set_off hi] at h2
      exact (rr i v d F g1 h2 h3).go (fun b hb => upd_ne fun e => nd.1 (by rw [← e]; exact List.mem_flatten.mpr ⟨F, List.mem_of_getElem? h3, hb⟩)) (.refl _)
/-- a leaf is put behind -/
theorem Ow.addLeaf {q : Addr} {ws : List V} {l : List D} {x : D} {w : V} (hq : H q = some (.lst ws)) (hx : noL x = true) (r : Rep K G w x) (F : List Addr) (o : Ow K G H (.ref q) (.lst l) F) (nd : F.Nodup) :
    Ow K G (upd H q (.lst (ws ++ [w]))) (.ref q) (.lst (l ++ [x])) F := by
  cases o with
  | leaf h _ => cases h
  | @lst _ vs _ Fs h n m rr =>
    have : vs = ws := by rw [h] at hq; cases hq; rfl
    subst this
    rw [List.nodup_cons] at nd
    have e : q :: Fs.flatten = q :: (Fs ++ [[]]).flatten := by simp
    rw [e]
    refine .lst upd_same (by simp [n]) (by simp [m]) fun i v d F h1 h2 h3 => ?_
    by_cases hi : i < vs.length
    · rw [List.getElem?_append_left hi] at h1
      rw [List.getElem?_append_left (by omega)] at h2
      rw [List.getElem?_append_left (by omega)] at h3
      exact (rr i v d F h1 h2 h3).go (fun b hb => upd_ne fun e => nd.1 (by rw [← e]; exact List.mem_flatten.mpr ⟨F, List.mem_of_getElem? h3, hb⟩)) (.refl _)
    · rw [List.getElem?_append_right (by omega)] at h1 h2 h3
      have z : i - vs.length = 0 := by
        have := (List.getElem?_eq_some_iff.mp h1).1
        simp at this
        omega
      rw [z] at h1
      rw [show i - l.length = 0 by omega] at h2
      rw [show i - Fs.length = 0 by omega] at h3
      cases h1
      cases h2
      cases h3
      exact .leaf hx r
/-- the list at a place of a slot is changed -/
theorem SF.modify (S : SF K H0 G0 G H σ env fp) {i : Nat} {f : List D → List D} {ks : List Nat} {q : Addr} {ws ws' : List V} {l : List D} (he : env[i]? = some (.ow d)) (hu : σ[i]? = some (some u)) (hn : NodeAt H u ks (.ref q)) (hd : nodeD d ks = some (.lst l)) (hq : H q = some (.lst ws))
    (k : ∀ F', Ow K G H (.ref q) (.lst l) F' → F'.Nodup → Ow K G (upd H q (.lst ws')) (.ref q) (.lst (f l)) F') : SR K H0 G0 G (upd H q (.lst ws')) σ (env.set i (.ow (modD f ks d))) := by
  obtain ⟨w, hw, o, nd, kk⟩ := S.slot i _ he
  rw [hu] at hw
  cases hw
  obtain ⟨o2, hm⟩ := Ow.modify hq o nd hn hd k
  exact ⟨_, S.chg (F' := fp i) he (fun a o' ha hn' => (upd_ne fun e => hn' (by rw [e]; exact hm)).trans ha) (fun a ha => .inl ha) ⟨u, hu, o2, nd, kk⟩⟩
end
abbrev DTP := DE → (Nat → List Nat → Prop) → EX → Prop
def LP (X : Cx) (W : WX) (te : TE) (t : DTP) : Prop := ∀ (H0 G0 G H : Hp) (σ : L2.St) (env : DE) (fp : Nat → List Addr) (Q : Nat → List Nat → Prop) (ex : EX) (R : VK), SF X.K H0 G0 G H σ env fp → LkE X.K H0 G0 G W σ env ex → t env Q ex →
  (∀ v H' G' i ks, Ext G H G' H' → (∃ u, σ[i]? = some (some u) ∧ NodeAt H' u ks v) → Q i ks → R v H') → te σ H R
structure PP (X : Cx) (W : WX) (e : Expr) (t : DTP) : Prop where
  of : ∃ te, PE X e te ∧ LP X W te t
section
variable {X : Cx} {W : WX} {a b c e tg o : Expr} {es : List Expr} {ta tb : DT} {t : DTA} {tp : DTP} {pos p apos : Pos}
def dpName (i : Nat) : DTP := fun env Q _ => ∃ d, env[i]? = some (.ow d) ∧ Q i []
theorem pp_name {i : Nat} (h : PE X e (tVar i)) : PP X W e (dpName i) := ⟨_, h, fun H0 G0 G H σ env fp Q ex R S L ⟨d, hd, q⟩ g => by
  obtain ⟨w, hw, o, nd, k⟩ := S.slot i _ hd
  exact ⟨w, hw, g w H G i [] (.refl S.sub) ⟨w, hw, rfl⟩ q⟩⟩
/-- the list (or the tuple that holds lists) at a place -/
def listAt (d : D) (ks : List Nat) (m : List D) : Prop := ∃ e, nodeD d ks = some e ∧ noL e = false ∧ (e = .lst m ∨ e = .tup m)
def dpIx (tc : DTP) (tb : DT) : DTP := fun env Q ex => tc env (fun i ks => tb env (fun y => ∃ k j d m, y = .int k ∧ env[i]? = some (.ow d) ∧ listAt d ks m ∧ ixN m.length k = some j ∧ Q i (ks ++ [j])) ex) ex
theorem pp_ix (ho : IxR X (fun x y H Q => rIxL X.K x y H Q ∨ rIxT X.K x y H Q)) (hc : PP X W c tp) (hb : PD X W b tb) (hp : PlainIx b) : PP X W (.Subscript c b pos) (dpIx tp tb) := by
  obtain ⟨_, pc, lc⟩ := hc.of
  obtain ⟨_, pb, lb⟩ := hb.of
  refine ⟨_, pe_ix ho pc pb hp, fun H0 G0 G H σ env fp Q ex R S L q g => lc H0 G0 G H σ env fp _ ex _ S L q fun v H1 G1 i ks x1 ⟨u, hu, hn⟩ q1 => ?_⟩
  refine lb H0 G0 G1 H1 σ env _ ex _ ⟨fp, S.ex x1⟩ (L.mono x1.gg) q1 fun w H2 G2 y x2 r2 ⟨k, j, d, m, e1, e2, ⟨e, hd, nl, he⟩, hj, q2⟩ => ?_
  subst e1
  have S2 := (S.ex x1).ex x2
  have hn2 := hn.same x2.hh
  obtain ⟨u', hu', o, nd, kk⟩ := S2.slot i _ e2
  rw [hu] at hu'
  cases hu'
  obtain ⟨F', o', _⟩ := o.node hn2 hd nl
  obtain ⟨pa, vs, Fs, ev, _, hh, n, mm, rr⟩ := o'.child (k := j) nl he
  subst ev
  have hj2 : j < vs.length := by
    have := (ixN_seq hj).2
    unfold ixN at hj
    rw [n]
    by_cases h0 : 0 ≤ k
    · rw [if_pos h0] at hj
      split at hj
      · cases hj; omega
      · cases hj
    · rw [if_neg h0] at hj
      split at hj
      · cases hj; omega
      · cases hj
  have hx : vs[j]? = some vs[j] := List.getElem?_eq_getElem hj2
  have ha : atI vs k = some vs[j] := by unfold atI; rw [n, hj]; exact hx
  have hh' : H2 pa = some (.lst vs) ∨ H2 pa = some (.tup vs) := hh.imp (·.2) (·.2)
  have fin := g vs[j] H2 G2 i (ks ++ [j]) (x1.trans x2) ⟨u, hu, hn2.snoc hh' hx⟩ q2
  rcases hh with ⟨_, hh⟩ | ⟨_, hh⟩
  · exact .inl ⟨pa, vs, k, vs[j], rfl, r2.int_inv, SqL.of hh, ha, fin⟩
  · exact .inr ⟨pa, vs, k, vs[j], rfl, r2.int_inv, SqT.of hh, ha, fin⟩
/-- place[b] = e -/
def dPutP (ta : DT) (tc : DTP) (tb : DT) : DTS := fun E env => ta env (fun x => noL x = true ∧ tc env (fun i ks => tb env (fun y => ∃ k j d l, y = .int k ∧ env[i]? = some (.ow d) ∧ nodeD d ks = some (.lst l) ∧ ixN l.length k = some j ∧ (∀ z, l[j]? = some z → noL z = true) ∧ E.nx (env.set i (.ow (modD (·.set j x) ks d)))) (fun x fs => E.ex x fs env)) (fun x fs => E.ex x fs env)) (fun x fs => E.ex x fs env)
theorem pds_putP {kk : Pos} (hv : ∀ {sc sb : TE}, PE X c sc → PE X b sb → PG X tg (gSub sc sb rSetL)) (ha : PD X W e ta) (hc : PP X W c tp) (hb : PD X W b tb) (h1 : swapsWithSole [tg] e pos.line X.env = pure false := by rfl) (h2 : swappedStores [tg] e X.env = pure none := by rfl)
    (h3 : (assignEach [tg] X.env).map (fun x => x.2) = [assign tg X.env] := by rfl) : PDS X W (.Assign [tg] e pos) (dPutP ta tp tb) := by
  obtain ⟨_, pa, la⟩ := ha.of
  obtain ⟨_, pc, lc⟩ := hc.of
  obtain ⟨_, pb, lb⟩ := hb.of
  refine ⟨_, ps_asg pa (hv pc pb) h1 h2 h3, fun H0 G0 G H σ env B E S L q => ?_⟩
  obtain ⟨fp, S⟩ := S
  refine la H0 G0 G H σ env _ _ _ ⟨fp, S⟩ (L.le σ env) q fun v H1 G1 x x1 r1 ⟨nx, q1⟩ => ?_
  refine lc H0 G0 G1 H1 σ env fp _ _ _ (S.ex x1) ((L.mono x1.gg).le σ env) q1 fun w H2 G2 i ks x2 ⟨u, hu, hn⟩ q2 => ?_
  refine lb H0 G0 G2 H2 σ env _ _ _ ⟨fp, (S.ex x1).ex x2⟩ ((L.mono (x1.gg.trans x2.gg)).le σ env) q2 fun w' H3 G3 y x3 r3 ⟨k, j, d, l, e1, e2, hd, hj, hl, q3⟩ => ?_
  subst e1
  have S3 := ((S.ex x1).ex x2).ex x3
  have hn3 := hn.same x3.hh
  obtain ⟨u', hu', o, nd, kk⟩ := S3.slot i _ e2
  rw [hu] at hu'
  cases hu'
  obtain ⟨F', o', _⟩ := o.node hn3 hd rfl
  obtain ⟨pa, vs, Fs, ev, _, hh, n, mm, rr⟩ := o'.child (k := j) (l := l) rfl (.inl rfl)
  subst ev
  have hq : H3 pa = some (.lst vs) := by
    rcases hh with ⟨_, hh⟩ | ⟨z, _⟩
    · exact hh
    · cases z
  have r1' := (r1.same x2.gg).same x3.gg
  refine ⟨pa, vs, k, j, rfl, r3.int_inv, hq, by rw [n]; exact hj, ?_⟩
  exact L.nx _ _ _ _ ((x1.gg.trans x2.gg).trans x3.gg) (S3.modify e2 hu hn3 hd hq fun F' o nd => Ow.setLeaf hq hl nx r1' F' o nd) q3
/-- place.append(e), a leaf -/
def dAppP (tc : DTP) (ta : DT) : DTS := fun E env => tc env (fun i ks => ∃ d l, env[i]? = some (.ow d) ∧ nodeD d ks = some (.lst l) ∧ ta env (fun x => noL x = true ∧ l.length < sizeLine ∧ E.nx (env.set i (.ow (modD (· ++ [x]) ks d)))) (fun x fs => E.ex x fs env)) (fun x fs => E.ex x fs env)
end
end DL

namespace DL
open PySem PySem.Spec PyProof.Rows L2 LR
section
variable {X : Cx} {W : WX} {a b c e tg o : Expr} {es : List Expr} {ta tb : DT} {t : DTA} {tp : DTP} {pos p apos : Pos} {ms : List Nat}
theorem pds_appP {p1 : Pos} (hv : ∀ {sc sa : TE}, PE X o sc → PE X e sa → PE X c (tBM X.K "list" rAppend sc (tCons sa tNil))) (hc : PP X W o tp) (ha : PD X W e ta) (h5 : swapsWith c none pos.line X.env = pure false := by rfl) : PDS X W (.Expr c pos) (dAppP tp ta) := by
  obtain ⟨_, pa, la⟩ := ha.of
  obtain ⟨_, pc, lc⟩ := hc.of
  refine ⟨_, ps_expr (hv pc pa) h5, fun H0 G0 G H σ env B E S L q => ?_⟩
  obtain ⟨fp, S⟩ := S
  refine lc H0 G0 G H σ env fp _ _ _ S (L.le σ env) q fun w H2 G2 i ks x2 ⟨u, hu, hn⟩ ⟨d, l, e2, hd, q2⟩ => ?_
  have S2 := S.ex x2
  have at_ : ∀ {H3 G3 : Hp}, Ext G2 H2 G3 H3 → ∃ q vs, w = .ref q ∧ H3 q = some (.lst vs) ∧ vs.length = l.length := fun {H3 G3} x3 => by
    obtain ⟨u', hu', o, nd, kk⟩ := (S2.ex x3).slot i _ e2
    rw [hu] at hu'
    cases hu'
    obtain ⟨F', o', _⟩ := o.node (hn.same x3.hh) hd rfl
    obtain ⟨pa, vs, Fs, ev, _, hh, n, mm, rr⟩ := o'.child (k := 0) (l := l) rfl (.inl rfl)
    refine ⟨pa, vs, ev, ?_, n⟩
    rcases hh with ⟨_, hh⟩ | ⟨z, _⟩
    · exact hh
    · cases z
  obtain ⟨q0, vs0, rfl, hq0, n0⟩ := at_ (.refl x2.sub)
  refine ⟨.inl ⟨rfl, _, SqL.of hq0⟩, la H0 G0 G2 H2 σ env _ _ _ ⟨fp, S2⟩ ((L.mono x2.gg).le σ env) q2 fun v H3 G3 x x3 r3 ⟨nx, hl, q3⟩ => ?_⟩
  obtain ⟨q1, vs, e, hq, n⟩ := at_ x3
  cases e
  refine ⟨q0, vs, v, rfl, rfl, hq, by rw [n]; exact hl, ?_⟩
  exact L.nx _ _ _ _ (x2.gg.trans x3.gg) ((S2.ex x3).modify e2 hu (hn.same x3.hh) hd hq fun F' o nd => Ow.addLeaf hq nx r3 F' o nd) q3
theorem kill_at {i : Nat} {s : Sl} : ∀ (ms : List Nat) (env : DE), i ∉ ms → env[i]? = some s → (killD env ms)[i]? = some s
  | [], env, _, h => h
  | m :: ms, env, hm, h => kill_at ms _ (fun z => hm (List.mem_cons_of_mem _ z)) (by rw [set_off (fun e => hm (by rw [e]; exact List.mem_cons_self))]; exact h)
theorem SF.append {K : PySem.W.Frag} {H0 G0 G H G' H' : Hp} {σ : L2.St} {env : DE} {fp : Nat → List Addr} (S : SF K H0 G0 G H σ env fp) (x : Ext G H G' H') {v : V} {d : D} {F : List Addr} (o : Own1 K H G' H' env fp ms v d F) {i : Nat} {l : List D} (he : env[i]? = some (.ow (.lst l))) (hi : i ∉ ms) :
    ∃ q vs, σ[i]? = some (some (.ref q)) ∧ H' q = some (.lst vs) ∧ vs.length = l.length ∧ SR K H0 G0 G' (upd H' q (.lst (vs ++ [v]))) σ ((killD env ms).set i (.ow (.lst (l ++ [d])))) := by
  obtain ⟨fp2, S2, k2⟩ := (S.ex x).kill ms
  have ki := kill_at ms env hi he
  obtain ⟨w, hw, ow, nd, kk⟩ := S2.slot i _ ki
  have off : ∀ a ∈ F, ∀ (j : Nat) t, (killD env ms)[j]? = some t → a ∉ fp2 j := fun a ha j t e z => by
    obtain ⟨h1, h2, h3⟩ := k2 j t a e z
    exact o.off S h1 h2 a ha h3
  generalize hf : fp2 i = Fi at ow nd kk
  cases ow with
  | leaf h _ => cases h
  | @lst q vs _ Fs h n m rr =>
    refine ⟨q, vs, hw, h, n, ?_⟩
    have hd : ∀ a ∈ F, a ≠ q ∧ a ∉ Fs.flatten := fun a ha => by
      have := off a ha i _ ki
      rw [hf] at this
      exact ⟨fun e => this (by rw [e]; exact List.mem_cons_self), fun e => this (List.mem_cons_of_mem _ e)⟩
    have ef : (Fs ++ [F]).flatten = Fs.flatten ++ F := by simp
    rw [List.nodup_cons] at nd
    refine ⟨_, S2.chg (F' := q :: (Fs ++ [F]).flatten) ki (fun a o' ha hn => (upd_ne fun e => hn (by rw [hf, e]; exact List.mem_cons_self)).trans ha) (fun a ha => ?_) ⟨_, hw, ?_, ?_, fun a ha => ?_⟩⟩
    · rw [ef] at ha
      rcases List.mem_cons.mp ha with rfl | ha
      · exact .inl (by rw [hf]; exact List.mem_cons_self)
      · rcases List.mem_append.mp ha with ha | ha
        · exact .inl (by rw [hf]; exact List.mem_cons_of_mem _ ha)
        · exact .inr fun j r _ e => off a ha j r e
    · refine .lst upd_same (by simp [n]) (by simp [m]) fun j u y E h1 h2 h3 => ?_
      by_cases hj : j < vs.length
      · rw [List.getElem?_append_left hj] at h1
        rw [List.getElem?_append_left (by omega)] at h2
        rw [List.getElem?_append_left (by omega)] at h3
        exact (rr j u y E h1 h2 h3).go (fun b hb => upd_ne fun e => nd.1 (by rw [← e]; exact List.mem_flatten.mpr ⟨E, List.mem_of_getElem? h3, hb⟩)) (.refl _)
      · rw [List.getElem?_append_right (by omega)] at h1 h2 h3
        have z : j - vs.length = 0 := by
          have := (List.getElem?_eq_some_iff.mp h1).1
          simp at this
          omega
        rw [z] at h1
        rw [show j - l.length = 0 by omega] at h2
        rw [show j - Fs.length = 0 by omega] at h3
        cases h1
        cases h2
        cases h3
        exact o.ow.go (fun b hb => upd_ne (hd b hb).1) (.refl _)
    · rw [ef, List.nodup_cons]
      refine ⟨fun z => ?_, List.nodup_append.mpr ⟨nd.2, o.nd, fun a ha b hb e => (hd b hb).2 (e ▸ ha)⟩⟩
      rcases List.mem_append.mp z with z | z
      · exact nd.1 z
      · exact (hd q z).1 rfl
    · rw [ef] at ha
      rcases List.mem_cons.mp ha with rfl | ha
      · exact kk _ List.mem_cons_self
      · rcases List.mem_append.mp ha with ha | ha
        · exact kk a (List.mem_cons_of_mem _ ha)
        · exact ⟨o.nk a ha, o.h0 S a ha⟩
/-- x.append(e), e data of one's own -/
def dAppF (i : Nat) (ms : List Nat) (ta : DT) : DTS := fun E env => ∃ l, env[i]? = some (.ow (.lst l)) ∧ i ∉ ms ∧ ta env (fun d => l.length < sizeLine ∧ E.nx ((killD env ms).set i (.ow (.lst (l ++ [d]))))) (fun x fs => E.ex x fs env)
theorem pds_appF {i : Nat} (hv : ∀ {sa : TE}, PE X e sa → PE X c (tBM X.K "list" rAppend (tVar i) (tCons sa tNil))) (h : PF X W e ms ta) (h5 : swapsWith c none pos.line X.env = pure false := by rfl) : PDS X W (.Expr c pos) (dAppF i ms ta) := by
  obtain ⟨_, p, l⟩ := h.of
  refine ⟨_, ps_expr (hv p) h5, fun H0 G0 G H σ env B E S L ⟨m, em, hi, q⟩ => ?_⟩
  obtain ⟨fp, S⟩ := S
  obtain ⟨w, hw, ow, nd, kk⟩ := S.slot i _ em
  obtain ⟨q0, vs0, Fs0, ev, ef, hh, n, mm, rr⟩ := ow.child (k := 0) (l := m) rfl (.inl rfl)
  subst ev
  have hq : H q0 = some (.lst vs0) := by
    rcases hh with ⟨_, hh⟩ | ⟨z, _⟩
    · exact hh
    · cases z
  refine ⟨_, hw, .inl ⟨rfl, _, SqL.of hq⟩, l H0 G0 G H σ env fp _ _ _ S (L.le σ env) q fun v H' G' d F x o ⟨hl, q'⟩ => ?_⟩
  obtain ⟨q1, vs, hw1, hq1, n1, S'⟩ := S.append x o em hi
  rw [hw] at hw1
  cases hw1
  exact ⟨q0, vs, v, rfl, rfl, hq1, by rw [n1]; exact hl, L.nx _ _ _ _ x.gg S' q'⟩
/-! ## comprehensions whose elements are data of one's own -/
theorem owns_same {K : PySem.W.Frag} {H0 G H G' H' : Hp} {env : DE} {fp : Nat → List Addr} {vs : List V} {ds : List D} {Fs : List (List Addr)} (r : Owns K H0 G H env fp [] vs ds Fs) (x : Ext G H G' H') : Owns K H0 G' H' env fp [] vs ds Fs := by
  have k : ∀ a ∈ Fs.flatten, H' a = H a ∧ G' a = none := fun a ha => by
    obtain ⟨F, hF, hb⟩ := List.mem_flatten.mp ha
    obtain ⟨i, hi⟩ := List.getElem?_of_mem hF
    have hl := (List.getElem?_eq_some_iff.mp hi).1
    have := r.n
    have := r.m
    have ft := (r.ow i _ _ F (List.getElem?_eq_getElem (by omega)) (List.getElem?_eq_getElem (by omega)) hi).foot a hb
    obtain ⟨u, hu⟩ : ∃ u, H a = some u := by obtain ⟨ws, h | h⟩ := ft <;> exact ⟨_, h⟩
    refine ⟨(x.hh _ _ hu).trans hu.symm, ?_⟩
    cases z : G' a with
    | none => rfl
    | some w =>
      have := x.new a (by rw [z]; simp) (r.nk a ha)
      rw [hu] at this
      cases this
  exact ⟨r.n, r.m, fun i v d F h1 h2 h3 => (r.ow i v d F h1 h2 h3).go (fun a ha => (k a (List.mem_flatten.mpr ⟨F, List.mem_of_getElem? h3, ha⟩)).1) x.gg, r.nd, fun a ha => (k a ha).2, r.fr⟩
/-- one more behind -/
theorem owns_snoc {K : PySem.W.Frag} {H0 G H G' H' : Hp} {env env2 : DE} {fp fp2 : Nat → List Addr} {vs : List V} {ds : List D} {Fs : List (List Addr)} {v : V} {d : D} {F : List Addr} (r : Owns K H0 G H env fp [] vs ds Fs) (s0 : Same H0 H) (x : Ext G H G' H') (o : Own1 K H G' H' env2 fp2 [] v d F) : Owns K H0 G' H' env fp [] (vs ++ [v]) (ds ++ [d]) (Fs ++ [F]) := by
  have r2 := owns_same r x
  have ef : (Fs ++ [F]).flatten = Fs.flatten ++ F := by simp
  have fr : ∀ a ∈ F, H a = none := fun a ha => by
    rcases o.fr a ha with h | ⟨m, hm, _⟩
    · exact h
    · simp at hm
  refine ⟨by simp [r.n], by simp [r.m], fun j u y E h1 h2 h3 => ?_, ?_, fun a ha => ?_, fun a ha => ?_⟩
  · have n := r.n
    have m := r.m
    by_cases hj : j < vs.length
    · rw [List.getElem?_append_left hj] at h1
      rw [List.getElem?_append_left (by omega)] at h2
      rw [List.getElem?_append_left (by omega)] at h3
      exact r2.ow j u y E h1 h2 h3
    · rw [List.getElem?_append_right (by omega)] at h1 h2 h3
      have z : j - vs.length = 0 := by
        have := (List.getElem?_eq_some_iff.mp h1).1
        simp at this
        omega
      rw [z] at h1
      rw [show j - ds.length = 0 by omega] at h2
      rw [show j - Fs.length = 0 by omega] at h3
      cases h1
      cases h2
      cases h3
      exact o.ow
  · rw [ef]
    refine List.nodup_append.mpr ⟨r.nd, o.nd, fun a ha b hb e => ?_⟩
    subst e
    have := fr a hb
    obtain ⟨E, hE, hb2⟩ := List.mem_flatten.mp ha
    obtain ⟨i, hi⟩ := List.getElem?_of_mem hE
    have hl := (List.getElem?_eq_some_iff.mp hi).1
    have := r.n
    have := r.m
    have ft := (r.ow i _ _ E (List.getElem?_eq_getElem (by omega)) (List.getElem?_eq_getElem (by omega)) hi).foot a hb2
    obtain ⟨ws, h | h⟩ := ft <;> (rw [fr a hb] at h; cases h)
  · rw [ef] at ha
    rcases List.mem_append.mp ha with ha | ha
    · exact r2.nk a ha
    · exact o.nk a ha
  · rw [ef] at ha
    rcases List.mem_append.mp ha with ha | ha
    · exact r.fr a ha
    · exact .inl (s0.free (fr a ha))
def dLcF (ti : DTI) (g : DTG) (tt : DTT) (te : DT) (vs : List Nat) : DT := fun env Q ex => dLc ti g tt te vs env (fun l => Q (.lst l)) ex
end
theorem lcF_lift {X : Cx} {W : WX} {ti : TI} {di : DTI} {g : TG} {dg : DTG} {tt : TT} {dt : DTT} {te : TE} {de : DT} {vs : List Nat} {Xb : Cx} (eK : Xb.K = X.K) (hi : LI X W ti di)
    (hg : ∀ (H0 G0 G H : Hp) (σ : L2.St) (env : DE) (v : V) (d : D) (Q : DE → Prop) (R : L2.St → Hp → Prop), SR X.K H0 G0 G H σ env → Rep X.K G v d → dg d env Q → (∀ σ' env', SR X.K H0 G0 G H σ' env' → Q env' → R σ' H) → g v σ H R)
    (hw : GIn vs g)
    (ht : LT Xb WN tt dt) (he : LW Xb WN te [] de) : LW X W (tLc ti g tt te vs) [] (dLcF di dg dt de vs) := fun H0 G0 G H σ env fp Q ex R S L q gg =>
  hi H0 G0 G H σ env _ ex _ ⟨fp, S⟩ L q fun J H1 G1 items x1 j ⟨hs, RR, step, q1⟩ => by
    intro Da nD
    have nG : G1 Da = none := x1.sub.free nD
    refine ⟨fun i m Hc => m = items.length - i ∧ i ≤ items.length ∧ ∃ (Hb Gc : Hp) (vs' : List V) (zs : List (Option D)) (Fs : List (List Addr)), Ext G1 H1 Gc Hb ∧ Hb Da = none ∧ Hc = upd Hb Da (.lst vs') ∧ zs.length = i ∧ (∀ (j : Nat) z, zs[j]? = some z → RR j z) ∧ Owns X.K H1 Gc Hb env fp [] vs' (zs.filterMap id) Fs,
      ⟨items.length, by simp, Nat.zero_le _, H1, G1, [], [], [], .refl x1.sub, nD, rfl, rfl, fun _ _ z => by simp at z, Owns.nil⟩, ?_⟩
    rintro i m Hc ⟨rfl, hi', Hb, Gc, vs', zs, Fs, xb, nb, rfl, hzl, hzR, rr⟩
    have nGc : Gc Da = none := xb.sub.free nb
    have sG : Same Gc (upd Hb Da (.lst vs')) := same_new' xb.sub nb
    by_cases hlt : i < items.length
    · refine .inr ⟨j.go i _ (xb.gg.trans sG) hlt, fun Hn => i + 1 ≤ items.length ∧ ∃ (Hb' Gc' : Hp) (vs2 : List V) (zs2 : List (Option D)) (Fs2 : List (List Addr)), Ext G1 H1 Gc' Hb' ∧ Hb' Da = none ∧ Hn = upd Hb' Da (.lst vs2) ∧ zs2.length = i + 1 ∧ (∀ (j : Nat) z, zs2[j]? = some z → RR j z) ∧ Owns X.K H1 Gc' Hb' env fp [] vs2 (zs2.filterMap id) Fs2, fun H' h' => ⟨items.length - (i + 1), by omega, rfl, h'⟩, fun x H' y => ?_⟩
      obtain ⟨G2, d, hd, x2, r2⟩ := j.yld i _ Gc x H' xb.gg sG hlt y
      have st := step i d hd
      have SB : SR X.K H0 G0 Gc (upd Hb Da (.lst vs')) σ env := SR.ex ⟨fp, (S.ex x1).ex xb⟩ (Ext.hid xb.sub nb)
      have SC := (SB.ex x2).wipe vs
      refine hw x _ H' _ _ (fun σ2 H2 e r => ⟨e.trans (wipe_wipe σ vs), r⟩) (hg H0 G0 G2 H' _ _ x d _ _ SC r2 st fun σ2 env2 S2 q2 => ?_)
      have key : ∀ H3 G3, Ext G2 H' G3 H3 → ∃ Hb3, H3 = upd Hb3 Da (.lst vs') ∧ Ext Gc Hb G3 Hb3 ∧ Hb3 Da = none ∧ G3 Da = none := fun H3 G3 x3 => by
        have x23 := x2.trans x3
        have eD : H3 Da = some (.lst vs') := x23.hh _ _ upd_same
        have g3D : G3 Da = none := by
          cases z : G3 Da with
          | none => rfl
          | some o =>
            have := x23.new Da (by rw [z]; simp) nGc
            rw [upd_same] at this
            cases this
        refine ⟨fun b => if b = Da then none else H3 b, ?_, ⟨fun b u e => ?_, x23.gg, fun b u e => ?_, fun b h1 h2 => ?_⟩, if_pos rfl, g3D⟩
        · funext b
          by_cases hb : b = Da
          · subst hb
            rw [eD, upd_same]
          · rw [upd_ne hb]
            exact (if_neg hb).symm
        · have hb : b ≠ Da := ne_of_none e nb
          show (if b = Da then none else H3 b) = some u
          rw [if_neg hb]
          refine x23.hh _ _ ?_
          rw [upd_ne hb]
          exact e
        · have hb : b ≠ Da := ne_of_none e g3D
          show (if b = Da then none else H3 b) = some u
          rw [if_neg hb]
          exact x23.sub _ _ e
        · have := x23.new b h1 h2
          by_cases hb : b = Da
          · subst hb; exact nb
          · rw [upd_ne hb] at this
            exact this
      refine ht H0 G0 G2 H' σ2 env2 _ (fun _ _ => False) _ (by rw [eK]; exact S2) (fun _ _ _ _ _ _ _ _ _ _ z => z.elim) q2 fun bb H3 G3 x3 q3 => ?_
      cases bb with
      | true =>
        simp only [if_true] at q3 ⊢
        obtain ⟨fp2, S3⟩ := S2.ex x3
        refine he H0 G0 G3 H3 σ2 env2 fp2 _ (fun _ _ => False) _ (by rw [eK]; exact S3) (fun _ _ _ _ _ _ _ _ _ _ z => z.elim) q3 fun w H4 G4 d4 F4 x4 o4 q4 => ?_
        obtain ⟨Hb3, e3, xb3, n3, g3⟩ := key H3 G3 x3
        obtain ⟨Hb4, e4, xb4, n4, g4⟩ := key H4 G4 (x3.trans x4)
        rw [eK] at o4
        have lt : vs'.length < sizeLine := by
          rw [rr.n]
          exact Nat.lt_of_le_of_lt (List.length_filterMap_le _ _) (by omega)
        -- what came is not Da
        have hD : Da ∉ F4 := fun z => by
          rcases o4.fr Da z with h | ⟨m, hm, _⟩
          · rw [e3, upd_same] at h; cases h
          · simp at hm
        have o4' : Own1 X.K Hb G4 Hb4 env2 fp2 [] w d4 F4 := ⟨o4.ow.go (fun a ha => by rw [e4]; exact (upd_ne fun e => hD (by rw [← e]; exact ha)).symm) (.refl _), o4.nd, o4.nk, fun a ha => by
          rcases o4.fr a ha with h | ⟨m, hm, _⟩
          · left
            have h1 : Hb3 a = none := by
              rw [e3] at h
              rwa [upd_ne (fun e => hD (by rw [← e]; exact ha))] at h
            exact xb3.hh.free h1
          · simp at hm⟩
        refine ⟨vs', by rw [e4, upd_same], lt, by omega, Hb4, G4, vs' ++ [w], zs ++ [some d4], Fs ++ [F4], xb.trans xb4, n4, ?_, by simp [hzl], snoc_all hzl hzR (q4 trivial), ?_⟩
        · rw [e4]
          funext b
          by_cases hb : b = Da
          · subst hb
            rw [upd_same, upd_same]
          · rw [upd_ne hb, upd_ne hb, upd_ne hb]
        · rw [filt_snoc]
          exact owns_snoc rr xb.hh xb4 o4'
      | false =>
        simp only [Bool.false_eq_true, if_false] at q3 ⊢
        obtain ⟨Hb3, e3, xb3, n3, s3⟩ := key H3 G3 x3
        refine ⟨by omega, Hb3, G3, vs', zs ++ [none], Fs, xb.trans xb3, n3, e3, by simp [hzl], snoc_all hzl hzR (q3 trivial), ?_⟩
        rw [filt_snoc]
        simpa using owns_same rr xb3
    · have e : i = items.length := by omega
      subst e
      refine .inl ⟨j.stop _ (xb.gg.trans sG), ?_⟩
      have r2 : Owns X.K H Gc Hb env fp [] vs' (zs.filterMap id) Fs := ⟨rr.n, rr.m, rr.ow, rr.nd, rr.nk, fun a ha => by
        rcases rr.fr a ha with h | ⟨m, hm, _⟩
        · exact .inl (x1.hh.free h)
        · simp at hm⟩
      obtain ⟨x3, o⟩ := r2.lst (x1.trans xb) nb
      exact gg _ _ _ _ _ x3 o (q1 zs (by omega) hzR)
theorem pf_all {ι : Type} {Xf : ι → Cx} {X : Cx} {W : WX} {e : Expr} {ms : List Nat} {t : DT} (hK : ∀ i, (Xf i).K = X.K) (h : ∀ i, PF (Xf i) W e ms t) : ∃ te, (∀ i, PE (Xf i) e te) ∧ LW X W te ms t := by
  refine ⟨fun σ H Q => ∀ i, (h i).of.choose σ H Q, fun i => ⟨fun pins s σ H Q I q => (h i).of.choose_spec.1.run pins s σ H Q I (q i)⟩, fun H0 G0 G H σ env fp Q ex R S L q g i => ?_⟩
  exact (h i).of.choose_spec.2 H0 G0 G H σ env fp Q ex R (by rw [hK]; exact S) (by rw [hK]; exact L) q (by rw [hK]; exact g)
section
variable {X : Cx} {W : WX} {tg elt iter : Expr} {pos : Pos}
theorem pf_lc {ifs : List Expr} {scope : Scope} {own : List (Str × Nat)} {di : DTI} {dg : DTG} {dt : DTT} {de : DT} {ix : List Nat} (hc : X.calm = true) (hN : X.N.Nodup) (hi : PDI X W tg iter di) (ok : BlkOk X.N X.env.scope scope own) (hx : ∀ i ∈ ix, i ∈ own.map (·.2))
    (hg : ∀ (s : Shared) (H : Hp) (C : Addr) (cl : List (Str × Addr)) (fp : List Addr), PDG (X.blk s H scope (compEnvC scope cl C X.env) fp) tg ix dg) (ht : ∀ (s : Shared) (H : Hp) (C : Addr) (cl : List (Str × Addr)) (fp : List Addr), PDTs (X.blk s H scope (compEnvC scope cl C X.env) fp) ifs dt)
    (he : ∀ (s : Shared) (H : Hp) (C : Addr) (cl : List (Str × Addr)) (fp : List Addr), PF (X.blk s H scope (compEnvC scope cl C X.env) fp) WN elt [] de) (hs : ∀ x, foldedSetIterable iter X.env x = pure x := by intro _; rfl) :
    PF X W (.ListComp elt [⟨tg, iter, ifs, 0⟩] scope pos) [] (dLcF di dg dt de (own.map (·.2))) := by
  obtain ⟨ti, pi, li⟩ := hi.of
  let Xf : (Shared × Hp × Addr × List (Str × Addr) × List Addr) → Cx := fun q => X.blk q.1 q.2.1 scope (compEnvC scope q.2.2.2.1 q.2.2.1 X.env) q.2.2.2.2
  obtain ⟨g, pg, lg, ig⟩ := pdg_all (Xf := Xf) (X := X) (fun _ => rfl) fun q => hg q.1 q.2.1 q.2.2.1 q.2.2.2.1 q.2.2.2.2
  obtain ⟨tt, pt, lt⟩ := pdts_all (Xf := Xf) (X := X) (fun _ => rfl) fun q => ht q.1 q.2.1 q.2.2.1 q.2.2.2.1 q.2.2.2.2
  obtain ⟨te, pe, le⟩ := pf_all (Xf := Xf) (X := X) (fun _ => rfl) fun q => he q.1 q.2.1 q.2.2.1 q.2.2.2.1 q.2.2.2.2
  exact ⟨_, pe_lc hc hN pi ok (fun s H C cl fp => pg (s, H, C, cl, fp)) (fun s H C cl fp => pt (s, H, C, cl, fp)) (fun s H C cl fp => pe (s, H, C, cl, fp)) hs, lcF_lift rfl li lg (ig _ hx) lt le⟩
theorem pds_lcF {i : Nat} {y : Str} {py spos : Pos} {ifs : List Expr} {scope : Scope} {own : List (Str × Nat)} {di : DTI} {dg : DTG} {dt : DTT} {de : DT} {ix : List Nat} (hc : X.calm = true) (hN : X.N.Nodup) (hy : X.N[i]? = some y) (hyl : X.env.scope.names.lookup y = some .local)
    (hsw : swapsWith (.ListComp elt [⟨tg, iter, ifs, 0⟩] scope pos) (some (.Name y py)) spos.line X.env = pure true) (hi : PDI X W tg iter di) (ok : BlkOk X.N X.env.scope scope own) (hx : ∀ i ∈ ix, i ∈ own.map (·.2))
    (hg : ∀ (s : Shared) (H : Hp) (C : Addr) (cl : List (Str × Addr)) (fp : List Addr), PDG (X.blk s H scope (compEnvC scope cl C X.env) fp) tg ix dg) (ht : ∀ (s : Shared) (H : Hp) (C : Addr) (cl : List (Str × Addr)) (fp : List Addr), PDTs (X.blk s H scope (compEnvC scope cl C X.env) fp) ifs dt)
    (he : ∀ (s : Shared) (H : Hp) (C : Addr) (cl : List (Str × Addr)) (fp : List Addr), PF (X.blk s H scope (compEnvC scope cl C X.env) fp) WN elt [] de) (hs : ∀ x, foldedSetIterable iter X.env x = pure x := by intro _; rfl) :
    PDS X W (.Assign [.Name y py] (.ListComp elt [⟨tg, iter, ifs, 0⟩] scope pos) spos) (dSetF i [] (dLcF di dg dt de (own.map (·.2)))) := by
  obtain ⟨ti, pi, li⟩ := hi.of
  let Xf : (Shared × Hp × Addr × List (Str × Addr) × List Addr) → Cx := fun q => X.blk q.1 q.2.1 scope (compEnvC scope q.2.2.2.1 q.2.2.1 X.env) q.2.2.2.2
  obtain ⟨g, pg, lg, ig⟩ := pdg_all (Xf := Xf) (X := X) (fun _ => rfl) fun q => hg q.1 q.2.1 q.2.2.1 q.2.2.2.1 q.2.2.2.2
  obtain ⟨tt, pt, lt⟩ := pdts_all (Xf := Xf) (X := X) (fun _ => rfl) fun q => ht q.1 q.2.1 q.2.2.1 q.2.2.2.1 q.2.2.2.2
  obtain ⟨te, pe, le⟩ := pf_all (Xf := Xf) (X := X) (fun _ => rfl) fun q => he q.1 q.2.1 q.2.2.1 q.2.2.2.1 q.2.2.2.2
  exact pds_setFg (ps_setLc (py := py) (spos := spos) hc hN hy hyl hsw pi ok (fun s H C cl fp => pg (s, H, C, cl, fp)) (fun s H C cl fp => pt (s, H, C, cl, fp)) (fun s H C cl fp => pe (s, H, C, cl, fp)) hs) (lcF_lift rfl li lg (ig _ hx) lt le)
end
end DL

namespace DL
open PySem PySem.Spec PyProof.Rows L2 LR
section
variable {X : Cx} {W : WX} {e tg : Expr} {u v : DTI} {K : PySem.W.Frag}
/-! a walk over what is a list or a tuple -/
def eith (b : Bool) (A B : Prop) : Prop := match b with | true => A | false => B
theorem eith_l {A B : Prop} (h : A) : ∃ b, eith b A B := ⟨true, h⟩
theorem eith_r {A B : Prop} (h : B) : ∃ b, eith b A B := ⟨false, h⟩
theorem pdi_or (ha : PDI X W tg e u) (hb : PDI X W tg e v) : PDI X W tg e (fun env Q ex => ∃ b, eith b (u env Q ex) (v env Q ex)) := by
  obtain ⟨ta, pa, la⟩ := ha.of
  obtain ⟨tb, pb, lb⟩ := hb.of
  refine ⟨_, PI.or pa pb, fun H0 G0 G H σ env Q ex R S L q g => ?_⟩
  obtain ⟨b, q⟩ := q
  cases b with
  | true => exact .inl (la H0 G0 G H σ env Q ex R S L q g)
  | false => exact .inr (lb H0 G0 G H σ env Q ex R S L q g)
end
end DL

namespace DL
open PySem PySem.Spec PyProof.Rows L2 LR
section
variable {X : Cx} {K : PySem.W.Frag}
/-! x[i] where x is a list or a tuple -/
theorem ix_or {r q : R2} (h : IxR X r) (g : IxR X q) : IxR X (fun x y H Q => r x y H Q ∨ q x y H Q) := by
  intro ve se pins s σ H x y v u Q I r1 r2 z op
  rcases z with z | z
  · exact h ve se pins s σ H x y v u Q I r1 r2 z op
  · exact g ve se pins s σ H x y v u Q I r1 r2 z op
def itemsD : D → List D
  | .lst l => l | .tup l => l | _ => []
def dIxQ : R2D := fun a b Q => ∃ k x, b = .int k ∧ atI (itemsD a) k = some x ∧ Q x
theorem l_ixQ : L2R K (fun x y H Q => rIxL K x y H Q ∨ rIxT K x y H Q) dIxQ := fun G H x y a b Q R s r1 r2 ⟨k, z, e2, h, q⟩ g => by
  cases a with
  | lst l => exact .inl (l_ixL G H x y _ b Q R s r1 r2 ⟨l, k, z, rfl, e2, h, q⟩ g)
  | tup l => exact .inr (l_ixT G H x y _ b Q R s r1 r2 ⟨l, k, z, rfl, e2, h, q⟩ g)
  | _ => exact absurd h (by
      show ¬ atI [] k = some z
      intro h
      simp [atI] at h)
end
end DL

/-! a comprehension of two iterables -/
namespace DL
open PySem PySem.Spec PyProof.Rows L2 LR
section
variable {K : PySem.W.Frag} {H0 G0 G H G' H' Hb : Hp} {σ : L2.St} {env : DE}
/-- a thing of the machine's is put aside: nobody of the frame has it -/
theorem SR.hide (S : SR K H0 G0 G H σ env) {p : Addr} {o : HO} (n : H p = none) : SR K (upd H0 p o) G0 G (upd H p o) σ env := by
  obtain ⟨fp, S⟩ := S
  have n0 := S.same.free n
  refine ⟨fp, fun b u e => ?_, same_new' S.sub n, S.g0, fun a h1 h2 => ?_, S.len, fun i s hi => ?_, S.apart⟩
  · by_cases hb : b = p
    · subst hb
      rw [upd_same] at e ⊢
      exact e
    · rw [upd_ne hb] at e ⊢
      exact S.same _ _ e
  · have ne : a ≠ p := fun e => h1 (by rw [e]; exact S.sub.free n)
    rw [upd_ne ne]
    exact S.ext a h1 h2
  · have h := S.slot i s hi
    have f := h.foot
    have ne : ∀ a ∈ fp i, a ≠ p := fun a ha e => by
      obtain ⟨⟨u, hu⟩, _⟩ := f a ha
      rw [e, n] at hu
      cases hu
    have h2 : SlOk K H0 G (upd H p o) (σ[i]?) (fp i) s := h.go (fun a ha => ⟨upd_ne (ne a ha), (f a ha).2.2.1⟩) (.refl _) fun a fv e => by rw [upd_ne (ne_of_none e n)]; exact e
    cases s with
    | no => exact h2
    | val d => exact h2
    | exc a dd x fs => exact h2
    | own l =>
      obtain ⟨q, vs, e1, e, hp, gp, op, r⟩ := h2
      exact ⟨q, vs, e1, e, hp, gp, by rw [upd_ne (ne q (by rw [e1]; simp))]; exact op, r⟩
    | ob q c fs =>
      obtain ⟨dx, fv, e1, e, hp, gp, op, r⟩ := h2
      exact ⟨dx, fv, e1, e, hp, gp, by rw [upd_ne (ne q (by rw [e1]; simp))]; exact op, r⟩
    | ow d =>
      obtain ⟨w, e, ow, nd, k⟩ := h2
      exact ⟨w, e, ow, nd, fun a ha => ⟨(k a ha).1, by rw [upd_ne (ne a ha)]; exact (k a ha).2⟩⟩
/-- .. and taken out again -/
theorem SR.unhide {p : Addr} {o : HO} (S : SR K (upd H0 p o) G0 G (upd Hb p o) σ env) (n : Hb p = none) (n0 : H0 p = none) (ng : G p = none) (hx : ∀ fv, o ≠ .xd fv) : SR K H0 G0 G Hb σ env := by
  obtain ⟨fp, S⟩ := S
  refine ⟨fp, fun b u e => ?_, fun b u e => ?_, S.g0, fun a h1 h2 => ?_, S.len, fun i s hi => ?_, S.apart⟩
  · have hb : b ≠ p := ne_of_none e n0
    have := S.same b u (by rw [upd_ne hb]; exact e)
    rw [upd_ne hb] at this
    exact this
  · have hb : b ≠ p := ne_of_none e ng
    have := S.sub b u e
    rw [upd_ne hb] at this
    exact this
  · have hb : a ≠ p := fun e => h1 (by rw [e]; exact ng)
    have := S.ext a h1 h2
    rw [upd_ne hb] at this
    exact this
  · have h := S.slot i s hi
    have f := h.foot
    have ne : ∀ a ∈ fp i, a ≠ p := fun a ha e => by
      obtain ⟨_, _, _, z⟩ := f a ha
      rw [e, upd_same] at z
      cases z
    have h2 : SlOk K (upd H0 p o) G Hb (σ[i]?) (fp i) s := h.go (fun a ha => ⟨(upd_ne (ne a ha)).symm, (f a ha).2.2.1⟩) (.refl _) fun a fv e => by
      by_cases ha : a = p
      · subst ha
        rw [upd_same] at e
        exact absurd (Option.some.inj e) (hx fv)
      · rw [upd_ne ha] at e
        exact e
    cases s with
    | no => exact h2
    | val d => exact h2
    | exc a dd x fs => exact h2
    | own l =>
      obtain ⟨q, vs, e1, e, hp, gp, op, r⟩ := h2
      exact ⟨q, vs, e1, e, hp, gp, by rw [upd_ne (ne q (by rw [e1]; simp))] at op; exact op, r⟩
    | ob q c fs =>
      obtain ⟨dx, fv, e1, e, hp, gp, op, r⟩ := h2
      exact ⟨dx, fv, e1, e, hp, gp, by rw [upd_ne (ne q (by rw [e1]; simp))] at op; exact op, r⟩
    | ow d =>
      obtain ⟨w, e, ow, nd, k⟩ := h2
      exact ⟨w, e, ow, nd, fun a ha => ⟨(k a ha).1, by have := (k a ha).2; rw [upd_ne (ne a ha)] at this; exact this⟩⟩
/-- what comes while a thing is put aside -/
theorem Ext.aside {p : Addr} {o : HO} {H3 G3 : Hp} (s : Same G Hb) (n : Hb p = none) (x : Ext G (upd Hb p o) G3 H3) : ∃ Hb3, H3 = upd Hb3 p o ∧ Ext G Hb G3 Hb3 ∧ Hb3 p = none := by
  have gD : G p = none := s.free n
  have eD : H3 p = some o := x.hh _ _ upd_same
  have g3D : G3 p = none := by
    cases z : G3 p with
    | none => rfl
    | some u =>
      have := x.new p (by rw [z]; simp) gD
      rw [upd_same] at this
      cases this
  refine ⟨fun b => if b = p then none else H3 b, ?_, ⟨fun b u e => ?_, x.gg, fun b u e => ?_, fun b h1 h2 => ?_⟩, if_pos rfl⟩
  · funext b
    by_cases hb : b = p
    · subst hb
      rw [eD, upd_same]
    · rw [upd_ne hb]
      exact (if_neg hb).symm
  · have hb : b ≠ p := ne_of_none e n
    show (if b = p then none else H3 b) = some u
    rw [if_neg hb]
    refine x.hh _ _ ?_
    rw [upd_ne hb]
    exact e
  · have hb : b ≠ p := ne_of_none e g3D
    show (if b = p then none else H3 b) = some u
    rw [if_neg hb]
    exact x.sub _ _ e
  · have := x.new b h1 h2
    by_cases hb : b = p
    · subst hb; exact n
    · rw [upd_ne hb] at this
      exact this
end
/-- [elt for target in iter for target in iter]: R what holds of what the i-th turn gives -/
def dLc2 (ti : DTI) (g : DTG) (ti1 : DTI) (g1 : DTG) (te : DT) (vs vs1 : List Nat) : DTN := fun env Q ex => ti env (fun items => items.length ≤ 4000 ∧ ∃ R : Nat → List D → Prop,
  (∀ (i : Nat) x, items[i]? = some x → g x (wipeD env vs) fun env2 => ti1 env2 (fun its => its.length ≤ 4000 ∧ ∃ R1 : Nat → D → Prop, (∀ (j : Nat) y, its[j]? = some y → g1 y (wipeD env2 vs1) fun env3 => te env3 (fun d => True → R1 j d) (fun _ _ => False)) ∧
    ∀ zs : List D, zs.length = its.length → (∀ (j : Nat) z, zs[j]? = some z → R1 j z) → R i zs) (fun _ _ => False)) ∧
  ∀ zss : List (List D), zss.length = items.length → (∀ (i : Nat) z, zss[i]? = some z → R i z) → Q zss.flatten) ex
theorem flat_len {zss : List (List D)} {n : Nat} (h : ∀ zs ∈ zss, zs.length ≤ n) : zss.flatten.length ≤ n * zss.length := by
  induction zss with
  | nil => simp
  | cons z zss ih =>
    have h1 := h z List.mem_cons_self
    have h2 := ih fun zs hz => h zs (List.mem_cons_of_mem _ hz)
    rw [List.flatten_cons, List.length_append, List.length_cons, Nat.mul_succ]
    omega
theorem lc2_lift {X : Cx} {W : WX} {ti ti1 : TI} {di di1 : DTI} {g g1 : TG} {dg dg1 : DTG} {te : TE} {de : DT} {vs vs1 : List Nat} {Xb : Cx} (eK : Xb.K = X.K) (hi : LI X W ti di)
    (hg : ∀ (H0 G0 G H : Hp) (σ : L2.St) (env : DE) (v : V) (d : D) (Q : DE → Prop) (R : L2.St → Hp → Prop), SR X.K H0 G0 G H σ env → Rep X.K G v d → dg d env Q → (∀ σ' env', SR X.K H0 G0 G H σ' env' → Q env' → R σ' H) → g v σ H R)
    (hw : GIn vs g) (hi1 : LI Xb WN ti1 di1)
    (hg1 : ∀ (H0 G0 G H : Hp) (σ : L2.St) (env : DE) (v : V) (d : D) (Q : DE → Prop) (R : L2.St → Hp → Prop), SR X.K H0 G0 G H σ env → Rep X.K G v d → dg1 d env Q → (∀ σ' env', SR X.K H0 G0 G H σ' env' → Q env' → R σ' H) → g1 v σ H R)
    (hw1 : GIn vs1 g1) (he : LE Xb WN te de) : LN X W (tLc2 ti g tYes ti1 g1 tYes te vs vs1) (dLc2 di dg di1 dg1 de vs vs1) := fun H0 G0 G H σ env Q ex R S L q gg =>
  hi H0 G0 G H σ env _ ex _ S L q fun J H1 G1 items x1 j ⟨hs, RR, step, q1⟩ => by
    intro Da nD
    have nG : G1 Da = none := x1.sub.free nD
    have S1 := S.ex x1
    have n0 : H0 Da = none := S1.same.free nD
    have hsl : sizeLine = 16777216 := sizeLine_eq
    refine ⟨fun i m Hc => m = items.length - i ∧ i ≤ items.length ∧ ∃ (Hb Gc : Hp) (vs' : List V) (zss : List (List D)), Ext G1 H1 Gc Hb ∧ Hb Da = none ∧ Hc = upd Hb Da (.lst vs') ∧ zss.length = i ∧ (∀ (j : Nat) z, zss[j]? = some z → RR j z) ∧ (∀ z ∈ zss, z.length ≤ 4000) ∧ Reps X.K Gc vs' zss.flatten, ⟨items.length, by simp, Nat.zero_le _, H1, G1, [], [], .refl x1.sub, nD, rfl, rfl, fun _ _ z => by simp at z, fun _ z => by simp at z, by simpa using Reps.nil⟩, ?_⟩
    rintro i m Hc ⟨rfl, hi', Hb, Gc, vs', zss, xb, nb, rfl, hzl, hzR, hz4, rr⟩
    have nGc : Gc Da = none := xb.sub.free nb
    have sG : Same Gc (upd Hb Da (.lst vs')) := same_new' xb.sub nb
    by_cases hlt : i < items.length
    · refine .inr ⟨j.go i _ (xb.gg.trans sG) hlt, fun Hn => i + 1 ≤ items.length ∧ ∃ (Hb' Gc' : Hp) (vs2 : List V) (zs2 : List (List D)), Ext G1 H1 Gc' Hb' ∧ Hb' Da = none ∧ Hn = upd Hb' Da (.lst vs2) ∧ zs2.length = i + 1 ∧ (∀ (j : Nat) z, zs2[j]? = some z → RR j z) ∧ (∀ z ∈ zs2, z.length ≤ 4000) ∧ Reps X.K Gc' vs2 zs2.flatten, fun H' h' => ⟨items.length - (i + 1), by omega, rfl, h'⟩, fun x H' y => ?_⟩
      obtain ⟨G2, d, hd, x2, r2⟩ := j.yld i _ Gc x H' xb.gg sG hlt y
      have st := step i d hd
      obtain ⟨Hb2, rfl, xb2, nb2⟩ := Ext.aside xb.sub nb x2
      have SA : SR X.K (upd H0 Da (.lst vs')) G0 G2 (upd Hb2 Da (.lst vs')) (L2.wipe σ vs) (wipeD env vs) := (((S1.ex xb).ex xb2).hide nb2).wipe vs
      refine hw x _ _ _ _ (fun σ2 H2 e r => ⟨e.trans (wipe_wipe σ vs), r⟩) (hg _ G0 G2 _ _ _ x d _ _ SA r2 st fun σ2 env2 S2 q2 => ?_)
      unfold tYes
      simp only [if_true]
      refine hi1 _ G0 G2 _ σ2 env2 _ (fun _ _ => False) _ (by rw [eK]; exact S2) (fun _ _ _ _ _ _ _ _ _ _ z => z.elim) q2 fun J1 H4 G4 its x4 j1 ⟨hs1, RR1, step1, q3⟩ => ?_
      rw [eK] at j1
      obtain ⟨Hb4, rfl, xb4, nb4⟩ := Ext.aside xb2.sub nb2 x4
      have xc : Ext G1 H1 G4 Hb4 := (xb.trans xb2).trans xb4
      have S4 : SR X.K H0 G0 G4 Hb4 σ2 env2 := (S2.ex x4).unhide nb4 n0 (xb4.sub.free nb4) (fun fv z => nomatch z)
      refine ⟨fun jj k Hc => k = its.length - jj ∧ jj ≤ its.length ∧ ∃ (Hb5 G5 : Hp) (vs5 : List V) (zs : List D), Ext G4 Hb4 G5 Hb5 ∧ Hb5 Da = none ∧ Hc = upd Hb5 Da (.lst vs5) ∧ zs.length = jj ∧ (∀ (j : Nat) z, zs[j]? = some z → RR1 j z) ∧ Reps X.K G5 vs5 (zss.flatten ++ zs),
        ⟨its.length, by simp, Nat.zero_le _, Hb4, G4, vs', [], .refl xb4.sub, nb4, rfl, rfl, fun _ _ z => by simp at z, by rw [List.append_nil]; exact rr.same (xb2.gg.trans xb4.gg)⟩, ?_⟩
      rintro jj k Hc ⟨rfl, hj', Hb5, G5, vs5, zs, xb5, nb5, rfl, hzl5, hzR5, rr5⟩
      have sG5 : Same G5 (upd Hb5 Da (.lst vs5)) := same_new' xb5.sub nb5
      by_cases hlt1 : jj < its.length
      · refine .inr ⟨j1.go jj _ (xb5.gg.trans sG5) hlt1, fun Hn => jj + 1 ≤ its.length ∧ ∃ (Hb' Gc' : Hp) (vs2 : List V) (zs2 : List D), Ext G4 Hb4 Gc' Hb' ∧ Hb' Da = none ∧ Hn = upd Hb' Da (.lst vs2) ∧ zs2.length = jj + 1 ∧ (∀ (j : Nat) z, zs2[j]? = some z → RR1 j z) ∧ Reps X.K Gc' vs2 (zss.flatten ++ zs2), fun H' h' => ⟨its.length - (jj + 1), by omega, rfl, h'⟩, fun x5 H5' y5 => ?_⟩
        obtain ⟨G6, d6, hd6, x6, r6⟩ := j1.yld jj _ G5 x5 H5' xb5.gg sG5 hlt1 y5
        have st1 := step1 jj d6 hd6
        obtain ⟨Hb6, rfl, xb6, nb6⟩ := Ext.aside xb5.sub nb5 x6
        have SB : SR X.K (upd H0 Da (.lst vs5)) G0 G6 (upd Hb6 Da (.lst vs5)) (L2.wipe σ2 vs1) (wipeD env2 vs1) := (((S4.ex xb5).ex xb6).hide nb6).wipe vs1
        refine hw1 x5 _ _ _ _ (fun σ3 H3 e r => ⟨e.trans (wipe_wipe σ2 vs1), r⟩) (hg1 _ G0 G6 _ _ _ x5 d6 _ _ SB r6 st1 fun σ3 env3 S3 q4 => ?_)
        refine he _ G0 G6 _ σ3 env3 _ (fun _ _ => False) _ (by rw [eK]; exact S3) (fun _ _ _ _ _ _ _ _ _ _ z => z.elim) q4 fun w H7 G7 d7 x7 r7 q7 => ?_
        obtain ⟨Hb7, rfl, xb7, nb7⟩ := Ext.aside xb6.sub nb6 x7
        rw [eK] at r7
        have hfl := flat_len hz4
        have lt : vs5.length < sizeLine := by
          rw [rr5.1, List.length_append, hsl]
          have : 4000 * zss.length ≤ 4000 * 4000 := Nat.mul_le_mul_left _ (by omega)
          omega
        refine ⟨vs5, upd_same, lt, by omega, Hb7, G7, vs5 ++ [w], zs ++ [d7], (xb5.trans xb6).trans xb7, nb7, ?_, by simp [hzl5], snoc_all hzl5 hzR5 (q7 trivial), ?_⟩
        · funext b
          by_cases hb : b = Da
          · subst hb
            rw [upd_same, upd_same]
          · rw [upd_ne hb, upd_ne hb, upd_ne hb]
        · rw [← List.append_assoc]
          exact (rr5.same (xb6.gg.trans xb7.gg)).app (.one r7)
      · have e : jj = its.length := by omega
        subst e
        refine .inl ⟨j1.stop _ (xb5.gg.trans sG5), by omega, Hb5, G5, vs5, zss ++ [zs], xc.trans xb5, nb5, rfl, by simp [hzl], snoc_all hzl hzR (q3 zs hzl5 hzR5), fun z hz => ?_, by rw [List.flatten_append]; simpa using rr5⟩
        rcases List.mem_append.mp hz with hz | hz
        · exact hz4 z hz
        · rw [List.mem_singleton.mp hz, hzl5]
          exact hs1
    · have e : i = items.length := by omega
      subst e
      refine .inl ⟨j.stop _ (xb.gg.trans sG), ?_⟩
      exact gg Da vs' _ Hb Gc _ (x1.trans xb) nb rfl rr (q1 zss (by omega) hzR)
end DL

/-! t[::-1] of a tuple; lcm of long numbers; a call of an instance -/
namespace HT
open PySem PySem.Calls PyProof.Rows
section
variable {prog : Program} {w : World} {A : Around} {E : Value → Shared → Prop} {s : Shared}
theorem adjust_rev (n : Nat) : Builtin.Slice.sliceAdjust none none (-1) (n : Int) = ((n : Int) - 1, -1) := by
  unfold Builtin.Slice.sliceAdjust
  rfl
theorem places_rev (n : Nat) : Builtin.Slice.slicePlaces ((n : Int) - 1) (-1) (-1) = n := by
  unfold Builtin.Slice.slicePlaces
  have h1 : ¬ ((-1 : Int) > 0) := by omega
  have h2 : (-(-1) : Int) = 1 := rfl
  rw [h2]
  simp only [h1, if_false, Int.ediv_one]
  split <;> omega
theorem fm_map {α β : Type} {f : α → Option β} {g : α → β} : ∀ {l : List α}, (∀ a ∈ l, f a = some (g a)) → l.filterMap f = l.map g
  | [], _ => rfl
  | a :: l, h => by
    rw [List.filterMap_cons, h a List.mem_cons_self, List.map_cons]
    exact congrArg _ (fm_map fun b hb => h b (List.mem_cons_of_mem _ hb))
theorem pick_rev (xs : Array Value) : ((List.range xs.size).filterMap fun (m : Nat) => xs[(((xs.size : Int) - 1) + (m : Int) * (-1)).toNat]?) = xs.toList.reverse := by
  refine List.ext_getElem? fun i => ?_
  have e : ((List.range xs.size).filterMap fun (m : Nat) => xs[(((xs.size : Int) - 1) + (m : Int) * (-1)).toNat]?) = (List.range xs.size).map fun m => xs.toList.getD (xs.size - 1 - m) .none := by
    refine fm_map fun m hm => ?_
    have hm : m < xs.size := by simpa using hm
    have e1 : (((xs.size : Int) - 1) + (m : Int) * (-1)).toNat = xs.size - 1 - m := by omega
    have h1 : xs.size - 1 - m < xs.size := by omega
    rw [e1, List.getD_eq_getElem?_getD]
    simp [h1]
  rw [e, List.getElem?_map]
  by_cases hi : i < xs.size
  · rw [List.getElem?_range hi, List.getElem?_reverse (by simpa using hi), Array.length_toList]
    have h1 : xs.size - 1 - i < xs.size := by omega
    simp [List.getD_eq_getElem?_getD, h1]
  · rw [List.getElem?_eq_none (by simpa using hi), List.getElem?_eq_none (by simpa using hi)]
    rfl
theorem getItem_tuple_rev {t sl : Addr} {items : Array Value} {vl vu vs : Value} {Q : Value → Shared → Prop} (ht : IsTup s.heap t items) (hs : s.heap.IsSliceOf sl vl vu vs) (pl : IsPart vl none) (pu : IsPart vu none) (ps : IsPart vs (some (-1)))
    (h : Q (.ref s.heap.objs.size) { s with heap := s.heap.push { cls := .type "tuple", data := .seq items.toList.reverse.toArray } })
    (hsz : items.size ≤ sizeLine) : wpAny (model prog w) A (getItem (.ref t) (.ref sl)) Q E s := by
  have htake : sizeOk (.seq items.toList.reverse.toArray) := by
    show items.toList.reverse.toArray.size ≤ sizeLine
    rw [List.size_toArray, List.length_reverse, Array.length_toList]
    omega
  obtain ⟨os, hos, hcs, hds⟩ := id hs
  have hTs : s.TypeIs (.ref sl) "slice" := ⟨os, hos, hcs⟩
  unfold getItem
  try with_reducible refine wpAny_holding ?_
  first | refine wpAny_bind (wpAny_pure ?_) | skip
  refine wpAny_bind (wpAny_sequenceKey ht.typeIs (by decide) ?_)
  refine wpAny_bind (wpAny_callSpecial?_slot (name := Str.ofString "__getitem__") ht.typeIs PyProof.Rows.slot_tuple_getitem
    (wpAny_call_entry PyProof.Rows.slot_tuple_getitem ht.typeIs entry_tuple_getitem ?_ (args_tuple_getitem _ _)))
  show wpAny _ _ (Builtin.Tuple.tupleItemsOf (.ref t) >>= _) _ _ s
  refine wpAny_bind (tupleItemsOf_ ht ?_)
  refine wpAny_bind (wpAny_typeOf hTs ?_)
  rw [if_pos (by decide)]
  refine wpAny_bind ?_
  · unfold Builtin.Slice.sliceApplied Builtin.Slice.sliceFields
    refine wpAny_bind (wpAny_bind (wpAny_field hos hds (x := vl) rfl (wpAny_bind (wpAny_field hos hds (x := vu) rfl (wpAny_bind (wpAny_field hos hds (x := vs) rfl (wpAny_pure ?_)))))))
    refine wpAny_bind (slicePart_ ps ?_)
    show wpAny _ _ (if ((-1 : Int) == 0) = true then _ else _) _ _ s
    rw [if_neg (by decide)]
    refine wpAny_bind (slicePart_ pl (wpAny_bind (slicePart_ pu (wpAny_bind (wpAny_pure ?_)))))
    show wpAny _ _ (match Builtin.Slice.sliceAdjust none none (-1) (items.size : Int) with | (lo, hi) => pure (lo, (-1 : Int), Builtin.Slice.slicePlaces lo hi (-1))) _ _ s
    rw [adjust_rev]
    show wpAny _ _ (pure ((items.size : Int) - 1, (-1 : Int), Builtin.Slice.slicePlaces ((items.size : Int) - 1) (-1) (-1))) _ _ s
    rw [places_rev]
    refine wpAny_pure ?_
    show wpAny _ _ (if (((items.size : Int) - 1) == 0 && (-1 : Int) == 1 && items.size == items.size) = true then _ else _) _ _ s
    have hno : ¬ ((((items.size : Int) - 1) == 0 && (-1 : Int) == 1 && items.size == items.size) = true) := by
      intro q
      rw [Bool.and_eq_true, Bool.and_eq_true] at q
      exact absurd q.1.2 (by decide)
    rw [if_neg hno, pick_rev]
    first
      | exact wpAny_bind (m := Builtin.Tuple.tupleExact _) (wpAny_newObj_type (wpAny_pure ⟨_, rfl, wpAny_pure h⟩) htake)
      | exact wpAny_bind (m := Builtin.Tuple.tupleExact _) (wpAny_newObj_type (wpAny_bind (wpAny_pure (wpAny_pure ⟨_, rfl, wpAny_pure h⟩))) htake)
      | exact wpAny_bind (wpAny_bind (m := Builtin.Tuple.tupleExact _) (wpAny_newObj_type (wpAny_pure (wpAny_pure ⟨_, rfl, wpAny_pure h⟩)) htake))
      | exact wpAny_bind (wpAny_bind (m := Builtin.Tuple.tupleExact _) (wpAny_newObj_type (wpAny_pure ⟨_, rfl, wpAny_pure h⟩) htake))
end
end HT

namespace DL
open PySem PySem.Spec PyProof.Rows L2 LR
section
variable {X : Cx} {W : WX} {a b c e tg elt fe : Expr} {es ifs : List Expr} {ta tb tc te : DT} {t : DTA} {pos p p1 p2 p3 : Pos} {K : PySem.W.Frag} {k n : Nat} {f : Addr} {Pm : Prm}
def tRevT (K : PySem.W.Frag) (te : TE) : TE := fun σ H Q => te σ H fun x H1 => ∃ a xs, x = .ref a ∧ SqT K H1 a xs ∧ ∀ p, H1 p = none → Q (.ref p) (upd H1 p (.tup xs.reverse))
theorem pe_revT {te : TE} {k : Nat} (he : PE X e te) : PE X (.Subscript e (.Slice none none (some (.UnaryOp .USub (.Constant (.int 1) k p1) p2)) p3) pos) (tRevT X.K te) := by
  refine ⟨fun pins s σ H Q I h => ?_⟩
  refine Subscript_ (thn (he.run pins s σ H _ I h) fun v s1 ⟨x, H1, I1, r1, q1⟩ => ?_)
  obtain ⟨a, xs, ex, hx, q⟩ := q1
  subst ex
  cases r1
  have hst : PO X (some (.UnaryOp .USub (.Constant (.int 1) k p1) p2)) (tPart (tUn (rU fun i => .int (-i)) (tC (.int 1)))) := po_some (pe_un un_neg pe_int)
  refine wpAny_Slice (thn (po_none.run pins s1 σ H1 (fun o H2 => o = none ∧ H2 = H1) I1 ⟨rfl, rfl⟩) fun vl s2 ⟨l, H2, I2, pl, el, e2⟩ => ?_)
  subst el e2
  refine thn (po_none.run pins s2 σ H2 (fun o H3 => o = none ∧ H3 = H2) I2 ⟨rfl, rfl⟩) fun vu s3 ⟨u, H3, I3, pu, eu, e3⟩ => ?_
  subst eu e3
  refine thn (hst.run pins s3 σ H3 (fun o H4 => o = some (-1) ∧ H4 = H3) I3 ⟨1, rfl, -1, rfl, rfl, rfl⟩) fun vs s4 ⟨o, H4, I4, ps, eo, e4⟩ => ?_
  subst eo e4
  have I5 : Inv X pins σ H4 { s4 with heap := s4.heap.push { cls := .type "slice", data := .fields #[vl, vu, vs] } } := I4.kept (t' := s4.toks) fun b ob q => Heap.get?_push_of_some _ q
  obtain ⟨its, r, ht, hz⟩ := I5.tuple hx
  have hlen := r.length
  show wpAny (model X.prog X.w) X.A (subscriptTail e (.Slice none none (some (.UnaryOp .USub (.Constant (.int 1) k p1) p2)) p3) (.ref a) (.ref s4.heap.objs.size)) (EP X pins σ Q) X.xe { s4 with heap := s4.heap.push { cls := .type "slice", data := .fields #[vl, vu, vs] } }
  refine tail_any (ops := [.ref a, .ref s4.heap.objs.size]) ht.typeIs (PyProof.Rows.slot_tuple_getitem.lookup) ?_ (by with_unfolding_all rfl)
  refine HT.getItem_tuple_rev ht (Heap.IsSliceOf.new _ vl vu vs) pl pu ps ?_ (by rw [List.size_toArray]; omega)
  refine ⟨.ref _, _, I5.laid (t' := s4.toks) (o := .tup xs.reverse) (fun b ob q => Heap.get?_push_of_some _ q) (Nat.le_refl _) ?_, rfl, q _ (I5.hok.fresh (Nat.le_refl _))⟩
  refine ⟨by rw [List.length_reverse]; exact hz, _, r.reverse, ?_⟩
  have e1 : its.toArray.toList = its := by simp
  rw [e1]
  exact ⟨_, Heap.get?_push_size _ rfl, rfl, _, rfl⟩
theorem Reps.rev {G : Hp} : ∀ {vs : List V} {l : List D}, Reps K G vs l → Reps K G vs.reverse l.reverse := by
  intro vs l r
  refine ⟨by simp [r.1], fun i v d h1 h2 => ?_⟩
  have hi : i < vs.length := by
    have := (List.getElem?_eq_some_iff.mp h1).1
    simpa using this
  have hi2 : i < l.length := by rw [← r.1]; exact hi
  rw [List.getElem?_reverse hi] at h1
  rw [List.getElem?_reverse hi2] at h2
  rw [r.1] at h1
  exact r.2 _ v d h1 h2
def dRevT (te : DT) : DT := fun env Q ex => te env (fun d => ∃ l, d = .tup l ∧ Q (.tup l.reverse)) ex
theorem pd_revT {k : Nat} (he : PD X W e te) : PD X W (.Subscript e (.Slice none none (some (.UnaryOp .USub (.Constant (.int 1) k p1) p2)) p3) pos) (dRevT te) := by
  obtain ⟨_, pa, la⟩ := he.of
  refine ⟨_, pe_revT pa, fun H0 G0 G H σ env Q ex R S L q g => la H0 G0 G H σ env _ ex _ S L q fun v H1 G1 d x1 r1 ⟨l, e1, q1⟩ => ?_⟩
  subst e1
  obtain ⟨q, vs, rfl, h1, h2⟩ := r1.tup_inv
  refine ⟨q, vs, rfl, sqT_same x1.sub h1, fun p n => ?_⟩
  have x2 : Ext G1 H1 (upd G1 p (.tup vs.reverse)) (upd H1 p (.tup vs.reverse)) := Ext.nw x1.sub n
  have r2 := (Reps.rev h2).same x2.gg
  exact g _ _ _ _ (x1.trans x2) (.tup (.inl (.inl upd_same)) r2.1 r2.2) q1
/-! lcm -/
def rLcmB : List V → Hp → VK → Prop := fun vs H Q => ∃ a b : Int, vs = [.int a, .int b] ∧ a.natAbs < 2 ^ 9000 ∧ b.natAbs < 2 ^ 9000 ∧ Q (.int ((Nat.lcm a.natAbs b.natAbs : Nat) : Int)) H
theorem two_pow_mono {a b : Nat} (h : a ≤ b) : 2 ^ a ≤ 2 ^ b := Nat.pow_le_pow_right (by decide) h
theorem log_le {n k : Nat} (h : n < 2 ^ k) (hk : 0 < k) : n.log2 ≤ k - 1 := PySem.W.mg_log (by rw [show k - 1 + 1 = k by omega]; exact h)
theorem cr_lcmB : CallR X (.builtin "math.lcm") rLcmB := by
  intro pins s σ H vs us Q I r h
  obtain ⟨a, b, rfl, ha, hb, q⟩ := h
  obtain ⟨t, u, rfl⟩ := Vals.int2 r
  have one : 1 < 2 ^ 9000 := Nat.one_lt_two_pow (by decide)
  have h1 : (max 1 a.natAbs).log2 ≤ 8999 := log_le (n := max 1 a.natAbs) (k := 9000) (Nat.max_lt.mpr ⟨one, ha⟩) (by decide)
  have h2 : (max a.natAbs b.natAbs).log2 ≤ 8999 := log_le (n := max a.natAbs b.natAbs) (k := 9000) (Nat.max_lt.mpr ⟨ha, hb⟩) (by decide)
  have e : (Nat.lcm 1 a.natAbs).lcm b.natAbs = a.natAbs.lcm b.natAbs := by rw [PySem.W.mc_lcm_one]
  have hm : a.natAbs.lcm b.natAbs ≤ 2 ^ 18000 := by
    refine Nat.le_trans (PySem.W.mc_lcm_le _ _) ?_
    rw [show (18000 : Nat) = 9000 + 9000 from rfl, Nat.pow_add]
    exact Nat.mul_le_mul (Nat.le_of_lt ha) (Nat.le_of_lt hb)
  have hsz : ((((Nat.lcm 1 a.natAbs).lcm b.natAbs : Nat) : Int)).natAbs.log2 < bitsLine := by
    rw [e, Int.natAbs_natCast]
    exact PySem.W.mc_size (k := 400) (Nat.le_trans hm (two_pow_mono (by decide))) (by decide)
  refine call_function_meets PySem.W.MGF.kind_lcm PySem.W.MGF.plain_lcm PySem.W.MGF.entry_lcm (PySem.W.MGF.args_lcm _ _) (PySem.W.mg_run_lcm a t b u (by omega) (by omega) hsz).meets ?_
  rw [e]
  exact ⟨.int _, H, I.tok _, ⟨_, rfl⟩, q⟩
theorem l_lcmB : LcR K rLcmB (fun ds Q => ∃ a b : Int, ds = [.int a, .int b] ∧ a.natAbs < 2 ^ 9000 ∧ b.natAbs < 2 ^ 9000 ∧ Q (.int ((Nat.lcm a.natAbs b.natAbs : Nat) : Int))) := fun G H vs ds Q R s r ⟨a, b, e, h1, h2, q⟩ g => by
  subst e
  obtain ⟨v, w, rfl, r1, r2⟩ := reps2 r
  exact ⟨a, b, by rw [r1.int_inv, r2.int_inv], h1, h2, g _ _ _ _ (.refl s) (.int _) q⟩
/-- a comprehension in a comprehension -/
theorem lookup_relab {env : Env} : ∀ {names : List (Str × NameKind)} {x : Str}, names.lookup x = some .cell ∨ names.lookup x = some .free →
    (names.map fun (n, k) => if (k == NameKind.free && env.scope.kind == .function && env.kindOf n == some .cell) then (n, NameKind.cell) else (n, k)).lookup x = some .cell ∨
    (names.map fun (n, k) => if (k == NameKind.free && env.scope.kind == .function && env.kindOf n == some .cell) then (n, NameKind.cell) else (n, k)).lookup x = some .free
  | [], x, h => by simp at h
  | (n, k) :: r, x, h => by
    rw [List.map_cons]
    by_cases e : (x == n) = true
    · simp only [List.lookup, e] at h
      dsimp only
      by_cases c : (k == NameKind.free && env.scope.kind == .function && env.kindOf n == some .cell) = true
      · rw [if_pos c]
        exact .inl (by simp only [List.lookup, e])
      · rw [if_neg c]
        simpa only [List.lookup, e] using h
    · have e' : (x == n) = false := by simpa using e
      simp only [List.lookup, e'] at h
      dsimp only
      have ih := lookup_relab (env := env) h
      by_cases c : (k == NameKind.free && env.scope.kind == .function && env.kindOf n == some .cell) = true
      · rw [if_pos c]
        simpa only [List.lookup, e'] using ih
      · rw [if_neg c]
        simpa only [List.lookup, e'] using ih
theorem blkOk_in {N : List Str} {own : List (Str × Nat)} {X : Cx} {s : Shared} {H : Hp} {scope scope2 : Scope} {C : Addr} {cl : List (Str × Addr)} {fp : List Addr} (h : blkC N scope scope2 own = true) : BlkOk N (X.blk s H scope (compEnvC scope cl C X.env) fp).env.scope scope2 own := by
  have b := blkOk_by h
  exact ⟨b.kind, b.uniq, b.ix, fun y hy e => lookup_relab (env := X.env) (b.free y hy e), b.own⟩
/-- the length of a list or a tuple -/
theorem l_lenS : LcR K (fun xs H Q => ∃ x n, xs = [x] ∧ LenV K x H n ∧ Q (.int n) H) (fun ds Q => ∃ (s : D) (l : List D), ds = [s] ∧ (s = .lst l ∨ s = .tup l) ∧ Q (.int l.length)) := fun G H vs ds Q R s r ⟨z, l, e, h, q⟩ g => by
  rcases h with rfl | rfl
  · exact l_len G H vs ds Q R s r (.inl ⟨l, e, q⟩) g
  · exact l_len G H vs ds Q R s r (.inr (.inl ⟨l, e, q⟩)) g
/-! f(e, ..), f an instance -/
theorem code_fnS {CX : CXT} {fd : FuncData} {ps : List Str} {sp : Sp} {E : L2.St → XK} {pins : List (Addr × Obj)} {σ : L2.St} {H : Hp} {s : Shared} {Q : VK} {us : List Value} {vs : List V} (F : FnOk X.prog X.w X.K X.mg X.base CX k f fd ps sp) (hr : Room k X.A) (hb : Binds X.K fd ps []) (hx : PassesAt CX X σ (E σ))
    (I : Inv X pins σ H s) (r : Vals vs us) (h : sp vs H Q (E σ)) : codeAny (model X.prog X.w) X.A (.call (.ref f) ⟨us, []⟩) (fun r s' => match r with | .ok (.ret v) => EP X pins σ Q v s' | .ok _ => False | .error e => X.xe e s') s := by
  have hl : us.length = ps.length := by rw [← r.length]; exact F.len _ _ _ _ h
  have b := hb s us I.kIn (by rw [List.append_nil]; exact hl)
  rw [List.append_nil] at b
  refine codeAny_mono (F.run X.A X.stack s H ⟨us, []⟩ us vs Q (E σ) hr I.env0 b r h) fun r s' hq => ?_
  cases r with
  | error e => exact hx pins H s e s' I hq
  | ok fl =>
    cases fl with
    | ret u => exact I.after hq
    | next => exact False.elim hq
    | brk => exact False.elim hq
    | cont => exact False.elim hq
def tCallOS (C : Addr) (sp : Sp) (E : L2.St → XK) (tf : TE) (t : TA) : TE := fun σ H Q => tf σ H fun y H1 => ∃ a, y = V.ref a ∧ t σ H1 fun vs H2 => (∃ dx fs, H2 a = some (.ins C dx fs)) ∧ sp (V.ref a :: vs) H2 Q (E σ)
theorem pe_callOS {CX : CXT} {C g : Addr} {fd : FuncData} {ps : List Str} {sp : Sp} {E : L2.St → XK} {tf : TE} {t : TA} (hf : PE X fe tf) (hs : PySem.W.findIn X.K (.ref C) "__call__" = some (some (.ref g))) (hfn : PySem.W.fnIn X.K g = true) (hi : PySem.W.isFn X.K (.ref g) = true)
    (F : FnOk X.prog X.w X.K X.mg X.base CX k g fd ps sp) (hr : Room k X.A) (hb : Binds X.K fd ps []) (hx : ∀ σ, PassesAt CX X σ (E σ)) (ha : PA X (e :: es) t)
    (ht : eval (.Call fe (e :: es) [] pos) X.env = (do callWith pos (← eval fe X.env) [] (backTo pos (starEach (e :: es) X.env)) (backToKw pos (keywordEach [] X.env))) := by rfl)
    (he : starEach (e :: es) X.env = (false, eval e X.env) :: starEach es X.env := by rfl) (hpl : (backTo pos (starEach es X.env)).any (·.1) = false := by rfl) : PE X (.Call fe (e :: es) [] pos) (tCallOS C sp E tf t) := by
  refine ⟨fun pins s σ H Q I h => ?_⟩
  refine Call_ (thn (hf.run pins s σ H _ I h) fun u s1 ⟨y, H1, I1, ry, a, ey, q⟩ => ?_) ht
  subst ey
  obtain rfl : u = Value.ref a := ry
  refine StX.callO_with (thn (ha.run pos pins s1 σ H1 _ I1 q) fun us s2 ⟨vs, H2, I2, r, ⟨dx, fs, hi2⟩, q2⟩ => ?_) he hpl
  obtain ⟨mA, O, _⟩ := ins_get I2.hok hi2
  obtain ⟨od, J, _⟩ := O.look
  exact ⟨⟨C, _, od, J, rfl⟩, wpAny_call (PySem.W.kco_code I2.kIn J rfl hs hi hfn (code_fnS (us := .ref a :: us) (vs := .ref a :: vs) F hr hb (hx σ) I2 (.cons rfl r) q2))⟩
theorem pd_callO {cc : Nat} (hf : PD X W fe ta) (hs : PySem.W.findIn X.K (.ref (He.ga X.K (cname cc))) "__call__" = some (some (.ref f))) (hfn : PySem.W.fnIn X.K f = true) (hi : PySem.W.isFn X.K (.ref f) = true) (F : Fn X.prog X.w X.K X.mg X.base f k n Pm) (hr : Room k X.A) (tk : Takes X W) (ha : PDA X W (e :: es) t)
    (ht : eval (.Call fe (e :: es) [] pos) X.env = (do callWith pos (← eval fe X.env) [] (backTo pos (starEach (e :: es) X.env)) (backToKw pos (keywordEach [] X.env))) := by rfl)
    (he : starEach (e :: es) X.env = (false, eval e X.env) :: starEach es X.env := by rfl) (hpl : (backTo pos (starEach es X.env)).any (·.1) = false := by rfl) : PD X W (.Call fe (e :: es) [] pos) (dMeth cc Pm ta t) := by
  obtain ⟨_, po, lo⟩ := hf.of
  obtain ⟨_, pa, la⟩ := ha.of
  refine ⟨_, pe_callOS po hs hfn hi F.ok hr F.bd (fun σ => passAt tk σ) pa ht he hpl, fun H0 G0 G H σ env Q ex R S L q g => lo H0 G0 G H σ env _ ex _ S L q fun v H1 G1 d x1 r1 q1 => ?_⟩
  obtain ⟨⟨l, rfl⟩, q2⟩ := q1
  obtain ⟨p, dx, ws, rfl, hp, hm', r2⟩ := id r1.ins_inv
  refine ⟨p, rfl, la H0 G0 G1 H1 σ env _ ex _ (S.ex x1) (L.mono x1.gg) q2 fun vs H2 G2 ds x2 r3 q3 => ?_⟩
  have x12 := x1.trans x2
  exact ⟨⟨dx, _, x2.sub _ _ (x2.gg _ _ hp)⟩, sp_call (S.ex x12) (L.mono x12.gg) F.len (r3.cons (r1.same x2.gg)) q3 fun v H3 G3 d x3 r4 q4 => g v H3 G3 d (x12.trans x3) r4 q4⟩
/-! the comprehension of two iterables -/
theorem pdi_all {ι : Type} {Xf : ι → Cx} {it : Expr} {t : DTI} (hK : ∀ i, (Xf i).K = X.K) (h : ∀ i, PDI (Xf i) W tg it t) : ∃ ti, (∀ i, PI (Xf i) tg it ti) ∧ LI X W ti t := by
  refine ⟨fun σ H R => ∀ i, (h i).of.choose σ H R, fun i => ⟨fun pins s σ H R I q => (h i).of.choose_spec.1.run pins s σ H R I (q i)⟩, fun H0 G0 G H σ env Q ex R S L q g i => ?_⟩
  exact (h i).of.choose_spec.2 H0 G0 G H σ env Q ex R (by rw [hK]; exact S) (by rw [hK]; exact L) q (by rw [hK]; exact g)
theorem pdn_lc2 {iter tg1 iter1 : Expr} {scope : Scope} {own own1 : List (Str × Nat)} {di di1 : DTI} {dg dg1 : DTG} {de : DT} {ix ix1 : List Nat} (hc : X.calm = true) (hN : X.N.Nodup) (hi : PDI X W tg iter di) (ok : BlkOk X.N X.env.scope scope own)
    (hv : ∀ i ∈ own1.map (·.2), i ∈ own.map (·.2)) (hx : ∀ i ∈ ix, i ∈ own.map (·.2)) (hx1 : ∀ i ∈ ix1, i ∈ own1.map (·.2))
    (hg : ∀ (s : Shared) (H : Hp) (C : Addr) (cl : List (Str × Addr)) (fp : List Addr), PDG (X.blk s H scope (compEnvC scope cl C X.env) fp) tg ix dg)
    (hi1 : ∀ (s : Shared) (H : Hp) (C : Addr) (cl : List (Str × Addr)) (fp : List Addr), PDI (X.blk s H scope (compEnvC scope cl C X.env) fp) WN tg1 iter1 di1)
    (hg1 : ∀ (s : Shared) (H : Hp) (C : Addr) (cl : List (Str × Addr)) (fp : List Addr), PDG (X.blk s H scope (compEnvC scope cl C X.env) fp) tg1 ix1 dg1)
    (he : ∀ (s : Shared) (H : Hp) (C : Addr) (cl : List (Str × Addr)) (fp : List Addr), PD (X.blk s H scope (compEnvC scope cl C X.env) fp) WN elt de) (hs : ∀ x, foldedSetIterable iter X.env x = pure x := by intro _; rfl) (hs1 : ∀ env x, foldedSetIterable iter1 env x = pure x := by intro _ _; rfl) :
    PDN X W (.ListComp elt [⟨tg, iter, [], 0⟩, ⟨tg1, iter1, [], 0⟩] scope pos) (dLc2 di dg di1 dg1 de (own.map (·.2)) (own1.map (·.2))) := by
  obtain ⟨ti, pi, li⟩ := hi.of
  let Xf : (Shared × Hp × Addr × List (Str × Addr) × List Addr) → Cx := fun q => X.blk q.1 q.2.1 scope (compEnvC scope q.2.2.2.1 q.2.2.1 X.env) q.2.2.2.2
  obtain ⟨g, pg, lg, ig⟩ := pdg_all (Xf := Xf) (X := X) (fun _ => rfl) fun q => hg q.1 q.2.1 q.2.2.1 q.2.2.2.1 q.2.2.2.2
  obtain ⟨g1, pg1, lg1, ig1⟩ := pdg_all (Xf := Xf) (X := X) (fun _ => rfl) fun q => hg1 q.1 q.2.1 q.2.2.1 q.2.2.2.1 q.2.2.2.2
  obtain ⟨ti1, pi1, li1⟩ := pdi_all (Xf := Xf) (X := X) (fun _ => rfl) fun q => hi1 q.1 q.2.1 q.2.2.1 q.2.2.2.1 q.2.2.2.2
  obtain ⟨te, pe, le⟩ := pd_all (Xf := Xf) (X := X) (fun _ => rfl) fun q => he q.1 q.2.1 q.2.2.1 q.2.2.2.1 q.2.2.2.2
  exact ⟨_, pe_lc2 hc hN pi ok hv (fun s H C cl fp => pg (s, H, C, cl, fp)) (fun s H C cl fp => pts_nil) (fun s H C cl fp => pi1 (s, H, C, cl, fp)) (fun s H C cl fp => pg1 (s, H, C, cl, fp)) (fun s H C cl fp => pts_nil) (fun s H C cl fp => pe (s, H, C, cl, fp)) hs hs1,
    lc2_lift rfl li lg (ig _ hx) li1 lg1 (ig1 _ hx1) le⟩
end
end DL

namespace DL
open PySem PySem.Spec PyProof.Rows L2 LR
theorem trim_snoc0 : ∀ us : List Int, trim (us ++ [0]) = trim us
  | [] => rfl
  | t :: us => by
    have ih := trim_snoc0 us
    cases e : trim us with
    | nil => rw [List.cons_append, trim_nil (ih.trans e), trim_nil e]
    | cons a r => rw [List.cons_append, trim_cons (ih.trans e), trim_cons e]
theorem trim_snoc {z : Int} (hz : z ≠ 0) : ∀ us : List Int, trim (us ++ [z]) = us ++ [z]
  | [] => by
    show trim [z] = [z]
    rw [trim_nil (ts := []) rfl, if_neg hz]
  | t :: us => by
    have ih := trim_snoc hz us
    obtain ⟨a, r, e⟩ : ∃ a r, us ++ [z] = a :: r := by cases us with
      | nil => exact ⟨_, _, rfl⟩
      | cons a r => exact ⟨_, _, rfl⟩
    rw [List.cons_append, trim_cons (ih.trans e), e]
theorem take_snoc {ts : List Int} {m : Nat} {z : Int} (h : ts[m]? = some z) : ts.take (m + 1) = ts.take m ++ [z] := by
  rw [List.take_succ, h]
  rfl
theorem trim_take0 {ts : List Int} {m : Nat} (h : ts[m]? = some 0) : trim (ts.take (m + 1)) = trim (ts.take m) := by
  rw [take_snoc h]
  exact trim_snoc0 _
theorem trim_take {ts : List Int} {m : Nat} {z : Int} (h : ts[m]? = some z) (hz : z ≠ 0) : trim (ts.take (m + 1)) = ts.take (m + 1) := by
  rw [take_snoc h]
  exact trim_snoc hz _
theorem trim_mem : ∀ (ts : List Int), (trim ts).length ≤ ts.length ∧ ∀ t ∈ trim ts, t ∈ ts
  | [] => ⟨Nat.le_refl _, fun t h => h⟩
  | t :: ts => by
    obtain ⟨h1, h2⟩ := trim_mem ts
    cases e : trim ts with
    | nil =>
      rw [trim_nil e]
      by_cases ht : t = 0
      · rw [if_pos ht]
        exact ⟨Nat.zero_le _, fun z hz => by cases hz⟩
      · rw [if_neg ht]
        exact ⟨by simp, fun z hz => by
          rw [List.mem_singleton.mp hz]
          exact List.mem_cons_self⟩
    | cons a r =>
      rw [e] at h1 h2
      rw [trim_cons e]
      refine ⟨by simpa using h1, fun z hz => ?_⟩
      rcases List.mem_cons.mp hz with rfl | hz
      · exact List.mem_cons_self
      · exact List.mem_cons_of_mem _ (h2 z hz)
theorem trim_self {us : List Int} (h : ∀ n, us.length = n + 1 → cf us n ≠ 0) : trim us = us := by
  rcases List.eq_nil_or_concat us with rfl | ⟨vs, z, e⟩
  · rfl
  · rw [List.concat_eq_append] at e
    subst e
    have := h vs.length (by simp)
    rw [cf_at (t := z) (by simp)] at this
    exact trim_snoc this vs
/-! a polynomial in its own form, its numbers below 2 ^ n -/
structure Pol (n : Nat) (ts : List Int) (b : Int) : Prop where
  len : ts.length ≤ 1000
  pos : 0 < b
  cop : cg ts b = 1
  nz : trim ts = ts
  bd : Bd n ts
  sb : b.natAbs < 2 ^ n
theorem Pol.gs {n : Nat} {ts : List Int} {b : Int} (v : Pol n ts b) : LR.gs ts b = 1 := by
  unfold LR.gs
  rw [if_pos v.pos, v.cop]
  rfl
theorem Pol.low {n : Nat} {ts : List Int} {b : Int} (v : Pol n ts b) : pT ts b = ts ∧ pB ts b = b := by
  unfold pT pB lT lB
  rw [v.nz, v.gs]
  exact ⟨by rw [List.map_congr_left (g := id) (fun t _ => Int.fdiv_one t), List.map_id], Int.fdiv_one b⟩
theorem Pol.up {n m : Nat} {ts : List Int} {b : Int} (h : Pol n ts b) (k : n ≤ m) : Pol m ts b := ⟨h.len, h.pos, h.cop, h.nz, h.bd.up k, abs_up h.sb k⟩
theorem Pol.ne {n : Nat} {ts : List Int} {b : Int} (h : Pol n ts b) : b ≠ 0 := Int.ne_of_gt h.pos
theorem Pol.last {n : Nat} {ts : List Int} {b : Int} (h : Pol n ts b) {k : Nat} (e : ts.length = k + 1) : cf ts k ≠ 0 := by
  have := trim_last ts k (by rw [h.nz]; exact e)
  rw [h.nz] at this
  exact this
theorem pT_len (ts : List Int) (b : Int) : (pT ts b).length ≤ ts.length := by
  unfold pT
  rw [low_len]
  exact (trim_mem ts).1
theorem pol_of {n : Nat} {ts : List Int} {b : Int} (h : b ≠ 0) (hl : ts.length ≤ 1000) (ht : Bd n ts) (hs : b.natAbs < 2 ^ n) : Pol n (pT ts b) (pB ts b) :=
  ⟨Nat.le_trans (pT_len ts b) hl, lB_pos h, low_cop h, trim_self fun k e z => by
    have e1 : (trim ts).length = k + 1 := by rw [← e]; unfold pT; rw [low_len]
    have h1 := poly_cf ts h k
    rw [z, Int.mul_zero] at h1
    have h2 := trim_last ts k e1
    rw [trim_cf] at h2
    exact (Int.mul_ne_zero (Int.ne_of_gt (lB_pos h)) h2) h1.symm, low_bd fun t m => ht t ((trim_mem ts).2 t m), Nat.lt_of_le_of_lt (Int.natAbs_fdiv_le_natAbs _ _) hs⟩
/-! lists by their coefficients -/
theorem cf_range (N : Nat) (F : Cf) : cf ((List.range N).map F) = fun k => if k < N then F k else 0 := by
  funext k
  by_cases h : k < N
  · rw [if_pos h]
    exact cf_at (by rw [List.getElem?_map, List.getElem?_range h]; rfl)
  · rw [if_neg h]
    exact cf_ge (by simp; omega)
theorem range_is {us : List Int} {N : Nat} {F : Cf} (hl : us.length = N) (h : ∀ (i : Nat) u, us[i]? = some u → u = F i) : us = (List.range N).map F := by
  refine List.ext_getElem? fun i => ?_
  rw [List.getElem?_map]
  by_cases hi : i < N
  · rw [List.getElem?_range hi, List.getElem?_eq_getElem (by omega)]
    exact congrArg some (h i _ (List.getElem?_eq_getElem (by omega)))
  · rw [List.getElem?_eq_none (by omega), List.getElem?_eq_none (by simp; omega)]
    rfl
def mono (z : Int) (i : Nat) : Cf := fun k => if k = i then z else 0
theorem cf_take {ts : List Int} {i : Nat} {z : Int} (h : ts[i]? = some z) : cf (ts.take (i + 1)) = ad (cf (ts.take i)) (mono z i) := by
  funext k
  have hi := (List.getElem?_eq_some_iff.mp h).1
  show _ = cf (ts.take i) k + (if k = i then z else 0)
  rcases Nat.lt_trichotomy k i with h1 | h1 | h1
  · have e := List.getElem?_eq_getElem (l := ts) (i := k) (by omega)
    rw [if_neg (by omega), cf_at (t := ts[k]) (by rw [List.getElem?_take_of_lt (by omega)]; exact e), cf_at (t := ts[k]) (by rw [List.getElem?_take_of_lt h1]; exact e)]
    exact (Int.add_zero _).symm
  · subst h1
    rw [if_pos rfl, cf_ge (ts := ts.take k) (by rw [List.length_take]; omega), cf_at (t := z) (by rw [List.getElem?_take_of_lt (by omega)]; exact h)]
    exact (Int.zero_add _).symm
  · rw [if_neg (by omega), cf_ge (by rw [List.length_take]; omega), cf_ge (by rw [List.length_take]; omega)]
    rfl
theorem cv_mono : ∀ (k i : Nat) (z : Int) (h : Cf), cv (mono z i) h k = if k < i then 0 else z * h (k - i)
  | 0, 0, z, h => rfl
  | 0, i + 1, z, h => by
    show (0 : Int) * h 0 = _
    rw [Int.zero_mul, if_pos (Nat.succ_pos _)]
  | k + 1, 0, z, h => by
    have z1 : ∀ i, tl (mono z 0) i = 0 := fun i => (if_neg (Nat.succ_ne_zero i) : (if i + 1 = 0 then z else 0) = 0)
    show z * h (k + 1) + cv (tl (mono z 0)) h k = _
    rw [cv_zero k (tl (mono z 0)) h z1]
    exact Int.add_zero _
  | k + 1, i + 1, z, h => by
    have e : tl (mono z (i + 1)) = mono z i := by
      funext j
      show (if j + 1 = i + 1 then z else 0) = if j = i then z else 0
      by_cases hj : j = i
      · rw [if_pos hj, if_pos (by omega)]
      · rw [if_neg hj, if_neg (by omega)]
    show (0 : Int) * h (k + 1) + cv (tl (mono z (i + 1))) h k = _
    rw [e, cv_mono k i, Int.zero_mul, Int.zero_add, Nat.add_sub_add_right]
    by_cases hk : k < i
    · rw [if_pos hk, if_pos (by omega)]
    · rw [if_neg hk, if_neg (by omega)]
theorem cv_sup : ∀ (k n m : Nat) (f h : Cf), (∀ i, n ≤ i → f i = 0) → (∀ i, m ≤ i → h i = 0) → n + m ≤ k + 1 → cv f h k = 0
  | 0, n, m, f, h, hf, hh, e => by
    show f 0 * h 0 = 0
    rcases Nat.eq_zero_or_pos n with e1 | e1
    · rw [hf 0 (by omega), Int.zero_mul]
    · rw [hh 0 (by omega), Int.mul_zero]
  | k + 1, n, m, f, h, hf, hh, e => by
    rcases Nat.eq_zero_or_pos n with e1 | e1
    · exact cv_zero _ f h fun i => hf i (by omega)
    · show f 0 * h (k + 1) + cv (tl f) h k = 0
      rw [hh (k + 1) (by omega), Int.mul_zero, cv_sup k (n - 1) m (tl f) h (fun i hi => hf (i + 1) (by omega)) hh (by omega)]
      rfl
theorem cv_abs : ∀ (k : Nat) (f h : Cf) (a b : Nat), (∀ i, (f i).natAbs ≤ a) → (∀ i, (h i).natAbs ≤ b) → (cv f h k).natAbs ≤ (k + 1) * (a * b)
  | 0, f, h, a, b, hf, hh => by
    show (f 0 * h 0).natAbs ≤ _
    rw [Int.natAbs_mul, Nat.zero_add, Nat.one_mul]
    exact Nat.mul_le_mul (hf 0) (hh 0)
  | k + 1, f, h, a, b, hf, hh => by
    show (f 0 * h (k + 1) + cv (tl f) h k).natAbs ≤ _
    have h1 := cv_abs k (tl f) h a b (fun i => hf (i + 1)) hh
    have h2 : (f 0 * h (k + 1)).natAbs ≤ a * b := by rw [Int.natAbs_mul]; exact Nat.mul_le_mul (hf 0) (hh _)
    have h3 := Int.natAbs_add_le (f 0 * h (k + 1)) (cv (tl f) h k)
    rw [Nat.succ_mul (k + 1)]
    omega
theorem cf_bd {n : Nat} {ts : List Int} (h : Bd n ts) (k : Nat) : (cf ts k).natAbs < 2 ^ n := by
  cases e : ts[k]? with
  | none =>
    rw [cf_ge (List.getElem?_eq_none_iff.mp e)]
    exact Nat.two_pow_pos n
  | some t =>
    rw [cf_at e]
    exact h t (List.mem_of_getElem? e)
theorem cv_bd {n m k : Nat} {f h : Cf} (hf : ∀ i, (f i).natAbs < 2 ^ n) (hh : ∀ i, (h i).natAbs < 2 ^ m) (hk : k < 4096) : (cv f h k).natAbs < 2 ^ (n + m + 12) := by
  have p1 : 0 < 2 ^ n := Nat.two_pow_pos n
  have p2 : 0 < 2 ^ m := Nat.two_pow_pos m
  have h1 := cv_abs k f h (2 ^ n - 1) (2 ^ m - 1) (fun i => Nat.le_sub_one_of_lt (hf i)) (fun i => Nat.le_sub_one_of_lt (hh i))
  have h2 : (2 ^ n - 1) * (2 ^ m - 1) < 2 ^ n * 2 ^ m := Nat.mul_lt_mul'' (by omega) (by omega)
  have h3 : (k + 1) * ((2 ^ n - 1) * (2 ^ m - 1)) ≤ 4096 * ((2 ^ n - 1) * (2 ^ m - 1)) := Nat.mul_le_mul_right _ (by omega)
  rw [Nat.pow_add, Nat.pow_add]
  omega
/-- the product's numbers -/
def prodT (ts us : List Int) : List Int := (List.range (ts.length + us.length - 1)).map (cv (cf ts) (cf us))
theorem cf_prod (ts us : List Int) : cf (prodT ts us) = cv (cf ts) (cf us) := by
  unfold prodT
  rw [cf_range]
  funext k
  by_cases h : k < ts.length + us.length - 1
  · exact if_pos h
  · rw [if_neg h]
    exact (cv_sup k ts.length us.length _ _ (fun i hi => cf_ge hi) (fun i hi => cf_ge hi) (by omega)).symm
theorem prod_bd {n m : Nat} {ts us : List Int} (h1 : Bd n ts) (h2 : Bd m us) (l1 : ts.length ≤ 1000) (l2 : us.length ≤ 1000) : Bd (n + m + 12) (prodT ts us) := fun t ht => by
  obtain ⟨k, hk, rfl⟩ := List.mem_map.mp ht
  exact cv_bd (fun i => cf_bd h1 i) (fun i => cf_bd h2 i) (by have := List.mem_range.mp hk; omega)
theorem prod_len (ts us : List Int) : (prodT ts us).length = ts.length + us.length - 1 := by unfold prodT; simp

/-! cut, law's list forms -/
theorem cut_take {α : Type} (f : α → D) (l : List α) {m : Nat} (hm : m ≤ l.length) (hs : m < 2 ^ 62) : cutD (l.map f) none (some (m : Int)) = (l.take m).map f := by
  have e0 : HT.sIx (l.map f).length 0 none = 0 := rfl
  have e1 : HT.sIx (l.map f).length (l.map f).length (some (m : Int)) = m := by
    rw [HT.sIx_nat, List.length_map]
    omega
  unfold cutD
  rw [e0, e1, List.drop_zero, Nat.sub_zero, ← List.map_take]
end DL

namespace K32
open PySem PySem.Spec PyProof.Rows L2 LR DL
theorem cs_cl : ∀ c ∈ cs, cname c ∈ LL.cl := by decide +kernel
theorem sc_ZeroBottom_init : FnScope ["self"] ["self"] (defScope s_ZeroBottom_init) := ⟨rfl, rfl, rfl, by decide +kernel, rfl, by decide +kernel, by decide +kernel⟩
theorem sc_Empty_init : FnScope ["self"] ["self"] (defScope s_Empty_init) := ⟨rfl, rfl, rfl, by decide +kernel, rfl, by decide +kernel, by decide +kernel⟩
theorem sc_RaggedRows_init : FnScope ["self", "index"] ["self", "index"] (defScope s_RaggedRows_init) := ⟨rfl, rfl, rfl, by decide +kernel, rfl, by decide +kernel, by decide +kernel⟩
theorem sc_SizeMismatch_init : FnScope ["self", "left", "right"] ["self", "left", "right"] (defScope s_SizeMismatch_init) := ⟨rfl, rfl, rfl, by decide +kernel, rfl, by decide +kernel, by decide +kernel⟩
theorem sc_NotSquare_init : FnScope ["self", "height", "width"] ["self", "height", "width"] (defScope s_NotSquare_init) := ⟨rfl, rfl, rfl, by decide +kernel, rfl, by decide +kernel, by decide +kernel⟩
theorem sc_Ratio_init : FnScope ["self", "top", "bottom", "divisor"] ["self", "top", "bottom"] (defScope s_Ratio_init) := ⟨rfl, rfl, rfl, by decide +kernel, rfl, by decide +kernel, by decide +kernel⟩
theorem sc_Ratio_mul : FnScope ["self", "other"] ["self", "other"] (defScope s_Ratio_mul) := ⟨rfl, rfl, rfl, by decide +kernel, rfl, by decide +kernel, by decide +kernel⟩
theorem sc_Ratio_eq : FnScope ["self", "other"] ["self", "other"] (defScope s_Ratio_eq) := ⟨rfl, rfl, rfl, by decide +kernel, rfl, by decide +kernel, by decide +kernel⟩
theorem sc_common_divisor : FnScope ["tops", "bottom", "found", "top"] ["tops", "bottom"] (defScope s_common_divisor) := ⟨rfl, rfl, rfl, by decide +kernel, rfl, by decide +kernel, by decide +kernel⟩
theorem sc_common_bottom : FnScope ["bottoms", "found", "bottom"] ["bottoms"] (defScope s_common_bottom) := ⟨rfl, rfl, rfl, by decide +kernel, rfl, by decide +kernel, by decide +kernel⟩
theorem sc_over_one_bottom : FnScope ["ratios", "bottom", "ratio"] ["ratios"] (defScope s_over_one_bottom) := ⟨rfl, rfl, rfl, by decide +kernel, rfl, by decide +kernel, by decide +kernel⟩
theorem sc_is_factor : FnScope ["thing"] ["thing"] (defScope s_is_factor) := ⟨rfl, rfl, rfl, by decide +kernel, rfl, by decide +kernel, by decide +kernel⟩
theorem sc_as_ratio : FnScope ["factor"] ["factor"] (defScope s_as_ratio) := ⟨rfl, rfl, rfl, by decide +kernel, rfl, by decide +kernel, by decide +kernel⟩
theorem sc_Vector_init : FnScope ["self", "tops", "bottom", "divisor", "top"] ["self", "tops", "bottom"] (defScope s_Vector_init) := ⟨rfl, rfl, rfl, by decide +kernel, rfl, by decide +kernel, by decide +kernel⟩
theorem sc_Vector_of : FnScope ["ratios", "tops", "bottom"] ["ratios"] (defScope s_Vector_of) := ⟨rfl, rfl, rfl, by decide +kernel, rfl, by decide +kernel, by decide +kernel⟩
theorem sc_sum_of_products : FnScope ["left", "right", "one", "two"] ["left", "right"] (defScope s_sum_of_products) := ⟨rfl, rfl, rfl, by decide +kernel, rfl, by decide +kernel, by decide +kernel⟩
theorem sc_Matrix_init : FnScope ["self", "rows", "bottom", "divisor", "row", "top"] ["self", "rows", "bottom"] (defScope s_Matrix_init) := ⟨rfl, rfl, rfl, by decide +kernel, rfl, by decide +kernel, by decide +kernel⟩
theorem sc_Matrix_getitem : FnScope ["self", "at", "i", "j"] ["self", "at"] (defScope s_Matrix_getitem) := ⟨rfl, rfl, rfl, by decide +kernel, rfl, by decide +kernel, by decide +kernel⟩
theorem sc_Matrix_add : FnScope ["self", "other", "rows", "one", "two", "left", "right"] ["self", "other"] (defScope s_Matrix_add) := ⟨rfl, rfl, rfl, by decide +kernel, rfl, by decide +kernel, by decide +kernel⟩
theorem sc_Matrix_mul : FnScope ["self", "other"] ["self", "other"] (defScope s_Matrix_mul) := ⟨rfl, rfl, rfl, by decide +kernel, rfl, by decide +kernel, by decide +kernel⟩
theorem sc_Matrix_eq : FnScope ["self", "other"] ["self", "other"] (defScope s_Matrix_eq) := ⟨rfl, rfl, rfl, by decide +kernel, rfl, by decide +kernel, by decide +kernel⟩
theorem sc_Matrix_times_matrix : FnScope ["self", "other", "columns", "rows", "column", "row"] ["self", "other"] (defScope s_Matrix_times_matrix) := ⟨rfl, rfl, rfl, by decide +kernel, rfl, by decide +kernel, by decide +kernel⟩
theorem sc_Matrix_times_factor : FnScope ["self", "other", "factor", "top", "row"] ["self", "other"] (defScope s_Matrix_times_factor) := ⟨rfl, rfl, rfl, by decide +kernel, rfl, by decide +kernel, by decide +kernel⟩
theorem sc_Matrix_trace : FnScope ["self", "i", "row"] ["self"] (defScope s_Matrix_trace) := ⟨rfl, rfl, rfl, by decide +kernel, rfl, by decide +kernel, by decide +kernel⟩
theorem sc_Matrix_identity : FnScope ["size", "j", "i"] ["size"] (defScope s_Matrix_identity) := ⟨rfl, rfl, rfl, by decide +kernel, rfl, by decide +kernel, by decide +kernel⟩
theorem sc_from_rows : FnScope ["vectors", "bottom", "vector", "rows", "top"] ["vectors"] (defScope s_from_rows) := ⟨rfl, rfl, rfl, by decide +kernel, rfl, by decide +kernel, by decide +kernel⟩
theorem sc_check_square : FnScope ["matrix"] ["matrix"] (defScope s_check_square) := ⟨rfl, rfl, rfl, by decide +kernel, rfl, by decide +kernel, by decide +kernel⟩
theorem sc_check_sizes : FnScope ["left", "right"] ["left", "right"] (defScope s_check_sizes) := ⟨rfl, rfl, rfl, by decide +kernel, rfl, by decide +kernel, by decide +kernel⟩
theorem sc_check_rows : FnScope ["rows", "index", "row"] ["rows"] (defScope s_check_rows) := ⟨rfl, rfl, rfl, by decide +kernel, rfl, by decide +kernel, by decide +kernel⟩
theorem sc_Poly_init : FnScope ["self", "tops", "bottom", "count", "divisor", "top"] ["self", "tops", "bottom"] (defScope s_Poly_init) := ⟨rfl, rfl, rfl, by decide +kernel, rfl, by decide +kernel, by decide +kernel⟩
theorem sc_Poly_eq : FnScope ["self", "other"] ["self", "other"] (defScope s_Poly_eq) := ⟨rfl, rfl, rfl, by decide +kernel, rfl, by decide +kernel, by decide +kernel⟩
theorem sc_Poly_call : FnScope ["self", "x"] ["self", "x"] (defScope s_Poly_call) := ⟨rfl, rfl, rfl, by decide +kernel, rfl, by decide +kernel, by decide +kernel⟩
theorem sc_Poly_of : FnScope ["ratios", "tops", "bottom"] ["ratios"] (defScope s_Poly_of) := ⟨rfl, rfl, rfl, by decide +kernel, rfl, by decide +kernel, by decide +kernel⟩
theorem sc_value : FnScope ["p", "x", "one", "value", "top"] ["p", "x", "one"] (defScope s_value) := ⟨rfl, rfl, rfl, by decide +kernel, rfl, by decide +kernel, by decide +kernel⟩
theorem sc_powers : FnScope ["a", "v", "count", "found", "step", "_"] ["a", "v", "count"] (defScope s_powers) := ⟨rfl, rfl, rfl, by decide +kernel, rfl, by decide +kernel, by decide +kernel⟩
theorem sc_trace_table : FnScope ["a", "poly", "lefts", "rights", "right", "left"] ["a", "poly"] (defScope s_trace_table) := ⟨rfl, rfl, rfl, by decide +kernel, rfl, by decide +kernel, by decide +kernel⟩
theorem sc_matrix_powers : FnScope ["a", "count"] ["a", "count"] (defScope s_matrix_powers) := ⟨rfl, rfl, rfl, by decide +kernel, rfl, by decide +kernel, by decide +kernel⟩
theorem sc_skew_poly : FnScope ["a"] ["a"] (defScope s_skew_poly) := ⟨rfl, rfl, rfl, by decide +kernel, rfl, by decide +kernel, by decide +kernel⟩
theorem sc_law_cell : FnScope ["script", "k", "total", "cell"] ["script", "k"] (defScope s_law_cell) := ⟨rfl, rfl, rfl, by decide +kernel, rfl, by decide +kernel, by decide +kernel⟩
theorem sc_law_mix : FnScope ["cell", "k", "at", "x"] ["cell", "k", "at"] (defScope s_law_mix) := ⟨rfl, rfl, rfl, by decide +kernel, rfl, by decide +kernel, by decide +kernel⟩
theorem sc_law_draws : FnScope ["script", "k", "many", "cell", "digits", "out", "at"] ["script", "k", "many"] (defScope s_law_draws) := ⟨rfl, rfl, rfl, by decide +kernel, rfl, by decide +kernel, by decide +kernel⟩
theorem sc_law_size : FnScope ["d"] ["d"] (defScope s_law_size) := ⟨rfl, rfl, rfl, by decide +kernel, rfl, by decide +kernel, by decide +kernel⟩
theorem sc_law_small : FnScope ["d"] ["d"] (defScope s_law_small) := ⟨rfl, rfl, rfl, by decide +kernel, rfl, by decide +kernel, by decide +kernel⟩
theorem sc_law_bottom : FnScope ["d"] ["d"] (defScope s_law_bottom) := ⟨rfl, rfl, rfl, by decide +kernel, rfl, by decide +kernel, by decide +kernel⟩
theorem sc_law_matrix : FnScope ["draws", "size", "shape", "bottom", "cells", "d", "rows", "j", "i"] ["draws", "size"] (defScope s_law_matrix) := ⟨rfl, rfl, rfl, by decide +kernel, rfl, by decide +kernel, by decide +kernel⟩
theorem sc_law_poly : FnScope ["draws", "many", "d"] ["draws", "many"] (defScope s_law_poly) := ⟨rfl, rfl, rfl, by decide +kernel, rfl, by decide +kernel, by decide +kernel⟩
theorem sc_law_is_integer : FnScope ["x"] ["x"] (defScope s_law_is_integer) := ⟨rfl, rfl, rfl, by decide +kernel, rfl, by decide +kernel, by decide +kernel⟩
theorem sc_law_equal : FnScope ["x", "y"] ["x", "y"] (defScope s_law_equal) := ⟨rfl, rfl, rfl, by decide +kernel, rfl, by decide +kernel, by decide +kernel⟩
theorem sc_law_mul : FnScope ["a", "b", "rows", "line", "out", "j", "k"] ["a", "b"] (defScope s_law_mul) := ⟨rfl, rfl, rfl, by decide +kernel, rfl, by decide +kernel, by decide +kernel⟩
theorem sc_law_unit : FnScope ["size", "j", "i"] ["size"] (defScope s_law_unit) := ⟨rfl, rfl, rfl, by decide +kernel, rfl, by decide +kernel, by decide +kernel⟩
theorem sc_law_same_rows : FnScope ["a", "b", "i", "j"] ["a", "b"] (defScope s_law_same_rows) := ⟨rfl, rfl, rfl, by decide +kernel, rfl, by decide +kernel, by decide +kernel⟩
theorem sc_law_trace : FnScope ["a", "i"] ["a"] (defScope s_law_trace) := ⟨rfl, rfl, rfl, by decide +kernel, rfl, by decide +kernel, by decide +kernel⟩
theorem sc_law_value : FnScope ["p", "a", "size", "rows", "j", "i", "here", "k"] ["p", "a"] (defScope s_law_value) := ⟨rfl, rfl, rfl, by decide +kernel, rfl, by decide +kernel, by decide +kernel⟩
theorem sc_law_ratio_of : FnScope ["x"] ["x"] (defScope s_law_ratio_of) := ⟨rfl, rfl, rfl, by decide +kernel, rfl, by decide +kernel, by decide +kernel⟩
theorem sc_law_integers : FnScope ["xs", "x"] ["xs"] (defScope s_law_integers) := ⟨rfl, rfl, rfl, by decide +kernel, rfl, by decide +kernel, by decide +kernel⟩
theorem sc_law_matrix_of : FnScope ["m", "high", "wide", "line", "rows"] ["m", "high", "wide"] (defScope s_law_matrix_of) := ⟨rfl, rfl, rfl, by decide +kernel, rfl, by decide +kernel, by decide +kernel⟩
theorem sc_law_poly_of : FnScope ["p"] ["p"] (defScope s_law_poly_of) := ⟨rfl, rfl, rfl, by decide +kernel, rfl, by decide +kernel, by decide +kernel⟩
theorem sc_law_great : FnScope ["script", "at", "rows", "i", "line", "j", "cell"] ["script", "at"] (defScope s_law_great) := ⟨rfl, rfl, rfl, by decide +kernel, rfl, by decide +kernel, by decide +kernel⟩
theorem sc_law_twice_the_mean : FnScope ["a", "sums", "under"] ["a"] (defScope s_law_twice_the_mean) := ⟨rfl, rfl, rfl, by decide +kernel, rfl, by decide +kernel, by decide +kernel⟩
theorem sc_law_at : FnScope ["p", "k"] ["p", "k"] (defScope s_law_at) := ⟨rfl, rfl, rfl, by decide +kernel, rfl, by decide +kernel, by decide +kernel⟩
theorem sc_law_same_poly : FnScope ["p", "q", "k"] ["p", "q"] (defScope s_law_same_poly) := ⟨rfl, rfl, rfl, by decide +kernel, rfl, by decide +kernel, by decide +kernel⟩
theorem sc_law_table_is_due : FnScope ["table", "a", "p", "size", "told", "other", "left", "i", "both", "j", "due", "entry"] ["table", "a", "p"] (defScope s_law_table_is_due) := ⟨rfl, rfl, rfl, by decide +kernel, rfl, by decide +kernel, by decide +kernel⟩
theorem sc_law : FnScope ["script", "z", "size", "a", "p", "skew", "k", "matrix", "line", "asked", "mirror", "told", "table", "again", "kept", "rest"] ["script"] (defScope s_law) := ⟨rfl, rfl, rfl, by decide +kernel, rfl, by decide +kernel, by decide +kernel⟩
theorem fk_Ratio_top : (shape 0)[0]? = some ("top" : Str) ∧ (shape 0).Nodup := ⟨rfl, by decide +kernel⟩
theorem fk_Ratio_bottom : (shape 0)[1]? = some ("bottom" : Str) ∧ (shape 0).Nodup := ⟨rfl, by decide +kernel⟩
theorem dd_Ratio : ∀ K H, Reps K H [.int 1] [.int 1] := fun _ _ => .one (.int 1)
theorem fk_Vector_tops : (shape 1)[0]? = some ("tops" : Str) ∧ (shape 1).Nodup := ⟨rfl, by decide +kernel⟩
theorem fk_Vector_bottom : (shape 1)[1]? = some ("bottom" : Str) ∧ (shape 1).Nodup := ⟨rfl, by decide +kernel⟩
theorem dd_Vector : ∀ K H, Reps K H [.int 1] [.int 1] := fun _ _ => .one (.int 1)
theorem fk_Matrix_tops : (shape 2)[0]? = some ("tops" : Str) ∧ (shape 2).Nodup := ⟨rfl, by decide +kernel⟩
theorem fk_Matrix_bottom : (shape 2)[1]? = some ("bottom" : Str) ∧ (shape 2).Nodup := ⟨rfl, by decide +kernel⟩
theorem fk_Matrix_height : (shape 2)[2]? = some ("height" : Str) ∧ (shape 2).Nodup := ⟨rfl, by decide +kernel⟩
theorem fk_Matrix_width : (shape 2)[3]? = some ("width" : Str) ∧ (shape 2).Nodup := ⟨rfl, by decide +kernel⟩
theorem dd_Matrix : ∀ K H, Reps K H [.int 1] [.int 1] := fun _ _ => .one (.int 1)
theorem fk_Poly_tops : (shape 3)[0]? = some ("tops" : Str) ∧ (shape 3).Nodup := ⟨rfl, by decide +kernel⟩
theorem fk_Poly_bottom : (shape 3)[1]? = some ("bottom" : Str) ∧ (shape 3).Nodup := ⟨rfl, by decide +kernel⟩
theorem dd_Poly : ∀ K H, Reps K H [.int 1] [.int 1] := fun _ _ => .one (.int 1)
theorem nm_Ratio___init__ : ("__init__" : Str) ∉ shape 0 := by decide +kernel
theorem nm_Ratio___mul__ : ("__mul__" : Str) ∉ shape 0 := by decide +kernel
theorem nm_Ratio___eq__ : ("__eq__" : Str) ∉ shape 0 := by decide +kernel
theorem nm_Vector___init__ : ("__init__" : Str) ∉ shape 1 := by decide +kernel
theorem nm_Matrix___init__ : ("__init__" : Str) ∉ shape 2 := by decide +kernel
theorem nm_Matrix___getitem__ : ("__getitem__" : Str) ∉ shape 2 := by decide +kernel
theorem nm_Matrix___add__ : ("__add__" : Str) ∉ shape 2 := by decide +kernel
theorem nm_Matrix___mul__ : ("__mul__" : Str) ∉ shape 2 := by decide +kernel
theorem nm_Matrix___eq__ : ("__eq__" : Str) ∉ shape 2 := by decide +kernel
theorem nm_Matrix__times_matrix : ("_times_matrix" : Str) ∉ shape 2 := by decide +kernel
theorem nm_Matrix__times_factor : ("_times_factor" : Str) ∉ shape 2 := by decide +kernel
theorem nm_Matrix_trace : ("trace" : Str) ∉ shape 2 := by decide +kernel
theorem nm_Poly___init__ : ("__init__" : Str) ∉ shape 3 := by decide +kernel
theorem nm_Poly___eq__ : ("__eq__" : Str) ∉ shape 3 := by decide +kernel
theorem nm_Poly___call__ : ("__call__" : Str) ∉ shape 3 := by decide +kernel
end K32

/-! matrices of fractions: rows of ints over one bottom; what they stand for -/
namespace DL
open LR
/-- the sum of f at 0 .. n - 1 -/
def sumR : Nat → (Nat → Rat) → Rat
  | 0, _ => 0
  | n + 1, f => sumR n f + f n
theorem sumR_congr {n : Nat} {f g : Nat → Rat} (h : ∀ i, i < n → f i = g i) : sumR n f = sumR n g := by
  induction n with
  | zero => rfl
  | succ n ih => rw [sumR, sumR, ih fun i hi => h i (by omega), h n (by omega)]
theorem sumR_add (n : Nat) (f g : Nat → Rat) : sumR n (fun i => f i + g i) = sumR n f + sumR n g := by
  induction n with
  | zero => show (0 : Rat) = 0 + 0; grind
  | succ n ih => simp only [sumR]; rw [ih]; grind
theorem sumR_mulL (c : Rat) (n : Nat) (f : Nat → Rat) : sumR n (fun i => c * f i) = c * sumR n f := by
  induction n with
  | zero => simp [sumR]
  | succ n ih => simp only [sumR]; rw [ih]; grind
theorem sumR_mulR (c : Rat) (n : Nat) (f : Nat → Rat) : sumR n (fun i => f i * c) = sumR n f * c := by
  induction n with
  | zero => simp [sumR]
  | succ n ih => simp only [sumR]; rw [ih]; grind
theorem sumR_zero (n : Nat) : sumR n (fun _ => 0) = 0 := by
  induction n with
  | zero => rfl
  | succ n ih => simp only [sumR]; rw [ih]; grind
theorem sumR_swap (n m : Nat) (f : Nat → Nat → Rat) : sumR n (fun i => sumR m fun j => f i j) = sumR m fun j => sumR n fun i => f i j := by
  induction n with
  | zero => simp only [sumR]; exact (sumR_zero m).symm
  | succ n ih => simp only [sumR]; rw [ih, ← sumR_add]
theorem sumR_one {n i : Nat} (hi : i < n) (f : Nat → Rat) : sumR n (fun k => if i = k then f k else 0) = f i := by
  induction n with
  | zero => omega
  | succ n ih =>
    simp only [sumR]
    by_cases h : i < n
    · rw [ih h, if_neg (show ¬ i = n by omega)]; grind
    · have e : i = n := by omega
      subst e
      rw [if_pos rfl, sumR_congr (g := fun _ => 0) fun k hk => if_neg (show ¬ i = k by omega), sumR_zero]
      grind
/-- matrices by places -/
abbrev QM := Nat → Nat → Rat
def EqM (n m : Nat) (A B : QM) : Prop := ∀ i j, i < n → j < m → A i j = B i j
theorem EqM.refl {n m : Nat} (A : QM) : EqM n m A A := fun _ _ _ _ => rfl
theorem EqM.symm {n m : Nat} {A B : QM} (h : EqM n m A B) : EqM n m B A := fun i j hi hj => (h i j hi hj).symm
theorem EqM.trans {n m : Nat} {A B C : QM} (h : EqM n m A B) (k : EqM n m B C) : EqM n m A C := fun i j hi hj => (h i j hi hj).trans (k i j hi hj)
def mulR (m : Nat) (A B : QM) : QM := fun i j => sumR m fun k => A i k * B k j
def oneR : QM := fun i j => if i = j then 1 else 0
def addR (A B : QM) : QM := fun i j => A i j + B i j
def sclR (c : Rat) (A : QM) : QM := fun i j => c * A i j
def traR (n : Nat) (A : QM) : Rat := sumR n fun i => A i i
theorem mulR_congr {n m w : Nat} {A B A' B' : QM} (h : EqM n m A A') (k : EqM m w B B') : EqM n w (mulR m A B) (mulR m A' B') := fun i j hi hj => sumR_congr fun l hl => by rw [h i l hi hl, k l j hl hj]
theorem mulR_assoc (m l : Nat) (A B C : QM) : mulR l (mulR m A B) C = mulR m A (mulR l B C) := by
  funext i j
  unfold mulR
  rw [sumR_congr (g := fun k => sumR m fun x => A i x * B x k * C k j) fun k _ => (sumR_mulR _ _ _).symm, sumR_swap]
  refine sumR_congr fun x _ => ?_
  rw [← sumR_mulL]
  exact sumR_congr fun k _ => by grind
theorem one_mulR {n m : Nat} (A : QM) : EqM n m (mulR n oneR A) A := fun i j hi hj => by
  unfold mulR oneR
  rw [sumR_congr (g := fun k => if i = k then A k j else 0) fun k _ => ?_]
  · exact sumR_one hi fun k => A k j
  · by_cases h : i = k
    · rw [if_pos h, if_pos h]; grind
    · rw [if_neg h, if_neg h]; grind
theorem mulR_one {n m : Nat} (A : QM) : EqM n m (mulR m A oneR) A := fun i j hi hj => by
  unfold mulR oneR
  rw [sumR_congr (g := fun k => if j = k then A i k else 0) fun k _ => ?_]
  · exact sumR_one hj fun k => A i k
  · by_cases h : j = k
    · rw [if_pos h, if_pos h.symm]; grind
    · rw [if_neg h, if_neg fun e => h e.symm]; grind
def powR (n : Nat) (A : QM) : Nat → QM
  | 0 => oneR
  | k + 1 => mulR n A (powR n A k)
theorem powR_right {n : Nat} (A : QM) : ∀ k, EqM n n (mulR n (powR n A k) A) (powR n A (k + 1))
  | 0 => (one_mulR A).trans (mulR_one A).symm
  | k + 1 => by
    show EqM n n (mulR n (mulR n A (powR n A k)) A) (mulR n A (powR n A (k + 1)))
    rw [mulR_assoc]
    exact mulR_congr (.refl A) (powR_right A k)
theorem traR_congr {n : Nat} {A B : QM} (h : EqM n n A B) : traR n A = traR n B := sumR_congr fun i hi => h i i hi hi
/-! ## rows of ints -/
def Sh (h w : Nat) (A : List (List Int)) : Prop := A.length = h ∧ ∀ r ∈ A, r.length = w
def en (A : List (List Int)) (i j : Nat) : Int := (A.getD i []).getD j 0
def VM (A : List (List Int)) (b : Int) : QM := fun i j => (en A i j : Rat) / (b : Rat)
theorem getD_of {α : Type} {l : List α} {i : Nat} {x z : α} (h : l[i]? = some x) : l.getD i z = x := by rw [List.getD_eq_getElem?_getD, h]; rfl
theorem en_of {A : List (List Int)} {i j : Nat} {r : List Int} {x : Int} (h : A[i]? = some r) (h2 : r[j]? = some x) : en A i j = x := by
  unfold en
  rw [getD_of h, getD_of h2]
theorem Sh.at {h w : Nat} {A : List (List Int)} (s : Sh h w A) {i j : Nat} (hi : i < h) (hj : j < w) : ∃ r, A[i]? = some r ∧ r.length = w ∧ r[j]? = some (en A i j) := by
  have hA : A[i]? = some (A[i]'(by rw [s.1]; exact hi)) := List.getElem?_eq_getElem _
  have hr := s.2 _ (List.mem_of_getElem? hA)
  have hx : (A[i]'(by rw [s.1]; exact hi))[j]? = some ((A[i]'(by rw [s.1]; exact hi))[j]'(by rw [hr]; exact hj)) := List.getElem?_eq_getElem _
  exact ⟨_, hA, hr, by rw [en_of hA hx]; exact hx⟩
/-- every entry below 2 ^ n -/
def BdM (n : Nat) (A : List (List Int)) : Prop := ∀ r ∈ A, Bd n r
theorem BdM.up {n m : Nat} {A : List (List Int)} (h : BdM n A) (k : n ≤ m) : BdM m A := fun r hr => (h r hr).up k
theorem BdM.flat {n : Nat} {A : List (List Int)} (h : BdM n A) : Bd n A.flatten := fun t ht => by
  obtain ⟨r, hr, ht⟩ := List.mem_flatten.mp ht
  exact h r hr t ht
def gM (A : List (List Int)) (b : Int) : Int := gs A.flatten b
def mT (A : List (List Int)) (b : Int) : List (List Int) := A.map fun r => r.map fun t => t.fdiv (gM A b)
def mB (A : List (List Int)) (b : Int) : Int := b.fdiv (gM A b)
theorem mT_flat (A : List (List Int)) (b : Int) : (mT A b).flatten = lT A.flatten b := by
  unfold mT lT gM
  generalize gs A.flatten b = g
  induction A with
  | nil => rfl
  | cons r A ih => rw [List.map_cons, List.flatten_cons, List.flatten_cons, List.map_append, ih]
theorem mB_eq (A : List (List Int)) (b : Int) : mB A b = lB A.flatten b := rfl
theorem Sh.low {h w : Nat} {A : List (List Int)} (s : Sh h w A) (b : Int) : Sh h w (mT A b) := ⟨by unfold mT; rw [List.length_map]; exact s.1, fun r hr => by
  obtain ⟨r', hr', rfl⟩ := List.mem_map.mp hr
  rw [List.length_map]
  exact s.2 r' hr'⟩
theorem low_bdM {n : Nat} {A : List (List Int)} {b : Int} (h : BdM n A) : BdM n (mT A b) := fun r hr => by
  obtain ⟨r', hr', rfl⟩ := List.mem_map.mp hr
  intro t ht
  obtain ⟨t', ht', rfl⟩ := List.mem_map.mp ht
  exact Nat.lt_of_le_of_lt (Int.natAbs_fdiv_le_natAbs _ _) (h r' hr' t' ht')
/-- lowest terms of h rows of w -/
structure Mx (n h w : Nat) (A : List (List Int)) (b : Int) : Prop where
  sh : Sh h w A
  h0 : 0 < h
  h1 : h ≤ 12
  w0 : 0 < w
  w1 : w ≤ 12
  pos : 0 < b
  cop : cg A.flatten b = 1
  bd : BdM n A
  sb : b.natAbs < 2 ^ n
theorem Mx.up {n m h w : Nat} {A : List (List Int)} {b : Int} (v : Mx n h w A b) (k : n ≤ m) : Mx m h w A b := ⟨v.sh, v.h0, v.h1, v.w0, v.w1, v.pos, v.cop, v.bd.up k, abs_up v.sb k⟩
theorem Mx.ne {n h w : Nat} {A : List (List Int)} {b : Int} (v : Mx n h w A b) : b ≠ 0 := by have := v.pos; omega
theorem Mx.g1 {n h w : Nat} {A : List (List Int)} {b : Int} (v : Mx n h w A b) : gM A b = 1 := by
  unfold gM gs
  rw [if_pos v.pos, v.cop]
  rfl
theorem Mx.low {n h w : Nat} {A : List (List Int)} {b : Int} (v : Mx n h w A b) : mT A b = A ∧ mB A b = b := by
  unfold mT mB
  rw [v.g1]
  refine ⟨?_, Int.fdiv_one b⟩
  have e : (fun t : Int => t.fdiv 1) = id := by funext t; exact Int.fdiv_one t
  rw [e]
  simp
theorem low_mx {n h w : Nat} {A : List (List Int)} {b : Int} (s : Sh h w A) (h0 : 0 < h) (h1 : h ≤ 12) (w0 : 0 < w) (w1 : w ≤ 12) (hb : b ≠ 0) (bd : BdM n A) (sb : b.natAbs < 2 ^ n) : Mx n h w (mT A b) (mB A b) :=
  ⟨s.low b, h0, h1, w0, w1, lB_pos hb, by rw [mT_flat, mB_eq]; exact low_cop hb, low_bdM bd, Nat.lt_of_le_of_lt (Int.natAbs_fdiv_le_natAbs _ _) sb⟩
/-! ## what they stand for -/
theorem rat_ne {b : Int} (h : b ≠ 0) : (b : Rat) ≠ 0 := by exact_mod_cast h
theorem V_low {h w : Nat} {A : List (List Int)} {b : Int} (s : Sh h w A) (hb : b ≠ 0) : EqM h w (VM (mT A b) (mB A b)) (VM A b) := fun i j hi hj => by
  obtain ⟨r, h1, h2, h3⟩ := s.at hi hj
  have e1 : (mT A b)[i]? = some (r.map fun t => t.fdiv (gM A b)) := by unfold mT; rw [List.getElem?_map, h1]; rfl
  have e2 : (r.map fun t => t.fdiv (gM A b))[j]? = some ((en A i j).fdiv (gM A b)) := by rw [List.getElem?_map, h3]; rfl
  have hg : gM A b ≠ 0 := gs_ne hb
  have d1 : gM A b ∣ en A i j := (gs_dvds A.flatten b).1 _ (List.mem_flatten.mpr ⟨r, List.mem_of_getElem? h1, List.mem_of_getElem? h3⟩)
  have d2 : gM A b ∣ b := (gs_dvds A.flatten b).2
  obtain ⟨x, hx⟩ := d1
  obtain ⟨y, hy⟩ := d2
  show (en (mT A b) i j : Rat) / (mB A b : Rat) = (en A i j : Rat) / (b : Rat)
  have y0 : y ≠ 0 := fun e => hb (by rw [hy, e, Int.mul_zero])
  have e3 : mB A b = y := by
    show b.fdiv (gM A b) = y
    generalize gM A b = g at *
    rw [hy]
    exact fdiv_of hg
  rw [en_of e1 e2, e3]
  generalize gM A b = g at *
  have e4 : (en A i j).fdiv g = x := by rw [hx]; exact fdiv_of hg
  rw [e4, hx, hy]
  have r1 := rat_ne hg
  have r2 := rat_ne y0
  push_cast
  grind
/-! ## the program's products, sums, multiples -/
def dotI (r c : List Int) : Int := (List.zipWith (fun x y => x * y) r c).sum
def colI (B : List (List Int)) (j : Nat) : List Int := B.map fun r => r.getD j 0
def mulM (A B : List (List Int)) (w : Nat) : List (List Int) := A.map fun r => (List.range w).map fun j => dotI r (colI B j)
def addM (A : List (List Int)) (b : Int) (B : List (List Int)) (c : Int) : List (List Int) := List.zipWith (fun r s => List.zipWith (fun x y => x * c + y * b) r s) A B
def sclM (A : List (List Int)) (t : Int) : List (List Int) := A.map fun r => r.map fun x => x * t
def unitM (n : Nat) : List (List Int) := (List.range n).map fun i => (List.range n).map fun j => if i = j then 1 else 0
theorem dot_sum : ∀ (r c : List Int), r.length = c.length → ((dotI r c : Int) : Rat) = sumR r.length fun k => (r.getD k 0 : Rat) * (c.getD k 0 : Rat) := by
  have key : ∀ (n : Nat) (r c : List Int), r.length = n → c.length = n → ((dotI r c : Int) : Rat) = sumR n fun k => (r.getD k 0 : Rat) * (c.getD k 0 : Rat) := by
    intro n
    induction n with
    | zero =>
      intro r c hr hc
      rw [List.length_eq_zero_iff.mp hr]
      rfl
    | succ n ih =>
      intro r c hr hc
      rcases List.eq_nil_or_concat r with rfl | ⟨r', x, e⟩
      · simp at hr
      rcases List.eq_nil_or_concat c with rfl | ⟨c', y, e2⟩
      · simp at hc
      rw [List.concat_eq_append] at e e2
      subst e e2
      have hr' : r'.length = n := by simpa using hr
      have hc' : c'.length = n := by simpa using hc
      have e3 : dotI (r' ++ [x]) (c' ++ [y]) = dotI r' c' + x * y := by
        unfold dotI
        rw [List.zipWith_append (by rw [hr', hc'])]
        simp
      rw [e3, sumR]
      have e4 := ih r' c' hr' hc'
      push_cast
      rw [e4]
      have g1 : (r' ++ [x]).getD n 0 = x := getD_of (by rw [List.getElem?_append_right (by omega), hr']; simp)
      have g2 : (c' ++ [y]).getD n 0 = y := getD_of (by rw [List.getElem?_append_right (by omega), hc']; simp)
      rw [g1, g2]
      refine congrArg (· + _) (sumR_congr fun i hi => ?_)
      have g3 : (r' ++ [x]).getD i 0 = r'.getD i 0 := by rw [List.getD_eq_getElem?_getD, List.getD_eq_getElem?_getD, List.getElem?_append_left (by omega)]
      have g4 : (c' ++ [y]).getD i 0 = c'.getD i 0 := by rw [List.getD_eq_getElem?_getD, List.getD_eq_getElem?_getD, List.getElem?_append_left (by omega)]
      rw [g3, g4]
  intro r c h
  exact key _ r c rfl h.symm
theorem col_at {B : List (List Int)} {k j : Nat} : (colI B j).getD k 0 = en B k j := by
  unfold colI en
  simp only [List.getD_eq_getElem?_getD, List.getElem?_map]
  cases B[k]? with
  | none => simp
  | some r => simp
theorem Sh.mul {h m w : Nat} {A B : List (List Int)} (s : Sh h m A) : Sh h w (mulM A B w) := ⟨by unfold mulM; rw [List.length_map]; exact s.1, fun r hr => by
  obtain ⟨r', _, rfl⟩ := List.mem_map.mp hr
  simp⟩
theorem V_mul {h m w : Nat} {A B : List (List Int)} {b c : Int} (s : Sh h m A) (t : Sh m w B) (hb : b ≠ 0) (hc : c ≠ 0) : EqM h w (VM (mulM A B w) (b * c)) (mulR m (VM A b) (VM B c)) := fun i j hi hj => by
  have hA : A[i]? = some (A[i]'(by rw [s.1]; exact hi)) := List.getElem?_eq_getElem _
  generalize A[i]'(by rw [s.1]; exact hi) = r at hA
  have hr : r.length = m := s.2 _ (List.mem_of_getElem? hA)
  have e1 : (mulM A B w)[i]? = some ((List.range w).map fun j => dotI r (colI B j)) := by unfold mulM; rw [List.getElem?_map, hA]; rfl
  have e2 : ((List.range w).map fun j => dotI r (colI B j))[j]? = some (dotI r (colI B j)) := by rw [List.getElem?_map, List.getElem?_range hj]; rfl
  show (en (mulM A B w) i j : Rat) / ((b * c : Int) : Rat) = sumR m fun k => (en A i k : Rat) / (b : Rat) * ((en B k j : Rat) / (c : Rat))
  rw [en_of e1 e2, dot_sum r (colI B j) (by unfold colI; rw [List.length_map, hr, t.1]), hr]
  have r1 := rat_ne hb
  have r2 := rat_ne hc
  have e3 : ∀ k, k < m → (en A i k : Rat) / (b : Rat) * ((en B k j : Rat) / (c : Rat)) = (r.getD k 0 : Rat) * ((colI B j).getD k 0 : Rat) * (1 / ((b * c : Int) : Rat)) := fun k hk => by
    have e4 : en A i k = r.getD k 0 := by unfold en; rw [getD_of hA]
    rw [col_at, e4]
    push_cast
    grind
  rw [sumR_congr e3, sumR_mulR]
  grind
theorem abs_sum {n : Nat} : ∀ (l : List Int), (∀ t ∈ l, t.natAbs ≤ n) → l.sum.natAbs ≤ l.length * n
  | [], _ => by simp
  | t :: l, h => by
    have h1 := h t List.mem_cons_self
    have h2 := abs_sum l fun u hu => h u (List.mem_cons_of_mem _ hu)
    rw [List.sum_cons, List.length_cons, Nat.succ_mul]
    have := Int.natAbs_add_le t l.sum
    omega
theorem dot_bd {n m : Nat} {r c : List Int} (hr : Bd n r) (hc : Bd m c) (hl : r.length ≤ 16) : (dotI r c).natAbs < 2 ^ (n + m + 4) := by
  have h1 : ∀ t ∈ List.zipWith (fun x y => x * y) r c, t.natAbs ≤ 2 ^ (n + m) - 1 := fun t ht => by
    obtain ⟨i, hi⟩ := List.getElem?_of_mem ht
    rw [List.getElem?_zipWith] at hi
    cases e1 : r[i]? with
    | none => rw [e1] at hi; simp at hi
    | some x =>
      cases e2 : c[i]? with
      | none => rw [e1, e2] at hi; simp at hi
      | some y =>
        rw [e1, e2] at hi
        simp at hi
        subst hi
        have := abs_mul_lt (hr x (List.mem_of_getElem? e1)) (hc y (List.mem_of_getElem? e2))
        omega
  have h2 := abs_sum _ h1
  have h3 : (List.zipWith (fun x y => x * y) r c).length ≤ 16 := by rw [List.length_zipWith]; omega
  have h4 := Nat.two_pow_pos (n + m)
  have h5 : (List.zipWith (fun x y => x * y) r c).length * (2 ^ (n + m) - 1) ≤ 16 * (2 ^ (n + m) - 1) := Nat.mul_le_mul_right _ h3
  have h6 : 2 ^ (n + m + 4) = 16 * 2 ^ (n + m) := by rw [Nat.pow_add]; omega
  show (List.zipWith (fun x y => x * y) r c).sum.natAbs < _
  omega
theorem BdM.col {n : Nat} {B : List (List Int)} (h : BdM n B) (j : Nat) : Bd n (colI B j) := fun t ht => by
  obtain ⟨r, hr, rfl⟩ := List.mem_map.mp ht
  show (r.getD j 0).natAbs < 2 ^ n
  rw [List.getD_eq_getElem?_getD]
  cases e : r[j]? with
  | none => exact Nat.two_pow_pos n
  | some x => exact h r hr x (List.mem_of_getElem? e)
theorem BdM.mul {n k h m w : Nat} {A B : List (List Int)} (s : Sh h m A) (hm : m ≤ 16) (a : BdM n A) (b : BdM k B) : BdM (n + k + 4) (mulM A B w) := fun r hr => by
  obtain ⟨r', hr', rfl⟩ := List.mem_map.mp hr
  intro t ht
  obtain ⟨j, _, rfl⟩ := List.mem_map.mp ht
  exact dot_bd (a r' hr') (b.col j) (by rw [s.2 r' hr']; exact hm)
/-- sum -/
theorem add_at {h w : Nat} {A B : List (List Int)} {b c : Int} (s : Sh h w A) (t : Sh h w B) {i j : Nat} (hi : i < h) (hj : j < w) : ∃ r, (addM A b B c)[i]? = some r ∧ r.length = w ∧ r[j]? = some (en A i j * c + en B i j * b) := by
  obtain ⟨r1, h1, h2, h3⟩ := s.at hi hj
  obtain ⟨r2, k1, k2, k3⟩ := t.at hi hj
  refine ⟨List.zipWith (fun x y => x * c + y * b) r1 r2, ?_, by rw [List.length_zipWith, h2, k2, Nat.min_self], ?_⟩
  · unfold addM
    rw [List.getElem?_zipWith, h1, k1]
  · rw [List.getElem?_zipWith, h3, k3]
theorem Sh.add {h w : Nat} {A B : List (List Int)} {b c : Int} (s : Sh h w A) (t : Sh h w B) : Sh h w (addM A b B c) := ⟨by unfold addM; rw [List.length_zipWith, s.1, t.1, Nat.min_self], fun r hr => by
  obtain ⟨i, hi⟩ := List.getElem?_of_mem hr
  unfold addM at hi
  rw [List.getElem?_zipWith] at hi
  cases e1 : A[i]? with
  | none => rw [e1] at hi; simp at hi
  | some x =>
    cases e2 : B[i]? with
    | none => rw [e1, e2] at hi; simp at hi
    | some y =>
      rw [e1, e2] at hi
      simp at hi
      rw [← hi, List.length_zipWith, s.2 x (List.mem_of_getElem? e1), t.2 y (List.mem_of_getElem? e2), Nat.min_self]⟩
theorem V_add {h w : Nat} {A B : List (List Int)} {b c : Int} (s : Sh h w A) (t : Sh h w B) (hb : b ≠ 0) (hc : c ≠ 0) : EqM h w (VM (addM A b B c) (b * c)) (addR (VM A b) (VM B c)) := fun i j hi hj => by
  obtain ⟨r, h1, _, h3⟩ := add_at (b := b) (c := c) s t hi hj
  show (en (addM A b B c) i j : Rat) / ((b * c : Int) : Rat) = (en A i j : Rat) / (b : Rat) + (en B i j : Rat) / (c : Rat)
  rw [en_of h1 h3]
  have r1 := rat_ne hb
  have r2 := rat_ne hc
  push_cast
  grind
theorem BdM.add {n k : Nat} {A B : List (List Int)} {b c : Int} (a : BdM n A) (d : BdM k B) (hb : b.natAbs < 2 ^ n) (hc : c.natAbs < 2 ^ k) : BdM (n + k + 1) (addM A b B c) := fun r hr t ht => by
  obtain ⟨i, hi⟩ := List.getElem?_of_mem hr
  unfold addM at hi
  rw [List.getElem?_zipWith] at hi
  cases e1 : A[i]? with
  | none => rw [e1] at hi; simp at hi
  | some x =>
    cases e2 : B[i]? with
    | none => rw [e1, e2] at hi; simp at hi
    | some y =>
      rw [e1, e2] at hi
      simp at hi
      subst hi
      obtain ⟨j, hj⟩ := List.getElem?_of_mem ht
      rw [List.getElem?_zipWith] at hj
      cases f1 : x[j]? with
      | none => rw [f1] at hj; simp at hj
      | some u =>
        cases f2 : y[j]? with
        | none => rw [f1, f2] at hj; simp at hj
        | some v =>
          rw [f1, f2] at hj
          simp at hj
          subst hj
          refine abs_add_lt (abs_mul_lt (a x (List.mem_of_getElem? e1) u (List.mem_of_getElem? f1)) hc) ?_
          rw [Nat.add_comm n k]
          exact abs_mul_lt (d y (List.mem_of_getElem? e2) v (List.mem_of_getElem? f2)) hb
/-- multiple -/
theorem Sh.scl {h w : Nat} {A : List (List Int)} (s : Sh h w A) (t : Int) : Sh h w (sclM A t) := ⟨by unfold sclM; rw [List.length_map]; exact s.1, fun r hr => by
  obtain ⟨r', hr', rfl⟩ := List.mem_map.mp hr
  rw [List.length_map]
  exact s.2 r' hr'⟩
theorem V_scl {h w : Nat} {A : List (List Int)} {b t c : Int} (s : Sh h w A) (hb : b ≠ 0) (hc : c ≠ 0) : EqM h w (VM (sclM A t) (b * c)) (sclR ((t : Rat) / (c : Rat)) (VM A b)) := fun i j hi hj => by
  obtain ⟨r, h1, _, h3⟩ := s.at hi hj
  have e1 : (sclM A t)[i]? = some (r.map fun x => x * t) := by unfold sclM; rw [List.getElem?_map, h1]; rfl
  have e2 : (r.map fun x => x * t)[j]? = some (en A i j * t) := by rw [List.getElem?_map, h3]; rfl
  show (en (sclM A t) i j : Rat) / ((b * c : Int) : Rat) = (t : Rat) / (c : Rat) * ((en A i j : Rat) / (b : Rat))
  rw [en_of e1 e2]
  have r1 := rat_ne hb
  have r2 := rat_ne hc
  push_cast
  grind
theorem BdM.scl {n k : Nat} {A : List (List Int)} {t : Int} (a : BdM n A) (ht : t.natAbs < 2 ^ k) : BdM (n + k) (sclM A t) := fun r hr x hx => by
  obtain ⟨r', hr', rfl⟩ := List.mem_map.mp hr
  obtain ⟨y, hy, rfl⟩ := List.mem_map.mp hx
  exact abs_mul_lt (a r' hr' y hy) ht
/-- the unit -/
theorem Sh.unit (n : Nat) : Sh n n (unitM n) := ⟨by simp [unitM], fun r hr => by
  obtain ⟨i, _, rfl⟩ := List.mem_map.mp hr
  simp⟩
theorem en_unit {n i j : Nat} (hi : i < n) (hj : j < n) : en (unitM n) i j = if i = j then 1 else 0 := by
  have e1 : (unitM n)[i]? = some ((List.range n).map fun j => if i = j then 1 else 0) := by unfold unitM; rw [List.getElem?_map, List.getElem?_range hi]; rfl
  exact en_of e1 (by rw [List.getElem?_map, List.getElem?_range hj]; rfl)
theorem V_unit (n : Nat) : EqM n n (VM (unitM n) 1) oneR := fun i j hi hj => by
  show (en (unitM n) i j : Rat) / ((1 : Int) : Rat) = if i = j then 1 else 0
  rw [en_unit hi hj]
  by_cases h : i = j
  · rw [if_pos h, if_pos h]; grind
  · rw [if_neg h, if_neg h]; grind
theorem BdM.unit (n : Nat) : BdM 1 (unitM n) := fun r hr t ht => by
  obtain ⟨i, _, rfl⟩ := List.mem_map.mp hr
  obtain ⟨j, _, rfl⟩ := List.mem_map.mp ht
  show (if i = j then (1 : Int) else 0).natAbs < 2 ^ 1
  by_cases h : i = j
  · rw [if_pos h]; decide
  · rw [if_neg h]; decide
/-- the trace -/
def traI (A : List (List Int)) : Int := ((List.range A.length).map fun i => en A i i).sum
theorem sum_range (f : Nat → Int) : ∀ n, ((((List.range n).map f).sum : Int) : Rat) = sumR n fun i => (f i : Rat)
  | 0 => rfl
  | n + 1 => by
    rw [List.range_succ, List.map_append, List.sum_append, sumR, ← sum_range f n]
    push_cast
    simp
theorem V_tra {n : Nat} {A : List (List Int)} {b : Int} (hl : A.length = n) (hb : b ≠ 0) : (traI A : Rat) / (b : Rat) = traR n (VM A b) := by
  unfold traI traR VM
  rw [sum_range, hl]
  have e : ∀ i, i < n → (en A i i : Rat) / (b : Rat) = (en A i i : Rat) * (1 / (b : Rat)) := fun i _ => by grind
  rw [sumR_congr e, sumR_mulR]
  grind
theorem en_bd {n : Nat} {A : List (List Int)} (h : BdM n A) (i j : Nat) : (en A i j).natAbs < 2 ^ n := by
  unfold en
  simp only [List.getD_eq_getElem?_getD]
  cases e : A[i]? with
  | none =>
    simp
    exact Nat.two_pow_pos n
  | some r =>
    simp only [Option.getD_some]
    cases e2 : r[j]? with
    | none => exact Nat.two_pow_pos n
    | some x => exact h r (List.mem_of_getElem? e) x (List.mem_of_getElem? e2)
theorem tra_bd {n : Nat} {A : List (List Int)} (h : BdM n A) (hl : A.length ≤ 16) : (traI A).natAbs < 2 ^ (n + 4) := by
  have h1 : ∀ t ∈ (List.range A.length).map fun i => en A i i, t.natAbs ≤ 2 ^ n - 1 := fun t ht => by
    obtain ⟨i, _, rfl⟩ := List.mem_map.mp ht
    have := en_bd h i i
    show (en A i i).natAbs ≤ _
    omega
  have h2 := abs_sum _ h1
  rw [List.length_map, List.length_range] at h2
  have h4 := Nat.two_pow_pos n
  have h5 : A.length * (2 ^ n - 1) ≤ 16 * (2 ^ n - 1) := Nat.mul_le_mul_right _ hl
  have h6 : 2 ^ (n + 4) = 16 * 2 ^ n := by rw [Nat.pow_add]; omega
  show ((List.range A.length).map fun i => en A i i).sum.natAbs < _
  omega
end DL

namespace K32
open PySem PySem.Spec PyProof.Rows L2 LR DL
section
variable {P : Program} {w : World} {K : PySem.W.Frag} {mg : Str → Option Value} {base : Heap}
local macro_rules | `(tactic| walk_at "side") => `(tactic| first | rfl | assumption | exact ⟨_, rfl⟩ | omega | exact mulL (by omega) (by omega) | exact mulR (by omega) (by omega) | exact mulF (by decide) (by decide) | exact ⟨by decide, by decide +kernel⟩ | decide | exact Nat.le_of_ble_eq_true rfl | (simp only [List.length_cons, List.length_nil, List.length_map, List.nil_append, List.cons_append, sizeLine_eq]; omega) | (simp only [List.map_cons, List.map_nil, List.nil_append, List.cons_append]; decide +kernel))
local macro_rules | `(tactic| walk_at "go") => `(tactic| repeat (first
  | refine ⟨_, rfl, ?_⟩
  | refine ⟨_, _, rfl, rfl, ?_⟩
  | refine ⟨_, _, rfl, ?_⟩
  | refine ⟨_, _, _, rfl, rfl, ?_⟩
  | refine ⟨_, _, _, rfl, ?_⟩
  | refine ⟨_, _, _, _, rfl, rfl, ?_⟩
  | refine ⟨_, _, _, _, rfl, ?_⟩
  | refine ⟨_, _, rfl, by assumption, ?_⟩
  | refine ⟨_, _, _, rfl, rfl, rfl, ?_⟩
  | refine ⟨_, _, _, rfl, rfl, by assumption, ?_⟩
  | refine ⟨_, _, _, rfl, rfl, by walk_at "side", by assumption, ?_⟩
  | refine ⟨_, _, _, rfl, rfl, by walk_at "side", rfl, ?_⟩
  | refine ⟨_, _, _, rfl, rfl, rfl, by assumption, ?_⟩
  | refine .inl ⟨_, rfl, ?_⟩
  | refine .inr ⟨_, rfl, ?_⟩
  | refine .inr (.inl ⟨_, rfl, ?_⟩)
  | refine .inr (.inr ⟨_, rfl, ?_⟩)
  | refine ⟨_, .inl rfl, ?_⟩
  | refine ⟨_, .inr rfl, ?_⟩
  | refine ⟨_, (by assumption : _ ∨ _), ?_⟩
  | refine .inr ⟨_, _, rfl, ?_⟩
  | refine .inl ⟨_, _, rfl, ?_⟩
  | refine And.intro (by walk_at "side") ?_))


def P_law_cell : Prm := fun ds Q _ => ∃ (ns : List Int) (k : Int), ds = [.lst (ns.map D.int), .int k] ∧ 0 ≤ k ∧ k ≤ 1000 ∧ ns.length ≤ 63 ∧ ∀ v : Int, 0 ≤ v → Q (.int v)
def P_law_mix : Prm := fun ds Q _ => ∃ (c k t : Int), ds = [.int c, .int k, .int t] ∧ 0 ≤ k ∧ k ≤ 1000 ∧ 0 ≤ t ∧ t ≤ 1000 ∧ ∀ v : Int, 0 ≤ v → v < 1024 → Q (.int v)
def P_law_draws : Prm := fun ds Q _ => ∃ (ns : List Int) (k m : Int), ds = [.lst (ns.map D.int), .int k, .int m] ∧ 0 ≤ k ∧ k ≤ 1000 ∧ 0 ≤ m ∧ m ≤ 1000 ∧ ns.length ≤ 63 ∧ ∀ zs : List Int, (zs.length : Int) = m → (∀ z ∈ zs, 0 ≤ z ∧ z < 1024) → Q (.lst (zs.map D.int))
def P_law_small : Prm := fun ds Q _ => ∃ d : Int, ds = [.int d] ∧ 0 ≤ d ∧ d < 1024 ∧ ∀ v : Int, -32 ≤ v → v ≤ 31 → Q (.int v)
def P_law_is_integer : Prm := fun ds Q _ => ∃ i : Int, ds = [.int i] ∧ Q (.bl true)
def P_law_gcd : Prm := fun ds Q _ => ∃ a b : Int, ds = [.int a, .int b] ∧ b.natAbs < 2 ^ 8999 ∧ Q (.int ((Nat.gcd b.natAbs a.natAbs : Nat) : Int))
def P_law_ratio : Prm := fun ds Q _ => ∃ t b : Int, ds = [.int t, .int b] ∧ b ≠ 0 ∧ b.natAbs < 2 ^ 8999 ∧ Q (.tup [.int (nT t b), .int (nB t b)])

theorem fn_law_cell (T : Txt LL K mg) (M : Mo3 cs sms cis mxs exs K mg) : Nonempty (Fn P w K mg base (d_law_cell.at_ K) 1 2 P_law_cell) := by
  refine Fn.of (T.d 38 (d := d_law_cell)) sc_law_cell rfl (fun _ _ _ _ _ _ us hl => match us, hl with | [_, _], _ => rfl) (fun ds Q ex h => ?_) (fun fd cdv A outer s H E hr => ⟨_, pdss_cons (pds_if (pdt_cmp op_lt l_B0 (pd_var (pv 1)) (pd_cb (fun h => pe_callB call_len (by rfl) (T.f "len") (by decide +kernel) h) l_len (pda_cons (pd_var (pv 0)) pda_nil)) (nomark _)) (pdss_one (pds_ret (pd_cb (fun h => pe_callB call_abs (by rfl) (T.f "abs") (by decide +kernel) h) l_abs (pda_cons (pd_ix ix_list l_ixL (pd_var (pv 0)) (pd_var (pv 1)) (fun _ _ => rfl)) pda_nil)))) pdss_nil) (pdss_cons (pds_set (i := 2) sc_law_cell.nd rfl (by first | exact Or.inl rfl | exact Or.inr rfl) (pd_int pe_int)) (pdss_cons (pds_for (passes_of rfl) rfl (pdi_list (pd_new (pdn_slL (pd_var (pv 0)) pdo_none (pdo_some (pd_int pe_int))))) (pdg_name (pg_name (i := 3) sc_law_cell.nd rfl (by first | exact Or.inl rfl | exact Or.inr rfl))) (pdss_one (pds_set (i := 2) sc_law_cell.nd rfl (by first | exact Or.inl rfl | exact Or.inr rfl) (pd_op op_modN l_I (pd_cb (fun h => pe_callTy call_int1 (by rfl) (T.f "int") (by decide +kernel) h) l_int (pda_cons (pd_op op_add l_I0 (pd_op op_mulZ l_I (pd_var (pv 2)) (pd_int pe_int)) (pd_op op_modN l_I (pd_cb (fun h => pe_callTy call_int1 (by rfl) (T.f "int") (by decide +kernel) h) l_int (pda_cons (pd_cb (fun h => pe_callB call_abs (by rfl) (T.f "abs") (by decide +kernel) h) l_abs (pda_cons (pd_var (pv 3)) pda_nil)) pda_nil)) (pd_int pe_int))) pda_nil)) (pd_int pe_int))))) (pdss_one (pds_ret (pd_op op_add l_I0 (pd_op op_add l_I0 (pd_op op_mulZ l_I (pd_var (pv 2)) (pd_int pe_int)) (pd_op op_mulZ l_I (pd_var (pv 1)) (pd_int pe_int))) (pd_int pe_int)))))), fun ds Q ex h => ?_⟩)
  · obtain ⟨ns, k, rfl, _⟩ := h
    rfl
  · obtain ⟨ns, k, rfl, h0, h1, hl, q⟩ := h
    walk_at "go"
    refine d_ite (fun c => ?_) (fun c => ?_)
    · have c' := of_decide_eq_true c
      simp only [List.length_map] at c'
      obtain ⟨z, _, _, hz⟩ := at_ex (l := ns) h0 c'
      walk_at "go"
      exact q _ (by omega)
    walk_at "go"
    obtain ⟨ms, em, _, _⟩ := cut_map D.int ns none (some 8)
    refine ⟨fun i env => ∃ (t : Int) (v : Sl), env = [.val (.lst (ns.map D.int)), .val (.int k), .val (.int t), v] ∧ 0 ≤ t ∧ t < 1000003, fun _ => ⟨5, _, rfl, by decide, by decide⟩, ?_, ?_⟩
    · rintro i x env hx ⟨t, v, rfl, t0, t1⟩
      rw [em] at hx
      obtain ⟨z, _, rfl⟩ := map_at hx
      walk_at "go"
      exact fun _ => ⟨_, _, rfl, fmod_lo _ (by decide), fmod_hi _ (by decide)⟩
    · rintro env ⟨t, v, rfl, t0, t1⟩
      walk_at "go"
      exact q _ (by omega)

theorem fn_law_mix (T : Txt LL K mg) (M : Mo3 cs sms cis mxs exs K mg) : Nonempty (Fn P w K mg base (d_law_mix.at_ K) 1 3 P_law_mix) := by
  refine Fn.of (T.d 39 (d := d_law_mix)) sc_law_mix rfl (fun _ _ _ _ _ _ us hl => match us, hl with | [_, _, _], _ => rfl) (fun ds Q ex h => ?_) (fun fd cdv A outer s H E hr => ⟨_, pdss_cons (pds_set (i := 3) sc_law_mix.nd rfl (by first | exact Or.inl rfl | exact Or.inr rfl) (pd_op op_modN l_I (pd_cb (fun h => pe_callTy call_int1 (by rfl) (T.f "int") (by decide +kernel) h) l_int (pda_cons (pd_op op_add l_I0 (pd_op op_add l_I0 (pd_op op_add l_I0 (pd_op op_mulZ l_I (pd_var (pv 0)) (pd_int pe_int)) (pd_op op_mulZ l_I (pd_var (pv 1)) (pd_int pe_int))) (pd_op op_mulZ l_I (pd_var (pv 2)) (pd_int pe_int))) (pd_int pe_int)) pda_nil)) (pd_int pe_int))) (pdss_cons (pds_set (i := 3) sc_law_mix.nd rfl (by first | exact Or.inl rfl | exact Or.inr rfl) (pd_op op_modN l_I (pd_cb (fun h => pe_callTy call_int1 (by rfl) (T.f "int") (by decide +kernel) h) l_int (pda_cons (pd_op op_add l_I0 (pd_op op_add l_I0 (pd_op op_mulZ l_I (pd_var (pv 3)) (pd_var (pv 3))) (pd_op op_mulZ l_I (pd_var (pv 2)) (pd_int pe_int))) (pd_int pe_int)) pda_nil)) (pd_int pe_int))) (pdss_cons (pds_set (i := 3) sc_law_mix.nd rfl (by first | exact Or.inl rfl | exact Or.inr rfl) (pd_op op_modN l_I (pd_cb (fun h => pe_callTy call_int1 (by rfl) (T.f "int") (by decide +kernel) h) l_int (pda_cons (pd_op op_add l_I0 (pd_op op_add l_I0 (pd_op op_mulZ l_I (pd_var (pv 3)) (pd_var (pv 3))) (pd_op op_mulZ l_I (pd_var (pv 1)) (pd_int pe_int))) (pd_int pe_int)) pda_nil)) (pd_int pe_int))) (pdss_one (pds_ret (pd_op op_modN l_I (pd_cb (fun h => pe_callTy call_int1 (by rfl) (T.f "int") (by decide +kernel) h) l_int (pda_cons (pd_var (pv 3)) pda_nil)) (pd_int pe_int)))))), fun ds Q ex h => ?_⟩)
  · obtain ⟨c, k, t, rfl, _⟩ := h
    rfl
  · obtain ⟨c, k, t, rfl, k0, k1, t0, t1, q⟩ := h
    walk_at "go"
    exact q _ (fmod_lo _ (by decide)) (fmod_hi _ (by decide))

theorem fn_law_draws (T : Txt LL K mg) (M : Mo3 cs sms cis mxs exs K mg) : Nonempty (Fn P w K mg base (d_law_draws.at_ K) 2 3 P_law_draws) := by
  obtain ⟨F_law_cell⟩ := fn_law_cell (P := P) (w := w) (base := base) T M
  obtain ⟨F_law_mix⟩ := fn_law_mix (P := P) (w := w) (base := base) T M
  refine Fn.of (T.d 40 (d := d_law_draws)) sc_law_draws rfl (fun _ _ _ _ _ _ us hl => match us, hl with | [_, _, _], _ => rfl) (fun ds Q ex h => ?_) (fun fd cdv A outer s H E hr => ⟨_, pdss_cons (pds_set (i := 3) sc_law_draws.nd rfl (by first | exact Or.inl rfl | exact Or.inr rfl) (pd_call F_law_cell (hr.mono (by decide)) (by rfl) (T.g "_law_cell") (T.k "_law_cell") (takes_of rfl rfl rfl rfl) (pda_cons (pd_var (pv 0)) (pda_cons (pd_var (pv 1)) pda_nil)))) (pdss_cons (pds_set (i := 4) sc_law_draws.nd rfl (by first | exact Or.inl rfl | exact Or.inr rfl) (pd_cmp op_ge l_B0 (pd_var (pv 3)) (pd_op op_powZ l_I (pd_int pe_int) (pd_int pe_int)) (nomark _))) (pdss_cons (pds_setN (i := 5) sc_law_draws.nd rfl (by first | exact Or.inl rfl | exact Or.inr rfl) (pdn_lst pda_nil)) (pdss_cons (pds_for (passes_of rfl) rfl (pdi_range1 rfl (T.f "range") (pda_cons (pd_var (pv 2)) pda_nil)) (pdg_name (pg_name (i := 6) sc_law_draws.nd rfl (by first | exact Or.inl rfl | exact Or.inr rfl))) (pdss_one (pds_if (PDW.pt (pdw_and (pdt_val (pd_var (pv 4))) (pdw_and1 (pdt_cmp op_gt l_B0 (pd_var (pv 3)) (pd_int pe_int) (nomark _))))) (pdss_cons (pds_app (i := 5) (te := id) (p1 := ⟨0, 0, 0, 0⟩) (p2 := ⟨0, 0, 0, 0⟩) (p3 := ⟨0, 0, 0, 0⟩) (x := "") (fun h => pe_bm PySem.F.plainAttrs_list PySem.F.slot_list_append PySem.F.type_list_append mt_append (pv 5) (pa_cons h pa_nil)) (pd_op op_modN l_I (pd_cb (fun h => pe_callTy call_int1 (by rfl) (T.f "int") (by decide +kernel) h) l_int (pda_cons (pd_var (pv 3)) pda_nil)) (pd_int pe_int))) (pdss_one (pds_set (i := 3) sc_law_draws.nd rfl (by first | exact Or.inl rfl | exact Or.inr rfl) (pd_op op_fdivZ l_I (pd_var (pv 3)) (pd_int pe_int))))) (pdss_one (pds_app (i := 5) (te := id) (p1 := ⟨0, 0, 0, 0⟩) (p2 := ⟨0, 0, 0, 0⟩) (p3 := ⟨0, 0, 0, 0⟩) (x := "") (fun h => pe_bm PySem.F.plainAttrs_list PySem.F.slot_list_append PySem.F.type_list_append mt_append (pv 5) (pa_cons h pa_nil)) (pd_call F_law_mix (hr.mono (by decide)) (by rfl) (T.g "_law_mix") (T.k "_law_mix") (takes_of rfl rfl rfl rfl) (pda_cons (pd_var (pv 3)) (pda_cons (pd_var (pv 1)) (pda_cons (pd_var (pv 6)) pda_nil))))))))) (pdss_frz 5 (pdss_one (pds_ret (pd_var (pv 5)))))))), fun ds Q ex h => ?_⟩)
  · obtain ⟨ns, k, m, rfl, _⟩ := h
    rfl
  · obtain ⟨ns, k, m, rfl, k0, k1, m0, m1, hl, q⟩ := h
    walk_at "go"
    intro v v0
    walk_at "go"
    refine ⟨fun i env => ∃ (c : Int) (zs : List Int) (dg : Bool) (u : Sl), env = [.val (.lst (ns.map D.int)), .val (.int k), .val (.int m), .val (.int c), .val (.bl dg), .own (zs.map D.int), u] ∧ zs.length = i ∧ ∀ z ∈ zs, 0 ≤ z ∧ z < 1024, fun _ => ⟨v, [], _, _, rfl, rfl, fun z hz => by cases hz⟩, ?_, ?_⟩
    · rintro i x env hx ⟨c, zs, dg, u, rfl, hz, hb⟩
      obtain ⟨hi, rfl⟩ := rng_at hx
      have ne : ∀ (z : Int), 0 ≤ z → z < 1024 → ∀ d ∈ zs ++ [z], 0 ≤ d ∧ d < 1024 := fun z z0 z1 d hd => by
        rcases List.mem_append.mp hd with e | e
        · exact hb d e
        · rw [List.mem_singleton.mp e]
          exact ⟨z0, z1⟩
      have hlen : (zs.map D.int).length < sizeLine := by rw [List.length_map]; exact sz100 (by omega)
      have app : ∀ z : Int, zs.map D.int ++ [D.int z] = (zs ++ [z]).map D.int := fun z => by rw [List.map_append]; rfl
      have cnt : ∀ z : Int, (zs ++ [z]).length = i + 1 := fun z => by rw [List.length_append, hz]; rfl
      walk_at "go"
      refine d_ite (fun e => ?_) (fun e => ?_)
      · walk_at "go"
        refine d_ite (fun e => ?_) (fun e => ?_)
        · walk_at "go"
          exact fun _ => ⟨_, zs ++ [_], dg, _, by rw [← app]; rfl, cnt _, ne _ (fmod_lo _ (by decide)) (fmod_hi _ (by decide))⟩
        · walk_at "go"
          intro v v0 v1
          walk_at "go"
          exact fun _ => ⟨_, zs ++ [v], dg, _, by rw [← app]; rfl, cnt _, ne _ v0 v1⟩
      · walk_at "go"
        intro v v0 v1
        walk_at "go"
        exact fun _ => ⟨_, zs ++ [v], dg, _, by rw [← app]; rfl, cnt _, ne _ v0 v1⟩
    · rintro env ⟨c, zs, dg, u, rfl, hz, hb⟩
      rw [rng_len] at hz
      walk_at "go"
      exact q zs (by omega) hb

theorem fn_law_small (T : Txt LL K mg) (M : Mo3 cs sms cis mxs exs K mg) : Nonempty (Fn P w K mg base (d_law_small.at_ K) 1 1 P_law_small) := by
  refine Fn.of (T.d 42 (d := d_law_small)) sc_law_small rfl (fun _ _ _ _ _ _ us hl => match us, hl with | [_], _ => rfl) (fun ds Q ex h => ?_) (fun fd cdv A outer s H E hr => ⟨_, pdss_cons (pds_if (pdt_cmp op_eq l_eq (pd_op op_modN l_I (pd_cb (fun h => pe_callTy call_int1 (by rfl) (T.f "int") (by decide +kernel) h) l_int (pda_cons (pd_var (pv 0)) pda_nil)) (pd_int pe_int)) (pd_int pe_int) (nomark _)) (pdss_one (pds_ret (pd_op op_sub l_I0 (pd_op op_modN l_I (pd_cb (fun h => pe_callTy call_int1 (by rfl) (T.f "int") (by decide +kernel) h) l_int (pda_cons (pd_op op_fdivZ l_I (pd_var (pv 0)) (pd_int pe_int)) pda_nil)) (pd_int pe_int)) (pd_int pe_int)))) pdss_nil) (pdss_one (pds_ret (pd_op op_sub l_I0 (pd_op op_modN l_I (pd_cb (fun h => pe_callTy call_int1 (by rfl) (T.f "int") (by decide +kernel) h) l_int (pda_cons (pd_var (pv 0)) pda_nil)) (pd_int pe_int)) (pd_int pe_int)))), fun ds Q ex h => ?_⟩)
  · obtain ⟨d, rfl, _⟩ := h
    rfl
  · obtain ⟨d, rfl, d0, d1, q⟩ := h
    walk_at "go"
    refine d_ite (fun c => ?_) (fun c => ?_)
    · walk_at "go"
      have a1 := fmod_lo (d.fdiv 16) (j := 64) (by decide)
      have a2 := fmod_hi (d.fdiv 16) (j := 64) (by decide)
      exact q _ (by omega) (by omega)
    · walk_at "go"
      have a1 := fmod_lo d (j := 7) (by decide)
      have a2 := fmod_hi d (j := 7) (by decide)
      exact q _ (by omega) (by omega)

theorem fn_law_is_integer (T : Txt LL K mg) (M : Mo3 cs sms cis mxs exs K mg) : Nonempty (Fn P w K mg base (d_law_is_integer.at_ K) 1 1 P_law_is_integer) := by
  refine Fn.of (T.d 46 (d := d_law_is_integer)) sc_law_is_integer rfl (fun _ _ _ _ _ _ us hl => match us, hl with | [_], _ => rfl) (fun ds Q ex h => ?_) (fun fd cdv A outer s H E hr => ⟨_, pdss_one (pds_ret (pd_and (pd_isi (cr := .int) M.isi M.cls (fun c h => nomatch h) (fun h => pe_callB call_isi (by rfl) (T.f "isinstance") (by decide +kernel) (pa_cons h (pa_cons (pe_bltn (v := .ty "int") (by rfl) (T.f "int") (by decide +kernel) rfl) pa_nil))) (pd_var (pv 0))) (pd_one (pd_not (pd_isi (cr := .bool) M.isi M.cls (fun c h => nomatch h) (fun h => pe_callB call_isi (by rfl) (T.f "isinstance") (by decide +kernel) (pa_cons h (pa_cons (pe_bltn (v := .ty "bool") (by rfl) (T.f "bool") (by decide +kernel) rfl) pa_nil))) (pd_var (pv 0))))))), fun ds Q ex h => ?_⟩)
  · obtain ⟨i, rfl, _⟩ := h
    rfl
  · obtain ⟨i, rfl, q⟩ := h
    walk_at "go"
    exact q


def P_law_bottom : Prm := fun ds Q _ => ∃ d : Int, ds = [.int d] ∧ ∀ v : Int, 1 ≤ v → v ≤ 6 → Q (.int v)
def P_law_size : Prm := fun ds Q _ => ∃ d : Int, ds = [.int d] ∧ 0 ≤ d ∧ d < 1024 ∧ ∀ v : Int, 2 ≤ v → v ≤ 5 → Q (.int v)
def P_law_integers : Prm := fun ds Q _ => ∃ (ts : List Int), ds = [.tup (ts.map D.int)] ∧ Q (.bl true)
abbrev R (t b : Int) : D := .ins 0 [.int t, .int b]
abbrev V (ts : List Int) (b : Int) : D := .ins 1 [.tup (ts.map D.int), .int b]
abbrev PO (ts : List Int) (b : Int) : D := .ins 3 [.tup (ts.map D.int), .int b]
/-- rows of ints: as tuples, as lists -/
abbrev tR (A : List (List Int)) : D := .tup (A.map fun r => .tup (r.map D.int))
abbrev lR (A : List (List Int)) : D := .lst (A.map fun r => .lst (r.map D.int))
abbrev MX (A : List (List Int)) (b : Int) (h w : Nat) : D := .ins 2 [tR A, .int b, .int h, .int w]
/-- numbers above, and one below -/
abbrev TB (ts : List Int) (b : Int) : D := .tup [.lst (ts.map D.int), .int b]
abbrev MB (A : List (List Int)) (b : Int) : D := .tup [lR A, .int b]
theorem cut_run {α : Type} {f : α → D} {zs : List α} {k n : Nat} (h : k + n ≤ zs.length) (hk : k < 2 ^ 30) (hn : n < 2 ^ 30) : DL.cutD (zs.map f) (some (k : Int)) (some ((k : Int) + (n : Int))) = ((zs.drop k).take n).map f := by
  unfold DL.cutD
  have h1 : HT.sIx (zs.map f).length 0 (some (k : Int)) = k := by
    rw [List.length_map]
    show (if (k : Int) < 0 then ((k : Int) + (zs.length : Int)).toNat else min (k : Int).toNat zs.length) = k
    rw [if_neg (by omega)]
    omega
  have h2 : HT.sIx (zs.map f).length (zs.map f).length (some ((k : Int) + (n : Int))) = k + n := by
    rw [List.length_map]
    show (if (k : Int) + (n : Int) < 0 then ((k : Int) + (n : Int) + (zs.length : Int)).toNat else min ((k : Int) + (n : Int)).toNat zs.length) = k + n
    rw [if_neg (by omega)]
    omega
  rw [h1, h2, List.map_take, List.map_drop, Nat.add_sub_cancel_left]
def P_law_equal : Prm := fun ds Q _ => ∃ (t b u c : Int), ds = [.tup [.int t, .int b], .tup [.int u, .int c]] ∧ IntMulOk t c ∧ IntMulOk u b ∧ t * c = u * b ∧ Q (.bl true)
def P_law_poly : Prm := fun ds Q _ => ∃ (zs : List Int) (m : Int), ds = [.lst (zs.map D.int), .int m] ∧ zs.length = 6 ∧ (∀ z ∈ zs, 0 ≤ z ∧ z < 1024) ∧ 0 ≤ m ∧ m ≤ 5 ∧ ∀ (ts : List Int) (b : Int), (ts.length : Int) = m → (∀ t ∈ ts, -32 ≤ t ∧ t ≤ 31) → 1 ≤ b → b ≤ 6 → Q (TB ts b)

theorem fn_law_bottom (T : Txt LL K mg) (M : Mo3 cs sms cis mxs exs K mg) : Nonempty (Fn P w K mg base (d_law_bottom.at_ K) 1 1 P_law_bottom) := by
  refine Fn.of (T.d 43 (d := d_law_bottom)) sc_law_bottom rfl (fun _ _ _ _ _ _ us hl => match us, hl with | [_], _ => rfl) (fun ds Q ex h => ?_) (fun fd cdv A outer s H E hr => ⟨_, pdss_one (pds_ret (pd_ix ix_list l_ixL (pd_new (pdn_lst (pda_cons (pd_int pe_int) (pda_cons (pd_int pe_int) (pda_cons (pd_int pe_int) (pda_cons (pd_int pe_int) (pda_cons (pd_int pe_int) (pda_cons (pd_int pe_int) (pda_cons (pd_int pe_int) (pda_cons (pd_int pe_int) pda_nil)))))))))) (pd_op op_modN l_I (pd_cb (fun h => pe_callTy call_int1 (by rfl) (T.f "int") (by decide +kernel) h) l_int (pda_cons (pd_var (pv 0)) pda_nil)) (pd_int pe_int)) (fun _ _ => rfl))), fun ds Q ex h => ?_⟩)
  · obtain ⟨d, rfl, _⟩ := h
    rfl
  · obtain ⟨d, rfl, q⟩ := h
    obtain ⟨m, hm, h1, h2⟩ := pick_int (ys := [1, 1, 1, 2, 1, 3, 1, 6]) (n := 8) (lo := 1) (hi := 6) (k := d.fmod 8) rfl (by decide) (fmod_lo _ (by decide)) (fmod_hi _ (by decide))
    walk_at "go"
    exact q m h1 h2

theorem fn_law_size (T : Txt LL K mg) (M : Mo3 cs sms cis mxs exs K mg) : Nonempty (Fn P w K mg base (d_law_size.at_ K) 1 1 P_law_size) := by
  refine Fn.of (T.d 41 (d := d_law_size)) sc_law_size rfl (fun _ _ _ _ _ _ us hl => match us, hl with | [_], _ => rfl) (fun ds Q ex h => ?_) (fun fd cdv A outer s H E hr => ⟨_, pdss_cons (pds_if (pdt_cmp op_eq l_eq (pd_op op_modN l_I (pd_cb (fun h => pe_callTy call_int1 (by rfl) (T.f "int") (by decide +kernel) h) l_int (pda_cons (pd_var (pv 0)) pda_nil)) (pd_int pe_int)) (pd_int pe_int) (nomark _)) (pdss_one (pds_ret (pd_int pe_int))) pdss_nil) (pdss_cons (pds_if (pdt_cmp op_eq l_eq (pd_op op_modN l_I (pd_cb (fun h => pe_callTy call_int1 (by rfl) (T.f "int") (by decide +kernel) h) l_int (pda_cons (pd_var (pv 0)) pda_nil)) (pd_int pe_int)) (pd_int pe_int) (nomark _)) (pdss_one (pds_ret (pd_int pe_int))) pdss_nil) (pdss_one (pds_ret (pd_op op_add l_I0 (pd_int pe_int) (pd_op op_modN l_I (pd_cb (fun h => pe_callTy call_int1 (by rfl) (T.f "int") (by decide +kernel) h) l_int (pda_cons (pd_op op_fdivZ l_I (pd_var (pv 0)) (pd_int pe_int)) pda_nil)) (pd_int pe_int)))))), fun ds Q ex h => ?_⟩)
  · obtain ⟨d, rfl, _⟩ := h
    rfl
  · obtain ⟨d, rfl, d0, d1, q⟩ := h
    walk_at "go"
    refine d_ite (fun c => ?_) (fun c => ?_)
    · walk_at "go"
      exact q _ (by decide) (by decide)
    walk_at "go"
    refine d_ite (fun c => ?_) (fun c => ?_)
    · walk_at "go"
      exact q _ (by decide) (by decide)
    walk_at "go"
    have a1 := fmod_lo (d.fdiv 8) (j := 2) (by decide)
    have a2 := fmod_hi (d.fdiv 8) (j := 2) (by decide)
    exact q _ (by omega) (by omega)

theorem fn_law_integers (T : Txt LL K mg) (M : Mo3 cs sms cis mxs exs K mg) : Nonempty (Fn P w K mg base (d_law_integers.at_ K) 2 1 P_law_integers) := by
  obtain ⟨F_law_is_integer⟩ := fn_law_is_integer (P := P) (w := w) (base := base) T M
  refine Fn.of (T.d 54 (d := d_law_integers)) sc_law_integers rfl (fun _ _ _ _ _ _ us hl => match us, hl with | [_], _ => rfl) (fun ds Q ex h => ?_) (fun fd cdv A outer s H E hr => ⟨_, pdss_cons (pds_if (pdt_not (pdt_val (pd_isi (cr := .tuple) M.isi M.cls (fun c h => nomatch h) (fun h => pe_callB call_isi (by rfl) (T.f "isinstance") (by decide +kernel) (pa_cons h (pa_cons (pe_bltn (v := .ty "tuple") (by rfl) (T.f "tuple") (by decide +kernel) rfl) pa_nil))) (pd_var (pv 0))))) (pdss_one (pds_ret (pd_bl pe_bl))) pdss_nil) (pdss_cons (pds_for (passes_of rfl) rfl (pdi_tup (pd_var (pv 0))) (pdg_name (pg_name (i := 1) sc_law_integers.nd rfl (by first | exact Or.inl rfl | exact Or.inr rfl))) (pdss_one (pds_if (pdt_not (pdt_val (pd_call F_law_is_integer (hr.mono (by decide)) (by rfl) (T.g "_law_is_integer") (T.k "_law_is_integer") (takes_of rfl rfl rfl rfl) (pda_cons (pd_var (pv 1)) pda_nil)))) (pdss_one (pds_ret (pd_bl pe_bl))) pdss_nil))) (pdss_one (pds_ret (pd_bl pe_bl)))), fun ds Q ex h => ?_⟩)
  · obtain ⟨ts, rfl, _⟩ := h
    rfl
  · obtain ⟨ts, rfl, q⟩ := h
    walk_at "go"
    refine ⟨fun i env => ∃ v : Sl, env = [.val (.tup (ts.map D.int)), v], fun _ => ⟨_, rfl⟩, ?_, ?_⟩
    · rintro i x env hx ⟨v, rfl⟩
      obtain ⟨z, hz, rfl⟩ := map_at hx
      walk_at "go"
      exact fun _ => ⟨_, rfl⟩
    · rintro env ⟨v, rfl⟩
      walk_at "go"
      exact q

theorem fn_law_equal (T : Txt LL K mg) (M : Mo3 cs sms cis mxs exs K mg) : Nonempty (Fn P w K mg base (d_law_equal.at_ K) 1 2 P_law_equal) := by
  refine Fn.of (T.d 47 (d := d_law_equal)) sc_law_equal rfl (fun _ _ _ _ _ _ us hl => match us, hl with | [_, _], _ => rfl) (fun ds Q ex h => ?_) (fun fd cdv A outer s H E hr => ⟨_, pdss_one (pds_ret (pd_cmp op_eq l_eq (pd_op op_mulZ l_I (pd_ix ix_tup l_ixT (pd_var (pv 0)) (pd_int pe_int) (fun _ _ => rfl)) (pd_ix ix_tup l_ixT (pd_var (pv 1)) (pd_int pe_int) (fun _ _ => rfl))) (pd_op op_mulZ l_I (pd_ix ix_tup l_ixT (pd_var (pv 1)) (pd_int pe_int) (fun _ _ => rfl)) (pd_ix ix_tup l_ixT (pd_var (pv 0)) (pd_int pe_int) (fun _ _ => rfl))) (nomark _))), fun ds Q ex h => ?_⟩)
  · obtain ⟨t, b, u, c, rfl, _⟩ := h
    rfl
  · obtain ⟨t, b, u, c, rfl, m1, m2, e, q⟩ := h
    walk_at "go"
    rw [decide_eq_true e]
    exact q

theorem fn_law_poly (T : Txt LL K mg) (M : Mo3 cs sms cis mxs exs K mg) : Nonempty (Fn P w K mg base (d_law_poly.at_ K) 2 2 P_law_poly) := by
  obtain ⟨F_law_bottom⟩ := fn_law_bottom (P := P) (w := w) (base := base) T M
  obtain ⟨F_law_small⟩ := fn_law_small (P := P) (w := w) (base := base) T M
  refine Fn.of (T.d 45 (d := d_law_poly)) sc_law_poly rfl (fun _ _ _ _ _ _ us hl => match us, hl with | [_, _], _ => rfl) (fun ds Q ex h => ?_) (fun fd cdv A outer s H E hr => ⟨_, pdss_one (pds_ret (pd_tup (pda_cons (pd_new (pdn_lc (own := [("d", 2)]) rfl sc_law_poly.nd (pdi_list (pd_new (pdn_slL (pd_var (pv 0)) (pdo_some (pd_int pe_int)) (pdo_some (pd_op op_add l_I0 (pd_int pe_int) (pd_var (pv 1))))))) (blkOk_by (N := ["draws", "many", "d"]) (sc := defScope s_law_poly) (by decide +kernel)) (by decide) (fun _ _ _ _ _ => (pdg_name (pg_name (i := 2) sc_law_poly.nd rfl (by first | exact Or.inl rfl | exact Or.inr rfl)))) (fun _ _ _ _ _ => pdts_nil) (fun _ _ _ _ _ => pd_call F_law_small (hr.mono (by decide)) (by rfl) (T.g "_law_small") (T.k "_law_small") takes0 (pda_cons (pd_var (pv 2)) pda_nil)))) (pda_cons (pd_call F_law_bottom (hr.mono (by decide)) (by rfl) (T.g "_law_bottom") (T.k "_law_bottom") (takes_of rfl rfl rfl rfl) (pda_cons (pd_ix ix_list l_ixL (pd_var (pv 0)) (pd_int pe_int) (fun _ _ => rfl)) pda_nil)) pda_nil)))), fun ds Q ex h => ?_⟩)
  · obtain ⟨zs, m, rfl, _⟩ := h
    rfl
  · obtain ⟨zs, m, rfl, hl, hz, m0, m1, q⟩ := h
    obtain ⟨n, rfl⟩ : ∃ n : Nat, m = (n : Int) := ⟨m.toNat, by omega⟩
    have ec := cut_run (f := D.int) (zs := zs) (k := 1) (n := n) (by omega) (by decide) (by omega)
    have hcl : (DL.cutD (zs.map D.int) (some 1) (some (1 + (n : Int)))).length < sizeLine := by rw [show (1 : Int) = ((1 : Nat) : Int) from rfl, ec, List.length_map]; exact sz100 (by rw [List.length_take, List.length_drop]; omega)
    obtain ⟨x, hx, h0, hx2⟩ := at_ex (l := zs) (k := 0) (by decide) (by omega)
    walk_at "go"
    rw [show (1 : Int) = ((1 : Nat) : Int) from rfl, ec]
    refine ⟨fun i z => ∃ u : Int, z = some (.int u) ∧ -32 ≤ u ∧ u ≤ 31, ?_, ?_⟩
    · rintro i x hx
      obtain ⟨z, hz2, rfl⟩ := map_at hx
      obtain ⟨z0, z1⟩ := hz z (List.mem_of_mem_drop (List.mem_of_mem_take (List.mem_of_getElem? hz2)))
      walk_at "go"
      intro v v0 v1
      exact fun _ => ⟨_, rfl, v0, v1⟩
    intro ys hl2 hy
    obtain ⟨us, e, hm, hm2⟩ := lc_map D.int (P := fun i v => -32 ≤ v ∧ v ≤ 31) hl2 (fun i z h => by
      obtain ⟨u, h1, h2⟩ := hy i z h
      exact ⟨u, h1, h2⟩)
    rw [List.length_map, List.length_take, List.length_drop] at hm
    rw [e]
    walk_at "go"
    intro v v1 v6
    walk_at "go"
    exact q us v (by omega) (fun t ht => by
      obtain ⟨i, hi⟩ := List.getElem?_of_mem ht
      exact hm2 i t hi) v1 v6
end
end K32

namespace K32
open PySem PySem.Spec PyProof.Rows L2 LR DL
section
variable {P : Program} {w : World} {K : PySem.W.Frag} {mg : Str → Option Value} {base : Heap}
local macro_rules | `(tactic| walk_at "side") => `(tactic| first | rfl | assumption | exact ⟨_, rfl⟩ | omega | exact mulL (by omega) (by omega) | exact mulR (by omega) (by omega) | exact mulF (by decide) (by decide) | exact ⟨by decide, by decide +kernel⟩ | decide | exact Nat.le_of_ble_eq_true rfl | (simp only [List.length_cons, List.length_nil, List.length_map, List.nil_append, List.cons_append, sizeLine_eq]; omega) | (simp only [List.map_cons, List.map_nil, List.nil_append, List.cons_append]; decide +kernel))
local macro_rules | `(tactic| walk_at "go") => `(tactic| repeat (first
  | refine ⟨_, rfl, ?_⟩
  | refine ⟨_, _, rfl, rfl, ?_⟩
  | refine ⟨_, _, rfl, ?_⟩
  | refine ⟨_, _, _, rfl, rfl, ?_⟩
  | refine ⟨_, _, _, rfl, ?_⟩
  | refine ⟨_, _, _, _, rfl, rfl, ?_⟩
  | refine ⟨_, _, _, _, rfl, ?_⟩
  | refine ⟨_, _, rfl, by assumption, ?_⟩
  | refine ⟨_, _, _, rfl, rfl, rfl, ?_⟩
  | refine ⟨_, _, _, rfl, rfl, by assumption, ?_⟩
  | refine ⟨_, _, _, rfl, rfl, by walk_at "side", by assumption, ?_⟩
  | refine ⟨_, _, _, rfl, rfl, by walk_at "side", rfl, ?_⟩
  | refine ⟨_, _, _, rfl, rfl, rfl, by assumption, ?_⟩
  | refine .inl ⟨_, rfl, ?_⟩
  | refine .inr ⟨_, rfl, ?_⟩
  | refine .inr (.inl ⟨_, rfl, ?_⟩)
  | refine .inr (.inr ⟨_, rfl, ?_⟩)
  | refine ⟨_, .inl rfl, ?_⟩
  | refine ⟨_, .inr rfl, ?_⟩
  | refine ⟨_, (by assumption : _ ∨ _), ?_⟩
  | refine .inr ⟨_, _, rfl, ?_⟩
  | refine .inl ⟨_, _, rfl, ?_⟩
  | refine And.intro (by walk_at "side") ?_))

def sh_ZeroBottom : Xsh := [("word", .inr "bottom")]
theorem fx_ZeroBottom (T : Txt LL K mg) : Nonempty (FnX P w K mg base (d_ZeroBottom_init.at_ K) 1 "ZeroBottom" 0 sh_ZeroBottom) := by
  suffices ok : Ok P w K mg base (d_ZeroBottom_init.at_ K) 1 ["self"] (DL.spX K "ZeroBottom" 0 sh_ZeroBottom) by
    obtain ⟨fd, F, b⟩ := ok
    exact ⟨⟨fd, _, F, b⟩⟩
  refine Ok.of (T.d 0 (d := d_ZeroBottom_init)) sc_ZeroBottom_init (fun _ _ _ _ _ _ us hl => match us, hl with | [_], _ => rfl) (fun vs H Q E h => ?_) (fun fd cdv A outer s H vs Q E hr h => ?_)
  · obtain ⟨a, ws, rfl, hn, _⟩ := h
    exact congrArg (· + 1) hn
  · obtain ⟨a, ws, rfl, hn, ha, q⟩ := h
    obtain rfl := len0 hn
    refine ⟨_, pss_one (ps_ost (pv 0) pe_str), ?_⟩
    refine ⟨_, rfl, a, _, rfl, T.oex "ZeroBottom", T.no "ZeroBottom" "word", .inl ⟨ha, fun dx nd ne => ?_⟩⟩
    exact q _ dx (fun b o e nb => (upd_ne nb).trans ((upd_ne (ne_of_none e nd)).trans e)) nd ne (upd_same) ((upd_ne ne).trans upd_same)

def sh_Empty : Xsh := [("word", .inr "empty")]
theorem fx_Empty (T : Txt LL K mg) : Nonempty (FnX P w K mg base (d_Empty_init.at_ K) 1 "Empty" 0 sh_Empty) := by
  suffices ok : Ok P w K mg base (d_Empty_init.at_ K) 1 ["self"] (DL.spX K "Empty" 0 sh_Empty) by
    obtain ⟨fd, F, b⟩ := ok
    exact ⟨⟨fd, _, F, b⟩⟩
  refine Ok.of (T.d 1 (d := d_Empty_init)) sc_Empty_init (fun _ _ _ _ _ _ us hl => match us, hl with | [_], _ => rfl) (fun vs H Q E h => ?_) (fun fd cdv A outer s H vs Q E hr h => ?_)
  · obtain ⟨a, ws, rfl, hn, _⟩ := h
    exact congrArg (· + 1) hn
  · obtain ⟨a, ws, rfl, hn, ha, q⟩ := h
    obtain rfl := len0 hn
    refine ⟨_, pss_one (ps_ost (pv 0) pe_str), ?_⟩
    refine ⟨_, rfl, a, _, rfl, T.oex "Empty", T.no "Empty" "word", .inl ⟨ha, fun dx nd ne => ?_⟩⟩
    exact q _ dx (fun b o e nb => (upd_ne nb).trans ((upd_ne (ne_of_none e nd)).trans e)) nd ne (upd_same) ((upd_ne ne).trans upd_same)

def sh_SizeMismatch : Xsh := [("word", .inr "sizes"), ("right", .inl 1), ("left", .inl 0)]
theorem fx_SizeMismatch (T : Txt LL K mg) : Nonempty (FnX P w K mg base (d_SizeMismatch_init.at_ K) 1 "SizeMismatch" 2 sh_SizeMismatch) := by
  suffices ok : Ok P w K mg base (d_SizeMismatch_init.at_ K) 1 ["self", "left", "right"] (DL.spX K "SizeMismatch" 2 sh_SizeMismatch) by
    obtain ⟨fd, F, b⟩ := ok
    exact ⟨⟨fd, _, F, b⟩⟩
  refine Ok.of (T.d 3 (d := d_SizeMismatch_init)) sc_SizeMismatch_init (fun _ _ _ _ _ _ us hl => match us, hl with | [_, _, _], _ => rfl) (fun vs H Q E h => ?_) (fun fd cdv A outer s H vs Q E hr h => ?_)
  · obtain ⟨a, ws, rfl, hn, _⟩ := h
    exact congrArg (· + 1) hn
  · obtain ⟨a, ws, rfl, hn, ha, q⟩ := h
    obtain ⟨w0, w1, rfl⟩ := len2 hn
    refine ⟨_, pss_cons (ps_ost (pv 0) (pv 1)) (pss_cons (ps_ost (pv 0) (pv 2)) (pss_one (ps_ost (pv 0) pe_str))), ?_⟩
    refine ⟨_, rfl, _, rfl, a, _, rfl, T.oex "SizeMismatch", T.no "SizeMismatch" "left", .inl ⟨ha, fun dx nd ne => ?_⟩⟩
    refine ⟨_, rfl, _, rfl, a, _, rfl, T.oex "SizeMismatch", T.no "SizeMismatch" "right", .inr ⟨dx, _, upd_same, (upd_ne ne).trans upd_same, by simp, ?_⟩⟩
    refine ⟨_, rfl, a, _, rfl, T.oex "SizeMismatch", T.no "SizeMismatch" "word", .inr ⟨dx, _, (upd_ne (Ne.symm ne)).trans (upd_same), upd_same, by simp, ?_⟩⟩
    exact q _ dx (fun b o e nb => (upd_ne (ne_of_none e nd)).trans ((upd_ne (ne_of_none e nd)).trans ((upd_ne nb).trans ((upd_ne (ne_of_none e nd)).trans e)))) nd ne ((upd_ne (Ne.symm ne)).trans ((upd_ne (Ne.symm ne)).trans (upd_same))) (upd_same)

def sh_NotSquare : Xsh := [("word", .inr "square"), ("width", .inl 1), ("height", .inl 0)]
theorem fx_NotSquare (T : Txt LL K mg) : Nonempty (FnX P w K mg base (d_NotSquare_init.at_ K) 1 "NotSquare" 2 sh_NotSquare) := by
  suffices ok : Ok P w K mg base (d_NotSquare_init.at_ K) 1 ["self", "height", "width"] (DL.spX K "NotSquare" 2 sh_NotSquare) by
    obtain ⟨fd, F, b⟩ := ok
    exact ⟨⟨fd, _, F, b⟩⟩
  refine Ok.of (T.d 4 (d := d_NotSquare_init)) sc_NotSquare_init (fun _ _ _ _ _ _ us hl => match us, hl with | [_, _, _], _ => rfl) (fun vs H Q E h => ?_) (fun fd cdv A outer s H vs Q E hr h => ?_)
  · obtain ⟨a, ws, rfl, hn, _⟩ := h
    exact congrArg (· + 1) hn
  · obtain ⟨a, ws, rfl, hn, ha, q⟩ := h
    obtain ⟨w0, w1, rfl⟩ := len2 hn
    refine ⟨_, pss_cons (ps_ost (pv 0) (pv 1)) (pss_cons (ps_ost (pv 0) (pv 2)) (pss_one (ps_ost (pv 0) pe_str))), ?_⟩
    refine ⟨_, rfl, _, rfl, a, _, rfl, T.oex "NotSquare", T.no "NotSquare" "height", .inl ⟨ha, fun dx nd ne => ?_⟩⟩
    refine ⟨_, rfl, _, rfl, a, _, rfl, T.oex "NotSquare", T.no "NotSquare" "width", .inr ⟨dx, _, upd_same, (upd_ne ne).trans upd_same, by simp, ?_⟩⟩
    refine ⟨_, rfl, a, _, rfl, T.oex "NotSquare", T.no "NotSquare" "word", .inr ⟨dx, _, (upd_ne (Ne.symm ne)).trans (upd_same), upd_same, by simp, ?_⟩⟩
    exact q _ dx (fun b o e nb => (upd_ne (ne_of_none e nd)).trans ((upd_ne (ne_of_none e nd)).trans ((upd_ne nb).trans ((upd_ne (ne_of_none e nd)).trans e)))) nd ne ((upd_ne (Ne.symm ne)).trans ((upd_ne (Ne.symm ne)).trans (upd_same))) (upd_same)

def sh_RaggedRows : Xsh := [("word", .inr "ragged"), ("index", .inl 0)]
theorem fx_RaggedRows (T : Txt LL K mg) : Nonempty (FnX P w K mg base (d_RaggedRows_init.at_ K) 1 "RaggedRows" 1 sh_RaggedRows) := by
  suffices ok : Ok P w K mg base (d_RaggedRows_init.at_ K) 1 ["self", "index"] (DL.spX K "RaggedRows" 1 sh_RaggedRows) by
    obtain ⟨fd, F, b⟩ := ok
    exact ⟨⟨fd, _, F, b⟩⟩
  refine Ok.of (T.d 2 (d := d_RaggedRows_init)) sc_RaggedRows_init (fun _ _ _ _ _ _ us hl => match us, hl with | [_, _], _ => rfl) (fun vs H Q E h => ?_) (fun fd cdv A outer s H vs Q E hr h => ?_)
  · obtain ⟨a, ws, rfl, hn, _⟩ := h
    exact congrArg (· + 1) hn
  · obtain ⟨a, ws, rfl, hn, ha, q⟩ := h
    obtain ⟨w0, rfl⟩ := len1 hn
    refine ⟨_, pss_cons (ps_ost (pv 0) (pv 1)) (pss_one (ps_ost (pv 0) pe_str)), ?_⟩
    refine ⟨_, rfl, _, rfl, a, _, rfl, T.oex "RaggedRows", T.no "RaggedRows" "index", .inl ⟨ha, fun dx nd ne => ?_⟩⟩
    refine ⟨_, rfl, a, _, rfl, T.oex "RaggedRows", T.no "RaggedRows" "word", .inr ⟨dx, _, upd_same, (upd_ne ne).trans upd_same, by simp, ?_⟩⟩
    exact q _ dx (fun b o e nb => (upd_ne (ne_of_none e nd)).trans ((upd_ne nb).trans ((upd_ne (ne_of_none e nd)).trans e))) nd ne ((upd_ne (Ne.symm ne)).trans (upd_same)) (upd_same)


/-- a list or a tuple of ints -/
def Sq (s : D) (ts : List Int) : Prop := s = .lst (ts.map D.int) ∨ s = .tup (ts.map D.int)
theorem Sq.at {s : D} {ts : List Int} (h : Sq s ts) : some (Sl.val s) = some (.val (.lst (ts.map D.int))) ∨ some (Sl.val s) = some (.val (.tup (ts.map D.int))) := h.imp (fun e => by rw [e]) (fun e => by rw [e])
theorem okD_tup (ts : List Int) : okD (.tup (ts.map D.int)) = true := okD_of 1 (fun y hy => by
  obtain ⟨p, _, rfl⟩ := List.mem_map.mp hy
  exact trivial) (by decide)
def P_common_divisor : Prm := fun ds Q _ => ∃ (s : D) (ts : List Int) (b : Int), ds = [s, .int b] ∧ Sq s ts ∧ Q (.int (gs ts b))
def P_Ratio_init : Prm := fun ds Q ex => ∃ (t b : Int), ds = [.int t, .int b] ∧ (b = 0 → ex "ZeroBottom" (xD sh_ZeroBottom [])) ∧ (b ≠ 0 → (gs [t] b).natAbs < 2 ^ 8999 ∧ Q (R (nT t b) (nB t b)))
def P_Ratio_eq : Prm := fun ds Q _ => ∃ (t b u c : Int), ds = [R t b, R u c] ∧ Q (.bl (decide (t = u) && decide (b = c)))
def P_Vector_init : Prm := fun ds Q _ => ∃ (s : D) (ts : List Int) (b : Int), ds = [s, .int b] ∧ Sq s ts ∧ ts.length ≤ 4000 ∧ ts ≠ [] ∧ b ≠ 0 ∧ b.natAbs < 2 ^ 8999 ∧ Q (V (lT ts b) (lB ts b))
def P_Poly_init : Prm := fun ds Q ex => ∃ (s : D) (ts : List Int) (b : Int), ds = [s, .int b] ∧ Sq s ts ∧ ts.length ≤ 4000 ∧ (b = 0 → ex "ZeroBottom" (xD sh_ZeroBottom [])) ∧ (b ≠ 0 → b.natAbs < 2 ^ 8999 ∧ Q (PO (pT ts b) (pB ts b)))
def P_Poly_eq : Prm := fun ds Q _ => ∃ (ts : List Int) (b : Int) (d : D), ds = [PO ts b, d] ∧ kind cs d = true ∧ ((∃ us c, d = PO us c ∧ Q (.bl (decide (ts = us) && decide (b = c)))) ∨ (isD d (.own 3) = false ∧ Q (.bl false)))
/-- a factor: an int or a ratio -/
def Fac (d : D) (p q : Int) : Prop := (d = .int p ∧ q = 1) ∨ (d = R p q ∧ 0 < q)
def P_is_factor : Prm := fun ds Q _ => ∃ (d : D) (p q : Int), ds = [d] ∧ Fac d p q ∧ Q (.bl true)
def P_as_ratio : Prm := fun ds Q _ => ∃ (d : D) (p q : Int), ds = [d] ∧ Fac d p q ∧ Q (R p q)

theorem dvd_le {q M : Int} (hM : 0 < M) (h0 : 0 < q) (h : q ∣ M) : q ≤ M := Int.le_of_dvd hM h
theorem dvd_abs {q M : Int} {n : Nat} (hM : 0 < M) (hs : M.natAbs < 2 ^ n) (h0 : 0 < q) (h : q ∣ M) : q.natAbs < 2 ^ n := by
  have := dvd_le hM h0 h
  omega
theorem lcm_ok {m q M : Int} (h0 : 0 < m) (h1 : m ∣ M) (h2 : 0 < q) (h3 : q ∣ M) : 0 < ((Nat.lcm m.natAbs q.natAbs : Nat) : Int) ∧ ((Nat.lcm m.natAbs q.natAbs : Nat) : Int) ∣ M ∧ m ∣ ((Nat.lcm m.natAbs q.natAbs : Nat) : Int) ∧ q ∣ ((Nat.lcm m.natAbs q.natAbs : Nat) : Int) := by
  refine ⟨?_, ?_, ?_, ?_⟩
  · have := Nat.lcm_pos (m := m.natAbs) (n := q.natAbs) (by omega) (by omega)
    omega
  · have a1 : m.natAbs ∣ M.natAbs := Int.natAbs_dvd_natAbs.mpr h1
    have a2 : q.natAbs ∣ M.natAbs := Int.natAbs_dvd_natAbs.mpr h3
    exact Int.dvd_natAbs.mp (Int.ofNat_dvd.mpr (Nat.lcm_dvd a1 a2))
  · exact Int.natAbs_dvd.mp (Int.ofNat_dvd.mpr (Nat.dvd_lcm_left _ _))
  · exact Int.natAbs_dvd.mp (Int.ofNat_dvd.mpr (Nat.dvd_lcm_right _ _))
def P_common_bottom : Prm := fun ds Q _ => ∃ (qs : List Int) (M : Int), ds = [.lst (qs.map D.int)] ∧ 0 < M ∧ M.natAbs < 2 ^ 8999 ∧ (∀ q ∈ qs, 0 < q ∧ q ∣ M) ∧ ∀ m : Int, 0 < m → m ∣ M → (∀ q ∈ qs, q ∣ m) → Q (.int m)
def RS (s : D) (rs : List (Int × Int)) : Prop := s = .lst (rs.map fun p => R p.1 p.2) ∨ s = .tup (rs.map fun p => R p.1 p.2)
theorem RS.at {s : D} {rs : List (Int × Int)} (h : RS s rs) : some (Sl.val s) = some (.val (.lst (rs.map fun p => R p.1 p.2))) ∨ some (Sl.val s) = some (.val (.tup (rs.map fun p => R p.1 p.2))) := h.imp (fun e => by rw [e]) (fun e => by rw [e])
def overT (rs : List (Int × Int)) (m : Int) : List Int := rs.map fun p => p.1 * m.fdiv p.2
structure RsM (M : Int) (rs : List (Int × Int)) : Prop where
  pos : 0 < M
  sM : M.natAbs < 2 ^ 8900
  len : rs.length ≤ 1000
  ok : ∀ p ∈ rs, 0 < p.2 ∧ p.2 ∣ M ∧ p.1.natAbs < 2 ^ 8900
def P_over_one_bottom : Prm := fun ds Q _ => ∃ (s : D) (rs : List (Int × Int)) (M : Int), ds = [s] ∧ RS s rs ∧ RsM M rs ∧ ∀ m : Int, 0 < m → m ∣ M → (∀ p ∈ rs, p.2 ∣ m) → Q (.tup [.lst ((overT rs m).map D.int), .int m])
def P_Vector_of : Prm := fun ds Q _ => ∃ (s : D) (rs : List (Int × Int)) (M : Int), ds = [s] ∧ RS s rs ∧ RsM M rs ∧ rs ≠ [] ∧ ∀ m : Int, 0 < m → m ∣ M → (∀ p ∈ rs, p.2 ∣ m) → Q (V (lT (overT rs m) m) (lB (overT rs m) m))
def P_Poly_of : Prm := fun ds Q _ => ∃ (s : D) (rs : List (Int × Int)) (M : Int), ds = [s] ∧ RS s rs ∧ RsM M rs ∧ ∀ m : Int, 0 < m → m ∣ M → (∀ p ∈ rs, p.2 ∣ m) → Q (PO (pT (overT rs m) m) (pB (overT rs m) m))
def P_Ratio_mul : Prm := fun ds Q _ => ∃ (t b u c : Int), ds = [R t b, R u c] ∧ 0 < b ∧ 0 < c ∧ IntMulOk t u ∧ IntMulOk b c ∧ (gs [t * u] (b * c)).natAbs < 2 ^ 8999 ∧ Q (R (nT (t * u) (b * c)) (nB (t * u) (b * c)))
theorem mulBig {i j : Int} (hi : i.natAbs < 2 ^ 9000) (hj : j.natAbs < 2 ^ 9000) : IntMulOk i j := mulW (a := 9000) (b := 9000) hi hj (by decide) (by decide) (by decide)

theorem fn_common_divisor (T : Txt LL K mg) (M : Mo3 cs sms cis mxs exs K mg) : Nonempty (Fn P w K mg base (d_common_divisor.at_ K) 1 2 P_common_divisor) := by
  refine Fn.of (T.d 8 (d := d_common_divisor)) sc_common_divisor rfl (fun _ _ _ _ _ _ us hl => match us, hl with | [_, _], _ => rfl) (fun ds Q ex h => ?_) (fun fd cdv A outer s H E hr => ⟨_, pdss_cons (pds_set (i := 2) sc_common_divisor.nd rfl (by first | exact Or.inl rfl | exact Or.inr rfl) (pd_cb (fun h => pe_callB call_abs (by rfl) (T.f "abs") (by decide +kernel) h) l_abs (pda_cons (pd_var (pv 1)) pda_nil))) (pdss_cons (pds_for (passes_of rfl) rfl (pdi_seq (pv 0)) (pdg_name (pg_name (i := 3) sc_common_divisor.nd rfl (by first | exact Or.inl rfl | exact Or.inr rfl))) (pdss_cons (pds_if (pdt_cmp op_eq l_eq (pd_var (pv 2)) (pd_int pe_int) (nomark _)) (pdss_one pds_break) pdss_nil) (pdss_one (pds_set (i := 2) sc_common_divisor.nd rfl (by first | exact Or.inl rfl | exact Or.inr rfl) (pd_cb (fun h => pe_callBfun cr_gcd (by rfl) (T.b "gcd" "math.gcd") h) l_gcd (pda_cons (pd_var (pv 2)) (pda_cons (pd_var (pv 3)) pda_nil))))))) (pdss_one (pds_ret (pd_ife (pdt_cmp op_gt l_B0 (pd_var (pv 1)) (pd_int pe_int) (nomark _)) (pd_var (pv 2)) (pd_un un_neg l_U (pd_var (pv 2))))))), fun ds Q ex h => ?_⟩)
  · obtain ⟨s, ts, b, rfl, _⟩ := h
    rfl
  · obtain ⟨s, ts, b, rfl, hS, q⟩ := h
    have hs := hS.at
    walk_at "go"
    refine ⟨fun i env => ∃ (f : Nat) (v : Sl), env = [.val s, .val (.int b), .val (.int f), v] ∧ (ts.drop i).foldl (fun g t => Nat.gcd g t.natAbs) f = cg ts b, fun _ => ⟨_, _, rfl, rfl⟩, ?_, ?_⟩
    · rintro i x env hx ⟨f, v, rfl, hf⟩
      obtain ⟨z, hz, rfl⟩ := map_at hx
      have hi : i < ts.length := (List.getElem?_eq_some_iff.mp hz).1
      have ez : ts[i] = z := (List.getElem?_eq_some_iff.mp hz).2
      rw [List.drop_eq_getElem_cons hi, List.foldl_cons, ez] at hf
      walk_at "go"
      refine d_ite (fun c => ?_) (fun c => ?_)
      · have c1 : (f : Int) = 1 := of_decide_eq_true c
        have c2 : f = 1 := by omega
        subst c2
        rw [Nat.gcd_one_left, fold_one] at hf
        walk_at "go"
        refine d_ite (fun c => ?_) (fun c => ?_)
        · have c' : b > 0 := of_decide_eq_true c
          have e : gs ts b = 1 := by
            unfold gs
            rw [if_pos c', ← hf]
            rfl
          rw [e] at q
          walk_at "go"
          exact q
        · have c' : ¬ b > 0 := of_decide_eq_false c
          have e : gs ts b = -1 := by
            unfold gs
            rw [if_neg c', ← hf]
            rfl
          rw [e] at q
          walk_at "go"
          exact q
      · walk_at "go"
        exact fun _ => ⟨_, _, rfl, hf⟩
    · rintro env ⟨f, v, rfl, hf⟩
      rw [List.length_map, List.drop_length] at hf
      have hf : f = cg ts b := hf
      walk_at "go"
      refine d_ite (fun c => ?_) (fun c => ?_)
      · have c' : b > 0 := of_decide_eq_true c
        have e : gs ts b = f := by
          unfold gs
          rw [if_pos c', ← hf]
        rw [e] at q
        walk_at "go"
        exact q
      · have c' : ¬ b > 0 := of_decide_eq_false c
        have e : gs ts b = -f := by
          unfold gs
          rw [if_neg c', ← hf]
        rw [e] at q
        walk_at "go"
        exact q

theorem fn_Ratio_init (T : Txt LL K mg) (M : Mo3 cs sms cis mxs exs K mg) : Nonempty (FnI P w K mg base (d_Ratio_init.at_ K) 4 0 2 P_Ratio_init [] []) ∧ Nonempty (FnI P w K mg base (d_Ratio_init.at_ K) 4 0 2 P_Ratio_init [.int 1] [.int 1]) := by
  obtain ⟨F_ZeroBottom⟩ := fx_ZeroBottom (P := P) (w := w) (base := base) T
  obtain ⟨F_common_divisor⟩ := fn_common_divisor (P := P) (w := w) (base := base) T M
  refine FnI.ofD (T.d 5 (d := d_Ratio_init)) sc_Ratio_init rfl (fun n hn _ _ _ _ _ _ _ us its hu hi => ?_) (fun ds Q ex h => ?_) (fun fd cdv A outer s H E hr => ⟨_, pdss_cons (pds_if (pdt_cmp op_eq l_eq (pd_var (pv 2)) (pd_int pe_int) (nomark _)) (pdss_one (pds_raise0 rfl (takes_of rfl rfl rfl rfl) (pmk_oex0 (T.oex "ZeroBottom") (T.exI "ZeroBottom") (T.exT "ZeroBottom") F_ZeroBottom.ok (hr.mono (by decide)) F_ZeroBottom.bd passL (by rfl) (T.g "ZeroBottom")))) pdss_nil) (pdss_cons (pds_set (i := 3) sc_Ratio_init.nd rfl (by first | exact Or.inl rfl | exact Or.inr rfl) (pd_call F_common_divisor (hr.mono (by decide)) (by rfl) (T.g "common_divisor") (T.k "common_divisor") (takes_of rfl rfl rfl rfl) (pda_cons (pd_new (pdn_lst (pda_cons (pd_var (pv 1)) pda_nil))) (pda_cons (pd_var (pv 2)) pda_nil)))) (pdss_cons (pds_fst (i := 0) (c := 0) (f := "top") (T.cl "Ratio") (T.no "Ratio" "top") (fun h => ps_fld (pv 0) h rfl) (pd_op op_fdivZ l_I (pd_var (pv 1)) (pd_var (pv 3)))) (pdss_one (pds_fst (i := 0) (c := 0) (f := "bottom") (T.cl "Ratio") (T.no "Ratio" "bottom") (fun h => ps_fld (pv 0) h rfl) (pd_op op_fdivZ l_I (pd_var (pv 2)) (pd_var (pv 3))))))), fun p ds Q ex h => ?_⟩)
  · have hn : n = 3 ∨ n + 1 = 3 := hn
    rcases hn with rfl | hn
    · exact match us, hu, its, hi with | [_, _, _], _, [_], _ => ⟨_, rfl, rfl⟩
    · obtain rfl : n = 2 := by omega
      exact match us, hu, its, hi with | [_, _], _, [_], _ => ⟨_, rfl, rfl⟩
  · obtain ⟨t, b, rfl, _⟩ := h
    rfl
  · obtain ⟨t, b, rfl, q0, q⟩ := h
    walk_at "go"
    refine d_ite (fun c => ?_) (fun c => ?_)
    · walk_at "go"
      exact q0 (of_decide_eq_true c)
    · have c' : b ≠ 0 := of_decide_eq_false c
      obtain ⟨hg, q⟩ := q c'
      have hd : CDivZ t (gs [t] b) := divZ (gs_ne c') hg (by decide) (by decide)
      have hd2 : CDivZ b (gs [t] b) := divZ (gs_ne c') hg (by decide) (by decide)
      walk_at "go"
      refine ⟨_, [t], b, rfl, .inl rfl, ?_⟩
      walk_at "go"
      exact q

theorem fn_Ratio_eq (T : Txt LL K mg) (M : Mo3 cs sms cis mxs exs K mg) : Nonempty (Fn P w K mg base (d_Ratio_eq.at_ K) 1 2 P_Ratio_eq) := by
  refine Fn.of (T.d 7 (d := d_Ratio_eq)) sc_Ratio_eq rfl (fun _ _ _ _ _ _ us hl => match us, hl with | [_, _], _ => rfl) (fun ds Q ex h => ?_) (fun fd cdv A outer s H E hr => ⟨_, pdss_one (pds_ret (pd_and (pd_isi (cr := (.own 0)) M.isi M.cls (fun c h => by cases h; decide) (fun h => pe_callB call_isi (by rfl) (T.f "isinstance") (by decide +kernel) (pa_cons h (pa_cons (pe_glob (v := .ref (He.ga K "Ratio")) rfl (T.g "Ratio") rfl) pa_nil))) (pd_var (pv 1))) (pd_and (pd_cmp op_eq l_eq (pd_fld (c := 0) (k := 0) (T.cl "Ratio") (T.no "Ratio" "top") fk_Ratio_top (pd_var (pv 0))) (pd_fld (c := 0) (k := 0) (T.cl "Ratio") (T.no "Ratio" "top") fk_Ratio_top (pd_var (pv 1))) (nomark _)) (pd_one (pd_cmp op_eq l_eq (pd_fld (c := 0) (k := 1) (T.cl "Ratio") (T.no "Ratio" "bottom") fk_Ratio_bottom (pd_var (pv 0))) (pd_fld (c := 0) (k := 1) (T.cl "Ratio") (T.no "Ratio" "bottom") fk_Ratio_bottom (pd_var (pv 1))) (nomark _)))))), fun ds Q ex h => ?_⟩)
  · obtain ⟨t, b, u, c, rfl, _⟩ := h
    rfl
  · obtain ⟨t, b, u, c, rfl, q⟩ := h
    walk_at "go"
    by_cases h1 : t = u
    · rw [decide_eq_true h1] at q ⊢
      rw [Bool.true_and] at q
      walk_at "go"
      exact q
    · rw [decide_eq_false h1] at q ⊢
      rw [Bool.false_and] at q
      exact q

theorem fn_Ratio_mul (T : Txt LL K mg) (M : Mo3 cs sms cis mxs exs K mg) : Nonempty (Fn P w K mg base (d_Ratio_mul.at_ K) 6 2 P_Ratio_mul) := by
  obtain ⟨⟨F_Ratio_init⟩, ⟨F_Ratio_init_d⟩⟩ := fn_Ratio_init (P := P) (w := w) (base := base) T M
  refine Fn.of (T.d 6 (d := d_Ratio_mul)) sc_Ratio_mul rfl (fun _ _ _ _ _ _ us hl => match us, hl with | [_, _], _ => rfl) (fun ds Q ex h => ?_) (fun fd cdv A outer s H E hr => ⟨_, pdss_cons (pds_if (pdt_not (pdt_val (pd_isi (cr := (.own 0)) M.isi M.cls (fun c h => by cases h; decide) (fun h => pe_callB call_isi (by rfl) (T.f "isinstance") (by decide +kernel) (pa_cons h (pa_cons (pe_glob (v := .ref (He.ga K "Ratio")) rfl (T.g "Ratio") rfl) pa_nil))) (pd_var (pv 1))))) pdss_never pdss_nil) (pdss_one (pds_ret (pd_make (c := 0) (T.mkk "Ratio") F_Ratio_init (fun _ _ => .nil) (hr.mono (by decide)) (by rfl) (T.g "Ratio") (takes_of rfl rfl rfl rfl) (pda_cons (pd_op op_mulZ l_I (pd_fld (c := 0) (k := 0) (T.cl "Ratio") (T.no "Ratio" "top") fk_Ratio_top (pd_var (pv 0))) (pd_fld (c := 0) (k := 0) (T.cl "Ratio") (T.no "Ratio" "top") fk_Ratio_top (pd_var (pv 1)))) (pda_cons (pd_op op_mulZ l_I (pd_fld (c := 0) (k := 1) (T.cl "Ratio") (T.no "Ratio" "bottom") fk_Ratio_bottom (pd_var (pv 0))) (pd_fld (c := 0) (k := 1) (T.cl "Ratio") (T.no "Ratio" "bottom") fk_Ratio_bottom (pd_var (pv 1)))) pda_nil))))), fun ds Q ex h => ?_⟩)
  · obtain ⟨t, b, u, c, rfl, _⟩ := h
    rfl
  · obtain ⟨t, b, u, c, rfl, hb, hc, m1, m2, hg, q⟩ := h
    have hn : b * c ≠ 0 := Int.ne_of_gt (Int.mul_pos hb hc)
    walk_at "go"
    exact fun _ => ⟨hg, q⟩

theorem fn_Vector_init (T : Txt LL K mg) (M : Mo3 cs sms cis mxs exs K mg) : Nonempty (FnI P w K mg base (d_Vector_init.at_ K) 4 1 2 P_Vector_init [] []) ∧ Nonempty (FnI P w K mg base (d_Vector_init.at_ K) 4 1 2 P_Vector_init [.int 1] [.int 1]) := by
  obtain ⟨F_Empty⟩ := fx_Empty (P := P) (w := w) (base := base) T
  obtain ⟨F_ZeroBottom⟩ := fx_ZeroBottom (P := P) (w := w) (base := base) T
  obtain ⟨F_common_divisor⟩ := fn_common_divisor (P := P) (w := w) (base := base) T M
  refine FnI.ofD (T.d 13 (d := d_Vector_init)) sc_Vector_init rfl (fun n hn _ _ _ _ _ _ _ us its hu hi => ?_) (fun ds Q ex h => ?_) (fun fd cdv A outer s H E hr => ⟨_, pdss_cons (pds_if (pdt_cmp op_eq l_eq (pd_cb (fun h => pe_callB call_len (by rfl) (T.f "len") (by decide +kernel) h) l_len (pda_cons (pd_var (pv 1)) pda_nil)) (pd_int pe_int) (nomark _)) (pdss_one (pds_raise0 rfl (takes_of rfl rfl rfl rfl) (pmk_oex0 (T.oex "Empty") (T.exI "Empty") (T.exT "Empty") F_Empty.ok (hr.mono (by decide)) F_Empty.bd passL (by rfl) (T.g "Empty")))) pdss_nil) (pdss_cons (pds_if (pdt_cmp op_eq l_eq (pd_var (pv 2)) (pd_int pe_int) (nomark _)) (pdss_one (pds_raise0 rfl (takes_of rfl rfl rfl rfl) (pmk_oex0 (T.oex "ZeroBottom") (T.exI "ZeroBottom") (T.exT "ZeroBottom") F_ZeroBottom.ok (hr.mono (by decide)) F_ZeroBottom.bd passL (by rfl) (T.g "ZeroBottom")))) pdss_nil) (pdss_cons (pds_set (i := 3) sc_Vector_init.nd rfl (by first | exact Or.inl rfl | exact Or.inr rfl) (pd_call F_common_divisor (hr.mono (by decide)) (by rfl) (T.g "common_divisor") (T.k "common_divisor") (takes_of rfl rfl rfl rfl) (pda_cons (pd_var (pv 1)) (pda_cons (pd_var (pv 2)) pda_nil)))) (pdss_cons (pds_fst (i := 0) (c := 1) (f := "tops") (T.cl "Vector") (T.no "Vector" "tops") (fun h => ps_fld (pv 0) h rfl) (pd_cb (fun h => pe_callTy call_tuple_of (by rfl) (T.f "tuple") (by decide +kernel) h) l_tuple (pda_cons (pd_new (pdn_lc (own := [("top", 4)]) rfl sc_Vector_init.nd (pdi_seq (pv 1)) (blkOk_by (N := ["self", "tops", "bottom", "divisor", "top"]) (sc := defScope s_Vector_init) (by decide +kernel)) (by decide) (fun _ _ _ _ _ => (pdg_name (pg_name (i := 4) sc_Vector_init.nd rfl (Or.inl rfl)))) (fun _ _ _ _ _ => pdts_nil) (fun _ _ _ _ _ => pd_op op_fdivZ l_I (pd_var (pv 4)) (pd_var (pv 3))))) pda_nil))) (pdss_one (pds_fst (i := 0) (c := 1) (f := "bottom") (T.cl "Vector") (T.no "Vector" "bottom") (fun h => ps_fld (pv 0) h rfl) (pd_op op_fdivZ l_I (pd_var (pv 2)) (pd_var (pv 3)))))))), fun p ds Q ex h => ?_⟩)
  · have hn : n = 3 ∨ n + 1 = 3 := hn
    rcases hn with rfl | hn
    · exact match us, hu, its, hi with | [_, _, _], _, [_], _ => ⟨_, rfl, rfl⟩
    · obtain rfl : n = 2 := by omega
      exact match us, hu, its, hi with | [_, _], _, [_], _ => ⟨_, rfl, rfl⟩
  · obtain ⟨s, ts, b, rfl, _⟩ := h
    rfl
  · obtain ⟨s, ts, b, rfl, hS, hl, hn, hb, hbs, q⟩ := h
    have hs := hS.at
    have key : ∀ {p : Prop}, (∀ k : Int, k = ts.length → p) → p := fun h => h _ rfl
    have hls : ts.length < sizeLine := sz100 (by omega)
    have hpos : 0 < ts.length := List.length_pos_iff.mpr hn
    have dn : decide ((((ts.map D.int).length : Nat) : Int) = 0) = false := decide_eq_false (by rw [List.length_map]; omega)
    have go : ∀ {p : Prop}, p → p := fun h => h
    rcases hS with rfl | rfl
    all_goals
      walk_at "go"
      rw [dn]
      walk_at "go"
      have db : decide (b = 0) = false := decide_eq_false hb
      rw [db]
      have hg : (gs ts b).natAbs < 2 ^ 8999 := Nat.lt_of_le_of_lt (gs_le hb) hbs
      have hd : ∀ i, CDivZ i (gs ts b) := fun i => divZ (gs_ne hb) hg (by decide) (by decide)
      have hdb := hd b
      walk_at "go"
      refine ⟨_, ts, b, rfl, by first | exact .inl rfl | exact .inr rfl, ?_⟩
      walk_at "go"
      refine ⟨fun i z => ∃ t : Int, ts[i]? = some t ∧ z = some (.int (t.fdiv (gs ts b))), ?_, ?_⟩
      · rintro i x hx
        obtain ⟨z, hz, rfl⟩ := map_at hx
        have hd3 := hd z
        walk_at "go"
        exact fun _ => ⟨z, hz, rfl⟩
      · intro zs hl2 hz
        obtain ⟨ms, e, hm, hm2⟩ := lc_map D.int (P := fun i v => ∃ t : Int, ts[i]? = some t ∧ v = t.fdiv (gs ts b)) hl2 (fun i z h => by
          obtain ⟨t, h1, h2⟩ := hz i z h
          exact ⟨_, h2, t, h1, rfl⟩)
        have em : ms = lT ts b := map_is (by rw [hm, List.length_map]) hm2
        rw [e, em]
        walk_at "go"
        exact q

theorem fn_Poly_init (T : Txt LL K mg) (M : Mo3 cs sms cis mxs exs K mg) : Nonempty (FnI P w K mg base (d_Poly_init.at_ K) 4 3 2 P_Poly_init [] []) ∧ Nonempty (FnI P w K mg base (d_Poly_init.at_ K) 4 3 2 P_Poly_init [.int 1] [.int 1]) := by
  obtain ⟨F_ZeroBottom⟩ := fx_ZeroBottom (P := P) (w := w) (base := base) T
  obtain ⟨F_common_divisor⟩ := fn_common_divisor (P := P) (w := w) (base := base) T M
  refine FnI.ofD (T.d 29 (d := d_Poly_init)) sc_Poly_init rfl (fun n hn _ _ _ _ _ _ _ us its hu hi => ?_) (fun ds Q ex h => ?_) (fun fd cdv A outer s H E hr => ⟨_, pdss_cons (pds_if (pdt_cmp op_eq l_eq (pd_var (pv 2)) (pd_int pe_int) (nomark _)) (pdss_one (pds_raise0 rfl (takes_of rfl rfl rfl rfl) (pmk_oex0 (T.oex "ZeroBottom") (T.exI "ZeroBottom") (T.exT "ZeroBottom") F_ZeroBottom.ok (hr.mono (by decide)) F_ZeroBottom.bd passL (by rfl) (T.g "ZeroBottom")))) pdss_nil) (pdss_cons (pds_set (i := 3) sc_Poly_init.nd rfl (by first | exact Or.inl rfl | exact Or.inr rfl) (pd_cb (fun h => pe_callB call_len (by rfl) (T.f "len") (by decide +kernel) h) l_len (pda_cons (pd_var (pv 1)) pda_nil))) (pdss_cut (pds_while (passes_of rfl) (PDW.pt (pdw_and (pdt_cmp op_gt l_B0 (pd_var (pv 3)) (pd_int pe_int) (nomark _)) (pdw_and1 (pdt_cmp op_eq l_eq (pd_ix (ix_or ix_list ix_tup) l_ixQ (pd_var (pv 1)) (pd_op op_sub l_I0 (pd_var (pv 3)) (pd_int pe_int)) (fun _ _ => rfl)) (pd_int pe_int) (nomark _))))) (pdss_one (pds_aug (i := 3) sc_Poly_init.nd rfl (by first | exact Or.inl rfl | exact Or.inr rfl) (pd_int pe_int) ip_sub))) (pdss_cons (pds_set (i := 4) sc_Poly_init.nd rfl (by first | exact Or.inl rfl | exact Or.inr rfl) (pd_call F_common_divisor (hr.mono (by decide)) (by rfl) (T.g "common_divisor") (T.k "common_divisor") (takes_of rfl rfl rfl rfl) (pda_cons (pd_slq (pd_var (pv 1)) pdo_none (pdo_some (pd_var (pv 3)))) (pda_cons (pd_var (pv 2)) pda_nil)))) (pdss_cons (pds_fst (i := 0) (c := 3) (f := "tops") (T.cl "Poly") (T.no "Poly" "tops") (fun h => ps_fld (pv 0) h rfl) (pd_cb (fun h => pe_callTy call_tuple_of (by rfl) (T.f "tuple") (by decide +kernel) h) l_tuple (pda_cons (pd_new (pdn_lc (own := [("top", 5)]) rfl sc_Poly_init.nd (pdi_or (pdi_list (pd_slq (pd_var (pv 1)) pdo_none (pdo_some (pd_var (pv 3))))) (pdi_tup (pd_slq (pd_var (pv 1)) pdo_none (pdo_some (pd_var (pv 3)))))) (blkOk_by (N := ["self", "tops", "bottom", "count", "divisor", "top"]) (sc := defScope s_Poly_init) (by decide +kernel)) (by decide) (fun _ _ _ _ _ => (pdg_name (pg_name (i := 5) sc_Poly_init.nd rfl (Or.inl rfl)))) (fun _ _ _ _ _ => pdts_nil) (fun _ _ _ _ _ => pd_op op_fdivZ l_I (pd_var (pv 5)) (pd_var (pv 4))))) pda_nil))) (pdss_one (pds_fst (i := 0) (c := 3) (f := "bottom") (T.cl "Poly") (T.no "Poly" "bottom") (fun h => ps_fld (pv 0) h rfl) (pd_op op_fdivZ l_I (pd_var (pv 2)) (pd_var (pv 4))))))))), fun p ds Q ex h => ?_⟩)
  · have hn : n = 3 ∨ n + 1 = 3 := hn
    rcases hn with rfl | hn
    · exact match us, hu, its, hi with | [_, _, _], _, [_], _ => ⟨_, rfl, rfl⟩
    · obtain rfl : n = 2 := by omega
      exact match us, hu, its, hi with | [_, _], _, [_], _ => ⟨_, rfl, rfl⟩
  · obtain ⟨s, ts, b, rfl, _⟩ := h
    rfl
  · obtain ⟨s, ts, b, rfl, hS, hl, q0, q⟩ := h
    have hls : ts.length < sizeLine := sz100 (by omega)
    by_cases hb : b = 0
    · subst hb
      walk_at "go"
      exact q0 rfl
    have db : decide (b = 0) = false := decide_eq_false hb
    obtain ⟨hs, q⟩ := q hb
    rcases hS with rfl | rfl
    · walk_at "go"
      rw [db]
      walk_at "go"
      refine ⟨fun env => ∃ m : Nat, env = [.ob p 3 [], .val (.lst (ts.map D.int)), .val (.int b), .val (.int (m : Int)), .no, .no] ∧ m ≤ ts.length ∧ trim ts = ts.take m, ?_, ?_⟩
      · refine ⟨fun n env => ∃ m : Nat, env = [.ob p 3 [], .val (.lst (ts.map D.int)), .val (.int b), .val (.int (m : Int)), .no, .no] ∧ m ≤ ts.length ∧ n = m ∧ trim (ts.take m) = trim ts, fun _ => ⟨ts.length, ts.length, by rw [List.length_map]; rfl, Nat.le_refl _, rfl, by rw [List.take_length]⟩, ?_⟩
        rintro n env ⟨m, rfl, hm, rfl, ht⟩
        walk_at "go"
        refine d_ite (fun c1 => ?_) (fun c1 => ?_)
        · have c1' : (n : Int) > 0 := of_decide_eq_true c1
          obtain ⟨z, _, hz1, hz⟩ := at_ex (l := ts) (k := (n : Int) - 1) (by omega) (by omega)
          rw [show ((n : Int) - 1).toNat = n - 1 by omega] at hz1
          have en : n - 1 + 1 = n := by omega
          walk_at "go"
          refine d_ite (fun c2 => ?_) (fun c2 => ?_)
          · have c2' : z = 0 := of_decide_eq_true c2
            subst c2'
            have e2 := trim_take0 hz1
            rw [en] at e2
            walk_at "go"
            exact fun _ => ⟨n - 1, by omega, n - 1, by rw [show ((n - 1 : Nat) : Int) = (n : Int) - 1 by omega]; rfl, by omega, rfl, e2.symm.trans ht⟩
          · have c2' : z ≠ 0 := of_decide_eq_false c2
            have e2 := trim_take hz1 c2'
            rw [en] at e2
            walk_at "go"
            exact fun _ => ⟨n, rfl, hm, ht.symm.trans e2⟩
        · have c1' : ¬ (n : Int) > 0 := of_decide_eq_false c1
          have : n = 0 := by omega
          subst this
          walk_at "go"
          exact fun _ => ⟨0, rfl, hm, ht.symm⟩
      rintro env ⟨m, rfl, hm, ht⟩
      have em := cut_take D.int ts hm (by omega)
      have hg : (gs (trim ts) b).natAbs < 2 ^ 8999 := Nat.lt_of_le_of_lt (gs_le hb) hs
      have hd : ∀ i, CDivZ i (gs (trim ts) b) := fun i => divZ (gs_ne hb) hg (by decide) (by decide)
      have hdb := hd b
      rw [← ht] at em
      have hu : (trim ts).length ≤ 4000 := Nat.le_trans (trim_mem ts).1 hl
      walk_at "go"
      refine ⟨_, .inl ⟨rfl, ?_⟩⟩
      rw [em]
      walk_at "go"
      refine ⟨_, trim ts, b, rfl, .inl rfl, ?_⟩
      walk_at "go"
      refine eith_l ?_
      walk_at "go"
      refine ⟨_, .inl ⟨rfl, ?_⟩⟩
      rw [em]
      walk_at "go"
      refine ⟨fun i z => ∃ t : Int, (trim ts)[i]? = some t ∧ z = some (.int (t.fdiv (gs (trim ts) b))), ?_, ?_⟩
      · rintro i x hx
        obtain ⟨z, hz, rfl⟩ := map_at hx
        have hd3 := hd z
        walk_at "go"
        exact fun _ => ⟨z, hz, rfl⟩
      intro zs hl2 hz
      obtain ⟨ms, e, hm', hm2⟩ := lc_map D.int (P := fun i v => ∃ t : Int, (trim ts)[i]? = some t ∧ v = t.fdiv (gs (trim ts) b)) hl2 (fun i z h => by
        obtain ⟨t, h1, h2⟩ := hz i z h
        exact ⟨_, h2, t, h1, rfl⟩)
      have em2 : ms = pT ts b := map_is (by rw [hm', List.length_map]) hm2
      rw [e, em2]
      walk_at "go"
      exact q
    · walk_at "go"
      rw [db]
      walk_at "go"
      refine ⟨fun env => ∃ m : Nat, env = [.ob p 3 [], .val (.tup (ts.map D.int)), .val (.int b), .val (.int (m : Int)), .no, .no] ∧ m ≤ ts.length ∧ trim ts = ts.take m, ?_, ?_⟩
      · refine ⟨fun n env => ∃ m : Nat, env = [.ob p 3 [], .val (.tup (ts.map D.int)), .val (.int b), .val (.int (m : Int)), .no, .no] ∧ m ≤ ts.length ∧ n = m ∧ trim (ts.take m) = trim ts, fun _ => ⟨ts.length, ts.length, by rw [List.length_map]; rfl, Nat.le_refl _, rfl, by rw [List.take_length]⟩, ?_⟩
        rintro n env ⟨m, rfl, hm, rfl, ht⟩
        walk_at "go"
        refine d_ite (fun c1 => ?_) (fun c1 => ?_)
        · have c1' : (n : Int) > 0 := of_decide_eq_true c1
          obtain ⟨z, _, hz1, hz⟩ := at_ex (l := ts) (k := (n : Int) - 1) (by omega) (by omega)
          rw [show ((n : Int) - 1).toNat = n - 1 by omega] at hz1
          have en : n - 1 + 1 = n := by omega
          walk_at "go"
          refine d_ite (fun c2 => ?_) (fun c2 => ?_)
          · have c2' : z = 0 := of_decide_eq_true c2
            subst c2'
            have e2 := trim_take0 hz1
            rw [en] at e2
            walk_at "go"
            exact fun _ => ⟨n - 1, by omega, n - 1, by rw [show ((n - 1 : Nat) : Int) = (n : Int) - 1 by omega]; rfl, by omega, rfl, e2.symm.trans ht⟩
          · have c2' : z ≠ 0 := of_decide_eq_false c2
            have e2 := trim_take hz1 c2'
            rw [en] at e2
            walk_at "go"
            exact fun _ => ⟨n, rfl, hm, ht.symm.trans e2⟩
        · have c1' : ¬ (n : Int) > 0 := of_decide_eq_false c1
          have : n = 0 := by omega
          subst this
          walk_at "go"
          exact fun _ => ⟨0, rfl, hm, ht.symm⟩
      rintro env ⟨m, rfl, hm, ht⟩
      have em := cut_take D.int ts hm (by omega)
      have hg : (gs (trim ts) b).natAbs < 2 ^ 8999 := Nat.lt_of_le_of_lt (gs_le hb) hs
      have hd : ∀ i, CDivZ i (gs (trim ts) b) := fun i => divZ (gs_ne hb) hg (by decide) (by decide)
      have hdb := hd b
      rw [← ht] at em
      have hu : (trim ts).length ≤ 4000 := Nat.le_trans (trim_mem ts).1 hl
      walk_at "go"
      refine ⟨_, .inr ⟨rfl, ?_⟩⟩
      rw [em]
      walk_at "go"
      refine ⟨_, trim ts, b, rfl, .inr rfl, ?_⟩
      walk_at "go"
      refine eith_r ?_
      walk_at "go"
      refine ⟨_, .inr ⟨rfl, ?_⟩⟩
      rw [em]
      walk_at "go"
      refine ⟨fun i z => ∃ t : Int, (trim ts)[i]? = some t ∧ z = some (.int (t.fdiv (gs (trim ts) b))), ?_, ?_⟩
      · rintro i x hx
        obtain ⟨z, hz, rfl⟩ := map_at hx
        have hd3 := hd z
        walk_at "go"
        exact fun _ => ⟨z, hz, rfl⟩
      intro zs hl2 hz
      obtain ⟨ms, e, hm', hm2⟩ := lc_map D.int (P := fun i v => ∃ t : Int, (trim ts)[i]? = some t ∧ v = t.fdiv (gs (trim ts) b)) hl2 (fun i z h => by
        obtain ⟨t, h1, h2⟩ := hz i z h
        exact ⟨_, h2, t, h1, rfl⟩)
      have em2 : ms = pT ts b := map_is (by rw [hm', List.length_map]) hm2
      rw [e, em2]
      walk_at "go"
      exact q

theorem fn_Poly_eq (T : Txt LL K mg) (M : Mo3 cs sms cis mxs exs K mg) : Nonempty (Fn P w K mg base (d_Poly_eq.at_ K) 1 2 P_Poly_eq) := by
  refine Fn.of (T.d 30 (d := d_Poly_eq)) sc_Poly_eq rfl (fun _ _ _ _ _ _ us hl => match us, hl with | [_, _], _ => rfl) (fun ds Q ex h => ?_) (fun fd cdv A outer s H E hr => ⟨_, pdss_one (pds_ret (pd_and (pd_isi (cr := (.own 3)) M.isi M.cls (fun c h => by cases h; decide) (fun h => pe_callB call_isi (by rfl) (T.f "isinstance") (by decide +kernel) (pa_cons h (pa_cons (pe_glob (v := .ref (He.ga K "Poly")) rfl (T.g "Poly") rfl) pa_nil))) (pd_var (pv 1))) (pd_and (pd_cmp (op_eqD (hr.units)) l_eqD (pd_fld (c := 3) (k := 0) (T.cl "Poly") (T.no "Poly" "tops") fk_Poly_tops (pd_var (pv 0))) (pd_fld (c := 3) (k := 0) (T.cl "Poly") (T.no "Poly" "tops") fk_Poly_tops (pd_var (pv 1))) (nomark _)) (pd_one (pd_cmp op_eq l_eq (pd_fld (c := 3) (k := 1) (T.cl "Poly") (T.no "Poly" "bottom") fk_Poly_bottom (pd_var (pv 0))) (pd_fld (c := 3) (k := 1) (T.cl "Poly") (T.no "Poly" "bottom") fk_Poly_bottom (pd_var (pv 1))) (nomark _)))))), fun ds Q ex h => ?_⟩)
  · obtain ⟨ts, b, d, rfl, _⟩ := h
    rfl
  · obtain ⟨ts, b, d, rfl, hk, q⟩ := h
    rcases q with ⟨us, c, rfl, q⟩ | ⟨hd, q⟩
    · have o1 := okD_tup ts
      have o2 := okD_tup us
      walk_at "go"
      rw [eqD_tup]
      by_cases h1 : ts = us
      · rw [decide_eq_true h1] at q ⊢
        rw [Bool.true_and] at q
        walk_at "go"
        exact q
      · rw [decide_eq_false h1] at q ⊢
        rw [Bool.false_and] at q
        exact q
    · walk_at "go"
      rw [hd]
      exact q

theorem fn_is_factor (T : Txt LL K mg) (M : Mo3 cs sms cis mxs exs K mg) : Nonempty (Fn P w K mg base (d_is_factor.at_ K) 1 1 P_is_factor) := by
  refine Fn.of (T.d 11 (d := d_is_factor)) sc_is_factor rfl (fun _ _ _ _ _ _ us hl => match us, hl with | [_], _ => rfl) (fun ds Q ex h => ?_) (fun fd cdv A outer s H E hr => ⟨_, pdss_one (pds_ret (pd_isi2 (c1 := .int) (c2 := (.own 0)) M.isi M.cls (fun c h => nomatch h) (fun c h => by cases h; decide) (fun h => pe_callB call_isiT (by rfl) (T.f "isinstance") (by decide +kernel) (pa_cons h (pa_cons (pe_tup (pa_cons (pe_bltn (v := .ty "int") (by rfl) (T.f "int") (by decide +kernel) rfl) (pa_cons (pe_glob (v := .ref (He.ga K "Ratio")) rfl (T.g "Ratio") rfl) pa_nil))) pa_nil))) (pd_var (pv 0)))), fun ds Q ex h => ?_⟩)
  · obtain ⟨d, p, q, rfl, _⟩ := h
    rfl
  · obtain ⟨d, p, q, rfl, hf, qq⟩ := h
    rcases hf with ⟨rfl, rfl⟩ | ⟨rfl, hq⟩
    all_goals
      walk_at "go"
      exact qq

theorem fn_as_ratio (T : Txt LL K mg) (M : Mo3 cs sms cis mxs exs K mg) : Nonempty (Fn P w K mg base (d_as_ratio.at_ K) 6 1 P_as_ratio) := by
  obtain ⟨⟨F_Ratio_init⟩, ⟨F_Ratio_init_d⟩⟩ := fn_Ratio_init (P := P) (w := w) (base := base) T M
  refine Fn.of (T.d 12 (d := d_as_ratio)) sc_as_ratio rfl (fun _ _ _ _ _ _ us hl => match us, hl with | [_], _ => rfl) (fun ds Q ex h => ?_) (fun fd cdv A outer s H E hr => ⟨_, pdss_one (pds_ret (pd_ife (pdt_val (pd_isi (cr := .int) M.isi M.cls (fun c h => nomatch h) (fun h => pe_callB call_isi (by rfl) (T.f "isinstance") (by decide +kernel) (pa_cons h (pa_cons (pe_bltn (v := .ty "int") (by rfl) (T.f "int") (by decide +kernel) rfl) pa_nil))) (pd_var (pv 0)))) (pd_make (c := 0) (T.mkk "Ratio") F_Ratio_init_d dd_Ratio (hr.mono (by decide)) (by rfl) (T.g "Ratio") (takes_of rfl rfl rfl rfl) (pda_cons (pd_var (pv 0)) pda_nil)) (pd_var (pv 0)))), fun ds Q ex h => ?_⟩)
  · obtain ⟨d, p, q, rfl, _⟩ := h
    rfl
  · obtain ⟨d, p, q, rfl, hf, qq⟩ := h
    rcases hf with ⟨rfl, rfl⟩ | ⟨rfl, hq⟩
    · walk_at "go"
      have n1 := Nrm.one p
      refine fun _ => ⟨by rw [gs_nrm n1]; decide, ?_⟩
      rw [nT_nrm n1, nB_nrm n1]
      exact qq
    · walk_at "go"
      exact qq

theorem fn_common_bottom (T : Txt LL K mg) (M : Mo3 cs sms cis mxs exs K mg) : Nonempty (Fn P w K mg base (d_common_bottom.at_ K) 1 1 P_common_bottom) := by
  refine Fn.of (T.d 9 (d := d_common_bottom)) sc_common_bottom rfl (fun _ _ _ _ _ _ us hl => match us, hl with | [_], _ => rfl) (fun ds Q ex h => ?_) (fun fd cdv A outer s H E hr => ⟨_, pdss_cons (pds_set (i := 1) sc_common_bottom.nd rfl (by first | exact Or.inl rfl | exact Or.inr rfl) (pd_int pe_int)) (pdss_cons (pds_for (passes_of rfl) rfl (pdi_list (pd_var (pv 0))) (pdg_name (pg_name (i := 2) sc_common_bottom.nd rfl (by first | exact Or.inl rfl | exact Or.inr rfl))) (pdss_one (pds_set (i := 1) sc_common_bottom.nd rfl (by first | exact Or.inl rfl | exact Or.inr rfl) (pd_cb (fun h => pe_callBfun cr_lcmB (by rfl) (T.b "lcm" "math.lcm") h) l_lcmB (pda_cons (pd_var (pv 1)) (pda_cons (pd_var (pv 2)) pda_nil)))))) (pdss_one (pds_ret (pd_var (pv 1))))), fun ds Q ex h => ?_⟩)
  · obtain ⟨qs, M, rfl, _⟩ := h
    rfl
  · obtain ⟨qs, M, rfl, hM, hs, hq, q⟩ := h
    walk_at "go"
    refine ⟨fun i env => ∃ (m : Int) (v : Sl), env = [.val (.lst (qs.map D.int)), .val (.int m), v] ∧ 0 < m ∧ m ∣ M ∧ ∀ z ∈ qs.take i, z ∣ m, fun _ => ⟨1, _, rfl, by decide, Int.one_dvd _, fun z hz => by cases hz⟩, ?_, ?_⟩
    · rintro i x env hx ⟨m, v, rfl, m0, m1, m2⟩
      obtain ⟨z, hz, rfl⟩ := map_at hx
      have hi : i < qs.length := (List.getElem?_eq_some_iff.mp hz).1
      have ez : qs[i] = z := (List.getElem?_eq_some_iff.mp hz).2
      obtain ⟨z0, z1⟩ := hq z (List.mem_of_getElem? hz)
      obtain ⟨l0, l1, l2, l3⟩ := lcm_ok m0 m1 z0 z1
      have b1 : m.natAbs < 2 ^ 9000 := abs_up (dvd_abs hM hs m0 m1) (by decide)
      have b2 : z.natAbs < 2 ^ 9000 := abs_up (dvd_abs hM hs z0 z1) (by decide)
      walk_at "go"
      refine fun _ => ⟨_, _, rfl, l0, l1, fun y hy => ?_⟩
      rw [List.take_succ_eq_append_getElem hi, ez] at hy
      rcases List.mem_append.mp hy with hy | hy
      · exact Int.dvd_trans (m2 y hy) l2
      · rw [List.mem_singleton.mp hy]
        exact l3
    · rintro env ⟨m, v, rfl, m0, m1, m2⟩
      rw [List.length_map, List.take_length] at m2
      walk_at "go"
      exact q m m0 m1 m2

theorem fn_over_one_bottom (T : Txt LL K mg) (M : Mo3 cs sms cis mxs exs K mg) : Nonempty (Fn P w K mg base (d_over_one_bottom.at_ K) 2 1 P_over_one_bottom) := by
  obtain ⟨F_common_bottom⟩ := fn_common_bottom (P := P) (w := w) (base := base) T M
  refine Fn.of (T.d 10 (d := d_over_one_bottom)) sc_over_one_bottom rfl (fun _ _ _ _ _ _ us hl => match us, hl with | [_], _ => rfl) (fun ds Q ex h => ?_) (fun fd cdv A outer s H E hr => ⟨_, pdss_cons (pds_set (i := 1) sc_over_one_bottom.nd rfl (by first | exact Or.inl rfl | exact Or.inr rfl) (pd_call F_common_bottom (hr.mono (by decide)) (by rfl) (T.g "common_bottom") (T.k "common_bottom") (takes_of rfl rfl rfl rfl) (pda_cons (pd_new (pdn_lc (own := [("ratio", 2)]) rfl sc_over_one_bottom.nd (pdi_seq (pv 0)) (blkOk_by (N := ["ratios", "bottom", "ratio"]) (sc := defScope s_over_one_bottom) (by decide +kernel)) (by decide) (fun _ _ _ _ _ => (pdg_name (pg_name (i := 2) sc_over_one_bottom.nd rfl (Or.inl rfl)))) (fun _ _ _ _ _ => pdts_nil) (fun _ _ _ _ _ => pd_fld (c := 0) (k := 1) (T.cl "Ratio") (T.no "Ratio" "bottom") fk_Ratio_bottom (pd_var (pv 2))))) pda_nil))) (pdss_one (pds_ret (pd_tup (pda_cons (pd_new (pdn_lc (own := [("ratio", 2)]) rfl sc_over_one_bottom.nd (pdi_seq (pv 0)) (blkOk_by (N := ["ratios", "bottom", "ratio"]) (sc := defScope s_over_one_bottom) (by decide +kernel)) (by decide) (fun _ _ _ _ _ => (pdg_name (pg_name (i := 2) sc_over_one_bottom.nd rfl (Or.inl rfl)))) (fun _ _ _ _ _ => pdts_nil) (fun _ _ _ _ _ => pd_op op_mulZ l_I (pd_fld (c := 0) (k := 0) (T.cl "Ratio") (T.no "Ratio" "top") fk_Ratio_top (pd_var (pv 2))) (pd_op op_fdivZ l_I (pd_var (pv 1)) (pd_fld (c := 0) (k := 1) (T.cl "Ratio") (T.no "Ratio" "bottom") fk_Ratio_bottom (pd_var (pv 2))))))) (pda_cons (pd_var (pv 1)) pda_nil))))), fun ds Q ex h => ?_⟩)
  · obtain ⟨s, rs, M, rfl, _⟩ := h
    rfl
  · obtain ⟨s, rs, M, rfl, hS, ⟨hM, hs, hl, ho⟩, q⟩ := h
    have hat := hS.at
    walk_at "go"
    refine ⟨fun i z => ∃ r : Int × Int, rs[i]? = some r ∧ z = some (.int (r.2)), ?_, ?_⟩
    · rintro i x hx
      obtain ⟨z, hz, rfl⟩ := map_at hx
      skip
      walk_at "go"
      exact fun _ => ⟨z, hz, rfl⟩
    intro zs hl2 hz
    obtain ⟨ms, e, hm, hm2⟩ := lc_map D.int (P := fun i v => ∃ r : Int × Int, rs[i]? = some r ∧ v = r.2) hl2 (fun i z h => by
      obtain ⟨t, h1, h2⟩ := hz i z h
      exact ⟨_, h2, t, h1, rfl⟩)
    have em : ms = rs.map fun r => r.2 := map_is (by rw [hm, List.length_map]) hm2
    rw [e, em]
    clear e em hm hm2 hz hl2
    have hs2 : M.natAbs < 2 ^ 8999 := abs_up hs (by decide)
    have ho2 : ∀ z ∈ rs.map fun r => r.2, 0 < z ∧ z ∣ M := fun z hz => by
      obtain ⟨r, hr, rfl⟩ := List.mem_map.mp hz
      exact ⟨(ho r hr).1, (ho r hr).2.1⟩
    walk_at "go"
    refine fun m m0 m1 m2 => ?_
    have m3 : ∀ r ∈ rs, r.2 ∣ m := fun r hr => m2 r.2 (List.mem_map.mpr ⟨r, hr, rfl⟩)
    have q := q m m0 m1 m3
    walk_at "go"
    refine ⟨fun i z => ∃ r : Int × Int, rs[i]? = some r ∧ z = some (.int (r.1 * m.fdiv r.2)), ?_, ?_⟩
    · rintro i x hx
      obtain ⟨z, hz, rfl⟩ := map_at hx
      obtain ⟨r0, r1, r2⟩ := ho z (List.mem_of_getElem? hz)
      have hd : CDivZ m z.2 := divZ (b := 8900) (by omega) (dvd_abs hM hs r0 r1) (by decide) (by decide)
      have hf : (m.fdiv z.2).natAbs < 2 ^ 9000 := Nat.lt_of_le_of_lt (Int.natAbs_fdiv_le_natAbs _ _) (abs_up (dvd_abs hM hs m0 m1) (by decide))
      have hm : IntMulOk z.1 (m.fdiv z.2) := mulBig (abs_up r2 (by decide)) hf
      walk_at "go"
      exact fun _ => ⟨z, hz, rfl⟩
    intro zs hl2 hz
    obtain ⟨ms, e, hm, hm2⟩ := lc_map D.int (P := fun i v => ∃ r : Int × Int, rs[i]? = some r ∧ v = r.1 * m.fdiv r.2) hl2 (fun i z h => by
      obtain ⟨t, h1, h2⟩ := hz i z h
      exact ⟨_, h2, t, h1, rfl⟩)
    have em : ms = rs.map fun r => r.1 * m.fdiv r.2 := map_is (by rw [hm, List.length_map]) hm2
    rw [e, em]
    clear e em hm hm2 hz hl2
    walk_at "go"
    exact q

theorem fn_Vector_of (T : Txt LL K mg) (M : Mo3 cs sms cis mxs exs K mg) : Nonempty (Fn P w K mg base (d_Vector_of.at_ K) 6 1 P_Vector_of) := by
  obtain ⟨F_over_one_bottom⟩ := fn_over_one_bottom (P := P) (w := w) (base := base) T M
  obtain ⟨⟨F_Vector_init⟩, ⟨F_Vector_init_d⟩⟩ := fn_Vector_init (P := P) (w := w) (base := base) T M
  refine Fn.of (T.d 14 (d := d_Vector_of)) sc_Vector_of rfl (fun _ _ _ _ _ _ us hl => match us, hl with | [_], _ => rfl) (fun ds Q ex h => ?_) (fun fd cdv A outer s H E hr => ⟨_, pdss_cons (pds_asg (pd_call F_over_one_bottom (hr.mono (by decide)) (by rfl) (T.g "over_one_bottom") (T.k "over_one_bottom") (takes_of rfl rfl rfl rfl) (pda_cons (pd_var (pv 0)) pda_nil)) (pdg_tup (n := 2) (by rfl) (pdgs_cons (pdg_name (pg_name (i := 1) sc_Vector_of.nd rfl (by first | exact Or.inl rfl | exact Or.inr rfl))) (pdgs_cons (pdg_name (pg_name (i := 2) sc_Vector_of.nd rfl (by first | exact Or.inl rfl | exact Or.inr rfl))) pdgs_nil)))) (pdss_one (pds_ret (pd_make (c := 1) (T.mkk "Vector") F_Vector_init (fun _ _ => .nil) (hr.mono (by decide)) (by rfl) (T.g "Vector") (takes_of rfl rfl rfl rfl) (pda_cons (pd_var (pv 1)) (pda_cons (pd_var (pv 2)) pda_nil))))), fun ds Q ex h => ?_⟩)
  · obtain ⟨s, rs, M, rfl, _⟩ := h
    rfl
  · obtain ⟨s, rs, M, rfl, hS, hr, hn, q⟩ := h
    walk_at "go"
    refine ⟨_, rs, M, rfl, hS, hr, fun m m0 m1 m2 => ?_⟩
    have hl : (overT rs m).length ≤ 4000 := by unfold overT; rw [List.length_map]; have := hr.len; omega
    have hm : m.natAbs < 2 ^ 8999 := abs_up (dvd_abs hr.pos hr.sM m0 m1) (by decide)
    have hn' : overT rs m ≠ [] := fun z => hn (List.map_eq_nil_iff.mp z)
    walk_at "go"
    exact ⟨_, overT rs m, m, rfl, .inl rfl, hl, hn', by omega, hm, q m m0 m1 m2⟩

theorem fn_Poly_of (T : Txt LL K mg) (M : Mo3 cs sms cis mxs exs K mg) : Nonempty (Fn P w K mg base (d_Poly_of.at_ K) 6 1 P_Poly_of) := by
  obtain ⟨F_over_one_bottom⟩ := fn_over_one_bottom (P := P) (w := w) (base := base) T M
  obtain ⟨⟨F_Poly_init⟩, ⟨F_Poly_init_d⟩⟩ := fn_Poly_init (P := P) (w := w) (base := base) T M
  refine Fn.of (T.d 32 (d := d_Poly_of)) sc_Poly_of rfl (fun _ _ _ _ _ _ us hl => match us, hl with | [_], _ => rfl) (fun ds Q ex h => ?_) (fun fd cdv A outer s H E hr => ⟨_, pdss_cons (pds_asg (pd_call F_over_one_bottom (hr.mono (by decide)) (by rfl) (T.g "over_one_bottom") (T.k "over_one_bottom") (takes_of rfl rfl rfl rfl) (pda_cons (pd_var (pv 0)) pda_nil)) (pdg_tup (n := 2) (by rfl) (pdgs_cons (pdg_name (pg_name (i := 1) sc_Poly_of.nd rfl (by first | exact Or.inl rfl | exact Or.inr rfl))) (pdgs_cons (pdg_name (pg_name (i := 2) sc_Poly_of.nd rfl (by first | exact Or.inl rfl | exact Or.inr rfl))) pdgs_nil)))) (pdss_one (pds_ret (pd_make (c := 3) (T.mkk "Poly") F_Poly_init (fun _ _ => .nil) (hr.mono (by decide)) (by rfl) (T.g "Poly") (takes_of rfl rfl rfl rfl) (pda_cons (pd_var (pv 1)) (pda_cons (pd_var (pv 2)) pda_nil))))), fun ds Q ex h => ?_⟩)
  · obtain ⟨s, rs, M, rfl, _⟩ := h
    rfl
  · obtain ⟨s, rs, M, rfl, hS, hr, q⟩ := h
    walk_at "go"
    refine ⟨_, rs, M, rfl, hS, hr, fun m m0 m1 m2 => ?_⟩
    have hl : (overT rs m).length ≤ 4000 := by unfold overT; rw [List.length_map]; have := hr.len; omega
    have hm : m.natAbs < 2 ^ 8999 := abs_up (dvd_abs hr.pos hr.sM m0 m1) (by decide)
    walk_at "go"
    exact ⟨_, overT rs m, m, rfl, .inl rfl, hl, fun z => absurd z (by omega), fun _ => ⟨hm, q m m0 m1 m2⟩⟩
end
end K32

namespace K32
open PySem PySem.Spec PyProof.Rows L2 LR DL
section
variable {P : Program} {w : World} {K : PySem.W.Frag} {mg : Str → Option Value} {base : Heap}
local macro_rules | `(tactic| walk_at "side") => `(tactic| first | rfl | assumption | exact ⟨_, rfl⟩ | omega | exact mulL (by omega) (by omega) | exact mulR (by omega) (by omega) | exact mulF (by decide) (by decide) | exact ⟨by decide, by decide +kernel⟩ | decide | exact Nat.le_of_ble_eq_true rfl | (simp only [List.length_cons, List.length_nil, List.length_map, List.nil_append, List.cons_append, sizeLine_eq]; omega) | (simp only [List.map_cons, List.map_nil, List.nil_append, List.cons_append]; decide +kernel))
local macro_rules | `(tactic| walk_at "go") => `(tactic| repeat (first
  | refine ⟨_, rfl, ?_⟩
  | refine ⟨_, _, rfl, rfl, ?_⟩
  | refine ⟨_, _, rfl, ?_⟩
  | refine ⟨_, _, _, rfl, rfl, ?_⟩
  | refine ⟨_, _, _, rfl, ?_⟩
  | refine ⟨_, _, _, _, rfl, rfl, ?_⟩
  | refine ⟨_, _, _, _, rfl, ?_⟩
  | refine ⟨_, _, rfl, by assumption, ?_⟩
  | refine ⟨_, _, _, rfl, rfl, rfl, ?_⟩
  | refine ⟨_, _, _, rfl, rfl, by assumption, ?_⟩
  | refine ⟨_, _, _, rfl, rfl, by walk_at "side", by assumption, ?_⟩
  | refine ⟨_, _, _, rfl, rfl, by walk_at "side", rfl, ?_⟩
  | refine ⟨_, _, _, rfl, rfl, rfl, by assumption, ?_⟩
  | refine .inl ⟨_, rfl, ?_⟩
  | refine .inr ⟨_, rfl, ?_⟩
  | refine .inr (.inl ⟨_, rfl, ?_⟩)
  | refine .inr (.inr ⟨_, rfl, ?_⟩)
  | refine ⟨_, .inl rfl, ?_⟩
  | refine ⟨_, .inr rfl, ?_⟩
  | refine ⟨_, (by assumption : _ ∨ _), ?_⟩
  | refine .inr ⟨_, _, rfl, ?_⟩
  | refine .inl ⟨_, _, rfl, ?_⟩
  | refine And.intro (by walk_at "side") ?_))


theorem atI_of {rs : List D} {k : Int} {d : D} (h0 : 0 ≤ k) (h : rs[k.toNat]? = some d) : atI rs k = some d := by
  have := at_map (f := fun d : D => d) h0 h
  simpa using this
/-- rows: lists or tuples of ints -/
def RowsD (rs : List D) (A : List (List Int)) : Prop := rs.length = A.length ∧ ∀ (i : Nat) d, rs[i]? = some d → ∃ r, A[i]? = some r ∧ Sq d r
theorem rows_lst (A : List (List Int)) : RowsD (A.map fun r => .lst (r.map D.int)) A := ⟨by simp, fun i d h => by
  obtain ⟨r, hr, rfl⟩ := map_at h
  exact ⟨r, hr, .inl rfl⟩⟩
theorem rows_tup (A : List (List Int)) : RowsD (A.map fun r => .tup (r.map D.int)) A := ⟨by simp, fun i d h => by
  obtain ⟨r, hr, rfl⟩ := map_at h
  exact ⟨r, hr, .inr rfl⟩⟩
theorem rows_at {rs : List D} {A : List (List Int)} (h : RowsD rs A) {i : Nat} (hi : i < A.length) : ∃ d r, rs[i]? = some d ∧ A[i]? = some r ∧ Sq d r := by
  have e : rs[i]? = some (rs[i]'(by rw [h.1]; exact hi)) := List.getElem?_eq_getElem _
  obtain ⟨r, h1, h2⟩ := h.2 i _ e
  exact ⟨_, r, e, h1, h2⟩
theorem enum_of {l : List D} {i : Nat} {x : D} (h : (enumD l)[i]? = some x) : ∃ d, l[i]? = some d ∧ x = .tup [.int i, d] := by
  have hi := (List.getElem?_eq_some_iff.mp h).1
  rw [enumD_len] at hi
  have e : l[i]? = some (l[i]'hi) := List.getElem?_eq_getElem _
  rw [enumD_at e] at h
  exact ⟨_, e, (Option.some.inj h).symm⟩
def P_check_rows : Prm := fun ds Q _ => ∃ (rs : List D) (A : List (List Int)) (h w : Nat), ds = [.lst rs] ∧ RowsD rs A ∧ Sh h w A ∧ 0 < h ∧ h ≤ 4000 ∧ 0 < w ∧ w ≤ 4000 ∧ Q .non
def P_check_sizes : Prm := fun ds Q _ => ∃ (i j : Int), ds = [.int i, .int j] ∧ i = j ∧ Q .non
def P_check_square : Prm := fun ds Q _ => ∃ (A : List (List Int)) (b : Int) (n : Nat), ds = [MX A b n n] ∧ Q .non
def P_Matrix_init : Prm := fun ds Q _ => ∃ (rs : List D) (A : List (List Int)) (b : Int) (h w : Nat), ds = [.lst rs, .int b] ∧ RowsD rs A ∧ Sh h w A ∧ 0 < h ∧ h ≤ 4000 ∧ 0 < w ∧ w ≤ 4000 ∧ b ≠ 0 ∧ b.natAbs < 2 ^ 8999 ∧ Q (MX (mT A b) (mB A b) h w)
theorem flat_map {A : List (List Int)} {zss : List (List D)} (hl : zss.length = A.length) (h : ∀ (i : Nat) zs, zss[i]? = some zs → ∃ r, A[i]? = some r ∧ zs = r.map D.int) : zss.flatten = A.flatten.map D.int := by
  rw [map_is (f := fun r : List Int => r.map D.int) hl h]
  clear hl h
  induction A with
  | nil => rfl
  | cons r A ih => rw [List.map_cons, List.flatten_cons, List.flatten_cons, List.map_append, ih]
theorem ints_is {r : List Int} {zs : List D} (hl : zs.length = r.length) (h : ∀ (i : Nat) z, zs[i]? = some z → ∃ x, r[i]? = some x ∧ z = .int x) : zs = r.map D.int := map_is hl h

theorem fn_check_sizes (T : Txt LL K mg) (M : Mo3 cs sms cis mxs exs K mg) : Nonempty (Fn P w K mg base (d_check_sizes.at_ K) 4 2 P_check_sizes) := by
  obtain ⟨F_SizeMismatch⟩ := fx_SizeMismatch (P := P) (w := w) (base := base) T
  refine Fn.of (T.d 27 (d := d_check_sizes)) sc_check_sizes rfl (fun _ _ _ _ _ _ us hl => match us, hl with | [_, _], _ => rfl) (fun ds Q ex h => ?_) (fun fd cdv A outer s H E hr => ⟨_, pdss_one (pds_if (pdt_cmp op_ne l_ne (pd_var (pv 0)) (pd_var (pv 1)) (nomark _)) (pdss_one (pds_raise rfl (takes_of rfl rfl rfl rfl) (fun h => pmk_oex (T.oex "SizeMismatch") (T.exI "SizeMismatch") (T.exT "SizeMismatch") F_SizeMismatch.ok (hr.mono (by decide)) F_SizeMismatch.bd .nil passL (by rfl) (T.g "SizeMismatch") h) (pda_cons (pd_var (pv 0)) (pda_cons (pd_var (pv 1)) pda_nil)))) pdss_nil), fun ds Q ex h => ?_⟩)
  · obtain ⟨i, j, rfl, _⟩ := h
    rfl
  · obtain ⟨i, j, rfl, e, q⟩ := h
    have e2 : (!decide (i = j)) = false := by rw [decide_eq_true e]; rfl
    walk_at "go"
    rw [e2]
    exact q

theorem fn_check_square (T : Txt LL K mg) (M : Mo3 cs sms cis mxs exs K mg) : Nonempty (Fn P w K mg base (d_check_square.at_ K) 4 1 P_check_square) := by
  obtain ⟨F_NotSquare⟩ := fx_NotSquare (P := P) (w := w) (base := base) T
  refine Fn.of (T.d 26 (d := d_check_square)) sc_check_square rfl (fun _ _ _ _ _ _ us hl => match us, hl with | [_], _ => rfl) (fun ds Q ex h => ?_) (fun fd cdv A outer s H E hr => ⟨_, pdss_one (pds_if (pdt_cmp op_ne l_ne (pd_fld (c := 2) (k := 2) (T.cl "Matrix") (T.no "Matrix" "height") fk_Matrix_height (pd_var (pv 0))) (pd_fld (c := 2) (k := 3) (T.cl "Matrix") (T.no "Matrix" "width") fk_Matrix_width (pd_var (pv 0))) (nomark _)) (pdss_one (pds_raise rfl (takes_of rfl rfl rfl rfl) (fun h => pmk_oex (T.oex "NotSquare") (T.exI "NotSquare") (T.exT "NotSquare") F_NotSquare.ok (hr.mono (by decide)) F_NotSquare.bd .nil passL (by rfl) (T.g "NotSquare") h) (pda_cons (pd_fld (c := 2) (k := 2) (T.cl "Matrix") (T.no "Matrix" "height") fk_Matrix_height (pd_var (pv 0))) (pda_cons (pd_fld (c := 2) (k := 3) (T.cl "Matrix") (T.no "Matrix" "width") fk_Matrix_width (pd_var (pv 0))) pda_nil)))) pdss_nil), fun ds Q ex h => ?_⟩)
  · obtain ⟨A, b, n, rfl, _⟩ := h
    rfl
  · obtain ⟨A, b, n, rfl, q⟩ := h
    have e2 : (!decide ((n : Int) = (n : Int))) = false := by rw [decide_eq_true rfl]; rfl
    walk_at "go"
    rw [e2]
    exact q

theorem fn_check_rows (T : Txt LL K mg) (M : Mo3 cs sms cis mxs exs K mg) : Nonempty (Fn P w K mg base (d_check_rows.at_ K) 4 1 P_check_rows) := by
  obtain ⟨F_Empty⟩ := fx_Empty (P := P) (w := w) (base := base) T
  obtain ⟨F_RaggedRows⟩ := fx_RaggedRows (P := P) (w := w) (base := base) T
  refine Fn.of (T.d 28 (d := d_check_rows)) sc_check_rows rfl (fun _ _ _ _ _ _ us hl => match us, hl with | [_], _ => rfl) (fun ds Q ex h => ?_) (fun fd cdv A outer s H E hr => ⟨_, pdss_cons (pds_if (PDW.pt (pdw_or (pdt_cmp op_eq l_eq (pd_cb (fun h => pe_callB call_len (by rfl) (T.f "len") (by decide +kernel) h) l_len (pda_cons (pd_var (pv 0)) pda_nil)) (pd_int pe_int) (nomark _)) (pdw_or1 (pdt_cmp op_eq l_eq (pd_cb (fun h => pe_callB call_len (by rfl) (T.f "len") (by decide +kernel) h) l_lenS (pda_cons (pd_ix ix_list l_ixL (pd_var (pv 0)) (pd_int pe_int) (fun _ _ => rfl)) pda_nil)) (pd_int pe_int) (nomark _))))) (pdss_one (pds_raise0 rfl (takes_of rfl rfl rfl rfl) (pmk_oex0 (T.oex "Empty") (T.exI "Empty") (T.exT "Empty") F_Empty.ok (hr.mono (by decide)) F_Empty.bd passL (by rfl) (T.g "Empty")))) pdss_nil) (pdss_one (pds_for (passes_of rfl) rfl (pdi_enum rfl (T.f "enumerate") (pda_cons (pd_var (pv 0)) pda_nil)) (pdg_tup (n := 2) (by rfl) (pdgs_cons (pdg_name (pg_name (i := 1) sc_check_rows.nd rfl (by first | exact Or.inl rfl | exact Or.inr rfl))) (pdgs_cons (pdg_name (pg_name (i := 2) sc_check_rows.nd rfl (by first | exact Or.inl rfl | exact Or.inr rfl))) pdgs_nil))) (pdss_one (pds_if (pdt_cmp op_ne l_ne (pd_cb (fun h => pe_callB call_len (by rfl) (T.f "len") (by decide +kernel) h) l_lenS (pda_cons (pd_var (pv 2)) pda_nil)) (pd_cb (fun h => pe_callB call_len (by rfl) (T.f "len") (by decide +kernel) h) l_lenS (pda_cons (pd_ix ix_list l_ixL (pd_var (pv 0)) (pd_int pe_int) (fun _ _ => rfl)) pda_nil)) (nomark _)) (pdss_one (pds_raise rfl (takes_of rfl rfl rfl rfl) (fun h => pmk_oex (T.oex "RaggedRows") (T.exI "RaggedRows") (T.exT "RaggedRows") F_RaggedRows.ok (hr.mono (by decide)) F_RaggedRows.bd .nil passL (by rfl) (T.g "RaggedRows") h) (pda_cons (pd_var (pv 1)) pda_nil))) pdss_nil)))), fun ds Q ex h => ?_⟩)
  · obtain ⟨rs, A, h, w, rfl, _⟩ := h
    rfl
  · obtain ⟨rs, A, hh, w, rfl, hR, hS, h0, h1, w0, w1, q⟩ := h
    obtain ⟨d0, r0, e1, e2, hq0⟩ := rows_at hR (i := 0) (by rw [hS.1]; exact h0)
    have hl0 := hS.2 r0 (List.mem_of_getElem? e2)
    have lenR : rs.length = hh := by rw [hR.1, hS.1]
    have hi0 : atI rs 0 = some d0 := atI_of (by decide) e1
    have z1 : decide ((rs.length : Int) = 0) = false := decide_eq_false (by omega)
    have z2 : decide (((r0.map D.int).length : Int) = 0) = false := decide_eq_false (by rw [List.length_map]; omega)
    walk_at "go"
    rw [z1]
    walk_at "go"
    rw [z2]
    walk_at "go"
    refine ⟨fun i env => ∃ u v : Sl, env = [.val (.lst rs), u, v], fun _ => ⟨_, _, rfl⟩, ?_, ?_⟩
    · rintro i x env hx ⟨u, v, rfl⟩
      obtain ⟨d, hd, rfl⟩ := enum_of hx
      obtain ⟨r, hr, hq⟩ := hR.2 i d hd
      have hl := hS.2 r (List.mem_of_getElem? hr)
      have z3 : (!decide (((r.map D.int).length : Int) = ((r0.map D.int).length : Int))) = false := by rw [List.length_map, List.length_map, hl, hl0, decide_eq_true rfl]; rfl
      walk_at "go"
      rw [z3]
      exact fun _ => ⟨_, _, rfl⟩
    · rintro env ⟨u, v, rfl⟩
      exact q

theorem fn_Matrix_init (T : Txt LL K mg) (M : Mo3 cs sms cis mxs exs K mg) : Nonempty (FnI P w K mg base (d_Matrix_init.at_ K) 5 2 2 P_Matrix_init [] []) ∧ Nonempty (FnI P w K mg base (d_Matrix_init.at_ K) 5 2 2 P_Matrix_init [.int 1] [.int 1]) := by
  obtain ⟨F_check_rows⟩ := fn_check_rows (P := P) (w := w) (base := base) T M
  obtain ⟨F_ZeroBottom⟩ := fx_ZeroBottom (P := P) (w := w) (base := base) T
  obtain ⟨F_common_divisor⟩ := fn_common_divisor (P := P) (w := w) (base := base) T M
  refine FnI.ofD (T.d 16 (d := d_Matrix_init)) sc_Matrix_init rfl (fun n hn _ _ _ _ _ _ _ us its hu hi => ?_) (fun ds Q ex h => ?_) (fun fd cdv A outer s H E hr => ⟨_, pdss_cons (pds_expr (pd_call F_check_rows (hr.mono (by decide)) (by rfl) (T.g "_check_rows") (T.k "_check_rows") (takes_of rfl rfl rfl rfl) (pda_cons (pd_var (pv 1)) pda_nil))) (pdss_cons (pds_if (pdt_cmp op_eq l_eq (pd_var (pv 2)) (pd_int pe_int) (nomark _)) (pdss_one (pds_raise0 rfl (takes_of rfl rfl rfl rfl) (pmk_oex0 (T.oex "ZeroBottom") (T.exI "ZeroBottom") (T.exT "ZeroBottom") F_ZeroBottom.ok (hr.mono (by decide)) F_ZeroBottom.bd passL (by rfl) (T.g "ZeroBottom")))) pdss_nil) (pdss_cons (pds_set (i := 3) sc_Matrix_init.nd rfl (by first | exact Or.inl rfl | exact Or.inr rfl) (pd_call F_common_divisor (hr.mono (by decide)) (by rfl) (T.g "common_divisor") (T.k "common_divisor") (takes_of rfl rfl rfl rfl) (pda_cons (pd_new (pdn_lc2 (own := [("row", 4), ("top", 5)]) (own1 := [("top", 5)]) rfl sc_Matrix_init.nd (pdi_list (pd_var (pv 1))) (blkOk_by (N := ["self", "rows", "bottom", "divisor", "row", "top"]) (sc := defScope s_Matrix_init) (by decide +kernel)) (by decide) (by decide) (by decide) (fun _ _ _ _ _ => (pdg_name (pg_name (i := 4) sc_Matrix_init.nd rfl (Or.inl rfl)))) (fun _ _ _ _ _ => pdi_seq (pv 4)) (fun _ _ _ _ _ => (pdg_name (pg_name (i := 5) sc_Matrix_init.nd rfl (Or.inl rfl)))) (fun _ _ _ _ _ => pd_var (pv 5)))) (pda_cons (pd_var (pv 2)) pda_nil)))) (pdss_cons (pds_fst (i := 0) (c := 2) (f := "tops") (T.cl "Matrix") (T.no "Matrix" "tops") (fun h => ps_fld (pv 0) h rfl) (pd_cb (fun h => pe_callTy call_tuple_of (by rfl) (T.f "tuple") (by decide +kernel) h) l_tuple (pda_cons (pd_new (pdn_lc (own := [("row", 4)]) rfl sc_Matrix_init.nd (pdi_list (pd_var (pv 1))) (blkOk_by (N := ["self", "rows", "bottom", "divisor", "row", "top"]) (sc := defScope s_Matrix_init) (by decide +kernel)) (by decide) (fun _ _ _ _ _ => (pdg_name (pg_name (i := 4) sc_Matrix_init.nd rfl (Or.inl rfl)))) (fun _ _ _ _ _ => pdts_nil) (fun _ _ _ _ _ => pd_cb (fun h => pe_callTy call_tuple_of (by rfl) (T.f "tuple") (by decide +kernel) h) l_tuple (pda_cons (pd_new (pdn_lc (own := [("top", 5)]) rfl sc_Matrix_init.nd (pdi_seq (pv 4)) (blkOk_in (N := ["self", "rows", "bottom", "divisor", "row", "top"]) (by decide +kernel)) (by decide) (fun _ _ _ _ _ => (pdg_name (pg_name (i := 5) sc_Matrix_init.nd rfl (Or.inl rfl)))) (fun _ _ _ _ _ => pdts_nil) (fun _ _ _ _ _ => pd_op op_fdivZ l_I (pd_var (pv 5)) (pd_var (pv 3))))) pda_nil)))) pda_nil))) (pdss_cons (pds_fst (i := 0) (c := 2) (f := "bottom") (T.cl "Matrix") (T.no "Matrix" "bottom") (fun h => ps_fld (pv 0) h rfl) (pd_op op_fdivZ l_I (pd_var (pv 2)) (pd_var (pv 3)))) (pdss_cons (pds_fst (i := 0) (c := 2) (f := "height") (T.cl "Matrix") (T.no "Matrix" "height") (fun h => ps_fld (pv 0) h rfl) (pd_cb (fun h => pe_callB call_len (by rfl) (T.f "len") (by decide +kernel) h) l_len (pda_cons (pd_var (pv 1)) pda_nil))) (pdss_one (pds_fst (i := 0) (c := 2) (f := "width") (T.cl "Matrix") (T.no "Matrix" "width") (fun h => ps_fld (pv 0) h rfl) (pd_cb (fun h => pe_callB call_len (by rfl) (T.f "len") (by decide +kernel) h) l_lenS (pda_cons (pd_ix ix_list l_ixL (pd_var (pv 1)) (pd_int pe_int) (fun _ _ => rfl)) pda_nil))))))))), fun p ds Q ex h => ?_⟩)
  · have hn : n = 3 ∨ n + 1 = 3 := hn
    rcases hn with rfl | hn
    · exact match us, hu, its, hi with | [_, _, _], _, [_], _ => ⟨_, rfl, rfl⟩
    · obtain rfl : n = 2 := by omega
      exact match us, hu, its, hi with | [_, _], _, [_], _ => ⟨_, rfl, rfl⟩
  · obtain ⟨rs, A, b, h, w, rfl, _⟩ := h
    rfl
  · obtain ⟨rs, A, b, hh, w, rfl, hR, hS, h0, h1, w0, w1, hb, hs, q⟩ := h
    obtain ⟨d0, r0, e1, e2, hq0⟩ := rows_at hR (i := 0) (by rw [hS.1]; exact h0)
    have hl0 := hS.2 r0 (List.mem_of_getElem? e2)
    have lenR : rs.length = hh := by rw [hR.1, hS.1]
    have hi0 : atI rs 0 = some d0 := atI_of (by decide) e1
    have db : decide (b = 0) = false := decide_eq_false hb
    have hg : (gM A b).natAbs < 2 ^ 8999 := Nat.lt_of_le_of_lt (gs_le hb) hs
    have hd : ∀ i, CDivZ i (gM A b) := fun i => divZ (gs_ne hb) hg (by decide) (by decide)
    have hdb := hd b
    have lr : rs.length < sizeLine := sz100 (by omega)
    walk_at "go"
    refine ⟨rs, A, hh, w, rfl, hR, hS, h0, h1, w0, w1, ?_⟩
    walk_at "go"
    rw [db]
    walk_at "go"
    refine ⟨fun i zs => ∃ r, A[i]? = some r ∧ zs = r.map D.int, fun i x hx => ?_, fun zss hl hz => ?_⟩
    · obtain ⟨r, hr, hq⟩ := hR.2 i x hx
      have hl := hS.2 r (List.mem_of_getElem? hr)
      have hat := hq.at
      walk_at "go"
      refine ⟨fun j z => ∃ y, r[j]? = some y ∧ z = .int y, fun j y hy => ?_, fun zs hzl hzs => ⟨r, hr, ints_is (by rw [hzl, List.length_map]) hzs⟩⟩
      obtain ⟨y', hy', rfl⟩ := map_at hy
      walk_at "go"
      exact fun _ => ⟨_, hy', rfl⟩
    rw [flat_map (by rw [hl, hR.1]) hz]
    walk_at "go"
    refine ⟨_, A.flatten, b, rfl, .inl rfl, ?_⟩
    have eg : gs A.flatten b = gM A b := rfl
    rw [eg]
    walk_at "go"
    refine ⟨fun i z => ∃ r : List Int, A[i]? = some r ∧ z = some (.tup ((r.map fun t => t.fdiv (gM A b)).map D.int)), ?_, ?_⟩
    · rintro i x hx
      obtain ⟨r, hr, hq⟩ := hR.2 i x hx
      have hl := hS.2 r (List.mem_of_getElem? hr)
      have hat := hq.at
      have rl : r.length < sizeLine := sz100 (by omega)
      walk_at "go"
      refine ⟨fun j z => ∃ t : Int, r[j]? = some t ∧ z = some (.int (t.fdiv (gM A b))), ?_, ?_⟩
      · rintro j y hy
        obtain ⟨t, ht, rfl⟩ := map_at hy
        have hdt := hd t
        walk_at "go"
        exact fun _ => ⟨t, ht, rfl⟩
      intro ys hyl hyz
      obtain ⟨ms, e, hm, hm2⟩ := lc_map D.int (P := fun i v => ∃ t : Int, r[i]? = some t ∧ v = t.fdiv (gM A b)) hyl (fun i z h => by
        obtain ⟨t, h1, h2⟩ := hyz i z h
        exact ⟨_, h2, t, h1, rfl⟩)
      have em : ms = r.map fun t => t.fdiv (gM A b) := map_is (by rw [hm, List.length_map]) hm2
      rw [e, em]
      walk_at "go"
      exact fun _ => ⟨r, hr, rfl⟩
    intro ys hyl hyz
    obtain ⟨ms, e, hm, hm2⟩ := lc_map (fun r : List Int => D.tup (r.map D.int)) (P := fun i v => ∃ r : List Int, A[i]? = some r ∧ v = r.map fun t => t.fdiv (gM A b)) hyl (fun i z h => by
      obtain ⟨t, h1, h2⟩ := hyz i z h
      exact ⟨_, h2, t, h1, rfl⟩)
    have em : ms = mT A b := map_is (by rw [hm, hR.1]) hm2
    rw [e, em]
    walk_at "go"
    rw [List.length_map, hl0, lenR]
    exact q
end
end K32

namespace K32
open PySem PySem.Spec PyProof.Rows L2 LR DL
section
variable {P : Program} {w : World} {K : PySem.W.Frag} {mg : Str → Option Value} {base : Heap}
local macro_rules | `(tactic| walk_at "side") => `(tactic| first | rfl | assumption | exact ⟨_, rfl⟩ | omega | exact mulL (by omega) (by omega) | exact mulR (by omega) (by omega) | exact mulF (by decide) (by decide) | exact ⟨by decide, by decide +kernel⟩ | decide | exact Nat.le_of_ble_eq_true rfl | (simp only [List.length_cons, List.length_nil, List.length_map, List.nil_append, List.cons_append, sizeLine_eq]; omega) | (simp only [List.map_cons, List.map_nil, List.nil_append, List.cons_append]; decide +kernel))
local macro_rules | `(tactic| walk_at "go") => `(tactic| repeat (first
  | refine ⟨_, rfl, ?_⟩
  | refine ⟨_, _, rfl, rfl, ?_⟩
  | refine ⟨_, _, rfl, ?_⟩
  | refine ⟨_, _, _, rfl, rfl, ?_⟩
  | refine ⟨_, _, _, rfl, ?_⟩
  | refine ⟨_, _, _, _, rfl, rfl, ?_⟩
  | refine ⟨_, _, _, _, rfl, ?_⟩
  | refine ⟨_, _, rfl, by assumption, ?_⟩
  | refine ⟨_, _, _, rfl, rfl, rfl, ?_⟩
  | refine ⟨_, _, _, rfl, rfl, by assumption, ?_⟩
  | refine ⟨_, _, _, rfl, rfl, by walk_at "side", by assumption, ?_⟩
  | refine ⟨_, _, _, rfl, rfl, by walk_at "side", rfl, ?_⟩
  | refine ⟨_, _, _, rfl, rfl, rfl, by assumption, ?_⟩
  | refine .inl ⟨_, rfl, ?_⟩
  | refine .inr ⟨_, rfl, ?_⟩
  | refine .inr (.inl ⟨_, rfl, ?_⟩)
  | refine .inr (.inr ⟨_, rfl, ?_⟩)
  | refine ⟨_, .inl rfl, ?_⟩
  | refine ⟨_, .inr rfl, ?_⟩
  | refine ⟨_, (by assumption : _ ∨ _), ?_⟩
  | refine .inr ⟨_, _, rfl, ?_⟩
  | refine .inl ⟨_, _, rfl, ?_⟩
  | refine And.intro (by walk_at "side") ?_))


theorem fm_is {α : Type} {f : α → D} {l : List α} {zs : List (Option D)} (hl : zs.length = l.length) (h : ∀ (i : Nat) z, zs[i]? = some z → ∃ x, l[i]? = some x ∧ z = some (f x)) : zs.filterMap id = l.map f := by
  obtain ⟨ms, e, hm, hm2⟩ := lc_map f (P := fun i v => l[i]? = some v) hl (fun i z hz => by
    obtain ⟨x, h1, h2⟩ := h i z hz
    exact ⟨x, h2, h1⟩)
  rw [e, map_is (f := fun x => x) (ts := l) hm (fun i m hi => ⟨m, hm2 i m hi, rfl⟩)]
  simp
theorem zip_of {l m : List D} {i : Nat} {d : D} (h : (zipD l m)[i]? = some d) : ∃ x y, l[i]? = some x ∧ m[i]? = some y ∧ d = .tup [x, y] := by
  unfold zipD at h
  rw [List.getElem?_zipWith] at h
  cases e1 : l[i]? with
  | none => rw [e1] at h; simp at h
  | some x =>
    cases e2 : m[i]? with
    | none => rw [e1, e2] at h; simp at h
    | some y =>
      rw [e1, e2] at h
      exact ⟨x, y, rfl, rfl, (Option.some.inj h).symm⟩
theorem zipD_len (l m : List D) : (zipD l m).length = min l.length m.length := by unfold zipD; rw [List.length_zipWith]
def P_sum_of_products : Prm := fun ds Q _ => ∃ (ts us : List Int), ds = [.tup (ts.map D.int), .tup (us.map D.int)] ∧ ts.length = us.length ∧ ts.length ≤ 4000 ∧ Bd 9000 ts ∧ Bd 9000 us ∧ Q (.int (dotI ts us))
def P_Matrix_times_matrix : Prm := fun ds Q _ => ∃ (A : List (List Int)) (b : Int) (B : List (List Int)) (c : Int) (h m w n : Nat), ds = [MX A b h m, MX B c m w] ∧ Mx 4000 h m A b ∧ Mx 4000 m w B c ∧ Q (MX (mT (mulM A B w) (b * c)) (mB (mulM A B w) (b * c)) h w)
def P_Matrix_times_factor : Prm := fun ds Q _ => ∃ (A : List (List Int)) (b : Int) (d : D) (p q : Int) (h w : Nat), ds = [MX A b h w, d] ∧ Mx 4000 h w A b ∧ Fac d p q ∧ p.natAbs < 2 ^ 4000 ∧ q.natAbs < 2 ^ 4000 ∧ Q (MX (mT (sclM A p) (b * q)) (mB (sclM A p) (b * q)) h w)
def P_Matrix_mul : Prm := fun ds Q _ => ∃ (A : List (List Int)) (b : Int) (d : D) (h m : Nat), ds = [MX A b h m, d] ∧ Mx 4000 h m A b ∧ kind cs d = true ∧
  ((∃ (B : List (List Int)) (c : Int) (w : Nat), d = MX B c m w ∧ Mx 4000 m w B c ∧ Q (MX (mT (mulM A B w) (b * c)) (mB (mulM A B w) (b * c)) h w)) ∨
   (∃ p q : Int, Fac d p q ∧ p.natAbs < 2 ^ 4000 ∧ q.natAbs < 2 ^ 4000 ∧ Q (MX (mT (sclM A p) (b * q)) (mB (sclM A p) (b * q)) h m)))
def P_Matrix_add : Prm := fun ds Q _ => ∃ (A : List (List Int)) (b : Int) (B : List (List Int)) (c : Int) (h w : Nat), ds = [MX A b h w, MX B c h w] ∧ Mx 4000 h w A b ∧ Mx 4000 h w B c ∧ Q (MX (mT (addM A b B c) (b * c)) (mB (addM A b B c) (b * c)) h w)
def P_Matrix_eq : Prm := fun ds Q _ => ∃ (A : List (List Int)) (b : Int) (h w : Nat), ds = [MX A b h w, MX A b h w] ∧ Q (.bl true)
def P_Matrix_getitem : Prm := fun ds Q _ => ∃ (A : List (List Int)) (b i j : Int) (h w : Nat), ds = [MX A b h w, .tup [.int i, .int j]] ∧ Sh h w A ∧ 0 ≤ i ∧ i < h ∧ 0 ≤ j ∧ j < w ∧ b ≠ 0 ∧ b.natAbs < 2 ^ 8999 ∧ Q (R (nT (en A i.toNat j.toNat) b) (nB (en A i.toNat j.toNat) b))
def P_Matrix_trace : Prm := fun ds Q _ => ∃ (A : List (List Int)) (b : Int) (n : Nat), ds = [MX A b n n] ∧ Sh n n A ∧ n ≤ 4000 ∧ b ≠ 0 ∧ b.natAbs < 2 ^ 8999 ∧ Q (R (nT (traI A) b) (nB (traI A) b))
def P_Matrix_identity : Prm := fun ds Q _ => ∃ (n : Nat), ds = [.int n] ∧ 0 < n ∧ n ≤ 12 ∧ Q (MX (unitM n) 1 n n)
theorem mul_row {A B : List (List Int)} {w i : Nat} {r : List Int} (h : A[i]? = some r) : (mulM A B w)[i]? = some ((List.range w).map fun j => dotI r (colI B j)) := by unfold mulM; rw [List.getElem?_map, h]; rfl
theorem tR_eq (A : List (List Int)) : (A.map fun r => D.tup (r.map D.int)) = (A.map fun r => r.map D.int).map D.tup := by rw [List.map_map]; rfl
theorem col_eq {h w k : Nat} {B : List (List Int)} (s : Sh h w B) (hk : k < w) : ZS.colD D.non (B.map fun r => r.map D.int) k = (colI B k).map D.int := by
  unfold ZS.colD colI
  rw [List.map_map, List.map_map]
  refine List.map_congr_left fun r hr => ?_
  have hl := s.2 r hr
  have e : r[k]? = some (r[k]'(by omega)) := List.getElem?_eq_getElem _
  show (r.map D.int).getD k .non = D.int (r.getD k 0)
  rw [getD_of (show (r.map D.int)[k]? = some (D.int (r[k]'(by omega))) by rw [List.getElem?_map, e]; rfl), getD_of e]

theorem fn_sum_of_products (T : Txt LL K mg) (M : Mo3 cs sms cis mxs exs K mg) : Nonempty (Fn P w K mg base (d_sum_of_products.at_ K) 1 2 P_sum_of_products) := by
  refine Fn.of (T.d 15 (d := d_sum_of_products)) sc_sum_of_products rfl (fun _ _ _ _ _ _ us hl => match us, hl with | [_, _], _ => rfl) (fun ds Q ex h => ?_) (fun fd cdv A outer s H E hr => ⟨_, pdss_one (pds_ret (pd_cb (fun h => pe_callB (cr_sum rfl) (by rfl) (T.f "sum") (by decide +kernel) h) l_sum (pda_cons (pd_new (pdn_lc (own := [("one", 2), ("two", 3)]) rfl sc_sum_of_products.nd (pdi_zip rfl (T.f "zip") (pda_cons (pd_var (pv 0)) (pda_cons (pd_var (pv 1)) pda_nil))) (blkOk_by (N := ["left", "right", "one", "two"]) (sc := defScope s_sum_of_products) (by decide +kernel)) (by decide) (fun _ _ _ _ _ => (pdg_tup (n := 2) (by rfl) (pdgs_cons (pdg_name (pg_name (i := 2) sc_sum_of_products.nd rfl (by first | exact Or.inl rfl | exact Or.inr rfl))) (pdgs_cons (pdg_name (pg_name (i := 3) sc_sum_of_products.nd rfl (by first | exact Or.inl rfl | exact Or.inr rfl))) pdgs_nil)))) (fun _ _ _ _ _ => pdts_nil) (fun _ _ _ _ _ => pd_op op_mulZ l_I (pd_var (pv 2)) (pd_var (pv 3))))) pda_nil))), fun ds Q ex h => ?_⟩)
  · obtain ⟨ts, us, rfl, _⟩ := h
    rfl
  · obtain ⟨ts, us, rfl, he, hl, ht, hu, q⟩ := h
    have hzl : (zipD (ts.map D.int) (us.map D.int)).length < sizeLine := by rw [zipD_len, List.length_map, List.length_map]; exact sz100 (by omega)
    walk_at "go"
    refine ⟨fun i z => ∃ x, (List.zipWith (fun x y => x * y) ts us)[i]? = some x ∧ z = some (.int x), ?_, ?_⟩
    · rintro i x hx
      obtain ⟨x', y', h1, h2, rfl⟩ := zip_of hx
      obtain ⟨x, k1, rfl⟩ := map_at h1
      obtain ⟨y, k2, rfl⟩ := map_at h2
      have m1 : IntMulOk x y := mulBig (ht x (List.mem_of_getElem? k1)) (hu y (List.mem_of_getElem? k2))
      walk_at "go"
      exact fun _ => ⟨x * y, by rw [List.getElem?_zipWith, k1, k2], rfl⟩
    intro zs hl2 hz
    rw [fm_is (by rw [hl2, zipD_len, List.length_map, List.length_map, List.length_zipWith]) hz]
    walk_at "go"
    exact q

theorem fn_Matrix_times_matrix (T : Txt LL K mg) (M : Mo3 cs sms cis mxs exs K mg) : Nonempty (Fn P w K mg base (d_Matrix_times_matrix.at_ K) 7 2 P_Matrix_times_matrix) := by
  obtain ⟨F_check_sizes⟩ := fn_check_sizes (P := P) (w := w) (base := base) T M
  obtain ⟨F_sum_of_products⟩ := fn_sum_of_products (P := P) (w := w) (base := base) T M
  obtain ⟨⟨F_Matrix_init⟩, ⟨F_Matrix_init_d⟩⟩ := fn_Matrix_init (P := P) (w := w) (base := base) T M
  refine Fn.of (T.d 21 (d := d_Matrix_times_matrix)) sc_Matrix_times_matrix rfl (fun _ _ _ _ _ _ us hl => match us, hl with | [_, _], _ => rfl) (fun ds Q ex h => ?_) (fun fd cdv A outer s H E hr => ⟨_, pdss_cons (pds_expr (pd_call F_check_sizes (hr.mono (by decide)) (by rfl) (T.g "check_sizes") (T.k "check_sizes") (takes_of rfl rfl rfl rfl) (pda_cons (pd_fld (c := 2) (k := 3) (T.cl "Matrix") (T.no "Matrix" "width") fk_Matrix_width (pd_var (pv 0))) (pda_cons (pd_fld (c := 2) (k := 2) (T.cl "Matrix") (T.no "Matrix" "height") fk_Matrix_height (pd_var (pv 1))) pda_nil)))) (pdss_cons (pds_set (i := 2) sc_Matrix_times_matrix.nd rfl (by first | exact Or.inl rfl | exact Or.inr rfl) (pd_new (pdn_lz rfl rfl (T.f "list") rfl (T.f "zip") (pd_fld (c := 2) (k := 0) (T.cl "Matrix") (T.no "Matrix" "tops") fk_Matrix_tops (pd_var (pv 1)))))) (pdss_cons (pds_lcV (i := 3) (own := [("row", 5)]) rfl sc_Matrix_times_matrix.nd rfl rfl (sw_true rfl rfl rfl (by decide +kernel)) (pdi_tup (pd_fld (c := 2) (k := 0) (T.cl "Matrix") (T.no "Matrix" "tops") fk_Matrix_tops (pd_var (pv 0)))) (blkOk_by (N := ["self", "other", "columns", "rows", "column", "row"]) (sc := defScope s_Matrix_times_matrix) (by decide +kernel)) (by decide) (fun _ _ _ _ _ => (pdg_name (pg_name (i := 5) sc_Matrix_times_matrix.nd rfl (by first | exact Or.inl rfl | exact Or.inr rfl)))) (fun _ _ _ _ _ => pdts_nil) (fun _ _ _ _ _ => pd_new (pdn_lc (own := [("column", 4)]) rfl sc_Matrix_times_matrix.nd (pdi_list (pd_var (pv 2))) (blkOk_in (N := ["self", "other", "columns", "rows", "column", "row"]) (by decide +kernel)) (by decide) (fun _ _ _ _ _ => (pdg_name (pg_name (i := 4) sc_Matrix_times_matrix.nd rfl (by first | exact Or.inl rfl | exact Or.inr rfl)))) (fun _ _ _ _ _ => pdts_nil) (fun _ _ _ _ _ => pd_call F_sum_of_products (hr.mono (by decide)) (by rfl) (T.g "sum_of_products") (T.k "sum_of_products") takes0 (pda_cons (pd_var (pv 5)) (pda_cons (pd_var (pv 4)) pda_nil)))))) (pdss_one (pds_ret (pd_make (c := 2) (T.mkk "Matrix") F_Matrix_init (fun _ _ => .nil) (hr.mono (by decide)) (by rfl) (T.g "Matrix") (takes_of rfl rfl rfl rfl) (pda_cons (pd_var (pv 3)) (pda_cons (pd_op op_mulZ l_I (pd_fld (c := 2) (k := 1) (T.cl "Matrix") (T.no "Matrix" "bottom") fk_Matrix_bottom (pd_var (pv 0))) (pd_fld (c := 2) (k := 1) (T.cl "Matrix") (T.no "Matrix" "bottom") fk_Matrix_bottom (pd_var (pv 1)))) pda_nil))))))), fun ds Q ex h => ?_⟩)
  · obtain ⟨A, b, B, c, h, m, w, n, rfl, _⟩ := h
    rfl
  · obtain ⟨A, b, B, c, hh, m, w, n, rfl, hA, hB, q⟩ := h
    have sA := hA.sh
    have sB := hB.sh
    have h1 := hA.h1
    have lA : A.length = hh := sA.1
    have lw : (List.range w).length = w := List.length_range
    have m0 := hB.h0
    have m1 := hB.h1
    have w1 := hB.w1
    have hbc : b * c ≠ 0 := Int.mul_ne_zero hA.ne hB.ne
    have sbc : (b * c).natAbs < 2 ^ 8999 := abs_up (abs_mul_lt hA.sb hB.sb) (by decide)
    have mbc : IntMulOk b c := mulBig (abs_up hA.sb (by decide)) (abs_up hB.sb (by decide))
    walk_at "go"
    refine ⟨B.map fun r => r.map D.int, w, .inl (congrArg D.tup (tR_eq B)), by rw [List.length_map, sB.1]; exact m0, by rw [List.length_map, sB.1]; exact m1, hB.w0, by omega, fun z hz => ?_, ?_⟩
    · obtain ⟨r, hr, rfl⟩ := List.mem_map.mp hz
      rw [List.length_map]
      exact sB.2 r hr
    walk_at "go"
    refine ⟨fun i z => ∃ r : List Int, (mulM A B w)[i]? = some r ∧ z = some (.lst (r.map D.int)), ?_, ?_⟩
    · rintro i x hx
      obtain ⟨r, hr, rfl⟩ := map_at hx
      have rl := sA.2 r (List.mem_of_getElem? hr)
      walk_at "go"
      refine ⟨fun j z => ∃ y, ((List.range w).map fun j => dotI r (colI B j))[j]? = some y ∧ z = some (.int y), ?_, ?_⟩
      · rintro j y hy
        rw [List.getElem?_map] at hy
        cases ej : (List.range w)[j]? with
        | none => rw [ej] at hy; cases hy
        | some k =>
          have hj : j < w := by
            have := (List.getElem?_eq_some_iff.mp ej).1
            simpa using this
          rw [List.getElem?_range hj] at ej
          cases ej
          rw [List.getElem?_range hj] at hy
          have hy' : D.tup (ZS.colD D.non (B.map fun r => r.map D.int) j) = y := Option.some.inj hy
          rw [col_eq sB hj] at hy'
          subst hy'
          have f1 : r.length = (colI B j).length := by unfold colI; rw [List.length_map, rl, sB.1]
          have f2 : Bd 9000 r := (hA.bd r (List.mem_of_getElem? hr)).up (by decide)
          have f3 : Bd 9000 (colI B j) := (hB.bd.col j).up (by decide)
          walk_at "go"
          exact fun _ => ⟨_, by rw [List.getElem?_map, List.getElem?_range hj]; rfl, rfl⟩
      intro zs hl2 hz
      rw [fm_is (by rw [hl2, List.length_map, List.length_map]) hz]
      exact fun _ => ⟨_, mul_row hr, rfl⟩
    intro zs hl2 hz
    rw [fm_is (f := fun r : List Int => D.lst (r.map D.int)) (by rw [hl2, List.length_map]; unfold mulM; rw [List.length_map]) hz]
    walk_at "go"
    exact ⟨_, mulM A B w, b * c, hh, w, rfl, rows_lst _, sA.mul, hA.h0, by omega, hB.w0, by omega, hbc, sbc, q⟩
end
end K32

namespace K32
open PySem PySem.Spec PyProof.Rows L2 LR DL
section
variable {P : Program} {w : World} {K : PySem.W.Frag} {mg : Str → Option Value} {base : Heap}
local macro_rules | `(tactic| walk_at "side") => `(tactic| first | rfl | assumption | exact ⟨_, rfl⟩ | omega | exact mulL (by omega) (by omega) | exact mulR (by omega) (by omega) | exact mulF (by decide) (by decide) | exact ⟨by decide, by decide +kernel⟩ | decide | exact Nat.le_of_ble_eq_true rfl | (simp only [List.length_cons, List.length_nil, List.length_map, List.nil_append, List.cons_append, sizeLine_eq]; omega) | (simp only [List.map_cons, List.map_nil, List.nil_append, List.cons_append]; decide +kernel))
local macro_rules | `(tactic| walk_at "go") => `(tactic| repeat (first
  | refine ⟨_, rfl, ?_⟩
  | refine ⟨_, _, rfl, rfl, ?_⟩
  | refine ⟨_, _, rfl, ?_⟩
  | refine ⟨_, _, _, rfl, rfl, ?_⟩
  | refine ⟨_, _, _, rfl, ?_⟩
  | refine ⟨_, _, _, _, rfl, rfl, ?_⟩
  | refine ⟨_, _, _, _, rfl, ?_⟩
  | refine ⟨_, _, rfl, by assumption, ?_⟩
  | refine ⟨_, _, _, rfl, rfl, rfl, ?_⟩
  | refine ⟨_, _, _, rfl, rfl, by assumption, ?_⟩
  | refine ⟨_, _, _, rfl, rfl, by walk_at "side", by assumption, ?_⟩
  | refine ⟨_, _, _, rfl, rfl, by walk_at "side", rfl, ?_⟩
  | refine ⟨_, _, _, rfl, rfl, rfl, by assumption, ?_⟩
  | refine .inl ⟨_, rfl, ?_⟩
  | refine .inr ⟨_, rfl, ?_⟩
  | refine .inr (.inl ⟨_, rfl, ?_⟩)
  | refine .inr (.inr ⟨_, rfl, ?_⟩)
  | refine ⟨_, .inl rfl, ?_⟩
  | refine ⟨_, .inr rfl, ?_⟩
  | refine ⟨_, (by assumption : _ ∨ _), ?_⟩
  | refine .inr ⟨_, _, rfl, ?_⟩
  | refine .inl ⟨_, _, rfl, ?_⟩
  | refine And.intro (by walk_at "side") ?_))


theorem scl_row {A : List (List Int)} {t : Int} {i : Nat} {r : List Int} (h : A[i]? = some r) : (sclM A t)[i]? = some (r.map fun x => x * t) := by unfold sclM; rw [List.getElem?_map, h]; rfl
theorem add_row {A B : List (List Int)} {b c : Int} {i : Nat} {r s : List Int} (h : A[i]? = some r) (k : B[i]? = some s) : (addM A b B c)[i]? = some (List.zipWith (fun x y => x * c + y * b) r s) := by unfold addM; rw [List.getElem?_zipWith, h, k]
theorem unit_row {n i : Nat} (h : i < n) : (unitM n)[i]? = some ((List.range n).map fun j => if i = j then 1 else 0) := by unfold unitM; rw [List.getElem?_map, List.getElem?_range h]; rfl
theorem okD_MX (A : List (List Int)) : okD (tR A) = true := okD_of 2 (fun y hy => by
  obtain ⟨p, _, rfl⟩ := List.mem_map.mp hy
  intro z hz
  obtain ⟨x, _, rfl⟩ := List.mem_map.mp hz
  exact trivial) (by decide)
def rowsT (vs : List (List Int × Int)) (m : Int) : List (List Int) := vs.map fun p => p.1.map fun t => t * m.fdiv p.2
theorem rowsT_row {vs : List (List Int × Int)} {m : Int} {i : Nat} {p : List Int × Int} (h : vs[i]? = some p) : (rowsT vs m)[i]? = some (p.1.map fun t => t * m.fdiv p.2) := by unfold rowsT; rw [List.getElem?_map, h]; rfl
structure VsM (M : Int) (h w : Nat) (vs : List (List Int × Int)) : Prop where
  pos : 0 < M
  sM : M.natAbs < 2 ^ 8900
  len : vs.length = h
  h0 : 0 < h
  h1 : h ≤ 12
  w0 : 0 < w
  w1 : w ≤ 12
  ok : ∀ p ∈ vs, p.1.length = w ∧ 0 < p.2 ∧ p.2 ∣ M ∧ Bd 8900 p.1
def P_from_rows : Prm := fun ds Q _ => ∃ (vs : List (List Int × Int)) (M : Int) (h w : Nat), ds = [.lst (vs.map fun p => V p.1 p.2)] ∧ VsM M h w vs ∧ ∀ m : Int, 0 < m → m ∣ M → (∀ p ∈ vs, p.2 ∣ m) → Q (MX (mT (rowsT vs m) m) (mB (rowsT vs m) m) h w)

theorem fn_Matrix_times_factor (T : Txt LL K mg) (M : Mo3 cs sms cis mxs exs K mg) : Nonempty (Fn P w K mg base (d_Matrix_times_factor.at_ K) 7 2 P_Matrix_times_factor) := by
  obtain ⟨F_as_ratio⟩ := fn_as_ratio (P := P) (w := w) (base := base) T M
  obtain ⟨⟨F_Matrix_init⟩, ⟨F_Matrix_init_d⟩⟩ := fn_Matrix_init (P := P) (w := w) (base := base) T M
  refine Fn.of (T.d 22 (d := d_Matrix_times_factor)) sc_Matrix_times_factor rfl (fun _ _ _ _ _ _ us hl => match us, hl with | [_, _], _ => rfl) (fun ds Q ex h => ?_) (fun fd cdv A outer s H E hr => ⟨_, pdss_cons (pds_set (i := 2) sc_Matrix_times_factor.nd rfl (by first | exact Or.inl rfl | exact Or.inr rfl) (pd_call F_as_ratio (hr.mono (by decide)) (by rfl) (T.g "as_ratio") (T.k "as_ratio") (takes_of rfl rfl rfl rfl) (pda_cons (pd_var (pv 1)) pda_nil))) (pdss_one (pds_ret (pd_make (c := 2) (T.mkk "Matrix") F_Matrix_init (fun _ _ => .nil) (hr.mono (by decide)) (by rfl) (T.g "Matrix") (takes_of rfl rfl rfl rfl) (pda_cons (pd_new (pdn_lc (own := [("row", 4)]) rfl sc_Matrix_times_factor.nd (pdi_tup (pd_fld (c := 2) (k := 0) (T.cl "Matrix") (T.no "Matrix" "tops") fk_Matrix_tops (pd_var (pv 0)))) (blkOk_by (N := ["self", "other", "factor", "top", "row"]) (sc := defScope s_Matrix_times_factor) (by decide +kernel)) (by decide) (fun _ _ _ _ _ => (pdg_name (pg_name (i := 4) sc_Matrix_times_factor.nd rfl (by first | exact Or.inl rfl | exact Or.inr rfl)))) (fun _ _ _ _ _ => pdts_nil) (fun _ _ _ _ _ => pd_new (pdn_lc (own := [("top", 3)]) rfl sc_Matrix_times_factor.nd (pdi_tup (pd_var (pv 4))) (blkOk_in (N := ["self", "other", "factor", "top", "row"]) (by decide +kernel)) (by decide) (fun _ _ _ _ _ => (pdg_name (pg_name (i := 3) sc_Matrix_times_factor.nd rfl (by first | exact Or.inl rfl | exact Or.inr rfl)))) (fun _ _ _ _ _ => pdts_nil) (fun _ _ _ _ _ => pd_op op_mulZ l_I (pd_var (pv 3)) (pd_fld (c := 0) (k := 0) (T.cl "Ratio") (T.no "Ratio" "top") fk_Ratio_top (pd_var (pv 2)))))))) (pda_cons (pd_op op_mulZ l_I (pd_fld (c := 2) (k := 1) (T.cl "Matrix") (T.no "Matrix" "bottom") fk_Matrix_bottom (pd_var (pv 0))) (pd_fld (c := 0) (k := 1) (T.cl "Ratio") (T.no "Ratio" "bottom") fk_Ratio_bottom (pd_var (pv 2)))) pda_nil))))), fun ds Q ex h => ?_⟩)
  · obtain ⟨A, b, d, p, q, h, w, rfl, _⟩ := h
    rfl
  · obtain ⟨A, b, d, p, q, hh, w, rfl, hA, hF, hp, hq, qq⟩ := h
    have sA := hA.sh
    have h1 := hA.h1
    have w1 := hA.w1
    have lA : A.length = hh := sA.1
    have q0 : q ≠ 0 := by rcases hF with ⟨_, e⟩ | ⟨_, e⟩ <;> omega
    have hbc : b * q ≠ 0 := Int.mul_ne_zero hA.ne q0
    have sbc : (b * q).natAbs < 2 ^ 8999 := abs_up (abs_mul_lt hA.sb hq) (by decide)
    have mbc : IntMulOk b q := mulBig (abs_up hA.sb (by decide)) (abs_up hq (by decide))
    walk_at "go"
    refine ⟨_, p, q, rfl, hF, ?_⟩
    walk_at "go"
    refine ⟨fun i z => ∃ r : List Int, (sclM A p)[i]? = some r ∧ z = some (.lst (r.map D.int)), ?_, ?_⟩
    · rintro i x hx
      obtain ⟨r, hr, rfl⟩ := map_at hx
      have rl := sA.2 r (List.mem_of_getElem? hr)
      walk_at "go"
      refine ⟨fun j z => ∃ y, (r.map fun x => x * p)[j]? = some y ∧ z = some (.int y), ?_, ?_⟩
      · rintro j y hy
        obtain ⟨t, ht, rfl⟩ := map_at hy
        have mt : IntMulOk t p := mulBig (abs_up (hA.bd r (List.mem_of_getElem? hr) t (List.mem_of_getElem? ht)) (by decide)) (abs_up hp (by decide))
        walk_at "go"
        exact fun _ => ⟨_, by rw [List.getElem?_map, ht]; rfl, rfl⟩
      intro zs hl2 hz
      rw [fm_is (by rw [hl2, List.length_map, List.length_map]) hz]
      exact fun _ => ⟨_, scl_row hr, rfl⟩
    intro zs hl2 hz
    rw [fm_is (f := fun r : List Int => D.lst (r.map D.int)) (by rw [hl2, List.length_map]; unfold sclM; rw [List.length_map]) hz]
    walk_at "go"
    exact ⟨_, sclM A p, b * q, hh, w, rfl, rows_lst _, sA.scl p, hA.h0, by omega, hA.w0, by omega, hbc, sbc, qq⟩

theorem fn_Matrix_mul (T : Txt LL K mg) (M : Mo3 cs sms cis mxs exs K mg) : Nonempty (Fn P w K mg base (d_Matrix_mul.at_ K) 8 2 P_Matrix_mul) := by
  obtain ⟨F_Matrix_times_matrix⟩ := fn_Matrix_times_matrix (P := P) (w := w) (base := base) T M
  obtain ⟨F_is_factor⟩ := fn_is_factor (P := P) (w := w) (base := base) T M
  obtain ⟨F_Matrix_times_factor⟩ := fn_Matrix_times_factor (P := P) (w := w) (base := base) T M
  refine Fn.of (T.d 19 (d := d_Matrix_mul)) sc_Matrix_mul rfl (fun _ _ _ _ _ _ us hl => match us, hl with | [_, _], _ => rfl) (fun ds Q ex h => ?_) (fun fd cdv A outer s H E hr => ⟨_, pdss_cons (pds_if (pdt_val (pd_isi (cr := (.own 2)) M.isi M.cls (fun c h => by cases h; decide) (fun h => pe_callB call_isi (by rfl) (T.f "isinstance") (by decide +kernel) (pa_cons h (pa_cons (pe_glob (v := .ref (He.ga K "Matrix")) rfl (T.g "Matrix") rfl) pa_nil))) (pd_var (pv 1)))) (pdss_one (pds_ret (pd_meth (c := 2) (pd_var (pv 0)) (T.cl "Matrix") (T.me "Matrix" "_times_matrix") F_Matrix_times_matrix (hr.mono (by decide)) (takes_of rfl rfl rfl rfl) nm_Matrix__times_matrix (pda_cons (pd_var (pv 1)) pda_nil)))) pdss_nil) (pdss_cons (pds_if (pdt_val (pd_isi (cr := (.own 1)) M.isi M.cls (fun c h => by cases h; decide) (fun h => pe_callB call_isi (by rfl) (T.f "isinstance") (by decide +kernel) (pa_cons h (pa_cons (pe_glob (v := .ref (He.ga K "Vector")) rfl (T.g "Vector") rfl) pa_nil))) (pd_var (pv 1)))) pdss_never pdss_nil) (pdss_cons (pds_if (pdt_val (pd_call F_is_factor (hr.mono (by decide)) (by rfl) (T.g "is_factor") (T.k "is_factor") (takes_of rfl rfl rfl rfl) (pda_cons (pd_var (pv 1)) pda_nil))) (pdss_one (pds_ret (pd_meth (c := 2) (pd_var (pv 0)) (T.cl "Matrix") (T.me "Matrix" "_times_factor") F_Matrix_times_factor (hr.mono (by decide)) (takes_of rfl rfl rfl rfl) nm_Matrix__times_factor (pda_cons (pd_var (pv 1)) pda_nil)))) pdss_nil) pdss_never)), fun ds Q ex h => ?_⟩)
  · obtain ⟨A, b, d, h, m, rfl, _⟩ := h
    rfl
  · obtain ⟨A, b, d, hh, m, rfl, hA, hk, hd⟩ := h
    rcases hd with ⟨B, c, w, rfl, hB, q⟩ | ⟨p, q, hF, hp, hq, qq⟩
    · walk_at "go"
      exact ⟨A, b, B, c, hh, m, w, 0, rfl, hA, hB, q⟩
    · have k1 : isD d (.own 2) = false := by rcases hF with ⟨rfl, _⟩ | ⟨rfl, _⟩ <;> rfl
      have k2 : isD d (.own 1) = false := by rcases hF with ⟨rfl, _⟩ | ⟨rfl, _⟩ <;> rfl
      walk_at "go"
      rw [k1]
      walk_at "go"
      rw [k2]
      walk_at "go"
      refine ⟨_, p, q, rfl, hF, ?_⟩
      walk_at "go"
      exact ⟨A, b, d, p, q, hh, m, rfl, hA, hF, hp, hq, qq⟩

theorem fn_Matrix_add (T : Txt LL K mg) (M : Mo3 cs sms cis mxs exs K mg) : Nonempty (Fn P w K mg base (d_Matrix_add.at_ K) 7 2 P_Matrix_add) := by
  obtain ⟨F_check_sizes⟩ := fn_check_sizes (P := P) (w := w) (base := base) T M
  obtain ⟨⟨F_Matrix_init⟩, ⟨F_Matrix_init_d⟩⟩ := fn_Matrix_init (P := P) (w := w) (base := base) T M
  refine Fn.of (T.d 18 (d := d_Matrix_add)) sc_Matrix_add rfl (fun _ _ _ _ _ _ us hl => match us, hl with | [_, _], _ => rfl) (fun ds Q ex h => ?_) (fun fd cdv A outer s H E hr => ⟨_, pdss_cons (pds_if (pdt_not (pdt_val (pd_isi (cr := (.own 2)) M.isi M.cls (fun c h => by cases h; decide) (fun h => pe_callB call_isi (by rfl) (T.f "isinstance") (by decide +kernel) (pa_cons h (pa_cons (pe_glob (v := .ref (He.ga K "Matrix")) rfl (T.g "Matrix") rfl) pa_nil))) (pd_var (pv 1))))) pdss_never pdss_nil) (pdss_cons (pds_expr (pd_call F_check_sizes (hr.mono (by decide)) (by rfl) (T.g "check_sizes") (T.k "check_sizes") (takes_of rfl rfl rfl rfl) (pda_cons (pd_fld (c := 2) (k := 2) (T.cl "Matrix") (T.no "Matrix" "height") fk_Matrix_height (pd_var (pv 0))) (pda_cons (pd_fld (c := 2) (k := 2) (T.cl "Matrix") (T.no "Matrix" "height") fk_Matrix_height (pd_var (pv 1))) pda_nil)))) (pdss_cons (pds_expr (pd_call F_check_sizes (hr.mono (by decide)) (by rfl) (T.g "check_sizes") (T.k "check_sizes") (takes_of rfl rfl rfl rfl) (pda_cons (pd_fld (c := 2) (k := 3) (T.cl "Matrix") (T.no "Matrix" "width") fk_Matrix_width (pd_var (pv 0))) (pda_cons (pd_fld (c := 2) (k := 3) (T.cl "Matrix") (T.no "Matrix" "width") fk_Matrix_width (pd_var (pv 1))) pda_nil)))) (pdss_cons (pds_lcV (i := 2) (own := [("left", 5), ("right", 6)]) rfl sc_Matrix_add.nd rfl rfl (sw_true rfl rfl rfl (by decide +kernel)) (pdi_zip rfl (T.f "zip") (pda_cons (pd_fld (c := 2) (k := 0) (T.cl "Matrix") (T.no "Matrix" "tops") fk_Matrix_tops (pd_var (pv 0))) (pda_cons (pd_fld (c := 2) (k := 0) (T.cl "Matrix") (T.no "Matrix" "tops") fk_Matrix_tops (pd_var (pv 1))) pda_nil))) (blkOk_by (N := ["self", "other", "rows", "one", "two", "left", "right"]) (sc := defScope s_Matrix_add) (by decide +kernel)) (by decide) (fun _ _ _ _ _ => (pdg_tup (n := 2) (by rfl) (pdgs_cons (pdg_name (pg_name (i := 5) sc_Matrix_add.nd rfl (by first | exact Or.inl rfl | exact Or.inr rfl))) (pdgs_cons (pdg_name (pg_name (i := 6) sc_Matrix_add.nd rfl (by first | exact Or.inl rfl | exact Or.inr rfl))) pdgs_nil)))) (fun _ _ _ _ _ => pdts_nil) (fun _ _ _ _ _ => pd_new (pdn_lc (own := [("one", 3), ("two", 4)]) rfl sc_Matrix_add.nd (pdi_zip rfl (T.f "zip") (pda_cons (pd_var (pv 5)) (pda_cons (pd_var (pv 6)) pda_nil))) (blkOk_in (N := ["self", "other", "rows", "one", "two", "left", "right"]) (by decide +kernel)) (by decide) (fun _ _ _ _ _ => (pdg_tup (n := 2) (by rfl) (pdgs_cons (pdg_name (pg_name (i := 3) sc_Matrix_add.nd rfl (by first | exact Or.inl rfl | exact Or.inr rfl))) (pdgs_cons (pdg_name (pg_name (i := 4) sc_Matrix_add.nd rfl (by first | exact Or.inl rfl | exact Or.inr rfl))) pdgs_nil)))) (fun _ _ _ _ _ => pdts_nil) (fun _ _ _ _ _ => pd_op op_add l_I0 (pd_op op_mulZ l_I (pd_var (pv 3)) (pd_fld (c := 2) (k := 1) (T.cl "Matrix") (T.no "Matrix" "bottom") fk_Matrix_bottom (pd_var (pv 1)))) (pd_op op_mulZ l_I (pd_var (pv 4)) (pd_fld (c := 2) (k := 1) (T.cl "Matrix") (T.no "Matrix" "bottom") fk_Matrix_bottom (pd_var (pv 0)))))))) (pdss_one (pds_ret (pd_make (c := 2) (T.mkk "Matrix") F_Matrix_init (fun _ _ => .nil) (hr.mono (by decide)) (by rfl) (T.g "Matrix") (takes_of rfl rfl rfl rfl) (pda_cons (pd_var (pv 2)) (pda_cons (pd_op op_mulZ l_I (pd_fld (c := 2) (k := 1) (T.cl "Matrix") (T.no "Matrix" "bottom") fk_Matrix_bottom (pd_var (pv 0))) (pd_fld (c := 2) (k := 1) (T.cl "Matrix") (T.no "Matrix" "bottom") fk_Matrix_bottom (pd_var (pv 1)))) pda_nil)))))))), fun ds Q ex h => ?_⟩)
  · obtain ⟨A, b, B, c, h, w, rfl, _⟩ := h
    rfl
  · obtain ⟨A, b, B, c, hh, w, rfl, hA, hB, q⟩ := h
    have sA := hA.sh
    have sB := hB.sh
    have h1 := hA.h1
    have w1 := hA.w1
    have lA : A.length = hh := sA.1
    have lB : B.length = hh := sB.1
    have hbc : b * c ≠ 0 := Int.mul_ne_zero hA.ne hB.ne
    have sbc : (b * c).natAbs < 2 ^ 8999 := abs_up (abs_mul_lt hA.sb hB.sb) (by decide)
    have mbc : IntMulOk b c := mulBig (abs_up hA.sb (by decide)) (abs_up hB.sb (by decide))
    have zl : (zipD (A.map fun r => D.tup (r.map D.int)) (B.map fun r => D.tup (r.map D.int))).length = hh := by rw [zipD_len, List.length_map, List.length_map, lA, lB, Nat.min_self]
    have zs' : (zipD (A.map fun r => D.tup (r.map D.int)) (B.map fun r => D.tup (r.map D.int))).length < sizeLine := by rw [zl]; exact sz100 (by omega)
    walk_at "go"
    refine ⟨fun i z => ∃ r : List Int, (addM A b B c)[i]? = some r ∧ z = some (.lst (r.map D.int)), ?_, ?_⟩
    · rintro i x hx
      obtain ⟨x', y', k1, k2, rfl⟩ := zip_of hx
      obtain ⟨r, hr, rfl⟩ := map_at k1
      obtain ⟨s, hs, rfl⟩ := map_at k2
      have rl := sA.2 r (List.mem_of_getElem? hr)
      have sl := sB.2 s (List.mem_of_getElem? hs)
      have zl2 : (zipD (r.map D.int) (s.map D.int)).length = w := by rw [zipD_len, List.length_map, List.length_map, rl, sl, Nat.min_self]
      have zs2 : (zipD (r.map D.int) (s.map D.int)).length < sizeLine := by rw [zl2]; exact sz100 (by omega)
      walk_at "go"
      refine ⟨fun j z => ∃ y, (List.zipWith (fun x y => x * c + y * b) r s)[j]? = some y ∧ z = some (.int y), ?_, ?_⟩
      · rintro j y hy
        obtain ⟨u', v', k3, k4, rfl⟩ := zip_of hy
        obtain ⟨u, hu, rfl⟩ := map_at k3
        obtain ⟨v, hv, rfl⟩ := map_at k4
        have m1 : IntMulOk u c := mulBig (abs_up (hA.bd r (List.mem_of_getElem? hr) u (List.mem_of_getElem? hu)) (by decide)) (abs_up hB.sb (by decide))
        have m2 : IntMulOk v b := mulBig (abs_up (hB.bd s (List.mem_of_getElem? hs) v (List.mem_of_getElem? hv)) (by decide)) (abs_up hA.sb (by decide))
        walk_at "go"
        exact fun _ => ⟨_, by rw [List.getElem?_zipWith, hu, hv], rfl⟩
      intro zs hl2 hz
      rw [fm_is (by rw [hl2, zl2, List.length_zipWith, rl, sl, Nat.min_self]) hz]
      exact fun _ => ⟨_, add_row hr hs, rfl⟩
    intro zs hl2 hz
    rw [fm_is (f := fun r : List Int => D.lst (r.map D.int)) (by rw [hl2, zl]; unfold addM; rw [List.length_zipWith, lA, lB, Nat.min_self]) hz]
    walk_at "go"
    exact ⟨_, addM A b B c, b * c, hh, w, rfl, rows_lst _, sA.add sB, hA.h0, by omega, hA.w0, by omega, hbc, sbc, q⟩

theorem fn_Matrix_eq (T : Txt LL K mg) (M : Mo3 cs sms cis mxs exs K mg) : Nonempty (Fn P w K mg base (d_Matrix_eq.at_ K) 1 2 P_Matrix_eq) := by
  refine Fn.of (T.d 20 (d := d_Matrix_eq)) sc_Matrix_eq rfl (fun _ _ _ _ _ _ us hl => match us, hl with | [_, _], _ => rfl) (fun ds Q ex h => ?_) (fun fd cdv A outer s H E hr => ⟨_, pdss_one (pds_ret (pd_and (pd_isi (cr := (.own 2)) M.isi M.cls (fun c h => by cases h; decide) (fun h => pe_callB call_isi (by rfl) (T.f "isinstance") (by decide +kernel) (pa_cons h (pa_cons (pe_glob (v := .ref (He.ga K "Matrix")) rfl (T.g "Matrix") rfl) pa_nil))) (pd_var (pv 1))) (pd_and (pd_cmp (op_eqD (hr.units)) l_eqD (pd_fld (c := 2) (k := 0) (T.cl "Matrix") (T.no "Matrix" "tops") fk_Matrix_tops (pd_var (pv 0))) (pd_fld (c := 2) (k := 0) (T.cl "Matrix") (T.no "Matrix" "tops") fk_Matrix_tops (pd_var (pv 1))) (nomark _)) (pd_one (pd_cmp op_eq l_eq (pd_fld (c := 2) (k := 1) (T.cl "Matrix") (T.no "Matrix" "bottom") fk_Matrix_bottom (pd_var (pv 0))) (pd_fld (c := 2) (k := 1) (T.cl "Matrix") (T.no "Matrix" "bottom") fk_Matrix_bottom (pd_var (pv 1))) (nomark _)))))), fun ds Q ex h => ?_⟩)
  · obtain ⟨A, b, h, w, rfl, _⟩ := h
    rfl
  · obtain ⟨A, b, hh, w, rfl, q⟩ := h
    have o1 := okD_MX A
    have er : eqD (tR A) (tR A) = true := eqD_refl o1
    walk_at "go"
    rw [er]
    walk_at "go"
    rw [decide_eq_true (rfl : b = b)]
    exact q

theorem fn_Matrix_getitem (T : Txt LL K mg) (M : Mo3 cs sms cis mxs exs K mg) : Nonempty (Fn P w K mg base (d_Matrix_getitem.at_ K) 6 2 P_Matrix_getitem) := by
  obtain ⟨⟨F_Ratio_init⟩, ⟨F_Ratio_init_d⟩⟩ := fn_Ratio_init (P := P) (w := w) (base := base) T M
  refine Fn.of (T.d 17 (d := d_Matrix_getitem)) sc_Matrix_getitem rfl (fun _ _ _ _ _ _ us hl => match us, hl with | [_, _], _ => rfl) (fun ds Q ex h => ?_) (fun fd cdv A outer s H E hr => ⟨_, pdss_cons (pds_asg (pd_var (pv 1)) (pdg_tup (n := 2) (by rfl) (pdgs_cons (pdg_name (pg_name (i := 2) sc_Matrix_getitem.nd rfl (by first | exact Or.inl rfl | exact Or.inr rfl))) (pdgs_cons (pdg_name (pg_name (i := 3) sc_Matrix_getitem.nd rfl (by first | exact Or.inl rfl | exact Or.inr rfl))) pdgs_nil)))) (pdss_one (pds_ret (pd_make (c := 0) (T.mkk "Ratio") F_Ratio_init (fun _ _ => .nil) (hr.mono (by decide)) (by rfl) (T.g "Ratio") (takes_of rfl rfl rfl rfl) (pda_cons (pd_ix ix_tup l_ixT (pd_ix ix_tup l_ixT (pd_fld (c := 2) (k := 0) (T.cl "Matrix") (T.no "Matrix" "tops") fk_Matrix_tops (pd_var (pv 0))) (pd_var (pv 2)) (fun _ _ => rfl)) (pd_var (pv 3)) (fun _ _ => rfl)) (pda_cons (pd_fld (c := 2) (k := 1) (T.cl "Matrix") (T.no "Matrix" "bottom") fk_Matrix_bottom (pd_var (pv 0))) pda_nil))))), fun ds Q ex h => ?_⟩)
  · obtain ⟨A, b, i, j, h, w, rfl, _⟩ := h
    rfl
  · obtain ⟨A, b, i, j, hh, w, rfl, sA, i0, i1, j0, j1, hb, hs, q⟩ := h
    obtain ⟨r, e1, e2, e3⟩ := sA.at (i := i.toNat) (j := j.toNat) (by omega) (by omega)
    have a1 : atI (A.map fun r => D.tup (r.map D.int)) i = some (.tup (r.map D.int)) := at_map (f := fun r : List Int => D.tup (r.map D.int)) i0 e1
    have a2 : atI (r.map D.int) j = some (.int (en A i.toNat j.toNat)) := at_map (f := D.int) j0 e3
    have hg : (gs [en A i.toNat j.toNat] b).natAbs < 2 ^ 8999 := Nat.lt_of_le_of_lt (gs_le hb) hs
    walk_at "go"
    exact fun _ => ⟨hg, q⟩

theorem fn_Matrix_trace (T : Txt LL K mg) (M : Mo3 cs sms cis mxs exs K mg) : Nonempty (Fn P w K mg base (d_Matrix_trace.at_ K) 6 1 P_Matrix_trace) := by
  obtain ⟨F_check_square⟩ := fn_check_square (P := P) (w := w) (base := base) T M
  obtain ⟨⟨F_Ratio_init⟩, ⟨F_Ratio_init_d⟩⟩ := fn_Ratio_init (P := P) (w := w) (base := base) T M
  refine Fn.of (T.d 23 (d := d_Matrix_trace)) sc_Matrix_trace rfl (fun _ _ _ _ _ _ us hl => match us, hl with | [_], _ => rfl) (fun ds Q ex h => ?_) (fun fd cdv A outer s H E hr => ⟨_, pdss_cons (pds_expr (pd_call F_check_square (hr.mono (by decide)) (by rfl) (T.g "check_square") (T.k "check_square") (takes_of rfl rfl rfl rfl) (pda_cons (pd_var (pv 0)) pda_nil))) (pdss_one (pds_ret (pd_make (c := 0) (T.mkk "Ratio") F_Ratio_init (fun _ _ => .nil) (hr.mono (by decide)) (by rfl) (T.g "Ratio") (takes_of rfl rfl rfl rfl) (pda_cons (pd_cb (fun h => pe_callB (cr_sum rfl) (by rfl) (T.f "sum") (by decide +kernel) h) l_sum (pda_cons (pd_new (pdn_lc (own := [("i", 1), ("row", 2)]) rfl sc_Matrix_trace.nd (pdi_enumT rfl (T.f "enumerate") (pda_cons (pd_fld (c := 2) (k := 0) (T.cl "Matrix") (T.no "Matrix" "tops") fk_Matrix_tops (pd_var (pv 0))) pda_nil)) (blkOk_by (N := ["self", "i", "row"]) (sc := defScope s_Matrix_trace) (by decide +kernel)) (by decide) (fun _ _ _ _ _ => (pdg_tup (n := 2) (by rfl) (pdgs_cons (pdg_name (pg_name (i := 1) sc_Matrix_trace.nd rfl (by first | exact Or.inl rfl | exact Or.inr rfl))) (pdgs_cons (pdg_name (pg_name (i := 2) sc_Matrix_trace.nd rfl (by first | exact Or.inl rfl | exact Or.inr rfl))) pdgs_nil)))) (fun _ _ _ _ _ => pdts_nil) (fun _ _ _ _ _ => pd_ix ix_tup l_ixT (pd_var (pv 2)) (pd_var (pv 1)) (fun _ _ => rfl)))) pda_nil)) (pda_cons (pd_fld (c := 2) (k := 1) (T.cl "Matrix") (T.no "Matrix" "bottom") fk_Matrix_bottom (pd_var (pv 0))) pda_nil))))), fun ds Q ex h => ?_⟩)
  · obtain ⟨A, b, n, rfl, _⟩ := h
    rfl
  · obtain ⟨A, b, n, rfl, sA, hn, hb, hs, q⟩ := h
    have lA : A.length = n := sA.1
    have el : (enumD (A.map fun r => D.tup (r.map D.int))).length = n := by rw [enumD_len, List.length_map, lA]
    have es : (enumD (A.map fun r => D.tup (r.map D.int))).length < sizeLine := by rw [el]; exact sz100 (by omega)
    have hg : (gs [traI A] b).natAbs < 2 ^ 8999 := Nat.lt_of_le_of_lt (gs_le hb) hs
    walk_at "go"
    refine ⟨fun i z => ∃ y, ((List.range A.length).map fun i => en A i i)[i]? = some y ∧ z = some (.int y), ?_, ?_⟩
    · rintro i x hx
      obtain ⟨d, hd, rfl⟩ := enum_of hx
      obtain ⟨r, hr, rfl⟩ := map_at hd
      have hi : i < n := by
        have := (List.getElem?_eq_some_iff.mp hr).1
        omega
      obtain ⟨r', e1, e2, e3⟩ := sA.at hi hi
      rw [hr] at e1
      cases e1
      have a2 : atI (r.map D.int) (i : Int) = some (.int (en A i i)) := at_map (f := D.int) (by omega) (by rw [Int.toNat_natCast]; exact e3)
      walk_at "go"
      exact fun _ => ⟨_, by rw [List.getElem?_map, List.getElem?_range (by omega)]; rfl, rfl⟩
    intro zs hl2 hz
    rw [fm_is (by rw [hl2, el, List.length_map, List.length_range, lA]) hz]
    walk_at "go"
    exact fun _ => ⟨hg, q⟩

theorem fn_Matrix_identity (T : Txt LL K mg) (M : Mo3 cs sms cis mxs exs K mg) : Nonempty (Fn P w K mg base (d_Matrix_identity.at_ K) 7 1 P_Matrix_identity) := by
  obtain ⟨⟨F_Matrix_init⟩, ⟨F_Matrix_init_d⟩⟩ := fn_Matrix_init (P := P) (w := w) (base := base) T M
  refine Fn.of (T.d 24 (d := d_Matrix_identity)) sc_Matrix_identity rfl (fun _ _ _ _ _ _ us hl => match us, hl with | [_], _ => rfl) (fun ds Q ex h => ?_) (fun fd cdv A outer s H E hr => ⟨_, pdss_one (pds_ret (pd_make (c := 2) (T.mkk "Matrix") F_Matrix_init_d dd_Matrix (hr.mono (by decide)) (by rfl) (T.g "Matrix") (takes_of rfl rfl rfl rfl) (pda_cons (pd_new (pdn_lc (own := [("i", 2)]) rfl sc_Matrix_identity.nd (pdi_range1 rfl (T.f "range") (pda_cons (pd_var (pv 0)) pda_nil)) (blkOk_by (N := ["size", "j", "i"]) (sc := defScope s_Matrix_identity) (by decide +kernel)) (by decide) (fun _ _ _ _ _ => (pdg_name (pg_name (i := 2) sc_Matrix_identity.nd rfl (by first | exact Or.inl rfl | exact Or.inr rfl)))) (fun _ _ _ _ _ => pdts_nil) (fun _ _ _ _ _ => pd_new (pdn_lc (own := [("j", 1)]) rfl sc_Matrix_identity.nd (pdi_range1 rfl (T.f "range") (pda_cons (pd_var (pv 0)) pda_nil)) (blkOk_in (N := ["size", "j", "i"]) (by decide +kernel)) (by decide) (fun _ _ _ _ _ => (pdg_name (pg_name (i := 1) sc_Matrix_identity.nd rfl (by first | exact Or.inl rfl | exact Or.inr rfl)))) (fun _ _ _ _ _ => pdts_nil) (fun _ _ _ _ _ => pd_ife (pdt_cmp op_eq l_eq (pd_var (pv 2)) (pd_var (pv 1)) (nomark _)) (pd_int pe_int) (pd_int pe_int)))))) pda_nil))), fun ds Q ex h => ?_⟩)
  · obtain ⟨n, rfl, _⟩ := h
    rfl
  · obtain ⟨n, rfl, n0, n1, q⟩ := h
    have hrl : (rngD 0 (n : Int).toNat).length < sizeLine := by rw [rng_len]; exact sz100 (by omega)
    have g1 : gM (unitM n) 1 = 1 := gs_one' _
    walk_at "go"
    refine ⟨fun i z => ∃ r : List Int, (unitM n)[i]? = some r ∧ z = some (.lst (r.map D.int)), ?_, ?_⟩
    · rintro i x hx
      obtain ⟨hi, rfl⟩ := rng_at hx
      walk_at "go"
      refine ⟨fun j z => ∃ y, ((List.range n).map fun j => if i = j then (1 : Int) else 0)[j]? = some y ∧ z = some (.int y), ?_, ?_⟩
      · rintro j y hy
        obtain ⟨hj, rfl⟩ := rng_at hy
        have e : ((List.range n).map fun j => if i = j then (1 : Int) else 0)[j]? = some (if i = j then (1 : Int) else 0) := by rw [List.getElem?_map, List.getElem?_range (by omega)]; rfl
        walk_at "go"
        by_cases hp : i = j
        · rw [decide_eq_true (show (0 : Int) + (i : Int) = 0 + (j : Int) by omega)]
          rw [if_pos hp] at e
          exact fun _ => ⟨1, e, rfl⟩
        · rw [decide_eq_false (show ¬ (0 : Int) + (i : Int) = 0 + (j : Int) by omega)]
          rw [if_neg hp] at e
          exact fun _ => ⟨0, e, rfl⟩
      intro zs hl2 hz
      rw [fm_is (by rw [hl2, rng_len, List.length_map, List.length_range]; omega) hz]
      exact fun _ => ⟨_, unit_row (by omega), rfl⟩
    intro zs hl2 hz
    rw [fm_is (f := fun r : List Int => D.lst (r.map D.int)) (by rw [hl2, rng_len, (Sh.unit n).1]; omega) hz]
    walk_at "go"
    refine ⟨_, unitM n, 1, n, n, rfl, rows_lst _, Sh.unit n, n0, by omega, n0, by omega, by decide, Nat.one_lt_two_pow (by decide), ?_⟩
    have e1 : mT (unitM n) 1 = unitM n := by
      unfold mT
      rw [g1]
      have e : (fun t : Int => t.fdiv 1) = id := by funext t; exact Int.fdiv_one t
      rw [e]
      simp
    have e2 : mB (unitM n) 1 = 1 := by
      unfold mB
      rw [g1]
      rfl
    rw [e1, e2]
    exact q
end
end K32

namespace DL
open LR
theorem mB_dvd (A : List (List Int)) (b : Int) (hb : b ≠ 0) : mB A b ∣ b := ⟨gM A b, by
  have h : gM A b * mB A b = b := lB_mul A.flatten hb
  rw [Int.mul_comm]
  exact h.symm⟩
theorem abs_pos_dvd {q M : Int} (hM : M ≠ 0) (h : q ∣ M) : q.natAbs ≤ M.natAbs := Nat.le_of_dvd (by omega) (Int.natAbs_dvd_natAbs.mpr h)
/-- products of what is in lowest terms -/
theorem Mx.mul {n k h m w : Nat} {A B : List (List Int)} {b c : Int} (a : Mx n h m A b) (d : Mx k m w B c) : Mx (n + k + 4) h w (mT (mulM A B w) (b * c)) (mB (mulM A B w) (b * c)) ∧ EqM h w (VM (mT (mulM A B w) (b * c)) (mB (mulM A B w) (b * c))) (mulR m (VM A b) (VM B c)) ∧ mB (mulM A B w) (b * c) ∣ b * c := by
  have hbc : b * c ≠ 0 := Int.mul_ne_zero a.ne d.ne
  refine ⟨low_mx a.sh.mul a.h0 a.h1 d.w0 d.w1 hbc (BdM.mul a.sh (by have := a.w1; omega) a.bd d.bd) (abs_up (abs_mul_lt a.sb d.sb) (by omega)), ?_, mB_dvd _ _ hbc⟩
  exact (V_low a.sh.mul hbc).trans (V_mul a.sh d.sh a.ne d.ne)
theorem Mx.add {n k h w : Nat} {A B : List (List Int)} {b c : Int} (a : Mx n h w A b) (d : Mx k h w B c) : Mx (n + k + 1) h w (mT (addM A b B c) (b * c)) (mB (addM A b B c) (b * c)) ∧ EqM h w (VM (mT (addM A b B c) (b * c)) (mB (addM A b B c) (b * c))) (addR (VM A b) (VM B c)) ∧ mB (addM A b B c) (b * c) ∣ b * c := by
  have hbc : b * c ≠ 0 := Int.mul_ne_zero a.ne d.ne
  refine ⟨low_mx (a.sh.add d.sh) a.h0 a.h1 a.w0 a.w1 hbc (BdM.add a.bd d.bd a.sb d.sb) (abs_up (abs_mul_lt a.sb d.sb) (by omega)), ?_, mB_dvd _ _ hbc⟩
  exact (V_low (a.sh.add d.sh) hbc).trans (V_add a.sh d.sh a.ne d.ne)
theorem Mx.scl {n k h w : Nat} {A : List (List Int)} {b t c : Int} (a : Mx n h w A b) (hc : c ≠ 0) (ht : t.natAbs < 2 ^ k) (hs : c.natAbs < 2 ^ k) : Mx (n + k) h w (mT (sclM A t) (b * c)) (mB (sclM A t) (b * c)) ∧ EqM h w (VM (mT (sclM A t) (b * c)) (mB (sclM A t) (b * c))) (sclR ((t : Rat) / (c : Rat)) (VM A b)) ∧ mB (sclM A t) (b * c) ∣ b * c := by
  have hbc : b * c ≠ 0 := Int.mul_ne_zero a.ne hc
  refine ⟨low_mx (a.sh.scl t) a.h0 a.h1 a.w0 a.w1 hbc (BdM.scl a.bd ht) (abs_mul_lt a.sb hs), ?_, mB_dvd _ _ hbc⟩
  exact (V_low (a.sh.scl t) hbc).trans (V_scl a.sh a.ne hc)
theorem Mx.unit {n : Nat} (h0 : 0 < n) (h1 : n ≤ 12) : Mx 1 n n (unitM n) 1 := ⟨Sh.unit n, h0, h1, h0, h1, by decide, by
  have h := gs_one' (unitM n).flatten
  unfold gs at h
  rw [if_pos (by decide)] at h
  omega, BdM.unit n, by decide⟩
theorem addR_congr {n m : Nat} {A B A' B' : QM} (h : EqM n m A A') (k : EqM n m B B') : EqM n m (addR A B) (addR A' B') := fun i j hi hj => by
  show A i j + B i j = A' i j + B' i j
  rw [h i j hi hj, k i j hi hj]
theorem sclR_congr {n m : Nat} {A A' : QM} (c : Rat) (h : EqM n m A A') : EqM n m (sclR c A) (sclR c A') := fun i j hi hj => by
  show c * A i j = c * A' i j
  rw [h i j hi hj]
/-- the value of a polynomial, its leading number first -/
def hornR (n : Nat) (A : QM) : List Int → QM → QM
  | [], V => V
  | t :: us, V => hornR n A us (addR (mulR n V A) (sclR (t : Rat) oneR))
def zeroR : QM := fun _ _ => 0
theorem hornR_snoc (n : Nat) (A : QM) : ∀ (us : List Int) (t : Int) (V : QM), hornR n A (us ++ [t]) V = addR (mulR n (hornR n A us V) A) (sclR (t : Rat) oneR)
  | [], _, _ => rfl
  | u :: us, t, V => by
    show hornR n A (us ++ [t]) _ = _
    rw [hornR_snoc n A us t]
    rfl
theorem hornR_congr {n : Nat} {A B : QM} (h : EqM n n A B) : ∀ (us : List Int) {V W : QM}, EqM n n V W → EqM n n (hornR n A us V) (hornR n B us W)
  | [], _, _, k => k
  | t :: us, _, _, k => hornR_congr h us (addR_congr (mulR_congr k h) (.refl _))
theorem powR_congr {n : Nat} {A B : QM} (h : EqM n n A B) : ∀ k, EqM n n (powR n A k) (powR n B k)
  | 0 => .refl _
  | k + 1 => mulR_congr h (powR_congr h k)
/-- two in lowest terms that stand for the same are the same -/
theorem Mx.uniq {n k h w : Nat} {A B : List (List Int)} {b c : Int} (a : Mx n h w A b) (d : Mx k h w B c) (e : EqM h w (VM A b) (VM B c)) : A = B ∧ b = c := by
  have r1 := rat_ne a.ne
  have r2 := rat_ne d.ne
  have key : ∀ i j, i < h → j < w → c * en A i j = b * en B i j := fun i j hi hj => by
    have h1 : (en A i j : Rat) / (b : Rat) = (en B i j : Rat) / (c : Rat) := e i j hi hj
    have h2 : (c : Rat) * (en A i j : Rat) = (b : Rat) * (en B i j : Rat) := by grind
    exact_mod_cast h2
  have rows : (A.map fun r => r.map fun t => c * t) = B.map fun r => r.map fun t => b * t := by
    refine List.ext_getElem? fun i => ?_
    rw [List.getElem?_map, List.getElem?_map]
    by_cases hi : i < h
    · have eA : A[i]? = some (A[i]'(by rw [a.sh.1]; exact hi)) := List.getElem?_eq_getElem _
      have eB : B[i]? = some (B[i]'(by rw [d.sh.1]; exact hi)) := List.getElem?_eq_getElem _
      generalize A[i]'(by rw [a.sh.1]; exact hi) = r at eA
      generalize B[i]'(by rw [d.sh.1]; exact hi) = s at eB
      have lr := a.sh.2 r (List.mem_of_getElem? eA)
      have ls := d.sh.2 s (List.mem_of_getElem? eB)
      rw [eA, eB]
      refine congrArg some (List.ext_getElem? fun j => ?_)
      rw [List.getElem?_map, List.getElem?_map]
      by_cases hj : j < w
      · have eu : r[j]? = some (r[j]'(by rw [lr]; exact hj)) := List.getElem?_eq_getElem _
        have ev : s[j]? = some (s[j]'(by rw [ls]; exact hj)) := List.getElem?_eq_getElem _
        rw [eu, ev]
        have := key i j hi hj
        rw [en_of eA eu, en_of eB ev] at this
        exact congrArg some this
      · rw [List.getElem?_eq_none (by omega), List.getElem?_eq_none (by omega)]
        rfl
    · rw [List.getElem?_eq_none (by rw [a.sh.1]; omega), List.getElem?_eq_none (by rw [d.sh.1]; omega)]
      rfl
  have flat : A.flatten.map (fun t => c * t) = B.flatten.map fun t => b * t := by
    rw [List.map_flatten, List.map_flatten]
    exact congrArg List.flatten rows
  obtain ⟨_, e2⟩ := low_cross a.ne d.ne flat
  have g1 : gs A.flatten b = 1 := a.g1
  have g2 : gs B.flatten c = 1 := d.g1
  have e3 : lB A.flatten b = b := by unfold lB; rw [g1]; exact Int.fdiv_one b
  have e4 : lB B.flatten c = c := by unfold lB; rw [g2]; exact Int.fdiv_one c
  rw [e3, e4] at e2
  subst e2
  refine ⟨?_, rfl⟩
  have inj : ∀ r s : List Int, r.map (fun t => b * t) = s.map (fun t => b * t) → r = s := fun r s h => by
    have := congrArg (List.map fun t => t.fdiv b) h
    rw [List.map_map, List.map_map] at this
    have e5 : ((fun t : Int => t.fdiv b) ∘ fun t => b * t) = id := by
      funext t
      exact fdiv_of a.ne
    rw [e5, List.map_id, List.map_id] at this
    exact this
  refine List.ext_getElem? fun i => ?_
  have hi := congrArg (fun l : List (List Int) => l[i]?) rows
  simp only [List.getElem?_map] at hi
  cases e1 : A[i]? with
  | none =>
    rw [e1] at hi
    cases e2 : B[i]? with
    | none => rfl
    | some s => rw [e2] at hi; cases hi
  | some r =>
    rw [e1] at hi
    cases e2 : B[i]? with
    | none => rw [e2] at hi; cases hi
    | some s =>
      rw [e2] at hi
      rw [inj r s (Option.some.inj hi)]
end DL

namespace K32
open PySem PySem.Spec PyProof.Rows L2 LR DL
section
variable {P : Program} {w : World} {K : PySem.W.Frag} {mg : Str → Option Value} {base : Heap}
local macro_rules | `(tactic| walk_at "side") => `(tactic| first | rfl | assumption | exact ⟨_, rfl⟩ | omega | exact mulL (by omega) (by omega) | exact mulR (by omega) (by omega) | exact mulF (by decide) (by decide) | exact ⟨by decide, by decide +kernel⟩ | decide | exact Nat.le_of_ble_eq_true rfl | (simp only [List.length_cons, List.length_nil, List.length_map, List.nil_append, List.cons_append, sizeLine_eq]; omega) | (simp only [List.map_cons, List.map_nil, List.nil_append, List.cons_append]; decide +kernel))
local macro_rules | `(tactic| walk_at "go") => `(tactic| repeat (first
  | refine ⟨_, rfl, ?_⟩
  | refine ⟨_, _, rfl, rfl, ?_⟩
  | refine ⟨_, _, rfl, ?_⟩
  | refine ⟨_, _, _, rfl, rfl, ?_⟩
  | refine ⟨_, _, _, rfl, ?_⟩
  | refine ⟨_, _, _, _, rfl, rfl, ?_⟩
  | refine ⟨_, _, _, _, rfl, ?_⟩
  | refine ⟨_, _, rfl, by assumption, ?_⟩
  | refine ⟨_, _, _, rfl, rfl, rfl, ?_⟩
  | refine ⟨_, _, _, rfl, rfl, by assumption, ?_⟩
  | refine ⟨_, _, _, rfl, rfl, by walk_at "side", by assumption, ?_⟩
  | refine ⟨_, _, _, rfl, rfl, by walk_at "side", rfl, ?_⟩
  | refine ⟨_, _, _, rfl, rfl, rfl, by assumption, ?_⟩
  | refine .inl ⟨_, rfl, ?_⟩
  | refine .inr ⟨_, rfl, ?_⟩
  | refine .inr (.inl ⟨_, rfl, ?_⟩)
  | refine .inr (.inr ⟨_, rfl, ?_⟩)
  | refine ⟨_, .inl rfl, ?_⟩
  | refine ⟨_, .inr rfl, ?_⟩
  | refine ⟨_, (by assumption : _ ∨ _), ?_⟩
  | refine .inr ⟨_, _, rfl, ?_⟩
  | refine .inl ⟨_, _, rfl, ?_⟩
  | refine And.intro (by walk_at "side") ?_))


/-- powers of A -/
def PwOk (K n : Nat) (A : List (List Int)) (b : Int) (i : Nat) (p : List (List Int) × Int) : Prop := Mx (1 + i * (K + 4)) n n p.1 p.2 ∧ EqM n n (VM p.1 p.2) (powR n (VM A b) i) ∧ p.2 ∣ b ^ i
def P_powers : Prm := fun ds Q _ => ∃ (A : List (List Int)) (b : Int) (n k K : Nat), ds = [MX A b n n, MX (unitM n) 1 n n, .int k] ∧ Mx K n n A b ∧ k ≤ 12 ∧ K ≤ 3900 ∧ k * (K + 4) ≤ 3900 ∧ ∀ ps : List (List (List Int) × Int), ps.length = k → (∀ (i : Nat) p, ps[i]? = some p → PwOk K n A b i p) → Q (.tup (ps.map fun p => MX p.1 p.2 n n))
def P_matrix_powers : Prm := fun ds Q _ => ∃ (A : List (List Int)) (b : Int) (n k K : Nat), ds = [MX A b n n, .int k] ∧ Mx K n n A b ∧ k ≤ 12 ∧ K ≤ 3900 ∧ k * (K + 4) ≤ 3900 ∧ ∀ ps : List (List (List Int) × Int), ps.length = k → (∀ (i : Nat) p, ps[i]? = some p → PwOk K n A b i p) → Q (.tup (ps.map fun p => MX p.1 p.2 n n))
/-- the value of a polynomial at A -/
def polR (n : Nat) (ts : List Int) (c : Int) (A : QM) : QM := sclR ((1 : Rat) / (c : Rat)) (hornR n A ts.reverse zeroR)
structure ValOk (K Kp n : Nat) (ts : List Int) (c : Int) (A : List (List Int)) (b : Int) (p : List (List Int) × Int) : Prop where
  mx : Mx (2 + ts.length * (K + Kp + 6) + Kp) n n p.1 p.2
  val : EqM n n (VM p.1 p.2) (polR n ts c (VM A b))
  dvd : p.2 ∣ b ^ ts.length * c
structure PlOk (Kp : Nat) (ts : List Int) (c : Int) : Prop where
  pos : 0 < c
  sc : c.natAbs < 2 ^ Kp
  bd : Bd Kp ts
  one : 1 ≤ Kp
def P_value : Prm := fun ds Q _ => ∃ (ts : List Int) (c : Int) (A : List (List Int)) (b : Int) (n K Kp : Nat), ds = [PO ts c, MX A b n n, MX (unitM n) 1 n n] ∧ Mx K n n A b ∧ PlOk Kp ts c ∧ ts.length ≤ 4000 ∧ K ≤ 3900 ∧ Kp ≤ 3900 ∧ 2 + ts.length * (K + Kp + 6) + Kp ≤ 3900 ∧ ∀ p, ValOk K Kp n ts c A b p → Q (MX p.1 p.2 n n)
def P_Poly_call : Prm := fun ds Q _ => ∃ (ts : List Int) (c : Int) (A : List (List Int)) (b : Int) (n K Kp : Nat), ds = [PO ts c, MX A b n n] ∧ Mx K n n A b ∧ PlOk Kp ts c ∧ ts.length ≤ 4000 ∧ K ≤ 3900 ∧ Kp ≤ 3900 ∧ 2 + ts.length * (K + Kp + 6) + Kp ≤ 3900 ∧ ∀ p, ValOk K Kp n ts c A b p → Q (MX p.1 p.2 n n)
theorem pw_one {K n : Nat} {A : List (List Int)} {b : Int} (h0 : 0 < n) (h1 : n ≤ 12) : PwOk K n A b 0 (unitM n, 1) := ⟨(Mx.unit h0 h1).up (by omega), V_unit n, Int.one_dvd _⟩
theorem pw_step {K n i : Nat} {A : List (List Int)} {b : Int} {p : List (List Int) × Int} (a : Mx K n n A b) (h : PwOk K n A b i p) : PwOk K n A b (i + 1) (mT (mulM A p.1 n) (b * p.2), mB (mulM A p.1 n) (b * p.2)) := by
  obtain ⟨h1, h2, h3⟩ := h
  obtain ⟨m1, m2, m3⟩ := a.mul h1
  refine ⟨m1.up (by rw [Nat.succ_mul]; omega), m2.trans (mulR_congr (.refl _) h2), Int.dvd_trans m3 ?_⟩
  rw [Int.pow_succ, Int.mul_comm]
  exact Int.mul_dvd_mul h3 (Int.dvd_refl b)

structure HnOk (K Kp n i : Nat) (us : List Int) (A : List (List Int)) (b : Int) (p : List (List Int) × Int) : Prop where
  mx : Mx (2 + i * (K + Kp + 6)) n n p.1 p.2
  val : EqM n n (VM p.1 p.2) (hornR n (VM A b) us zeroR)
  dvd : p.2 ∣ b ^ i
theorem rat_div1 (t : Int) : (t : Rat) / ((1 : Int) : Rat) = (t : Rat) := by
  have : ((1 : Int) : Rat) = 1 := rfl
  rw [this]
  grind
theorem hn_start {K Kp n : Nat} {A : List (List Int)} {b : Int} (h0 : 0 < n) (h1 : n ≤ 12) : HnOk K Kp n 0 [] A b (mT (sclM (unitM n) 0) (1 * 1), mB (sclM (unitM n) 0) (1 * 1)) := by
  obtain ⟨m1, m2, m3⟩ := (Mx.unit h0 h1).scl (k := 1) (t := 0) (c := 1) (by decide) (by decide) (by decide)
  refine ⟨m1.up (by omega), m2.trans fun i j hi hj => ?_, by rw [Int.pow_zero]; exact m3⟩
  show ((0 : Int) : Rat) / ((1 : Int) : Rat) * VM (unitM n) 1 i j = 0
  rw [rat_div1]
  have : ((0 : Int) : Rat) = 0 := rfl
  rw [this]
  grind
theorem hn_step {K Kp n i : Nat} {us : List Int} {A : List (List Int)} {b t : Int} {p : List (List Int) × Int} (a : Mx K n n A b) (hk : 1 ≤ Kp) (ht : t.natAbs < 2 ^ Kp) (h : HnOk K Kp n i us A b p) :
    Mx (2 + i * (K + Kp + 6) + K + 4) n n (mT (mulM p.1 A n) (p.2 * b)) (mB (mulM p.1 A n) (p.2 * b)) ∧ Mx (1 + Kp) n n (mT (sclM (unitM n) t) (1 * 1)) (mB (sclM (unitM n) t) (1 * 1)) ∧
    HnOk K Kp n (i + 1) (us ++ [t]) A b (mT (addM (mT (mulM p.1 A n) (p.2 * b)) (mB (mulM p.1 A n) (p.2 * b)) (mT (sclM (unitM n) t) (1 * 1)) (mB (sclM (unitM n) t) (1 * 1))) (mB (mulM p.1 A n) (p.2 * b) * mB (sclM (unitM n) t) (1 * 1)),
      mB (addM (mT (mulM p.1 A n) (p.2 * b)) (mB (mulM p.1 A n) (p.2 * b)) (mT (sclM (unitM n) t) (1 * 1)) (mB (sclM (unitM n) t) (1 * 1))) (mB (mulM p.1 A n) (p.2 * b) * mB (sclM (unitM n) t) (1 * 1))) := by
  obtain ⟨h1, h2, h3⟩ := h
  obtain ⟨m1, m2, m3⟩ := h1.mul a
  have one_lt : (1 : Int).natAbs < 2 ^ Kp := Nat.one_lt_two_pow (by omega)
  obtain ⟨u1, u2, u3⟩ := (Mx.unit a.h0 a.h1).scl (k := Kp) (t := t) (c := 1) (by decide) ht one_lt
  obtain ⟨s1, s2, s3⟩ := m1.add u1
  refine ⟨m1.up (by omega), u1, s1.up (by rw [Nat.succ_mul]; omega), ?_, ?_⟩
  · rw [hornR_snoc]
    refine s2.trans (addR_congr (m2.trans (mulR_congr h2 (.refl _))) (u2.trans ?_))
    rw [rat_div1]
    exact sclR_congr _ (V_unit n)
  · refine Int.dvd_trans s3 ?_
    rw [Int.pow_succ]
    have d1 : mB (mulM p.1 A n) (p.2 * b) ∣ b ^ i * b := Int.dvd_trans m3 (Int.mul_dvd_mul h3 (Int.dvd_refl b))
    have d2 : mB (sclM (unitM n) t) (1 * 1) ∣ 1 := u3
    have := Int.mul_dvd_mul d1 d2
    rw [Int.mul_one (b ^ i * b)] at this
    exact this
theorem hn_end {K Kp n i : Nat} {us : List Int} {A : List (List Int)} {b c : Int} {p : List (List Int) × Int} (c0 : 0 < c) (hk : 1 ≤ Kp) (hc : c.natAbs < 2 ^ Kp) (h : HnOk K Kp n i us A b p) :
    Mx (2 + i * (K + Kp + 6) + Kp) n n (mT (sclM p.1 1) (p.2 * c)) (mB (sclM p.1 1) (p.2 * c)) ∧ EqM n n (VM (mT (sclM p.1 1) (p.2 * c)) (mB (sclM p.1 1) (p.2 * c))) (sclR ((1 : Rat) / (c : Rat)) (hornR n (VM A b) us zeroR)) ∧ mB (sclM p.1 1) (p.2 * c) ∣ b ^ i * c := by
  obtain ⟨h1, h2, h3⟩ := h
  obtain ⟨u1, u2, u3⟩ := h1.scl (k := Kp) (t := 1) (c := c) (by omega) (Nat.one_lt_two_pow (by omega)) hc
  exact ⟨u1, u2.trans (sclR_congr _ h2), Int.dvd_trans u3 (Int.mul_dvd_mul h3 (Int.dvd_refl c))⟩
theorem nrm1 {c : Int} (h : 0 < c) : Nrm 1 c := ⟨h, Nat.gcd_one_right _⟩

theorem fn_from_rows (T : Txt LL K mg) (M : Mo3 cs sms cis mxs exs K mg) : Nonempty (Fn P w K mg base (d_from_rows.at_ K) 7 1 P_from_rows) := by
  obtain ⟨F_common_bottom⟩ := fn_common_bottom (P := P) (w := w) (base := base) T M
  obtain ⟨⟨F_Matrix_init⟩, ⟨F_Matrix_init_d⟩⟩ := fn_Matrix_init (P := P) (w := w) (base := base) T M
  refine Fn.of (T.d 25 (d := d_from_rows)) sc_from_rows rfl (fun _ _ _ _ _ _ us hl => match us, hl with | [_], _ => rfl) (fun ds Q ex h => ?_) (fun fd cdv A outer s H E hr => ⟨_, pdss_cons (pds_set (i := 1) sc_from_rows.nd rfl (by first | exact Or.inl rfl | exact Or.inr rfl) (pd_call F_common_bottom (hr.mono (by decide)) (by rfl) (T.g "common_bottom") (T.k "common_bottom") (takes_of rfl rfl rfl rfl) (pda_cons (pd_new (pdn_lc (own := [("vector", 2)]) rfl sc_from_rows.nd (pdi_list (pd_var (pv 0))) (blkOk_by (N := ["vectors", "bottom", "vector", "rows", "top"]) (sc := defScope s_from_rows) (by decide +kernel)) (by decide) (fun _ _ _ _ _ => (pdg_name (pg_name (i := 2) sc_from_rows.nd rfl (by first | exact Or.inl rfl | exact Or.inr rfl)))) (fun _ _ _ _ _ => pdts_nil) (fun _ _ _ _ _ => pd_fld (c := 1) (k := 1) (T.cl "Vector") (T.no "Vector" "bottom") fk_Vector_bottom (pd_var (pv 2))))) pda_nil))) (pdss_cons (pds_lcV (i := 3) (own := [("vector", 2)]) rfl sc_from_rows.nd rfl rfl (sw_true rfl rfl rfl (by decide +kernel)) (pdi_list (pd_var (pv 0))) (blkOk_by (N := ["vectors", "bottom", "vector", "rows", "top"]) (sc := defScope s_from_rows) (by decide +kernel)) (by decide) (fun _ _ _ _ _ => (pdg_name (pg_name (i := 2) sc_from_rows.nd rfl (by first | exact Or.inl rfl | exact Or.inr rfl)))) (fun _ _ _ _ _ => pdts_nil) (fun _ _ _ _ _ => pd_new (pdn_lc (own := [("top", 4)]) rfl sc_from_rows.nd (pdi_tup (pd_fld (c := 1) (k := 0) (T.cl "Vector") (T.no "Vector" "tops") fk_Vector_tops (pd_var (pv 2)))) (blkOk_in (N := ["vectors", "bottom", "vector", "rows", "top"]) (by decide +kernel)) (by decide) (fun _ _ _ _ _ => (pdg_name (pg_name (i := 4) sc_from_rows.nd rfl (by first | exact Or.inl rfl | exact Or.inr rfl)))) (fun _ _ _ _ _ => pdts_nil) (fun _ _ _ _ _ => pd_op op_mulZ l_I (pd_var (pv 4)) (pd_op op_fdivZ l_I (pd_var (pv 1)) (pd_fld (c := 1) (k := 1) (T.cl "Vector") (T.no "Vector" "bottom") fk_Vector_bottom (pd_var (pv 2)))))))) (pdss_one (pds_ret (pd_make (c := 2) (T.mkk "Matrix") F_Matrix_init (fun _ _ => .nil) (hr.mono (by decide)) (by rfl) (T.g "Matrix") (takes_of rfl rfl rfl rfl) (pda_cons (pd_var (pv 3)) (pda_cons (pd_var (pv 1)) pda_nil)))))), fun ds Q ex h => ?_⟩)
  · obtain ⟨vs, M, h, w, rfl, _⟩ := h
    rfl
  · obtain ⟨vs, M, hh, w, rfl, ⟨hM, hs, hl, h0, h1, w0, w1, ho⟩, q⟩ := h
    walk_at "go"
    refine ⟨fun i z => ∃ p : List Int × Int, vs[i]? = some p ∧ z = some (.int p.2), ?_, ?_⟩
    · rintro i x hx
      obtain ⟨p, hp, rfl⟩ := map_at hx
      walk_at "go"
      exact fun _ => ⟨p, hp, rfl⟩
    intro zs hl2 hz
    rw [fm_is (f := fun p : List Int × Int => D.int p.2) (l := vs) (by rw [hl2, List.length_map]) hz, show (vs.map fun p => D.int p.2) = (vs.map fun p => p.2).map D.int by rw [List.map_map]; rfl]
    have hs2 : M.natAbs < 2 ^ 8999 := abs_up hs (by decide)
    have ho2 : ∀ z ∈ vs.map fun p => p.2, 0 < z ∧ z ∣ M := fun z hz => by
      obtain ⟨p, hp, rfl⟩ := List.mem_map.mp hz
      exact ⟨(ho p hp).2.1, (ho p hp).2.2.1⟩
    walk_at "go"
    refine fun m m0 m1 m2 => ?_
    have m3 : ∀ p ∈ vs, p.2 ∣ m := fun p hp => m2 p.2 (List.mem_map.mpr ⟨p, hp, rfl⟩)
    have q := q m m0 m1 m3
    have sm : m.natAbs < 2 ^ 8999 := abs_up (dvd_abs hM hs m0 m1) (by decide)
    walk_at "go"
    refine ⟨fun i z => ∃ r : List Int, (rowsT vs m)[i]? = some r ∧ z = some (.lst (r.map D.int)), ?_, ?_⟩
    · rintro i x hx
      obtain ⟨p, hp, rfl⟩ := map_at hx
      obtain ⟨p0, p1, p2, p3⟩ := ho p (List.mem_of_getElem? hp)
      have hd : CDivZ m p.2 := divZ (b := 8900) (by omega) (dvd_abs hM hs p1 p2) (by decide) (by decide)
      have hf : (m.fdiv p.2).natAbs < 2 ^ 9000 := Nat.lt_of_le_of_lt (Int.natAbs_fdiv_le_natAbs _ _) (abs_up sm (by decide))
      walk_at "go"
      refine ⟨fun j z => ∃ y, (p.1.map fun t => t * m.fdiv p.2)[j]? = some y ∧ z = some (.int y), ?_, ?_⟩
      · rintro j y hy
        obtain ⟨t, ht, rfl⟩ := map_at hy
        have hm : IntMulOk t (m.fdiv p.2) := mulBig (abs_up (p3 t (List.mem_of_getElem? ht)) (by decide)) hf
        walk_at "go"
        exact fun _ => ⟨_, by rw [List.getElem?_map, ht]; rfl, rfl⟩
      intro zs hl3 hz3
      rw [fm_is (by rw [hl3, List.length_map, List.length_map]) hz3]
      exact fun _ => ⟨_, rowsT_row hp, rfl⟩
    intro zs hl3 hz3
    rw [fm_is (f := fun r : List Int => D.lst (r.map D.int)) (by rw [hl3, List.length_map]; unfold rowsT; rw [List.length_map]) hz3]
    walk_at "go"
    refine ⟨_, rowsT vs m, m, hh, w, rfl, rows_lst _, ⟨by unfold rowsT; rw [List.length_map]; exact hl, fun r hr => ?_⟩, h0, by omega, w0, by omega, by omega, sm, q⟩
    obtain ⟨p, hp, rfl⟩ := List.mem_map.mp hr
    rw [List.length_map]
    exact (ho p hp).1

theorem fn_powers (T : Txt LL K mg) (M : Mo3 cs sms cis mxs exs K mg) : Nonempty (Fn P w K mg base (d_powers.at_ K) 10 3 P_powers) := by
  obtain ⟨F_Matrix_mul⟩ := fn_Matrix_mul (P := P) (w := w) (base := base) T M
  refine Fn.of (T.d 34 (d := d_powers)) sc_powers rfl (fun _ _ _ _ _ _ us hl => match us, hl with | [_, _, _], _ => rfl) (fun ds Q ex h => ?_) (fun fd cdv A outer s H E hr => ⟨_, pdss_cons (pds_setN (i := 3) sc_powers.nd rfl (by first | exact Or.inl rfl | exact Or.inr rfl) (pdn_lst pda_nil)) (pdss_cons (pds_set (i := 4) sc_powers.nd rfl (by first | exact Or.inl rfl | exact Or.inr rfl) (pd_var (pv 1))) (pdss_cons (pds_for (passes_of rfl) rfl (pdi_range1 rfl (T.f "range") (pda_cons (pd_var (pv 2)) pda_nil)) (pdg_name (pg_name (i := 5) sc_powers.nd rfl (by first | exact Or.inl rfl | exact Or.inr rfl))) (pdss_cons (pds_app (i := 3) (te := id) (p1 := ⟨0, 0, 0, 0⟩) (p2 := ⟨0, 0, 0, 0⟩) (p3 := ⟨0, 0, 0, 0⟩) (x := "") (fun h => pe_bm PySem.F.plainAttrs_list PySem.F.slot_list_append PySem.F.type_list_append mt_append (pv 3) (pa_cons h pa_nil)) (pd_var (pv 4))) (pdss_one (pds_set (i := 4) sc_powers.nd rfl (by first | exact Or.inl rfl | exact Or.inr rfl) (pd_mixO (op := .Mult) (c := 2) (M.mx "mul" [0, 2]) (by decide) (by rw [dm_Mult]; exact T.own "Matrix" "__mul__") (T.fnn "Matrix" "__mul__") F_Matrix_mul (hr.mono (by decide)) (takes_of rfl rfl rfl rfl) (pd_var (pv 0)) (pd_var (pv 4))))))) (pdss_frz 3 (pdss_one (pds_ret (pd_cb (fun h => pe_callTy call_tuple_of (by rfl) (T.f "tuple") (by decide +kernel) h) l_tuple (pda_cons (pd_var (pv 3)) pda_nil))))))), fun ds Q ex h => ?_⟩)
  · obtain ⟨A, b, n, k, K, rfl, _⟩ := h
    rfl
  · obtain ⟨A, b, n, k, K, rfl, hA, hk, hK, hkk, q⟩ := h
    have n0 := hA.h0
    have n1 := hA.h1
    walk_at "go"
    refine ⟨fun i env => ∃ (ps : List (List (List Int) × Int)) (p : List (List Int) × Int) (u : Sl), env = [.val (MX A b n n), .val (MX (unitM n) 1 n n), .val (.int k), .own (ps.map fun p => MX p.1 p.2 n n), .val (MX p.1 p.2 n n), u] ∧ ps.length = i ∧ (∀ (j : Nat) p, ps[j]? = some p → PwOk K n A b j p) ∧ PwOk K n A b i p, fun _ => ⟨[], (unitM n, 1), _, rfl, rfl, fun j p h => by simp at h, pw_one n0 n1⟩, ?_, ?_⟩
    · rintro i x env hx ⟨ps, p, u, rfl, hl, hp, hc⟩
      obtain ⟨hi, rfl⟩ := rng_at hx
      have hi' : i < k := by omega
      have e1 : (ps.map fun p => MX p.1 p.2 n n) ++ [MX p.1 p.2 n n] = (ps ++ [p]).map fun p => MX p.1 p.2 n n := by simp
      have st := pw_step hA hc
      have lim : i * (K + 4) ≤ k * (K + 4) := Nat.mul_le_mul_right _ (Nat.le_of_lt hi')
      walk_at "go"
      refine ⟨A, b, MX p.1 p.2 n n, n, n, rfl, hA.up (by omega), rfl, .inl ⟨p.1, p.2, n, rfl, hc.1.up (by omega), ?_⟩⟩
      refine fun _ => ⟨ps ++ [p], (mT (mulM A p.1 n) (b * p.2), mB (mulM A p.1 n) (b * p.2)), _, by rw [← e1]; rfl, by simp [hl], fun j r hj => ?_, st⟩
      by_cases hjl : j < ps.length
      · rw [List.getElem?_append_left hjl] at hj
        exact hp j r hj
      · rw [List.getElem?_append_right (by omega)] at hj
        have : j - ps.length = 0 := by
          have := (List.getElem?_eq_some_iff.mp hj).1
          simp at this
          omega
        rw [this] at hj
        cases hj
        rw [show j = i by omega]
        exact hc
    · rintro env ⟨ps, p, u, rfl, hl, hp, hc⟩
      rw [rng_len] at hl
      walk_at "go"
      exact q ps (by omega) hp

theorem fn_matrix_powers (T : Txt LL K mg) (M : Mo3 cs sms cis mxs exs K mg) : Nonempty (Fn P w K mg base (d_matrix_powers.at_ K) 11 2 P_matrix_powers) := by
  obtain ⟨F_powers⟩ := fn_powers (P := P) (w := w) (base := base) T M
  obtain ⟨F_Matrix_identity⟩ := fn_Matrix_identity (P := P) (w := w) (base := base) T M
  refine Fn.of (T.d 36 (d := d_matrix_powers)) sc_matrix_powers rfl (fun _ _ _ _ _ _ us hl => match us, hl with | [_, _], _ => rfl) (fun ds Q ex h => ?_) (fun fd cdv A outer s H E hr => ⟨_, pdss_one (pds_ret (pd_call F_powers (hr.mono (by decide)) (by rfl) (T.g "powers") (T.k "powers") (takes_of rfl rfl rfl rfl) (pda_cons (pd_var (pv 0)) (pda_cons (pd_sm (by rfl) (T.g "Matrix") (M.sm "Matrix" "identity") F_Matrix_identity (hr.mono (by decide)) (takes_of rfl rfl rfl rfl) (pda_cons (pd_fld (c := 2) (k := 2) (T.cl "Matrix") (T.no "Matrix" "height") fk_Matrix_height (pd_var (pv 0))) pda_nil)) (pda_cons (pd_var (pv 1)) pda_nil))))), fun ds Q ex h => ?_⟩)
  · obtain ⟨A, b, n, k, K, rfl, _⟩ := h
    rfl
  · obtain ⟨A, b, n, k, K, rfl, hA, hk, hK, hkk, q⟩ := h
    have n0 := hA.h0
    have n1 := hA.h1
    walk_at "go"
    exact ⟨A, b, n, k, K, rfl, hA, hk, hK, hkk, q⟩

theorem fn_value (T : Txt LL K mg) (M : Mo3 cs sms cis mxs exs K mg) : Nonempty (Fn P w K mg base (d_value.at_ K) 10 3 P_value) := by
  obtain ⟨F_Matrix_mul⟩ := fn_Matrix_mul (P := P) (w := w) (base := base) T M
  obtain ⟨⟨F_Ratio_init⟩, ⟨F_Ratio_init_d⟩⟩ := fn_Ratio_init (P := P) (w := w) (base := base) T M
  obtain ⟨F_Matrix_add⟩ := fn_Matrix_add (P := P) (w := w) (base := base) T M
  refine Fn.of (T.d 33 (d := d_value)) sc_value rfl (fun _ _ _ _ _ _ us hl => match us, hl with | [_, _, _], _ => rfl) (fun ds Q ex h => ?_) (fun fd cdv A outer s H E hr => ⟨_, pdss_cons (pds_set (i := 3) sc_value.nd rfl (by first | exact Or.inl rfl | exact Or.inr rfl) (pd_mixO (op := .Mult) (c := 2) (M.mx "mul" [0, 2]) (by decide) (by rw [dm_Mult]; exact T.own "Matrix" "__mul__") (T.fnn "Matrix" "__mul__") F_Matrix_mul (hr.mono (by decide)) (takes_of rfl rfl rfl rfl) (pd_var (pv 2)) (pd_make (c := 0) (T.mkk "Ratio") F_Ratio_init_d dd_Ratio (hr.mono (by decide)) (by rfl) (T.g "Ratio") (takes_of rfl rfl rfl rfl) (pda_cons (pd_int pe_int) pda_nil)))) (pdss_cons (pds_for (passes_of rfl) rfl (pdi_tup (pd_revT (pd_fld (c := 3) (k := 0) (T.cl "Poly") (T.no "Poly" "tops") fk_Poly_tops (pd_var (pv 0))))) (pdg_name (pg_name (i := 4) sc_value.nd rfl (by first | exact Or.inl rfl | exact Or.inr rfl))) (pdss_one (pds_set (i := 3) sc_value.nd rfl (by first | exact Or.inl rfl | exact Or.inr rfl) (pd_mixO (op := .Add) (c := 2) (M.mx "add" [2]) (by decide) (by rw [dm_Add]; exact T.own "Matrix" "__add__") (T.fnn "Matrix" "__add__") F_Matrix_add (hr.mono (by decide)) (takes_of rfl rfl rfl rfl) (pd_mixO (op := .Mult) (c := 2) (M.mx "mul" [0, 2]) (by decide) (by rw [dm_Mult]; exact T.own "Matrix" "__mul__") (T.fnn "Matrix" "__mul__") F_Matrix_mul (hr.mono (by decide)) (takes_of rfl rfl rfl rfl) (pd_var (pv 3)) (pd_var (pv 1))) (pd_mixO (op := .Mult) (c := 2) (M.mx "mul" [0, 2]) (by decide) (by rw [dm_Mult]; exact T.own "Matrix" "__mul__") (T.fnn "Matrix" "__mul__") F_Matrix_mul (hr.mono (by decide)) (takes_of rfl rfl rfl rfl) (pd_var (pv 2)) (pd_make (c := 0) (T.mkk "Ratio") F_Ratio_init_d dd_Ratio (hr.mono (by decide)) (by rfl) (T.g "Ratio") (takes_of rfl rfl rfl rfl) (pda_cons (pd_var (pv 4)) pda_nil))))))) (pdss_one (pds_ret (pd_mixO (op := .Mult) (c := 2) (M.mx "mul" [0, 2]) (by decide) (by rw [dm_Mult]; exact T.own "Matrix" "__mul__") (T.fnn "Matrix" "__mul__") F_Matrix_mul (hr.mono (by decide)) (takes_of rfl rfl rfl rfl) (pd_var (pv 3)) (pd_make (c := 0) (T.mkk "Ratio") F_Ratio_init (fun _ _ => .nil) (hr.mono (by decide)) (by rfl) (T.g "Ratio") (takes_of rfl rfl rfl rfl) (pda_cons (pd_int pe_int) (pda_cons (pd_fld (c := 3) (k := 1) (T.cl "Poly") (T.no "Poly" "bottom") fk_Poly_bottom (pd_var (pv 0))) pda_nil))))))), fun ds Q ex h => ?_⟩)
  · obtain ⟨ts, c, A, b, n, K, Kp, rfl, _⟩ := h
    rfl
  · obtain ⟨ts, c, A, b, n, K, Kp, rfl, hA, ⟨c0, sc, hbd, k1⟩, hl, hK, hKp, hb, q⟩ := h
    have n0 := hA.h0
    have n1 := hA.h1
    have hU := Mx.unit n0 n1
    have rat0 : ∀ t : Int, nT t 1 = t ∧ nB t 1 = 1 := fun t => ⟨nT_nrm (Nrm.one t), nB_nrm (Nrm.one t)⟩
    have g1 : ∀ t : Int, (gs [t] 1).natAbs < 2 ^ 8999 := fun t => by rw [gs_nrm (Nrm.one t)]; exact Nat.one_lt_two_pow (by decide)
    walk_at "go"
    refine fun _ => ⟨g1 0, ?_⟩
    rw [(rat0 0).1, (rat0 0).2]
    walk_at "go"
    refine ⟨unitM n, 1, R 0 1, n, n, rfl, hU.up (by decide), rfl, .inr ⟨0, 1, .inr ⟨rfl, by decide⟩, Nat.two_pow_pos _, Nat.one_lt_two_pow (by decide), ?_⟩⟩
    have er : (ts.map D.int).reverse = ts.reverse.map D.int := List.map_reverse.symm
    walk_at "go"
    rw [er]
    refine ⟨fun i env => ∃ (p : List (List Int) × Int) (u : Sl), env = [.val (PO ts c), .val (MX A b n n), .val (MX (unitM n) 1 n n), .val (MX p.1 p.2 n n), u] ∧ HnOk K Kp n i (ts.reverse.take i) A b p, fun _ => ⟨_, _, rfl, by rw [List.take_zero]; exact hn_start n0 n1⟩, ?_, ?_⟩
    · rintro i x env hx ⟨p, u, rfl, hp⟩
      obtain ⟨t, ht, rfl⟩ := map_at hx
      have hi : i < ts.length := by
        have := (List.getElem?_eq_some_iff.mp ht).1
        simpa using this
      have tb : t.natAbs < 2 ^ Kp := hbd t (List.mem_reverse.mp (List.mem_of_getElem? ht))
      have lim : i * (K + Kp + 6) + (K + Kp + 6) ≤ ts.length * (K + Kp + 6) := by
        rw [← Nat.succ_mul]
        exact Nat.mul_le_mul_right _ hi
      obtain ⟨s1, s2, s3⟩ := hn_step hA k1 tb hp
      walk_at "go"
      refine ⟨p.1, p.2, MX A b n n, n, n, rfl, hp.mx.up (by omega), rfl, .inl ⟨A, b, n, rfl, hA.up (by omega), ?_⟩⟩
      walk_at "go"
      refine fun _ => ⟨g1 t, ?_⟩
      rw [(rat0 t).1, (rat0 t).2]
      walk_at "go"
      refine ⟨unitM n, 1, R t 1, n, n, rfl, hU.up (by decide), rfl, .inr ⟨t, 1, .inr ⟨rfl, by decide⟩, abs_up tb (by omega), Nat.one_lt_two_pow (by decide), ?_⟩⟩
      walk_at "go"
      refine ⟨_, _, _, _, n, n, rfl, s1.up (by omega), s2.up (by omega), ?_⟩
      have et : ts.reverse.take (i + 1) = ts.reverse.take i ++ [t] := by
        have hl2 : i < ts.reverse.length := by rw [List.length_reverse]; exact hi
        rw [List.take_succ_eq_append_getElem hl2, (List.getElem?_eq_some_iff.mp ht).2]
      rw [← et] at s3
      exact fun _ => ⟨_, _, by rfl, s3⟩
    · rintro env ⟨p, u, rfl, hp⟩
      rw [List.length_map, List.length_reverse, show ts.reverse.take ts.length = ts.reverse by rw [List.take_of_length_le]; rw [List.length_reverse]; exact Nat.le_refl _] at hp
      obtain ⟨e1, e2, e3⟩ := hn_end c0 k1 sc hp
      have gc : (gs [1] c).natAbs < 2 ^ 8999 := by rw [gs_nrm (nrm1 c0)]; exact Nat.one_lt_two_pow (by decide)
      walk_at "go"
      refine fun _ => ⟨gc, ?_⟩
      rw [nT_nrm (nrm1 c0), nB_nrm (nrm1 c0)]
      walk_at "go"
      refine ⟨p.1, p.2, R 1 c, n, n, rfl, hp.mx.up (by omega), rfl, .inr ⟨1, c, .inr ⟨rfl, c0⟩, Nat.one_lt_two_pow (by decide), abs_up sc (by omega), ?_⟩⟩
      exact q (mT (sclM p.1 1) (p.2 * c), mB (sclM p.1 1) (p.2 * c)) ⟨e1, e2, e3⟩

theorem fn_Poly_call (T : Txt LL K mg) (M : Mo3 cs sms cis mxs exs K mg) : Nonempty (Fn P w K mg base (d_Poly_call.at_ K) 11 2 P_Poly_call) := by
  obtain ⟨F_check_square⟩ := fn_check_square (P := P) (w := w) (base := base) T M
  obtain ⟨F_value⟩ := fn_value (P := P) (w := w) (base := base) T M
  obtain ⟨F_Matrix_identity⟩ := fn_Matrix_identity (P := P) (w := w) (base := base) T M
  refine Fn.of (T.d 31 (d := d_Poly_call)) sc_Poly_call rfl (fun _ _ _ _ _ _ us hl => match us, hl with | [_, _], _ => rfl) (fun ds Q ex h => ?_) (fun fd cdv A outer s H E hr => ⟨_, pdss_cons (pds_if (pdt_not (pdt_val (pd_isi (cr := (.own 2)) M.isi M.cls (fun c h => by cases h; decide) (fun h => pe_callB call_isi (by rfl) (T.f "isinstance") (by decide +kernel) (pa_cons h (pa_cons (pe_glob (v := .ref (He.ga K "Matrix")) rfl (T.g "Matrix") rfl) pa_nil))) (pd_var (pv 1))))) pdss_never pdss_nil) (pdss_cons (pds_expr (pd_call F_check_square (hr.mono (by decide)) (by rfl) (T.g "check_square") (T.k "check_square") (takes_of rfl rfl rfl rfl) (pda_cons (pd_var (pv 1)) pda_nil))) (pdss_one (pds_ret (pd_call F_value (hr.mono (by decide)) (by rfl) (T.g "_value") (T.k "_value") (takes_of rfl rfl rfl rfl) (pda_cons (pd_var (pv 0)) (pda_cons (pd_var (pv 1)) (pda_cons (pd_sm (by rfl) (T.g "Matrix") (M.sm "Matrix" "identity") F_Matrix_identity (hr.mono (by decide)) (takes_of rfl rfl rfl rfl) (pda_cons (pd_fld (c := 2) (k := 2) (T.cl "Matrix") (T.no "Matrix" "height") fk_Matrix_height (pd_var (pv 1))) pda_nil)) pda_nil))))))), fun ds Q ex h => ?_⟩)
  · obtain ⟨ts, c, A, b, n, K, Kp, rfl, _⟩ := h
    rfl
  · obtain ⟨ts, c, A, b, n, K, Kp, rfl, hA, hP, hl, hK, hKp, hb, q⟩ := h
    have n0 := hA.h0
    have n1 := hA.h1
    walk_at "go"
    exact ⟨ts, c, A, b, n, K, Kp, rfl, hA, hP, hl, hK, hKp, hb, q⟩
end
end K32

namespace K32
open PySem PySem.Spec PyProof.Rows L2 LR DL
section
variable {P : Program} {w : World} {K : PySem.W.Frag} {mg : Str → Option Value} {base : Heap}
local macro_rules | `(tactic| walk_at "side") => `(tactic| first | rfl | assumption | exact ⟨_, rfl⟩ | omega | exact mulL (by omega) (by omega) | exact mulR (by omega) (by omega) | exact mulF (by decide) (by decide) | exact ⟨by decide, by decide +kernel⟩ | decide | exact Nat.le_of_ble_eq_true rfl | (simp only [List.length_cons, List.length_nil, List.length_map, List.nil_append, List.cons_append, sizeLine_eq]; omega) | (simp only [List.map_cons, List.map_nil, List.nil_append, List.cons_append]; decide +kernel))
local macro_rules | `(tactic| walk_at "go") => `(tactic| repeat (first
  | refine ⟨_, rfl, ?_⟩
  | refine ⟨_, _, rfl, rfl, ?_⟩
  | refine ⟨_, _, rfl, ?_⟩
  | refine ⟨_, _, _, rfl, rfl, ?_⟩
  | refine ⟨_, _, _, rfl, ?_⟩
  | refine ⟨_, _, _, _, rfl, rfl, ?_⟩
  | refine ⟨_, _, _, _, rfl, ?_⟩
  | refine ⟨_, _, rfl, by assumption, ?_⟩
  | refine ⟨_, _, _, rfl, rfl, rfl, ?_⟩
  | refine ⟨_, _, _, rfl, rfl, by assumption, ?_⟩
  | refine ⟨_, _, _, rfl, rfl, by walk_at "side", by assumption, ?_⟩
  | refine ⟨_, _, _, rfl, rfl, by walk_at "side", rfl, ?_⟩
  | refine ⟨_, _, _, rfl, rfl, rfl, by assumption, ?_⟩
  | refine .inl ⟨_, rfl, ?_⟩
  | refine .inr ⟨_, rfl, ?_⟩
  | refine .inr (.inl ⟨_, rfl, ?_⟩)
  | refine .inr (.inr ⟨_, rfl, ?_⟩)
  | refine ⟨_, .inl rfl, ?_⟩
  | refine ⟨_, .inr rfl, ?_⟩
  | refine ⟨_, (by assumption : _ ∨ _), ?_⟩
  | refine .inr ⟨_, _, rfl, ?_⟩
  | refine .inl ⟨_, _, rfl, ?_⟩
  | refine And.intro (by walk_at "side") ?_))


theorem over_val {t q m : Int} (hm : m ≠ 0) (h : q ∣ m) : ((t * m.fdiv q : Int) : Rat) / (m : Rat) = (t : Rat) / (q : Rat) := by
  obtain ⟨x, hx⟩ := h
  have q0 : q ≠ 0 := fun e => hm (by rw [hx, e, Int.zero_mul])
  have x0 : x ≠ 0 := fun e => hm (by rw [hx, e, Int.mul_zero])
  have e1 : m.fdiv q = x := by rw [hx]; exact fdiv_of q0
  rw [e1, hx]
  have r1 := rat_ne q0
  have r2 := rat_ne x0
  push_cast
  grind
theorem low_val {ts : List Int} {b : Int} (hb : b ≠ 0) {j : Nat} {t : Int} (h : ts[j]? = some t) : ∃ u, (lT ts b)[j]? = some u ∧ (u : Rat) / (lB ts b : Rat) = (t : Rat) / (b : Rat) := by
  refine ⟨t.fdiv (gs ts b), by unfold lT; rw [List.getElem?_map, h]; rfl, ?_⟩
  have hg : gs ts b ≠ 0 := gs_ne hb
  obtain ⟨x, hx⟩ := (gs_dvds ts b).1 t (List.mem_of_getElem? h)
  obtain ⟨y, hy⟩ := (gs_dvds ts b).2
  unfold lB
  generalize gs ts b = g at *
  have y0 : y ≠ 0 := fun e => hb (by rw [hy, e, Int.mul_zero])
  have e1 : t.fdiv g = x := by rw [hx]; exact fdiv_of hg
  have e2 : b.fdiv g = y := by rw [hy]; exact fdiv_of hg
  rw [e1, e2, hx, hy]
  have r1 := rat_ne hg
  have r2 := rat_ne y0
  push_cast
  grind
theorem lB_dvd (ts : List Int) {b : Int} (hb : b ≠ 0) : lB ts b ∣ b := ⟨gs ts b, by
  rw [Int.mul_comm]
  exact (lB_mul ts hb).symm⟩
theorem nTB_val {t b : Int} (hb : b ≠ 0) : (nT t b : Rat) / (nB t b : Rat) = (t : Rat) / (b : Rat) := by
  obtain ⟨u, h1, h2⟩ := low_val (ts := [t]) (j := 0) hb rfl
  have e1 : lT [t] b = [nT t b] := rfl
  rw [e1] at h1
  have e2 : u = nT t b := (Option.some.inj h1).symm
  rw [← e2]
  exact h2
theorem nB_dvd {t b : Int} (hb : b ≠ 0) : nB t b ∣ b := lB_dvd [t] hb
/-- the vector of some ratios -/
theorem vec_of {rs : List (Int × Int)} {m M : Int} {k s : Nat} (m0 : 0 < m) (hM : 0 < M) (hs : M.natAbs < 2 ^ s) (mM : m ∣ M) (hr : ∀ p ∈ rs, 0 < p.2 ∧ p.2 ∣ m ∧ p.1.natAbs < 2 ^ k) :
    (lT (overT rs m) m).length = rs.length ∧ 0 < lB (overT rs m) m ∧ lB (overT rs m) m ∣ M ∧ Bd (k + s) (lT (overT rs m) m) ∧ ∀ (j : Nat) p, rs[j]? = some p → ∃ u, (lT (overT rs m) m)[j]? = some u ∧ (u : Rat) / (lB (overT rs m) m : Rat) = (p.1 : Rat) / (p.2 : Rat) := by
  have mn : m ≠ 0 := by omega
  refine ⟨by rw [low_len]; unfold overT; rw [List.length_map], lB_pos mn, Int.dvd_trans (lB_dvd _ mn) mM, low_bd fun t ht => ?_, fun j p hp => ?_⟩
  · obtain ⟨p, hp, rfl⟩ := List.mem_map.mp ht
    obtain ⟨_, _, h3⟩ := hr p hp
    exact abs_mul_lt h3 (Nat.lt_of_le_of_lt (Int.natAbs_fdiv_le_natAbs _ _) (dvd_abs hM hs m0 mM))
  · obtain ⟨_, h2, _⟩ := hr p (List.mem_of_getElem? hp)
    obtain ⟨u, e1, e2⟩ := low_val (ts := overT rs m) (b := m) (j := j) (t := p.1 * m.fdiv p.2) mn (by unfold overT; rw [List.getElem?_map, hp]; rfl)
    exact ⟨u, e1, e2.trans (over_val mn h2)⟩
/-- the matrix of some rows -/
theorem rows_of {vs : List (List Int × Int)} {m M : Int} {h w k s : Nat} (v : VsM M h w vs) (hs : M.natAbs < 2 ^ s) (m0 : 0 < m) (mM : m ∣ M) (hv : ∀ p ∈ vs, p.2 ∣ m ∧ Bd k p.1) :
    Mx (k + s) h w (mT (rowsT vs m) m) (mB (rowsT vs m) m) ∧ mB (rowsT vs m) m ∣ M ∧ ∀ (i j : Nat) p t, vs[i]? = some p → p.1[j]? = some t → VM (mT (rowsT vs m) m) (mB (rowsT vs m) m) i j = (t : Rat) / (p.2 : Rat) := by
  have mn : m ≠ 0 := by omega
  have sh : Sh h w (rowsT vs m) := ⟨by unfold rowsT; rw [List.length_map]; exact v.len, fun r hr => by
    obtain ⟨p, hp, rfl⟩ := List.mem_map.mp hr
    rw [List.length_map]
    exact (v.ok p hp).1⟩
  have ms : m.natAbs < 2 ^ s := dvd_abs v.pos hs m0 mM
  refine ⟨low_mx sh v.h0 v.h1 v.w0 v.w1 mn (fun r hr t ht => ?_) (abs_up ms (by omega)), Int.dvd_trans (mB_dvd _ _ mn) mM, fun i j p t hp ht => ?_⟩
  · obtain ⟨p, hp, rfl⟩ := List.mem_map.mp hr
    obtain ⟨x, hx, rfl⟩ := List.mem_map.mp ht
    exact abs_mul_lt ((hv p hp).2 x hx) (Nat.lt_of_le_of_lt (Int.natAbs_fdiv_le_natAbs _ _) ms)
  · have hi : i < h := by
      have := (List.getElem?_eq_some_iff.mp hp).1
      have := v.len
      omega
    have hj : j < w := by
      have := (List.getElem?_eq_some_iff.mp ht).1
      have := (v.ok p (List.mem_of_getElem? hp)).1
      omega
    rw [V_low sh mn i j hi hj]
    show (en (rowsT vs m) i j : Rat) / (m : Rat) = _
    rw [en_of (rowsT_row hp) (show (p.1.map fun t => t * m.fdiv p.2)[j]? = some (t * m.fdiv p.2) by rw [List.getElem?_map, ht]; rfl)]
    exact over_val mn (hv p (List.mem_of_getElem? hp)).1
theorem pow_abs {b : Int} {k : Nat} (h : b.natAbs < 2 ^ k) : ∀ i : Nat, (b ^ i).natAbs < 2 ^ (i * k + 1)
  | 0 => by rw [Int.pow_zero, Nat.zero_mul]; decide
  | i + 1 => by
    rw [Int.pow_succ]
    exact abs_up (abs_mul_lt (pow_abs h i) h) (by rw [Nat.succ_mul]; omega)
theorem pow_dvd_pow {b : Int} {i j : Nat} (h : i ≤ j) : b ^ i ∣ b ^ j := ⟨b ^ (j - i), by rw [← Int.pow_add, Nat.add_sub_cancel' h]⟩
theorem pow_dvd_of {a b : Int} (h : a ∣ b) : ∀ i : Nat, a ^ i ∣ b ^ i
  | 0 => by rw [Int.pow_zero, Int.pow_zero]; exact Int.dvd_refl _
  | i + 1 => by
    rw [Int.pow_succ, Int.pow_succ]
    exact Int.mul_dvd_mul (pow_dvd_of h i) h
/-- the sizes in a trace table -/
abbrev szL (K Kp l : Nat) : Nat := 2 + l * (K + Kp + 6) + Kp
abbrev szX (n K Kp l : Nat) : Nat := n * (K + 4) + n * (szL K Kp l + 4) + 6
abbrev szM (n K Kp l : Nat) : Nat := n * K + 1 + (n * (l * K + 1 + Kp) + 1)
structure TbOk (n K Kp l : Nat) : Prop where
  a : n * (K + 4) ≤ 3900
  b : n * (szL K Kp l + 4) ≤ 3900
  c : szX n K Kp l + szM n K Kp l + szM n K Kp l + 10 ≤ 8900
  l : l ≤ 4000
def tabR (n : Nat) (A P : QM) : QM := fun i j => traR n (mulR n (powR n A i) (powR n P j))
def P_trace_table : Prm := fun ds Q _ => ∃ (A : List (List Int)) (b : Int) (ts : List Int) (c : Int) (n K Kp : Nat), ds = [MX A b n n, PO ts c] ∧ Mx K n n A b ∧ PlOk Kp ts c ∧ TbOk n K Kp ts.length ∧ ∀ (T : List (List Int)) (t : Int), Mx 8900 n n T t → EqM n n (VM T t) (tabR n (VM A b) (polR n ts c (VM A b))) → Q (MX T t n n)
theorem tra_ok {n k : Nat} {A : List (List Int)} {b : Int} (a : Mx k n n A b) : 0 < nB (traI A) b ∧ nB (traI A) b ∣ b ∧ (nT (traI A) b).natAbs < 2 ^ (k + 4) ∧ (nT (traI A) b : Rat) / (nB (traI A) b : Rat) = traR n (VM A b) := by
  refine ⟨nB_pos a.ne, nB_dvd a.ne, Nat.lt_of_le_of_lt (nT_le _ _) (tra_bd a.bd (by rw [a.sh.1]; have := a.h1; omega)), ?_⟩
  rw [nTB_val a.ne]
  exact V_tra a.sh.1 a.ne

structure EntOk (n k : Nat) (M : Int) (F : QM) (i j : Nat) (q : Int × Int) : Prop where
  pos : 0 < q.2
  dvd : q.2 ∣ M
  bd : q.1.natAbs < 2 ^ k
  val : (q.1 : Rat) / (q.2 : Rat) = F i j
structure RowOk (n k : Nat) (M : Int) (F : QM) (i : Nat) (v : List Int × Int) : Prop where
  len : v.1.length = n
  pos : 0 < v.2
  dvd : v.2 ∣ M
  bd : Bd k v.1
  val : ∀ j, j < n → ∃ u, v.1[j]? = some u ∧ (u : Rat) / (v.2 : Rat) = F i j
theorem row_of {n k s i : Nat} {M m : Int} {F : QM} {qs : List (Int × Int)} (hM : 0 < M) (hs : M.natAbs < 2 ^ s) (hl : qs.length = n) (h : ∀ (j : Nat) q, qs[j]? = some q → EntOk n k M F i j q) (m0 : 0 < m) (mM : m ∣ M) (mq : ∀ q ∈ qs, q.2 ∣ m) :
    RowOk n (k + s) M F i (lT (overT qs m) m, lB (overT qs m) m) := by
  obtain ⟨v1, v2, v3, v4, v5⟩ := vec_of (k := k) m0 hM hs mM fun q hq => by
    obtain ⟨j, hj⟩ := List.getElem?_of_mem hq
    exact ⟨(h j q hj).pos, mq q hq, (h j q hj).bd⟩
  refine ⟨v1.trans hl, v2, v3, v4, fun j hj => ?_⟩
  have hq : qs[j]? = some (qs[j]'(by omega)) := List.getElem?_eq_getElem _
  obtain ⟨u, h1, h2⟩ := v5 j _ hq
  exact ⟨u, h1, h2.trans (h j _ hq).val⟩
theorem tab_of {n k s : Nat} {M : Int} {F : QM} {vs : List (List Int × Int)} (n0 : 0 < n) (n1 : n ≤ 12) (hM : 0 < M) (hs : M.natAbs < 2 ^ s) (s9 : s ≤ 8900) (k9 : k ≤ 8900) (hl : vs.length = n) (h : ∀ (i : Nat) v, vs[i]? = some v → RowOk n k M F i v) :
    VsM M n n vs ∧ ∀ m, 0 < m → m ∣ M → (∀ p ∈ vs, p.2 ∣ m) → Mx (k + s) n n (mT (rowsT vs m) m) (mB (rowsT vs m) m) ∧ EqM n n (VM (mT (rowsT vs m) m) (mB (rowsT vs m) m)) F := by
  have at' : ∀ p ∈ vs, ∃ i, RowOk n k M F i p := fun p hp => by
    obtain ⟨i, hi⟩ := List.getElem?_of_mem hp
    exact ⟨i, h i p hi⟩
  have v : VsM M n n vs := ⟨hM, abs_up hs s9, hl, n0, n1, n0, n1, fun p hp => by
    obtain ⟨i, r⟩ := at' p hp
    exact ⟨r.len, r.pos, r.dvd, r.bd.up k9⟩⟩
  refine ⟨v, fun m m0 mM mv => ?_⟩
  obtain ⟨e1, _, e3⟩ := rows_of (k := k) v hs m0 mM fun p hp => by
    obtain ⟨i, r⟩ := at' p hp
    exact ⟨mv p hp, r.bd⟩
  refine ⟨e1, fun i j hi hj => ?_⟩
  have hp : vs[i]? = some (vs[i]'(by omega)) := List.getElem?_eq_getElem _
  obtain ⟨u, h1, h2⟩ := (h i _ hp).val j hj
  exact (e3 i j _ u hp h1).trans h2
theorem ent_of {n K L i j : Nat} {A B : List (List Int)} {b e c : Int} {G : QM} {l r : List (List Int) × Int} (hi : i ≤ n) (hj : j ≤ n) (hl : PwOk K n A b i l) (hr : PwOk L n B e j r) (he : e ∣ c) (hB : EqM n n (VM B e) G) :
    Mx (n * (K + 4) + n * (L + 4) + 6) n n (mT (mulM l.1 r.1 n) (l.2 * r.2)) (mB (mulM l.1 r.1 n) (l.2 * r.2)) ∧
    EntOk n (n * (K + 4) + n * (L + 4) + 6 + 4) (b ^ n * c ^ n) (tabR n (VM A b) G) i j (nT (traI (mT (mulM l.1 r.1 n) (l.2 * r.2))) (mB (mulM l.1 r.1 n) (l.2 * r.2)), nB (traI (mT (mulM l.1 r.1 n) (l.2 * r.2))) (mB (mulM l.1 r.1 n) (l.2 * r.2))) := by
  obtain ⟨l1, l2, l3⟩ := hl
  obtain ⟨r1, r2, r3⟩ := hr
  obtain ⟨m1, m2, m3⟩ := l1.mul r1
  have b1 : i * (K + 4) ≤ n * (K + 4) := Nat.mul_le_mul_right _ hi
  have b2 : j * (L + 4) ≤ n * (L + 4) := Nat.mul_le_mul_right _ hj
  have m1' : Mx (n * (K + 4) + n * (L + 4) + 6) n n _ _ := m1.up (by omega)
  obtain ⟨t1, t2, t3, t4⟩ := tra_ok m1'
  refine ⟨m1', t1, ?_, t3, ?_⟩
  · refine Int.dvd_trans t2 (Int.dvd_trans m3 (Int.mul_dvd_mul (Int.dvd_trans l3 (pow_dvd_pow hi)) (Int.dvd_trans r3 (Int.dvd_trans (pow_dvd_of he j) (pow_dvd_pow hj)))))
  · refine t4.trans (traR_congr (m2.trans (mulR_congr l2 (r2.trans (powR_congr hB j)))))

/-- what skew_poly tells: twice the trace over the size, less x -/
structure SkOk (K n : Nat) (A : List (List Int)) (b : Int) (ts : List Int) (c : Int) : Prop where
  pol : Pol (K + 30) ts c
  len : ts.length ≤ 2
  eq : PEq (cf ts) c (cf [2 * traI A, -(b * (n : Int))]) (b * (n : Int))
def P_skew_poly : Prm := fun ds Q _ => ∃ (A : List (List Int)) (b : Int) (n K : Nat), ds = [MX A b n n] ∧ Mx K n n A b ∧ K ≤ 3900 ∧ ∀ (ts : List Int) (c : Int), SkOk K n A b ts c → Q (PO ts c)
theorem skew_of {K n : Nat} {A : List (List Int)} {b t3 b3 : Int} (hA : Mx K n n A b) (e3 : t3 = nT (nT (traI A) b * nT 2 (n : Int)) (nB (traI A) b * nB 2 (n : Int))) (f3 : b3 = nB (nT (traI A) b * nT 2 (n : Int)) (nB (traI A) b * nB 2 (n : Int))) :
    0 < b3 ∧ b3.natAbs < 2 ^ (K + 20) ∧ t3.natAbs < 2 ^ (K + 20) ∧ SkOk K n A b (pT (overT [(t3, b3), (-1, 1)] b3) b3) (pB (overT [(t3, b3), (-1, 1)] b3) b3) := by
  have n0 := hA.h0
  have n1 := hA.h1
  have nz : (n : Int) ≠ 0 := by omega
  obtain ⟨a1, a2, a3, _⟩ := tra_ok hA
  have va := nTB_val (t := traI A) hA.ne
  have vn := nTB_val (t := 2) nz
  have pn : 0 < nB 2 (n : Int) := nB_pos nz
  have sn : (nB 2 (n : Int)).natAbs < 2 ^ 10 := Nat.lt_of_le_of_lt (nB_le _ _) (by omega)
  have tn : (nT 2 (n : Int)).natAbs < 2 ^ 10 := Nat.lt_of_le_of_lt (nT_le _ _) (by decide)
  have sa : (nB (traI A) b).natAbs < 2 ^ (K + 4) := Nat.lt_of_le_of_lt (nB_le _ _) (abs_up hA.sb (by omega))
  generalize nT (traI A) b = t1 at *
  generalize nB (traI A) b = b1 at *
  generalize nT 2 (n : Int) = t2 at *
  generalize nB 2 (n : Int) = b2 at *
  have h12 : b1 * b2 ≠ 0 := Int.ne_of_gt (Int.mul_pos a1 pn)
  have v3 := nTB_val (t := t1 * t2) h12
  have p3 : 0 < b3 := by rw [f3]; exact nB_pos h12
  have s3 : b3.natAbs < 2 ^ (K + 20) := by rw [f3]; exact Nat.lt_of_le_of_lt (nB_le _ _) (abs_up (abs_mul_lt sa sn) (by omega))
  have u3 : t3.natAbs < 2 ^ (K + 20) := by rw [e3]; exact Nat.lt_of_le_of_lt (nT_le _ _) (abs_up (abs_mul_lt a3 tn) (by omega))
  rw [← e3, ← f3] at v3
  have b0 : b3 ≠ 0 := by omega
  have eo : overT [(t3, b3), (-1, 1)] b3 = [t3, -b3] := by
    unfold overT
    show [t3 * b3.fdiv b3, -1 * b3.fdiv 1] = _
    have e1 : b3.fdiv b3 = 1 := by
      have := fdiv_of (s := 1) b0
      rwa [Int.mul_one] at this
    rw [e1, Int.fdiv_one, Int.mul_one, Int.neg_one_mul]
  rw [eo]
  have bd : Bd (K + 30) [t3, -b3] := fun t ht => by
    simp only [List.mem_cons, List.not_mem_nil, or_false] at ht
    rcases ht with rfl | rfl
    · exact abs_up u3 (by omega)
    · rw [Int.natAbs_neg]; exact abs_up s3 (by omega)
  refine ⟨p3, s3, u3, pol_of b0 (by show 2 ≤ 1000; omega) bd (abs_up s3 (by omega)), pT_len _ _, (poly_cf _ b0).trans b0 fun k => ?_⟩
  have r1 := rat_ne b0
  have r2 := rat_ne hA.ne
  have r3 := rat_ne nz
  have r4 := rat_ne (show b1 ≠ 0 by omega)
  have r5 := rat_ne (show b2 ≠ 0 by omega)
  have key : (b * (n : Int)) * t3 = b3 * (2 * traI A) := by
    have h1 : (t3 : Rat) / (b3 : Rat) = ((traI A : Int) : Rat) / (b : Rat) * (((2 : Int) : Rat) / ((n : Int) : Rat)) := by
      rw [v3, ← va, ← vn]
      push_cast
      grind
    have h2 : ((b : Rat) * ((n : Int) : Rat)) * (t3 : Rat) = (b3 : Rat) * (((2 : Int) : Rat) * ((traI A : Int) : Rat)) := by grind
    exact_mod_cast h2
  match k with
  | 0 => exact key
  | 1 => show b * (n : Int) * (-b3) = b3 * (-(b * (n : Int))); rw [Int.mul_neg, Int.mul_neg, Int.mul_comm]
  | k + 2 => show b * (n : Int) * 0 = b3 * 0; simp

theorem fn_trace_table (T : Txt LL K mg) (M : Mo3 cs sms cis mxs exs K mg) : Nonempty (Fn P w K mg base (d_trace_table.at_ K) 13 2 P_trace_table) := by
  obtain ⟨F_matrix_powers⟩ := fn_matrix_powers (P := P) (w := w) (base := base) T M
  obtain ⟨F_Poly_call⟩ := fn_Poly_call (P := P) (w := w) (base := base) T M
  obtain ⟨F_from_rows⟩ := fn_from_rows (P := P) (w := w) (base := base) T M
  obtain ⟨F_Vector_of⟩ := fn_Vector_of (P := P) (w := w) (base := base) T M
  obtain ⟨F_Matrix_trace⟩ := fn_Matrix_trace (P := P) (w := w) (base := base) T M
  obtain ⟨F_Matrix_mul⟩ := fn_Matrix_mul (P := P) (w := w) (base := base) T M
  refine Fn.of (T.d 35 (d := d_trace_table)) sc_trace_table rfl (fun _ _ _ _ _ _ us hl => match us, hl with | [_, _], _ => rfl) (fun ds Q ex h => ?_) (fun fd cdv A outer s H E hr => ⟨_, pdss_cons (pds_set (i := 2) sc_trace_table.nd rfl (by first | exact Or.inl rfl | exact Or.inr rfl) (pd_call F_matrix_powers (hr.mono (by decide)) (by rfl) (T.g "_matrix_powers") (T.k "_matrix_powers") (takes_of rfl rfl rfl rfl) (pda_cons (pd_var (pv 0)) (pda_cons (pd_fld (c := 2) (k := 2) (T.cl "Matrix") (T.no "Matrix" "height") fk_Matrix_height (pd_var (pv 0))) pda_nil)))) (pdss_cons (pds_set (i := 3) sc_trace_table.nd rfl (by first | exact Or.inl rfl | exact Or.inr rfl) (pd_call F_matrix_powers (hr.mono (by decide)) (by rfl) (T.g "_matrix_powers") (T.k "_matrix_powers") (takes_of rfl rfl rfl rfl) (pda_cons (pd_callO (cc := 3) (pd_var (pv 1)) (T.own "Poly" "__call__") (fn_in (T.d 31 (d := d_Poly_call))) (T.fnn "Poly" "__call__") F_Poly_call (hr.mono (by decide)) (takes_of rfl rfl rfl rfl) (pda_cons (pd_var (pv 0)) pda_nil)) (pda_cons (pd_fld (c := 2) (k := 2) (T.cl "Matrix") (T.no "Matrix" "height") fk_Matrix_height (pd_var (pv 0))) pda_nil)))) (pdss_one (pds_ret (pd_call F_from_rows (hr.mono (by decide)) (by rfl) (T.g "from_rows") (T.k "from_rows") (takes_of rfl rfl rfl rfl) (pda_cons (pd_new (pdn_lc (own := [("left", 5)]) rfl sc_trace_table.nd (pdi_tup (pd_var (pv 2))) (blkOk_by (N := ["a", "poly", "lefts", "rights", "right", "left"]) (sc := defScope s_trace_table) (by decide +kernel)) (by decide) (fun _ _ _ _ _ => (pdg_name (pg_name (i := 5) sc_trace_table.nd rfl (by first | exact Or.inl rfl | exact Or.inr rfl)))) (fun _ _ _ _ _ => pdts_nil) (fun _ _ _ _ _ => pd_sm (by rfl) (T.g "Vector") (M.sm "Vector" "of") F_Vector_of (hr.mono (by decide)) takes0 (pda_cons (pd_new (pdn_lc (own := [("right", 4)]) rfl sc_trace_table.nd (pdi_tup (pd_var (pv 3))) (blkOk_in (N := ["a", "poly", "lefts", "rights", "right", "left"]) (by decide +kernel)) (by decide) (fun _ _ _ _ _ => (pdg_name (pg_name (i := 4) sc_trace_table.nd rfl (by first | exact Or.inl rfl | exact Or.inr rfl)))) (fun _ _ _ _ _ => pdts_nil) (fun _ _ _ _ _ => pd_meth0 (c := 2) (pd_mixO (op := .Mult) (c := 2) (M.mx "mul" [0, 2]) (by decide) (by rw [dm_Mult]; exact T.own "Matrix" "__mul__") (T.fnn "Matrix" "__mul__") F_Matrix_mul (hr.mono (by decide)) takes0 (pd_var (pv 5)) (pd_var (pv 4))) (T.cl "Matrix") (T.me "Matrix" "trace") F_Matrix_trace (hr.mono (by decide)) takes0 nm_Matrix_trace))) pda_nil)))) pda_nil))))), fun ds Q ex h => ?_⟩)
  · obtain ⟨A, b, ts, c, n, K, Kp, rfl, _⟩ := h
    rfl
  · obtain ⟨A, b, ts, c, n, K, Kp, rfl, hA, hP, hT, q⟩ := h
    have n0 := hA.h0
    have n1 := hA.h1
    obtain ⟨t1, t2, t3, t4⟩ := hT
    have kn : K + 4 ≤ n * (K + 4) := Nat.le_mul_of_pos_left _ n0
    have ln : szL K Kp ts.length + 4 ≤ n * (szL K Kp ts.length + 4) := Nat.le_mul_of_pos_left _ n0
    have kp : Kp ≤ szL K Kp ts.length := Nat.le_add_left _ _
    have kl : szL K Kp ts.length ≤ 3900 := by omega
    have xx : szX n K Kp ts.length = n * (K + 4) + n * (szL K Kp ts.length + 4) + 6 := rfl
    have M0 : 0 < b ^ n * (b ^ ts.length * c) ^ n := Int.mul_pos (Int.pow_pos hA.pos) (Int.pow_pos (Int.mul_pos (Int.pow_pos hA.pos) hP.pos))
    have Ms : (b ^ n * (b ^ ts.length * c) ^ n).natAbs < 2 ^ szM n K Kp ts.length := abs_mul_lt (pow_abs hA.sb n) (pow_abs (abs_mul_lt (pow_abs hA.sb ts.length) hP.sc) n)
    walk_at "go"
    refine ⟨A, b, n, n, K, rfl, hA, n1, by omega, t1, fun ls hll hls => ?_⟩
    walk_at "go"
    refine ⟨ts, c, A, b, n, K, Kp, rfl, hA, hP, t4, by omega, by omega, kl, fun p ⟨p1, p2, p3⟩ => ?_⟩
    walk_at "go"
    refine ⟨p.1, p.2, n, n, szL K Kp ts.length, rfl, p1, n1, by omega, t2, fun rs hrl hrs => ?_⟩
    walk_at "go"
    refine ⟨fun i z => ∃ v : List Int × Int, z = some (V v.1 v.2) ∧ RowOk n (szX n K Kp ts.length + 4 + szM n K Kp ts.length) (b ^ n * (b ^ ts.length * c) ^ n) (tabR n (VM A b) (polR n ts c (VM A b))) i v, ?_, ?_⟩
    · rintro i x hx
      obtain ⟨l, hl, rfl⟩ := map_at hx
      have hi : i < n := by
        have := (List.getElem?_eq_some_iff.mp hl).1
        omega
      walk_at "go"
      refine ⟨fun j z => ∃ e : Int × Int, z = some (R e.1 e.2) ∧ EntOk n (szX n K Kp ts.length + 4) (b ^ n * (b ^ ts.length * c) ^ n) (tabR n (VM A b) (polR n ts c (VM A b))) i j e, ?_, ?_⟩
      · rintro j y hy
        obtain ⟨r, hr, rfl⟩ := map_at hy
        have hj : j < n := by
          have := (List.getElem?_eq_some_iff.mp hr).1
          omega
        obtain ⟨e1, e2⟩ := ent_of (Nat.le_of_lt hi) (Nat.le_of_lt hj) (hls i l hl) (hrs j r hr) p3 p2
        have lb : i * (K + 4) ≤ n * (K + 4) := Nat.mul_le_mul_right _ (Nat.le_of_lt hi)
        have rb : j * (szL K Kp ts.length + 4) ≤ n * (szL K Kp ts.length + 4) := Nat.mul_le_mul_right _ (Nat.le_of_lt hj)
        walk_at "go"
        refine ⟨l.1, l.2, MX r.1 r.2 n n, n, n, rfl, (hls i l hl).1.up (by omega), rfl, .inl ⟨r.1, r.2, n, rfl, (hrs j r hr).1.up (by omega), ?_⟩⟩
        walk_at "go"
        exact ⟨e1.sh, by omega, e1.ne, abs_up e1.sb (by omega), fun _ => ⟨(_, _), rfl, e2⟩⟩
      intro zs hzl hz
      obtain ⟨qs, e, hql, hq⟩ := lc_map (fun p : Int × Int => R p.1 p.2) (P := fun j p => EntOk n (szX n K Kp ts.length + 4) (b ^ n * (b ^ ts.length * c) ^ n) (tabR n (VM A b) (polR n ts c (VM A b))) i j p) hzl (fun j z h => by
        obtain ⟨v, h1, h2⟩ := hz j z h
        exact ⟨v, h1, h2⟩)
      rw [e]
      have hqn : qs.length = n := by rw [hql, List.length_map]; exact hrl
      walk_at "go"
      refine ⟨_, qs, b ^ n * (b ^ ts.length * c) ^ n, rfl, .inl rfl, ⟨M0, abs_up Ms (by omega), by omega, fun p hp => ?_⟩, fun z => ?_, fun m m0 mM mq => ?_⟩
      · obtain ⟨j, hj⟩ := List.getElem?_of_mem hp
        have o := hq j p hj
        exact ⟨o.pos, o.dvd, abs_up o.bd (by omega)⟩
      · rw [z] at hqn
        simp at hqn
        omega
      exact fun _ => ⟨(_, _), rfl, row_of M0 Ms hqn hq m0 mM mq⟩
    intro zs hzl hz
    obtain ⟨vs, e, hvl, hv⟩ := lc_map (fun p : List Int × Int => V p.1 p.2) (P := fun i p => RowOk n (szX n K Kp ts.length + 4 + szM n K Kp ts.length) (b ^ n * (b ^ ts.length * c) ^ n) (tabR n (VM A b) (polR n ts c (VM A b))) i p) hzl (fun j z h => by
      obtain ⟨v, h1, h2⟩ := hz j z h
      exact ⟨v, h1, h2⟩)
    rw [e]
    have hvn : vs.length = n := by rw [hvl, List.length_map]; exact hll
    obtain ⟨tv, tm⟩ := tab_of n0 n1 M0 Ms (by omega) (by omega) hvn hv
    walk_at "go"
    refine ⟨vs, b ^ n * (b ^ ts.length * c) ^ n, n, n, rfl, tv, fun m m0 mM mv => ?_⟩
    obtain ⟨r1, r2⟩ := tm m m0 mM mv
    exact q _ _ (r1.up (by omega)) r2

theorem fn_skew_poly (T : Txt LL K mg) (M : Mo3 cs sms cis mxs exs K mg) : Nonempty (Fn P w K mg base (d_skew_poly.at_ K) 8 1 P_skew_poly) := by
  obtain ⟨F_Poly_of⟩ := fn_Poly_of (P := P) (w := w) (base := base) T M
  obtain ⟨⟨F_Ratio_init⟩, ⟨F_Ratio_init_d⟩⟩ := fn_Ratio_init (P := P) (w := w) (base := base) T M
  obtain ⟨F_Ratio_mul⟩ := fn_Ratio_mul (P := P) (w := w) (base := base) T M
  obtain ⟨F_Matrix_trace⟩ := fn_Matrix_trace (P := P) (w := w) (base := base) T M
  refine Fn.of (T.d 37 (d := d_skew_poly)) sc_skew_poly rfl (fun _ _ _ _ _ _ us hl => match us, hl with | [_], _ => rfl) (fun ds Q ex h => ?_) (fun fd cdv A outer s H E hr => ⟨_, pdss_one (pds_ret (pd_sm (by rfl) (T.g "Poly") (M.sm "Poly" "of") F_Poly_of (hr.mono (by decide)) (takes_of rfl rfl rfl rfl) (pda_cons (pd_new (pdn_lst (pda_cons (pd_mixO (op := .Mult) (c := 0) (M.mx "mul" [0, 2]) (by decide) (by rw [dm_Mult]; exact T.own "Ratio" "__mul__") (T.fnn "Ratio" "__mul__") F_Ratio_mul (hr.mono (by decide)) (takes_of rfl rfl rfl rfl) (pd_meth0 (c := 2) (pd_var (pv 0)) (T.cl "Matrix") (T.me "Matrix" "trace") F_Matrix_trace (hr.mono (by decide)) (takes_of rfl rfl rfl rfl) nm_Matrix_trace) (pd_make (c := 0) (T.mkk "Ratio") F_Ratio_init (fun _ _ => .nil) (hr.mono (by decide)) (by rfl) (T.g "Ratio") (takes_of rfl rfl rfl rfl) (pda_cons (pd_int pe_int) (pda_cons (pd_fld (c := 2) (k := 2) (T.cl "Matrix") (T.no "Matrix" "height") fk_Matrix_height (pd_var (pv 0))) pda_nil)))) (pda_cons (pd_make (c := 0) (T.mkk "Ratio") F_Ratio_init_d dd_Ratio (hr.mono (by decide)) (by rfl) (T.g "Ratio") (takes_of rfl rfl rfl rfl) (pda_cons (pd_un un_neg l_U (pd_int pe_int)) pda_nil)) pda_nil)))) pda_nil))), fun ds Q ex h => ?_⟩)
  · obtain ⟨A, b, n, K, rfl, _⟩ := h
    rfl
  · obtain ⟨A, b, n, K, rfl, hA, hK, q⟩ := h
    have n0 := hA.h0
    have n1 := hA.h1
    have nz : (n : Int) ≠ 0 := by omega
    have dz : decide ((n : Int) = 0) = false := decide_eq_false nz
    have sa : b.natAbs < 2 ^ 8999 := abs_up hA.sb (by omega)
    have gn : (gs [2] (n : Int)).natAbs < 2 ^ 8999 := Nat.lt_of_le_of_lt (gs_le nz) (Nat.lt_of_lt_of_le (show (n : Int).natAbs < 2 ^ 10 by omega) (Nat.pow_le_pow_right (by decide) (by decide)))
    have g1 : (gs [-1] 1).natAbs < 2 ^ 8999 := by rw [gs_nrm (Nrm.one (-1))]; exact Nat.one_lt_two_pow (by decide)
    have sA := hA.sh
    have n4 : n ≤ 4000 := by omega
    have bne := hA.ne
    obtain ⟨a1, a2, a3, _⟩ := tra_ok hA
    have sb1 : (nB (traI A) b).natAbs < 2 ^ 9000 := Nat.lt_of_le_of_lt (nB_le _ _) (abs_up sa (by decide))
    have st1 : (nT (traI A) b).natAbs < 2 ^ 9000 := abs_up a3 (by omega)
    have pn : 0 < nB 2 (n : Int) := nB_pos nz
    have sn : (nB 2 (n : Int)).natAbs < 2 ^ 9000 := Nat.lt_of_le_of_lt (nB_le _ _) (Nat.lt_of_lt_of_le (show (n : Int).natAbs < 2 ^ 10 by omega) (Nat.pow_le_pow_right (by decide) (by decide)))
    have tn : (nT 2 (n : Int)).natAbs < 2 ^ 9000 := Nat.lt_of_le_of_lt (nT_le _ _) (Nat.lt_of_lt_of_le (show (2 : Int).natAbs < 2 ^ 2 by decide) (Nat.pow_le_pow_right (by decide) (by decide)))
    have m1 : IntMulOk (nT (traI A) b) (nT 2 (n : Int)) := mulBig st1 tn
    have m2 : IntMulOk (nB (traI A) b) (nB 2 (n : Int)) := mulBig sb1 sn
    obtain ⟨p3, s3, u3, sk⟩ := skew_of hA rfl rfl
    have h12 : nB (traI A) b * nB 2 (n : Int) ≠ 0 := Int.ne_of_gt (Int.mul_pos a1 pn)
    have sb2 : (nB (traI A) b).natAbs < 2 ^ (K + 4) := Nat.lt_of_le_of_lt (nB_le _ _) (abs_up hA.sb (by omega))
    have sn2 : (nB 2 (n : Int)).natAbs < 2 ^ 10 := Nat.lt_of_le_of_lt (nB_le _ _) (show (n : Int).natAbs < 2 ^ 10 by omega)
    have g12 : (gs [nT (traI A) b * nT 2 (n : Int)] (nB (traI A) b * nB 2 (n : Int))).natAbs < 2 ^ 8999 := Nat.lt_of_le_of_lt (gs_le h12) (abs_up (abs_mul_lt sb2 sn2) (by omega))
    walk_at "go"
    refine fun _ => ⟨gn, ?_⟩
    walk_at "go"
    refine fun _ => ⟨g1, ?_⟩
    rw [nT_nrm (Nrm.one (-1)), nB_nrm (Nrm.one (-1))]
    generalize nT (nT (traI A) b * nT 2 (n : Int)) (nB (traI A) b * nB 2 (n : Int)) = t3 at *
    generalize nB (nT (traI A) b * nT 2 (n : Int)) (nB (traI A) b * nB 2 (n : Int)) = b3 at *
    walk_at "go"
    refine ⟨_, [(t3, b3), (-1, 1)], b3, rfl, .inl rfl, ⟨p3, abs_up s3 (by omega), by show 2 ≤ 1000; omega, fun p hp => ?_⟩, fun m m0 mM mq => ?_⟩
    · simp only [List.mem_cons, List.not_mem_nil, or_false] at hp
      rcases hp with rfl | rfl
      · exact ⟨p3, Int.dvd_refl _, abs_up u3 (by omega)⟩
      · exact ⟨Int.one_pos, Int.one_dvd _, Nat.lt_of_lt_of_le (show (-1 : Int).natAbs < 2 ^ 1 by decide) (Nat.pow_le_pow_right (by decide) (by decide))⟩
    have h1 := mq (t3, b3) List.mem_cons_self
    have em : m = b3 := Int.le_antisymm (Int.le_of_dvd p3 mM) (Int.le_of_dvd m0 h1)
    subst em
    exact q _ _ sk
end
end K32

namespace DL
open PySem PySem.Spec PyProof.Rows L2 LR
section
variable {X : Cx} {W : WX} {a b c e tg o : Expr} {es : List Expr} {ta tb : DT} {t : DTA} {tp : DTP} {pos p apos : Pos}
theorem Ow.leafRep {K : PySem.W.Frag} {G H : Hp} {v : V} {d : D} {F : List Addr} (h : Ow K G H v d F) (n : noL d = true) : Rep K G v d := by
  cases h with
  | leaf h r => exact r
  | lst h _ _ _ => cases n
  | tup h t _ _ _ => rw [t] at n; cases n
/-- place[b], a leaf -/
def dIxP (tc : DTP) (tb : DT) : DT := fun env Q ex => tc env (fun i ks => tb env (fun y => ∃ k j d m x, y = .int k ∧ env[i]? = some (.ow d) ∧ listAt d ks m ∧ ixN m.length k = some j ∧ m[j]? = some x ∧ noL x = true ∧ Q x) ex) ex
theorem pd_ixP (ho : IxR X (fun x y H Q => rIxL X.K x y H Q ∨ rIxT X.K x y H Q)) (hc : PP X W c tp) (hb : PD X W b tb) (hp : PlainIx b) : PD X W (.Subscript c b pos) (dIxP tp tb) := by
  obtain ⟨_, pc, lc⟩ := hc.of
  obtain ⟨_, pb, lb⟩ := hb.of
  refine ⟨_, pe_ix ho pc pb hp, fun H0 G0 G H σ env Q ex R S L q g => ?_⟩
  obtain ⟨fp, S⟩ := S
  refine lc H0 G0 G H σ env fp _ ex _ S L q fun v H1 G1 i ks x1 ⟨u, hu, hn⟩ q1 => ?_
  refine lb H0 G0 G1 H1 σ env _ ex _ ⟨fp, S.ex x1⟩ (L.mono x1.gg) q1 fun w H2 G2 y x2 r2 ⟨k, j, d, m, x, e1, e2, ⟨e, hd, nl, he⟩, hj, hx, hl, q2⟩ => ?_
  subst e1
  have S2 := (S.ex x1).ex x2
  have hn2 := hn.same x2.hh
  obtain ⟨u', hu', o, nd, kk⟩ := S2.slot i _ e2
  rw [hu] at hu'
  cases hu'
  obtain ⟨F', o', _⟩ := o.node hn2 hd nl
  obtain ⟨pa, vs, Fs, ev, _, hh, n, mm, rr⟩ := o'.child (k := j) nl he
  subst ev
  have hj2 : j < vs.length := by
    have := (ixN_seq hj).2
    unfold ixN at hj
    rw [n]
    by_cases h0 : 0 ≤ k
    · rw [if_pos h0] at hj
      split at hj
      · cases hj; omega
      · cases hj
    · rw [if_neg h0] at hj
      split at hj
      · cases hj; omega
      · cases hj
  have hx2 : vs[j]? = some vs[j] := List.getElem?_eq_getElem hj2
  have ha : atI vs k = some vs[j] := by unfold atI; rw [n, hj]; exact hx2
  obtain ⟨Fj, hF⟩ : ∃ F, Fs[j]? = some F := ⟨_, List.getElem?_eq_getElem (by omega)⟩
  have rx : Rep X.K G2 vs[j] x := (rr j vs[j] x Fj hx2 hx hF).leafRep hl
  have fin := g vs[j] H2 G2 x (x1.trans x2) rx q2
  rcases hh with ⟨_, hh⟩ | ⟨_, hh⟩
  · exact .inl ⟨pa, vs, k, vs[j], rfl, r2.int_inv, SqL.of hh, ha, fin⟩
  · exact .inr ⟨pa, vs, k, vs[j], rfl, r2.int_inv, SqT.of hh, ha, fin⟩
end
end DL

namespace K32
open PySem PySem.Spec PyProof.Rows L2 LR DL
section
variable {P : Program} {w : World} {K : PySem.W.Frag} {mg : Str → Option Value} {base : Heap}
local macro_rules | `(tactic| walk_at "side") => `(tactic| first | with_reducible assumption | exact Bsame.mk (by with_reducible rfl) | omega | rfl | assumption | exact ⟨_, rfl⟩ | exact mulL (by omega) (by omega) | exact mulR (by omega) (by omega) | exact mulF (by decide) (by decide) | exact ⟨by decide, by decide +kernel⟩ | decide | exact Nat.le_of_ble_eq_true rfl | (simp only [List.length_cons, List.length_nil, List.length_map, List.nil_append, List.cons_append, sizeLine_eq]; omega) | (simp only [List.map_cons, List.map_nil, List.nil_append, List.cons_append]; decide +kernel))
local macro_rules | `(tactic| walk_at "go") => `(tactic| repeat (first
  | refine ⟨_, rfl, ?_⟩
  | refine ⟨_, _, rfl, rfl, ?_⟩
  | refine ⟨_, _, rfl, ?_⟩
  | refine ⟨_, _, _, rfl, rfl, ?_⟩
  | refine ⟨_, _, _, rfl, ?_⟩
  | refine ⟨_, _, _, _, rfl, rfl, ?_⟩
  | refine ⟨_, _, _, _, rfl, ?_⟩
  | refine ⟨_, _, _, _, _, rfl, ?_⟩
  | refine ⟨_, _, rfl, by assumption, ?_⟩
  | refine ⟨_, _, _, rfl, rfl, rfl, ?_⟩
  | refine ⟨_, _, _, rfl, rfl, by assumption, ?_⟩
  | refine ⟨_, _, _, rfl, rfl, by walk_at "side", by assumption, ?_⟩
  | refine ⟨_, _, _, rfl, rfl, by walk_at "side", rfl, ?_⟩
  | refine ⟨_, _, _, rfl, rfl, rfl, by assumption, ?_⟩
  | refine .inl ⟨_, rfl, ?_⟩
  | refine .inr ⟨_, rfl, ?_⟩
  | refine .inr (.inl ⟨_, rfl, ?_⟩)
  | refine .inr (.inr ⟨_, rfl, ?_⟩)
  | refine ⟨_, .inl rfl, ?_⟩
  | refine ⟨_, .inr rfl, ?_⟩
  | refine .inr ⟨_, _, rfl, ?_⟩
  | refine .inl ⟨_, _, rfl, ?_⟩
  | refine And.intro (by walk_at "side") ?_))


theorem ixN_n {n i : Nat} (h : i < n) : ixN n (i : Int) = some i := by
  unfold ixN
  rw [if_pos (by omega), if_pos (by omega), Int.toNat_natCast]
theorem noL_lR (A : List (List Int)) : noL (lR A) = false := rfl
theorem noL_row (r : List Int) : noL (.lst (r.map D.int)) = false := rfl
def setM (A : List (List Int)) (i j : Nat) (v : Int) : List (List Int) := A.set i ((A.getD i []).set j v)
theorem Sh.setM {h w : Nat} {A : List (List Int)} (s : Sh h w A) (i j : Nat) (v : Int) : Sh h w (K32.setM A i j v) := by
  unfold K32.setM
  refine ⟨by rw [List.length_set]; exact s.1, fun r hr => ?_⟩
  by_cases hi : i < A.length
  · rcases List.mem_or_eq_of_mem_set hr with hr | rfl
    · exact s.2 r hr
    · rw [List.length_set]
      have e : A[i]? = some (A[i]'hi) := List.getElem?_eq_getElem _
      rw [getD_of e]
      exact s.2 _ (List.mem_of_getElem? e)
  · rw [List.set_eq_of_length_le (by omega)] at hr
    exact s.2 r hr
theorem BdM.setM {n : Nat} {A : List (List Int)} (b : BdM n A) (i j : Nat) {v : Int} (hv : v.natAbs < 2 ^ n) : BdM n (K32.setM A i j v) := by
  unfold K32.setM
  intro r hr t ht
  rcases List.mem_or_eq_of_mem_set hr with hr | rfl
  · exact b r hr t ht
  · rcases List.mem_or_eq_of_mem_set ht with ht | rfl
    · by_cases hi : i < A.length
      · have e : A[i]? = some (A[i]'hi) := List.getElem?_eq_getElem _
        rw [getD_of e] at ht
        exact b _ (List.mem_of_getElem? e) t ht
      · rw [List.getD_eq_getElem?_getD, List.getElem?_eq_none (by omega)] at ht
        simp at ht
    · exact hv
theorem node_row {A : List (List Int)} {i : Nat} {r : List Int} (h : A[i]? = some r) : nodeD (lR A) [i] = some (.lst (r.map D.int)) := by
  show ((A.map fun r => D.lst (r.map D.int))[i]?).bind (fun d => nodeD d []) = _
  rw [List.getElem?_map, h]
  rfl
theorem mod_row {A : List (List Int)} {i j : Nat} {v : Int} (hi : i < A.length) : modD (fun l => l.set j (.int v)) [i] (lR A) = lR (K32.setM A i j v) := by
  show D.lst ((A.map fun r => D.lst (r.map D.int)).modify i (modD (fun l => l.set j (.int v)) [])) = D.lst _
  refine congrArg D.lst (List.ext_getElem? fun k => ?_)
  unfold K32.setM
  rw [List.getElem?_modify, List.getElem?_map, List.getElem?_map, List.getElem?_set]
  by_cases hk : i = k
  · subst hk
    have e : A[i]? = some (A[i]'hi) := List.getElem?_eq_getElem _
    rw [e, if_pos rfl, if_pos hi, getD_of e]
    show some (if i = i then modD (fun l => l.set j (.int v)) [] (D.lst ((A[i]'hi).map D.int)) else _) = _
    rw [if_pos rfl]
    show some (D.lst (((A[i]'hi).map D.int).set j (.int v))) = some (D.lst (((A[i]'hi).set j v).map D.int))
    rw [List.map_set]
  · rw [if_neg hk]
    cases A[k]? with
    | none => rfl
    | some r =>
      show some (if i = k then _ else _) = _
      rw [if_neg hk]
      rfl
theorem put_at {env : DE} {s si sj : Nat} {A : List (List Int)} {h w i j : Nat} {v : Int} {N : DE → Prop} {e1 e2 : EX} (he : env[s]? = some (.ow (lR A))) (hi : env[si]? = some (.val (.int (i : Int)))) (hj : env[sj]? = some (.val (.int (j : Int)))) (sA : Sh h w A) (i1 : i < h) (j1 : j < w)
    (q : N (env.set s (.ow (lR (K32.setM A i j v))))) :
    dpIx (dpName s) (dVar si) env (fun i ks => dVar sj env (fun y => ∃ k j d l, y = .int k ∧ env[i]? = some (.ow d) ∧ nodeD d ks = some (.lst l) ∧ ixN l.length k = some j ∧ (∀ z, l[j]? = some z → noL z = true) ∧ N (env.set i (.ow (modD (fun l => l.set j (.int v)) ks d)))) e1) e2 := by
  obtain ⟨r, h1, h2, h3⟩ := sA.at i1 j1
  refine ⟨lR A, he, .int i, hi, i, i, lR A, _, rfl, he, ⟨lR A, rfl, rfl, .inl rfl⟩, ixN_n (by rw [List.length_map, sA.1]; exact i1), .int j, hj, j, j, lR A, r.map D.int, rfl, he, node_row h1, ixN_n (by rw [List.length_map, h2]; exact j1), fun z hz => ?_, ?_⟩
  · obtain ⟨x, _, rfl⟩ := map_at hz
    rfl
  · show N (env.set s (.ow (modD (fun l => l.set j (.int v)) [i] (lR A))))
    rw [mod_row (by rw [sA.1]; exact i1)]
    exact q
theorem put_at2 {env : DE} {s sj : Nat} {A : List (List Int)} {h w i j : Nat} {v : Int} {N : DE → Prop} {e1 : EX} (he : env[s]? = some (.ow (lR A))) (hj : env[sj]? = some (.val (.int (j : Int)))) (sA : Sh h w A) (i1 : i < h) (j1 : j < w)
    (q : N (env.set s (.ow (lR (K32.setM A i j v))))) :
    ∃ k j' d m, D.int (i : Int) = .int k ∧ env[s]? = some (.ow d) ∧ listAt d [] m ∧ ixN m.length k = some j' ∧ dVar sj env (fun y => ∃ k j d l, y = .int k ∧ env[s]? = some (.ow d) ∧ nodeD d ([] ++ [j']) = some (.lst l) ∧ ixN l.length k = some j ∧ (∀ z, l[j]? = some z → noL z = true) ∧ N (env.set s (.ow (modD (fun l => l.set j (.int v)) ([] ++ [j']) d)))) e1 := by
  obtain ⟨r, h1, h2, h3⟩ := sA.at i1 j1
  refine ⟨i, i, lR A, _, rfl, he, ⟨lR A, rfl, rfl, .inl rfl⟩, ixN_n (by rw [List.length_map, sA.1]; exact i1), .int j, hj, j, j, lR A, r.map D.int, rfl, he, node_row h1, ixN_n (by rw [List.length_map, h2]; exact j1), fun z hz => ?_, ?_⟩
  · obtain ⟨x, _, rfl⟩ := map_at hz
    rfl
  · show N (env.set s (.ow (modD (fun l => l.set j (.int v)) [i] (lR A))))
    rw [mod_row (by rw [sA.1]; exact i1)]
    exact q
theorem get_at {env : DE} {ta tb : DT} {s : Nat} {A : List (List Int)} {h w i j : Nat} {Q : D → Prop} {ex : EX} (he : env[s]? = some (.ow (lR A))) (ha : ∀ P e, P (.int (i : Int)) → ta env P e) (hb : ∀ P e, P (.int (j : Int)) → tb env P e) (sA : Sh h w A) (i1 : i < h) (j1 : j < w)
    (q : Q (.int (en A i j))) : dIxP (dpIx (dpName s) ta) tb env Q ex := by
  obtain ⟨r, h1, h2, h3⟩ := sA.at i1 j1
  refine ⟨lR A, he, ha _ _ ⟨i, i, lR A, _, rfl, he, ⟨lR A, rfl, rfl, .inl rfl⟩, ixN_n (by rw [List.length_map, sA.1]; exact i1), hb _ _ ⟨j, j, lR A, r.map D.int, .int (en A i j), rfl, he, ⟨_, node_row h1, rfl, .inl rfl⟩, ixN_n (by rw [List.length_map, h2]; exact j1), by rw [List.getElem?_map, h3]; rfl, rfl, q⟩⟩⟩
theorem get_at2 {env : DE} {tb : DT} {s : Nat} {A : List (List Int)} {h w i j : Nat} {Q : D → Prop} {e1 : EX} (he : env[s]? = some (.ow (lR A))) (hb : ∀ P e, P (.int (j : Int)) → tb env P e) (sA : Sh h w A) (i1 : i < h) (j1 : j < w)
    (q : Q (.int (en A i j))) : ∃ k j' d m, D.int (i : Int) = .int k ∧ env[s]? = some (.ow d) ∧ listAt d [] m ∧ ixN m.length k = some j' ∧ tb env (fun y => ∃ k j d m x, y = .int k ∧ env[s]? = some (.ow d) ∧ listAt d ([] ++ [j']) m ∧ ixN m.length k = some j ∧ m[j]? = some x ∧ noL x = true ∧ Q x) e1 := by
  obtain ⟨r, h1, h2, h3⟩ := sA.at i1 j1
  exact ⟨i, i, lR A, _, rfl, he, ⟨lR A, rfl, rfl, .inl rfl⟩, ixN_n (by rw [List.length_map, sA.1]; exact i1), hb _ _ ⟨j, j, lR A, r.map D.int, .int (en A i j), rfl, he, ⟨_, node_row h1, rfl, .inl rfl⟩, ixN_n (by rw [List.length_map, h2]; exact j1), by rw [List.getElem?_map, h3]; rfl, rfl, q⟩⟩
theorem var_at {env : DE} {s : Nat} {d : D} (h : env[s]? = some (.val d)) : ∀ (P : D → Prop) (e : EX), P d → dVar s env P e := fun P e q => ⟨d, h, q⟩
theorem con_at {env : DE} {d : D} : ∀ (P : D → Prop) (e : EX), P d → dC d env P e := fun P e q => q
def P_law_matrix : Prm := fun ds Q _ => ∃ (zs : List Int) (n : Nat), ds = [.lst (zs.map D.int), .int n] ∧ zs.length = 27 ∧ (∀ z ∈ zs, 0 ≤ z ∧ z < 1024) ∧ 2 ≤ n ∧ n ≤ 5 ∧ ∀ (A : List (List Int)) (b : Int), Sh n n A → BdM 6 A → 1 ≤ b → b ≤ 6 → Q (MB A b)

theorem fn_law_matrix (T : Txt LL K mg) (M : Mo3 cs sms cis mxs exs K mg) : Nonempty (Fn P w K mg base (d_law_matrix.at_ K) 2 2 P_law_matrix) := by
  obtain ⟨F_law_bottom⟩ := fn_law_bottom (P := P) (w := w) (base := base) T M
  obtain ⟨F_law_small⟩ := fn_law_small (P := P) (w := w) (base := base) T M
  refine Fn.of (T.d 44 (d := d_law_matrix)) sc_law_matrix rfl (fun _ _ _ _ _ _ us hl => match us, hl with | [_, _], _ => rfl) (fun ds Q ex h => ?_) (fun fd cdv A outer s H E hr => ⟨_, pdss_cons (pds_set (i := 2) sc_law_matrix.nd rfl (by first | exact Or.inl rfl | exact Or.inr rfl) (pd_op op_modN l_I (pd_cb (fun h => pe_callTy call_int1 (by rfl) (T.f "int") (by decide +kernel) h) l_int (pda_cons (pd_ix ix_list l_ixL (pd_var (pv 0)) (pd_int pe_int) (fun _ _ => rfl)) pda_nil)) (pd_int pe_int))) (pdss_cons (pds_set (i := 3) sc_law_matrix.nd rfl (by first | exact Or.inl rfl | exact Or.inr rfl) (pd_call F_law_bottom (hr.mono (by decide)) (by rfl) (T.g "_law_bottom") (T.k "_law_bottom") (takes_of rfl rfl rfl rfl) (pda_cons (pd_ix ix_list l_ixL (pd_var (pv 0)) (pd_int pe_int) (fun _ _ => rfl)) pda_nil))) (pdss_cons (pds_set (i := 4) sc_law_matrix.nd rfl (by first | exact Or.inl rfl | exact Or.inr rfl) (pd_new (pdn_lc (own := [("d", 5)]) rfl sc_law_matrix.nd (pdi_list (pd_new (pdn_slL (pd_var (pv 0)) (pdo_some (pd_int pe_int)) (pdo_some (pd_op op_add l_I0 (pd_int pe_int) (pd_op op_mulZ l_I (pd_var (pv 1)) (pd_var (pv 1)))))))) (blkOk_by (N := ["draws", "size", "shape", "bottom", "cells", "d", "rows", "j", "i"]) (sc := defScope s_law_matrix) (by decide +kernel)) (by decide) (fun _ _ _ _ _ => (pdg_name (pg_name (i := 5) sc_law_matrix.nd rfl (by first | exact Or.inl rfl | exact Or.inr rfl)))) (fun _ _ _ _ _ => pdts_nil) (fun _ _ _ _ _ => pd_call F_law_small (hr.mono (by decide)) (by rfl) (T.g "_law_small") (T.k "_law_small") takes0 (pda_cons (pd_var (pv 5)) pda_nil))))) (pdss_cons (pds_lcF (i := 6) (own := [("i", 8)]) rfl sc_law_matrix.nd rfl rfl (sw_true rfl rfl rfl (by decide +kernel)) (pdi_range1 rfl (T.f "range") (pda_cons (pd_var (pv 1)) pda_nil)) (blkOk_by (N := ["draws", "size", "shape", "bottom", "cells", "d", "rows", "j", "i"]) (sc := defScope s_law_matrix) (by decide +kernel)) (by decide) (fun _ _ _ _ _ => (pdg_name (pg_name (i := 8) sc_law_matrix.nd rfl (by first | exact Or.inl rfl | exact Or.inr rfl)))) (fun _ _ _ _ _ => pdts_nil) (fun _ _ _ _ _ => pf_new (pdn_lc (own := [("j", 7)]) rfl sc_law_matrix.nd (pdi_range1 rfl (T.f "range") (pda_cons (pd_var (pv 1)) pda_nil)) (blkOk_in (N := ["draws", "size", "shape", "bottom", "cells", "d", "rows", "j", "i"]) (by decide +kernel)) (by decide) (fun _ _ _ _ _ => (pdg_name (pg_name (i := 7) sc_law_matrix.nd rfl (by first | exact Or.inl rfl | exact Or.inr rfl)))) (fun _ _ _ _ _ => pdts_nil) (fun _ _ _ _ _ => pd_ix ix_list l_ixL (pd_var (pv 4)) (pd_op op_add l_I0 (pd_op op_mulZ l_I (pd_var (pv 1)) (pd_var (pv 8))) (pd_var (pv 7))) (fun _ _ => rfl))))) (pdss_cons (pds_for (passes_of rfl) rfl (pdi_range1 rfl (T.f "range") (pda_cons (pd_var (pv 1)) pda_nil)) (pdg_name (pg_name (i := 8) sc_law_matrix.nd rfl (by first | exact Or.inl rfl | exact Or.inr rfl))) (pdss_one (pds_for (passes_of rfl) rfl (pdi_range1 rfl (T.f "range") (pda_cons (pd_var (pv 1)) pda_nil)) (pdg_name (pg_name (i := 7) sc_law_matrix.nd rfl (by first | exact Or.inl rfl | exact Or.inr rfl))) (pdss_cut (pds_if (PDW.pt (pdw_and (pdt_cmp op_eq l_eq (pd_var (pv 2)) (pd_int pe_int) (nomark _)) (pdw_and1 (pdt_cmp op_lt l_B0 (pd_var (pv 7)) (pd_op op_sub l_I0 (pd_var (pv 1)) (pd_int pe_int)) (nomark _))))) (pdss_one (pds_putP (kk := ⟨0, 0, 0, 0⟩) (fun h1 h2 => pg_sub h1 h2 set_list) (pd_op op_mulZ l_I (pd_var (pv 3)) (pd_cb (fun h => pe_callTy call_int1 (by rfl) (T.f "int") (by decide +kernel) h) l_int (pda_cons (pd_cmp op_eq l_eq (pd_var (pv 8)) (pd_op op_add l_I0 (pd_var (pv 7)) (pd_int pe_int)) (nomark _)) pda_nil))) (pp_ix (ix_or ix_list ix_tup) (pp_name (pv 6)) (pd_var (pv 8)) (fun _ _ => rfl)) (pd_var (pv 7)))) pdss_nil) (pdss_cut (pds_if (PDW.pt (pdw_and (pdt_cmp op_eq l_eq (pd_var (pv 2)) (pd_int pe_int) (nomark _)) (pdw_and1 (pdt_cmp op_ne l_ne (pd_var (pv 8)) (pd_var (pv 7)) (nomark _))))) (pdss_one (pds_putP (kk := ⟨0, 0, 0, 0⟩) (fun h1 h2 => pg_sub h1 h2 set_list) (pd_int pe_int) (pp_ix (ix_or ix_list ix_tup) (pp_name (pv 6)) (pd_var (pv 8)) (fun _ _ => rfl)) (pd_var (pv 7)))) pdss_nil) (pdss_cut (pds_if (PDW.pt (pdw_and (pdt_cmp op_eq l_eq (pd_var (pv 2)) (pd_int pe_int) (nomark _)) (pdw_and1 (pdt_cmp op_gt l_B0 (pd_var (pv 7)) (pd_var (pv 8)) (nomark _))))) (pdss_one (pds_putP (kk := ⟨0, 0, 0, 0⟩) (fun h1 h2 => pg_sub h1 h2 set_list) (pd_int pe_int) (pp_ix (ix_or ix_list ix_tup) (pp_name (pv 6)) (pd_var (pv 8)) (fun _ _ => rfl)) (pd_var (pv 7)))) pdss_nil) (pdss_cut (pds_if (PDW.pt (pdw_and (pdt_cmp op_eq l_eq (pd_var (pv 2)) (pd_int pe_int) (nomark _)) (pdw_and1 (pdt_cmp op_gt l_B0 (pd_var (pv 7)) (pd_var (pv 8)) (nomark _))))) (pdss_one (pds_putP (kk := ⟨0, 0, 0, 0⟩) (fun h1 h2 => pg_sub h1 h2 set_list) (pd_ixP (ix_or ix_list ix_tup) (pp_ix (ix_or ix_list ix_tup) (pp_name (pv 6)) (pd_var (pv 7)) (fun _ _ => rfl)) (pd_var (pv 8)) (fun _ _ => rfl)) (pp_ix (ix_or ix_list ix_tup) (pp_name (pv 6)) (pd_var (pv 8)) (fun _ _ => rfl)) (pd_var (pv 7)))) pdss_nil) (pdss_cut (pds_if (PDW.pt (pdw_and (pdt_cmp op_eq l_eq (pd_var (pv 2)) (pd_int pe_int) (nomark _)) (pdw_and1 (pdt_cmp op_gt l_B0 (pd_var (pv 7)) (pd_var (pv 8)) (nomark _))))) (pdss_one (pds_putP (kk := ⟨0, 0, 0, 0⟩) (fun h1 h2 => pg_sub h1 h2 set_list) (pd_un un_neg l_U (pd_ixP (ix_or ix_list ix_tup) (pp_ix (ix_or ix_list ix_tup) (pp_name (pv 6)) (pd_var (pv 7)) (fun _ _ => rfl)) (pd_var (pv 8)) (fun _ _ => rfl))) (pp_ix (ix_or ix_list ix_tup) (pp_name (pv 6)) (pd_var (pv 8)) (fun _ _ => rfl)) (pd_var (pv 7)))) pdss_nil) (pdss_cut (pds_if (PDW.pt (pdw_and (pdt_cmp op_eq l_eq (pd_var (pv 2)) (pd_int pe_int) (nomark _)) (pdw_and1 (pdt_cmp op_eq l_eq (pd_var (pv 7)) (pd_var (pv 8)) (nomark _))))) (pdss_one (pds_putP (kk := ⟨0, 0, 0, 0⟩) (fun h1 h2 => pg_sub h1 h2 set_list) (pd_ixP (ix_or ix_list ix_tup) (pp_ix (ix_or ix_list ix_tup) (pp_name (pv 6)) (pd_int pe_int) (fun _ _ => rfl)) (pd_int pe_int) (fun _ _ => rfl)) (pp_ix (ix_or ix_list ix_tup) (pp_name (pv 6)) (pd_var (pv 8)) (fun _ _ => rfl)) (pd_var (pv 7)))) pdss_nil) (pdss_one (pds_if (pdt_cmp op_eq l_eq (pd_var (pv 2)) (pd_int pe_int) (nomark _)) (pdss_one (pds_putP (kk := ⟨0, 0, 0, 0⟩) (fun h1 h2 => pg_sub h1 h2 set_list) (pd_op op_mulZ l_I (pd_op op_mulZ l_I (pd_ix ix_list l_ixL (pd_new (pdn_lst (pda_cons (pd_int pe_int) (pda_cons (pd_int pe_int) (pda_cons (pd_un un_neg l_U (pd_int pe_int)) (pda_cons (pd_int pe_int) pda_nil)))))) (pd_op op_modN l_I (pd_cb (fun h => pe_callTy call_int1 (by rfl) (T.f "int") (by decide +kernel) h) l_int (pda_cons (pd_ix ix_list l_ixL (pd_var (pv 0)) (pd_op op_add l_I0 (pd_int pe_int) (pd_var (pv 8))) (fun _ _ => rfl)) pda_nil)) (pd_int pe_int)) (fun _ _ => rfl)) (pd_var (pv 3))) (pd_cb (fun h => pe_callTy call_int1 (by rfl) (T.f "int") (by decide +kernel) h) l_int (pda_cons (pd_cmp op_eq l_eq (pd_var (pv 8)) (pd_op op_modN l_I (pd_cb (fun h => pe_callTy call_int1 (by rfl) (T.f "int") (by decide +kernel) h) l_int (pda_cons (pd_op op_add l_I0 (pd_var (pv 7)) (pd_int pe_int)) pda_nil)) (pd_var (pv 1))) (nomark _)) pda_nil))) (pp_ix (ix_or ix_list ix_tup) (pp_name (pv 6)) (pd_var (pv 8)) (fun _ _ => rfl)) (pd_var (pv 7)))) pdss_nil))))))))))) (pdss_frzW 6 (pdss_one (pds_ret (pd_tup (pda_cons (pd_var (pv 6)) (pda_cons (pd_var (pv 3)) pda_nil)))))))))), fun ds Q ex h => ?_⟩)
  · obtain ⟨zs, n, rfl, _⟩ := h
    rfl
  · obtain ⟨zs, n, rfl, hzl, hz, n2, n5, q⟩ := h
    obtain ⟨d0, m0, _, x0⟩ := at_ex (l := zs) (k := 0) (by decide) (by omega)
    obtain ⟨d1, m1, _, x1⟩ := at_ex (l := zs) (k := 1) (by decide) (by omega)
    have nn : n * n ≤ 25 := Nat.mul_le_mul n5 n5
    have ec := cut_run (f := D.int) (zs := zs) (k := 2) (n := n * n) (by omega) (by decide) (by omega)
    have mnn : IntMulOk (n : Int) (n : Int) := mulL (by omega) (by omega)
    have hcl : (DL.cutD (zs.map D.int) (some 2) (some (2 + (n : Int) * (n : Int)))).length < sizeLine := by rw [show (2 : Int) = ((2 : Nat) : Int) from rfl, ← Int.natCast_mul, ec, List.length_map]; exact sz100 (by rw [List.length_take, List.length_drop]; omega)
    have ec2 : DL.cutD (zs.map D.int) (some 2) (some (2 + (n : Int) * (n : Int))) = ((zs.drop 2).take (n * n)).map D.int := by
      have := ec
      rw [Int.natCast_mul] at this
      exact this
    have hrl : (rngD 0 (n : Int).toNat).length < sizeLine := by rw [rng_len]; exact sz100 (by omega)
    walk_at "go"
    intro b b1 b6
    walk_at "go"
    rw [ec2]
    refine ⟨fun i z => ∃ u : Int, z = some (.int u) ∧ -32 ≤ u ∧ u ≤ 31, ?_, ?_⟩
    · rintro i x hx
      obtain ⟨z, hz2, rfl⟩ := map_at hx
      obtain ⟨z0, z1⟩ := hz z (List.mem_of_mem_drop (List.mem_of_mem_take (List.mem_of_getElem? hz2)))
      walk_at "go"
      intro v v0 v1
      exact fun _ => ⟨_, rfl, v0, v1⟩
    intro ys hyl hy
    obtain ⟨cs, e, hcl2, hcs⟩ := lc_map D.int (P := fun i v => -32 ≤ v ∧ v ≤ 31) hyl (fun i z h => by
      obtain ⟨u, h1, h2⟩ := hy i z h
      exact ⟨u, h1, h2⟩)
    rw [List.length_map, List.length_take, List.length_drop] at hcl2
    have hcn : cs.length = n * n := by omega
    rw [e]
    clear e hyl hy hcl2
    walk_at "go"
    refine ⟨fun i z => ∃ r : List Int, ((List.range n).map fun i => (List.range n).map fun j => cs.getD (n * i + j) 0)[i]? = some r ∧ z = some (.lst (r.map D.int)), ?_, ?_⟩
    · rintro i x hx
      obtain ⟨hi, rfl⟩ := rng_at hx
      walk_at "go"
      refine ⟨fun j z => ∃ y, ((List.range n).map fun j => cs.getD (n * i + j) 0)[j]? = some y ∧ z = some (.int y), ?_, ?_⟩
      · rintro j y hy
        obtain ⟨hj, rfl⟩ := rng_at hy
        have hi' : i < n := by omega
        have hj' : j < n := by omega
        have hb : n * i + j < n * n := by
          have : n * (i + 1) ≤ n * n := Nat.mul_le_mul_left _ hi'
          rw [Nat.mul_succ] at this
          omega
        have mi : IntMulOk (n : Int) (0 + (i : Int)) := mulL (by omega) (by omega)
        have ek : ((n : Int) * (0 + (i : Int)) + (0 + (j : Int))) = ((n * i + j : Nat) : Int) := by push_cast; rw [Int.zero_add, Int.zero_add]
        have hx : cs[n * i + j]? = some (cs[n * i + j]'(by omega)) := List.getElem?_eq_getElem _
        have ax : atI (cs.map D.int) ((n : Int) * (0 + (i : Int)) + (0 + (j : Int))) = some (.int (cs.getD (n * i + j) 0)) := by
          rw [ek, getD_of hx]
          exact at_map (f := D.int) (by omega) (by rw [Int.toNat_natCast]; exact hx)
        walk_at "go"
        exact fun _ => ⟨_, by rw [List.getElem?_map, List.getElem?_range hj']; rfl, rfl⟩
      intro zs' hl2 hz'
      rw [fm_is (by rw [hl2, rng_len, List.length_map, List.length_range]; omega) hz']
      refine ⟨noLs_ints _, fun _ => ⟨_, by rw [List.getElem?_map, List.getElem?_range (by omega)]; rfl, rfl⟩⟩
    intro zs' hl2 hz'
    rw [fm_is (f := fun r : List Int => D.lst (r.map D.int)) (by rw [hl2, rng_len, List.length_map, List.length_range]; omega) hz']
    have sA : Sh n n ((List.range n).map fun i => (List.range n).map fun j => cs.getD (n * i + j) 0) := ⟨by simp, fun r hr => by
      obtain ⟨i, _, rfl⟩ := List.mem_map.mp hr
      simp⟩
    have bA : BdM 6 ((List.range n).map fun i => (List.range n).map fun j => cs.getD (n * i + j) 0) := fun r hr t ht => by
      obtain ⟨i, _, rfl⟩ := List.mem_map.mp hr
      obtain ⟨j, _, rfl⟩ := List.mem_map.mp ht
      show (cs.getD (n * i + j) 0).natAbs < 2 ^ 6
      rw [List.getD_eq_getElem?_getD]
      cases ee : cs[n * i + j]? with
      | none => decide
      | some x =>
        have := hcs _ x ee
        show x.natAbs < 64
        omega
    generalize ((List.range n).map fun i => (List.range n).map fun j => cs.getD (n * i + j) 0) = A0 at *
    walk_at "go"
    refine ⟨fun i env => ∃ (A : List (List Int)) (u v w : Sl), env = [.val (.lst (zs.map D.int)), .val (.int n), .val (.int (d0.fmod 8)), .val (.int b), .val (.lst (cs.map D.int)), u, .ow (lR A), v, w] ∧ Sh n n A ∧ BdM 6 A, fun _ => ⟨A0, _, _, _, rfl, sA, bA⟩, ?_, ?_⟩
    · clear sA bA
      rintro i x env hx ⟨A, u, v, w, rfl, sA, bA⟩
      obtain ⟨hi, rfl⟩ := rng_at hx
      walk_at "go"
      refine ⟨fun j env => ∃ (A : List (List Int)) (u v : Sl), env = [.val (.lst (zs.map D.int)), .val (.int n), .val (.int (d0.fmod 8)), .val (.int b), .val (.lst (cs.map D.int)), u, .ow (lR A), v, .val (.int (i : Int))] ∧ Sh n n A ∧ BdM 6 A, fun _ => ⟨A, _, _, by rw [Int.zero_add]; rfl, sA, bA⟩, ?_, ?_⟩
      · clear sA bA
        rintro j x env hx ⟨A, u, v, rfl, sA, bA⟩
        obtain ⟨hj, rfl⟩ := rng_at hx
        rw [Int.zero_add]
        have hi' : i < n := by omega
        have hj' : j < n := by omega
        refine ⟨fun env => ∃ (A : List (List Int)), env = [.val (.lst (zs.map D.int)), .val (.int n), .val (.int (d0.fmod 8)), .val (.int b), .val (.lst (cs.map D.int)), u, .ow (lR A), .val (.int (j : Int)), .val (.int (i : Int))] ∧ Sh n n A ∧ BdM 6 A, ?_, ?_⟩
        · walk_at "go"
          refine d_ite (fun c1 => ?_) (fun c1 => ?_)
          · walk_at "go"
            refine d_ite (fun c2 => ?_) (fun c2 => ?_)
            · have hv : (b * (if decide ((i : Int) = (j : Int) + 1) = true then 1 else 0)).natAbs < 2 ^ 6 := by split <;> omega
              have hm : IntMulOk b (if decide ((i : Int) = (j : Int) + 1) = true then 1 else 0) := mulL (by omega) (by omega)
              walk_at "go"
              refine put_at2 rfl rfl sA hi' hj' ?_
              exact fun _ => ⟨_, by rfl, Sh.setM sA i j _, BdM.setM bA i j hv⟩
            · exact fun _ => ⟨A, rfl, sA, bA⟩
          · exact fun _ => ⟨A, rfl, sA, bA⟩
        clear sA bA
        rintro env ⟨A, rfl, sA, bA⟩
        refine ⟨fun env => ∃ (A : List (List Int)), env = [.val (.lst (zs.map D.int)), .val (.int n), .val (.int (d0.fmod 8)), .val (.int b), .val (.lst (cs.map D.int)), u, .ow (lR A), .val (.int (j : Int)), .val (.int (i : Int))] ∧ Sh n n A ∧ BdM 6 A, ?_, ?_⟩
        · walk_at "go"
          refine d_ite (fun c1 => ?_) (fun c1 => ?_)
          · walk_at "go"
            refine d_ite (fun c2 => ?_) (fun c2 => ?_)
            · have hv : (0 : Int).natAbs < 2 ^ 6 := by decide
              walk_at "go"
              refine put_at2 rfl rfl sA hi' hj' ?_
              exact fun _ => ⟨_, by rfl, Sh.setM sA i j _, BdM.setM bA i j hv⟩
            · exact fun _ => ⟨A, rfl, sA, bA⟩
          · exact fun _ => ⟨A, rfl, sA, bA⟩
        clear sA bA
        rintro env ⟨A, rfl, sA, bA⟩
        refine ⟨fun env => ∃ (A : List (List Int)), env = [.val (.lst (zs.map D.int)), .val (.int n), .val (.int (d0.fmod 8)), .val (.int b), .val (.lst (cs.map D.int)), u, .ow (lR A), .val (.int (j : Int)), .val (.int (i : Int))] ∧ Sh n n A ∧ BdM 6 A, ?_, ?_⟩
        · walk_at "go"
          refine d_ite (fun c1 => ?_) (fun c1 => ?_)
          · walk_at "go"
            refine d_ite (fun c2 => ?_) (fun c2 => ?_)
            · have hv : (0 : Int).natAbs < 2 ^ 6 := by decide
              walk_at "go"
              refine put_at2 rfl rfl sA hi' hj' ?_
              exact fun _ => ⟨_, by rfl, Sh.setM sA i j _, BdM.setM bA i j hv⟩
            · exact fun _ => ⟨A, rfl, sA, bA⟩
          · exact fun _ => ⟨A, rfl, sA, bA⟩
        clear sA bA
        rintro env ⟨A, rfl, sA, bA⟩
        refine ⟨fun env => ∃ (A : List (List Int)), env = [.val (.lst (zs.map D.int)), .val (.int n), .val (.int (d0.fmod 8)), .val (.int b), .val (.lst (cs.map D.int)), u, .ow (lR A), .val (.int (j : Int)), .val (.int (i : Int))] ∧ Sh n n A ∧ BdM 6 A, ?_, ?_⟩
        · walk_at "go"
          refine d_ite (fun c1 => ?_) (fun c1 => ?_)
          · walk_at "go"
            refine d_ite (fun c2 => ?_) (fun c2 => ?_)
            · have hv : (en A j i).natAbs < 2 ^ 6 := en_bd bA j i
              walk_at "go"
              refine get_at2 rfl (var_at rfl) sA hj' hi' ?_
              walk_at "go"
              refine put_at2 rfl rfl sA hi' hj' ?_
              exact fun _ => ⟨_, by rfl, Sh.setM sA i j _, BdM.setM bA i j hv⟩
            · exact fun _ => ⟨A, rfl, sA, bA⟩
          · exact fun _ => ⟨A, rfl, sA, bA⟩
        clear sA bA
        rintro env ⟨A, rfl, sA, bA⟩
        refine ⟨fun env => ∃ (A : List (List Int)), env = [.val (.lst (zs.map D.int)), .val (.int n), .val (.int (d0.fmod 8)), .val (.int b), .val (.lst (cs.map D.int)), u, .ow (lR A), .val (.int (j : Int)), .val (.int (i : Int))] ∧ Sh n n A ∧ BdM 6 A, ?_, ?_⟩
        · walk_at "go"
          refine d_ite (fun c1 => ?_) (fun c1 => ?_)
          · walk_at "go"
            refine d_ite (fun c2 => ?_) (fun c2 => ?_)
            · have hv : (-(en A j i)).natAbs < 2 ^ 6 := by rw [Int.natAbs_neg]; exact en_bd bA j i
              walk_at "go"
              refine get_at2 rfl (var_at rfl) sA hj' hi' ?_
              walk_at "go"
              refine put_at2 rfl rfl sA hi' hj' ?_
              exact fun _ => ⟨_, by rfl, Sh.setM sA i j _, BdM.setM bA i j hv⟩
            · exact fun _ => ⟨A, rfl, sA, bA⟩
          · exact fun _ => ⟨A, rfl, sA, bA⟩
        clear sA bA
        rintro env ⟨A, rfl, sA, bA⟩
        refine ⟨fun env => ∃ (A : List (List Int)), env = [.val (.lst (zs.map D.int)), .val (.int n), .val (.int (d0.fmod 8)), .val (.int b), .val (.lst (cs.map D.int)), u, .ow (lR A), .val (.int (j : Int)), .val (.int (i : Int))] ∧ Sh n n A ∧ BdM 6 A, ?_, ?_⟩
        · walk_at "go"
          refine d_ite (fun c1 => ?_) (fun c1 => ?_)
          · walk_at "go"
            refine d_ite (fun c2 => ?_) (fun c2 => ?_)
            · have hv : (en A 0 0).natAbs < 2 ^ 6 := en_bd bA 0 0
              walk_at "go"
              refine get_at2 (i := 0) (j := 0) rfl con_at sA (by omega) (by omega) ?_
              walk_at "go"
              refine put_at2 rfl rfl sA hi' hj' ?_
              exact fun _ => ⟨_, by rfl, Sh.setM sA i j _, BdM.setM bA i j hv⟩
            · exact fun _ => ⟨A, rfl, sA, bA⟩
          · exact fun _ => ⟨A, rfl, sA, bA⟩
        clear sA bA
        rintro env ⟨A, rfl, sA, bA⟩
        obtain ⟨z2, mz2, _, hz2⟩ := at_ex (l := zs) (k := 2 + (i : Int)) (by omega) (by omega)
        obtain ⟨mm, hmm, mm0, mm1⟩ := pick_int (ys := [1, 1, -1, 2]) (n := 4) (lo := -1) (hi := 2) (k := z2.fmod 4) rfl (by decide) (fmod_lo _ (by decide)) (fmod_hi _ (by decide))
        have nz : (n : Int) ≠ 0 := by omega
        have km : IntMulOk mm b := mulL (by omega) (by omega)
        have mb : (mm * b).natAbs < 2 ^ 6 := by
          rw [Int.natAbs_mul]
          exact Nat.lt_of_le_of_lt (Nat.mul_le_mul (show mm.natAbs ≤ 2 by omega) (show b.natAbs ≤ 6 by omega)) (by decide)
        walk_at "go"
        refine d_ite (fun c1 => ?_) (fun c1 => ?_)
        · have hv : (mm * b * (if decide ((i : Int) = ((j : Int) + 1).fmod (n : Int)) = true then 1 else 0)).natAbs < 2 ^ 6 := by
            generalize mm * b = y at *
            split <;> omega
          have hm : IntMulOk (mm * b) (if decide ((i : Int) = ((j : Int) + 1).fmod (n : Int)) = true then 1 else 0) := by
            generalize mm * b = y at *
            exact mulL (by omega) (by omega)
          walk_at "go"
          refine put_at2 rfl rfl sA hi' hj' ?_
          exact fun _ => ⟨_, _, _, by rfl, Sh.setM sA i j _, BdM.setM bA i j hv⟩
        · exact fun _ => ⟨A, _, _, rfl, sA, bA⟩
      · rintro env ⟨A, u, v, rfl, sA, bA⟩
        exact fun _ => ⟨A, _, _, _, rfl, sA, bA⟩
    · rintro env ⟨A, u, v, w, rfl, sA, bA⟩
      walk_at "go"
      exact q A b sA bA b1 b6
end
end K32

namespace K32
open PySem PySem.Spec PyProof.Rows L2 LR DL
section
variable {P : Program} {w : World} {K : PySem.W.Frag} {mg : Str → Option Value} {base : Heap}
local macro_rules | `(tactic| walk_at "side") => `(tactic| first | with_reducible assumption | exact Bsame.mk (by with_reducible rfl) | omega | rfl | assumption | exact ⟨_, rfl⟩ | exact mulL (by omega) (by omega) | exact mulR (by omega) (by omega) | exact mulF (by decide) (by decide) | exact ⟨by decide, by decide +kernel⟩ | decide | exact Nat.le_of_ble_eq_true rfl | (simp only [List.length_cons, List.length_nil, List.length_map, List.nil_append, List.cons_append, sizeLine_eq]; omega) | (simp only [List.map_cons, List.map_nil, List.nil_append, List.cons_append]; decide +kernel))
local macro_rules | `(tactic| walk_at "go") => `(tactic| repeat (first
  | refine ⟨_, rfl, ?_⟩
  | refine ⟨_, _, rfl, rfl, ?_⟩
  | refine ⟨_, _, rfl, ?_⟩
  | refine ⟨_, _, _, rfl, rfl, ?_⟩
  | refine ⟨_, _, _, rfl, ?_⟩
  | refine ⟨_, _, _, _, rfl, rfl, ?_⟩
  | refine ⟨_, _, _, _, rfl, ?_⟩
  | refine ⟨_, _, _, _, _, rfl, ?_⟩
  | refine ⟨_, _, rfl, by assumption, ?_⟩
  | refine ⟨_, _, _, rfl, rfl, rfl, ?_⟩
  | refine ⟨_, _, _, rfl, rfl, by assumption, ?_⟩
  | refine ⟨_, _, _, rfl, rfl, by walk_at "side", by assumption, ?_⟩
  | refine ⟨_, _, _, rfl, rfl, by walk_at "side", rfl, ?_⟩
  | refine ⟨_, _, _, rfl, rfl, rfl, by assumption, ?_⟩
  | refine .inl ⟨_, rfl, ?_⟩
  | refine .inr ⟨_, rfl, ?_⟩
  | refine .inr (.inl ⟨_, rfl, ?_⟩)
  | refine .inr (.inr ⟨_, rfl, ?_⟩)
  | refine ⟨_, .inl rfl, ?_⟩
  | refine ⟨_, .inr rfl, ?_⟩
  | refine .inr ⟨_, _, rfl, ?_⟩
  | refine .inl ⟨_, _, rfl, ?_⟩
  | refine And.intro (by walk_at "side") ?_))


theorem dot_range {r c : List Int} {m : Nat} (hr : r.length = m) (hc : c.length = m) : List.zipWith (fun x y => x * y) r c = (List.range m).map fun k => r.getD k 0 * c.getD k 0 := by
  refine List.ext_getElem? fun i => ?_
  rw [List.getElem?_zipWith, List.getElem?_map]
  by_cases hi : i < m
  · have e1 : r[i]? = some (r[i]'(by omega)) := List.getElem?_eq_getElem _
    have e2 : c[i]? = some (c[i]'(by omega)) := List.getElem?_eq_getElem _
    rw [List.getElem?_range hi, e1, e2]
    show some (r[i]'(by omega) * c[i]'(by omega)) = some (r.getD i 0 * c.getD i 0)
    rw [getD_of e1, getD_of e2]
  · rw [List.getElem?_eq_none (show r.length ≤ i by omega), List.getElem?_eq_none (l := List.range m) (by rw [List.length_range]; omega)]
    rfl
theorem take_snoc {α : Type} {l : List α} {i : Nat} {x : α} (h : l[i]? = some x) : l.take (i + 1) = l.take i ++ [x] := by
  have hi := (List.getElem?_eq_some_iff.mp h).1
  rw [List.take_succ_eq_append_getElem hi, (List.getElem?_eq_some_iff.mp h).2]
def P_law_mul : Prm := fun ds Q _ => ∃ (A : List (List Int)) (b : Int) (B : List (List Int)) (c : Int) (h m w : Nat), ds = [MB A b, MB B c] ∧ Sh h m A ∧ Sh m w B ∧ 0 < m ∧ h ≤ 4000 ∧ m ≤ 4000 ∧ w ≤ 4000 ∧ BdM 9000 A ∧ BdM 9000 B ∧ b.natAbs < 2 ^ 9000 ∧ c.natAbs < 2 ^ 9000 ∧ Q (MB (mulM A B w) (b * c))
def P_law_unit : Prm := fun ds Q _ => ∃ (n : Nat), ds = [.int n] ∧ n ≤ 4000 ∧ Q (MB (unitM n) 1)
def P_law_trace : Prm := fun ds Q _ => ∃ (A : List (List Int)) (b : Int) (n : Nat), ds = [MB A b] ∧ Sh n n A ∧ n ≤ 4000 ∧ Q (.tup [.int (traI A), .int b])
def P_law_great : Prm := fun ds Q _ => ∃ (ns : List Int) (k : Int), ds = [.lst (ns.map D.int), .int k] ∧ ns.length ≤ 63 ∧ 0 ≤ k ∧ k ≤ 100 ∧ ∀ A : List (List Int), Sh 2 2 A → BdM 50 A → Q (lR A)

theorem fn_law_mul (T : Txt LL K mg) (M : Mo3 cs sms cis mxs exs K mg) : Nonempty (FnF P w K mg base (d_law_mul.at_ K) 1 2 P_law_mul) := by
  refine FnF.of (T.d 48 (d := d_law_mul)) sc_law_mul rfl (fun _ _ _ _ _ _ us hl => match us, hl with | [_, _], _ => rfl) (fun ds Q ex h => ?_) (fun fd cdv A outer s H E hr => ⟨_, pdss_cons (pds_setF (i := 2) sc_law_mul.nd rfl (by first | exact Or.inl rfl | exact Or.inr rfl) (pf_new (pdn_lst pda_nil))) (pdss_cons (pds_for (passes_of rfl) rfl (pdi_list (pd_ix ix_tup l_ixT (pd_var (pv 0)) (pd_int pe_int) (fun _ _ => rfl))) (pdg_name (pg_name (i := 3) sc_law_mul.nd rfl (by first | exact Or.inl rfl | exact Or.inr rfl))) (pdss_cons (pds_setN (i := 4) sc_law_mul.nd rfl (by first | exact Or.inl rfl | exact Or.inr rfl) (pdn_lst pda_nil)) (pdss_cons (pds_for (passes_of rfl) rfl (pdi_range1 rfl (T.f "range") (pda_cons (pd_cb (fun h => pe_callB call_len (by rfl) (T.f "len") (by decide +kernel) h) l_len (pda_cons (pd_ix ix_list l_ixL (pd_ix ix_tup l_ixT (pd_var (pv 1)) (pd_int pe_int) (fun _ _ => rfl)) (pd_int pe_int) (fun _ _ => rfl)) pda_nil)) pda_nil)) (pdg_name (pg_name (i := 5) sc_law_mul.nd rfl (by first | exact Or.inl rfl | exact Or.inr rfl))) (pdss_one (pds_app (i := 4) (te := id) (p1 := ⟨0, 0, 0, 0⟩) (p2 := ⟨0, 0, 0, 0⟩) (p3 := ⟨0, 0, 0, 0⟩) (x := "") (fun h => pe_bm PySem.F.plainAttrs_list PySem.F.slot_list_append PySem.F.type_list_append mt_append (pv 4) (pa_cons h pa_nil)) (pd_cb (fun h => pe_callB (cr_sum rfl) (by rfl) (T.f "sum") (by decide +kernel) h) l_sum (pda_cons (pd_new (pdn_lc (own := [("k", 6)]) rfl sc_law_mul.nd (pdi_range1 rfl (T.f "range") (pda_cons (pd_cb (fun h => pe_callB call_len (by rfl) (T.f "len") (by decide +kernel) h) l_len (pda_cons (pd_var (pv 3)) pda_nil)) pda_nil)) (blkOk_by (N := ["a", "b", "rows", "line", "out", "j", "k"]) (sc := defScope s_law_mul) (by decide +kernel)) (by decide) (fun _ _ _ _ _ => (pdg_name (pg_name (i := 6) sc_law_mul.nd rfl (by first | exact Or.inl rfl | exact Or.inr rfl)))) (fun _ _ _ _ _ => pdts_nil) (fun _ _ _ _ _ => pd_op op_mulZ l_I (pd_ix ix_list l_ixL (pd_var (pv 3)) (pd_var (pv 6)) (fun _ _ => rfl)) (pd_ix ix_list l_ixL (pd_ix ix_list l_ixL (pd_ix ix_tup l_ixT (pd_var (pv 1)) (pd_int pe_int) (fun _ _ => rfl)) (pd_var (pv 6)) (fun _ _ => rfl)) (pd_var (pv 5)) (fun _ _ => rfl))))) pda_nil))))) (pdss_one (pds_appF (i := 2) (fun h => pe_bm PySem.F.plainAttrs_list PySem.F.slot_list_append PySem.F.type_list_append mt_append (pv 2) (pa_cons h pa_nil)) (pf_moveL (pv 4))))))) (pdss_one (pds_retF (pf_tup (pfa_cons (pf_move (pv 2)) (pfa_cons (pf_leaf (pd_op op_mulZ l_I (pd_ix ix_tup l_ixT (pd_var (pv 0)) (pd_int pe_int) (fun _ _ => rfl)) (pd_ix ix_tup l_ixT (pd_var (pv 1)) (pd_int pe_int) (fun _ _ => rfl)))) pfa_nil)))))), fun ds Q ex h => ?_⟩)
  · obtain ⟨A, b, B, c, h, m, w, rfl, _⟩ := h
    rfl
  · obtain ⟨A, b, B, c, hh, m, w, rfl, sA, sB, m0, h4, m4, w4, bA, bB, sb, sc, q⟩ := h
    obtain ⟨r0, e1, e2, _⟩ : ∃ r, B[0]? = some r ∧ r.length = w ∧ True := by
      have : B[0]? = some (B[0]'(by rw [sB.1]; exact m0)) := List.getElem?_eq_getElem _
      exact ⟨_, this, sB.2 _ (List.mem_of_getElem? this), trivial⟩
    have a0 : atI (B.map fun r => D.lst (r.map D.int)) 0 = some (.lst (r0.map D.int)) := at_map (f := fun r : List Int => D.lst (r.map D.int)) (by decide) e1
    have lA : A.length = hh := sA.1
    have mbc : IntMulOk b c := mulBig sb sc
    walk_at "go"
    refine ⟨fun i env => ∃ (u3 u4 u5 u6 : Sl), env = [.val (MB A b), .val (MB B c), .ow (lR ((mulM A B w).take i)), u3, u4, u5, u6], fun _ => ⟨_, _, _, _, rfl⟩, ?_, ?_⟩
    · rintro i x env hx ⟨u3, u4, u5, u6, rfl⟩
      obtain ⟨r, hr, rfl⟩ := map_at hx
      have rl := sA.2 r (List.mem_of_getElem? hr)
      have hi := (List.getElem?_eq_some_iff.mp hr).1
      have bR := bA r (List.mem_of_getElem? hr)
      have rls : (r.map D.int).length = m := by rw [List.length_map]; exact rl
      have hrl2 : (rngD 0 (((r.map D.int).length : Nat) : Int).toNat).length < sizeLine := by rw [rng_len]; exact sz100 (by omega)
      have hml : (rngD 0 (((r0.map D.int).length : Nat) : Int).toNat).length = w := by rw [rng_len, List.length_map, e2]; omega
      walk_at "go"
      refine ⟨fun j env => ∃ (u5 u6 : Sl), env = [.val (MB A b), .val (MB B c), .ow (lR ((mulM A B w).take i)), .val (.lst (r.map D.int)), .own ((((List.range w).map fun j => dotI r (colI B j)).take j).map D.int), u5, u6], fun _ => ⟨_, _, rfl⟩, ?_, ?_⟩
      · rintro j y env hy ⟨u5, u6, rfl⟩
        obtain ⟨hj, rfl⟩ := rng_at hy
        rw [List.length_map, e2] at hj
        have hj' : j < w := by omega
        have row_j : ((List.range w).map fun j => dotI r (colI B j))[j]? = some (dotI r (colI B j)) := by rw [List.getElem?_map, List.getElem?_range hj']; rfl
        have tk : (((List.range w).map fun j => dotI r (colI B j)).take j).map D.int ++ [D.int (dotI r (colI B j))] = (((List.range w).map fun j => dotI r (colI B j)).take (j + 1)).map D.int := by rw [take_snoc row_j, List.map_append]; rfl
        rw [Int.zero_add]
        walk_at "go"
        refine ⟨fun k z => ∃ y, ((List.range m).map fun k => r.getD k 0 * (colI B j).getD k 0)[k]? = some y ∧ z = some (.int y), ?_, ?_⟩
        · rintro k y hy
          obtain ⟨hk, rfl⟩ := rng_at hy
          rw [rls] at hk
          have hk' : k < m := by omega
          obtain ⟨rk, b1, b2, b3⟩ := sB.at hk' hj'
          have er : r[k]? = some (r[k]'(by omega)) := List.getElem?_eq_getElem _
          have aA : atI (r.map D.int) (k : Int) = some (.int (r.getD k 0)) := by
            rw [getD_of er]
            exact at_map (f := D.int) (by omega) (by rw [Int.toNat_natCast]; exact er)
          have aB : atI (B.map fun r => D.lst (r.map D.int)) (k : Int) = some (.lst (rk.map D.int)) := at_map (f := fun r : List Int => D.lst (r.map D.int)) (by omega) (by rw [Int.toNat_natCast]; exact b1)
          have aBj : atI (rk.map D.int) (j : Int) = some (.int (en B k j)) := at_map (f := D.int) (by omega) (by rw [Int.toNat_natCast]; exact b3)
          have mk : IntMulOk (r.getD k 0) (en B k j) := mulBig (by rw [getD_of er]; exact bR _ (List.mem_of_getElem? er)) (en_bd bB k j)
          rw [Int.zero_add]
          walk_at "go"
          exact fun _ => ⟨_, by rw [List.getElem?_map, List.getElem?_range hk']; show some (r.getD k 0 * (colI B j).getD k 0) = _; rw [col_at], rfl⟩
        intro zs hzl hz
        rw [fm_is (by rw [hzl, rng_len, rls, List.length_map, List.length_range]; omega) hz, ← dot_range rl (by unfold colI; rw [List.length_map, sB.1])]
        walk_at "go"
        refine ⟨sz100 (by rw [List.length_map, List.length_take, List.length_map, List.length_range]; omega), fun _ => ⟨_, _, by rw [← tk]; rfl⟩⟩
      · rintro env ⟨u5, u6, rfl⟩
        rw [hml, show ((List.range w).map fun j => dotI r (colI B j)).take w = (List.range w).map fun j => dotI r (colI B j) by rw [List.take_of_length_le]; rw [List.length_map, List.length_range]; exact Nat.le_refl _]
        walk_at "go"
        have tkA : ((mulM A B w).take i).map (fun r => D.lst (r.map D.int)) ++ [D.lst (((List.range w).map fun j => dotI r (colI B j)).map D.int)] = ((mulM A B w).take (i + 1)).map fun r => D.lst (r.map D.int) := by rw [take_snoc (mul_row hr), List.map_append]; rfl
        refine ⟨noLs_ints _, sz100 (by rw [List.length_map, List.length_take]; unfold mulM; rw [List.length_map]; omega), fun _ => ⟨_, _, _, _, by rw [show lR ((mulM A B w).take (i + 1)) = D.lst (((mulM A B w).take (i + 1)).map fun r => D.lst (r.map D.int)) from rfl, ← tkA]; rfl⟩⟩
    · rintro env ⟨u3, u4, u5, u6, rfl⟩
      rw [List.length_map, show (mulM A B w).take A.length = mulM A B w by rw [List.take_of_length_le]; unfold mulM; rw [List.length_map]; exact Nat.le_refl _]
      walk_at "go"
      exact q

theorem fn_law_unit (T : Txt LL K mg) (M : Mo3 cs sms cis mxs exs K mg) : Nonempty (Fn P w K mg base (d_law_unit.at_ K) 1 1 P_law_unit) := by
  refine Fn.of (T.d 49 (d := d_law_unit)) sc_law_unit rfl (fun _ _ _ _ _ _ us hl => match us, hl with | [_], _ => rfl) (fun ds Q ex h => ?_) (fun fd cdv A outer s H E hr => ⟨_, pdss_one (pds_ret (pd_tup (pda_cons (pd_new (pdn_lc (own := [("i", 2)]) rfl sc_law_unit.nd (pdi_range1 rfl (T.f "range") (pda_cons (pd_var (pv 0)) pda_nil)) (blkOk_by (N := ["size", "j", "i"]) (sc := defScope s_law_unit) (by decide +kernel)) (by decide) (fun _ _ _ _ _ => (pdg_name (pg_name (i := 2) sc_law_unit.nd rfl (by first | exact Or.inl rfl | exact Or.inr rfl)))) (fun _ _ _ _ _ => pdts_nil) (fun _ _ _ _ _ => pd_new (pdn_lc (own := [("j", 1)]) rfl sc_law_unit.nd (pdi_range1 rfl (T.f "range") (pda_cons (pd_var (pv 0)) pda_nil)) (blkOk_in (N := ["size", "j", "i"]) (by decide +kernel)) (by decide) (fun _ _ _ _ _ => (pdg_name (pg_name (i := 1) sc_law_unit.nd rfl (by first | exact Or.inl rfl | exact Or.inr rfl)))) (fun _ _ _ _ _ => pdts_nil) (fun _ _ _ _ _ => pd_cb (fun h => pe_callTy call_int1 (by rfl) (T.f "int") (by decide +kernel) h) l_int (pda_cons (pd_cmp op_eq l_eq (pd_var (pv 2)) (pd_var (pv 1)) (nomark _)) pda_nil)))))) (pda_cons (pd_int pe_int) pda_nil)))), fun ds Q ex h => ?_⟩)
  · obtain ⟨n, rfl, _⟩ := h
    rfl
  · obtain ⟨n, rfl, n4, q⟩ := h
    have hrl : (rngD 0 (n : Int).toNat).length < sizeLine := by rw [rng_len]; exact sz100 (by omega)
    walk_at "go"
    refine ⟨fun i z => ∃ r : List Int, (unitM n)[i]? = some r ∧ z = some (.lst (r.map D.int)), ?_, ?_⟩
    · rintro i x hx
      obtain ⟨hi, rfl⟩ := rng_at hx
      walk_at "go"
      refine ⟨fun j z => ∃ y, ((List.range n).map fun j => if i = j then (1 : Int) else 0)[j]? = some y ∧ z = some (.int y), ?_, ?_⟩
      · rintro j y hy
        obtain ⟨hj, rfl⟩ := rng_at hy
        have e : ((List.range n).map fun j => if i = j then (1 : Int) else 0)[j]? = some (if i = j then (1 : Int) else 0) := by rw [List.getElem?_map, List.getElem?_range (by omega)]; rfl
        walk_at "go"
        refine fun _ => ⟨_, e, ?_⟩
        by_cases hp : i = j
        · rw [decide_eq_true (show (0 : Int) + (i : Int) = 0 + (j : Int) by omega), if_pos hp]
          rfl
        · rw [decide_eq_false (show ¬ (0 : Int) + (i : Int) = 0 + (j : Int) by omega), if_neg hp]
          rfl
      intro zs hl2 hz
      rw [fm_is (by rw [hl2, rng_len, List.length_map, List.length_range]; omega) hz]
      exact fun _ => ⟨_, unit_row (by omega), rfl⟩
    intro zs hl2 hz
    rw [fm_is (f := fun r : List Int => D.lst (r.map D.int)) (by rw [hl2, rng_len, (Sh.unit n).1]; omega) hz]
    walk_at "go"
    exact q

theorem fn_law_trace (T : Txt LL K mg) (M : Mo3 cs sms cis mxs exs K mg) : Nonempty (Fn P w K mg base (d_law_trace.at_ K) 1 1 P_law_trace) := by
  refine Fn.of (T.d 51 (d := d_law_trace)) sc_law_trace rfl (fun _ _ _ _ _ _ us hl => match us, hl with | [_], _ => rfl) (fun ds Q ex h => ?_) (fun fd cdv A outer s H E hr => ⟨_, pdss_one (pds_ret (pd_tup (pda_cons (pd_cb (fun h => pe_callB (cr_sum rfl) (by rfl) (T.f "sum") (by decide +kernel) h) l_sum (pda_cons (pd_new (pdn_lc (own := [("i", 1)]) rfl sc_law_trace.nd (pdi_range1 rfl (T.f "range") (pda_cons (pd_cb (fun h => pe_callB call_len (by rfl) (T.f "len") (by decide +kernel) h) l_len (pda_cons (pd_ix ix_tup l_ixT (pd_var (pv 0)) (pd_int pe_int) (fun _ _ => rfl)) pda_nil)) pda_nil)) (blkOk_by (N := ["a", "i"]) (sc := defScope s_law_trace) (by decide +kernel)) (by decide) (fun _ _ _ _ _ => (pdg_name (pg_name (i := 1) sc_law_trace.nd rfl (by first | exact Or.inl rfl | exact Or.inr rfl)))) (fun _ _ _ _ _ => pdts_nil) (fun _ _ _ _ _ => pd_ix ix_list l_ixL (pd_ix ix_list l_ixL (pd_ix ix_tup l_ixT (pd_var (pv 0)) (pd_int pe_int) (fun _ _ => rfl)) (pd_var (pv 1)) (fun _ _ => rfl)) (pd_var (pv 1)) (fun _ _ => rfl)))) pda_nil)) (pda_cons (pd_ix ix_tup l_ixT (pd_var (pv 0)) (pd_int pe_int) (fun _ _ => rfl)) pda_nil)))), fun ds Q ex h => ?_⟩)
  · obtain ⟨A, b, n, rfl, _⟩ := h
    rfl
  · obtain ⟨A, b, n, rfl, sA, n4, q⟩ := h
    have lA : (A.map fun r => D.lst (r.map D.int)).length = n := by rw [List.length_map]; exact sA.1
    have hrl : (rngD 0 (((A.map fun r => D.lst (r.map D.int)).length : Nat) : Int).toNat).length < sizeLine := by rw [rng_len]; exact sz100 (by omega)
    walk_at "go"
    refine ⟨fun i z => ∃ y, ((List.range A.length).map fun i => en A i i)[i]? = some y ∧ z = some (.int y), ?_, ?_⟩
    · rintro i x hx
      obtain ⟨hi, rfl⟩ := rng_at hx
      rw [lA] at hi
      have hi' : i < n := by omega
      obtain ⟨r, e1, e2, e3⟩ := sA.at hi' hi'
      have a1 : atI (A.map fun r => D.lst (r.map D.int)) (i : Int) = some (.lst (r.map D.int)) := at_map (f := fun r : List Int => D.lst (r.map D.int)) (by omega) (by rw [Int.toNat_natCast]; exact e1)
      have a2 : atI (r.map D.int) (i : Int) = some (.int (en A i i)) := at_map (f := D.int) (by omega) (by rw [Int.toNat_natCast]; exact e3)
      rw [Int.zero_add]
      walk_at "go"
      exact fun _ => ⟨_, by rw [List.getElem?_map, List.getElem?_range (by rw [sA.1]; exact hi')]; rfl, rfl⟩
    intro zs hl2 hz
    rw [fm_is (by rw [hl2, rng_len, lA, List.length_map, List.length_range, sA.1]; omega) hz]
    walk_at "go"
    exact q

theorem fn_law_great (T : Txt LL K mg) (M : Mo3 cs sms cis mxs exs K mg) : Nonempty (Fn P w K mg base (d_law_great.at_ K) 2 2 P_law_great) := by
  obtain ⟨F_law_cell⟩ := fn_law_cell (P := P) (w := w) (base := base) T M
  refine Fn.of (T.d 57 (d := d_law_great)) sc_law_great rfl (fun _ _ _ _ _ _ us hl => match us, hl with | [_, _], _ => rfl) (fun ds Q ex h => ?_) (fun fd cdv A outer s H E hr => ⟨_, pdss_cons (pds_setN (i := 2) sc_law_great.nd rfl (by first | exact Or.inl rfl | exact Or.inr rfl) (pdn_lst pda_nil)) (pdss_cons (pds_for (passes_of rfl) rfl (pdi_range1 rfl (T.f "range") (pda_cons (pd_int pe_int) pda_nil)) (pdg_name (pg_name (i := 3) sc_law_great.nd rfl (by first | exact Or.inl rfl | exact Or.inr rfl))) (pdss_cons (pds_setN (i := 4) sc_law_great.nd rfl (by first | exact Or.inl rfl | exact Or.inr rfl) (pdn_lst pda_nil)) (pdss_cons (pds_for (passes_of rfl) rfl (pdi_range1 rfl (T.f "range") (pda_cons (pd_int pe_int) pda_nil)) (pdg_name (pg_name (i := 5) sc_law_great.nd rfl (by first | exact Or.inl rfl | exact Or.inr rfl))) (pdss_cons (pds_set (i := 6) sc_law_great.nd rfl (by first | exact Or.inl rfl | exact Or.inr rfl) (pd_call F_law_cell (hr.mono (by decide)) (by rfl) (T.g "_law_cell") (T.k "_law_cell") (takes_of rfl rfl rfl rfl) (pda_cons (pd_var (pv 0)) (pda_cons (pd_op op_add l_I0 (pd_op op_add l_I0 (pd_var (pv 1)) (pd_op op_mulZ l_I (pd_int pe_int) (pd_var (pv 3)))) (pd_var (pv 5))) pda_nil)))) (pdss_one (pds_app (i := 4) (te := id) (p1 := ⟨0, 0, 0, 0⟩) (p2 := ⟨0, 0, 0, 0⟩) (p3 := ⟨0, 0, 0, 0⟩) (x := "") (fun h => pe_bm PySem.F.plainAttrs_list PySem.F.slot_list_append PySem.F.type_list_append mt_append (pv 4) (pa_cons h pa_nil)) (pd_op op_sub l_I0 (pd_op op_modN l_I (pd_cb (fun h => pe_callTy call_int1 (by rfl) (T.f "int") (by decide +kernel) h) l_int (pda_cons (pd_var (pv 6)) pda_nil)) (pd_op op_sub l_I0 (pd_op op_mulZ l_I (pd_int pe_int) (pd_op op_powZ l_I (pd_int pe_int) (pd_int pe_int))) (pd_int pe_int))) (pd_op op_sub l_I0 (pd_op op_powZ l_I (pd_int pe_int) (pd_int pe_int)) (pd_int pe_int))))))) (pdss_frz 4 (pdss_one (pds_app (i := 2) (te := id) (p1 := ⟨0, 0, 0, 0⟩) (p2 := ⟨0, 0, 0, 0⟩) (p3 := ⟨0, 0, 0, 0⟩) (x := "") (fun h => pe_bm PySem.F.plainAttrs_list PySem.F.slot_list_append PySem.F.type_list_append mt_append (pv 2) (pa_cons h pa_nil)) (pd_var (pv 4)))))))) (pdss_frz 2 (pdss_one (pds_ret (pd_var (pv 2)))))), fun ds Q ex h => ?_⟩)
  · obtain ⟨ns, k, rfl, _⟩ := h
    rfl
  · obtain ⟨ns, k, rfl, hns, k0, k1, q⟩ := h
    walk_at "go"
    refine ⟨fun i env => ∃ (A : List (List Int)) (u3 u4 u5 u6 : Sl), env = [.val (.lst (ns.map D.int)), .val (.int k), .own (A.map fun r => D.lst (r.map D.int)), u3, u4, u5, u6] ∧ Sh i 2 A ∧ BdM 50 A, fun _ => ⟨[], _, _, _, _, rfl, ⟨rfl, fun r hr => by cases hr⟩, fun r hr => by cases hr⟩, ?_, ?_⟩
    · rintro i x env hx ⟨A, u3, u4, u5, u6, rfl, sA, bA⟩
      obtain ⟨hi, rfl⟩ := rng_at hx
      have hi' : (i : Int) < 2 := by omega
      rw [Int.zero_add]
      walk_at "go"
      refine ⟨fun j env => ∃ (r : List Int) (u5 u6 : Sl), env = [.val (.lst (ns.map D.int)), .val (.int k), .own (A.map fun r => D.lst (r.map D.int)), .val (.int (i : Int)), .own (r.map D.int), u5, u6] ∧ r.length = j ∧ Bd 50 r, fun _ => ⟨[], _, _, rfl, rfl, fun t ht => by cases ht⟩, ?_, ?_⟩
      · rintro j y env hy ⟨r, u5, u6, rfl, hr, br⟩
        obtain ⟨hj, rfl⟩ := rng_at hy
        have hj' : (j : Int) < 2 := by omega
        have mi : IntMulOk 2 (i : Int) := mulL (by omega) (by omega)
        rw [Int.zero_add]
        walk_at "go"
        intro v v0
        walk_at "go"
        obtain ⟨x, hx, x0⟩ : ∃ x : Int, v.fmod (2 * (fun (i j : Int) => i ^ j.toNat) 10 15 - 1) - ((fun (i j : Int) => i ^ j.toNat) 10 15 - 1) = x ∧ x.natAbs < 2 ^ 50 := ⟨_, rfl, by
          show (v.fmod 1999999999999999 - 999999999999999).natAbs < 2 ^ 50
          have f0 := fmod_lo v (j := 1999999999999999) (by decide)
          have f1 := fmod_hi v (j := 1999999999999999) (by decide)
          omega⟩
        rw [hx]
        refine fun _ => ⟨r ++ [x], _, _, by rw [List.map_append]; rfl, by simp [hr], fun t ht => ?_⟩
        rcases List.mem_append.mp ht with ht | ht
        · exact br t ht
        · rw [List.mem_singleton.mp ht]
          exact x0
      · rintro env ⟨r, u5, u6, rfl, hr, br⟩
        rw [rng_len] at hr
        have hr2 : r.length = 2 := hr
        have lA := sA.1
        walk_at "go"
        refine fun _ => ⟨A ++ [r], _, _, _, _, by rw [List.map_append]; rfl, ⟨by simp [lA], fun s hs => ?_⟩, fun s hs => ?_⟩
        · rcases List.mem_append.mp hs with hs | hs
          · exact sA.2 s hs
          · rw [List.mem_singleton.mp hs]
            exact hr2
        · rcases List.mem_append.mp hs with hs | hs
          · exact bA s hs
          · rw [List.mem_singleton.mp hs]
            exact br
    · rintro env ⟨A, u3, u4, u5, u6, rfl, sA, bA⟩
      walk_at "go"
      exact q A sA bA
end
end K32

namespace K32
open PySem PySem.Spec PyProof.Rows L2 LR DL
section
variable {P : Program} {w : World} {K : PySem.W.Frag} {mg : Str → Option Value} {base : Heap}
local macro_rules | `(tactic| walk_at "side") => `(tactic| first | with_reducible assumption | exact Bsame.mk (by with_reducible rfl) | omega | rfl | assumption | exact ⟨_, rfl⟩ | exact mulL (by omega) (by omega) | exact mulR (by omega) (by omega) | exact mulF (by decide) (by decide) | exact ⟨by decide, by decide +kernel⟩ | decide | exact Nat.le_of_ble_eq_true rfl | (simp only [List.length_cons, List.length_nil, List.length_map, List.nil_append, List.cons_append, sizeLine_eq]; omega) | (simp only [List.map_cons, List.map_nil, List.nil_append, List.cons_append]; decide +kernel))
local macro_rules | `(tactic| walk_at "go") => `(tactic| repeat (first
  | refine ⟨_, rfl, ?_⟩
  | refine ⟨_, _, rfl, rfl, ?_⟩
  | refine ⟨_, _, rfl, ?_⟩
  | refine ⟨_, _, _, rfl, rfl, ?_⟩
  | refine ⟨_, _, _, rfl, ?_⟩
  | refine ⟨_, _, _, _, rfl, rfl, ?_⟩
  | refine ⟨_, _, _, _, rfl, ?_⟩
  | refine ⟨_, _, _, _, _, rfl, ?_⟩
  | refine ⟨_, _, rfl, by assumption, ?_⟩
  | refine ⟨_, _, _, rfl, rfl, rfl, ?_⟩
  | refine ⟨_, _, _, rfl, rfl, by assumption, ?_⟩
  | refine ⟨_, _, _, rfl, rfl, by walk_at "side", by assumption, ?_⟩
  | refine ⟨_, _, _, rfl, rfl, by walk_at "side", rfl, ?_⟩
  | refine ⟨_, _, _, rfl, rfl, rfl, by assumption, ?_⟩
  | refine .inl ⟨_, rfl, ?_⟩
  | refine .inr ⟨_, rfl, ?_⟩
  | refine .inr (.inl ⟨_, rfl, ?_⟩)
  | refine .inr (.inr ⟨_, rfl, ?_⟩)
  | refine ⟨_, .inl rfl, ?_⟩
  | refine ⟨_, .inr rfl, ?_⟩
  | refine .inr ⟨_, _, rfl, ?_⟩
  | refine .inl ⟨_, _, rfl, ?_⟩
  | refine And.intro (by walk_at "side") ?_))


/-- what the law's own value is -/
structure LvOk (K Kp n : Nat) (ts : List Int) (c : Int) (A : List (List Int)) (b : Int) (H : List (List Int)) (h : Int) : Prop where
  sh : Sh n n H
  ne : h ≠ 0
  bd : BdM (1 + ts.length * (K + Kp + 6)) H
  sb : h.natAbs < 2 ^ (1 + ts.length * K + Kp)
  val : EqM n n (VM H h) (polR n ts c (VM A b))
def P_law_value : Prm := fun ds Q _ => ∃ (ts : List Int) (c : Int) (A : List (List Int)) (b : Int) (n K Kp : Nat), ds = [TB ts c, MB A b] ∧ Sh n n A ∧ 0 < n ∧ n ≤ 12 ∧ b ≠ 0 ∧ c ≠ 0 ∧ BdM K A ∧ b.natAbs < 2 ^ K ∧ Bd Kp ts ∧ c.natAbs < 2 ^ Kp ∧ ts.length ≤ 4000 ∧ 1 + ts.length * (K + Kp + 6) + Kp ≤ 8900 ∧ ∀ (H : List (List Int)) (h : Int), LvOk K Kp n ts c A b H h → Q (MB H h)

abbrev mbD (A : List (List Int)) (h : Int) : D := .tup [lR A, .int h]
theorem get_at3 {env : DE} {ti tj : DT} {s : Nat} {A : List (List Int)} {c : Int} {h w i j : Nat} {Q : D → Prop} {e1 e2 : EX} (he : env[s]? = some (.ow (mbD A c))) (ha : ∀ P e, P (.int (i : Int)) → ti env P e) (hb : ∀ P e, P (.int (j : Int)) → tj env P e) (sA : Sh h w A) (i1 : i < h) (j1 : j < w)
    (q : Q (.int (en A i j))) : ∃ k j0 d m, D.int 0 = .int k ∧ env[s]? = some (.ow d) ∧ listAt d [] m ∧ ixN m.length k = some j0 ∧ ti env (fun y => ∃ k j1 d m, y = .int k ∧ env[s]? = some (.ow d) ∧ listAt d ([] ++ [j0]) m ∧ ixN m.length k = some j1 ∧
      tj env (fun y => ∃ k j d m x, y = .int k ∧ env[s]? = some (.ow d) ∧ listAt d (([] ++ [j0]) ++ [j1]) m ∧ ixN m.length k = some j ∧ m[j]? = some x ∧ noL x = true ∧ Q x) e1) e2 := by
  obtain ⟨r, h1, h2, h3⟩ := sA.at i1 j1
  exact ⟨0, 0, mbD A c, _, rfl, he, ⟨_, rfl, rfl, .inr rfl⟩, rfl, ha _ _ ⟨i, i, mbD A c, _, rfl, he, ⟨lR A, rfl, rfl, .inl rfl⟩, ixN_n (by rw [List.length_map, sA.1]; exact i1), hb _ _ ⟨j, j, mbD A c, r.map D.int, .int (en A i j), rfl, he, ⟨_, node_row h1, rfl, .inl rfl⟩, ixN_n (by rw [List.length_map, h2]; exact j1), by rw [List.getElem?_map, h3]; rfl, rfl, q⟩⟩⟩
theorem get_bot {env : DE} {s : Nat} {A : List (List Int)} {c : Int} {Q : D → Prop} (he : env[s]? = some (.ow (mbD A c))) (q : Q (.int c)) : ∃ k j d m x, D.int 1 = .int k ∧ env[s]? = some (.ow d) ∧ listAt d [] m ∧ ixN m.length k = some j ∧ m[j]? = some x ∧ noL x = true ∧ Q x :=
  ⟨1, 1, mbD A c, _, _, rfl, he, ⟨_, rfl, rfl, .inr rfl⟩, rfl, rfl, rfl, q⟩
theorem put_at3 {env : DE} {ti tj : DT} {s : Nat} {A : List (List Int)} {c v : Int} {h w i j : Nat} {N : DE → Prop} {e1 e2 : EX} (he : env[s]? = some (.ow (mbD A c))) (ha : ∀ P e, P (.int (i : Int)) → ti env P e) (hb : ∀ P e, P (.int (j : Int)) → tj env P e) (sA : Sh h w A) (i1 : i < h) (j1 : j < w)
    (q : N (env.set s (.ow (mbD (K32.setM A i j v) c)))) : ∃ k j0 d m, D.int 0 = .int k ∧ env[s]? = some (.ow d) ∧ listAt d [] m ∧ ixN m.length k = some j0 ∧ ti env (fun y => ∃ k j1 d m, y = .int k ∧ env[s]? = some (.ow d) ∧ listAt d ([] ++ [j0]) m ∧ ixN m.length k = some j1 ∧
      tj env (fun y => ∃ k j d l, y = .int k ∧ env[s]? = some (.ow d) ∧ nodeD d (([] ++ [j0]) ++ [j1]) = some (.lst l) ∧ ixN l.length k = some j ∧ (∀ z, l[j]? = some z → noL z = true) ∧ N (env.set s (.ow (modD (fun l => l.set j (.int v)) (([] ++ [j0]) ++ [j1]) d)))) e1) e2 := by
  obtain ⟨r, h1, h2, h3⟩ := sA.at i1 j1
  refine ⟨0, 0, mbD A c, _, rfl, he, ⟨_, rfl, rfl, .inr rfl⟩, rfl, ha _ _ ⟨i, i, mbD A c, _, rfl, he, ⟨lR A, rfl, rfl, .inl rfl⟩, ixN_n (by rw [List.length_map, sA.1]; exact i1), hb _ _ ⟨j, j, mbD A c, r.map D.int, rfl, he, node_row h1, ixN_n (by rw [List.length_map, h2]; exact j1), fun z hz => ?_, ?_⟩⟩⟩
  · obtain ⟨x, _, rfl⟩ := map_at hz
    rfl
  · show N (env.set s (.ow (.tup [modD (fun l => l.set j (.int v)) [i] (lR A), .int c])))
    rw [mod_row (by rw [sA.1]; exact i1)]
    exact q
theorem en_setM {A : List (List Int)} {h w i j i' j' : Nat} {v : Int} (sA : Sh h w A) (i1 : i < h) (j1 : j < w) (hi : i' < h) (hj : j' < w) : en (K32.setM A i j v) i' j' = if i' = i ∧ j' = j then v else en A i' j' := by
  obtain ⟨r, h1, h2, h3⟩ := sA.at hi hj
  by_cases e : i' = i
  · subst e
    have e1 : (K32.setM A i' j v)[i']? = some (r.set j v) := by
      unfold K32.setM
      rw [List.getElem?_set_self (by rw [sA.1]; exact hi), getD_of h1]
    by_cases e2 : j' = j
    · subst e2
      rw [if_pos ⟨rfl, rfl⟩]
      exact en_of e1 (List.getElem?_set_self (by omega))
    · rw [if_neg fun z => e2 z.2]
      exact (en_of e1 (by rw [List.getElem?_set_ne (Ne.symm e2)]; exact h3))
  · rw [if_neg fun z => e z.1]
    have e1 : (K32.setM A i j v)[i']? = some r := by
      unfold K32.setM
      rw [List.getElem?_set_ne (Ne.symm e)]
      exact h1
    exact en_of e1 h3
theorem bd_of_en {A : List (List Int)} {h w k : Nat} (sA : Sh h w A) (b : ∀ i j, i < h → j < w → (en A i j).natAbs < 2 ^ k) : BdM k A := fun r hr t ht => by
  obtain ⟨i, hi⟩ := List.getElem?_of_mem hr
  obtain ⟨j, hj⟩ := List.getElem?_of_mem ht
  have := b i j (by rw [← sA.1]; exact (List.getElem?_eq_some_iff.mp hi).1) (by rw [← sA.2 r hr]; exact (List.getElem?_eq_some_iff.mp hj).1)
  rwa [en_of hi hj] at this
/-- the diagonal of H, its first m places, is z more than H1's -/
structure Dg (n m : Nat) (H1 H : List (List Int)) (z : Int) : Prop where
  sh : Sh n n H
  en : ∀ i j, i < n → j < n → DL.en H i j = DL.en H1 i j + (if i = j ∧ i < m then z else 0)
theorem Dg.step {n m : Nat} {H1 H : List (List Int)} {z : Int} (d : Dg n m H1 H z) (hm : m < n) : Dg n (m + 1) H1 (K32.setM H m m (DL.en H m m + z)) z := by
  refine ⟨Sh.setM d.sh m m _, fun i j hi hj => ?_⟩
  rw [en_setM d.sh hm hm hi hj]
  by_cases e : i = m ∧ j = m
  · obtain ⟨rfl, rfl⟩ := e
    rw [if_pos ⟨rfl, rfl⟩, d.en _ _ hm hm, if_neg (show ¬ (j = j ∧ j < j) by omega), if_pos (show j = j ∧ j < j + 1 by omega)]
    omega
  · rw [if_neg e, d.en i j hi hj]
    by_cases e2 : i = j ∧ i < m
    · rw [if_pos e2, if_pos (show i = j ∧ i < m + 1 by omega)]
    · rw [if_neg e2, if_neg (show ¬ (i = j ∧ i < m + 1) by omega)]
/-- so far -/
structure LvAt (K Kp n k : Nat) (us : List Int) (A : List (List Int)) (b : Int) (H : List (List Int)) (h : Int) : Prop where
  sh : Sh n n H
  ne : h ≠ 0
  bd : BdM (1 + k * (K + Kp + 6)) H
  sb : h.natAbs < 2 ^ (1 + k * K)
  val : EqM n n (VM H h) (hornR n (VM A b) us zeroR)
theorem lv_step {K Kp n k : Nat} {us : List Int} {A H H2 : List (List Int)} {b h t : Int} (sA : Sh n n A) (n1 : n ≤ 12) (bA : BdM K A) (b0 : b ≠ 0) (sb : b.natAbs < 2 ^ K) (ht : t.natAbs < 2 ^ Kp) (l : LvAt K Kp n k us A b H h) (d : Dg n n (mulM H A n) H2 (t * (h * b))) :
    LvAt K Kp n (k + 1) (us ++ [t]) A b H2 (h * b) := by
  have hn : h * b ≠ 0 := Int.mul_ne_zero l.ne b0
  have s1 : (h * b).natAbs < 2 ^ (1 + k * K + K) := abs_mul_lt l.sb sb
  have m1 : BdM _ (mulM H A n) := BdM.mul l.sh (by omega) l.bd bA
  refine ⟨d.sh, hn, bd_of_en d.sh fun i j hi hj => ?_, abs_up s1 (by rw [Nat.succ_mul]; omega), ?_⟩
  · rw [d.en i j hi hj]
    have e1 : (en (mulM H A n) i j).natAbs < 2 ^ (1 + k * (K + Kp + 6) + K + Kp + 5) := abs_up (en_bd m1 i j) (by omega)
    have kk : k * K ≤ k * (K + Kp + 6) := Nat.mul_le_mul_left _ (by omega)
    have e2 : (if i = j ∧ i < n then t * (h * b) else 0).natAbs < 2 ^ (1 + k * (K + Kp + 6) + K + Kp + 5) := by
      split
      · exact abs_up (abs_mul_lt ht s1) (by omega)
      · exact Nat.two_pow_pos _
    exact abs_up (abs_add_lt e1 e2) (by rw [Nat.succ_mul]; omega)
  · rw [hornR_snoc]
    intro i j hi hj
    have v1 : VM (mulM H A n) (h * b) i j = mulR n (VM H h) (VM A b) i j := V_mul l.sh sA l.ne b0 i j hi hj
    have v2 : mulR n (VM H h) (VM A b) i j = mulR n (hornR n (VM A b) us zeroR) (VM A b) i j := mulR_congr l.val (.refl _) i j hi hj
    show (en H2 i j : Rat) / ((h * b : Int) : Rat) = mulR n (hornR n (VM A b) us zeroR) (VM A b) i j + (t : Rat) * oneR i j
    rw [← v2, ← v1, d.en i j hi hj]
    show _ = (en (mulM H A n) i j : Rat) / ((h * b : Int) : Rat) + (t : Rat) * (if i = j then 1 else 0)
    have r1 := rat_ne hn
    generalize h * b = g at *
    by_cases e : i = j
    · rw [if_pos ⟨e, hi⟩, if_pos e]
      push_cast
      grind
    · rw [if_neg fun z => e z.1, if_neg e]
      push_cast
      grind

theorem lv_start {K Kp n : Nat} {A : List (List Int)} {b : Int} : LvAt K Kp n 0 [] A b ((List.range n).map fun _ => (List.range n).map fun _ => (0 : Int)) 1 := by
  have sh : Sh n n ((List.range n).map fun _ => (List.range n).map fun _ => (0 : Int)) := ⟨by simp, fun r hr => by
    obtain ⟨i, _, rfl⟩ := List.mem_map.mp hr
    simp⟩
  have z : ∀ i j, i < n → j < n → en ((List.range n).map fun _ => (List.range n).map fun _ => (0 : Int)) i j = 0 := fun i j hi hj => en_of (by rw [List.getElem?_map, List.getElem?_range hi]; rfl) (by rw [List.getElem?_map, List.getElem?_range hj]; rfl)
  refine ⟨sh, by decide, bd_of_en sh fun i j hi hj => by rw [z i j hi hj]; exact Nat.two_pow_pos _, by rw [Nat.zero_mul]; decide, fun i j hi hj => ?_⟩
  show (en _ i j : Rat) / ((1 : Int) : Rat) = 0
  rw [z i j hi hj, rat_div1]
  rfl
theorem lv_end {K Kp n : Nat} {ts : List Int} {c : Int} {A : List (List Int)} {b : Int} {H : List (List Int)} {h : Int} (c0 : c ≠ 0) (sc : c.natAbs < 2 ^ Kp) (l : LvAt K Kp n ts.length ts.reverse A b H h) : LvOk K Kp n ts c A b H (h * c) := by
  refine ⟨l.sh, Int.mul_ne_zero l.ne c0, l.bd, abs_mul_lt l.sb sc, fun i j hi hj => ?_⟩
  show (en H i j : Rat) / ((h * c : Int) : Rat) = (1 : Rat) / (c : Rat) * hornR n (VM A b) ts.reverse zeroR i j
  rw [← l.val i j hi hj]
  show _ = (1 : Rat) / (c : Rat) * ((en H i j : Rat) / (h : Rat))
  have r1 := rat_ne l.ne
  have r2 := rat_ne c0
  push_cast
  grind

theorem fn_law_value (T : Txt LL K mg) (M : Mo3 cs sms cis mxs exs K mg) : Nonempty (Fn P w K mg base (d_law_value.at_ K) 2 2 P_law_value) := by
  obtain ⟨FF_law_mul⟩ := fn_law_mul (P := P) (w := w) (base := base) T M
  have F_law_mul := FF_law_mul.fn
  refine Fn.of (T.d 52 (d := d_law_value)) sc_law_value rfl (fun _ _ _ _ _ _ us hl => match us, hl with | [_, _], _ => rfl) (fun ds Q ex h => ?_) (fun fd cdv A outer s H E hr => ⟨_, pdss_cons (pds_set (i := 2) sc_law_value.nd rfl (by first | exact Or.inl rfl | exact Or.inr rfl) (pd_cb (fun h => pe_callB call_len (by rfl) (T.f "len") (by decide +kernel) h) l_len (pda_cons (pd_ix ix_tup l_ixT (pd_var (pv 1)) (pd_int pe_int) (fun _ _ => rfl)) pda_nil))) (pdss_cons (pds_lcF (i := 3) (own := [("i", 5)]) rfl sc_law_value.nd rfl rfl (sw_true rfl rfl rfl (by decide +kernel)) (pdi_range1 rfl (T.f "range") (pda_cons (pd_var (pv 2)) pda_nil)) (blkOk_by (N := ["p", "a", "size", "rows", "j", "i", "here", "k"]) (sc := defScope s_law_value) (by decide +kernel)) (by decide) (fun _ _ _ _ _ => (pdg_name (pg_name (i := 5) sc_law_value.nd rfl (by first | exact Or.inl rfl | exact Or.inr rfl)))) (fun _ _ _ _ _ => pdts_nil) (fun _ _ _ _ _ => pf_new (pdn_lc (own := [("j", 4)]) rfl sc_law_value.nd (pdi_range1 rfl (T.f "range") (pda_cons (pd_var (pv 2)) pda_nil)) (blkOk_in (N := ["p", "a", "size", "rows", "j", "i", "here", "k"]) (by decide +kernel)) (by decide) (fun _ _ _ _ _ => (pdg_name (pg_name (i := 4) sc_law_value.nd rfl (by first | exact Or.inl rfl | exact Or.inr rfl)))) (fun _ _ _ _ _ => pdts_nil) (fun _ _ _ _ _ => pd_int pe_int)))) (pdss_cons (pds_setF (i := 6) sc_law_value.nd rfl (by first | exact Or.inl rfl | exact Or.inr rfl) (pf_tup (pfa_cons (pf_move (pv 3)) (pfa_cons (pf_leaf (pd_int pe_int)) pfa_nil)))) (pdss_cons (pds_for (passes_of rfl) rfl (pdi_range1 rfl (T.f "range") (pda_cons (pd_cb (fun h => pe_callB call_len (by rfl) (T.f "len") (by decide +kernel) h) l_len (pda_cons (pd_ix ix_tup l_ixT (pd_var (pv 0)) (pd_int pe_int) (fun _ _ => rfl)) pda_nil)) pda_nil)) (pdg_name (pg_name (i := 7) sc_law_value.nd rfl (by first | exact Or.inl rfl | exact Or.inr rfl))) (pdss_frzW 6 (pdss_cons (pds_setF (i := 6) sc_law_value.nd rfl (by first | exact Or.inl rfl | exact Or.inr rfl) (pf_call FF_law_mul (hr.mono (by decide)) (by rfl) (T.g "_law_mul") (T.k "_law_mul") (takes_of rfl rfl rfl rfl) (pda_cons (pd_var (pv 6)) (pda_cons (pd_var (pv 1)) pda_nil)))) (pdss_one (pds_for (passes_of rfl) rfl (pdi_range1 rfl (T.f "range") (pda_cons (pd_var (pv 2)) pda_nil)) (pdg_name (pg_name (i := 5) sc_law_value.nd rfl (by first | exact Or.inl rfl | exact Or.inr rfl))) (pdss_one (pds_putP (kk := ⟨0, 0, 0, 0⟩) (fun h1 h2 => pg_sub h1 h2 set_list) (pd_op op_add l_I0 (pd_ixP (ix_or ix_list ix_tup) (pp_ix (ix_or ix_list ix_tup) (pp_ix (ix_or ix_list ix_tup) (pp_name (pv 6)) (pd_int pe_int) (fun _ _ => rfl)) (pd_var (pv 5)) (fun _ _ => rfl)) (pd_var (pv 5)) (fun _ _ => rfl)) (pd_op op_mulZ l_I (pd_ix ix_list l_ixL (pd_ix ix_tup l_ixT (pd_var (pv 0)) (pd_int pe_int) (fun _ _ => rfl)) (pd_op op_sub l_I0 (pd_op op_sub l_I0 (pd_cb (fun h => pe_callB call_len (by rfl) (T.f "len") (by decide +kernel) h) l_len (pda_cons (pd_ix ix_tup l_ixT (pd_var (pv 0)) (pd_int pe_int) (fun _ _ => rfl)) pda_nil)) (pd_int pe_int)) (pd_var (pv 7))) (fun _ _ => rfl)) (pd_ixP (ix_or ix_list ix_tup) (pp_name (pv 6)) (pd_int pe_int) (fun _ _ => rfl)))) (pp_ix (ix_or ix_list ix_tup) (pp_ix (ix_or ix_list ix_tup) (pp_name (pv 6)) (pd_int pe_int) (fun _ _ => rfl)) (pd_var (pv 5)) (fun _ _ => rfl)) (pd_var (pv 5))))))))) (pdss_frzW 6 (pdss_one (pds_ret (pd_tup (pda_cons (pd_ix ix_tup l_ixT (pd_var (pv 6)) (pd_int pe_int) (fun _ _ => rfl)) (pda_cons (pd_op op_mulZ l_I (pd_ix ix_tup l_ixT (pd_var (pv 6)) (pd_int pe_int) (fun _ _ => rfl)) (pd_ix ix_tup l_ixT (pd_var (pv 0)) (pd_int pe_int) (fun _ _ => rfl))) pda_nil))))))))), fun ds Q ex h => ?_⟩)
  · obtain ⟨ts, c, A, b, n, K, Kp, rfl, _⟩ := h
    rfl
  · obtain ⟨ts, c, A, b, n, K, Kp, rfl, sA, n0, n1, hb, hc, bA, sb, bt, sc, hl, hlim, q⟩ := h
    have lA : A.length = n := sA.1
    have lrA : (A.map fun r => D.lst (r.map D.int)).length = n := by rw [List.length_map]; exact lA
    have hrl : (rngD 0 (((A.map fun r => D.lst (r.map D.int)).length : Nat) : Int).toNat).length < sizeLine := by rw [rng_len]; exact sz100 (by omega)
    walk_at "go"
    refine ⟨fun i z => ∃ r : List Int, ((List.range n).map fun _ => (List.range n).map fun _ => (0 : Int))[i]? = some r ∧ z = some (.lst (r.map D.int)), ?_, ?_⟩
    · rintro i x hx
      obtain ⟨hi, rfl⟩ := rng_at hx
      rw [lrA] at hi
      walk_at "go"
      refine ⟨fun j z => ∃ y, ((List.range n).map fun _ => (0 : Int))[j]? = some y ∧ z = some (.int y), ?_, ?_⟩
      · rintro j y hy
        obtain ⟨hj, rfl⟩ := rng_at hy
        rw [lrA] at hj
        walk_at "go"
        exact fun _ => ⟨_, by rw [List.getElem?_map, List.getElem?_range (by omega)]; rfl, rfl⟩
      intro zs' hl2 hz'
      rw [fm_is (by rw [hl2, rng_len, lrA, List.length_map, List.length_range]; omega) hz']
      refine ⟨noLs_ints _, fun _ => ⟨_, by rw [List.getElem?_map, List.getElem?_range (by omega)]; rfl, rfl⟩⟩
    intro zs' hl2 hz'
    rw [fm_is (f := fun r : List Int => D.lst (r.map D.int)) (by rw [hl2, rng_len, lrA, List.length_map, List.length_range]; omega) hz']
    have l0 := lv_start (K := K) (Kp := Kp) (n := n) (A := A) (b := b)
    generalize ((List.range n).map fun _ => (List.range n).map fun _ => (0 : Int)) = Z at *
    walk_at "go"
    refine ⟨fun k env => ∃ (H : List (List Int)) (h : Int) (u3 u4 u5 u7 : Sl), env = [.val (TB ts c), .val (MB A b), .val (.int (((A.map fun r => D.lst (r.map D.int)).length : Nat) : Int)), u3, u4, u5, .ow (mbD H h), u7] ∧ LvAt K Kp n k (ts.reverse.take k) A b H h, fun _ => ⟨Z, 1, _, _, _, _, rfl, by rw [List.take_zero]; exact l0⟩, ?_, ?_⟩
    · rintro k x env hx ⟨H, h, u3, u4, u5, u7, rfl, l⟩
      obtain ⟨hk, rfl⟩ := rng_at hx
      rw [List.length_map] at hk
      have hk' : k < ts.length := by omega
      have lim : k * (K + Kp + 6) + (K + Kp + 6) ≤ ts.length * (K + Kp + 6) := by
        rw [← Nat.succ_mul]
        exact Nat.mul_le_mul_right _ hk'
      have kk : k * K ≤ k * (K + Kp + 6) := Nat.mul_le_mul_left _ (by omega)
      obtain ⟨t, ht⟩ : ∃ t, ts[ts.length - 1 - k]? = some t := ⟨_, List.getElem?_eq_getElem (by omega)⟩
      have hrev : ts.reverse[k]? = some t := by rw [List.getElem?_reverse hk']; exact ht
      have at_t : atI (ts.map D.int) ((((ts.map D.int).length : Nat) : Int) - 1 - (k : Int)) = some (.int t) := by
        rw [List.length_map]
        exact at_map (f := D.int) (by omega) (by rw [show ((ts.length : Int) - 1 - (k : Int)).toNat = ts.length - 1 - k by omega]; exact ht)
      have bdt : t.natAbs < 2 ^ Kp := bt t (List.mem_of_getElem? ht)
      have sh9 : (h * b).natAbs < 2 ^ 9000 := abs_up (abs_mul_lt l.sb sb) (by omega)
      have mt : IntMulOk t (h * b) := mulBig (abs_up bdt (by omega)) sh9
      rw [Int.zero_add]
      walk_at "go"
      refine ⟨H, h, A, b, n, n, n, rfl, l.sh, sA, n0, by omega, by omega, by omega, l.bd.up (by omega), bA.up (by omega), abs_up l.sb (by omega), abs_up sb (by omega), ?_⟩
      walk_at "go"
      refine ⟨fun m env => ∃ (H2 : List (List Int)) (u3 u4 u5 : Sl), env = [.val (TB ts c), .val (MB A b), .val (.int (((A.map fun r => D.lst (r.map D.int)).length : Nat) : Int)), u3, u4, u5, .ow (mbD H2 (h * b)), .val (.int (k : Int))] ∧ Dg n m (mulM H A n) H2 (t * (h * b)), fun _ => ⟨mulM H A n, _, _, _, rfl, ⟨l.sh.mul, fun i j _ _ => by rw [if_neg (by omega)]; omega⟩⟩, ?_, ?_⟩
      · rintro m x env hx ⟨H2, u3, u4, u5, rfl, d⟩
        obtain ⟨hm, rfl⟩ := rng_at hx
        rw [lrA] at hm
        have hm' : m < n := by omega
        rw [Int.zero_add]
        walk_at "go"
        refine get_at3 rfl (var_at rfl) (var_at rfl) d.sh hm' hm' ?_
        walk_at "go"
        refine get_bot rfl ?_
        walk_at "go"
        refine put_at3 rfl (var_at rfl) (var_at rfl) d.sh hm' hm' ?_
        exact fun _ => ⟨_, _, _, _, by rfl, d.step hm'⟩
      · rintro env ⟨H2, u3, u4, u5, rfl, d⟩
        rw [rng_len, lrA, show ((n : Nat) : Int).toNat = n by omega] at d
        exact fun _ => ⟨H2, _, _, _, _, _, rfl, by rw [take_snoc hrev]; exact lv_step sA n1 bA hb sb bdt l d⟩
    · rintro env ⟨H, h, u3, u4, u5, u7, rfl, l⟩
      rw [rng_len, List.length_map, show ((ts.length : Nat) : Int).toNat = ts.length by omega, show ts.reverse.take ts.length = ts.reverse by rw [List.take_of_length_le]; rw [List.length_reverse]; exact Nat.le_refl _] at l
      have kk2 : ts.length * K ≤ ts.length * (K + Kp + 6) := Nat.mul_le_mul_left _ (by omega)
      have mh : IntMulOk h c := mulBig (abs_up l.sb (by omega)) (abs_up sc (by omega))
      walk_at "go"
      exact q H _ (lv_end hc sc l)
end
end K32

namespace K32
open PySem PySem.Spec PyProof.Rows L2 LR DL
section
variable {P : Program} {w : World} {K : PySem.W.Frag} {mg : Str → Option Value} {base : Heap}
local macro_rules | `(tactic| walk_at "side") => `(tactic| first | with_reducible assumption | exact Bsame.mk (by with_reducible rfl) | omega | rfl | assumption | exact ⟨_, rfl⟩ | exact mulL (by omega) (by omega) | exact mulR (by omega) (by omega) | exact mulF (by decide) (by decide) | exact ⟨by decide, by decide +kernel⟩ | decide | exact Nat.le_of_ble_eq_true rfl | (simp only [List.length_cons, List.length_nil, List.length_map, List.nil_append, List.cons_append, sizeLine_eq]; omega) | (simp only [List.map_cons, List.map_nil, List.nil_append, List.cons_append]; decide +kernel))
local macro_rules | `(tactic| walk_at "go") => `(tactic| repeat (first
  | refine ⟨_, rfl, ?_⟩
  | refine ⟨_, _, rfl, rfl, ?_⟩
  | refine ⟨_, _, rfl, ?_⟩
  | refine ⟨_, _, _, rfl, rfl, ?_⟩
  | refine ⟨_, _, _, rfl, ?_⟩
  | refine ⟨_, _, _, _, rfl, rfl, ?_⟩
  | refine ⟨_, _, _, _, rfl, ?_⟩
  | refine ⟨_, _, _, _, _, rfl, ?_⟩
  | refine ⟨_, _, rfl, by assumption, ?_⟩
  | refine ⟨_, _, _, rfl, rfl, rfl, ?_⟩
  | refine ⟨_, _, _, rfl, rfl, by assumption, ?_⟩
  | refine ⟨_, _, _, rfl, rfl, by walk_at "side", by assumption, ?_⟩
  | refine ⟨_, _, _, rfl, rfl, by walk_at "side", rfl, ?_⟩
  | refine ⟨_, _, _, rfl, rfl, rfl, by assumption, ?_⟩
  | refine .inl ⟨_, rfl, ?_⟩
  | refine .inr ⟨_, rfl, ?_⟩
  | refine .inr (.inl ⟨_, rfl, ?_⟩)
  | refine .inr (.inr ⟨_, rfl, ?_⟩)
  | refine ⟨_, .inl rfl, ?_⟩
  | refine ⟨_, .inr rfl, ?_⟩
  | refine .inr ⟨_, _, rfl, ?_⟩
  | refine .inl ⟨_, _, rfl, ?_⟩
  | refine And.intro (by walk_at "side") ?_))


theorem okD_MB (A : List (List Int)) (b : Int) : okD (MB A b) = true := okD_of 3 (fun y hy => by
  simp only [List.mem_cons, List.not_mem_nil, or_false] at hy
  rcases hy with rfl | rfl
  · intro z hz
    obtain ⟨r, _, rfl⟩ := List.mem_map.mp hz
    intro x hx
    obtain ⟨p, _, rfl⟩ := List.mem_map.mp hx
    exact trivial
  · exact trivial) (by decide)
def P_law_ratio_of : Prm := fun ds Q _ => ∃ (t b : Int), ds = [R t b] ∧ 0 < b ∧ nT t b = t ∧ nB t b = b ∧ b.natAbs < 2 ^ 8999 ∧ Q (.tup [.int t, .int b])
def P_law_poly_of : Prm := fun ds Q _ => ∃ (ts : List Int) (b : Int), ds = [PO ts b] ∧ Pol 8900 ts b ∧ Q (TB ts b)
def P_law_matrix_of : Prm := fun ds Q _ => ∃ (A : List (List Int)) (b : Int) (h w : Nat), ds = [MX A b h w, .int h, .int w] ∧ Mx 8900 h w A b ∧ Q (MB A b)
def P_law_twice_the_mean : Prm := fun ds Q _ => ∃ (A : List (List Int)) (b : Int) (n : Nat), ds = [MB A b] ∧ Sh n n A ∧ n ≤ 4000 ∧ b.natAbs < 2 ^ 8900 ∧ Q (TB [2 * traI A, -(b * (n : Int))] (b * (n : Int)))
def P_law_at : Prm := fun ds Q _ => ∃ (ts : List Int) (b : Int) (k : Nat), ds = [TB ts b, .int k] ∧ Q (.int (cf ts k))
def P_law_same_poly : Prm := fun ds Q _ => ∃ (ts : List Int) (b : Int) (us : List Int) (c : Int), ds = [TB ts b, TB us c] ∧ PEq (cf ts) b (cf us) c ∧ Bd 9000 ts ∧ Bd 9000 us ∧ b.natAbs < 2 ^ 9000 ∧ c.natAbs < 2 ^ 9000 ∧ ts.length ≤ 4000 ∧ us.length ≤ 4000 ∧ Q (.bl true)
def P_law_same_rows : Prm := fun ds Q _ => ∃ (A : List (List Int)) (b : Int) (B : List (List Int)) (c : Int) (h w : Nat), ds = [MB A b, MB B c] ∧ Sh h w A ∧ Sh h w B ∧ 0 < h ∧ h ≤ 4000 ∧ w ≤ 4000 ∧ b ≠ 0 ∧ c ≠ 0 ∧ EqM h w (VM A b) (VM B c) ∧ BdM 9000 A ∧ BdM 9000 B ∧ b.natAbs < 2 ^ 9000 ∧ c.natAbs < 2 ^ 9000 ∧ Q (.bl true)
theorem cf_bd {n : Nat} {ts : List Int} (h : Bd n ts) (k : Nat) : (cf ts k).natAbs < 2 ^ n := by
  by_cases hk : k < ts.length
  · have e : ts[k]? = some (ts[k]'hk) := List.getElem?_eq_getElem _
    rw [cf_at e]
    exact h _ (List.mem_of_getElem? e)
  · rw [cf_ge (by omega)]
    exact Nat.two_pow_pos n
theorem cross_of {x y b c : Int} (hb : b ≠ 0) (hc : c ≠ 0) (h : (x : Rat) / (b : Rat) = (y : Rat) / (c : Rat)) : x * c = y * b := by
  have r1 := rat_ne hb
  have r2 := rat_ne hc
  have h2 : (x : Rat) * (c : Rat) = (y : Rat) * (b : Rat) := by grind
  exact_mod_cast h2

theorem fn_law_ratio_of (T : Txt LL K mg) (M : Mo3 cs sms cis mxs exs K mg) : Nonempty (Fn P w K mg base (d_law_ratio_of.at_ K) 6 1 P_law_ratio_of) := by
  obtain ⟨F_law_is_integer⟩ := fn_law_is_integer (P := P) (w := w) (base := base) T M
  obtain ⟨F_Ratio_eq⟩ := fn_Ratio_eq (P := P) (w := w) (base := base) T M
  obtain ⟨⟨F_Ratio_init⟩, ⟨F_Ratio_init_d⟩⟩ := fn_Ratio_init (P := P) (w := w) (base := base) T M
  refine Fn.of (T.d 53 (d := d_law_ratio_of)) sc_law_ratio_of rfl (fun _ _ _ _ _ _ us hl => match us, hl with | [_], _ => rfl) (fun ds Q ex h => ?_) (fun fd cdv A outer s H E hr => ⟨_, pdss_cons (pds_if (PDW.pt (pdw_and (pdt_val (pd_isi (cr := (.own 0)) M.isi M.cls (fun c h => by cases h; decide) (fun h => pe_callB call_isi (by rfl) (T.f "isinstance") (by decide +kernel) (pa_cons h (pa_cons (pe_glob (v := .ref (He.ga K "Ratio")) rfl (T.g "Ratio") rfl) pa_nil))) (pd_var (pv 0)))) (pdw_and (pdt_val (pd_call F_law_is_integer (hr.mono (by decide)) (by rfl) (T.g "_law_is_integer") (T.k "_law_is_integer") (takes_of rfl rfl rfl rfl) (pda_cons (pd_fld (c := 0) (k := 0) (T.cl "Ratio") (T.no "Ratio" "top") fk_Ratio_top (pd_var (pv 0))) pda_nil))) (pdw_and (pdt_val (pd_call F_law_is_integer (hr.mono (by decide)) (by rfl) (T.g "_law_is_integer") (T.k "_law_is_integer") (takes_of rfl rfl rfl rfl) (pda_cons (pd_fld (c := 0) (k := 1) (T.cl "Ratio") (T.no "Ratio" "bottom") fk_Ratio_bottom (pd_var (pv 0))) pda_nil))) (pdw_and1 (pdt_cmp op_gt l_B0 (pd_fld (c := 0) (k := 1) (T.cl "Ratio") (T.no "Ratio" "bottom") fk_Ratio_bottom (pd_var (pv 0))) (pd_int pe_int) (nomark _))))))) (pdss_one (pds_ret (pd_ife (pdt_cmp (op_eqO (T.own "Ratio" "__eq__") (T.fnn "Ratio" "__eq__") F_Ratio_eq.ok (hr.mono (by decide)) F_Ratio_eq.bd passL) (l_cmpO (c := 0) M.isi M.cls (by decide) F_Ratio_eq.len) (pd_var (pv 0)) (pd_make (c := 0) (T.mkk "Ratio") F_Ratio_init (fun _ _ => .nil) (hr.mono (by decide)) (by rfl) (T.g "Ratio") (takes_of rfl rfl rfl rfl) (pda_cons (pd_fld (c := 0) (k := 0) (T.cl "Ratio") (T.no "Ratio" "top") fk_Ratio_top (pd_var (pv 0))) (pda_cons (pd_fld (c := 0) (k := 1) (T.cl "Ratio") (T.no "Ratio" "bottom") fk_Ratio_bottom (pd_var (pv 0))) pda_nil))) (nomark _)) (pd_tup (pda_cons (pd_fld (c := 0) (k := 0) (T.cl "Ratio") (T.no "Ratio" "top") fk_Ratio_top (pd_var (pv 0))) (pda_cons (pd_fld (c := 0) (k := 1) (T.cl "Ratio") (T.no "Ratio" "bottom") fk_Ratio_bottom (pd_var (pv 0))) pda_nil))) (pd_non pe_non)))) pdss_nil) (pdss_one (pds_ret (pd_non pe_non))), fun ds Q ex h => ?_⟩)
  · obtain ⟨t, b, rfl, _⟩ := h
    rfl
  · obtain ⟨t, b, rfl, hb, e1, e2, hs, q⟩ := h
    have hb' : b ≠ 0 := by omega
    have hg : (gs [t] b).natAbs < 2 ^ 8999 := Nat.lt_of_le_of_lt (gs_le hb') hs
    have d1 : decide (b > 0) = true := decide_eq_true hb
    walk_at "go"
    refine d_ite (fun _ => ?_) (fun c => absurd hb (of_decide_eq_false c))
    walk_at "go"
    refine fun _ => ⟨hg, ?_⟩
    rw [e1, e2]
    walk_at "go"
    rw [decide_eq_true (rfl : t = t), decide_eq_true (rfl : b = b)]
    walk_at "go"
    exact q

theorem fn_law_poly_of (T : Txt LL K mg) (M : Mo3 cs sms cis mxs exs K mg) : Nonempty (Fn P w K mg base (d_law_poly_of.at_ K) 6 1 P_law_poly_of) := by
  obtain ⟨F_law_integers⟩ := fn_law_integers (P := P) (w := w) (base := base) T M
  obtain ⟨F_Poly_eq⟩ := fn_Poly_eq (P := P) (w := w) (base := base) T M
  obtain ⟨⟨F_Poly_init⟩, ⟨F_Poly_init_d⟩⟩ := fn_Poly_init (P := P) (w := w) (base := base) T M
  obtain ⟨F_law_is_integer⟩ := fn_law_is_integer (P := P) (w := w) (base := base) T M
  refine Fn.of (T.d 56 (d := d_law_poly_of)) sc_law_poly_of rfl (fun _ _ _ _ _ _ us hl => match us, hl with | [_], _ => rfl) (fun ds Q ex h => ?_) (fun fd cdv A outer s H E hr => ⟨_, pdss_cons (pds_if (PDW.pt (pdw_or (pdt_not (pdt_val (pd_isi (cr := (.own 3)) M.isi M.cls (fun c h => by cases h; decide) (fun h => pe_callB call_isi (by rfl) (T.f "isinstance") (by decide +kernel) (pa_cons h (pa_cons (pe_glob (v := .ref (He.ga K "Poly")) rfl (T.g "Poly") rfl) pa_nil))) (pd_var (pv 0))))) (pdw_or1 (pdt_not (pdt_val (pd_call F_law_integers (hr.mono (by decide)) (by rfl) (T.g "_law_integers") (T.k "_law_integers") (takes_of rfl rfl rfl rfl) (pda_cons (pd_fld (c := 3) (k := 0) (T.cl "Poly") (T.no "Poly" "tops") fk_Poly_tops (pd_var (pv 0))) pda_nil))))))) (pdss_one (pds_ret (pd_non pe_non))) pdss_nil) (pdss_cons (pds_if (PDW.pt (pdw_or (pdt_not (pdt_val (pd_call F_law_is_integer (hr.mono (by decide)) (by rfl) (T.g "_law_is_integer") (T.k "_law_is_integer") (takes_of rfl rfl rfl rfl) (pda_cons (pd_fld (c := 3) (k := 1) (T.cl "Poly") (T.no "Poly" "bottom") fk_Poly_bottom (pd_var (pv 0))) pda_nil)))) (pdw_or (pdt_cmp op_lt l_B0 (pd_fld (c := 3) (k := 1) (T.cl "Poly") (T.no "Poly" "bottom") fk_Poly_bottom (pd_var (pv 0))) (pd_int pe_int) (nomark _)) (pdw_or1 (pdt_not (pdt_cmp (op_eqO (T.own "Poly" "__eq__") (T.fnn "Poly" "__eq__") F_Poly_eq.ok (hr.mono (by decide)) F_Poly_eq.bd passL) (l_cmpO (c := 3) M.isi M.cls (by decide) F_Poly_eq.len) (pd_var (pv 0)) (pd_make (c := 3) (T.mkk "Poly") F_Poly_init (fun _ _ => .nil) (hr.mono (by decide)) (by rfl) (T.g "Poly") (takes_of rfl rfl rfl rfl) (pda_cons (pd_new (pdn_cb (fun h => pe_callTy call_list_of (by rfl) (T.f "list") (by decide +kernel) h) l_list (pda_cons (pd_fld (c := 3) (k := 0) (T.cl "Poly") (T.no "Poly" "tops") fk_Poly_tops (pd_var (pv 0))) pda_nil))) (pda_cons (pd_fld (c := 3) (k := 1) (T.cl "Poly") (T.no "Poly" "bottom") fk_Poly_bottom (pd_var (pv 0))) pda_nil))) (nomark _))))))) (pdss_one (pds_ret (pd_non pe_non))) pdss_nil) (pdss_one (pds_ret (pd_tup (pda_cons (pd_new (pdn_cb (fun h => pe_callTy call_list_of (by rfl) (T.f "list") (by decide +kernel) h) l_list (pda_cons (pd_fld (c := 3) (k := 0) (T.cl "Poly") (T.no "Poly" "tops") fk_Poly_tops (pd_var (pv 0))) pda_nil))) (pda_cons (pd_fld (c := 3) (k := 1) (T.cl "Poly") (T.no "Poly" "bottom") fk_Poly_bottom (pd_var (pv 0))) pda_nil)))))), fun ds Q ex h => ?_⟩)
  · obtain ⟨ts, b, rfl, _⟩ := h
    rfl
  · obtain ⟨ts, b, rfl, hv, q⟩ := h
    have hb := hv.pos
    have hl := hv.len
    have hn := hv.ne
    have hs := abs_up hv.sb (show 8900 ≤ 8999 by decide)
    obtain ⟨l1, l2⟩ := hv.low
    walk_at "go"
    refine d_ite (fun c => absurd (of_decide_eq_true c) (by omega)) (fun _ => ?_)
    walk_at "go"
    refine ⟨_, ts, b, rfl, .inl rfl, by omega, fun z => absurd z hn, fun _ => ⟨hs, ?_⟩⟩
    rw [l1, l2]
    walk_at "go"
    rw [decide_eq_true (rfl : ts = ts), decide_eq_true (rfl : b = b)]
    walk_at "go"
    exact q

theorem fn_law_matrix_of (T : Txt LL K mg) (M : Mo3 cs sms cis mxs exs K mg) : Nonempty (Fn P w K mg base (d_law_matrix_of.at_ K) 7 3 P_law_matrix_of) := by
  obtain ⟨F_law_integers⟩ := fn_law_integers (P := P) (w := w) (base := base) T M
  obtain ⟨F_law_is_integer⟩ := fn_law_is_integer (P := P) (w := w) (base := base) T M
  obtain ⟨F_Matrix_eq⟩ := fn_Matrix_eq (P := P) (w := w) (base := base) T M
  obtain ⟨⟨F_Matrix_init⟩, ⟨F_Matrix_init_d⟩⟩ := fn_Matrix_init (P := P) (w := w) (base := base) T M
  refine Fn.of (T.d 55 (d := d_law_matrix_of)) sc_law_matrix_of rfl (fun _ _ _ _ _ _ us hl => match us, hl with | [_, _, _], _ => rfl) (fun ds Q ex h => ?_) (fun fd cdv A outer s H E hr => ⟨_, pdss_cons (pds_if (PDW.pt (pdw_or (pdt_not (pdt_val (pd_isi (cr := (.own 2)) M.isi M.cls (fun c h => by cases h; decide) (fun h => pe_callB call_isi (by rfl) (T.f "isinstance") (by decide +kernel) (pa_cons h (pa_cons (pe_glob (v := .ref (He.ga K "Matrix")) rfl (T.g "Matrix") rfl) pa_nil))) (pd_var (pv 0))))) (pdw_or (pdt_not (pdt_val (pd_isi (cr := .tuple) M.isi M.cls (fun c h => nomatch h) (fun h => pe_callB call_isi (by rfl) (T.f "isinstance") (by decide +kernel) (pa_cons h (pa_cons (pe_bltn (v := .ty "tuple") (by rfl) (T.f "tuple") (by decide +kernel) rfl) pa_nil))) (pd_fld (c := 2) (k := 0) (T.cl "Matrix") (T.no "Matrix" "tops") fk_Matrix_tops (pd_var (pv 0)))))) (pdw_or1 (pdt_cmp op_ne l_ne (pd_cb (fun h => pe_callB call_len (by rfl) (T.f "len") (by decide +kernel) h) l_len (pda_cons (pd_fld (c := 2) (k := 0) (T.cl "Matrix") (T.no "Matrix" "tops") fk_Matrix_tops (pd_var (pv 0))) pda_nil)) (pd_var (pv 1)) (nomark _)))))) (pdss_one (pds_ret (pd_non pe_non))) pdss_nil) (pdss_cons (pds_for (passes_of rfl) rfl (pdi_tup (pd_fld (c := 2) (k := 0) (T.cl "Matrix") (T.no "Matrix" "tops") fk_Matrix_tops (pd_var (pv 0)))) (pdg_name (pg_name (i := 3) sc_law_matrix_of.nd rfl (by first | exact Or.inl rfl | exact Or.inr rfl))) (pdss_one (pds_if (PDW.pt (pdw_or (pdt_not (pdt_val (pd_call F_law_integers (hr.mono (by decide)) (by rfl) (T.g "_law_integers") (T.k "_law_integers") (takes_of rfl rfl rfl rfl) (pda_cons (pd_var (pv 3)) pda_nil)))) (pdw_or1 (pdt_cmp op_ne l_ne (pd_cb (fun h => pe_callB call_len (by rfl) (T.f "len") (by decide +kernel) h) l_len (pda_cons (pd_var (pv 3)) pda_nil)) (pd_var (pv 2)) (nomark _))))) (pdss_one (pds_ret (pd_non pe_non))) pdss_nil))) (pdss_cons (pds_if (PDW.pt (pdw_or (pdt_not (pdt_val (pd_call F_law_is_integer (hr.mono (by decide)) (by rfl) (T.g "_law_is_integer") (T.k "_law_is_integer") (takes_of rfl rfl rfl rfl) (pda_cons (pd_fld (c := 2) (k := 1) (T.cl "Matrix") (T.no "Matrix" "bottom") fk_Matrix_bottom (pd_var (pv 0))) pda_nil)))) (pdw_or1 (pdt_cmp op_lt l_B0 (pd_fld (c := 2) (k := 1) (T.cl "Matrix") (T.no "Matrix" "bottom") fk_Matrix_bottom (pd_var (pv 0))) (pd_int pe_int) (nomark _))))) (pdss_one (pds_ret (pd_non pe_non))) pdss_nil) (pdss_cons (pds_lcV (i := 4) (own := [("line", 3)]) rfl sc_law_matrix_of.nd rfl rfl (sw_true rfl rfl rfl (by decide +kernel)) (pdi_tup (pd_fld (c := 2) (k := 0) (T.cl "Matrix") (T.no "Matrix" "tops") fk_Matrix_tops (pd_var (pv 0)))) (blkOk_by (N := ["m", "high", "wide", "line", "rows"]) (sc := defScope s_law_matrix_of) (by decide +kernel)) (by decide) (fun _ _ _ _ _ => (pdg_name (pg_name (i := 3) sc_law_matrix_of.nd rfl (by first | exact Or.inl rfl | exact Or.inr rfl)))) (fun _ _ _ _ _ => pdts_nil) (fun _ _ _ _ _ => pd_new (pdn_cb (fun h => pe_callTy call_list_of (by rfl) (T.f "list") (by decide +kernel) h) l_list (pda_cons (pd_var (pv 3)) pda_nil)))) (pdss_one (pds_ret (pd_ife (pdt_cmp (op_eqO (T.own "Matrix" "__eq__") (T.fnn "Matrix" "__eq__") F_Matrix_eq.ok (hr.mono (by decide)) F_Matrix_eq.bd passL) (l_cmpO (c := 2) M.isi M.cls (by decide) F_Matrix_eq.len) (pd_var (pv 0)) (pd_make (c := 2) (T.mkk "Matrix") F_Matrix_init (fun _ _ => .nil) (hr.mono (by decide)) (by rfl) (T.g "Matrix") (takes_of rfl rfl rfl rfl) (pda_cons (pd_new (pdn_lc (own := [("line", 3)]) rfl sc_law_matrix_of.nd (pdi_list (pd_var (pv 4))) (blkOk_by (N := ["m", "high", "wide", "line", "rows"]) (sc := defScope s_law_matrix_of) (by decide +kernel)) (by decide) (fun _ _ _ _ _ => (pdg_name (pg_name (i := 3) sc_law_matrix_of.nd rfl (by first | exact Or.inl rfl | exact Or.inr rfl)))) (fun _ _ _ _ _ => pdts_nil) (fun _ _ _ _ _ => pd_new (pdn_cb (fun h => pe_callTy call_list_of (by rfl) (T.f "list") (by decide +kernel) h) l_list (pda_cons (pd_var (pv 3)) pda_nil))))) (pda_cons (pd_fld (c := 2) (k := 1) (T.cl "Matrix") (T.no "Matrix" "bottom") fk_Matrix_bottom (pd_var (pv 0))) pda_nil))) (nomark _)) (pd_tup (pda_cons (pd_var (pv 4)) (pda_cons (pd_fld (c := 2) (k := 1) (T.cl "Matrix") (T.no "Matrix" "bottom") fk_Matrix_bottom (pd_var (pv 0))) pda_nil))) (pd_non pe_non))))))), fun ds Q ex h => ?_⟩)
  · obtain ⟨A, b, h, w, rfl, _⟩ := h
    rfl
  · obtain ⟨A, b, hh, w, rfl, hA, q⟩ := h
    have sA := hA.sh
    have lA : A.length = hh := sA.1
    have h1 := hA.h1
    have w1 := hA.w1
    have hb := hA.pos
    obtain ⟨l1, l2⟩ := hA.low
    have sb : b.natAbs < 2 ^ 8999 := abs_up hA.sb (by decide)
    have z1 : (!decide ((((A.map fun r => D.tup (r.map D.int)).length : Nat) : Int) = (hh : Int))) = false := by rw [List.length_map, lA, decide_eq_true rfl]; rfl
    walk_at "go"
    rw [z1]
    walk_at "go"
    refine ⟨fun i env => ∃ u3 u4 : Sl, env = [.val (MX A b hh w), .val (.int hh), .val (.int w), u3, u4], fun _ => ⟨_, _, rfl⟩, ?_, ?_⟩
    · rintro i x env hx ⟨u3, u4, rfl⟩
      obtain ⟨r, hr, rfl⟩ := map_at hx
      have rl := sA.2 r (List.mem_of_getElem? hr)
      have z2 : (!decide ((((r.map D.int).length : Nat) : Int) = (w : Int))) = false := by rw [List.length_map, rl, decide_eq_true rfl]; rfl
      walk_at "go"
      rw [z2]
      exact fun _ => ⟨_, _, rfl⟩
    · rintro env ⟨u3, u4, rfl⟩
      walk_at "go"
      refine d_ite (fun c => absurd (of_decide_eq_true c) (by omega)) (fun _ => ?_)
      walk_at "go"
      refine ⟨fun i z => ∃ r : List Int, A[i]? = some r ∧ z = some (.lst (r.map D.int)), ?_, ?_⟩
      · rintro i x hx
        obtain ⟨r, hr, rfl⟩ := map_at hx
        walk_at "go"
        exact fun _ => ⟨r, hr, rfl⟩
      intro zs hzl hz
      rw [fm_is (f := fun r : List Int => D.lst (r.map D.int)) (l := A) (by rw [hzl, List.length_map]) hz]
      walk_at "go"
      refine ⟨fun i z => ∃ r : List Int, A[i]? = some r ∧ z = some (.lst (r.map D.int)), ?_, ?_⟩
      · rintro i x hx
        obtain ⟨r, hr, rfl⟩ := map_at hx
        walk_at "go"
        exact fun _ => ⟨r, hr, rfl⟩
      intro zs hzl hz
      rw [fm_is (f := fun r : List Int => D.lst (r.map D.int)) (l := A) (by rw [hzl, List.length_map]) hz]
      walk_at "go"
      refine ⟨_, A, b, hh, w, rfl, rows_lst _, sA, hA.h0, by omega, hA.w0, by omega, hA.ne, sb, ?_⟩
      rw [l1, l2]
      walk_at "go"
      exact q

theorem fn_law_twice_the_mean (T : Txt LL K mg) (M : Mo3 cs sms cis mxs exs K mg) : Nonempty (Fn P w K mg base (d_law_twice_the_mean.at_ K) 2 1 P_law_twice_the_mean) := by
  obtain ⟨F_law_trace⟩ := fn_law_trace (P := P) (w := w) (base := base) T M
  refine Fn.of (T.d 58 (d := d_law_twice_the_mean)) sc_law_twice_the_mean rfl (fun _ _ _ _ _ _ us hl => match us, hl with | [_], _ => rfl) (fun ds Q ex h => ?_) (fun fd cdv A outer s H E hr => ⟨_, pdss_cons (pds_set (i := 1) sc_law_twice_the_mean.nd rfl (by first | exact Or.inl rfl | exact Or.inr rfl) (pd_call F_law_trace (hr.mono (by decide)) (by rfl) (T.g "_law_trace") (T.k "_law_trace") (takes_of rfl rfl rfl rfl) (pda_cons (pd_var (pv 0)) pda_nil))) (pdss_cons (pds_set (i := 2) sc_law_twice_the_mean.nd rfl (by first | exact Or.inl rfl | exact Or.inr rfl) (pd_op op_mulZ l_I (pd_ix ix_tup l_ixT (pd_var (pv 1)) (pd_int pe_int) (fun _ _ => rfl)) (pd_cb (fun h => pe_callB call_len (by rfl) (T.f "len") (by decide +kernel) h) l_len (pda_cons (pd_ix ix_tup l_ixT (pd_var (pv 0)) (pd_int pe_int) (fun _ _ => rfl)) pda_nil)))) (pdss_one (pds_ret (pd_tup (pda_cons (pd_new (pdn_lst (pda_cons (pd_op op_mulZ l_I (pd_int pe_int) (pd_ix ix_tup l_ixT (pd_var (pv 1)) (pd_int pe_int) (fun _ _ => rfl))) (pda_cons (pd_un un_neg l_U (pd_var (pv 2))) pda_nil)))) (pda_cons (pd_var (pv 2)) pda_nil)))))), fun ds Q ex h => ?_⟩)
  · obtain ⟨A, b, n, rfl, _⟩ := h
    rfl
  · obtain ⟨A, b, n, rfl, sA, hn, sb, q⟩ := h
    have lA : (A.map fun r => D.lst (r.map D.int)).length = n := by rw [List.length_map]; exact sA.1
    have mn : IntMulOk b (((A.map fun r => D.lst (r.map D.int)).length : Nat) : Int) := mulR (by omega) (by omega)
    have m2 : IntMulOk 2 (traI A) := mulL (by decide) (by decide)
    walk_at "go"
    refine ⟨A, b, n, rfl, sA, hn, ?_⟩
    walk_at "go"
    rw [lA]
    exact q

theorem fn_law_at (T : Txt LL K mg) (M : Mo3 cs sms cis mxs exs K mg) : Nonempty (Fn P w K mg base (d_law_at.at_ K) 1 2 P_law_at) := by
  refine Fn.of (T.d 59 (d := d_law_at)) sc_law_at rfl (fun _ _ _ _ _ _ us hl => match us, hl with | [_, _], _ => rfl) (fun ds Q ex h => ?_) (fun fd cdv A outer s H E hr => ⟨_, pdss_cons (pds_if (pdt_cmp op_lt l_B0 (pd_var (pv 1)) (pd_cb (fun h => pe_callB call_len (by rfl) (T.f "len") (by decide +kernel) h) l_len (pda_cons (pd_ix ix_tup l_ixT (pd_var (pv 0)) (pd_int pe_int) (fun _ _ => rfl)) pda_nil)) (nomark _)) (pdss_one (pds_ret (pd_ix ix_list l_ixL (pd_ix ix_tup l_ixT (pd_var (pv 0)) (pd_int pe_int) (fun _ _ => rfl)) (pd_var (pv 1)) (fun _ _ => rfl)))) pdss_nil) (pdss_one (pds_ret (pd_int pe_int))), fun ds Q ex h => ?_⟩)
  · obtain ⟨ts, b, k, rfl, _⟩ := h
    rfl
  · obtain ⟨ts, b, k, rfl, q⟩ := h
    walk_at "go"
    refine d_ite (fun c => ?_) (fun c => ?_)
    · have c' := of_decide_eq_true c
      rw [List.length_map] at c'
      obtain ⟨z, _, hk, ha⟩ := at_ex (l := ts) (k := (k : Int)) (by omega) c'
      rw [Int.toNat_natCast] at hk
      rw [cf_at hk] at q
      walk_at "go"
      exact q
    · have c' := of_decide_eq_false c
      rw [List.length_map] at c'
      rw [cf_ge (by omega)] at q
      walk_at "go"
      exact q

theorem fn_law_same_poly (T : Txt LL K mg) (M : Mo3 cs sms cis mxs exs K mg) : Nonempty (Fn P w K mg base (d_law_same_poly.at_ K) 2 2 P_law_same_poly) := by
  obtain ⟨F_law_at⟩ := fn_law_at (P := P) (w := w) (base := base) T M
  refine Fn.of (T.d 60 (d := d_law_same_poly)) sc_law_same_poly rfl (fun _ _ _ _ _ _ us hl => match us, hl with | [_, _], _ => rfl) (fun ds Q ex h => ?_) (fun fd cdv A outer s H E hr => ⟨_, pdss_cons (pds_for (passes_of rfl) rfl (pdi_range1 rfl (T.f "range") (pda_cons (pd_cb (fun h => pe_callB (call_max2 rfl) (by rfl) (T.f "max") (by decide +kernel) h) l_max2 (pda_cons (pd_cb (fun h => pe_callB call_len (by rfl) (T.f "len") (by decide +kernel) h) l_len (pda_cons (pd_ix ix_tup l_ixT (pd_var (pv 0)) (pd_int pe_int) (fun _ _ => rfl)) pda_nil)) (pda_cons (pd_cb (fun h => pe_callB call_len (by rfl) (T.f "len") (by decide +kernel) h) l_len (pda_cons (pd_ix ix_tup l_ixT (pd_var (pv 1)) (pd_int pe_int) (fun _ _ => rfl)) pda_nil)) pda_nil))) pda_nil)) (pdg_name (pg_name (i := 2) sc_law_same_poly.nd rfl (by first | exact Or.inl rfl | exact Or.inr rfl))) (pdss_one (pds_if (pdt_cmp op_ne l_ne (pd_op op_mulZ l_I (pd_call F_law_at (hr.mono (by decide)) (by rfl) (T.g "_law_at") (T.k "_law_at") (takes_of rfl rfl rfl rfl) (pda_cons (pd_var (pv 0)) (pda_cons (pd_var (pv 2)) pda_nil))) (pd_ix ix_tup l_ixT (pd_var (pv 1)) (pd_int pe_int) (fun _ _ => rfl))) (pd_op op_mulZ l_I (pd_call F_law_at (hr.mono (by decide)) (by rfl) (T.g "_law_at") (T.k "_law_at") (takes_of rfl rfl rfl rfl) (pda_cons (pd_var (pv 1)) (pda_cons (pd_var (pv 2)) pda_nil))) (pd_ix ix_tup l_ixT (pd_var (pv 0)) (pd_int pe_int) (fun _ _ => rfl))) (nomark _)) (pdss_one (pds_ret (pd_bl pe_bl))) pdss_nil))) (pdss_one (pds_ret (pd_bl pe_bl))), fun ds Q ex h => ?_⟩)
  · obtain ⟨ts, b, us, c, rfl, _⟩ := h
    rfl
  · obtain ⟨ts, b, us, c, rfl, he, bt, bu, sb, sc, lt, lu, q⟩ := h
    walk_at "go"
    refine ⟨fun i env => ∃ u : Sl, env = [.val (TB ts b), .val (TB us c), u], fun _ => ⟨_, rfl⟩, ?_, ?_⟩
    · rintro i x env hx ⟨u, rfl⟩
      obtain ⟨hi, rfl⟩ := rng_at hx
      have e := he i
      have m1 : IntMulOk (cf ts i) c := mulBig (cf_bd bt i) sc
      have m2 : IntMulOk (cf us i) b := mulBig (cf_bd bu i) sb
      have ne : (!decide (cf ts i * c = cf us i * b)) = false := by rw [Int.mul_comm (cf ts i), Int.mul_comm (cf us i), decide_eq_true e]; rfl
      rw [Int.zero_add]
      walk_at "go"
      rw [ne]
      exact fun _ => ⟨_, rfl⟩
    · rintro env ⟨u, rfl⟩
      walk_at "go"
      exact q

theorem fn_law_same_rows (T : Txt LL K mg) (M : Mo3 cs sms cis mxs exs K mg) : Nonempty (Fn P w K mg base (d_law_same_rows.at_ K) 1 2 P_law_same_rows) := by
  refine Fn.of (T.d 50 (d := d_law_same_rows)) sc_law_same_rows rfl (fun _ _ _ _ _ _ us hl => match us, hl with | [_, _], _ => rfl) (fun ds Q ex h => ?_) (fun fd cdv A outer s H E hr => ⟨_, pdss_cons (pds_if (PDW.pt (pdw_or (pdt_cmp op_ne l_ne (pd_cb (fun h => pe_callB call_len (by rfl) (T.f "len") (by decide +kernel) h) l_len (pda_cons (pd_ix ix_tup l_ixT (pd_var (pv 0)) (pd_int pe_int) (fun _ _ => rfl)) pda_nil)) (pd_cb (fun h => pe_callB call_len (by rfl) (T.f "len") (by decide +kernel) h) l_len (pda_cons (pd_ix ix_tup l_ixT (pd_var (pv 1)) (pd_int pe_int) (fun _ _ => rfl)) pda_nil)) (nomark _)) (pdw_or1 (pdt_cmp op_ne l_ne (pd_cb (fun h => pe_callB call_len (by rfl) (T.f "len") (by decide +kernel) h) l_len (pda_cons (pd_ix ix_list l_ixL (pd_ix ix_tup l_ixT (pd_var (pv 0)) (pd_int pe_int) (fun _ _ => rfl)) (pd_int pe_int) (fun _ _ => rfl)) pda_nil)) (pd_cb (fun h => pe_callB call_len (by rfl) (T.f "len") (by decide +kernel) h) l_len (pda_cons (pd_ix ix_list l_ixL (pd_ix ix_tup l_ixT (pd_var (pv 1)) (pd_int pe_int) (fun _ _ => rfl)) (pd_int pe_int) (fun _ _ => rfl)) pda_nil)) (nomark _))))) (pdss_one (pds_ret (pd_bl pe_bl))) pdss_nil) (pdss_cons (pds_for (passes_of rfl) rfl (pdi_range1 rfl (T.f "range") (pda_cons (pd_cb (fun h => pe_callB call_len (by rfl) (T.f "len") (by decide +kernel) h) l_len (pda_cons (pd_ix ix_tup l_ixT (pd_var (pv 0)) (pd_int pe_int) (fun _ _ => rfl)) pda_nil)) pda_nil)) (pdg_name (pg_name (i := 2) sc_law_same_rows.nd rfl (by first | exact Or.inl rfl | exact Or.inr rfl))) (pdss_one (pds_for (passes_of rfl) rfl (pdi_range1 rfl (T.f "range") (pda_cons (pd_cb (fun h => pe_callB call_len (by rfl) (T.f "len") (by decide +kernel) h) l_len (pda_cons (pd_ix ix_list l_ixL (pd_ix ix_tup l_ixT (pd_var (pv 0)) (pd_int pe_int) (fun _ _ => rfl)) (pd_int pe_int) (fun _ _ => rfl)) pda_nil)) pda_nil)) (pdg_name (pg_name (i := 3) sc_law_same_rows.nd rfl (by first | exact Or.inl rfl | exact Or.inr rfl))) (pdss_one (pds_if (pdt_cmp op_ne l_ne (pd_op op_mulZ l_I (pd_ix ix_list l_ixL (pd_ix ix_list l_ixL (pd_ix ix_tup l_ixT (pd_var (pv 0)) (pd_int pe_int) (fun _ _ => rfl)) (pd_var (pv 2)) (fun _ _ => rfl)) (pd_var (pv 3)) (fun _ _ => rfl)) (pd_ix ix_tup l_ixT (pd_var (pv 1)) (pd_int pe_int) (fun _ _ => rfl))) (pd_op op_mulZ l_I (pd_ix ix_list l_ixL (pd_ix ix_list l_ixL (pd_ix ix_tup l_ixT (pd_var (pv 1)) (pd_int pe_int) (fun _ _ => rfl)) (pd_var (pv 2)) (fun _ _ => rfl)) (pd_var (pv 3)) (fun _ _ => rfl)) (pd_ix ix_tup l_ixT (pd_var (pv 0)) (pd_int pe_int) (fun _ _ => rfl))) (nomark _)) (pdss_one (pds_ret (pd_bl pe_bl))) pdss_nil))))) (pdss_one (pds_ret (pd_bl pe_bl)))), fun ds Q ex h => ?_⟩)
  · obtain ⟨A, b, B, c, h, w, rfl, _⟩ := h
    rfl
  · obtain ⟨A, b, B, c, hh, w, rfl, sA, sB, h0, h4, w4, hb, hc, he, bA, bB, sb, sc, q⟩ := h
    have lA : A.length = hh := sA.1
    have lB : B.length = hh := sB.1
    obtain ⟨r0, e1, e2⟩ : ∃ r, A[0]? = some r ∧ r.length = w := by
      have : A[0]? = some (A[0]'(by omega)) := List.getElem?_eq_getElem _
      exact ⟨_, this, sA.2 _ (List.mem_of_getElem? this)⟩
    obtain ⟨s0, f1, f2⟩ : ∃ r, B[0]? = some r ∧ r.length = w := by
      have : B[0]? = some (B[0]'(by omega)) := List.getElem?_eq_getElem _
      exact ⟨_, this, sB.2 _ (List.mem_of_getElem? this)⟩
    have a0 : atI (A.map fun r => D.lst (r.map D.int)) 0 = some (.lst (r0.map D.int)) := at_map (f := fun r : List Int => D.lst (r.map D.int)) (by decide) e1
    have b0 : atI (B.map fun r => D.lst (r.map D.int)) 0 = some (.lst (s0.map D.int)) := at_map (f := fun r : List Int => D.lst (r.map D.int)) (by decide) f1
    have z1 : (!decide ((((A.map fun r => D.lst (r.map D.int)).length : Nat) : Int) = (((B.map fun r => D.lst (r.map D.int)).length : Nat) : Int))) = false := by rw [List.length_map, List.length_map, lA, lB, decide_eq_true rfl]; rfl
    have z2 : (!decide ((((r0.map D.int).length : Nat) : Int) = (((s0.map D.int).length : Nat) : Int))) = false := by rw [List.length_map, List.length_map, e2, f2, decide_eq_true rfl]; rfl
    have hrl : (rngD 0 (((A.map fun r => D.lst (r.map D.int)).length : Nat) : Int).toNat).length < sizeLine := by rw [rng_len, List.length_map]; exact sz100 (by omega)
    have hrl2 : (rngD 0 (((r0.map D.int).length : Nat) : Int).toNat).length < sizeLine := by rw [rng_len, List.length_map]; exact sz100 (by omega)
    walk_at "go"
    rw [z1]
    walk_at "go"
    rw [z2]
    walk_at "go"
    refine ⟨fun i env => ∃ u2 u3 : Sl, env = [.val (MB A b), .val (MB B c), u2, u3], fun _ => ⟨_, _, rfl⟩, ?_, ?_⟩
    · rintro i x env hx ⟨u2, u3, rfl⟩
      obtain ⟨hi, rfl⟩ := rng_at hx
      rw [List.length_map] at hi
      have hi' : i < hh := by omega
      rw [Int.zero_add]
      walk_at "go"
      refine ⟨fun j env => ∃ u3 : Sl, env = [.val (MB A b), .val (MB B c), .val (.int (i : Int)), u3], fun _ => ⟨_, rfl⟩, ?_, ?_⟩
      · rintro j x env hx ⟨u3, rfl⟩
        obtain ⟨hj, rfl⟩ := rng_at hx
        rw [List.length_map] at hj
        have hj' : j < w := by omega
        obtain ⟨r, r1, r2, r3⟩ := sA.at hi' hj'
        obtain ⟨s, s1, s2, s3⟩ := sB.at hi' hj'
        have ar : atI (A.map fun r => D.lst (r.map D.int)) (i : Int) = some (.lst (r.map D.int)) := at_map (f := fun r : List Int => D.lst (r.map D.int)) (by omega) (by rw [Int.toNat_natCast]; exact r1)
        have as : atI (B.map fun r => D.lst (r.map D.int)) (i : Int) = some (.lst (s.map D.int)) := at_map (f := fun r : List Int => D.lst (r.map D.int)) (by omega) (by rw [Int.toNat_natCast]; exact s1)
        have arj : atI (r.map D.int) (j : Int) = some (.int (en A i j)) := at_map (f := D.int) (by omega) (by rw [Int.toNat_natCast]; exact r3)
        have asj : atI (s.map D.int) (j : Int) = some (.int (en B i j)) := at_map (f := D.int) (by omega) (by rw [Int.toNat_natCast]; exact s3)
        have m1 : IntMulOk (en A i j) c := mulBig (en_bd bA i j) sc
        have m2 : IntMulOk (en B i j) b := mulBig (en_bd bB i j) sb
        have ne : (!decide (en A i j * c = en B i j * b)) = false := by rw [decide_eq_true (cross_of hb hc (he i j hi' hj'))]; rfl
        rw [Int.zero_add]
        walk_at "go"
        rw [ne]
        exact fun _ => ⟨_, rfl⟩
      · rintro env ⟨u3, rfl⟩
        exact fun _ => ⟨_, _, rfl⟩
    · rintro env ⟨u2, u3, rfl⟩
      walk_at "go"
      exact q
end
end K32

namespace K32
open PySem PySem.Spec PyProof.Rows L2 LR DL
section
variable {P : Program} {w : World} {K : PySem.W.Frag} {mg : Str → Option Value} {base : Heap}
local macro_rules | `(tactic| walk_at "side") => `(tactic| first | with_reducible assumption | exact Bsame.mk (by with_reducible rfl) | omega | rfl | assumption | exact ⟨_, rfl⟩ | exact mulL (by omega) (by omega) | exact mulR (by omega) (by omega) | exact mulF (by decide) (by decide) | exact ⟨by decide, by decide +kernel⟩ | decide | exact Nat.le_of_ble_eq_true rfl | (simp only [List.length_cons, List.length_nil, List.length_map, List.nil_append, List.cons_append, sizeLine_eq]; omega) | (simp only [List.map_cons, List.map_nil, List.nil_append, List.cons_append]; decide +kernel))
local macro_rules | `(tactic| walk_at "go") => `(tactic| repeat (first
  | refine ⟨_, rfl, ?_⟩
  | refine ⟨_, _, rfl, rfl, ?_⟩
  | refine ⟨_, _, rfl, ?_⟩
  | refine ⟨_, _, _, rfl, rfl, ?_⟩
  | refine ⟨_, _, _, rfl, ?_⟩
  | refine ⟨_, _, _, _, rfl, rfl, ?_⟩
  | refine ⟨_, _, _, _, rfl, ?_⟩
  | refine ⟨_, _, _, _, _, rfl, ?_⟩
  | refine ⟨_, _, rfl, by assumption, ?_⟩
  | refine ⟨_, _, _, rfl, rfl, rfl, ?_⟩
  | refine ⟨_, _, _, rfl, rfl, by assumption, ?_⟩
  | refine ⟨_, _, _, rfl, rfl, by walk_at "side", by assumption, ?_⟩
  | refine ⟨_, _, _, rfl, rfl, by walk_at "side", rfl, ?_⟩
  | refine ⟨_, _, _, rfl, rfl, rfl, by assumption, ?_⟩
  | refine .inl ⟨_, rfl, ?_⟩
  | refine .inr ⟨_, rfl, ?_⟩
  | refine .inr (.inl ⟨_, rfl, ?_⟩)
  | refine .inr (.inr ⟨_, rfl, ?_⟩)
  | refine ⟨_, .inl rfl, ?_⟩
  | refine ⟨_, .inr rfl, ?_⟩
  | refine .inr ⟨_, _, rfl, ?_⟩
  | refine .inl ⟨_, _, rfl, ?_⟩
  | refine And.intro (by walk_at "side") ?_))


structure DueOk (n K Kp l : Nat) : Prop where
  c : n * (K + 4) + n * (1 + l * (K + Kp + 6) + Kp + 4) + 20 ≤ 8900
  l : l ≤ 4000
def P_law_table_is_due : Prm := fun ds Q _ => ∃ (T : List (List Int)) (t : Int) (A : List (List Int)) (b : Int) (ts : List Int) (c : Int) (n K Kp : Nat), ds = [MX T t n n, MB A b, TB ts c] ∧ Mx 8900 n n T t ∧ Sh n n A ∧ b ≠ 0 ∧ c ≠ 0 ∧ BdM K A ∧ b.natAbs < 2 ^ K ∧ Bd Kp ts ∧ c.natAbs < 2 ^ Kp ∧ DueOk n K Kp ts.length ∧ EqM n n (VM T t) (tabR n (VM A b) (polR n ts c (VM A b))) ∧ Q (.bl true)
/-- the law's products so far -/
structure PrAt (n k : Nat) (F : QM) (H : List (List Int)) (h : Int) : Prop where
  sh : Sh n n H
  ne : h ≠ 0
  bd : BdM k H
  sb : h.natAbs < 2 ^ k
  val : EqM n n (VM H h) F
theorem pr_mul {n k s : Nat} {F G : QM} {H A : List (List Int)} {h b : Int} (n1 : n ≤ 12) (l : PrAt n k F H h) (sA : Sh n n A) (b0 : b ≠ 0) (bA : BdM s A) (sb : b.natAbs < 2 ^ s) (e : EqM n n (VM A b) G) : PrAt n (k + s + 4) (mulR n F G) (mulM H A n) (h * b) :=
  ⟨l.sh.mul, Int.mul_ne_zero l.ne b0, BdM.mul l.sh (by omega) l.bd bA, abs_up (abs_mul_lt l.sb sb) (by omega), (V_mul l.sh sA l.ne b0).trans (mulR_congr l.val e)⟩
theorem PrAt.to {n k m : Nat} {F G : QM} {H : List (List Int)} {h : Int} (l : PrAt n k F H h) (e : EqM n n F G) (km : k ≤ m) : PrAt n m G H h := ⟨l.sh, l.ne, l.bd.up km, abs_up l.sb km, l.val.trans e⟩
theorem pr_unit (n : Nat) (A : QM) : PrAt n 1 (powR n A 0) (unitM n) 1 := ⟨Sh.unit n, by decide, BdM.unit n, by decide, V_unit n⟩

theorem fn_law_table_is_due (T : Txt LL K mg) (M : Mo3 cs sms cis mxs exs K mg) : Nonempty (Fn P w K mg base (d_law_table_is_due.at_ K) 8 3 P_law_table_is_due) := by
  obtain ⟨F_law_matrix_of⟩ := fn_law_matrix_of (P := P) (w := w) (base := base) T M
  obtain ⟨F_law_value⟩ := fn_law_value (P := P) (w := w) (base := base) T M
  obtain ⟨F_law_unit⟩ := fn_law_unit (P := P) (w := w) (base := base) T M
  obtain ⟨F_law_trace⟩ := fn_law_trace (P := P) (w := w) (base := base) T M
  obtain ⟨F_law_equal⟩ := fn_law_equal (P := P) (w := w) (base := base) T M
  obtain ⟨F_law_ratio_of⟩ := fn_law_ratio_of (P := P) (w := w) (base := base) T M
  obtain ⟨F_Matrix_getitem⟩ := fn_Matrix_getitem (P := P) (w := w) (base := base) T M
  obtain ⟨FF_law_mul⟩ := fn_law_mul (P := P) (w := w) (base := base) T M
  have F_law_mul := FF_law_mul.fn
  refine Fn.of (T.d 61 (d := d_law_table_is_due)) sc_law_table_is_due rfl (fun _ _ _ _ _ _ us hl => match us, hl with | [_, _, _], _ => rfl) (fun ds Q ex h => ?_) (fun fd cdv A outer s H E hr => ⟨_, pdss_cons (pds_set (i := 3) sc_law_table_is_due.nd rfl (by first | exact Or.inl rfl | exact Or.inr rfl) (pd_cb (fun h => pe_callB call_len (by rfl) (T.f "len") (by decide +kernel) h) l_len (pda_cons (pd_ix ix_tup l_ixT (pd_var (pv 1)) (pd_int pe_int) (fun _ _ => rfl)) pda_nil))) (pdss_cons (pds_set (i := 4) sc_law_table_is_due.nd rfl (by first | exact Or.inl rfl | exact Or.inr rfl) (pd_call F_law_matrix_of (hr.mono (by decide)) (by rfl) (T.g "_law_matrix_of") (T.k "_law_matrix_of") (takes_of rfl rfl rfl rfl) (pda_cons (pd_var (pv 0)) (pda_cons (pd_var (pv 3)) (pda_cons (pd_var (pv 3)) pda_nil))))) (pdss_cons (pds_if (pdt_cmp op_isN l_isN (pd_var (pv 4)) (pd_non pe_non) (nomark _)) (pdss_one (pds_ret (pd_bl pe_bl))) pdss_nil) (pdss_cons (pds_set (i := 5) sc_law_table_is_due.nd rfl (by first | exact Or.inl rfl | exact Or.inr rfl) (pd_call F_law_value (hr.mono (by decide)) (by rfl) (T.g "_law_value") (T.k "_law_value") (takes_of rfl rfl rfl rfl) (pda_cons (pd_var (pv 2)) (pda_cons (pd_var (pv 1)) pda_nil)))) (pdss_cons (pds_set (i := 6) sc_law_table_is_due.nd rfl (by first | exact Or.inl rfl | exact Or.inr rfl) (pd_call F_law_unit (hr.mono (by decide)) (by rfl) (T.g "_law_unit") (T.k "_law_unit") (takes_of rfl rfl rfl rfl) (pda_cons (pd_var (pv 3)) pda_nil))) (pdss_cons (pds_for (passes_of rfl) rfl (pdi_range1 rfl (T.f "range") (pda_cons (pd_var (pv 3)) pda_nil)) (pdg_name (pg_name (i := 7) sc_law_table_is_due.nd rfl (by first | exact Or.inl rfl | exact Or.inr rfl))) (pdss_cons (pds_set (i := 8) sc_law_table_is_due.nd rfl (by first | exact Or.inl rfl | exact Or.inr rfl) (pd_var (pv 6))) (pdss_cons (pds_for (passes_of rfl) rfl (pdi_range1 rfl (T.f "range") (pda_cons (pd_var (pv 3)) pda_nil)) (pdg_name (pg_name (i := 9) sc_law_table_is_due.nd rfl (by first | exact Or.inl rfl | exact Or.inr rfl))) (pdss_cons (pds_set (i := 10) sc_law_table_is_due.nd rfl (by first | exact Or.inl rfl | exact Or.inr rfl) (pd_call F_law_trace (hr.mono (by decide)) (by rfl) (T.g "_law_trace") (T.k "_law_trace") (takes_of rfl rfl rfl rfl) (pda_cons (pd_var (pv 8)) pda_nil))) (pdss_cons (pds_if (pdt_not (pdt_val (pd_call F_law_equal (hr.mono (by decide)) (by rfl) (T.g "_law_equal") (T.k "_law_equal") (takes_of rfl rfl rfl rfl) (pda_cons (pd_tup (pda_cons (pd_ix ix_list l_ixL (pd_ix ix_list l_ixL (pd_ix ix_tup l_ixT (pd_var (pv 4)) (pd_int pe_int) (fun _ _ => rfl)) (pd_var (pv 7)) (fun _ _ => rfl)) (pd_var (pv 9)) (fun _ _ => rfl)) (pda_cons (pd_ix ix_tup l_ixT (pd_var (pv 4)) (pd_int pe_int) (fun _ _ => rfl)) pda_nil))) (pda_cons (pd_var (pv 10)) pda_nil))))) (pdss_one (pds_ret (pd_bl pe_bl))) pdss_nil) (pdss_cons (pds_set (i := 11) sc_law_table_is_due.nd rfl (by first | exact Or.inl rfl | exact Or.inr rfl) (pd_call F_law_ratio_of (hr.mono (by decide)) (by rfl) (T.g "_law_ratio_of") (T.k "_law_ratio_of") (takes_of rfl rfl rfl rfl) (pda_cons (pd_ixC (c := 2) (T.own "Matrix" "__getitem__") (fn_in (T.d 17 (d := d_Matrix_getitem))) (T.fnn "Matrix" "__getitem__") F_Matrix_getitem (hr.mono (by decide)) (pd_var (pv 0)) (pd_tup (pda_cons (pd_var (pv 7)) (pda_cons (pd_var (pv 9)) pda_nil))) (fun _ _ => by with_unfolding_all rfl)) pda_nil))) (pdss_cons (pds_if (PDW.pt (pdw_or (pdt_cmp op_isN l_isN (pd_var (pv 11)) (pd_non pe_non) (nomark _)) (pdw_or1 (pdt_not (pdt_val (pd_call F_law_equal (hr.mono (by decide)) (by rfl) (T.g "_law_equal") (T.k "_law_equal") (takes_of rfl rfl rfl rfl) (pda_cons (pd_var (pv 11)) (pda_cons (pd_var (pv 10)) pda_nil)))))))) (pdss_one (pds_ret (pd_bl pe_bl))) pdss_nil) (pdss_one (pds_set (i := 8) sc_law_table_is_due.nd rfl (by first | exact Or.inl rfl | exact Or.inr rfl) (pd_call F_law_mul (hr.mono (by decide)) (by rfl) (T.g "_law_mul") (T.k "_law_mul") (takes_of rfl rfl rfl rfl) (pda_cons (pd_var (pv 8)) (pda_cons (pd_var (pv 5)) pda_nil)))))))))) (pdss_one (pds_set (i := 6) sc_law_table_is_due.nd rfl (by first | exact Or.inl rfl | exact Or.inr rfl) (pd_call F_law_mul (hr.mono (by decide)) (by rfl) (T.g "_law_mul") (T.k "_law_mul") (takes_of rfl rfl rfl rfl) (pda_cons (pd_var (pv 6)) (pda_cons (pd_var (pv 1)) pda_nil)))))))) (pdss_one (pds_ret (pd_bl pe_bl)))))))), fun ds Q ex h => ?_⟩)
  · obtain ⟨T, t, A, b, ts, c, n, K, Kp, rfl, _⟩ := h
    rfl
  · obtain ⟨T, t, A, b, ts, c, n, K, Kp, rfl, hT, sA, b0, c0, bA, sb, bt, sc, ⟨lim, tl⟩, he, q⟩ := h
    have n0 := hT.h0
    have n1 := hT.h1
    have sT := hT.sh
    have lA : (A.map fun r => D.lst (r.map D.int)).length = n := by rw [List.length_map]; exact sA.1
    have kn : K + 4 ≤ n * (K + 4) := Nat.le_mul_of_pos_left _ n0
    have ln : 1 + ts.length * (K + Kp + 6) + Kp + 4 ≤ n * (1 + ts.length * (K + Kp + 6) + Kp + 4) := Nat.le_mul_of_pos_left _ n0
    have kk2 : ts.length * K ≤ ts.length * (K + Kp + 6) := Nat.mul_le_mul_left _ (by omega)
    have hrl : (rngD 0 (((A.map fun r => D.lst (r.map D.int)).length : Nat) : Int).toNat).length < sizeLine := by rw [rng_len]; exact sz100 (by omega)
    walk_at "go"
    refine ⟨T, t, n, n, ?_, hT, ?_⟩
    · rw [lA]
    walk_at "go"
    refine ⟨ts, c, A, b, n, K, Kp, rfl, sA, n0, n1, b0, c0, bA, sb, bt, sc, tl, by omega, fun O o ho => ?_⟩
    walk_at "go"
    rw [lA]
    obtain ⟨hO, on, bO, so, vO⟩ := ho
    have pO : BdM (1 + ts.length * (K + Kp + 6) + Kp) O := bO.up (by omega)
    have qO : o.natAbs < 2 ^ (1 + ts.length * (K + Kp + 6) + Kp) := abs_up so (by omega)
    refine ⟨fun i env => ∃ (L : List (List Int)) (l : Int) (u7 u8 u9 u10 u11 : Sl), env = [.val (MX T t n n), .val (MB A b), .val (TB ts c), .val (.int (n : Int)), .val (MB T t), .val (MB O o), .val (MB L l), u7, u8, u9, u10, u11] ∧ PrAt n (1 + i * (K + 4)) (powR n (VM A b) i) L l, fun _ => ⟨unitM n, 1, _, _, _, _, _, rfl, (pr_unit n _).to (.refl _) (by omega)⟩, ?_, ?_⟩
    · rintro i x env hx ⟨L, l, u7, u8, u9, u10, u11, rfl, hL⟩
      obtain ⟨hi, rfl⟩ := rng_at hx
      have hi' : i < n := by omega
      have ib : i * (K + 4) ≤ n * (K + 4) := Nat.mul_le_mul_right _ (Nat.le_of_lt hi')
      rw [Int.zero_add]
      walk_at "go"
      refine ⟨fun j env => ∃ (B : List (List Int)) (e : Int) (u9 u10 u11 : Sl), env = [.val (MX T t n n), .val (MB A b), .val (TB ts c), .val (.int (n : Int)), .val (MB T t), .val (MB O o), .val (MB L l), .val (.int (i : Int)), .val (MB B e), u9, u10, u11] ∧ PrAt n (1 + i * (K + 4) + j * (1 + ts.length * (K + Kp + 6) + Kp + 4)) (mulR n (powR n (VM A b) i) (powR n (polR n ts c (VM A b)) j)) B e, fun _ => ⟨L, l, _, _, _, rfl, hL.to (mulR_one _).symm (by omega)⟩, ?_, ?_⟩
      · rintro j x env hx ⟨B, e, u9, u10, u11, rfl, hB⟩
        obtain ⟨hj, rfl⟩ := rng_at hx
        have hj' : j < n := by omega
        have jb : j * (1 + ts.length * (K + Kp + 6) + Kp + 4) ≤ n * (1 + ts.length * (K + Kp + 6) + Kp + 4) := Nat.mul_le_mul_right _ (Nat.le_of_lt hj')
        obtain ⟨r, r1, r2, r3⟩ := sT.at hi' hj'
        have ar : atI (T.map fun r => D.lst (r.map D.int)) (i : Int) = some (.lst (r.map D.int)) := at_map (f := fun r : List Int => D.lst (r.map D.int)) (by omega) (by rw [Int.toNat_natCast]; exact r1)
        have arj : atI (r.map D.int) (j : Int) = some (.int (en T i j)) := at_map (f := D.int) (by omega) (by rw [Int.toNat_natCast]; exact r3)
        have vt : (en T i j : Rat) / (t : Rat) = (traI B : Rat) / (e : Rat) := by
          rw [V_tra hB.sh.1 hB.ne, traR_congr hB.val]
          exact he i j hi' hj'
        have cr : en T i j * e = traI B * t := cross_of hT.ne hB.ne vt
        have se : e.natAbs < 2 ^ 9000 := abs_up hB.sb (by omega)
        have sB : (traI B).natAbs < 2 ^ 9000 := abs_up (tra_bd hB.bd (by rw [hB.sh.1]; omega)) (by omega)
        have st : t.natAbs < 2 ^ 9000 := abs_up hT.sb (by decide)
        have sT1 : (en T i j).natAbs < 2 ^ 9000 := abs_up (en_bd hT.bd i j) (by decide)
        have m1 : IntMulOk (en T i j) e := mulBig sT1 se
        have m2 : IntMulOk (traI B) t := mulBig sB st
        have nrm := nrm_of (t := en T i j) hT.ne
        have m3 : IntMulOk (nT (en T i j) t) e := mulBig (Nat.lt_of_le_of_lt (nT_le _ _) sT1) se
        have m4 : IntMulOk (traI B) (nB (en T i j) t) := mulBig sB (Nat.lt_of_le_of_lt (nB_le _ _) st)
        have cr2 : nT (en T i j) t * e = traI B * nB (en T i j) t := cross_of (Int.ne_of_gt nrm.pos) hB.ne ((nTB_val hT.ne).trans vt)
        have st2 : t.natAbs < 2 ^ 8999 := abs_up hT.sb (by decide)
        have sn2 : (nB (en T i j) t).natAbs < 2 ^ 8999 := Nat.lt_of_le_of_lt (nB_le _ _) st2
        have nx := pr_mul n1 hB hO on pO qO vO
        rw [Int.zero_add]
        walk_at "go"
        refine ⟨B, e, n, rfl, hB.sh, by omega, ?_⟩
        walk_at "go"
        refine ⟨T, t, (i : Int), (j : Int), n, n, rfl, sT, by omega, by omega, by omega, by omega, hT.ne, st2, ?_⟩
        rw [Int.toNat_natCast, Int.toNat_natCast]
        have np := nrm.pos
        have ne1 := nT_nrm nrm
        have ne2 := nB_nrm nrm
        walk_at "go"
        refine ⟨B, e, O, o, n, n, n, rfl, hB.sh, hO, n0, by omega, by omega, by omega, hB.bd.up (by omega), pO.up (by omega), se, abs_up qO (by omega), ?_⟩
        refine fun _ => ⟨_, _, _, _, _, by rfl, nx.to ?_ (by rw [Nat.succ_mul]; omega)⟩
        rw [mulR_assoc]
        exact mulR_congr (.refl _) (powR_right _ j)
      · rintro env ⟨B, e, u9, u10, u11, rfl, hB⟩
        have nx := pr_mul n1 hL sA b0 bA sb (.refl _)
        walk_at "go"
        refine ⟨L, l, A, b, n, n, n, rfl, hL.sh, sA, n0, by omega, by omega, by omega, hL.bd.up (by omega), bA.up (by omega), abs_up hL.sb (by omega), abs_up sb (by omega), ?_⟩
        exact fun _ => ⟨_, _, _, _, _, _, _, by rfl, nx.to (powR_right _ i) (by rw [Nat.succ_mul]; omega)⟩
    · rintro env ⟨L, l, u7, u8, u9, u10, u11, rfl, hL⟩
      walk_at "go"
      exact q
end
end K32

namespace K32
open PySem PySem.Spec PyProof.Rows L2 LR DL
section
variable {P : Program} {w : World} {K : PySem.W.Frag} {mg : Str → Option Value} {base : Heap}
local macro_rules | `(tactic| walk_at "side") => `(tactic| first | with_reducible assumption | exact Bsame.mk (by with_reducible rfl) | omega | rfl | assumption | exact ⟨_, rfl⟩ | exact mulL (by omega) (by omega) | exact mulR (by omega) (by omega) | exact mulF (by decide) (by decide) | exact ⟨by decide, by decide +kernel⟩ | decide | exact Nat.le_of_ble_eq_true rfl | (simp only [List.length_cons, List.length_nil, List.length_map, List.nil_append, List.cons_append, sizeLine_eq]; omega) | (simp only [List.map_cons, List.map_nil, List.nil_append, List.cons_append]; decide +kernel))
local macro_rules | `(tactic| walk_at "go") => `(tactic| repeat (first
  | refine ⟨_, rfl, ?_⟩
  | refine ⟨_, _, rfl, rfl, ?_⟩
  | refine ⟨_, _, rfl, ?_⟩
  | refine ⟨_, _, _, rfl, rfl, ?_⟩
  | refine ⟨_, _, _, rfl, ?_⟩
  | refine ⟨_, _, _, _, rfl, rfl, ?_⟩
  | refine ⟨_, _, _, _, rfl, ?_⟩
  | refine ⟨_, _, _, _, _, rfl, ?_⟩
  | refine ⟨_, _, rfl, by assumption, ?_⟩
  | refine ⟨_, _, _, rfl, rfl, rfl, ?_⟩
  | refine ⟨_, _, _, rfl, rfl, by assumption, ?_⟩
  | refine ⟨_, _, _, rfl, rfl, by walk_at "side", by assumption, ?_⟩
  | refine ⟨_, _, _, rfl, rfl, by walk_at "side", rfl, ?_⟩
  | refine ⟨_, _, _, rfl, rfl, rfl, by assumption, ?_⟩
  | refine .inl ⟨_, rfl, ?_⟩
  | refine .inr ⟨_, rfl, ?_⟩
  | refine .inr (.inl ⟨_, rfl, ?_⟩)
  | refine .inr (.inr ⟨_, rfl, ?_⟩)
  | refine ⟨_, .inl rfl, ?_⟩
  | refine ⟨_, .inr rfl, ?_⟩
  | refine .inr ⟨_, _, rfl, ?_⟩
  | refine .inl ⟨_, _, rfl, ?_⟩
  | refine And.intro (by walk_at "side") ?_))


theorem sumR_front (f : Nat → Rat) : ∀ n, sumR (n + 1) f = f 0 + sumR n fun k => f (k + 1)
  | 0 => by
    show sumR 0 f + f 0 = f 0 + 0
    show (0 : Rat) + f 0 = f 0 + 0
    grind
  | n + 1 => by
    rw [sumR, sumR_front f n]
    show _ = f 0 + (sumR n (fun k => f (k + 1)) + f (n + 1))
    grind
/-- a sum of powers -/
def psR (n N : Nat) (f : Nat → Rat) (A : QM) : QM := fun i j => sumR N fun k => f k * powR n A k i j
theorem psR_mul {n N : Nat} (f : Nat → Rat) (A : QM) : EqM n n (mulR n (psR n N f A) A) (fun i j => sumR N fun k => f k * powR n A (k + 1) i j) := fun i j hi hj => by
  show sumR n (fun l => (sumR N fun k => f k * powR n A k i l) * A l j) = _
  rw [sumR_congr (g := fun l => sumR N fun k => f k * powR n A k i l * A l j) fun l _ => (sumR_mulR _ _ _).symm, sumR_swap]
  refine sumR_congr fun k _ => ?_
  rw [← powR_right A k i j hi hj]
  show _ = f k * sumR n fun l => powR n A k i l * A l j
  rw [← sumR_mulL]
  exact sumR_congr fun l _ => by grind
theorem horn_ps {n : Nat} (A : QM) : ∀ ts : List Int, EqM n n (hornR n A ts.reverse zeroR) (psR n ts.length (fun k => (cf ts k : Rat)) A)
  | [] => fun i j _ _ => rfl
  | t :: us => by
    rw [List.reverse_cons, hornR_snoc]
    have ih := horn_ps (n := n) A us
    intro i j hi hj
    have h1 : mulR n (hornR n A us.reverse zeroR) A i j = mulR n (psR n us.length (fun k => (cf us k : Rat)) A) A i j := mulR_congr ih (.refl A) i j hi hj
    show mulR n (hornR n A us.reverse zeroR) A i j + (t : Rat) * oneR i j = sumR (us.length + 1) fun k => (cf (t :: us) k : Rat) * powR n A k i j
    rw [h1, psR_mul _ A i j hi hj, sumR_front]
    show _ = (t : Rat) * oneR i j + sumR us.length fun k => (cf us k : Rat) * powR n A (k + 1) i j
    grind
theorem ps_more {n N : Nat} {f : Nat → Rat} (A : QM) (h : ∀ k, N ≤ k → f k = 0) : ∀ m, EqM n n (psR n (N + m) f A) (psR n N f A)
  | 0 => .refl _
  | m + 1 => fun i j hi hj => by
    show sumR (N + m) (fun k => f k * powR n A k i j) + f (N + m) * powR n A (N + m) i j = _
    rw [h (N + m) (by omega), ← ps_more A h m i j hi hj]
    show _ = sumR (N + m) (fun k => f k * powR n A k i j)
    grind
/-- the value of a polynomial is a matter of its fractions -/
theorem pol_val {n : Nat} {ts us : List Int} {b c : Int} (A : QM) (hb : b ≠ 0) (hc : c ≠ 0) (h : PEq (cf ts) b (cf us) c) : EqM n n (polR n ts b A) (polR n us c A) := by
  have key : ∀ (ts : List Int) (b : Int) (m : Nat), EqM n n (polR n ts b A) (fun i j => 1 / (b : Rat) * psR n (ts.length + m) (fun k => (cf ts k : Rat)) A i j) := fun ts b m i j hi hj => by
    show 1 / (b : Rat) * hornR n A ts.reverse zeroR i j = 1 / (b : Rat) * psR n (ts.length + m) (fun k => (cf ts k : Rat)) A i j
    rw [horn_ps A ts i j hi hj, ps_more A (fun k hk => by rw [cf_ge hk]; rfl) m i j hi hj]
  intro i j hi hj
  rw [key ts b us.length i j hi hj, key us c ts.length i j hi hj, Nat.add_comm us.length]
  show 1 / (b : Rat) * sumR (ts.length + us.length) (fun k => (cf ts k : Rat) * powR n A k i j) = 1 / (c : Rat) * sumR (ts.length + us.length) (fun k => (cf us k : Rat) * powR n A k i j)
  rw [← sumR_mulL, ← sumR_mulL]
  refine sumR_congr fun k _ => ?_
  have r1 := rat_ne hb
  have r2 := rat_ne hc
  have e : (c : Rat) * (cf ts k : Rat) = (b : Rat) * (cf us k : Rat) := by exact_mod_cast h k
  grind
theorem polR_congr {n : Nat} {ts : List Int} {c : Int} {A B : QM} (h : EqM n n A B) : EqM n n (polR n ts c A) (polR n ts c B) := sclR_congr _ (hornR_congr h _ (.refl _))
theorem tabR_congr {n : Nat} {A B P Q : QM} (h : EqM n n A B) (k : EqM n n P Q) : EqM n n (tabR n A P) (tabR n B Q) := fun i j _ _ => traR_congr (mulR_congr (powR_congr h i) (powR_congr k j))
end
end K32

namespace K32
open PySem PySem.Spec PyProof.Rows L2 LR DL
section
variable {P : Program} {w : World} {K : PySem.W.Frag} {mg : Str → Option Value} {base : Heap}
local macro_rules | `(tactic| walk_at "side") => `(tactic| first | with_reducible assumption | exact Bsame.mk (by with_reducible rfl) | omega | rfl | assumption | exact ⟨_, rfl⟩ | exact mulL (by omega) (by omega) | exact mulR (by omega) (by omega) | exact mulF (by decide) (by decide) | exact ⟨by decide, by decide +kernel⟩ | decide | exact Nat.le_of_ble_eq_true rfl | (simp only [List.length_cons, List.length_nil, List.length_map, List.nil_append, List.cons_append, sizeLine_eq]; omega) | (simp only [List.map_cons, List.map_nil, List.nil_append, List.cons_append]; decide +kernel))
local macro_rules | `(tactic| walk_at "go") => `(tactic| repeat (first
  | refine ⟨_, rfl, ?_⟩
  | refine ⟨_, _, rfl, rfl, ?_⟩
  | refine ⟨_, _, rfl, ?_⟩
  | refine ⟨_, _, _, rfl, rfl, ?_⟩
  | refine ⟨_, _, _, rfl, ?_⟩
  | refine ⟨_, _, _, _, rfl, rfl, ?_⟩
  | refine ⟨_, _, _, _, rfl, ?_⟩
  | refine ⟨_, _, _, _, _, rfl, ?_⟩
  | refine ⟨_, _, rfl, by assumption, ?_⟩
  | refine ⟨_, _, _, rfl, rfl, rfl, ?_⟩
  | refine ⟨_, _, _, rfl, rfl, by assumption, ?_⟩
  | refine ⟨_, _, _, rfl, rfl, by walk_at "side", by assumption, ?_⟩
  | refine ⟨_, _, _, rfl, rfl, by walk_at "side", rfl, ?_⟩
  | refine ⟨_, _, _, rfl, rfl, rfl, by assumption, ?_⟩
  | refine .inl ⟨_, rfl, ?_⟩
  | refine .inr ⟨_, rfl, ?_⟩
  | refine .inr (.inl ⟨_, rfl, ?_⟩)
  | refine .inr (.inr ⟨_, rfl, ?_⟩)
  | refine ⟨_, .inl rfl, ?_⟩
  | refine ⟨_, .inr rfl, ?_⟩
  | refine .inr ⟨_, _, rfl, ?_⟩
  | refine .inl ⟨_, _, rfl, ?_⟩
  | refine And.intro (by walk_at "side") ?_))


theorem tb_all {n K Kp l : Nat} (n2 : 2 ≤ n) (n5 : n ≤ 5) (hk : K = 6 ∨ (K = 50 ∧ n = 2)) (hl : (Kp = 6 ∧ l ≤ 21) ∨ (Kp = K + 30 ∧ l ≤ 2)) : TbOk n K Kp l ∧ DueOk n K Kp l := by
  have hn : n = 2 ∨ n = 3 ∨ n = 4 ∨ n = 5 := by omega
  refine ⟨⟨?_, ?_, ?_, ?_⟩, ⟨?_, ?_⟩⟩
  all_goals
    try simp only [szX, szM, szL]
    rcases hk with rfl | ⟨rfl, rfl⟩ <;> rcases hl with ⟨rfl, hl⟩ | ⟨rfl, hl⟩ <;> first
      | omega
      | (rcases hn with rfl | rfl | rfl | rfl <;> omega)
structure MatOk (n K : Nat) (A : List (List Int)) (b : Int) : Prop where
  sh : Sh n n A
  n2 : 2 ≤ n
  n5 : n ≤ 5
  b1 : 1 ≤ b
  b6 : b ≤ 6
  bd : BdM K A
  k : K = 6 ∨ (K = 50 ∧ n = 2)
theorem MatOk.low {n K : Nat} {A : List (List Int)} {b : Int} (m : MatOk n K A b) : Mx K n n (mT A b) (mB A b) := by
  obtain ⟨sh, n2, n5, b1, b6, bd, k⟩ := m
  refine low_mx sh (by omega) (by omega) (by omega) (by omega) (by omega) bd ?_
  rcases k with rfl | ⟨rfl, _⟩
  · show b.natAbs < 64
    omega
  · exact Nat.lt_of_lt_of_le (show b.natAbs < 2 ^ 6 by show b.natAbs < 64; omega) (Nat.pow_le_pow_right (by decide) (by decide))
/-- the numbers of a polynomial of the law's -/
structure PlyOk (n K : Nat) (Kp : Nat) (ts : List Int) (c : Int) : Prop where
  ne : c ≠ 0
  sc : c.natAbs < 2 ^ Kp
  bd : Bd Kp ts
  sz : (Kp = 6 ∧ ts.length ≤ 21) ∨ (Kp = K + 30 ∧ ts.length ≤ 2)
abbrev skT (A : List (List Int)) (b : Int) (n : Nat) : List Int := [2 * traI A, -(b * (n : Int))]
abbrev skC (b : Int) (n : Nat) : Int := b * (n : Int)
theorem sk_ok {n K : Nat} {A : List (List Int)} {b : Int} (m : MatOk n K A b) : PlyOk n K (K + 30) (skT A b n) (skC b n) := by
  obtain ⟨sh, n2, n5, b1, b6, bd, k⟩ := m
  have hc : (skC b n).natAbs < 2 ^ 6 := by
    show (b * (n : Int)).natAbs < 2 ^ 6
    rw [Int.natAbs_mul]
    exact Nat.lt_of_le_of_lt (Nat.mul_le_mul (show b.natAbs ≤ 6 by omega) (show ((n : Int)).natAbs ≤ 5 by omega)) (by decide)
  have hc2 : (skC b n).natAbs < 2 ^ (K + 30) := abs_up hc (by omega)
  refine ⟨Int.mul_ne_zero (by omega) (by omega), hc2, fun t ht => ?_, .inr ⟨rfl, Nat.le_refl _⟩⟩
  simp only [List.mem_cons, List.not_mem_nil, or_false] at ht
  rcases ht with rfl | rfl
  · exact abs_up (abs_mul_lt (a := 2) (by decide) (tra_bd bd (by rw [sh.1]; omega))) (by omega)
  · rw [Int.natAbs_neg]
    exact hc2
/-- what the program's polynomial is -/
structure AskOk (n K : Nat) (ts : List Int) (c : Int) (us : List Int) (d : Int) : Prop where
  pol : Pol 8900 us d
  tb : ∃ Kq, PlOk Kq us d ∧ TbOk n K Kq us.length
  eq : PEq (cf us) d (cf ts) c
theorem ask_of {n K Kp : Nat} {A : List (List Int)} {b : Int} {ts : List Int} {c : Int} (m : MatOk n K A b) (p : PlyOk n K Kp ts c) : AskOk n K ts c (pT ts c) (pB ts c) := by
  obtain ⟨ne, sc, bd, sz⟩ := p
  have hk := m.k
  have h1 : Kp ≤ 8900 := by omega
  have pl := pol_of ne (by omega) bd sc
  have len := pT_len ts c
  refine ⟨pl.up h1, ⟨Kp, ⟨pl.pos, pl.sb, pl.bd, by omega⟩, (tb_all m.n2 m.n5 hk (by omega)).1⟩, poly_cf ts ne⟩
theorem ask_sk {n K : Nat} {A : List (List Int)} {b : Int} {us : List Int} {d : Int} (m : MatOk n K A b) (s : SkOk K n (mT A b) (mB A b) us d) : AskOk n K (skT A b n) (skC b n) us d := by
  have hk := m.k
  have b0 : b ≠ 0 := by have := m.b1; omega
  have mx := m.low
  have nz : (n : Int) ≠ 0 := by have := m.n2; omega
  refine ⟨s.pol.up (by omega), ⟨K + 30, ⟨s.pol.pos, s.pol.sb, s.pol.bd, by omega⟩, (tb_all m.n2 m.n5 hk (.inr ⟨rfl, s.len⟩)).1⟩, s.eq.trans (Int.mul_ne_zero mx.ne nz) fun k => ?_⟩
  have tr : (traI (mT A b) : Rat) / (mB A b : Rat) = (traI A : Rat) / (b : Rat) := by
    rw [V_tra mx.sh.1 mx.ne, V_tra m.sh.1 b0]
    exact traR_congr (V_low m.sh b0)
  have cr := cross_of mx.ne b0 tr
  have e : (b * (n : Int)) * (2 * traI (mT A b)) = (mB A b * (n : Int)) * (2 * traI A) := by
    have : (b * (n : Int)) * (2 * traI (mT A b)) = (n : Int) * 2 * (traI (mT A b) * b) := by grind
    rw [this, cr]
    grind
  match k with
  | 0 => exact e
  | 1 => show b * (n : Int) * (-(mB A b * (n : Int))) = mB A b * (n : Int) * (-(b * (n : Int))); grind
  | k + 2 => show b * (n : Int) * 0 = mB A b * (n : Int) * 0; simp
theorem tab_due {n K : Nat} {A T : List (List Int)} {b t : Int} {ts us : List Int} {c d : Int} (m : MatOk n K A b) (hc : c ≠ 0) (a : AskOk n K ts c us d) (h : EqM n n (VM T t) (tabR n (VM (mT A b) (mB A b)) (polR n us d (VM (mT A b) (mB A b))))) :
    EqM n n (VM T t) (tabR n (VM A b) (polR n ts c (VM A b))) := by
  have b0 : b ≠ 0 := by have := m.b1; omega
  have v := V_low m.sh b0
  exact h.trans (tabR_congr v ((polR_congr v).trans (pol_val _ a.pol.ne hc a.eq)))
theorem due_of {n K Kp : Nat} {A : List (List Int)} {b : Int} {ts : List Int} {c : Int} (m : MatOk n K A b) (p : PlyOk n K Kp ts c) : DueOk n K Kp ts.length := (tb_all m.n2 m.n5 m.k p.sz).2
end
end K32

namespace K32
open PySem PySem.Spec PyProof.Rows L2 LR DL
section
variable {P : Program} {w : World} {K : PySem.W.Frag} {mg : Str → Option Value} {base : Heap}
local macro_rules | `(tactic| walk_at "side") => `(tactic| first | with_reducible assumption | exact Bsame.mk (by with_reducible rfl) | omega | rfl | assumption | exact ⟨_, rfl⟩ | exact mulL (by omega) (by omega) | exact mulR (by omega) (by omega) | exact mulF (by decide) (by decide) | exact ⟨by decide, by decide +kernel⟩ | decide | exact Nat.le_of_ble_eq_true rfl | (simp only [List.length_cons, List.length_nil, List.length_map, List.nil_append, List.cons_append, sizeLine_eq]; omega) | (simp only [List.map_cons, List.map_nil, List.nil_append, List.cons_append]; decide +kernel))
local macro_rules | `(tactic| walk_at "go") => `(tactic| repeat (first
  | refine ⟨_, rfl, ?_⟩
  | refine ⟨_, _, rfl, rfl, ?_⟩
  | refine ⟨_, _, rfl, ?_⟩
  | refine ⟨_, _, _, rfl, rfl, ?_⟩
  | refine ⟨_, _, _, rfl, ?_⟩
  | refine ⟨_, _, _, _, rfl, rfl, ?_⟩
  | refine ⟨_, _, _, _, rfl, ?_⟩
  | refine ⟨_, _, _, _, _, rfl, ?_⟩
  | refine ⟨_, _, rfl, by assumption, ?_⟩
  | refine ⟨_, _, _, rfl, rfl, rfl, ?_⟩
  | refine ⟨_, _, _, rfl, rfl, by assumption, ?_⟩
  | refine ⟨_, _, _, rfl, rfl, by walk_at "side", by assumption, ?_⟩
  | refine ⟨_, _, _, rfl, rfl, by walk_at "side", rfl, ?_⟩
  | refine ⟨_, _, _, rfl, rfl, rfl, by assumption, ?_⟩
  | refine .inl ⟨_, rfl, ?_⟩
  | refine .inr ⟨_, rfl, ?_⟩
  | refine .inr (.inl ⟨_, rfl, ?_⟩)
  | refine .inr (.inr ⟨_, rfl, ?_⟩)
  | refine ⟨_, .inl rfl, ?_⟩
  | refine ⟨_, .inr rfl, ?_⟩
  | refine .inr ⟨_, _, rfl, ?_⟩
  | refine .inl ⟨_, _, rfl, ?_⟩
  | refine And.intro (by walk_at "side") ?_))

theorem law_ok (T : Txt LL K mg) (M : Mo3 cs sms cis mxs exs K mg) : ∃ fd : FuncData, (∀ (s : Shared) (v : Value), BindsTo s fd ⟨[v], []⟩ [("script", v)]) ∧ ∀ base : Heap, FnOk P w K mg base CX0 14 (d_law.at_ K) fd ["script"] (spLaw K) := by
  refine law_of (T.d 62 (d := d_law)) sc_law rfl (fun _ _ _ _ _ _ us hl => match us, hl with | [_], _ => rfl) (fun base fd cdv A outer s H E hr => ?_)
  obtain ⟨F_law_draws⟩ := fn_law_draws (P := P) (w := w) (base := base) T M
  obtain ⟨F_law_size⟩ := fn_law_size (P := P) (w := w) (base := base) T M
  obtain ⟨F_law_matrix⟩ := fn_law_matrix (P := P) (w := w) (base := base) T M
  obtain ⟨F_law_great⟩ := fn_law_great (P := P) (w := w) (base := base) T M
  obtain ⟨F_law_poly⟩ := fn_law_poly (P := P) (w := w) (base := base) T M
  obtain ⟨F_law_twice_the_mean⟩ := fn_law_twice_the_mean (P := P) (w := w) (base := base) T M
  obtain ⟨⟨F_Matrix_init⟩, ⟨F_Matrix_init_d⟩⟩ := fn_Matrix_init (P := P) (w := w) (base := base) T M
  obtain ⟨⟨F_Poly_init⟩, ⟨F_Poly_init_d⟩⟩ := fn_Poly_init (P := P) (w := w) (base := base) T M
  obtain ⟨F_skew_poly⟩ := fn_skew_poly (P := P) (w := w) (base := base) T M
  obtain ⟨F_law_poly_of⟩ := fn_law_poly_of (P := P) (w := w) (base := base) T M
  obtain ⟨F_law_same_poly⟩ := fn_law_same_poly (P := P) (w := w) (base := base) T M
  obtain ⟨F_law_table_is_due⟩ := fn_law_table_is_due (P := P) (w := w) (base := base) T M
  obtain ⟨F_trace_table⟩ := fn_trace_table (P := P) (w := w) (base := base) T M
  obtain ⟨F_Matrix_eq⟩ := fn_Matrix_eq (P := P) (w := w) (base := base) T M
  obtain ⟨F_law_matrix_of⟩ := fn_law_matrix_of (P := P) (w := w) (base := base) T M
  obtain ⟨F_law_same_rows⟩ := fn_law_same_rows (P := P) (w := w) (base := base) T M
  refine ⟨_, pdss_cons (pds_set (i := 1) sc_law.nd rfl (by first | exact Or.inl rfl | exact Or.inr rfl) (pd_call F_law_draws (hr.mono (by decide)) (by rfl) (T.g "_law_draws") (T.k "_law_draws") takes0 (pda_cons (pd_var (pv 0)) (pda_cons (pd_int pe_int) (pda_cons (pd_int pe_int) pda_nil))))) (pdss_cons (pds_set (i := 2) sc_law.nd rfl (by first | exact Or.inl rfl | exact Or.inr rfl) (pd_call F_law_size (hr.mono (by decide)) (by rfl) (T.g "_law_size") (T.k "_law_size") takes0 (pda_cons (pd_ix ix_list l_ixL (pd_var (pv 1)) (pd_int pe_int) (fun _ _ => rfl)) pda_nil))) (pdss_cons (pds_set (i := 3) sc_law.nd rfl (by first | exact Or.inl rfl | exact Or.inr rfl) (pd_call F_law_matrix (hr.mono (by decide)) (by rfl) (T.g "_law_matrix") (T.k "_law_matrix") takes0 (pda_cons (pd_call F_law_draws (hr.mono (by decide)) (by rfl) (T.g "_law_draws") (T.k "_law_draws") takes0 (pda_cons (pd_var (pv 0)) (pda_cons (pd_int pe_int) (pda_cons (pd_int pe_int) pda_nil)))) (pda_cons (pd_var (pv 2)) pda_nil)))) (pdss_cut (pds_if (pdt_cmp op_eq l_eq (pd_op op_modN l_I (pd_cb (fun h => pe_callTy call_int1 (by rfl) (T.f "int") (by decide +kernel) h) l_int (pda_cons (pd_ix ix_list l_ixL (pd_var (pv 1)) (pd_int pe_int) (fun _ _ => rfl)) pda_nil)) (pd_int pe_int)) (pd_int pe_int) (nomark _)) (pdss_cons (pds_set (i := 2) sc_law.nd rfl (by first | exact Or.inl rfl | exact Or.inr rfl) (pd_int pe_int)) (pdss_one (pds_set (i := 3) sc_law.nd rfl (by first | exact Or.inl rfl | exact Or.inr rfl) (pd_tup (pda_cons (pd_call F_law_great (hr.mono (by decide)) (by rfl) (T.g "_law_great") (T.k "_law_great") takes0 (pda_cons (pd_var (pv 0)) (pda_cons (pd_int pe_int) pda_nil))) (pda_cons (pd_ix ix_tup l_ixT (pd_var (pv 3)) (pd_int pe_int) (fun _ _ => rfl)) pda_nil)))))) pdss_nil) (pdss_cons (pds_set (i := 4) sc_law.nd rfl (by first | exact Or.inl rfl | exact Or.inr rfl) (pd_call F_law_poly (hr.mono (by decide)) (by rfl) (T.g "_law_poly") (T.k "_law_poly") takes0 (pda_cons (pd_call F_law_draws (hr.mono (by decide)) (by rfl) (T.g "_law_draws") (T.k "_law_draws") takes0 (pda_cons (pd_var (pv 0)) (pda_cons (pd_int pe_int) (pda_cons (pd_int pe_int) pda_nil)))) (pda_cons (pd_op op_modN l_I (pd_cb (fun h => pe_callTy call_int1 (by rfl) (T.f "int") (by decide +kernel) h) l_int (pda_cons (pd_ix ix_list l_ixL (pd_var (pv 1)) (pd_int pe_int) (fun _ _ => rfl)) pda_nil)) (pd_int pe_int)) pda_nil)))) (pdss_cons (pds_set (i := 5) sc_law.nd rfl (by first | exact Or.inl rfl | exact Or.inr rfl) (pd_call F_law_twice_the_mean (hr.mono (by decide)) (by rfl) (T.g "_law_twice_the_mean") (T.k "_law_twice_the_mean") takes0 (pda_cons (pd_var (pv 3)) pda_nil))) (pdss_cut (pds_if (pdt_cmp op_eq l_eq (pd_op op_modN l_I (pd_cb (fun h => pe_callTy call_int1 (by rfl) (T.f "int") (by decide +kernel) h) l_int (pda_cons (pd_ix ix_list l_ixL (pd_var (pv 1)) (pd_int pe_int) (fun _ _ => rfl)) pda_nil)) (pd_int pe_int)) (pd_int pe_int) (nomark _)) (pdss_one (pds_set (i := 4) sc_law.nd rfl (by first | exact Or.inl rfl | exact Or.inr rfl) (pd_tup (pda_cons (pd_new (pdn_catA (pd_new (pdn_catA (pd_ix ix_tup l_ixT (pd_var (pv 4)) (pd_int pe_int) (fun _ _ => rfl)) (pd_new (pdn_lc (own := [("k", 6)]) rfl sc_law.nd (pdi_range1 rfl (T.f "range") (pda_cons (pd_op op_sub l_I0 (pd_int pe_int) (pd_cb (fun h => pe_callB call_len (by rfl) (T.f "len") (by decide +kernel) h) l_len (pda_cons (pd_ix ix_tup l_ixT (pd_var (pv 4)) (pd_int pe_int) (fun _ _ => rfl)) pda_nil))) pda_nil)) (blkOk_by (N := ["script", "z", "size", "a", "p", "skew", "k", "matrix", "line", "asked", "mirror", "told", "table", "again", "kept", "rest"]) (sc := defScope s_law) (by decide +kernel)) (by decide) (fun _ _ _ _ _ => (pdg_name (pg_name (i := 6) sc_law.nd rfl (by first | exact Or.inl rfl | exact Or.inr rfl)))) (fun _ _ _ _ _ => pdts_nil) (fun _ _ _ _ _ => pd_int pe_int))))) (pd_new (pdn_lst (pda_cons (pd_ix ix_tup l_ixT (pd_var (pv 4)) (pd_int pe_int) (fun _ _ => rfl)) pda_nil))))) (pda_cons (pd_ix ix_tup l_ixT (pd_var (pv 4)) (pd_int pe_int) (fun _ _ => rfl)) pda_nil))))) pdss_nil) (pdss_cut (pds_if (pdt_cmp op_eq l_eq (pd_op op_modN l_I (pd_cb (fun h => pe_callTy call_int1 (by rfl) (T.f "int") (by decide +kernel) h) l_int (pda_cons (pd_ix ix_list l_ixL (pd_var (pv 1)) (pd_int pe_int) (fun _ _ => rfl)) pda_nil)) (pd_int pe_int)) (pd_int pe_int) (nomark _)) (pdss_one (pds_set (i := 4) sc_law.nd rfl (by first | exact Or.inl rfl | exact Or.inr rfl) (pd_tup (pda_cons (pd_new (pdn_lst (pda_cons (pd_int pe_int) (pda_cons (pd_int pe_int) pda_nil)))) (pda_cons (pd_int pe_int) pda_nil))))) pdss_nil) (pdss_cut (pds_if (pdt_cmp op_eq l_eq (pd_op op_modN l_I (pd_cb (fun h => pe_callTy call_int1 (by rfl) (T.f "int") (by decide +kernel) h) l_int (pda_cons (pd_ix ix_list l_ixL (pd_var (pv 1)) (pd_int pe_int) (fun _ _ => rfl)) pda_nil)) (pd_int pe_int)) (pd_int pe_int) (nomark _)) (pdss_one (pds_set (i := 4) sc_law.nd rfl (by first | exact Or.inl rfl | exact Or.inr rfl) (pd_var (pv 5)))) pdss_nil) (pdss_cons (pds_set (i := 7) sc_law.nd rfl (by first | exact Or.inl rfl | exact Or.inr rfl) (pd_make (c := 2) (T.mkk "Matrix") F_Matrix_init (fun _ _ => .nil) (hr.mono (by decide)) (by rfl) (T.g "Matrix") takes0 (pda_cons (pd_new (pdn_lc (own := [("line", 8)]) rfl sc_law.nd (pdi_list (pd_ix ix_tup l_ixT (pd_var (pv 3)) (pd_int pe_int) (fun _ _ => rfl))) (blkOk_by (N := ["script", "z", "size", "a", "p", "skew", "k", "matrix", "line", "asked", "mirror", "told", "table", "again", "kept", "rest"]) (sc := defScope s_law) (by decide +kernel)) (by decide) (fun _ _ _ _ _ => (pdg_name (pg_name (i := 8) sc_law.nd rfl (by first | exact Or.inl rfl | exact Or.inr rfl)))) (fun _ _ _ _ _ => pdts_nil) (fun _ _ _ _ _ => pd_new (pdn_cb (fun h => pe_callTy call_list_of (by rfl) (T.f "list") (by decide +kernel) h) l_list (pda_cons (pd_var (pv 8)) pda_nil))))) (pda_cons (pd_ix ix_tup l_ixT (pd_var (pv 3)) (pd_int pe_int) (fun _ _ => rfl)) pda_nil)))) (pdss_cons (pds_set (i := 9) sc_law.nd rfl (by first | exact Or.inl rfl | exact Or.inr rfl) (pd_make (c := 3) (T.mkk "Poly") F_Poly_init (fun _ _ => .nil) (hr.mono (by decide)) (by rfl) (T.g "Poly") takes0 (pda_cons (pd_new (pdn_cb (fun h => pe_callTy call_list_of (by rfl) (T.f "list") (by decide +kernel) h) l_list (pda_cons (pd_ix ix_tup l_ixT (pd_var (pv 4)) (pd_int pe_int) (fun _ _ => rfl)) pda_nil))) (pda_cons (pd_ix ix_tup l_ixT (pd_var (pv 4)) (pd_int pe_int) (fun _ _ => rfl)) pda_nil)))) (pdss_cons (pds_set (i := 10) sc_law.nd rfl (by first | exact Or.inl rfl | exact Or.inr rfl) (pd_call F_skew_poly (hr.mono (by decide)) (by rfl) (T.g "skew_poly") (T.k "skew_poly") takes0 (pda_cons (pd_var (pv 7)) pda_nil))) (pdss_cons (pds_set (i := 11) sc_law.nd rfl (by first | exact Or.inl rfl | exact Or.inr rfl) (pd_call F_law_poly_of (hr.mono (by decide)) (by rfl) (T.g "_law_poly_of") (T.k "_law_poly_of") takes0 (pda_cons (pd_var (pv 10)) pda_nil))) (pdss_cons (pds_if (PDW.pt (pdw_or (pdt_cmp op_isN l_isN (pd_var (pv 11)) (pd_non pe_non) (nomark _)) (pdw_or1 (pdt_not (pdt_val (pd_call F_law_same_poly (hr.mono (by decide)) (by rfl) (T.g "_law_same_poly") (T.k "_law_same_poly") takes0 (pda_cons (pd_var (pv 11)) (pda_cons (pd_var (pv 5)) pda_nil)))))))) (pdss_one (pds_ret (pd_bl pe_bl))) pdss_nil) (pdss_cut (pds_if (pdt_cmp op_eq l_eq (pd_op op_modN l_I (pd_cb (fun h => pe_callTy call_int1 (by rfl) (T.f "int") (by decide +kernel) h) l_int (pda_cons (pd_ix ix_list l_ixL (pd_var (pv 1)) (pd_int pe_int) (fun _ _ => rfl)) pda_nil)) (pd_int pe_int)) (pd_int pe_int) (nomark _)) (pdss_one (pds_set (i := 9) sc_law.nd rfl (by first | exact Or.inl rfl | exact Or.inr rfl) (pd_var (pv 10)))) pdss_nil) (pdss_cons (pds_if (pdt_not (pdt_val (pd_call F_law_table_is_due (hr.mono (by decide)) (by rfl) (T.g "_law_table_is_due") (T.k "_law_table_is_due") takes0 (pda_cons (pd_call F_trace_table (hr.mono (by decide)) (by rfl) (T.g "trace_table") (T.k "trace_table") takes0 (pda_cons (pd_var (pv 7)) (pda_cons (pd_var (pv 10)) pda_nil))) (pda_cons (pd_var (pv 3)) (pda_cons (pd_var (pv 5)) pda_nil)))))) (pdss_one (pds_ret (pd_bl pe_bl))) pdss_nil) (pdss_cons (pds_set (i := 12) sc_law.nd rfl (by first | exact Or.inl rfl | exact Or.inr rfl) (pd_call F_trace_table (hr.mono (by decide)) (by rfl) (T.g "trace_table") (T.k "trace_table") takes0 (pda_cons (pd_var (pv 7)) (pda_cons (pd_var (pv 9)) pda_nil)))) (pdss_cons (pds_if (pdt_not (pdt_val (pd_call F_law_table_is_due (hr.mono (by decide)) (by rfl) (T.g "_law_table_is_due") (T.k "_law_table_is_due") takes0 (pda_cons (pd_var (pv 12)) (pda_cons (pd_var (pv 3)) (pda_cons (pd_var (pv 4)) pda_nil)))))) (pdss_one (pds_ret (pd_bl pe_bl))) pdss_nil) (pdss_cut (pds_if (pdt_cmp op_eq l_eq (pd_op op_modN l_I (pd_cb (fun h => pe_callTy call_int1 (by rfl) (T.f "int") (by decide +kernel) h) l_int (pda_cons (pd_ix ix_list l_ixL (pd_var (pv 1)) (pd_int pe_int) (fun _ _ => rfl)) pda_nil)) (pd_int pe_int)) (pd_int pe_int) (nomark _)) (pdss_cons (pds_set (i := 13) sc_law.nd rfl (by first | exact Or.inl rfl | exact Or.inr rfl) (pd_call F_trace_table (hr.mono (by decide)) (by rfl) (T.g "trace_table") (T.k "trace_table") takes0 (pda_cons (pd_var (pv 7)) (pda_cons (pd_var (pv 9)) pda_nil)))) (pdss_cons (pds_if (PDW.pt (pdw_or (pdt_not (pdt_cmp (op_eqO (T.own "Matrix" "__eq__") (T.fnn "Matrix" "__eq__") F_Matrix_eq.ok (hr.mono (by decide)) F_Matrix_eq.bd passL) (l_cmpO (c := 2) M.isi M.cls (by decide) F_Matrix_eq.len) (pd_var (pv 13)) (pd_var (pv 12)) (nomark _))) (pdw_or1 (pdt_not (pdt_val (pd_call F_law_table_is_due (hr.mono (by decide)) (by rfl) (T.g "_law_table_is_due") (T.k "_law_table_is_due") takes0 (pda_cons (pd_var (pv 13)) (pda_cons (pd_var (pv 3)) (pda_cons (pd_var (pv 4)) pda_nil))))))))) (pdss_one (pds_ret (pd_bl pe_bl))) pdss_nil) (pdss_cons (pds_set (i := 11) sc_law.nd rfl (by first | exact Or.inl rfl | exact Or.inr rfl) (pd_call F_law_poly_of (hr.mono (by decide)) (by rfl) (T.g "_law_poly_of") (T.k "_law_poly_of") takes0 (pda_cons (pd_call F_skew_poly (hr.mono (by decide)) (by rfl) (T.g "skew_poly") (T.k "skew_poly") takes0 (pda_cons (pd_var (pv 7)) pda_nil)) pda_nil))) (pdss_one (pds_if (PDW.pt (pdw_or (pdt_cmp op_isN l_isN (pd_var (pv 11)) (pd_non pe_non) (nomark _)) (pdw_or1 (pdt_not (pdt_val (pd_call F_law_same_poly (hr.mono (by decide)) (by rfl) (T.g "_law_same_poly") (T.k "_law_same_poly") takes0 (pda_cons (pd_var (pv 11)) (pda_cons (pd_var (pv 5)) pda_nil)))))))) (pdss_one (pds_ret (pd_bl pe_bl))) pdss_nil))))) pdss_nil) (pdss_cons (pds_set (i := 14) sc_law.nd rfl (by first | exact Or.inl rfl | exact Or.inr rfl) (pd_call F_law_matrix_of (hr.mono (by decide)) (by rfl) (T.g "_law_matrix_of") (T.k "_law_matrix_of") takes0 (pda_cons (pd_var (pv 7)) (pda_cons (pd_var (pv 2)) (pda_cons (pd_var (pv 2)) pda_nil))))) (pdss_cons (pds_set (i := 15) sc_law.nd rfl (by first | exact Or.inl rfl | exact Or.inr rfl) (pd_call F_law_poly_of (hr.mono (by decide)) (by rfl) (T.g "_law_poly_of") (T.k "_law_poly_of") takes0 (pda_cons (pd_var (pv 9)) pda_nil))) (pdss_cons (pds_if (PDW.pt (pdw_or (pdt_cmp op_isN l_isN (pd_var (pv 14)) (pd_non pe_non) (nomark _)) (pdw_or1 (pdt_cmp op_isN l_isN (pd_var (pv 15)) (pd_non pe_non) (nomark _))))) (pdss_one (pds_ret (pd_bl pe_bl))) pdss_nil) (pdss_one (pds_ret (pd_and (pd_call F_law_same_rows (hr.mono (by decide)) (by rfl) (T.g "_law_same_rows") (T.k "_law_same_rows") takes0 (pda_cons (pd_var (pv 14)) (pda_cons (pd_var (pv 3)) pda_nil))) (pd_one (pd_call F_law_same_poly (hr.mono (by decide)) (by rfl) (T.g "_law_same_poly") (T.k "_law_same_poly") takes0 (pda_cons (pd_var (pv 15)) (pda_cons (pd_var (pv 4)) pda_nil)))))))))))))))))))))))))))), fun ns hl => ?_⟩
  walk_at "go"
  intro zs hz1 hz2
  obtain ⟨d0, m0, _, x0⟩ := at_ex (l := zs) (k := 0) (by decide) (by omega)
  obtain ⟨d1, m1, _, x1⟩ := at_ex (l := zs) (k := 1) (by decide) (by omega)
  obtain ⟨d2, m2, _, x2⟩ := at_ex (l := zs) (k := 2) (by decide) (by omega)
  obtain ⟨d3, m3, _, x3⟩ := at_ex (l := zs) (k := 3) (by decide) (by omega)
  obtain ⟨d4, m4, _, x4⟩ := at_ex (l := zs) (k := 4) (by decide) (by omega)
  obtain ⟨a00, a01⟩ := hz2 d0 m0
  obtain ⟨a20, a21⟩ := hz2 d2 m2
  have f60 := fmod_lo d2 (j := 6) (by decide)
  have f61 := fmod_hi d2 (j := 6) (by decide)
  walk_at "go"
  intro s s2 s5
  obtain ⟨n0, rfl⟩ : ∃ n : Nat, s = (n : Int) := ⟨s.toNat, by omega⟩
  walk_at "go"
  intro ys hy1 hy2
  walk_at "go"
  intro A0 b sA0 bA0 b1 b6
  walk_at "go"
  refine ⟨fun env => ∃ (A : List (List Int)) (n K : Nat), env = [.val (.lst (ns.map D.int)), .val (.lst (zs.map D.int)), .val (.int (n : Int)), .val (MB A b), .no, .no, .no, .no, .no, .no, .no, .no, .no, .no, .no, .no] ∧ MatOk n K A b, ?_, ?_⟩
  · walk_at "go"
    refine d_ite (fun c => ?_) (fun c => ?_)
    · walk_at "go"
      intro G sG bG
      walk_at "go"
      exact fun _ => ⟨G, 2, 50, rfl, ⟨sG, by decide, by decide, b1, b6, bG, .inr ⟨rfl, rfl⟩⟩⟩
    · exact fun _ => ⟨A0, n0, 6, rfl, ⟨sA0, by omega, by omega, b1, b6, bA0, .inl rfl⟩⟩
  clear sA0 bA0
  rintro env ⟨A, n, K, rfl, m⟩
  have n2 := m.n2
  have n5 := m.n5
  have kk := m.k
  have sb9 : b.natAbs < 2 ^ 8900 := Nat.lt_of_lt_of_le (show b.natAbs < 2 ^ 6 by show b.natAbs < 64; omega) (Nat.pow_le_pow_right (by decide) (by decide))
  walk_at "go"
  intro xs hx1 hx2
  walk_at "go"
  intro ts0 c0 hl0 ht0 hc1 hc6
  walk_at "go"
  refine ⟨A, b, n, rfl, m.sh, by omega, sb9, ?_⟩
  walk_at "go"
  have p0 : PlyOk n K 6 ts0 c0 := ⟨by omega, by show c0.natAbs < 64; omega, fun t ht => by
    obtain ⟨h1, h2⟩ := ht0 t ht
    show t.natAbs < 64
    omega, .inl ⟨rfl, by omega⟩⟩
  have hts : ts0.length ≤ 5 := by omega
  refine ⟨fun env => ∃ (ts : List Int) (c : Int) (u6 : Sl), env = [.val (.lst (ns.map D.int)), .val (.lst (zs.map D.int)), .val (.int (n : Int)), .val (MB A b), .val (TB ts c), .val (TB (skT A b n) (skC b n)), u6, .no, .no, .no, .no, .no, .no, .no, .no, .no] ∧ PlyOk n K 6 ts c, ?_, ?_⟩
  · walk_at "go"
    refine d_ite (fun c => ?_) (fun c => ?_)
    · have hz20 : (rngD 0 ((20 : Int) - (((ts0.map D.int).length : Nat) : Int)).toNat).length < sizeLine := by rw [rng_len]; exact sz100 (by omega)
      have lr : (List.replicate (20 - ts0.length) (0 : Int)).length = 20 - ts0.length := List.length_replicate
      walk_at "go"
      refine ⟨fun i z => ∃ x, (List.replicate (20 - ts0.length) (0 : Int))[i]? = some x ∧ z = some (.int x), ?_, ?_⟩
      · rintro i x hx
        obtain ⟨hi, rfl⟩ := rng_at hx
        rw [List.length_map] at hi
        walk_at "go"
        exact fun _ => ⟨0, by rw [List.getElem?_replicate, if_pos (by omega)], rfl⟩
      intro ws hwl hw
      rw [fm_is (by rw [hwl, rng_len, List.length_map, lr]; omega) hw]
      have ss : sizeLine = 16777216 := sizeLine_eq
      have q1 : (ts0.map D.int).length + ((List.replicate (20 - ts0.length) (0 : Int)).map D.int).length ≤ sizeLine := by rw [List.length_map, List.length_map, lr]; omega
      have q2 : (ts0.map D.int ++ (List.replicate (20 - ts0.length) (0 : Int)).map D.int).length + [D.int c0].length ≤ sizeLine := by rw [List.length_append, List.length_map, List.length_map, lr]; show _ + 1 ≤ _; omega
      have e3 : ts0.map D.int ++ (List.replicate (20 - ts0.length) (0 : Int)).map D.int ++ [D.int c0] = (ts0 ++ List.replicate (20 - ts0.length) 0 ++ [c0]).map D.int := by simp
      walk_at "go"
      rw [e3]
      refine fun _ => ⟨_, c0, _, rfl, ⟨p0.ne, p0.sc, fun t ht => ?_, .inl ⟨rfl, by rw [List.length_append, List.length_append, lr]; show _ + 1 ≤ 21; omega⟩⟩⟩
      rcases List.mem_append.mp ht with ht | ht
      · rcases List.mem_append.mp ht with ht | ht
        · exact p0.bd t ht
        · rw [(List.mem_replicate.mp ht).2]
          decide
      · rw [List.mem_singleton.mp ht]
        exact p0.sc
    · exact fun _ => ⟨ts0, c0, _, rfl, p0⟩
  clear p0 hts hl0 ht0 hc1 hc6
  rintro env ⟨ts1, c1, u6, rfl, p1⟩
  walk_at "go"
  refine ⟨fun env => ∃ (ts : List Int) (c : Int) (u6 : Sl), env = [.val (.lst (ns.map D.int)), .val (.lst (zs.map D.int)), .val (.int (n : Int)), .val (MB A b), .val (TB ts c), .val (TB (skT A b n) (skC b n)), u6, .no, .no, .no, .no, .no, .no, .no, .no, .no] ∧ PlyOk n K 6 ts c, ?_, ?_⟩
  · walk_at "go"
    refine d_ite (fun c => ?_) (fun c => ?_)
    · walk_at "go"
      exact fun _ => ⟨[0, 1], 1, _, rfl, ⟨by decide, by decide, fun t ht => by
        simp only [List.mem_cons, List.not_mem_nil, or_false] at ht
        rcases ht with rfl | rfl <;> decide, .inl ⟨rfl, by decide⟩⟩⟩
    · exact fun _ => ⟨ts1, c1, _, rfl, p1⟩
  clear p1
  rintro env ⟨ts2, c2, u6, rfl, p2⟩
  walk_at "go"
  refine ⟨fun env => ∃ (ts : List Int) (c : Int) (Kp : Nat) (u6 : Sl), env = [.val (.lst (ns.map D.int)), .val (.lst (zs.map D.int)), .val (.int (n : Int)), .val (MB A b), .val (TB ts c), .val (TB (skT A b n) (skC b n)), u6, .no, .no, .no, .no, .no, .no, .no, .no, .no] ∧ PlyOk n K Kp ts c ∧ (d3.fmod 4 = 2 → ts = skT A b n ∧ c = skC b n), ?_, ?_⟩
  · walk_at "go"
    refine d_ite (fun c => ?_) (fun c => ?_)
    · walk_at "go"
      exact fun _ => ⟨skT A b n, skC b n, K + 30, _, rfl, sk_ok m, fun _ => ⟨rfl, rfl⟩⟩
    · exact fun _ => ⟨ts2, c2, 6, _, rfl, p2, fun z => absurd z (of_decide_eq_false c)⟩
  clear p2
  rintro env ⟨ts, c, Kp, u6, rfl, p, hsk⟩
  have mx := m.low
  have tl : ts.length ≤ 21 := by rcases p.sz with ⟨_, h⟩ | ⟨_, h⟩ <;> omega
  have kp9 : Kp ≤ 80 := by rcases p.sz with ⟨h, _⟩ | ⟨h, _⟩ <;> omega
  have sc9 : c.natAbs < 2 ^ 8999 := abs_up p.sc (by omega)
  have lA : A.length = n := m.sh.1
  walk_at "go"
  refine ⟨fun i z => ∃ r : List Int, A[i]? = some r ∧ z = some (.lst (r.map D.int)), ?_, ?_⟩
  · rintro i x hx
    obtain ⟨r, hr, rfl⟩ := map_at hx
    walk_at "go"
    exact fun _ => ⟨r, hr, rfl⟩
  intro ws hwl hw
  rw [fm_is (f := fun r : List Int => D.lst (r.map D.int)) (l := A) (by rw [hwl, List.length_map]) hw]
  walk_at "go"
  refine ⟨_, A, b, n, n, rfl, rows_lst _, m.sh, by omega, by omega, by omega, by omega, by omega, abs_up sb9 (by decide), ?_⟩
  walk_at "go"
  refine ⟨_, ts, c, rfl, .inl rfl, by omega, fun z => absurd z p.ne, fun _ => ⟨sc9, ?_⟩⟩
  walk_at "go"
  refine ⟨mT A b, mB A b, n, K, rfl, mx, by omega, fun us d sk => ?_⟩
  have ak := ask_sk m sk
  have so := sk_ok m
  have dB := ak.pol.bd
  walk_at "go"
  refine ⟨ak.pol, ?_⟩
  walk_at "go"
  refine ⟨ak.eq, ak.pol.bd.up (by decide), so.bd.up (by omega), abs_up ak.pol.sb (by decide), abs_up so.sc (by omega), by have := sk.len; omega, by show 2 ≤ 4000; omega, ?_⟩
  walk_at "go"
  refine ⟨fun env => ∃ (vs : List Int) (e : Int) (u6 u8 u11 : Sl), env = [.val (.lst (ns.map D.int)), .val (.lst (zs.map D.int)), .val (.int (n : Int)), .val (MB A b), .val (TB ts c), .val (TB (skT A b n) (skC b n)), u6, .val (MX (mT A b) (mB A b) n n), u8, .val (PO vs e), .val (PO us d), u11, .no, .no, .no, .no] ∧ AskOk n K ts c vs e, ?_, ?_⟩
  · walk_at "go"
    refine d_ite (fun cc => ?_) (fun cc => ?_)
    · walk_at "go"
      have c6 : d3.fmod 8 = 6 := of_decide_eq_true cc
      have c2 : d3.fmod 4 = 2 := by
        rw [Int.fmod_eq_emod_of_nonneg _ (by decide)] at c6 ⊢
        omega
      obtain ⟨e1, e2⟩ := hsk c2
      exact fun _ => ⟨us, d, _, _, _, rfl, by rw [e1, e2]; exact ak⟩
    · exact fun _ => ⟨pT ts c, pB ts c, _, _, _, rfl, ask_of m p⟩
  rintro env ⟨vs, e, u6', u8, u11, rfl, ak2⟩
  obtain ⟨Kq, pl, tbk⟩ := ak.tb
  obtain ⟨Kr, pl2, tb2⟩ := ak2.tb
  have b0 : b ≠ 0 := by omega
  have sbK : b.natAbs < 2 ^ K := by
    rcases kk with rfl | ⟨rfl, _⟩
    · show b.natAbs < 64
      omega
    · exact Nat.lt_of_lt_of_le (show b.natAbs < 2 ^ 6 by show b.natAbs < 64; omega) (Nat.pow_le_pow_right (by decide) (by decide))
  walk_at "go"
  refine ⟨mT A b, mB A b, us, d, n, K, Kq, rfl, mx, pl, tbk, fun T t hT hv => ?_⟩
  walk_at "go"
  refine ⟨T, t, A, b, skT A b n, skC b n, n, K, K + 30, rfl, hT, m.sh, b0, so.ne, m.bd, sbK, so.bd, so.sc, due_of m so, tab_due m so.ne ak hv, ?_⟩
  walk_at "go"
  refine ⟨mT A b, mB A b, vs, e, n, K, Kr, rfl, mx, pl2, tb2, fun T2 t2 hT2 hv2 => ?_⟩
  walk_at "go"
  refine ⟨T2, t2, A, b, ts, c, n, K, Kp, rfl, hT2, m.sh, b0, p.ne, m.bd, sbK, p.bd, p.sc, due_of m p, tab_due m p.ne ak2 hv2, ?_⟩
  walk_at "go"
  refine ⟨fun env => ∃ (u6 u8 u11 u12 u13 : Sl), env = [.val (.lst (ns.map D.int)), .val (.lst (zs.map D.int)), .val (.int (n : Int)), .val (MB A b), .val (TB ts c), .val (TB (skT A b n) (skC b n)), u6, .val (MX (mT A b) (mB A b) n n), u8, .val (PO vs e), .val (PO us d), u11, u12, u13, .no, .no], ?_, ?_⟩
  · walk_at "go"
    refine d_ite (fun cc => ?_) (fun cc => ?_)
    · walk_at "go"
      refine ⟨mT A b, mB A b, vs, e, n, K, Kr, rfl, mx, pl2, tb2, fun T3 t3 hT3 hv3 => ?_⟩
      obtain ⟨rfl, rfl⟩ := hT3.uniq hT2 (hv3.trans hv2.symm)
      walk_at "go"
      refine ⟨T3, t3, A, b, ts, c, n, K, Kp, rfl, hT3, m.sh, b0, p.ne, m.bd, sbK, p.bd, p.sc, due_of m p, tab_due m p.ne ak2 hv3, ?_⟩
      walk_at "go"
      refine ⟨mT A b, mB A b, n, K, rfl, mx, by omega, fun us3 e3 sk3 => ?_⟩
      have ak3 := ask_sk m sk3
      walk_at "go"
      refine ⟨ak3.pol, ?_⟩
      walk_at "go"
      refine ⟨ak3.eq, ak3.pol.bd.up (by decide), so.bd.up (by omega), abs_up ak3.pol.sb (by decide), abs_up so.sc (by omega), by have := sk3.len; omega, by show 2 ≤ 4000; omega, ?_⟩
      walk_at "go"
      exact fun _ => ⟨_, _, _, _, _, rfl⟩
    · exact fun _ => ⟨_, _, _, _, _, rfl⟩
  rintro env ⟨u6, u8, u11, u12, u13, rfl⟩
  walk_at "go"
  refine ⟨mx.up (by omega), ?_⟩
  walk_at "go"
  refine ⟨ak2.pol, ?_⟩
  walk_at "go"
  refine ⟨mT A b, mB A b, A, b, n, n, rfl, mx.sh, m.sh, by omega, by omega, by omega, mx.ne, b0, V_low m.sh b0, mx.bd.up (by omega), m.bd.up (by omega), abs_up mx.sb (by omega), abs_up sbK (by omega), ?_⟩
  walk_at "go"
  exact ⟨ak2.eq, ak2.pol.bd.up (by decide), p.bd.up (by omega), abs_up ak2.pol.sb (by decide), abs_up sc9 (by decide), by have := ak2.pol.len; omega, by omega, rfl⟩
end
end K32

open PySem PySem.W PySem.Calls PyProof.Rows
theorem PySem.Challenge.cw_lastrows_k32_trace_table_holds : PySem.Challenge.rw_lastrows_k32_trace_table.Holds := by
  w_on; o_law
  refine HandSHeadRun.head_imp (r := OpenLaw.row PySem.Challenge.rw_lastrows_k32_trace_table) (q := view (OpenLaw.row PySem.Challenge.rw_lastrows_k32_trace_table).prog [70]) (H := K32.hk) (ob := K32.ob) (M := 9500) (loose := K32.looseL) (d := HandSHeadRun.topDef (OpenLaw.row PySem.Challenge.rw_lastrows_k32_trace_table).prog 70) (kwd := []) K32.ob_eq
    K32.run (by kernel_rfl) (by kernel_rfl) (by kernel_rfl) (by rfl) (by first | assumption | decide +kernel) (by decide +kernel) ⟨rfl, rfl, rfl, rfl, rfl, by decide +kernel⟩ ?hw ?hc
  case hw => w_witness2
  case hc =>
    refine L2.walk_ofE (l := PySem.Challenge.rw_lastrows_k32_trace_table) (n := 63) (k := 14) (x := "script") (CX := L2.CX0) rfl (by decide) (by kernel_rfl) ⟨rfl, by decide, by decide⟩ ?F (fun _ _ _ _ z => z)
    intro w mg fa h Y G hmg0
    obtain ⟨K, KX, c, M⟩ := Y
    have hmg : mg ("law" : PySem.Str) = some (.ref fa) := by
      have e : (HandSHeadRun.topDef (OpenLaw.row PySem.Challenge.rw_lastrows_k32_trace_table).prog 70).name = ("law" : PySem.Str) := by kernel_rfl
      rw [← e]
      exact hmg0
    have T : LR.Txt K32.LL K mg := LR.Txt.of KX G c
    have M2 : DL.Mo3 K32.cs K32.sms K32.cis K32.mxs K32.exs K mg := DL.Mo3.of KX G (fun c hc => T.clA _ (K32.cs_cl c hc)) M
    have ea : fa = He.ga K "law" := Value.ref.inj (Option.some.inj (hmg.symm.trans (T.g "law")))
    subst ea
    obtain ⟨fd, hb, hF⟩ := K32.law_ok (P := (PySem.Challenge.rw_lastrows_k32_trace_table).prog) (w := w) T M2
    exact ⟨K, fd, DL.spLaw K, KX, hb, fun H a ns hl _ hS => ⟨a, ns, rfl, hS, hl, fun _ => rfl⟩, fun base _ _ => hF base⟩

