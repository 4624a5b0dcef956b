import PyProof.Rows.All
import Wide.All
import OpenK.AllK
import Wide.FinOn
import HandS.ForMost
import HandS.Conv
import HandS.Exc
import HandS.DictComp
import HandS.IsInst
import HandS.Star
import HandS.RaiseMore
import HandS.Wide
import HandS.WideBits
import HandS.Flow
import HandS.OwnEq
import HandS.More
import HandS.Evl
import HandS.Defaults
import HandS.Codes
import KE.KOpsOwn
import KE.KDictOf
import PyProof.DictUpdate
import HandS.WordsExc
import HandS.CallSlots
import HandS.ExcOwn
import HandS.Walk
import HandS.Deep
import HandS.Style
import HandS.WordsDict
import HandS.TryOnly
import KE.DatumOrd
import KE.SortData
import HandS.ExcIs
import PySem.Challenge.RW_sceneskips_k09_common_notes
set_option Elab.async false
set_option linter.all false
set_option maxRecDepth 100000
set_option maxHeartbeats 4000000
namespace M
open PySem PySem.Spec PyProof.Rows L2

/-- a def of the text that may be called by its name -/
structure DefOk (P : Program) (w : World) (K : PySem.W.Frag) (mg : Str → Option Value) (base : Heap) (k : Nat) (x : Str) (ps : List Str) (sp : Sp) : Prop where
  ex : ∃ f fd, FnOk P w K mg base CX0 k f fd ps sp ∧ mg x = some (.ref f) ∧ PySem.W.keepIn K (.ref f) = true ∧ Binds K fd ps []
/-- a method of an own class -/
structure MethOk (P : Program) (w : World) (K : PySem.W.Frag) (mg : Str → Option Value) (base : Heap) (C : Addr) (k : Nat) (m : Str) (ps : List Str) (sp : Sp) : Prop where
  ex : ∃ f fd, FnOk P w K mg base CX0 k f fd ps sp ∧ PySem.W.findIn K (.ref C) m = some (some (.ref f)) ∧ PySem.W.isFn K (.ref f) = true ∧ PySem.W.keepIn K (.ref f) = true ∧ PySem.W.fnIn K f = true ∧ Binds K fd ps []

section
variable {P : Program} {w : World} {K : PySem.W.Frag} {mg : Str → Option Value} {base : Heap} {C : Addr} {j k : Nat} {x m : Str} {ps : List Str} {sp sp' : Sp}
theorem DefOk.mono (D : DefOk P w K mg base j x ps sp) (h : j ≤ k) : DefOk P w K mg base k x ps sp := let ⟨f, fd, F, r⟩ := D.ex; ⟨f, fd, F.mono h, r⟩
theorem DefOk.imp (D : DefOk P w K mg base k x ps sp) (h : ∀ vs H Q E, sp' vs H Q E → sp vs H Q E) : DefOk P w K mg base k x ps sp' := let ⟨f, fd, F, r⟩ := D.ex; ⟨f, fd, F.imp h, r⟩
theorem MethOk.mono (D : MethOk P w K mg base C j m ps sp) (h : j ≤ k) : MethOk P w K mg base C k m ps sp := let ⟨f, fd, F, r⟩ := D.ex; ⟨f, fd, F.mono h, r⟩
theorem fnok_raw {f : Addr} {fd : FuncData} (F : FnOk P w K mg base CX0 k f fd ps sp) (b : Binds K fd ps []) : FnR P w K mg base CX0 k f sp := by
  refine (F.raw b .nil).imp fun vs H Q E h => ?_
  rw [List.append_nil]
  exact h
end

section
variable {X : Cx} {k : Nat} {C : Addr} {x m : Str} {ps : List Str} {sp : Sp} {p pos apos : Pos} {e o : Expr} {es : List Expr} {ta tb : TE} {t : TA}
theorem pe_callD (D : DefOk X.prog X.w X.K X.mg X.base k x ps sp) (hr : Room k X.A) (hg : Gl X x) (ha : PA X (e :: es) t) (hn : x ≠ "__name__" := by decide) (hdb : (x == ("__debug__" : Str)) = false := by decide)
    (hst : starEach (e :: es) X.env = (false, eval e X.env) :: starEach es X.env := by rfl) (hpl : (backTo pos (starEach es X.env)).any (·.1) = false := by rfl) : PE X (.Call (.Name x p) (e :: es) [] pos) (tCall sp [] E0 t) := by
  obtain ⟨f, fd, F, g, kp, b⟩ := D.ex
  exact pe_call F hr hg g kp b .nil pass0 ha (hdb := hdb) (he := hst) (hpl := hpl)
theorem pe_callD0 (D : DefOk X.prog X.w X.K X.mg X.base k x ps sp) (hr : Room k X.A) (hg : Gl X x) (hdb : (x == ("__debug__" : Str)) = false := by decide) : PE X (.Call (.Name x p) [] [] pos) (tCall sp [] E0 tNil) := by
  obtain ⟨f, fd, F, g, kp, b⟩ := D.ex
  exact pe_call0 F hr hg g kp b .nil pass0 (hdb := hdb)
/-- o.m(e, ..), o.m() -/
theorem pe_methD {pl : Sem Bool} (he : PE X o ta) (c : Cls X.K C) (D : MethOk X.prog X.w X.K X.mg X.base C k m ps sp) (hr : Room k X.A) (ha : PA X (e :: es) t)
    (hst : starEach (e :: es) X.env = (false, eval e X.env) :: starEach es X.env := by rfl) (hpl : (backTo pos (starEach es X.env)).any (·.1) = false := by rfl)
    (ht : eval (.Call (.Attribute o m apos) (e :: es) [] pos) X.env = (do
      let ov ← eval o X.env
      standAt apos.atName
      let (f, first) ← holding [ov] (getMethod ov m pl)
      callWith pos f first (backTo pos (starEach (e :: es) X.env)) (backToKw pos (keywordEach [] X.env))) := by rfl) :
    PE X (.Call (.Attribute o m apos) (e :: es) [] pos) (tMeth C m sp [] E0 ta t) := by
  obtain ⟨f, fd, F, hf, hi, kp, fi, b⟩ := D.ex
  exact pe_meth he c ⟨hf, hi, kp⟩ F hr b .nil pass0 ha (hst := hst) (hpl := hpl) (ht := ht)
theorem pe_methD0 {pl : Sem Bool} (he : PE X o ta) (c : Cls X.K C) (D : MethOk X.prog X.w X.K X.mg X.base C k m ps sp) (hr : Room k X.A)
    (ht : eval (.Call (.Attribute o m apos) [] [] pos) X.env = (do
      let ov ← eval o X.env
      standAt apos.atName
      let (f, first) ← holding [ov] (getMethod ov m pl)
      callWith pos f first (backTo pos (starEach [] X.env)) (backToKw pos (keywordEach [] X.env))) := by rfl) :
    PE X (.Call (.Attribute o m apos) [] [] pos) (tMeth C m sp [] E0 ta tNil) := by
  obtain ⟨f, fd, F, hf, hi, kp, fi, b⟩ := D.ex
  exact pe_meth0 he c ⟨hf, hi, kp⟩ F hr b .nil pass0 (ht := ht)
/-- C(e), C(): made by __init__, whose last parameter has the default None -/
structure InitOk (P : Program) (w : World) (K : PySem.W.Frag) (mg : Str → Option Value) (base : Heap) (x : Str) (C : Addr) (k : Nat) (ps : List Str) (sp : Sp) : Prop where
  cls : Cls K C
  gl : mg x = some (.ref C)
  mks : PySem.W.makesIn K C = true
  kp : PySem.W.keepIn K (.ref C) = true
  ex : ∃ f fd, FnOk P w K mg base CX0 k f fd ps sp ∧ PySem.W.findIn K (.ref C) "__init__" = some (some (.ref f)) ∧ PySem.W.isFn K (.ref f) = true ∧ Binds K fd ps [] 
structure Init0 (P : Program) (w : World) (K : PySem.W.Frag) (mg : Str → Option Value) (base : Heap) (x : Str) (C : Addr) (k : Nat) (ps : List Str) (sp : Sp) : Prop where
  gl : mg x = some (.ref C)
  mks : PySem.W.makesIn K C = true
  kp : PySem.W.keepIn K (.ref C) = true
  ex : ∃ f fd, FnOk P w K mg base CX0 k f fd ps sp ∧ PySem.W.findIn K (.ref C) "__init__" = some (some (.ref f)) ∧ PySem.W.isFn K (.ref f) = true ∧ Binds K fd ps [.none]
theorem pe_makeD (D : InitOk X.prog X.w X.K X.mg X.base x C k ps sp) (hr : Room (k + 1) X.A) (hg : Gl X x) (ha : PA X (e :: es) t) (hdb : (x == ("__debug__" : Str)) = false := by decide)
    (hst : starEach (e :: es) X.env = (false, eval e X.env) :: starEach es X.env := by rfl) (hpl : (backTo pos (starEach es X.env)).any (·.1) = false := by rfl) : PE X (.Call (.Name x p) (e :: es) [] pos) (tMake C sp [] E0 t) := by
  obtain ⟨f, fd, F, hf, hi, b⟩ := D.ex
  exact pe_make ⟨D.mks, hf, hi, D.kp⟩ F hr hg D.gl b .nil pass0 ha (hdb := hdb) (he := hst) (hpl := hpl)
theorem pe_makeD0 (D : Init0 X.prog X.w X.K X.mg X.base x C k ps sp) (hr : Room (k + 1) X.A) (hg : Gl X x) (hdb : (x == ("__debug__" : Str)) = false := by decide) : PE X (.Call (.Name x p) [] [] pos) (tMake C sp [.non] E0 tNil) := by
  obtain ⟨f, fd, F, hf, hi, b⟩ := D.ex
  exact pe_make0 ⟨D.mks, hf, hi, D.kp⟩ F hr hg D.gl b (.cons rfl .nil) pass0 (hdb := hdb)

/-- a callee runs within a builtin -/
theorem run_in1 {pins : List (Addr × Obj)} {σ : L2.St} {H : Hp} {s : Shared} {f : Addr} {Q : VK} {us : List Value} {vs : List V} (F : FnR X.prog X.w X.K X.mg X.base CX0 k f sp) (hr : Room (k + 1) X.A) (I : Inv X pins σ H s) (r : Vals vs us) (h : sp vs H Q E0) :
    wpAny (model X.prog X.w) X.A.in1 (call (.ref f) us) (EP X pins σ Q) X.xe s := by
  refine wpAny_call (codeAny_mono (F X.A.in1 X.stack s H us vs Q E0 hr.in1 I.env0.in1 r h) fun r s' hq => ?_)
  cases r with
  | error e => exact False.elim hq
  | ok fl =>
    cases fl with
    | ret u => exact I.after hq
    | next => exact False.elim hq
    | brk => exact False.elim hq
    | cont => exact False.elim hq
theorem run_at {pins : List (Addr × Obj)} {σ : L2.St} {H : Hp} {s : Shared} {f : Addr} {Q : VK} {us : List Value} {vs : List V} (F : FnR X.prog X.w X.K X.mg X.base CX0 k f sp) (hr : Room k X.A) (I : Inv X pins σ H s) (r : Vals vs us) (h : sp vs H Q E0) :
    wpAny (model X.prog X.w) X.A (call (.ref f) us) (EP X pins σ Q) X.xe s := wpAny_call (run_fnR F hr pass0 I r h)
theorem inst_at {pins : List (Addr × Obj)} {σ : L2.St} {H : Hp} {s : Shared} {a dx : Addr} {fs : List (Str × V)} (I : Inv X pins σ H s) (h : H a = some (.ins C dx fs)) : ∃ ox od, PySem.W.InstAt s.heap a ox C od ∧ ox.data = .plain := by
  obtain ⟨mA, O, _⟩ := ins_get I.hok h
  obtain ⟨od, J, _⟩ := O.look
  exact ⟨_, _, J, rfl⟩
theorem cmpback {Q : Value → Shared → Prop} {u : Value} {s : Shared} {v : V} (r : RelV v u) (q : Q u s) : PySem.W.CmpBack Q u s := by
  cases v with
  | non => cases (show u = Value.none from r); exact q
  | bl b => cases (show u = Value.bool b from r); exact q
  | int i => obtain ⟨t, e⟩ := (show ∃ t, u = Value.int i t from r); cases e; exact q
  | str x => obtain ⟨t, e⟩ := (show ∃ t, u = Value.str x t from r); cases e; exact q
  | byt b => obtain ⟨t, e⟩ := (show ∃ t, u = Value.bytes b t from r); cases e; exact q
  | flt b => obtain ⟨t, e⟩ := (show ∃ t, u = Value.float b t from r); cases e; exact q
  | ref a => cases (show u = Value.ref a from r); exact q
  | ty n => cases (show u = Value.type n from r); exact q

/-- a[b], a of an own class -/
def rOwn (C : Addr) (sp : Sp) : R2 := fun x y H Q => ∃ a dx fs, x = .ref a ∧ H a = some (.ins C dx fs) ∧ sp [x, y] H Q E0
theorem pe_ixO {a b : Expr} (ha : PE X a ta) (hb : PE X b tb) (D : MethOk X.prog X.w X.K X.mg X.base C k "__getitem__" ps sp) (hr : Room (k + 1) X.A)
    (hs : ∀ o i, subscripted b true o i = runValue (.builtin "lifetime.subscript" ⟨[o, i], []⟩) := by intro _ _; rfl) : PE X (.Subscript a b pos) (tOp (rOwn C sp) ta tb) := by
  refine ⟨fun pins s σ H Q I h => ?_⟩
  obtain ⟨f, fd, F, hf, hi, kp, fi, bd⟩ := D.ex
  refine Subscript_ (binT ha hb I h fun v u s2 x y H2 I2 rx ry q => ?_)
  obtain ⟨a', dx, fs, rfl, hh, q⟩ := q
  cases (show v = Value.ref a' from rx)
  obtain ⟨ox, od, J, _⟩ := inst_at I2 hh
  obtain ⟨m, hF⟩ := I2.fr
  exact PySem.W.sub_K hF I2.ok.mod.kin J hf fi hi (run_in1 (us := [.ref a', u]) (vs := [.ref a', y]) (fnok_raw F bd) hr I2 (.cons rfl (.cons ry .nil)) q) (hs _ _)
/-- a[b] = v -/
def rOwnSet (C : Addr) (sp : Sp) : TSet := fun o i v H Q => ∃ a dx fs, o = .ref a ∧ H a = some (.ins C dx fs) ∧ sp [o, i, v] H (fun _ H' => Q H') E0
theorem set_own (D : MethOk X.prog X.w X.K X.mg X.base C k "__setitem__" ps sp) (hq : PySem.W.noSeq X.K C = true) (hr : Room k X.A) : PSet X (rOwnSet C sp) := by
  intro pins s σ H o i v ov iv u Q I ro ri rv h
  obtain ⟨f, fd, F, hf, hi, kp, fi, bd⟩ := D.ex
  obtain ⟨a', dx, fs, rfl, hh, q⟩ := h
  cases (show ov = Value.ref a' from ro)
  obtain ⟨ox, od, J, _⟩ := inst_at I hh
  obtain ⟨m, hF⟩ := I.fr
  refine PySem.W.ksp_setItem hF I.ok.mod.kin J hq hf hi ?_
  exact thn (run_at (us := [.ref a', iv, u]) (vs := [.ref a', i, v]) (fnok_raw F bd) hr I (.cons rfl (.cons ri (.cons rv .nil))) q) fun _ s' ⟨_, H', I', _, q'⟩ => ⟨H', I', q'⟩
/-- x in a -/
def rOwnIn (C : Addr) (sp : Sp) (neg : Bool) : R2 := fun x y H Q => ∃ a dx fs, y = .ref a ∧ H a = some (.ins C dx fs) ∧ sp [y, x] H (fun r H' => ∃ b, r = .bl b ∧ Q (.bl (if neg then !b else b)) H') E0
theorem op_inO (D : MethOk X.prog X.w X.K X.mg X.base C k "__contains__" ps sp) (hr : Room k X.A) : OpR X (compareOp .In) (rOwnIn C sp false) := by
  intro pins s σ H x y v u Q I rx ry h
  obtain ⟨f, fd, F, hf, hi, kp, fi, bd⟩ := D.ex
  obtain ⟨a', dx, fs, rfl, hh, q⟩ := h
  cases (show u = Value.ref a' from ry)
  obtain ⟨ox, od, J, _⟩ := inst_at I hh
  obtain ⟨m, hF⟩ := I.fr
  refine PySem.W.in_K hF I.ok.mod.kin J hf hi ?_
  refine thn (run_at (us := [.ref a', v]) (vs := [.ref a', x]) (fnok_raw F bd) hr I (.cons rfl (.cons rx .nil)) q) fun r s' ⟨z, H', I', rz, b, e, q'⟩ => ?_
  subst e
  cases (show r = Value.bool b from rz)
  exact wpAny_truthy_bool ⟨.bl b, H', I', rfl, q'⟩
theorem op_ninO (D : MethOk X.prog X.w X.K X.mg X.base C k "__contains__" ps sp) (hr : Room k X.A) : OpR X (compareOp .NotIn) (rOwnIn C sp true) := by
  intro pins s σ H x y v u Q I rx ry h
  obtain ⟨f, fd, F, hf, hi, kp, fi, bd⟩ := D.ex
  obtain ⟨a', dx, fs, rfl, hh, q⟩ := h
  cases (show u = Value.ref a' from ry)
  obtain ⟨ox, od, J, _⟩ := inst_at I hh
  obtain ⟨m, hF⟩ := I.fr
  refine PySem.W.notIn_K hF I.ok.mod.kin J hf hi ?_
  refine thn (run_at (us := [.ref a', v]) (vs := [.ref a', x]) (fnok_raw F bd) hr I (.cons rfl (.cons rx .nil)) q) fun r s' ⟨z, H', I', rz, b, e, q'⟩ => ?_
  subst e
  cases (show r = Value.bool b from rz)
  exact wpAny_truthy_bool ⟨.bl (!b), H', I', rfl, q'⟩
/-- len(a) -/
def rOwnLen (C : Addr) (sp : Sp) : List V → Hp → VK → Prop := fun xs H Q => ∃ a dx fs, xs = [.ref a] ∧ H a = some (.ins C dx fs) ∧ sp xs H (fun r H' => ∃ n : Int, r = .int n ∧ (0 ≤ n ∧ n < 2 ^ 63) ∧ Q (.int n) H') E0
theorem call_lenO (D : MethOk X.prog X.w X.K X.mg X.base C k "__len__" ps sp) (hr : Room (k + 1) X.A) : CallR X (.builtin "len") (rOwnLen C sp) := by
  intro pins s σ H xs us Q I r h
  obtain ⟨f, fd, F, hf, hi, kp, fi, bd⟩ := D.ex
  obtain ⟨a', dx, fs, rfl, hh, q⟩ := h
  obtain ⟨u, rfl, ru⟩ := vals1 r
  cases (show u = Value.ref a' from ru)
  obtain ⟨ox, od, J, _⟩ := inst_at I hh
  obtain ⟨m, hF⟩ := I.fr
  refine PySem.W.len_K hF I.ok.mod.kin J hf hi ?_
  refine thn (run_in1 (us := [.ref a']) (vs := [.ref a']) (fnok_raw F bd) hr I (.cons rfl .nil) q) fun r s' ⟨z, H', I', rz, n, e, hn, q'⟩ => ?_
  subst e
  obtain ⟨t, e⟩ := (show ∃ t, r = Value.int n t from rz)
  subst e
  exact ⟨hn, .int n, H', I'.tok _, ⟨_, rfl⟩, q'⟩
/-- a comparison, both of own classes -/
def rOwnC (K : PySem.W.Frag) (C : Addr) (sp : Sp) : R2 := fun x y H Q => ∃ a dx fs b C' dy gs, x = .ref a ∧ y = .ref b ∧ H a = some (.ins C dx fs) ∧ H b = some (.ins C' dy gs) ∧ PySem.W.notFirst K C (.ref C') = true ∧ sp [x, y] H Q E0
theorem op_cmpO {op : CmpOp} {nm : Str} (D : MethOk X.prog X.w X.K X.mg X.base C k nm ps sp) (hr : Room k X.A) (hnm : (cmpInfo op).2.1 = nm := by rfl) (hop : ∀ a b, compareOp op a b = richCompare op a b := by intro _ _; rfl) : OpR X (compareOp op) (rOwnC X.K C sp) := by
  intro pins s σ H x y v u Q I rx ry h
  obtain ⟨f, fd, F, hf, hi, kp, fi, bd⟩ := D.ex
  obtain ⟨a, dx, fs, b, C', dy, gs, rfl, rfl, ha, hb, hn, q⟩ := h
  cases (show v = Value.ref a from rx)
  cases (show u = Value.ref b from ry)
  obtain ⟨ox, od, J, _⟩ := inst_at I ha
  obtain ⟨ox', od', J', _⟩ := inst_at I hb
  obtain ⟨m, hF⟩ := I.fr
  rw [hop]
  refine PySem.W.cmp_K (op := op) (tb := .ref C') hr.units0 hF I.ok.mod.kin J J'.type hn (by rw [hnm]; exact hf) hi ?_
  refine thn (run_at (us := [.ref a, .ref b]) (vs := [.ref a, .ref b]) (fnok_raw F bd) hr I (.cons rfl (.cons rfl .nil)) q) fun w s' z => ?_
  obtain ⟨z', H', I', rz, qz⟩ := z
  exact cmpback rz ⟨z', H', I', rz, qz⟩
/-- an operator of two of one own class -/
def rOwnB (C : Addr) (sp : Sp) : R2 := fun x y H Q => ∃ a dx fs b dy gs, x = .ref a ∧ y = .ref b ∧ H a = some (.ins C dx fs) ∧ H b = some (.ins C dy gs) ∧ sp [x, y] H Q E0
theorem op_binO {op : Operator} {nm : Str} (D : MethOk X.prog X.w X.K X.mg X.base C k nm ps sp) (hc : PySem.W.selfFirst X.K C = true) (hr : Room k X.A) (hnm : PySem.dunder op.info.2 = nm := by rfl) : OpR X (binaryOp op) (rOwnB C sp) := by
  intro pins s σ H x y v u Q I rx ry h
  obtain ⟨f, fd, F, hf, hi, kp, fi, bd⟩ := D.ex
  obtain ⟨a, dx, fs, b, dy, gs, rfl, rfl, ha, hb, q⟩ := h
  cases (show v = Value.ref a from rx)
  cases (show u = Value.ref b from ry)
  obtain ⟨ox, od, J, _⟩ := inst_at I ha
  obtain ⟨ox', od', J', _⟩ := inst_at I hb
  obtain ⟨m, hF⟩ := I.fr
  refine PySem.W.binop_K hF I.ok.mod.kin J J'.type hc (by rw [hnm]; exact hf) hi ?_
  refine thn (run_at (us := [.ref a, .ref b]) (vs := [.ref a, .ref b]) (fnok_raw F bd) hr I (.cons rfl (.cons rfl .nil)) q) fun w s' z => ?_
  obtain ⟨z', H', I', rz, qz⟩ := z
  exact cmpback rz ⟨z', H', I', rz, qz⟩
/-- a op= b, a of an own class with the in-place def -/
theorem ip_own {op : Operator} {nm : Str} (D : MethOk X.prog X.w X.K X.mg X.base C k nm ps sp) (hc : PySem.W.selfFirst X.K C = true) (hr : Room k X.A) (hnm : dunderI op.info.2 = nm := by rfl) : PIp X op (rOwn C sp) := by
  intro pins s σ H x y v u Q I rx ry h
  obtain ⟨f, fd, F, hf, hi, kp, fi, bd⟩ := D.ex
  obtain ⟨a, dx, fs, rfl, ha, q⟩ := h
  cases (show v = Value.ref a from rx)
  obtain ⟨ox, od, J, _⟩ := inst_at I ha
  obtain ⟨m, hF⟩ := I.fr
  refine PySem.W.ksp_inplace hF I.ok.mod.kin J hc (by rw [hnm]; exact hf) hi ?_
  refine thn (run_at (us := [.ref a, u]) (vs := [.ref a, y]) (fnok_raw F bd) hr I (.cons rfl (.cons ry .nil)) q) fun w s' z => ?_
  obtain ⟨z', H', I', rz, qz⟩ := z
  exact cmpback rz ⟨z', H', I', rz, qz⟩
end

section
variable {X : Cx}
def CPowX (i j : Int) : Prop := 0 ≤ j ∧ (Builtin.Int.intBits i : Int) * j ≤ 134217728
theorem op_powX : OpR X (binaryOp .Pow) (rI CPowX fun i j => .int (i ^ j.toNat)) := opI fun _ _ _ _ _ _ _ hc q => pow_int hc.1 hc.2 q
/-- dict(d), d with keys ints and texts -/
theorem call_dict : CallR X (.type "dict") (fun xs H Q => ∃ a kvs, xs = [.ref a] ∧ Rd H a (.dK kvs) ∧ ∀ p, H p = none → Q (.ref p) (upd H p (.dK kvs))) := by
  intro pins s σ H xs us Q I r h
  obtain ⟨a, kvs, rfl, ha, q⟩ := h
  obtain ⟨u, rfl, ru⟩ := vals1 r
  cases (show u = Value.ref a from ru)
  obtain ⟨z, hd, vs, rel, dd⟩ := dk_rd I.hok ha
  refine PySem.kt_call_dict (knd := mixKind X.prog X.w) hd dd (by rw [← rel.length]; exact z) fun h' dd' hs => ?_
  have hn := I.hok.fresh (Nat.le_refl s.heap.objs.size)
  refine ⟨.ref s.heap.objs.size, upd H s.heap.objs.size (.dK kvs), ?_, rfl, q _ hn⟩
  refine I.laid (t' := s.toks) (fun b u e => ?_) (Nat.le_refl _) ?_
  · refine (hs.2 b ?_).trans (Heap.get?_push_of_some _ e)
    exact Nat.ne_of_lt (Heap.lt_size e)
  · exact dk_new z (by
      have hb := I.big
      exact beq_eq_false_iff_ne.mpr (Ne.symm (Nat.ne_of_lt hb))) rel dd'
end
end M
namespace M
open PySem PySem.Spec PyProof.Rows L2

theorem itk_turns {d : Addr} {o : Obj} {kvs : List (Key × V)} (Pv : Nat → Hp → Prop) : True := trivial
theorem for_keys {d : Addr} {o : Obj} {kvs : List (Key × V)} {g : TG} {tb : TS} {D : Ends} {σ : L2.St} {H : Hp} (Pv : Nat → L2.St → Hp → Prop) (h0 : Pv 0 σ H) (hl : ∀ i σ H, i ≤ kvs.length → Pv i σ H → H d = some (.frz o (.dK kvs)))
    (hs : ∀ i k v σ H, kvs[i]? = some (k, v) → Pv i σ H → g (kV k) σ H fun σ2 H2 => tb { D with nx := Pv (i + 1), ct := Pv (i + 1), bk := D.nx } σ2 H2) (hd : ∀ σ H, Pv kvs.length σ H → D.nx σ H) :
    ∃ W : Nat → Nat → L2.St → Hp → Prop, (∃ m, W 0 m σ H) ∧ ∀ i m σ H, W i m σ H →
      ((Itk d o kvs).stop i H ∧ D.nx σ H) ∨ ((Itk d o kvs).go i H ∧ ∃ N : L2.St → Hp → Prop, (∀ σ' H', N σ' H' → ∃ m', m' < m ∧ W (i + 1) m' σ' H') ∧ ∀ x H', (Itk d o kvs).yld i H x H' → g x σ H' fun σ2 H2 => tb { D with nx := N, ct := N, bk := D.nx } σ2 H2) := by
  refine ⟨fun i m σ H => m = kvs.length - i ∧ i ≤ kvs.length ∧ Pv i σ H, ⟨kvs.length, by simp, Nat.zero_le _, h0⟩, ?_⟩
  rintro i m σ H ⟨rfl, hi, p⟩
  have q := hl i σ H hi p
  by_cases hlt : i < kvs.length
  · refine .inr ⟨⟨q, hlt⟩, Pv (i + 1), fun σ' H' p' => ⟨kvs.length - (i + 1), by omega, rfl, hlt, p'⟩, fun x H' y => ?_⟩
    obtain ⟨e, k, v, hk, rfl⟩ := y
    subst e
    exact hs i k v σ _ hk p
  · have e : i = kvs.length := by omega
    subst e
    exact .inl ⟨⟨q, Nat.le_refl _⟩, hd σ H p⟩
theorem lc_keys {d : Addr} {o : Obj} {kvs : List (Key × V)} {g : TG} {tt : TT} {te : TE} {vs : List Nat} {σ : L2.St} {H1 : Hp} {D : Addr} {Qd : Hp → Prop} (Pv : Nat → Hp → Prop) (h0 : Pv 0 (upd H1 D (.lst []))) (hl : ∀ i H, i ≤ kvs.length → Pv i H → H d = some (.frz o (.dK kvs)))
    (hs : ∀ i k v H, kvs[i]? = some (k, v) → Pv i H → g (kV k) (wipe σ vs) H fun σ2 H2 => wipe σ2 vs = wipe σ vs ∧ tt σ2 H2 fun b H3 =>
      if b = true then te σ2 H3 fun y H4 => ∃ acc, H4 D = some (.lst acc) ∧ acc.length < sizeLine ∧ Pv (i + 1) (upd H4 D (.lst (acc ++ [y]))) else Pv (i + 1) H3) (hd : ∀ H, Pv kvs.length H → Qd H) :
    ∃ W : Nat → Nat → Hp → Prop, (∃ m, W 0 m (upd H1 D (.lst []))) ∧ ∀ i m H, W i m H →
      ((Itk d o kvs).stop i H ∧ Qd H) ∨ ((Itk d o kvs).go i H ∧ ∃ Nx : Hp → Prop, (∀ H', Nx H' → ∃ m', m' < m ∧ W (i + 1) m' H') ∧ ∀ x H', (Itk d o kvs).yld i H x H' → g x (wipe σ vs) H' fun σ2 H2 => wipe σ2 vs = wipe σ vs ∧ tt σ2 H2 fun b H3 =>
        if b = true then te σ2 H3 fun y H4 => ∃ acc, H4 D = some (.lst acc) ∧ acc.length < sizeLine ∧ Nx (upd H4 D (.lst (acc ++ [y]))) else Nx H3) := by
  refine ⟨fun i m H => m = kvs.length - i ∧ i ≤ kvs.length ∧ Pv i H, ⟨kvs.length, by simp, Nat.zero_le _, h0⟩, ?_⟩
  rintro i m H ⟨rfl, hi, p⟩
  have q := hl i H hi p
  by_cases hlt : i < kvs.length
  · refine .inr ⟨⟨q, hlt⟩, Pv (i + 1), fun H' p' => ⟨kvs.length - (i + 1), by omega, rfl, hlt, p'⟩, fun x H' y => ?_⟩
    obtain ⟨e, k, v, hk, rfl⟩ := y
    subst e
    exact hs i k v _ hk p
  · have e : i = kvs.length := by omega
    subst e
    exact .inl ⟨⟨q, Nat.le_refl _⟩, hd H p⟩
theorem dc_keys {d : Addr} {o : Obj} {kvs : List (Key × V)} {g : TG} {tt : TT} {tk tv : TE} {vs : List Nat} {σ : L2.St} {H1 : Hp} {D : Addr} {Qd : Hp → Prop} (Pv : Nat → Hp → Prop) (h0 : Pv 0 (upd H1 D (.dK []))) (hl : ∀ i H, i ≤ kvs.length → Pv i H → H d = some (.frz o (.dK kvs)))
    (hs : ∀ i k v H, kvs[i]? = some (k, v) → Pv i H → g (kV k) (wipe σ vs) H fun σ2 H2 => wipe σ2 vs = wipe σ vs ∧ tt σ2 H2 fun b H3 =>
      if b = true then tk σ2 H3 fun y H4 => tv σ2 H4 fun z H5 => ∃ ks kk, y = kV kk ∧ H5 D = some (.dK ks) ∧ ks.length < sizeLine ∧ Pv (i + 1) (upd H5 D (.dK (putK ks kk z))) else Pv (i + 1) H3) (hd : ∀ H, Pv kvs.length H → Qd H) :
    ∃ W : Nat → Nat → Hp → Prop, (∃ m, W 0 m (upd H1 D (.dK []))) ∧ ∀ i m H, W i m H →
      ((Itk d o kvs).stop i H ∧ Qd H) ∨ ((Itk d o kvs).go i H ∧ ∃ Nx : Hp → Prop, (∀ H', Nx H' → ∃ m', m' < m ∧ W (i + 1) m' H') ∧ ∀ x H', (Itk d o kvs).yld i H x H' → g x (wipe σ vs) H' fun σ2 H2 => wipe σ2 vs = wipe σ vs ∧ tt σ2 H2 fun b H3 =>
        if b = true then tk σ2 H3 fun y H4 => tv σ2 H4 fun z H5 => ∃ kvs k, y = kV k ∧ H5 D = some (.dK kvs) ∧ kvs.length < sizeLine ∧ Nx (upd H5 D (.dK (putK kvs k z))) else Nx H3) := by
  refine ⟨fun i m H => m = kvs.length - i ∧ i ≤ kvs.length ∧ Pv i H, ⟨kvs.length, by simp, Nat.zero_le _, h0⟩, ?_⟩
  rintro i m H ⟨rfl, hi, p⟩
  have q := hl i H hi p
  by_cases hlt : i < kvs.length
  · refine .inr ⟨⟨q, hlt⟩, Pv (i + 1), fun H' p' => ⟨kvs.length - (i + 1), by omega, rfl, hlt, p'⟩, fun x H' y => ?_⟩
    obtain ⟨e, k, v, hk, rfl⟩ := y
    subst e
    exact hs i k v _ hk p
  · have e : i = kvs.length := by omega
    subst e
    exact .inl ⟨⟨q, Nat.le_refl _⟩, hd H p⟩

def Chg (S : List Addr) (H H' : Hp) : Prop := ∀ b o, b ∉ S → H b = some o → H' b = some o
theorem Chg.refl (S : List Addr) (H : Hp) : Chg S H H := fun _ _ _ h => h
theorem Chg.trans {S : List Addr} {H H1 H2 : Hp} (a : Chg S H H1) (b : Chg S H1 H2) : Chg S H H2 := fun c o n h => b c o n (a c o n h)
theorem Chg.mono {S S' : List Addr} {H H' : Hp} (a : Chg S H H') (h : ∀ x ∈ S, x ∈ S') : Chg S' H H' := fun c o n q => a c o (fun z => n (h c z)) q
theorem Chg.new {S : List Addr} {H : Hp} {p : Addr} {o : HO} (h : H p = none) : Chg S H (upd H p o) := fun b u _ e => by rw [upd_ne (ne_of_none e h)]; exact e
theorem Chg.set {S : List Addr} {H : Hp} {p : Addr} {o : HO} (h : p ∈ S) : Chg S H (upd H p o) := fun b u n e => by rw [upd_ne (fun z => n (by rw [z]; exact h))]; exact e
/-- a further store to what was free at the start -/
theorem Chg.put {S : List Addr} {H H' : Hp} {p : Addr} {o : HO} (a : Chg S H H') (h : H p = none) : Chg S H (upd H' p o) := fun b u n e => by rw [upd_ne (ne_of_none e h)]; exact a b u n e
theorem Chg.free {S : List Addr} {H H' : Hp} (a : Chg S H H') {p : Addr} (h : H' p = none) (n : p ∉ S) : H p = none := by
  cases e : H p with
  | none => rfl
  | some o => rw [a p o n e] at h; cases h
theorem Chg.same {H H' : Hp} (a : Same H H') (S : List Addr) : Chg S H H' := fun b o _ e => a b o e
theorem Chg.toSame {H H' : Hp} (a : Chg [] H H') : Same H H' := fun b o e => a b o (by simp) e
theorem Chg.seq {S : List Addr} {K : PySem.W.Frag} {H H' : Hp} {a : Addr} {xs : List V} (e : Chg S H H') (n : a ∉ S) (h : SqL K H a xs) : SqL K H' a xs := by
  rcases h with (h | ⟨o, h⟩) | h
  · exact .inl (.inl (e _ _ n h))
  · exact .inl (.inr ⟨o, e _ _ n h⟩)
  · exact .inr h
theorem Chg.sqt {S : List Addr} {K : PySem.W.Frag} {H H' : Hp} {a : Addr} {xs : List V} (e : Chg S H H') (n : a ∉ S) (h : SqT K H a xs) : SqT K H' a xs := by
  rcases h with (h | ⟨o, h⟩) | h
  · exact .inl (.inl (e _ _ n h))
  · exact .inl (.inr ⟨o, e _ _ n h⟩)
  · exact .inr h
theorem same_new {H : Hp} {p : Addr} {o : HO} (h : H p = none) : Same H (upd H p o) := fun b u e => by rw [upd_ne (ne_of_none e h)]; exact e
theorem Same.put {H H' : Hp} {p : Addr} {o : HO} (a : Same H H') (h : H p = none) : Same H (upd H' p o) := fun b u e => by rw [upd_ne (ne_of_none e h)]; exact a b u e
theorem Same.sqt {K : PySem.W.Frag} {H H' : Hp} {a : Addr} {xs : List V} (e : Same H H') (h : SqT K H a xs) : SqT K H' a xs := by
  rcases h with (h | ⟨o, h⟩) | h
  · exact .inl (.inl (e _ _ h))
  · exact .inl (.inr ⟨o, e _ _ h⟩)
  · exact .inr h

def sk (l : List (Str × V)) : List (Key × V) := l.map fun p => (Sum.inr p.1, p.2)
theorem sk_len (l : List (Str × V)) : (sk l).length = l.length := List.length_map ..
theorem sk_get {l : List (Str × V)} {i : Nat} {k : Key} {v : V} (h : (sk l)[i]? = some (k, v)) : ∃ z, k = Sum.inr z ∧ l[i]? = some (z, v) := by
  unfold sk at h
  rw [List.getElem?_map] at h
  cases e : l[i]? with
  | none => rw [e] at h; cases h
  | some p =>
    rw [e] at h
    cases h
    exact ⟨p.1, rfl, rfl⟩
def sVal (l : List (Str × V)) (z : Str) : Option V := valV (sk l) (Sum.inr z)
theorem sVal_nil {z : Str} : sVal [] z = none := rfl
theorem sVal_cons (p : Str × V) (l : List (Str × V)) (z : Str) : sVal (p :: l) z = if p.1 = z then some p.2 else sVal l z := by
  by_cases e : p.1 = z
  · rw [if_pos e]
    exact valV_pos (p := (Sum.inr p.1, p.2)) (by rw [e])
  · rw [if_neg e]
    exact valV_neg (p := (Sum.inr p.1, p.2)) (fun q => e (Sum.inr.inj q))
theorem sVal_at : ∀ {l : List (Str × V)} {i : Nat} {z : Str} {v : V}, (l.map (·.1)).Nodup → l[i]? = some (z, v) → sVal l z = some v
  | [], i, z, v, _, h => by simp at h
  | p :: l, 0, z, v, _, h => by
    have e : p = (z, v) := Option.some.inj h
    subst e
    rw [sVal_cons, if_pos rfl]
  | p :: l, i + 1, z, v, hn, h => by
    have h : l[i]? = some (z, v) := h
    have hn : (p.1 :: l.map (·.1)).Nodup := hn
    obtain ⟨h1, h2⟩ := List.nodup_cons.mp hn
    have hm : z ∈ l.map (·.1) := List.mem_map.mpr ⟨(z, v), List.mem_of_getElem? h, rfl⟩
    rw [sVal_cons, if_neg (fun e : p.1 = z => h1 (by rw [e]; exact hm))]
    exact sVal_at h2 h
theorem sVal_mem : ∀ {l : List (Str × V)} {z : Str} {v : V}, sVal l z = some v → (z, v) ∈ l
  | [], z, v, h => by cases h
  | p :: l, z, v, h => by
    rw [sVal_cons] at h
    by_cases e : p.1 = z
    · rw [if_pos e] at h
      cases h
      exact List.mem_cons.mpr (.inl (by rw [← e]))
    · rw [if_neg e] at h
      exact List.mem_cons.mpr (.inr (sVal_mem h))
theorem sVal_none : ∀ {l : List (Str × V)} {z : Str}, sVal l z = none ↔ z ∉ l.map (·.1)
  | [], z => by simp [sVal_nil]
  | p :: l, z => by
    rw [sVal_cons, List.map_cons, List.mem_cons]
    by_cases e : p.1 = z
    · rw [if_pos e]
      exact Iff.intro (fun h => nomatch h) (fun h => (h (Or.inl e.symm)).elim)
    · rw [if_neg e, sVal_none]
      exact Iff.intro (fun h q => q.elim (fun q => e q.symm) h) (fun h q => h (Or.inr q))
/-- put at its place, or at the end -/
def sPut (l : List (Str × V)) (z : Str) (v : V) : List (Str × V) := if (sVal l z).isSome = true then l.map (fun p => if p.1 = z then (p.1, v) else p) else l ++ [(z, v)]
theorem sk_put (l : List (Str × V)) (z : Str) (v : V) : putK (sk l) (Sum.inr z) v = sk (sPut l z v) := by
  unfold putK sPut sVal
  rw [valV_any]
  by_cases h : (valV (sk l) (Sum.inr z)).isSome = true
  · rw [if_pos h, if_pos h]
    unfold sk
    rw [List.map_map, List.map_map]
    refine List.map_congr_left fun p _ => ?_
    show (if (Sum.inr p.1 : Key) = Sum.inr z then ((Sum.inr p.1 : Key), v) else (Sum.inr p.1, p.2)) = ((fun p : Str × V => ((Sum.inr p.1 : Key), p.2)) (if p.1 = z then (p.1, v) else p))
    by_cases e : p.1 = z
    · rw [if_pos e, if_pos (by rw [e])]
    · rw [if_neg e, if_neg (fun q => e (Sum.inr.inj q))]
  · rw [if_neg h, if_neg h]
    unfold sk
    rw [List.map_append]
    rfl
theorem sVal_put (l : List (Str × V)) (z y : Str) (v : V) : sVal (sPut l z v) y = if y = z then some v else sVal l y := by
  show valV (sk (sPut l z v)) (Sum.inr y) = _
  rw [← sk_put, valV_put]
  by_cases e : y = z
  · rw [if_pos e, if_pos (by rw [e])]
  · rw [if_neg e, if_neg (fun q => e (Sum.inr.inj q))]
    rfl
theorem sPut_keys (l : List (Str × V)) (z : Str) (v : V) : (sPut l z v).map (·.1) = if (sVal l z).isSome = true then l.map (·.1) else l.map (·.1) ++ [z] := by
  unfold sPut
  by_cases h : (sVal l z).isSome = true
  · rw [if_pos h, if_pos h, List.map_map]
    refine List.map_congr_left fun p _ => ?_
    show (if p.1 = z then (p.1, v) else p).1 = p.1
    by_cases e : p.1 = z
    · rw [if_pos e]
    · rw [if_neg e]
  · rw [if_neg h, if_neg h, List.map_append]
    rfl
theorem sPut_nodup {l : List (Str × V)} (z : Str) (v : V) (hn : (l.map (·.1)).Nodup) : ((sPut l z v).map (·.1)).Nodup := by
  rw [sPut_keys]
  by_cases h : (sVal l z).isSome = true
  · rw [if_pos h]; exact hn
  · rw [if_neg h]
    refine nd_snoc hn (sVal_none.mp ?_)
    cases e : sVal l z with
    | none => rfl
    | some v => rw [e] at h; exact (h rfl).elim
theorem sPut_len (l : List (Str × V)) (z : Str) (v : V) : (sPut l z v).length ≤ l.length + 1 := by
  have h := congrArg List.length (sPut_keys l z v)
  rw [List.length_map] at h
  rw [h]
  by_cases e : (sVal l z).isSome = true
  · rw [if_pos e, List.length_map]; omega
  · rw [if_neg e, List.length_append, List.length_map, List.length_singleton]
    exact Nat.le_refl _
theorem sPut_new {l : List (Str × V)} {z : Str} (v : V) (h : z ∉ l.map (·.1)) : sPut l z v = l ++ [(z, v)] := by
  unfold sPut
  rw [sVal_none.mpr h]
  exact if_neg (by decide)
theorem sPut_mem {l : List (Str × V)} {z : Str} {v : V} {p : Str × V} (h : p ∈ sPut l z v) : p ∈ l ∨ p = (z, v) := by
  unfold sPut at h
  by_cases e : (sVal l z).isSome = true
  · rw [if_pos e] at h
    obtain ⟨q, hq, rfl⟩ := List.mem_map.mp h
    by_cases e : q.1 = z
    · rw [if_pos e]; exact .inr (by rw [e])
    · rw [if_neg e]; exact .inl hq
  · rw [if_neg e] at h
    rcases List.mem_append.mp h with h | h
    · exact .inl h
    · exact .inr (List.mem_singleton.mp h)
theorem dget_s {H : Hp} {a : Addr} {l : List (Str × V)} (z : Str) (h : Rd H a (.dK (sk l))) : DGet H a (.str z) (sVal l z) := .inl ⟨sk l, Sum.inr z, h, rfl, rfl⟩
theorem dput_s {H : Hp} {a : Addr} {l : List (Str × V)} (z : Str) (v : V) (h : H a = some (.dK (sk l))) (hl : l.length < sizeLine) : DPut H a (.str z) v (upd H a (.dK (sk (sPut l z v)))) := by
  refine .inl ⟨sk l, Sum.inr z, h, rfl, by rw [sk_len]; exact hl, by rw [sk_put]⟩

def cs (z : Str) : List Nat := z.cps.toList
theorem cs_inj {a b : Str} (h : cs a = cs b) : a = b := by
  cases a; cases b
  exact congrArg _ (Array.toList_inj.mp h)
theorem lt_irr : ∀ a : List Nat, ltCps a a = false
  | [] => rfl
  | a :: r => by
    show (decide (a < a) || (a == a && ltCps r r)) = false
    rw [lt_irr r, decide_eq_false (Nat.lt_irrefl a), Bool.and_false]
    rfl
theorem lt_cons (a b : Nat) (r t : List Nat) : (ltCps (a :: r) (b :: t) = true) ↔ (a < b ∨ (a = b ∧ ltCps r t = true)) := by
  show ((decide (a < b) || (a == b && ltCps r t)) = true) ↔ _
  rw [Bool.or_eq_true, Bool.and_eq_true, decide_eq_true_iff, beq_iff_eq]
theorem lt_tr : ∀ {a b c : List Nat}, ltCps a b = true → ltCps b c = true → ltCps a c = true
  | [], [], _, h, _ => by cases h
  | [], _ :: _, [], _, h => by cases h
  | [], _ :: _, _ :: _, _, _ => rfl
  | _ :: _, [], _, h, _ => by cases h
  | _ :: _, _ :: _, [], _, h => by cases h
  | a :: r, b :: t, c :: u, h1, h2 => by
    rw [lt_cons] at h1 h2 ⊢
    rcases h1 with h1 | ⟨e1, h1⟩ <;> rcases h2 with h2 | ⟨e2, h2⟩
    · exact .inl (by omega)
    · exact .inl (by omega)
    · exact .inl (by omega)
    · exact .inr ⟨by omega, lt_tr h1 h2⟩
theorem lt_tri : ∀ (a b : List Nat), ltCps a b = true ∨ a = b ∨ ltCps b a = true
  | [], [] => .inr (.inl rfl)
  | [], _ :: _ => .inl rfl
  | _ :: _, [] => .inr (.inr rfl)
  | a :: r, b :: t => by
    rcases Nat.lt_trichotomy a b with h | h | h
    · exact .inl ((lt_cons ..).mpr (.inl h))
    · rcases lt_tri r t with q | q | q
      · exact .inl ((lt_cons ..).mpr (.inr ⟨h, q⟩))
      · exact .inr (.inl (by rw [h, q]))
      · exact .inr (.inr ((lt_cons ..).mpr (.inr ⟨h.symm, q⟩)))
    · exact .inr (.inr ((lt_cons ..).mpr (.inl h)))
/-- strictly rising texts -/
abbrev Rise (l : List Str) : Prop := l.Pairwise fun a b => ltCps (cs a) (cs b) = true
theorem rising_of : ∀ (r : List Str) (x : Str), risingS x r = true → ∀ y ∈ r, ltCps (cs y) (cs x) = false
  | [], _, _, y, h => by simp at h
  | a :: r, x, h, y, hy => by
    have h : (!ltCps (cs a) (cs x) && risingS a r) = true := h
    obtain ⟨h1, h2⟩ := (Bool.and_eq_true_iff).mp h
    have h1 : ltCps (cs a) (cs x) = false := by simpa using h1
    rcases List.mem_cons.mp hy with e | hy
    · rw [e]; exact h1
    · have q := rising_of r a h2 y hy
      cases e : ltCps (cs y) (cs x) with
      | false => rfl
      | true =>
        rcases lt_tri (cs x) (cs a) with z | z | z
        · rw [lt_tr e z] at q; cases q
        · rw [← z, e] at q; cases q
        · rw [z] at h1; cases h1
theorem rise_of : ∀ (l : List Str), sortedS l = true → l.Nodup → Rise l
  | [], _, _ => .nil
  | x :: r, h, hn => by
    have h : risingS x r = true := h
    obtain ⟨n1, n2⟩ := List.nodup_cons.mp hn
    refine .cons (fun y hy => ?_) (rise_of r ?_ n2)
    · rcases lt_tri (cs x) (cs y) with q | q | q
      · exact q
      · exact (n1 (by rw [cs_inj q]; exact hy)).elim
      · rw [rising_of r x h y hy] at q; cases q
    · cases r with
      | nil => rfl
      | cons a r =>
        have h : (!ltCps (cs a) (cs x) && risingS a r) = true := h
        exact ((Bool.and_eq_true_iff).mp h).2
theorem rise_eq : ∀ {l m : List Str}, Rise l → Rise m → (∀ z, z ∈ l ↔ z ∈ m) → l = m
  | [], [], _, _, _ => rfl
  | [], b :: m, _, _, h => by have := (h b).mpr (List.mem_cons_self ..); simp at this
  | a :: l, [], _, _, h => by have := (h a).mp (List.mem_cons_self ..); simp at this
  | a :: l, b :: m, h1, h2, h => by
    obtain ⟨p1, q1⟩ := List.pairwise_cons.mp h1
    obtain ⟨p2, q2⟩ := List.pairwise_cons.mp h2
    have e : a = b := by
      rcases List.mem_cons.mp ((h a).mp (List.mem_cons_self ..)) with e | e
      · exact e
      · rcases List.mem_cons.mp ((h b).mpr (List.mem_cons_self ..)) with e' | e'
        · exact e'.symm
        · have z := lt_tr (p1 b e') (p2 a e)
          rw [lt_irr] at z; cases z
    subst e
    refine congrArg _ (rise_eq q1 q2 fun z => ⟨fun hz => ?_, fun hz => ?_⟩)
    · rcases List.mem_cons.mp ((h z).mp (List.mem_cons_of_mem _ hz)) with e | e
      · rw [e] at hz; have z := p1 _ hz; rw [lt_irr] at z; cases z
      · exact e
    · rcases List.mem_cons.mp ((h z).mpr (List.mem_cons_of_mem _ hz)) with e | e
      · rw [e] at hz; have z := p2 _ hz; rw [lt_irr] at z; cases z
      · exact e
end M
namespace M
open PySem PySem.Spec PyProof.Rows L2
section
variable {prog : Program} {w : World} {κ : Type} [DecidableEq κ] {knd : KeyKind prog w κ} {A : Around} {E : Value → Shared → Prop} {s : Shared}

theorem put_pairs {d : Addr} {kvs : List (κ × Value)} {k : κ} {key v : Value} {Q : Unit → Shared → Prop} (hkey : knd.is k key = true) (hm : s.heap.DictOf knd d kvs)
    (hQ : ∀ h', h'.DictOf knd d (stored kvs k v) → Heap.SameBut d s.heap h' → Q () { s with heap := h' }) (hsz : kvs.length ≤ sizeLine) : wpAny (model prog w) A (dictPut d (knd.hash k) key v) Q E s := by
  obtain ⟨o, es, ep, ho, hc, hd, hk, hp, hn⟩ := hm
  have hes : es.size ≤ sizeLine := by
    have e1 := hp.length
    have e2 : es.toList.length = es.size := by simp
    omega
  unfold dictPut
  refine wpAny_bind (wpAny_dictFind_of hkey ho hd hk ?_)
  have hidx : (es.findIdx? fun e => knd.is k e.key) = kvs.findIdx? fun kv => decide (kv.1 = k) := by
    rw [← hp.findIdx k]
    obtain ⟨l⟩ := es
    simp
  cases hi : es.findIdx? fun e => knd.is k e.key with
  | some i =>
    have hst : stored kvs k v = kvs.map (fun kv => if kv.1 = k then (kv.1, v) else kv) := by rw [stored, if_pos (any_of_findIdx_some (hidx ▸ hi))]
    refine wpAny_updateDict ho hd (hQ _ ⟨_, _, ep, Heap.get?_update_self _ ho (Obj.isFreed_of_dict (Obj.data_mapDict hd _)), hc.mapDict _, Obj.data_mapDict hd _, hk.modify _ _, ?_, ?_⟩ (Heap.SameBut.update ..))
    · rw [hst]
      have hl : (es.toList.findIdx? fun e => knd.is k e.key) = some i := by
        rw [← hi]
        obtain ⟨l⟩ := es
        simp
      have q := hp.modify hn hl v
      obtain ⟨l⟩ := es
      simpa using q
    · rw [hst, keys_map_store]
      exact hn
  | none =>
    have hnot : k ∉ kvs.map (·.1) := not_mem_of_findIdx_none (hidx ▸ hi)
    have hany : ¬ (kvs.any fun kv => decide (kv.1 = k)) = true := by
      intro q
      obtain ⟨kv, hkv, he⟩ := List.any_eq_true.mp q
      exact hnot (List.mem_map.mpr ⟨kv, hkv, of_decide_eq_true he⟩)
    have hst : stored kvs k v = kvs ++ [(k, v)] := by rw [stored, if_neg hany]
    refine wpAny_updateDictKeys (hz := hes) ho hd (hQ _ ⟨_, _, ep + 1, Heap.get?_update_self _ ho (Obj.isFreed_of_dict (Obj.data_mapDictKeys hd _)), hc.mapDictKeys _, Obj.data_mapDictKeys hd _, hk.push hkey _, ?_, ?_⟩ (Heap.SameBut.update ..))
    · rw [hst]
      have q := hp.append hkey (knd.hash k) v
      obtain ⟨l⟩ := es
      simpa using q
    · rw [hst, List.map_append, List.nodup_append]
      refine ⟨hn, by simp, fun a ha b hb e => ?_⟩
      rw [List.map_cons, List.map_nil, List.mem_singleton] at hb
      have hb : b = k := hb
      exact hnot (by rw [← hb, ← e]; exact ha)

theorem merge_mapping {d o : Addr} {kvs more : List (κ × Value)} {Q : Unit → Shared → Prop} (hdo : d ≠ o) (hoS : (o == sysModules) = false) (hd : s.heap.DictOf knd d kvs) (ho : s.heap.DictOf knd o more)
    (hkr : ∀ k v, knd.is k v = true → ∀ a, v ≠ .ref a)
    (hQ : ∀ h', h'.DictOf knd d (merged kvs more) → Heap.SameBut d s.heap h' → Q () { s with heap := h' }) (hsz : kvs.length + more.length ≤ sizeLine) : wpAny (model prog w) A (mergeMapping d (.ref o) false) Q E s := by
  have hto := ho.typeIs
  obtain ⟨od, esd, epd, hod, hcd, hdd, hkd, hpd, hnd⟩ := id hd
  obtain ⟨oo, eso, epo, hoo, hco, hdo', hko, hpo, hno⟩ := id ho
  have hlen : more.length = eso.size := by rw [← hpo.length]; simp
  have loop : wpAny (model prog w) A (do
      let size := (← dictEntries o).size
      let epoch ← dictEpoch o
      for i in List.range size do
        let some e := (← dictEntries o)[i]? | unsupported "dict.changed-during-merge"
        holding [e.key, e.val] do
          if false = true then
            if (← dictFind d e.key e.hash).isSome then rule "dict.merge.duplicate-key"; raiseNew (← newExc (.type "KeyError") [e.key])
          dictPut d e.hash e.key e.val
        if (← dictEpoch o) != epoch then unsupported "dict.changed-during-merge") Q E s := by
    refine wpAny_bind (wpAny_dictEntries hoo hdo' ?_)
    refine wpAny_bind (wpAny_dictEpoch hoo hdo' ?_)
    refine wpAny_bind ?_
    refine wpAny_forIn_list _ (fun rest _ s' => ∃ h' i, s' = { s with heap := h' } ∧ rest = (List.range eso.size).drop i ∧ i ≤ eso.size ∧ h'.DictOf knd d (merged kvs (more.take i)) ∧ h'.get? o = some oo ∧ Heap.SameBut d s.heap h')
      _ ?_ ?_ _ _ ⟨s.heap, 0, rfl, (List.drop_zero).symm, Nat.zero_le _, by simpa [merged] using hd, hoo, Heap.SameBut.refl _ _⟩
    · rintro x rest b s' ⟨h', i, rfl, hr, hi, hd', hoo', hs'⟩
      have hlt : i < eso.size := by
        rcases Nat.lt_or_ge i eso.size with h | h
        · exact h
        · rw [List.drop_of_length_le (by simpa using h)] at hr
          cases hr
      obtain ⟨rfl, hrest⟩ : x = i ∧ rest = (List.range eso.size).drop (i + 1) := by
        rw [List.drop_eq_getElem_cons (by simpa using hlt)] at hr
        injection hr with h1 h2
        exact ⟨by simpa using h1, h2⟩
      refine wpAny_bind (wpAny_dictEntries hoo' hdo' ?_)
      rw [Array.getElem?_eq_getElem hlt]
      obtain ⟨⟨k, v⟩, hkv⟩ : ∃ kv, more[x]? = some kv := ⟨more[x]'(by rw [hlen]; exact hlt), List.getElem?_eq_getElem _⟩
      obtain ⟨hkey, hval⟩ := hpo.get? (e := eso[x]) (by simp [hlt]) hkv
      obtain ⟨k', hkey', hhash⟩ := hko eso[x] (Array.getElem_mem hlt)
      obtain rfl : k' = k := knd.inj _ _ _ hkey' hkey
      have hmx : (merged kvs (more.take x)).length ≤ sizeLine := by
        have e1 := merged_length_le kvs (more.take x)
        have e2 : (more.take x).length ≤ more.length := by rw [List.length_take]; omega
        omega
      dsimp only
      simp only [Bool.false_eq_true, if_false]
      rw [hhash, hval]
      refine wpAny_bind (wpAny_holding (put_pairs (hsz := hmx) hkey hd' fun h'' hd'' hs'' => ?_))
      have hoo'' : h''.get? o = some oo := (hs''.2 o (Ne.symm hdo)).trans hoo'
      refine wpAny_bind (wpAny_dictEpoch hoo'' hdo' ?_)
      rw [if_neg (by simp)]
      exact wpAny_pure ⟨h'', x + 1, rfl, hrest, hlt, by rw [merged_take_succ kvs more x (k', v) hkv]; exact hd'', hoo'', hs'.trans hs''⟩
    · rintro b s' ⟨h', i, rfl, hr, hi, hd', hoo', hs'⟩
      have hin : i = eso.size := by
        rcases Nat.lt_or_ge i eso.size with h | h
        · rw [List.drop_eq_getElem_cons (by simpa using h)] at hr
          cases hr
        · exact Nat.le_antisymm hi h
      refine wpAny_pure (hQ h' ?_ hs')
      rw [hin, ← hlen, List.take_length] at hd'
      exact hd'
  unfold mergeMapping
  refine wpAny_bind (wpAny_isInstance (U := "dict") (b := true) hto (by rw [isSubtype_type]; kernel_rfl) ?_)
  try simp only [if_true]
  refine wpAny_bind (wpAny_specialOf hto F.slot_dict_iter.lookup (wpAny_bind (wpAny_pure ?_)))
  rw [show (some (Value.builtin "dict.__iter__") == some (Value.builtin "dict.__iter__")) = true from beq_self_eq_true _]
  show wpAny _ _ (if (o == sysModules) = true then _ else _) _ _ _
  rw [hoS]
  simp only [Bool.false_eq_true, if_false]
  refine wpAny_bind (wpAny_dictEntries hod hdd ?_)
  by_cases hemp : esd.isEmpty = true
  · rw [if_pos hemp]
    refine wpAny_bind (wpAny_dictEntries hoo hdo' ?_)
    rw [← Array.forIn_toList]
    refine wpAny_bind ?_
    refine wpAny_forIn_list _ (fun rest _ s' => s' = s ∧ ∀ e ∈ rest, e ∈ eso.toList) _ ?_ ?_ _ _ ⟨rfl, fun _ h => h⟩
    · rintro x rest b s' ⟨rfl, hr⟩
      obtain ⟨k', hkey', _⟩ := hko x (Array.mem_def.mpr (hr x (List.mem_cons_self ..)))
      have hne := hkr k' _ hkey'
      cases hx : x.key with
      | ref a => exact (hne a hx).elim
      | _ => exact wpAny_pure ⟨rfl, fun e he => hr e (List.mem_cons_of_mem _ he)⟩
    · rintro b s' ⟨rfl, _⟩
      exact loop
  · rw [if_neg hemp]
    exact loop
end
end M
namespace M
open PySem PySem.Spec PyProof.Rows L2
theorem key_noref {k : Key} {v : Value} (h : keyIs k v = true) (a : Addr) : v ≠ .ref a := by
  rcases keyIs_shape h with ⟨i, t, _, rfl⟩ | ⟨x, t, _, rfl⟩ <;> exact fun z => nomatch z
section
variable {X : Cx} {d k v : Expr} {td tk tv : TE} {pos : Pos}
def tDStar (td tk tv : TE) : TE := fun σ H Q => ∀ p, H p = none → td σ (upd H p (.dK [])) fun x H1 => ∃ a kvs, x = .ref a ∧ a ≠ p ∧ Rd H1 a (.dK kvs) ∧ H1 p = some (.dK []) ∧ ∀ q, H1 q = none →
  tk σ (upd (upd H1 p (.dK kvs)) q (.dK [])) fun y H2 => tv σ H2 fun z H3 => ∃ kk, y = kV kk ∧ H3 p = some (.dK kvs) ∧ H3 q = some (.dK []) ∧ kvs.length < sizeLine ∧ Q (.ref p) (upd (upd H3 q (.dK [(kk, z)])) p (.dK (putK kvs kk z)))
theorem dstar_eq (A B C : Sem Value) (pos : Pos) : dictDisplay [(none, A), (some B, C)] = (do
    let d ← alloc { cls := .type "dict", data := .dict #[] }
    let m ← holding [.ref d] A
    (((holding [.ref d, m] (mergeMapping d m false)).onRaise fun x => do let _ ← holding [.ref d, m, x] (runValue (.builtin "proto.let_go" {}))).tryCatch fun e => do
        if ← isInstance e (.type "AttributeError") then
          rule "dict.display.not-a-mapping"; raiseError "TypeError" s!"'{← typeNameOf m}' object is not a mapping"
        throw e).onRaise fun x => do let _ ← holding [.ref d, x] (runValue (.builtin "proto.let_go" {}))
    let sub ← holding [.ref d] (subDict [(B, C)])
    (holding [.ref d, .ref sub] (mergeMapping d (.ref sub) false)).onRaise fun x => do let _ ← holding [.ref d, x] (runValue (.builtin "proto.let_go" {}))
    pure (.ref d)) := by
  unfold dictDisplay
  simp only [List.forIn_cons, List.forIn_nil, List.isEmpty_nil, List.nil_append, if_true, pure_bind, bind_assoc, List.length_singleton, List.isEmpty_cons, show ((1 : Nat) == 17) = false from rfl, Bool.false_eq_true, if_false]
theorem pe_dstar (hd : PE X d td) (hk : PE X k tk) (hv : PE X v tv) : PE X (.Dict [none, some k] [d, v] pos) (tDStar td tk tv) := by
  refine ⟨fun pins s σ H Q I h => ?_⟩
  rw [arm_eval_Dict]
  refine wpAny_bind (wpAny_standAt ?_)
  show wpAny _ _ (dictDisplay [(none, (do let x ← eval d X.env; standAt pos; pure x)), (some (eval k X.env), (do let x ← eval v X.env; standAt pos; pure x))]) _ _ _
  rw [dstar_eq _ _ _ pos]
  have hn := I.hok.fresh (Nat.le_refl s.heap.objs.size)
  have I1 := I.laid (a := s.heap.objs.size) (o := .dK []) (h' := s.heap.push { cls := .type "dict", data := .dict #[] }) (t' := s.toks) (fun _ _ q => Heap.get?_push_of_some _ q) (Nat.le_refl _) (dk_empty s.heap I.big)
  have g := h _ hn
  generalize hp : s.heap.objs.size = p at *
  refine wpAny_bind (wpAny_alloc ?_)
  rw [hp]
  refine wpAny_bind (wpAny_holding (wpAny_bind (thn (hd.run pins _ σ _ _ I1 g) fun u s2 h2 => wpAny_bind (wpAny_standAt (wpAny_pure ?_)))))
  obtain ⟨x, H1, I2, rx, a, kvs, rfl, hap, hra, hp1, g2⟩ := h2
  cases (show u = Value.ref a from rx)
  obtain ⟨z1, s1, vs, rel, dd⟩ := dk_rd I2.hok hra
  obtain ⟨z0, s0, vs0, rel0, dd0⟩ := dk_of I2.hok hp1
  cases rel0
  have hnd : (vs.map (·.1)).Nodup := let ⟨_, _, _, _, _, _, _, _, hn⟩ := dd; hn
  refine wpAny_bind (wpAny_onRaise (wpAny_tryCatch (wpAny_onRaise (wpAny_holding (merge_mapping (knd := mixKind X.prog X.w) (Ne.symm hap) s1 dd0 dd (fun k v h a => key_noref h a) (fun h' dd' hs' => ?_) (by rw [← rel.length]; simpa using z1))))))
  rw [merged_nil_of_nodup vs hnd] at dd'
  have he : ∃ q, h'.get? p = some q := let ⟨q, _, _, hq, _⟩ := dd'; ⟨q, hq⟩
  have I3 := d_write (t' := s2.toks) I2 (by rw [hp1]; exact True.intro) hs' he (dk_new z1 s0 rel dd')
  generalize hs3 : ({ s2 with heap := h' } : Shared) = s3 at I3 ⊢
  have hq0 := I3.hok.fresh (Nat.le_refl s3.heap.objs.size)
  have hpq : p ≠ s3.heap.objs.size := fun e => by rw [← e, upd_same] at hq0; cases hq0
  have I4 := I3.laid (a := s3.heap.objs.size) (o := .dK []) (h' := s3.heap.push { cls := .type "dict", data := .dict #[] }) (t' := s3.toks) (fun _ _ q => Heap.get?_push_of_some _ q) (Nat.le_refl _) (dk_empty s3.heap I3.big)
  have hq1 : H1 s3.heap.objs.size = none := by rw [upd_ne (Ne.symm hpq)] at hq0; exact hq0
  have g3 := g2 _ hq1
  refine wpAny_bind (wpAny_holding (wpAny_subDict (knd := mixKind X.prog X.w) (by simp) (pairTrees_cons_walk (ks := []) (vs := []) (thn (hk.run pins _ σ _ _ I4 g3) fun uk s5 h5 => ?_))))
  obtain ⟨y, H2, I5, ry, g5⟩ := h5
  refine thn (hv.run pins s5 σ H2 _ I5 g5) fun uv s6 h6 => ?_
  obtain ⟨z, H3, I6, rz, kk, rfl, hp3, hq3, hl3, g6⟩ := h6
  refine pairTrees_nil_walk ?_
  obtain ⟨zq, sq, vq, relq, ddq⟩ := dk_of I6.hok hq3
  cases relq
  refine ⟨[(kk, uv)], ⟨kV_is ry, rfl, trivial⟩, ddq, fun h7 dd7 hs7 => ?_⟩
  generalize hq : s3.heap.objs.size = q at *
  have rk : KV [(kk, z)] [(kk, uv)] := .cons ⟨rfl, rz⟩ .nil
  have he7 : ∃ u, h7.get? q = some u := let ⟨u, _, _, hq, _⟩ := dd7; ⟨u, hq⟩
  have I7 := d_write (t' := s6.toks + 1) I6 (by rw [hq3]; exact True.intro) hs7 he7 (dk_new (kvs := [(kk, z)]) (show 1 ≤ sizeLine by rw [sizeLine_eq]; decide) sq rk dd7)
  have hp7 : (upd H3 q (.dK [(kk, z)])) p = some (.dK kvs) := by rw [upd_ne hpq]; exact hp3
  have hq7 : (upd H3 q (.dK [(kk, z)])) q = some (.dK [(kk, z)]) := upd_same
  obtain ⟨z8, s8, v8, r8, d8⟩ := dk_of I7.hok hp7
  obtain ⟨z9, s9, v9, r9, d9⟩ := dk_of I7.hok hq7
  obtain ⟨u9, rfl, r9z⟩ : ∃ u9, v9 = [(kk, u9)] ∧ RelV z u9 := by
    cases r9 with
    | @cons a b as bs h t =>
      cases t
      obtain ⟨b1, b2⟩ := b
      exact ⟨b2, by rw [← (show kk = b1 from h.1)], h.2⟩
  refine wpAny_bind (wpAny_onRaise (wpAny_holding (merge_mapping (knd := mixKind X.prog X.w) hpq s9 d8 d9 (fun k v h a => key_noref h a) (fun h' dd' hs' => wpAny_pure ?_) (by rw [← r8.length]; exact hl3))))
  have he' : ∃ u, h'.get? p = some u := let ⟨u, _, _, hq, _⟩ := dd'; ⟨u, hq⟩
  refine ⟨.ref p, _, d_write I7 (by rw [hp7]; exact True.intro) hs' he' (dk_new ?_ s8 (r8.put kk r9z) dd'), rfl, g6⟩
  have := length_putK kvs kk z
  omega
end
end M
namespace M
open PySem PySem.Spec PyProof.Rows L2
/-- tuples at qs, what they hold -/
def TupsAt (H : Hp) (qs : List Addr) (ts : List (List V)) : Prop := qs.length = ts.length ∧ ∀ (i : Nat) q t, qs[i]? = some q → ts[i]? = some t → H q = some (.tup t)
theorem TupsAt.nil {H : Hp} : TupsAt H [] [] := ⟨rfl, fun i q t h _ => by simp at h⟩
theorem TupsAt.keep {H H' : Hp} {qs : List Addr} {ts : List (List V)} (h : TupsAt H qs ts) (s : ∀ q t, H q = some (.tup t) → H' q = some (.tup t)) : TupsAt H' qs ts := ⟨h.1, fun i q t a b => s _ _ (h.2 i q t a b)⟩
theorem TupsAt.snoc {H : Hp} {qs : List Addr} {ts : List (List V)} {q : Addr} {t : List V} (h : TupsAt H qs ts) (e : H q = some (.tup t)) : TupsAt H (qs ++ [q]) (ts ++ [t]) := by
  refine ⟨by rw [List.length_append, List.length_append, h.1]; rfl, fun i r u a b => ?_⟩
  have hl := h.1
  by_cases hi : i < qs.length
  · rw [List.getElem?_append_left hi] at a
    rw [List.getElem?_append_left (by omega)] at b
    exact h.2 i r u a b
  · rw [List.getElem?_append_right (by omega)] at a
    rw [List.getElem?_append_right (by omega)] at b
    have e0 : i - qs.length = 0 := by
      have := (List.getElem?_eq_some_iff.mp a).1
      simp at this
      omega
    have e1 : i - ts.length = 0 := by omega
    rw [e0] at a
    rw [e1] at b
    cases a
    cases b
    exact e
theorem lc_tups {K : PySem.W.Frag} {a : Addr} {xs : List V} {j : Nat} {tt : TT} {te : TE} {vs : List Nat} {σ : L2.St} {H1 : Hp} {Q : VK} (f : V → List V) (c : V → Bool) (hx : SqL K H1 a xs) (hlen : xs.length ≤ 1000)
    (hw : ∀ x, wipe ((wipe σ vs).set j (some x)) vs = wipe σ vs)
    (ht : ∀ (i : Nat) x H2, xs[i]? = some x → Same H1 H2 → ∀ R : Bool → Hp → Prop, R (c x) H2 → tt ((wipe σ vs).set j (some x)) H2 R)
    (he : ∀ (i : Nat) x H2, xs[i]? = some x → c x = true → Same H1 H2 → ∀ R : VK, (∀ q, H2 q = none → R (.ref q) (upd H2 q (.tup (f x)))) → te ((wipe σ vs).set j (some x)) H2 R)
    (q : ∀ D qs H', H1 D = none → Same H1 H' → H' D = some (.lst (qs.map V.ref)) → TupsAt H' qs ((xs.filter c).map f) → Q (.ref D) H') :
    ∀ D, H1 D = none → ∃ W : Nat → Nat → Hp → Prop, (∃ m, W 0 m (upd H1 D (.lst []))) ∧ ∀ i m H, W i m H →
      ((Itl K a).stop i H ∧ Q (.ref D) H) ∨ ((Itl K a).go i H ∧ ∃ Nx : Hp → Prop, (∀ H', Nx H' → ∃ m', m' < m ∧ W (i + 1) m' H') ∧ ∀ x H', (Itl K a).yld i H x H' → gName j x (wipe σ vs) H' fun σ2 H2 => wipe σ2 vs = wipe σ vs ∧ tt σ2 H2 fun b H3 =>
        if b = true then te σ2 H3 fun y H4 => ∃ acc, H4 D = some (.lst acc) ∧ acc.length < sizeLine ∧ Nx (upd H4 D (.lst (acc ++ [y]))) else Nx H3) := by
  intro D nD
  have key : ∀ (i : Nat) x, xs[i]? = some x → (xs.take (i + 1)).filter c = (xs.take i).filter c ++ [x].filter c := fun i x hi => by
    rw [List.take_add_one, hi, List.filter_append]
    rfl
  refine lc_list (K := K) (a := a) (xs := xs) (fun i H' => Same H1 H' ∧ ∃ qs, H' D = some (.lst (qs.map V.ref)) ∧ TupsAt H' qs (((xs.take i).filter c).map f)) ⟨same_new nD, [], upd_same, .nil⟩ (fun i H' _ p => p.1.seq hx) (fun i x H' hi p => ?_) (fun H' p => ?_)
  · obtain ⟨sm, qs, hD, ts⟩ := p
    have hlt : i < xs.length := (List.getElem?_eq_some_iff.mp hi).1
    refine ⟨hw x, ht i x H' hi sm _ ?_⟩
    cases hc : c x with
    | false =>
      rw [if_neg Bool.false_ne_true]
      refine ⟨sm, qs, hD, ?_⟩
      rw [key i x hi, List.filter_cons, hc]
      show TupsAt H' qs (List.map f (_ ++ []))
      rw [List.append_nil]
      exact ts
    | true =>
      rw [if_pos rfl]
      refine he i x H' hi hc sm _ fun q nq => ?_
      have nqD : D ≠ q := ne_of_none hD nq
      refine ⟨qs.map V.ref, by rw [upd_ne nqD]; exact hD, ?_, ?_, qs ++ [q], by rw [upd_same, List.map_append]; rfl, ?_⟩
      · rw [List.length_map, ts.1, List.length_map]
        have := List.length_filter_le c (xs.take i)
        rw [List.length_take] at this
        exact Nat.lt_of_le_of_lt (this) (small1000 (by omega))
      · exact Same.put (Same.put sm (sm.free nq)) nD
      · rw [key i x hi, List.map_append, List.filter_cons, hc]
        have t2 : TupsAt (upd (upd H' q (.tup (f x))) D (.lst (qs.map V.ref ++ [.ref q]))) qs (((xs.take i).filter c).map f) := ts.keep fun r t e => by
          rw [upd_ne (ne_of e hD (by intro z; cases z)), upd_ne (ne_of_none e nq)]
          exact e
        exact t2.snoc (by rw [upd_ne nqD.symm, upd_same])
  · obtain ⟨sm, qs, hD, ts⟩ := p
    rw [List.take_length] at ts
    exact q D qs H' nD sm hD ts

def ik (l : List (Str × Int)) : List (Str × V) := l.map fun p => (p.1, V.int p.2)
theorem ik_keys (l : List (Str × Int)) : (ik l).map (·.1) = l.map (·.1) := by
  unfold ik
  rw [List.map_map]
  rfl
theorem ik_len (l : List (Str × Int)) : (ik l).length = l.length := List.length_map ..
theorem ik_get {l : List (Str × Int)} {i : Nat} {z : Str} {v : V} (h : (ik l)[i]? = some (z, v)) : ∃ k, v = .int k ∧ l[i]? = some (z, k) := by
  unfold ik at h
  rw [List.getElem?_map] at h
  cases e : l[i]? with
  | none => rw [e] at h; cases h
  | some p => rw [e] at h; cases h; exact ⟨p.2, rfl, rfl⟩
theorem ik_val : ∀ (l : List (Str × Int)) (z : Str), sVal (ik l) z = (l.lookup z).map V.int
  | [], z => rfl
  | p :: l, z => by
    show sVal ((p.1, V.int p.2) :: ik l) z = _
    rw [sVal_cons, List.lookup_cons, ik_val l z]
    by_cases e : p.1 = z
    · rw [if_pos e, e, beq_self_eq_true]
      rfl
    · rw [if_neg e, beq_eq_false_iff_ne.mpr (Ne.symm e)]
theorem look_mem : ∀ {l : List (Str × Int)} {z : Str} {k : Int}, l.lookup z = some k → (z, k) ∈ l
  | [], z, k, h => by cases h
  | p :: l, z, k, h => by
    rw [List.lookup_cons] at h
    cases e : z == p.1 with
    | true => rw [e] at h; cases h; rw [eq_of_beq e]; exact List.mem_cons_self ..
    | false => rw [e] at h; exact List.mem_cons_of_mem _ (look_mem h)
theorem look_of : ∀ {l : List (Str × Int)} {z : Str} {k : Int}, (l.map (·.1)).Nodup → (z, k) ∈ l → l.lookup z = some k
  | [], z, k, _, h => by simp at h
  | p :: l, z, k, hn, h => by
    have hn : (p.1 :: l.map (·.1)).Nodup := hn
    obtain ⟨n1, n2⟩ := List.nodup_cons.mp hn
    rw [List.lookup_cons]
    rcases List.mem_cons.mp h with e | h
    · rw [← e, beq_self_eq_true]
    · have hne : z ≠ p.1 := fun e => n1 (by rw [← e]; exact List.mem_map.mpr ⟨_, h, rfl⟩)
      rw [beq_eq_false_iff_ne.mpr hne]
      exact look_of n2 h
theorem look_none {l : List (Str × Int)} {z : Str} : l.lookup z = none ↔ z ∉ l.map (·.1) := by
  rw [← ik_keys, ← sVal_none, ik_val]
  cases l.lookup z <;> simp
def iput (l : List (Str × Int)) (z : Str) (n : Int) : List (Str × Int) := if (l.lookup z).isSome = true then l.map (fun p => if p.1 = z then (p.1, n) else p) else l ++ [(z, n)]
theorem ik_put (l : List (Str × Int)) (z : Str) (n : Int) : sPut (ik l) z (.int n) = ik (iput l z n) := by
  unfold sPut iput
  rw [ik_val, Option.isSome_map]
  by_cases h : (l.lookup z).isSome = true
  · rw [if_pos h, if_pos h]
    unfold ik
    rw [List.map_map, List.map_map]
    refine List.map_congr_left fun p _ => ?_
    show (if p.1 = z then (p.1, V.int n) else (p.1, V.int p.2)) = ((fun p : Str × Int => (p.1, V.int p.2)) (if p.1 = z then (p.1, n) else p))
    by_cases e : p.1 = z
    · rw [if_pos e, if_pos e]
    · rw [if_neg e, if_neg e]
  · rw [if_neg h, if_neg h]
    unfold ik
    rw [List.map_append]
    rfl
theorem iput_look (l : List (Str × Int)) (z y : Str) (n : Int) : (iput l z n).lookup y = if y = z then some n else l.lookup y := by
  have h := sVal_put (ik l) z y (.int n)
  rw [ik_put, ik_val, ik_val] at h
  by_cases e : y = z
  · rw [if_pos e] at h ⊢
    cases q : (iput l z n).lookup y with
    | none => rw [q] at h; cases h
    | some k => rw [q] at h; cases h; rfl
  · rw [if_neg e] at h ⊢
    cases q : (iput l z n).lookup y with
    | none =>
      cases q2 : l.lookup y with
      | none => rfl
      | some k => rw [q, q2] at h; cases h
    | some k =>
      cases q2 : l.lookup y with
      | none => rw [q, q2] at h; cases h
      | some k2 => rw [q, q2] at h; cases h; rfl
theorem iput_nodup {l : List (Str × Int)} (z : Str) (n : Int) (h : (l.map (·.1)).Nodup) : ((iput l z n).map (·.1)).Nodup := by
  rw [← ik_keys, ← ik_put]
  exact sPut_nodup z _ (by rw [ik_keys]; exact h)
theorem iput_len (l : List (Str × Int)) (z : Str) (n : Int) : (iput l z n).length ≤ l.length + 1 := by
  have h := sPut_len (ik l) z (.int n)
  rw [ik_put, ik_len, ik_len] at h
  exact h
theorem iput_mem {l : List (Str × Int)} {z : Str} {n : Int} {p : Str × Int} (h : p ∈ iput l z n) : p ∈ l ∨ p = (z, n) := by
  unfold iput at h
  by_cases e : (l.lookup z).isSome = true
  · rw [if_pos e] at h
    obtain ⟨q, hq, rfl⟩ := List.mem_map.mp h
    by_cases e : q.1 = z
    · rw [if_pos e]; exact .inr (by rw [e])
    · rw [if_neg e]; exact .inl hq
  · rw [if_neg e] at h
    rcases List.mem_append.mp h with h | h
    · exact .inl h
    · exact .inr (List.mem_singleton.mp h)
def nz (l : List (Str × Int)) : List (Str × Int) := l.filter fun p => decide (p.2 ≠ 0)
theorem nz_sub (l : List (Str × Int)) : (nz l).Sublist l := List.filter_sublist ..
theorem nz_keys_nodup {l : List (Str × Int)} (h : (l.map (·.1)).Nodup) : ((nz l).map (·.1)).Nodup := h.sublist ((nz_sub l).map _)
theorem nz_ok (l : List (Str × Int)) : ∀ p ∈ nz l, p.2 ≠ 0 := fun p hp => of_decide_eq_true (List.mem_filter.mp hp).2
theorem nz_id {l : List (Str × Int)} (h : ∀ p ∈ l, p.2 ≠ 0) : nz l = l := List.filter_eq_self.mpr fun p hp => decide_eq_true (h p hp)
theorem nz_look {l : List (Str × Int)} (h : (l.map (·.1)).Nodup) (z : Str) : ((nz l).lookup z).getD 0 = (l.lookup z).getD 0 := by
  cases e : (nz l).lookup z with
  | some k =>
    rw [look_of h ((nz_sub l).mem (look_mem e))]
  | none =>
    cases e2 : l.lookup z with
    | none => rfl
    | some k =>
      by_cases hk : k = 0
      · rw [hk]; rfl
      · have m : (z, k) ∈ nz l := List.mem_filter.mpr ⟨look_mem e2, decide_eq_true hk⟩
        rw [look_of (nz_keys_nodup h) m] at e
        cases e
theorem nz_yes {l : List (Str × Int)} {i : Nat} {z : Str} {k : Int} (h : l[i]? = some (z, k)) (hk : k ≠ 0) : nz (l.take (i + 1)) = nz (l.take i) ++ [(z, k)] := by
  unfold nz
  rw [List.take_add_one, h, List.filter_append]
  congr 1
  show List.filter _ [(z, k)] = _
  rw [List.filter_cons, if_pos (decide_eq_true hk)]
  rfl
theorem nz_no {l : List (Str × Int)} {i : Nat} {z : Str} {k : Int} (h : l[i]? = some (z, k)) (hk : k = 0) : nz (l.take (i + 1)) = nz (l.take i) := by
  unfold nz
  rw [List.take_add_one, h, List.filter_append]
  show _ ++ List.filter _ [(z, k)] = _
  rw [List.filter_cons, if_neg (by simp [hk])]
  exact List.append_nil _
theorem take_fresh {l : List (Str × Int)} (hn : (l.map (·.1)).Nodup) {i : Nat} {z : Str} {k : Int} (h : l[i]? = some (z, k)) : z ∉ (l.take i).map (·.1) := by
  intro m
  rw [List.map_take] at m
  obtain ⟨j, hj, e⟩ := List.mem_iff_getElem.mp m
  rw [List.length_take, List.length_map] at hj
  have e1 : (l.map (·.1))[j]? = some z := by
    rw [List.getElem_take] at e
    rw [← e]
    exact List.getElem?_eq_getElem _
  have e2 : (l.map (·.1))[i]? = some z := by rw [List.getElem?_map, h]; rfl
  have q := nd_ix hn e1 e2
  omega
theorem upd_back {H : Hp} {a D : Addr} {f o u : HO} (n : D ≠ a) (h : H a = some u) : upd (upd (upd H a f) D o) a u = upd H D o := by
  funext b
  by_cases e : b = a
  · rw [e, upd_same, upd_ne n.symm, h]
  · by_cases e2 : b = D
    · rw [e2, upd_ne n, upd_same, upd_same]
    · rw [upd_ne e, upd_ne e2, upd_ne e, upd_ne e2]
/-- pairs of names and ints, strictly rising, those of l that are not 0 -/
structure SortOf (l ps : List (Str × Int)) : Prop where
  rise : Rise (ps.map (·.1))
  mem : ∀ z k, (z, k) ∈ ps ↔ (l.lookup z = some k ∧ k ≠ 0)
theorem SortOf.uniq {l m ps qs : List (Str × Int)} (a : SortOf l ps) (b : SortOf m qs) (h : ∀ z, (l.lookup z).getD 0 = (m.lookup z).getD 0) : ps = qs := by
  have tr : ∀ z k, k ≠ 0 → (l.lookup z = some k ↔ m.lookup z = some k) := fun z k hk => by
    have q := h z
    cases e1 : l.lookup z <;> cases e2 : m.lookup z <;> rw [e1, e2] at q <;> simp at q <;> simp <;> omega
  have mm : ∀ z k, (z, k) ∈ ps ↔ (z, k) ∈ qs := fun z k => by
    rw [a.mem, b.mem]
    exact ⟨fun ⟨u, v⟩ => ⟨(tr z k v).mp u, v⟩, fun ⟨u, v⟩ => ⟨(tr z k v).mpr u, v⟩⟩
  have hk : ps.map (·.1) = qs.map (·.1) := rise_eq a.rise b.rise fun z => by
    constructor
    · intro hz
      obtain ⟨p, hp, e⟩ := List.mem_map.mp hz
      exact List.mem_map.mpr ⟨p, (mm p.1 p.2).mp hp, e⟩
    · intro hz
      obtain ⟨p, hp, e⟩ := List.mem_map.mp hz
      exact List.mem_map.mpr ⟨p, (mm p.1 p.2).mpr hp, e⟩
  have nd : (qs.map (·.1)).Nodup := b.rise.imp fun {x y} h e => by rw [e, lt_irr] at h; cases h
  refine List.ext_getElem? fun i => ?_
  cases e1 : ps[i]? with
  | none =>
    have : qs.length ≤ i := by
      have h1 := List.getElem?_eq_none_iff.mp e1
      have h2 := congrArg List.length hk
      rw [List.length_map, List.length_map] at h2
      omega
    rw [List.getElem?_eq_none_iff.mpr this]
  | some p =>
    have hp : (p.1, p.2) ∈ qs := (mm p.1 p.2).mp (List.mem_of_getElem? e1)
    have hi : i < qs.length := by
      have h1 := (List.getElem?_eq_some_iff.mp e1).1
      have h2 := congrArg List.length hk
      rw [List.length_map, List.length_map] at h2
      omega
    have e2 := List.getElem?_eq_getElem hi
    have e3 : (qs[i]).1 = p.1 := by
      have h1 : (ps.map (·.1))[i]? = some p.1 := by rw [List.getElem?_map, e1]; rfl
      rw [hk, List.getElem?_map, e2] at h1
      exact Option.some.inj h1
    have q1 := look_of nd (List.mem_of_getElem? e2 : (qs[i].1, qs[i].2) ∈ qs)
    have q2 := look_of nd hp
    rw [e3, q2] at q1
    rw [e2]
    exact congrArg some (Prod.ext e3.symm (Option.some.inj q1))
theorem sort_of {l : List (Str × Int)} (hn : (l.map (·.1)).Nodup) {ys : List Str} (hr : Rise ys) (hm : ∀ z, z ∈ ys ↔ z ∈ l.map (·.1)) :
    SortOf l ((ys.filter fun z => decide ((l.lookup z).getD 0 ≠ 0)).map fun z => (z, (l.lookup z).getD 0)) := by
  refine ⟨?_, fun z k => ?_⟩
  · rw [List.map_map]
    have e : ((fun x : Str × Int => x.1) ∘ fun z => (z, (l.lookup z).getD 0)) = id := rfl
    rw [e, List.map_id]
    exact hr.sublist (List.filter_sublist ..)
  · rw [List.mem_map]
    constructor
    · rintro ⟨y, hy, e⟩
      obtain ⟨h1, h2⟩ := List.mem_filter.mp hy
      have h2 := of_decide_eq_true h2
      have e1 : y = z := congrArg Prod.fst e
      have e2 : (l.lookup y).getD 0 = k := congrArg Prod.snd e
      rw [e1] at h2 e2
      cases q : l.lookup z with
      | none => rw [q] at h2; exact (h2 rfl).elim
      | some n => rw [q] at h2 e2; exact ⟨congrArg some e2, by rw [← e2]; exact h2⟩
    · rintro ⟨h1, h2⟩
      refine ⟨z, List.mem_filter.mpr ⟨(hm z).mpr (List.mem_map.mpr ⟨_, look_mem h1, rfl⟩), ?_⟩, by rw [h1]; rfl⟩
      rw [h1]
      exact decide_eq_true h2
end M
namespace M
open PySem PySem.Spec PyProof.Rows L2
section
variable {X : Cx} {K : PySem.W.Frag} {e o : Expr} {es : List Expr} {f : Str} {pos apos cpos : Pos} {ta to : TE} {t : TA} {r : V → List V → Hp → VK → Prop} {T id : String} {name : Str}
theorem fldK (h : X.K = K) (he : PE X e ta) (hb : attributeBase e f X.env (eval e X.env) = eval e X.env) : PE X (.Attribute e f pos) (tFld K ta f) := by
  subst h
  exact pe_fld he hb
theorem ixLK (h : X.K = K) : IxR X (rIxL K) := by subst h; exact ix_list
theorem ixTK (h : X.K = K) : IxR X (rIxT K) := by subst h; exact ix_tup
theorem slLK (h : X.K = K) : SlR X (rSlL K) := by subst h; exact sl_list
theorem slTK (h : X.K = K) : SlR X (rSlT K) := by subst h; exact sl_tup
theorem inK (h : X.K = K) : OpR X (compareOp .In) (rIn K false) := by subst h; exact op_in_seq
theorem ninK (h : X.K = K) : OpR X (compareOp .NotIn) (rIn K true) := by subst h; exact op_notIn_seq
def rLenQ (K : PySem.W.Frag) : List V → Hp → VK → Prop := fun xs H Q => ∃ p ys, xs = [.ref p] ∧ (SqL K H p ys ∨ SqT K H p ys) ∧ Q (.int ys.length) H
theorem lenK (h : X.K = K) : CallR X (.builtin "len") (rLenQ K) := by subst h; exact call_len_seq
def rListQ (K : PySem.W.Frag) : List V → Hp → VK → Prop := fun xs H Q => ∃ p ys, xs = [.ref p] ∧ (SqL K H p ys ∨ SqT K H p ys) ∧ ∀ l, H l = none → Q (.ref l) (upd H l (.lst ys))
theorem listK (h : X.K = K) : CallR X (.type "list") (rListQ K) := by subst h; exact call_list_of
theorem isiK (h : X.K = K) : CallR X (.builtin "isinstance") (rIsi K) := by subst h; exact call_isi
theorem eqDK (h : X.K = K) (hu : X.A.units + 64 < cLine) : OpR X (compareOp .Eq) (rEqD K) := by subst h; exact op_eqD hu
theorem neDK (h : X.K = K) (hu : X.A.units + 64 < cLine) : OpR X (compareOp .NotEq) (rNeD K) := by subst h; exact op_neD hu
theorem sumK (h : X.K = K) (hc : X.calm = true) : CallR X (.builtin "sum") (rSum K) := by subst h; exact cr_sum hc
theorem allK (h : X.K = K) (hc : X.calm = true) : CallR X (.builtin "all") (rAll K) := by subst h; exact cr_all hc
theorem anyK (h : X.K = K) (hc : X.calm = true) : CallR X (.builtin "any") (rAny K) := by subst h; exact cr_any hc
theorem sortSK (h : X.K = K) : CallR X (.builtin "sorted") (rSortedS K) := by subst h; exact cr_sortedS
theorem piL (h : X.K = K) {tg l : Expr} {tl : TE} (hl : PE X l tl) : PI X tg l (iList K tl) := by subst h; exact pi_list hl
theorem piT (h : X.K = K) {tg l : Expr} {tl : TE} (hl : PE X l tl) : PI X tg l (iTup K tl) := by subst h; exact pi_tup hl
end
end M
namespace M
open PySem PySem.Spec PyProof.Rows L2
def Nb (n : Nat) (x : Int) : Prop := x.natAbs < 2 ^ n
theorem Nb.mono {a b : Nat} {x : Int} (h : Nb a x) (e : a ≤ b) : Nb b x := Nat.lt_of_lt_of_le h (Nat.pow_le_pow_right (by decide) e)
theorem Nb.add {a b : Nat} {x y : Int} (h1 : Nb a x) (h2 : Nb b y) : Nb (max a b + 1) (x + y) := by
  have p1 := h1.mono (Nat.le_max_left a b)
  have p2 := h2.mono (Nat.le_max_right a b)
  unfold Nb at *
  rw [Nat.pow_succ]
  omega
theorem Nb.sub {a b : Nat} {x y : Int} (h1 : Nb a x) (h2 : Nb b y) : Nb (max a b + 1) (x - y) := by
  have p1 := h1.mono (Nat.le_max_left a b)
  have p2 := h2.mono (Nat.le_max_right a b)
  unfold Nb at *
  rw [Nat.pow_succ]
  omega
theorem Nb.mul {a b : Nat} {x y : Int} (h1 : Nb a x) (h2 : Nb b y) : Nb (a + b) (x * y) := wide_lt h1 h2
theorem Nb.pow2 {a : Nat} {x : Int} (h : Nb a x) : Nb (a + a) (x ^ (2 : Int).toNat) := by
  show Nb (a + a) (x ^ 2)
  rw [show x ^ 2 = x * x by rw [Int.pow_succ, Int.pow_succ, Int.pow_zero, Int.one_mul]]
  exact h.mul h
theorem Nb.mod {b : Nat} {x j : Int} (h0 : 0 < j) (h : Nb b j) : Nb b (x.fmod j) ∧ 0 ≤ x.fmod j := by
  have h1 := Int.fmod_nonneg_of_pos x h0
  have h2 := Int.fmod_lt_of_pos x h0
  unfold Nb at *
  exact ⟨by omega, h1⟩
theorem Nb.div {a : Nat} {x j : Int} (h : Nb a x) (hx : 0 ≤ x) (hj : 0 < j) : Nb a (x / j) ∧ 0 ≤ x / j := by
  have h1 : 0 ≤ x / j := Int.ediv_nonneg hx (Int.le_of_lt hj)
  have h2 : x / j ≤ x := Int.ediv_le_self j hx
  unfold Nb at *
  exact ⟨by omega, h1⟩
theorem Nb.cmul {a b : Nat} {x y : Int} (h1 : Nb a x) (h2 : Nb b y) (h : a + b ≤ 134217728) : CMulX x y := mulx_ok h1 h2 h
theorem Nb.cpow {a : Nat} {x : Int} (h : Nb a x) (ha : a ≤ 1000000) : CPowX x 2 := by
  have b := PyProof.Rows.intBits_le h
  refine ⟨by decide, ?_⟩
  omega
theorem Nb.cdiv {x j : Int} {b : Nat} (h0 : 0 < j) (h : Nb b j) (hb : 0 < b) (h9 : b ≤ 9000) : CDivW x j := wide_div h0 h hb h9
/-- x = e, of whose value C is known -/
theorem cut_int {te : TE} {rest : TS} {D : Ends} {σ : L2.St} {H : Hp} {i : Nat} (C : Int → Prop) (h : ∀ Q : VK, (∀ n, C n → Q (.int n) H) → te σ H Q) (k : ∀ n, C n → rest D (σ.set i (some (.int n))) H) : tSeq (tAsg te (gName i)) rest D σ H := h _ fun n c => k n c

/-- one to eight letters -/
def IsName (z : Str) : Prop := 1 ≤ z.length ∧ z.length ≤ 8 ∧ ∀ c ∈ cs z, 97 ≤ c ∧ c ≤ 122
theorem cs_len (z : Str) : (cs z).length = z.length := Array.length_toList ..
theorem cs_app (a b : Str) : cs (a ++ b) = cs a ++ cs b := by
  show (a.cps ++ b.cps).toList = _
  rw [Array.toList_append]
  rfl
theorem cs_cut (z : Str) (lo hi : Option Int) : cs (cutS z lo hi) = ((cs z).drop (HT.sIx z.length 0 lo)).take (HT.sIx z.length z.length hi - HT.sIx z.length 0 lo) := rfl
theorem cut_mem {z : Str} {lo hi : Option Int} {c : Nat} (h : c ∈ cs (cutS z lo hi)) : c ∈ cs z := by
  rw [cs_cut] at h
  exact List.mem_of_mem_drop (List.mem_of_mem_take h)
theorem join_cs : ∀ (ys : List Str), cs (Txt.join Str.empty ys) = (ys.map cs).flatten
  | [] => by rw [TL.join_eq]; rfl
  | [y] => by rw [TL.join_eq]; show cs y = _; simp
  | y :: u :: r => by
    have ih := join_cs (u :: r)
    rw [TL.join_eq] at ih ⊢
    show cs (y ++ Str.empty ++ Str.join Str.empty (u :: r)) = cs y ++ ((u :: r).map cs).flatten
    rw [cs_app, cs_app, ih]
    show cs y ++ [] ++ _ = _
    rw [List.append_nil]
theorem flat_len : ∀ (ys : List Str), (∀ y ∈ ys, y.length = 1) → ((ys.map cs).flatten).length = ys.length
  | [], _ => rfl
  | y :: r, h => by
    rw [List.map_cons, List.flatten_cons, List.length_append, cs_len, h y (List.mem_cons_self ..), flat_len r fun u hu => h u (List.mem_cons_of_mem _ hu), List.length_cons]
    omega
end M
namespace M
open L2
theorem nx_go {D : Ends} {σ : L2.St} {H : Hp} (h : D.nx σ H) : tNext D σ H := h
end M
namespace M
open PySem PySem.Spec PyProof.Rows L2
theorem cut_to {z : Str} {k : Nat} : (cutS z none (some (k : Int))).length = min k z.length := by
  rw [← cs_len, cs_cut, HT.sIx_none, HT.sIx_nat, List.length_take, List.length_drop, cs_len]
  omega
theorem cut_last {z : Str} (h : 1 ≤ z.length) : (cutS z none (some (-1))).length = z.length - 1 := by
  rw [← cs_len, cs_cut, HT.sIx_none, List.length_take, List.length_drop, cs_len]
  have e : HT.sIx z.length z.length (some (-1)) = z.length - 1 := by
    show (if (-1 : Int) < 0 then ((-1 : Int) + (z.length : Int)).toNat else min (-1 : Int).toNat z.length) = z.length - 1
    rw [if_pos (by decide)]
    omega
  rw [e]
  omega
theorem str_len_app (a b : Str) : (a ++ b).length = a.length + b.length := Str.length_append a b
theorem IsName.way1 {a b : Str} (ha : IsName a) (hb : IsName b) : IsName (cutS (a ++ b) none (some 8)) := by
  have l := cut_to (z := a ++ b) (k := 8)
  rw [str_len_app] at l
  refine ⟨?_, ?_, fun c hc => ?_⟩
  · show 1 ≤ (cutS (a ++ b) none (some ((8 : Nat) : Int))).length
    rw [l]
    have := ha.1
    omega
  · show (cutS (a ++ b) none (some ((8 : Nat) : Int))).length ≤ 8
    rw [l]
    omega
  · have h := cut_mem hc
    rw [cs_app] at h
    rcases List.mem_append.mp h with h | h
    · exact ha.2.2 c h
    · exact hb.2.2 c h
theorem IsName.way2 {a : Str} (ha : IsName a) {k : Nat} (h1 : 1 ≤ k) : IsName (cutS a none (some (k : Int))) := by
  have l := cut_to (z := a) (k := k)
  have := ha.1
  have := ha.2.1
  exact ⟨by omega, by omega, fun c hc => ha.2.2 c (cut_mem hc)⟩
theorem IsName.way3 {a b : Str} (ha : IsName a) (hb : IsName b) : IsName (cutS a none (some (-1)) ++ cutS b none (some 1)) := by
  have l1 := cut_last ha.1
  have l2 : (cutS b none (some ((1 : Nat) : Int))).length = min 1 b.length := cut_to (z := b) (k := 1)
  have h1 := ha.1
  have h2 := ha.2.1
  have h3 := hb.1
  have l : (cutS a none (some (-1)) ++ cutS b none (some 1)).length = (a.length - 1) + min 1 b.length := by
    rw [str_len_app, l1]
    exact congrArg _ l2
  refine ⟨by omega, by omega, fun c hc => ?_⟩
  rw [cs_app] at hc
  rcases List.mem_append.mp hc with h | h
  · exact ha.2.2 c (cut_mem h)
  · exact hb.2.2 c (cut_mem h)
/-- single letters joined -/
theorem IsName.join {ys : List Str} (h1 : 1 ≤ ys.length) (h8 : ys.length ≤ 8) (h : ∀ y ∈ ys, ∃ c, y = ⟨#[c]⟩ ∧ 97 ≤ c ∧ c ≤ 122) : IsName (Txt.join Str.empty ys) := by
  have e := join_cs ys
  have l : (Txt.join Str.empty ys).length = ys.length := by
    rw [← cs_len, e]
    exact flat_len ys fun y hy => by obtain ⟨c, rfl, _⟩ := h y hy; rfl
  refine ⟨by omega, by omega, fun c hc => ?_⟩
  rw [e] at hc
  obtain ⟨l, hl, hc⟩ := List.mem_flatten.mp hc
  obtain ⟨y, hy, rfl⟩ := List.mem_map.mp hl
  obtain ⟨d, rfl, h1, h2⟩ := h y hy
  have : c = d := by simpa [cs] using hc
  omega
theorem letter_at {d : Int} (h0 : 0 ≤ d) (h1 : d < 26) : ∃ c, atI (Str.ofString "abcdefghijklmnopqrstuvwxyz").cps.toList d = some c ∧ 97 ≤ c ∧ c ≤ 122 := by
  have e : (Str.ofString "abcdefghijklmnopqrstuvwxyz").cps.toList = (List.range 26).map (· + 97) := by decide +kernel
  refine ⟨d.toNat + 97, ?_, by omega, by omega⟩
  rw [e]
  have hd : d = (d.toNat : Int) := by omega
  rw [hd]
  refine atI_nat ?_
  rw [List.getElem?_map, List.getElem?_range (by omega)]
  rfl
end M
namespace M
open PySem L2
theorem ones : ∀ {ys : List Str}, (∀ y ∈ ys, y.length = 1) → (ys.map (·.length)).sum = ys.length
  | [], _ => rfl
  | y :: r, h => by
    rw [List.map_cons, List.sum_cons, h y (List.mem_cons_self ..), ones fun u hu => h u (List.mem_cons_of_mem _ hu), List.length_cons]
    omega
end M
namespace M
open PySem L2
/-- signs that there are -/
def Sgn (z : Str) : Prop := ∀ c ∈ cs z, c < 0x110000
theorem IsName.sgn {z : Str} (h : IsName z) : Sgn z := fun c hc => by have := (h.2.2 c hc).2; omega
theorem shaped_pair {z : Str} (h : Sgn z) (n : Int) : SeqAt.shaped (.tuple [.str z, .int n]) = true := by
  have e : (z.cps.all (· < 0x110000)) = true := by
    rw [← Array.all_toList]
    exact List.all_eq_true.mpr fun c hc => decide_eq_true (h c hc)
  unfold SeqAt.shaped
  rw [show (PyData.tuple [.str z, .int n]).canLay0 = ((z.cps.all (· < 0x110000)) && (true && true)) from rfl, e]
  rfl
end M
namespace M
open PySem PySem.Spec PyProof.Rows L2
/-- a def of the text, whatever its defaults are -/
structure Fun2 (K : PySem.W.Frag) (x qual : Str) (st : Stmt) (f : Addr) (fd : FuncData) : Prop where
  ex : ∃ (oc : Value) (od : Option Addr) (dV kV doc pm : Value) (an : Option Addr) (cdv ct : Value) (osl : Array (Option Value)),
    fd = PySem.W.fnOf x qual (defArgs st) (defBody st) (defScope st) dV kV doc pm an cdv ct ∧ K.lookup f = some ⟨oc, od, .func fd, osl⟩ ∧ PySem.W.codeIn K cdv qual = true
section
variable {P : Program} {w : World} {K : PySem.W.Frag} {mg : Str → Option Value} {base : Heap}
theorem Fun2.ok {x qual : Str} {st : Stmt} {f : Addr} {fd : FuncData} {N ps : List Str} {k : Nat} {sp : Sp} (F : Fun2 K x qual st f fd) (S : FnScope N ps (defScope st)) (len : ∀ vs H Q E, sp vs H Q E → vs.length = ps.length)
    (hbody : ∀ (cdv : Value) (A : Around) (outer : List Env) (s : Shared) (H : Hp) (vs : List V) (Q : VK) (E : XK), Room k (A.deeper (envOfC qual (defScope st) s.heap.objs.size f cdv)) → sp vs H Q E →
      ∃ t, PSs (cxOf CX0 P w K mg base N qual (defScope st) f cdv A outer s H E).nox (defBody st) t ∧ t { nx := fun _ H' => Q .non H', rt := Q } (start N vs) H) : FnOk P w K mg base CX0 (k + 1) f fd ps sp := by
  obtain ⟨oc, od, dV, kV, doc, pm, an, cdv, ct, osl, rfl, lk, hcd⟩ := F.ex
  refine fn_of lk hcd S len fun A outer s H vs Q E hr hsp => ?_
  obtain ⟨t, h, q⟩ := hbody cdv A outer s H vs Q E hr hsp
  exact ⟨t, h.nox, q⟩
theorem fun2_mk {x qual : Str} {st : Stmt} {f : Addr} {oc : Value} {od an : Option Addr} {osl : Array (Option Value)} {dV kV doc pm cdv ct : Value} (l : K.lookup f = some ⟨oc, od, .func (PySem.W.fnOf x qual (defArgs st) (defBody st) (defScope st) dV kV doc pm an cdv ct), osl⟩)
    (c : PySem.W.codeIn K cdv qual = true) : Fun2 K x qual st f (PySem.W.fnOf x qual (defArgs st) (defBody st) (defScope st) dV kV doc pm an cdv ct) := ⟨oc, od, dV, kV, doc, pm, an, cdv, ct, osl, rfl, l, c⟩
theorem mkD {x : Str} {f : Addr} {fd : FuncData} {ps : List Str} {k : Nat} {sp : Sp} (F : FnOk P w K mg base CX0 k f fd ps sp) (kp : PySem.W.keepIn K (.ref f) = true) (g : mg x = some (.ref f)) (b : Binds K fd ps []) : DefOk P w K mg base k x ps sp := ⟨f, fd, F, g, kp, b⟩
theorem mkM {m : Str} {C f : Addr} {fd : FuncData} {ps : List Str} {k : Nat} {sp : Sp} (F : FnOk P w K mg base CX0 k f fd ps sp) (a : PySem.W.findIn K (.ref C) m = some (some (.ref f))) (i : PySem.W.isFn K (.ref f) = true) (kp : PySem.W.keepIn K (.ref f) = true) (n : PySem.W.fnIn K f = true) (b : Binds K fd ps []) :
    MethOk P w K mg base C k m ps sp := ⟨f, fd, F, a, i, kp, n, b⟩
/-- a def whose last parameter has a default: both ways it is called -/
theorem dfl_binds {x qual : Str} {st : Stmt} {f T : Addr} {oc tc : Value} {od an td : Option Addr} {osl tsl : Array (Option Value)} {kV doc pm cdv ct d : Value} {n : Nat} {v : V} {ps : List Str} {m : Nat}
    (l : K.lookup f = some ⟨oc, od, .func (PySem.W.fnOf x qual (defArgs st) (defBody st) (defScope st) (.ref T) kV doc pm an cdv ct), osl⟩) (c : PySem.W.codeIn K cdv qual = true) (kp : PySem.W.keepIn K (.ref f) = true)
    (t : K.lookup T = some ⟨tc, td, .seq #[d] n, tsl⟩) (r : RelV v d) (hps : ps.length = m + 1)
    (h1 : ∀ (T : Addr) (kV doc pm : Value) (an : Option Addr) (cdv ct : Value) (us its : List Value), us.length = m + 1 → its.length = 1 → ∃ k, bindArgs (PySem.W.fnOf x qual (defArgs st) (defBody st) (defScope st) (.ref T) kV doc pm an cdv ct) ⟨us, []⟩ = seqItems? (.ref T) >>= k ∧ k (some its.toArray) = pure (ps.zip (us ++ its.drop 1)))
    (h0 : ∀ (T : Addr) (kV doc pm : Value) (an : Option Addr) (cdv ct : Value) (us its : List Value), us.length = m → its.length = 1 → ∃ k, bindArgs (PySem.W.fnOf x qual (defArgs st) (defBody st) (defScope st) (.ref T) kV doc pm an cdv ct) ⟨us, []⟩ = seqItems? (.ref T) >>= k ∧ k (some its.toArray) = pure (ps.zip (us ++ its.drop 0))) :
    Binds K (PySem.W.fnOf x qual (defArgs st) (defBody st) (defScope st) (.ref T) kV doc pm an cdv ct) ps [] ∧ ∃ u, RelV v u ∧ Binds K (PySem.W.fnOf x qual (defArgs st) (defBody st) (defScope st) (.ref T) kV doc pm an cdv ct) ps [u] := by
  have F : FunD K x qual (defArgs st) (defBody st) (defScope st) [v] [] f (PySem.W.fnOf x qual (defArgs st) (defBody st) (defScope st) (.ref T) kV doc pm an cdv ct) :=
    ⟨⟨oc, od, _, kV, doc, pm, an, cdv, ct, osl, rfl, l, c, .inr ⟨by simp, T, _, [d], n, rfl, t, rfl, .cons r .nil⟩, .inl rfl⟩, kp⟩
  refine ⟨?_, ?_⟩
  · obtain ⟨ds, rd, b⟩ := F.binds1 (ps := ps) (m + 1) 1 (by simp) (by simp [hps]) fun T kV doc pm an cdv ct us its hu hi => h1 T kV doc pm an cdv ct us its hu hi
    cases rd
    exact b
  · obtain ⟨ds, rd, b⟩ := F.binds1 (ps := ps) m 0 (by simp) (by simp [hps]) fun T kV doc pm an cdv ct us its hu hi => h0 T kV doc pm an cdv ct us its hu hi
    cases rd with
    | @cons a u as us h t =>
      cases t
      exact ⟨u, h, b⟩
end
end M
namespace M
open PySem PySem.Spec PyProof.Rows L2
section
variable {X : Cx}
def rCatR : R2 := fun x y H Q => ∃ l b xs zs, x = .ref l ∧ y = .ref b ∧ Rd H l (.lst xs) ∧ Rd H b (.lst zs) ∧ xs.length + zs.length ≤ sizeLine ∧ ∀ p, H p = none → Q (.ref p) (upd H p (.lst (xs ++ zs)))
theorem op_catR : OpR X (binaryOp .Add) rCatR := by
  intro pins s σ H x y v u Q I rx ry h
  obtain ⟨l, b, xs, zs, rfl, rfl, hH, hB, hz, q⟩ := h
  cases rx
  cases ry
  obtain ⟨z, its, n, r, e⟩ := hH.ok I.hok
  obtain ⟨z2, its2, n2, r2, e2⟩ := hB.ok I.hok
  refine PySem.P.add_list e e2 ?_ (by rw [List.size_toArray, List.size_toArray, ← r.length, ← r2.length]; exact hz)
  rw [show its.toArray ++ its2.toArray = (its ++ its2).toArray by simp]
  exact ⟨.ref _, _, I.lnew (t' := s.toks) (r.append r2) (by rw [List.length_append]; exact hz), rfl, q _ I.fresh⟩

inductive DHits (K : PySem.W.Frag) (H : Hp) (ls : List (Key × V)) : List (Key × V) → Bool → Prop
  | nil : DHits K H ls [] true
  | miss {k : Key} {x : V} {r : List (Key × V)} : valV ls k = none → DHits K H ls ((k, x) :: r) false
  | hit {k : Key} {x y : V} {d e : PyData} {r : List (Key × V)} {b : Bool} : valV ls k = some y → Dp K H x d → Dp K H y e → SeqAt.shaped d = true → SeqAt.shaped e = true → DHits K H ls r b → DHits K H ls ((k, x) :: r) (PyData.eqv d e && b)
theorem dhits_run {pins : List (Addr × Obj)} {σ : L2.St} {H : Hp} {s : Shared} (I : Inv X pins σ H s) {A : Around} (hu : A.units + 64 < cLine) {ls : List (Key × V)} {vb : List (Key × Value)} (rb : KV ls vb) :
    ∀ {ks : List (Key × V)} {va : List (Key × Value)} {r : Bool}, KV ks va → DHits X.K H ls ks r → PySem.W.KeqHits A s vb va r := by
  intro ks va r ra h
  induction h generalizing va with
  | nil => cases ra; exact .nil
  | @miss k x r hm =>
    cases ra with
    | @cons p q ps qs h t =>
      obtain ⟨k', v'⟩ := q
      have e : k = k' := h.1
      exact .miss (RelO.none_of (by rw [← hm, ← e]; exact rb.val k))
  | @hit k x y d e r b hy hd he sd se _ ih =>
    cases ra with
    | @cons p q ps qs h t =>
      obtain ⟨k', v'⟩ := q
      have ek : k = k' := h.1
      obtain ⟨u, hu', ru⟩ := RelO.some_of (v := y) (o := valueAt vb k) (by rw [← hy]; exact rb.val k)
      obtain ⟨as, r1⟩ := Dp.reads I d x v' hd h.2
      obtain ⟨bs, r2⟩ := Dp.reads I e y u he ru
      exact .hit (by rw [← ek]; exact hu') (SeqAt.eqAt_reads d e A s v' u as bs r1 r2 (SeqAt.canLay_of_shaped sd) (SeqAt.canLay_of_shaped se) (SeqAt.room_of_shaped sd hu)) (ih t)
def rEqDD (K : PySem.W.Frag) (neg : Bool) : R2 := fun x y H Q => ∃ a b ks ls r, x = .ref a ∧ y = .ref b ∧ Rd H a (.dK ks) ∧ Rd H b (.dK ls) ∧ DHits K H ls ks r ∧ Q (.bl (if neg then !(ks.length == ls.length && r) else (ks.length == ls.length && r))) H
theorem op_eqDD {K : PySem.W.Frag} (hK : X.K = K) (hu : X.A.units + 66 < cLine) : OpR X (compareOp .Eq) (rEqDD K false) := by
  subst hK
  intro pins s σ H x y v u Q I rx ry h
  obtain ⟨a, b, ks, ls, r, rfl, rfl, ea, eb, hh, q⟩ := h
  cases (show v = Value.ref a from rx)
  cases (show u = Value.ref b from ry)
  obtain ⟨_, ya, va, ra, da⟩ := dk_rd I.hok ea
  obtain ⟨_, yb, vb, rb, db⟩ := dk_rd I.hok eb
  refine PySem.W.keq_eq (knd := mixKind X.prog X.w) (r := r) ya yb da db (by omega) (fun _ => dhits_run I (by show X.A.units + 1 + 64 < cLine; omega) rb ra hh) ?_
  rw [← ra.length, ← rb.length]
  exact ⟨.bl (ks.length == ls.length && r), H, I, rfl, q⟩
theorem op_neDD {K : PySem.W.Frag} (hK : X.K = K) (hu : X.A.units + 66 < cLine) : OpR X (compareOp .NotEq) (rEqDD K true) := by
  subst hK
  intro pins s σ H x y v u Q I rx ry h
  obtain ⟨a, b, ks, ls, r, rfl, rfl, ea, eb, hh, q⟩ := h
  cases (show v = Value.ref a from rx)
  cases (show u = Value.ref b from ry)
  obtain ⟨_, ya, va, ra, da⟩ := dk_rd I.hok ea
  obtain ⟨_, yb, vb, rb, db⟩ := dk_rd I.hok eb
  refine PySem.W.keq_ne (knd := mixKind X.prog X.w) (r := r) ya yb da db (by omega) (fun _ => dhits_run I (by show X.A.units + 1 + 64 < cLine; omega) rb ra hh) ?_
  rw [← ra.length, ← rb.length]
  exact ⟨.bl (!(ks.length == ls.length && r)), H, I, rfl, q⟩
end
theorem hu66 {A : Around} {k : Nat} (hr : Room k A) : A.units + 66 < cLine := by have := hr.un; omega

section
variable {α : Type}
theorem al_mem : ∀ {l : List (Str × α)} {z : Str} {k : α}, l.lookup z = some k → (z, k) ∈ l
  | [], z, k, h => by cases h
  | p :: l, z, k, h => by
    rw [List.lookup_cons] at h
    cases e : z == p.1 with
    | true => rw [e] at h; cases h; rw [eq_of_beq e]; exact List.mem_cons_self ..
    | false => rw [e] at h; exact List.mem_cons_of_mem _ (al_mem h)
theorem al_of : ∀ {l : List (Str × α)} {z : Str} {k : α}, (l.map (·.1)).Nodup → (z, k) ∈ l → l.lookup z = some k
  | [], z, k, _, h => by simp at h
  | p :: l, z, k, hn, h => by
    have hn : (p.1 :: l.map (·.1)).Nodup := hn
    obtain ⟨n1, n2⟩ := List.nodup_cons.mp hn
    rw [List.lookup_cons]
    rcases List.mem_cons.mp h with e | h
    · rw [← e, beq_self_eq_true]
    · have hne : z ≠ p.1 := fun e => n1 (by rw [← e]; exact List.mem_map.mpr ⟨_, h, rfl⟩)
      rw [beq_eq_false_iff_ne.mpr hne]
      exact al_of n2 h
theorem al_none : ∀ {l : List (Str × α)} {z : Str}, l.lookup z = none ↔ z ∉ l.map (·.1)
  | [], z => by simp
  | p :: l, z => by
    rw [List.lookup_cons, List.map_cons, List.mem_cons]
    cases e : z == p.1 with
    | true => exact Iff.intro (fun h => nomatch h) (fun h => (h (Or.inl (eq_of_beq e))).elim)
    | false =>
      have hne := beq_eq_false_iff_ne.mp e
      show l.lookup z = none ↔ _
      rw [al_none]
      exact Iff.intro (fun h q => q.elim hne h) (fun h q => h (Or.inr q))
def aput (l : List (Str × α)) (z : Str) (n : α) : List (Str × α) := if (l.lookup z).isSome = true then l.map (fun p => if p.1 = z then (p.1, n) else p) else l ++ [(z, n)]
theorem al_map (z y : Str) (n : α) : ∀ l : List (Str × α), (l.map fun p => if p.1 = z then (p.1, n) else p).lookup y = (l.lookup y).map fun x => if y = z then n else x
  | [] => rfl
  | p :: l => by
    rw [List.map_cons, List.lookup_cons, List.lookup_cons, al_map z y n l]
    by_cases e : p.1 = z
    · rw [if_pos e]
      cases q : y == p.1 with
      | true => show some n = some (if y = z then n else p.2); rw [if_pos (show y = z by rw [eq_of_beq q, e])]
      | false => rfl
    · rw [if_neg e]
      cases q : y == p.1 with
      | true => show some p.2 = some (if y = z then n else p.2); rw [if_neg (show ¬ y = z by rw [eq_of_beq q]; exact e)]
      | false => rfl
theorem al_app (y : Str) : ∀ (l m : List (Str × α)), (l ++ m).lookup y = (l.lookup y).or (m.lookup y)
  | [], m => rfl
  | p :: l, m => by
    rw [List.cons_append, List.lookup_cons, List.lookup_cons, al_app y l m]
    cases y == p.1 <;> rfl
theorem aput_look (l : List (Str × α)) (z y : Str) (n : α) : (aput l z n).lookup y = if y = z then some n else l.lookup y := by
  unfold aput
  by_cases h : (l.lookup z).isSome = true
  · rw [if_pos h, al_map]
    by_cases e : y = z
    · rw [if_pos e, e]
      cases q : l.lookup z with
      | none => rw [q] at h; cases h
      | some x => simp
    · rw [if_neg e]
      cases l.lookup y <;> simp [e]
  · rw [if_neg h, al_app]
    by_cases e : y = z
    · rw [if_pos e, e]
      cases q : l.lookup z with
      | some x => rw [q] at h; exact (h rfl).elim
      | none => rw [List.lookup_cons, beq_self_eq_true]; rfl
    · rw [if_neg e, List.lookup_cons, beq_eq_false_iff_ne.mpr e]
      cases l.lookup y <;> rfl
theorem aput_keys (l : List (Str × α)) (z : Str) (n : α) : (aput l z n).map (·.1) = if (l.lookup z).isSome = true then l.map (·.1) else l.map (·.1) ++ [z] := by
  unfold aput
  by_cases h : (l.lookup z).isSome = true
  · rw [if_pos h, if_pos h, List.map_map]
    refine List.map_congr_left fun p _ => ?_
    show (if p.1 = z then (p.1, n) else p).1 = p.1
    by_cases e : p.1 = z
    · rw [if_pos e]
    · rw [if_neg e]
  · rw [if_neg h, if_neg h, List.map_append]
    rfl
theorem aput_nodup {l : List (Str × α)} (z : Str) (n : α) (h : (l.map (·.1)).Nodup) : ((aput l z n).map (·.1)).Nodup := by
  rw [aput_keys]
  by_cases e : (l.lookup z).isSome = true
  · rw [if_pos e]; exact h
  · rw [if_neg e]
    refine nd_snoc h (al_none.mp ?_)
    cases q : l.lookup z with
    | none => rfl
    | some v => rw [q] at e; exact (e rfl).elim
theorem aput_len (l : List (Str × α)) (z : Str) (n : α) : (aput l z n).length ≤ l.length + 1 := by
  have h := congrArg List.length (aput_keys l z n)
  rw [List.length_map] at h
  rw [h]
  by_cases e : (l.lookup z).isSome = true
  · rw [if_pos e, List.length_map]; omega
  · rw [if_neg e, List.length_append, List.length_map, List.length_singleton]
    exact Nat.le_refl _
theorem aput_mem {l : List (Str × α)} {z : Str} {n : α} {p : Str × α} (h : p ∈ aput l z n) : p ∈ l ∨ p = (z, n) := by
  unfold aput at h
  by_cases e : (l.lookup z).isSome = true
  · rw [if_pos e] at h
    obtain ⟨q, hq, rfl⟩ := List.mem_map.mp h
    by_cases e : q.1 = z
    · rw [if_pos e]; exact .inr (by rw [e])
    · rw [if_neg e]; exact .inl hq
  · rw [if_neg e] at h
    rcases List.mem_append.mp h with h | h
    · exact .inl h
    · exact .inr (List.mem_singleton.mp h)
end

abbrev Part := Bool × Int
def kd (b : Bool) : Str := if b then Str.ofString "set" else Str.ofString "add"
def pt (p : Part) : List V := [.str (kd p.1), .int p.2]
def pd (p : Part) : PyData := .tuple [.str (kd p.1), .int p.2]
theorem kd_sgn (b : Bool) : Sgn (kd b) := by
  intro c hc
  cases b with
  | true =>
    have e : cs (kd true) = [115, 101, 116] := by decide +kernel
    rw [e] at hc
    simp at hc
    omega
  | false =>
    have e : cs (kd false) = [97, 100, 100] := by decide +kernel
    rw [e] at hc
    simp at hc
    omega
theorem kd_inj {a b : Bool} (h : kd a = kd b) : a = b := by
  cases a <;> cases b
  · rfl
  · exact absurd h (by decide +kernel)
  · exact absurd h (by decide +kernel)
  · rfl
theorem pd_shaped (p : Part) : SeqAt.shaped (pd p) = true := shaped_pair (kd_sgn p.1) p.2
theorem pd_dp {K : PySem.W.Frag} {H : Hp} {a : Addr} {p : Part} (h : SqT K H a (pt p)) : Dp K H (.ref a) (pd p) := .tup h (.cons (.str _) (.cons (.int _) .nil))
theorem pd_eqv (p q : Part) : PyData.eqv (pd p) (pd q) = decide (p = q) := by
  have e : PyData.eqv (pd p) (pd q) = (decide (kd p.1 = kd q.1) && (decide (p.2 = q.2) && true)) := by
    unfold pd
    simp only [PyData.eqv, PyData.eqvAll]
    rw [show (kd p.1 == kd q.1) = decide (kd p.1 = kd q.1) from Bool.beq_eq_decide_eq .., show (p.2 == q.2) = decide (p.2 = q.2) from Bool.beq_eq_decide_eq ..]
  rw [e]
  by_cases h : p = q
  · rw [h]; simp
  · rw [decide_eq_false h]
    by_cases h1 : kd p.1 = kd q.1
    · have : p.2 ≠ q.2 := fun e => h (Prod.ext (kd_inj h1) e)
      simp [this]
    · simp [h1]
def PtR (K : PySem.W.Frag) (H : Hp) (r : Str × V) (p : Str × Part) : Prop := r.1 = p.1 ∧ ∃ a, r.2 = .ref a ∧ SqT K H a (pt p.2)
/-- the dict at d holds the parts l -/
def PtsAt (K : PySem.W.Frag) (H : Hp) (rl : List (Str × V)) (l : List (Str × Part)) : Prop := Paired (PtR K H) rl l
section
variable {K : PySem.W.Frag} {H H' : Hp} {rl rm : List (Str × V)} {l m : List (Str × Part)} {z : Str} {a : Addr} {p : Part}
theorem PtsAt.keep (h : PtsAt K H rl l) (c : ∀ a xs, SqT K H a xs → SqT K H' a xs) : PtsAt K H' rl l := Paired.mapP h fun r p ⟨e, a, f, g⟩ => ⟨e, a, f, c _ _ g⟩
theorem PtsAt.same (h : PtsAt K H rl l) (c : Same H H') : PtsAt K H' rl l := h.keep fun _ _ g => Same.sqt c g
theorem PtsAt.keys (h : PtsAt K H rl l) : rl.map (·.1) = l.map (·.1) := by
  unfold PtsAt at h
  induction h with
  | nil => rfl
  | cons h _ ih => rw [List.map_cons, List.map_cons, ih, h.1]
theorem PtsAt.len (h : PtsAt K H rl l) : rl.length = l.length := Paired.length h
theorem PtsAt.val (h : PtsAt K H rl l) (z : Str) : (l.lookup z = none ∧ sVal rl z = none) ∨ ∃ p a, l.lookup z = some p ∧ sVal rl z = some (.ref a) ∧ SqT K H a (pt p) := by
  unfold PtsAt at h
  induction h with
  | nil => exact .inl ⟨rfl, rfl⟩
  | @cons r q rs qs h _ ih =>
    obtain ⟨e, a, f, g⟩ := h
    by_cases hz : r.1 = z
    · refine .inr ⟨q.2, a, ?_, ?_, g⟩
      · rw [List.lookup_cons, ← e, hz, beq_self_eq_true]
      · rw [sVal_cons, if_pos hz, f]
    · rw [List.lookup_cons, ← e, beq_eq_false_iff_ne.mpr (Ne.symm hz), sVal_cons, if_neg hz]
      exact ih
theorem PtsAt.has (h : PtsAt K H rl l) (z : Str) : (sVal rl z).isSome = (l.lookup z).isSome := by
  rcases h.val z with ⟨e1, e2⟩ | ⟨p, a, e1, e2, _⟩ <;> rw [e1, e2] <;> rfl
theorem PtsAt.snoc (h : PtsAt K H rl l) (g : SqT K H a (pt p)) : PtsAt K H (rl ++ [(z, .ref a)]) (l ++ [(z, p)]) := by
  unfold PtsAt at h ⊢
  induction h with
  | nil => exact .cons ⟨rfl, a, rfl, g⟩ .nil
  | cons h _ ih => exact .cons h ih
theorem PtsAt.repl (h : PtsAt K H rl l) (g : SqT K H a (pt p)) : PtsAt K H (rl.map fun r => if r.1 = z then (r.1, V.ref a) else r) (l.map fun q => if q.1 = z then (q.1, p) else q) := by
  unfold PtsAt at h ⊢
  induction h with
  | nil => exact .nil
  | @cons r q rs qs h _ ih =>
    refine .cons ?_ ih
    show PtR K H (if r.1 = z then (r.1, V.ref a) else r) (if q.1 = z then (q.1, p) else q)
    obtain ⟨e, b, f, k⟩ := h
    by_cases hz : r.1 = z
    · rw [if_pos hz, if_pos (by rw [← e]; exact hz)]
      exact ⟨e, a, rfl, g⟩
    · rw [if_neg hz, if_neg (by rw [← e]; exact hz)]
      exact ⟨e, b, f, k⟩
theorem PtsAt.put (h : PtsAt K H rl l) (g : SqT K H a (pt p)) : PtsAt K H (sPut rl z (.ref a)) (aput l z p) := by
  unfold sPut aput
  rw [h.has z]
  by_cases e : (l.lookup z).isSome = true
  · rw [if_pos e, if_pos e]; exact h.repl g
  · rw [if_neg e, if_neg e]; exact h.snoc g
theorem PtsAt.at (h : PtsAt K H rl l) {i : Nat} {v : V} (e : rl[i]? = some (z, v)) : ∃ p b, v = .ref b ∧ l[i]? = some (z, p) ∧ SqT K H b (pt p) := by
  unfold PtsAt at h
  induction h generalizing i with
  | nil => simp at e
  | @cons r q rs qs h _ ih =>
    cases i with
    | zero =>
      have e : r = (z, v) := Option.some.inj e
      subst e
      obtain ⟨e1, b, f, g⟩ := h
      exact ⟨q.2, b, f, congrArg some (Prod.ext e1.symm rfl), g⟩
    | succ i => exact ih e
/-- the part at a name, no part being ("add", 0) -/
def pAt (l : List (Str × Part)) (z : Str) : Part := (l.lookup z).getD (false, 0)
/-- without ("add", 0) -/
def pz (l : List (Str × Part)) : List (Str × Part) := l.filter fun q => decide (q.2 ≠ (false, 0))
theorem pz_sub (l : List (Str × Part)) : (pz l).Sublist l := List.filter_sublist ..
theorem pz_nodup (h : (l.map (·.1)).Nodup) : ((pz l).map (·.1)).Nodup := h.sublist ((pz_sub l).map _)
theorem pz_ok (l : List (Str × Part)) : ∀ q ∈ pz l, q.2 ≠ (false, 0) := fun q hq => of_decide_eq_true (List.mem_filter.mp hq).2
theorem pz_at (h : (l.map (·.1)).Nodup) (z : Str) : pAt (pz l) z = pAt l z := by
  unfold pAt
  cases e : (pz l).lookup z with
  | some k => rw [al_of h ((pz_sub l).mem (al_mem e))]
  | none =>
    cases e2 : l.lookup z with
    | none => rfl
    | some k =>
      by_cases hk : k = (false, 0)
      · rw [hk]; rfl
      · have q : (z, k) ∈ pz l := List.mem_filter.mpr ⟨al_mem e2, decide_eq_true hk⟩
        rw [al_of (pz_nodup h) q] at e
        cases e
theorem pz_yes {i : Nat} (h : l[i]? = some (z, p)) (hk : p ≠ (false, 0)) : pz (l.take (i + 1)) = pz (l.take i) ++ [(z, p)] := by
  unfold pz
  rw [List.take_add_one, h, List.filter_append]
  congr 1
  show List.filter _ [(z, p)] = _
  rw [List.filter_cons, if_pos (decide_eq_true hk)]
  rfl
theorem pz_no {i : Nat} (h : l[i]? = some (z, p)) (hk : p = (false, 0)) : pz (l.take (i + 1)) = pz (l.take i) := by
  unfold pz
  rw [List.take_add_one, h, List.filter_append]
  show _ ++ List.filter _ [(z, p)] = _
  rw [List.filter_cons, if_neg (by simp [hk])]
  exact List.append_nil _
theorem p_fresh (hn : (l.map (·.1)).Nodup) {i : Nat} (h : l[i]? = some (z, p)) : z ∉ (l.take i).map (·.1) := by
  intro m
  rw [List.map_take] at m
  obtain ⟨j, hj, e⟩ := List.mem_iff_getElem.mp m
  rw [List.length_take, List.length_map] at hj
  have e1 : (l.map (·.1))[j]? = some z := by
    rw [List.getElem_take] at e
    rw [← e]
    exact List.getElem?_eq_getElem _
  have e2 : (l.map (·.1))[i]? = some z := by rw [List.getElem?_map, h]; rfl
  have q := nd_ix hn e1 e2
  omega
/-- first, then second -/
def pj (p q : Part) : Part := if q.1 then q else (p.1, p.2 + q.2)
def jn (l m : List (Str × Part)) : List (Str × Part) := m.foldl (fun acc q => aput acc q.1 (pj (pAt acc q.1) q.2)) l
theorem pAt_put (l : List (Str × Part)) (z y : Str) (p : Part) : pAt (aput l z p) y = if y = z then p else pAt l y := by
  unfold pAt
  rw [aput_look]
  by_cases e : y = z
  · rw [if_pos e, if_pos e]; rfl
  · rw [if_neg e, if_neg e]
theorem jn_at : ∀ (m l : List (Str × Part)) (y : Str), (m.map (·.1)).Nodup → pAt (jn l m) y = pj (pAt l y) (pAt m y)
  | [], l, y, _ => by
    show pAt l y = pj (pAt l y) (false, 0)
    unfold pj
    rw [if_neg (by simp)]
    show pAt l y = ((pAt l y).1, (pAt l y).2 + 0)
    rw [Int.add_zero]
  | q :: m, l, y, hn => by
    have hn : (q.1 :: m.map (·.1)).Nodup := hn
    obtain ⟨n1, n2⟩ := List.nodup_cons.mp hn
    show pAt (jn (aput l q.1 (pj (pAt l q.1) q.2)) m) y = _
    rw [jn_at m _ y n2, pAt_put]
    have hm : pAt (q :: m) y = if y = q.1 then q.2 else pAt m y := by
      unfold pAt
      rw [List.lookup_cons]
      by_cases e : y = q.1
      · rw [if_pos e, e, beq_self_eq_true]; rfl
      · rw [if_neg e, beq_eq_false_iff_ne.mpr e]
    rw [hm]
    by_cases e : y = q.1
    · rw [if_pos e, if_pos e, e]
      have h0 : pAt m q.1 = (false, 0) := by
        unfold pAt
        rw [al_none.mpr n1]
        rfl
      rw [h0]
      generalize pj (pAt l q.1) q.2 = w
      unfold pj
      rw [if_neg (by simp)]
      show (w.1, w.2 + 0) = w
      rw [Int.add_zero]
    · rw [if_neg e, if_neg e]
theorem jn_nodup : ∀ (m l : List (Str × Part)), (l.map (·.1)).Nodup → ((jn l m).map (·.1)).Nodup
  | [], _, h => h
  | q :: m, l, h => jn_nodup m _ (aput_nodup _ _ h)
theorem jn_mem : ∀ (m l : List (Str × Part)) {q : Str × Part}, q ∈ jn l m → q.1 ∈ l.map (·.1) ∨ q.1 ∈ m.map (·.1)
  | [], l, q, h => .inl (List.mem_map.mpr ⟨q, h, rfl⟩)
  | r :: m, l, q, h => by
    rcases jn_mem m _ h with h | h
    · obtain ⟨s, hs, e⟩ := List.mem_map.mp h
      rcases aput_mem hs with k | k
      · exact .inl (List.mem_map.mpr ⟨s, k, e⟩)
      · exact .inr (by rw [← e, k]; exact List.mem_cons_self ..)
    · exact .inr (List.mem_cons_of_mem _ h)
end
/-- names with parts, strictly rising, those of l that are not ("add", 0) -/
structure SortP (l ps : List (Str × Part)) : Prop where
  rise : Rise (ps.map (·.1))
  mem : ∀ z k, (z, k) ∈ ps ↔ (pAt l z = k ∧ k ≠ (false, 0))
theorem rise_nodup {l : List Str} (h : Rise l) : l.Nodup := h.imp fun {x y} h e => by rw [e, lt_irr] at h; cases h
theorem assoc_eq {α : Type} {ps qs : List (Str × α)} (a : Rise (ps.map (·.1))) (b : Rise (qs.map (·.1))) (mm : ∀ z k, (z, k) ∈ ps ↔ (z, k) ∈ qs) : ps = qs := by
  have hk : ps.map (·.1) = qs.map (·.1) := rise_eq a b fun z => by
    constructor
    · intro hz
      obtain ⟨p, hp, e⟩ := List.mem_map.mp hz
      exact List.mem_map.mpr ⟨p, (mm p.1 p.2).mp hp, e⟩
    · intro hz
      obtain ⟨p, hp, e⟩ := List.mem_map.mp hz
      exact List.mem_map.mpr ⟨p, (mm p.1 p.2).mpr hp, e⟩
  have nd := rise_nodup b
  have hl : ps.length = qs.length := by
    have := congrArg List.length hk
    rw [List.length_map, List.length_map] at this
    exact this
  refine List.ext_getElem? fun i => ?_
  cases e1 : ps[i]? with
  | none => rw [List.getElem?_eq_none_iff.mpr (by have := List.getElem?_eq_none_iff.mp e1; omega)]
  | some p =>
    have hp : (p.1, p.2) ∈ qs := (mm p.1 p.2).mp (List.mem_of_getElem? e1)
    have hi : i < qs.length := by have := (List.getElem?_eq_some_iff.mp e1).1; omega
    have e2 := List.getElem?_eq_getElem hi
    have e3 : (qs[i]).1 = p.1 := by
      have h1 : (ps.map (·.1))[i]? = some p.1 := by rw [List.getElem?_map, e1]; rfl
      rw [hk, List.getElem?_map, e2] at h1
      exact Option.some.inj h1
    have q1 := al_of nd (List.mem_of_getElem? e2 : (qs[i].1, qs[i].2) ∈ qs)
    have q2 := al_of nd hp
    rw [e3, q2] at q1
    rw [e2]
    exact congrArg some (Prod.ext e3.symm (Option.some.inj q1))
theorem SortP.uniq {l m ps qs : List (Str × Part)} (a : SortP l ps) (b : SortP m qs) (h : ∀ z, pAt l z = pAt m z) : ps = qs :=
  assoc_eq a.rise b.rise fun z k => by rw [a.mem, b.mem, h]
theorem sortp_of {l : List (Str × Part)} (hn : (l.map (·.1)).Nodup) {ys : List Str} (hr : Rise ys) (hm : ∀ z, z ∈ ys ↔ z ∈ l.map (·.1)) :
    SortP l ((ys.map fun z => (z, pAt l z)).filter fun q => decide (q.2 ≠ (false, 0))) := by
  refine ⟨?_, fun z k => ?_⟩
  · have h1 : ((ys.map fun z => (z, pAt l z)).map (·.1)) = ys := by
      rw [List.map_map]
      exact List.map_id _
    have h2 : (((ys.map fun z => (z, pAt l z)).filter fun q => decide (q.2 ≠ (false, 0))).map (·.1)).Sublist ys := by
      have := (List.filter_sublist (l := ys.map fun z => (z, pAt l z)) (p := fun q => decide (q.2 ≠ (false, 0)))).map (·.1)
      rw [h1] at this
      exact this
    exact hr.sublist h2
  · rw [List.mem_filter, List.mem_map]
    constructor
    · rintro ⟨⟨y, hy, e⟩, h2⟩
      have e1 : y = z := congrArg Prod.fst e
      have e2 : pAt l y = k := congrArg Prod.snd e
      exact ⟨by rw [← e1]; exact e2, of_decide_eq_true h2⟩
    · rintro ⟨h1, h2⟩
      refine ⟨⟨z, (hm z).mpr ?_, by rw [h1]⟩, decide_eq_true h2⟩
      cases q : l.lookup z with
      | none => unfold pAt at h1; rw [q] at h1; exact (h2 h1.symm).elim
      | some v => exact List.mem_map.mpr ⟨_, al_mem q, rfl⟩
end M
namespace M
open PySem PySem.Spec PyProof.Rows L2
def gDG (x y : V) (H : Hp) (Q : VK) : Prop := ∃ a v, x = .ref a ∧ DGet H a y (some v) ∧ Q v H
def gIsD (x : V) (H : Hp) (P : Addr → Prop) : Prop := ∃ a, x = .ref a ∧ IsD H a ∧ P a
def gD2 (a : Addr) (y z : V) (H : Hp) (Q : VK) : Prop := ∃ o, DGet H a y o ∧ Q (o.getD z) H
def gDI (f : Bool → Bool) (y x : V) (H : Hp) (Q : VK) : Prop := ∃ a o, x = .ref a ∧ DGet H a y o ∧ Q (.bl (f o.isSome)) H
def gFld (K : PySem.W.Frag) (f : Str) (x : V) (H : Hp) (Q : VK) : Prop := ∃ a C dx fs v, x = .ref a ∧ H a = some (.ins C dx fs) ∧ Cls K C ∧ NoAttr K C f ∧ fs.lookup f = some v ∧ Q v H
section
variable {σ : L2.St} {H : Hp} {Q : VK} {v : V} {i : Nat} {ta tb tc : TE} {r : R2} {D : Ends} {t u : TS} {g : TG} {tt tu : TT} {R : Bool → Hp → Prop} {tas : TA} {B : Prop}
theorem x_var (h : σ[i]? = some (some v)) (q : Q v H) : tVar i σ H Q := ⟨v, h, q⟩
theorem x_c (q : Q v H) : tC v σ H Q := q
theorem x_op (q : ta σ H fun x H1 => tb σ H1 fun y H2 => r x y H2 Q) : tOp r ta tb σ H Q := q
theorem x_un {r : V → Hp → VK → Prop} (q : ta σ H fun x H1 => r x H1 Q) : tUn r ta σ H Q := q
theorem x_cb {r : List V → Hp → VK → Prop} (q : tas σ H fun vs H1 => r vs H1 Q) : tCB r tas σ H Q := q
theorem x_nil {Q : List V → Hp → Prop} (q : Q [] H) : tNil σ H Q := q
theorem x_cons {Q : List V → Hp → Prop} (q : ta σ H fun x H1 => tas σ H1 fun xs H2 => Q (x :: xs) H2) : tCons ta tas σ H Q := q
theorem x_if (q : tt σ H fun c H1 => if c = true then ta σ H1 Q else tb σ H1 Q) : tIf tt ta tb σ H Q := q
theorem x_test (q : ta σ H fun x H' => ∃ k, x = .bl k ∧ R k H') : tTest ta σ H R := q
theorem x_B (q : ta σ H fun x H' => ∃ k, x = .bl k ∧ R k H') : tB ta σ H R := q
theorem x_and (q : tt σ H fun c H1 => if c = true then tu σ H1 R else R false H1) : tAnd tt tu σ H R := q
theorem x_or (q : tt σ H fun c H1 => if c = true then R true H1 else tu σ H1 R) : tOr tt tu σ H R := q
theorem x_not (q : tt σ H fun c H1 => R (!c) H1) : tNot tt σ H R := q
theorem x_andV (q : ta σ H fun x H1 => ∃ c, x = .bl c ∧ if c = true then tb σ H1 Q else Q (.bl false) H1) : tAndV ta tb σ H Q := q
theorem x_orV (q : ta σ H fun x H1 => ∃ c, x = .bl c ∧ if c = true then Q (.bl true) H1 else tb σ H1 Q) : tOrV ta tb σ H Q := q
theorem x_notV (q : ta σ H fun x H1 => ∃ c, x = .bl c ∧ Q (.bl (!c)) H1) : tNotV ta σ H Q := q
theorem x_call {sp : Sp} {dvs : List V} {E : XK} (q : tas σ H fun vs H1 => sp (vs ++ dvs) H1 Q E) : tCall sp dvs E tas σ H Q := q
theorem x_sl {r : V → Option Int → Option Int → Hp → VK → Prop} {tl th : TO} (q : ta σ H fun x H1 => tl σ H1 fun l H2 => th σ H2 fun u H3 => r x l u H3 Q) : tSl r ta tl th σ H Q := q
theorem x_nopart {Q : Option Int → Hp → Prop} (q : Q none H) : tNoPart σ H Q := q
theorem x_part {Q : Option Int → Hp → Prop} (q : ta σ H fun x H1 => ∃ i, x = .int i ∧ Q (some i) H1) : tPart ta σ H Q := q
theorem x_dget (q : ta σ H fun x H1 => tb σ H1 fun y H2 => gDG x y H2 Q) : tDGet ta tb σ H Q := q
theorem x_dget2 (q : ta σ H fun x H1 => gIsD x H1 fun a => tb σ H1 fun y H2 => tc σ H2 fun z H3 => gD2 a y z H3 Q) : tDGet2 ta tb tc σ H Q := q
theorem x_din (q : ta σ H fun y H1 => tb σ H1 fun x H2 => gDI id y x H2 Q) : tDIn ta tb σ H Q := q
theorem x_dnin (q : ta σ H fun y H1 => tb σ H1 fun x H2 => gDI not y x H2 Q) : tDNotIn ta tb σ H Q := q
theorem x_dnew (q : ∀ p H', H p = none → H' p = some (.dK []) → Same H H' → Q (.ref p) H') : tDNewK σ H Q := fun p np => q p _ np upd_same (same_new np)
theorem x_fld {K : PySem.W.Frag} {f : Str} (q : ta σ H fun x H1 => gFld K f x H1 Q) : tFld K ta f σ H Q := q
theorem x_bm {K : PySem.W.Frag} {T : String} {r : V → List V → Hp → VK → Prop} (q : ta σ H fun x H1 => tyV K T x H1 ∧ tas σ H1 fun xs H2 => r x xs H2 Q) : tBM K T r ta tas σ H Q := q
theorem x_bm0 {K : PySem.W.Frag} {T : String} {r : V → List V → Hp → VK → Prop} (q : ta σ H fun x H1 => tyV K T x H1 ∧ r x [] H1 Q) : tBM0 K T r ta σ H Q := q
/- statements -/
theorem x_seq (q : t { D with nx := u D } σ H) : tSeq t u D σ H := q
theorem x_next (q : D.nx σ H) : tNext D σ H := q
theorem x_asg (q : ta σ H fun x H1 => g x σ H1 D.nx) : tAsg ta g D σ H := q
theorem x_name {Q : L2.St → Hp → Prop} (q : Q (σ.set i (some v)) H) : gName i v σ H Q := q
theorem x_drop (q : ta σ H fun _ H1 => D.nx σ H1) : tDrop ta D σ H := q
theorem x_ret (q : ta σ H D.rt) : tRet ta D σ H := q
theorem x_retN (q : D.rt .non H) : tRetN D σ H := q
theorem x_ifs (q : tt σ H fun b H1 => if b = true then t D σ H1 else u D σ H1) : tIfS tt t u D σ H := q
/- operators -/
theorem x_I0 {f : Int → Int → V} {i j : Int} (q : Q (f i j) H) : rI0 f (.int i) (.int j) H Q := ⟨i, j, rfl, rfl, q⟩
theorem x_I {f : Int → Int → V} {C : Int → Int → Prop} {i j : Int} (c : C i j) (q : Q (f i j) H) : rI C f (.int i) (.int j) H Q := ⟨i, j, rfl, rfl, c, q⟩
theorem x_U {f : Int → V} {i : Int} (q : Q (f i) H) : rU f (.int i) H Q := ⟨i, rfl, q⟩
theorem x_eqI {i j : Int} (q : Q (.bl (decide (i = j))) H) : rEq (.int i) (.int j) H Q := ⟨rfl, by
  have e : decide (V.int i = V.int j) = decide (i = j) := by by_cases h : i = j; · rw [h]; simp
                                                             · rw [decide_eq_false h, decide_eq_false (fun e => h (V.int.inj e))]
  rw [e]; exact q⟩
theorem x_eqS {i j : Str} (q : Q (.bl (decide (i = j))) H) : rEq (.str i) (.str j) H Q := ⟨rfl, by
  have e : decide (V.str i = V.str j) = decide (i = j) := by by_cases h : i = j; · rw [h]; simp
                                                             · rw [decide_eq_false h, decide_eq_false (fun e => h (V.str.inj e))]
  rw [e]; exact q⟩
theorem x_neI {i j : Int} (q : Q (.bl (!decide (i = j))) H) : rNe (.int i) (.int j) H Q := ⟨rfl, by
  have e : decide (V.int i = V.int j) = decide (i = j) := by by_cases h : i = j; · rw [h]; simp
                                                             · rw [decide_eq_false h, decide_eq_false (fun e => h (V.int.inj e))]
  rw [e]; exact q⟩
theorem x_neS {i j : Str} (q : Q (.bl (!decide (i = j))) H) : rNe (.str i) (.str j) H Q := ⟨rfl, by
  have e : decide (V.str i = V.str j) = decide (i = j) := by by_cases h : i = j; · rw [h]; simp
                                                             · rw [decide_eq_false h, decide_eq_false (fun e => h (V.str.inj e))]
  rw [e]; exact q⟩
theorem x_eqB {i j : Bool} (q : Q (.bl (i == j)) H) : rEq (.bl i) (.bl j) H Q := ⟨rfl, by
  have e : decide (V.bl i = V.bl j) = (i == j) := by cases i <;> cases j <;> decide
  rw [e]; exact q⟩
theorem x_neB {i j : Bool} (q : Q (.bl (i != j)) H) : rNe (.bl i) (.bl j) H Q := ⟨rfl, by
  have e : (!decide (V.bl i = V.bl j)) = (i != j) := by cases i <;> cases j <;> decide
  rw [e]; exact q⟩
theorem x_itT {A : Prop} (q : A) : if true = true then A else B := q
theorem x_itF {A : Prop} (q : B) : if false = true then A else B := q
theorem x_kb {b : Bool} {P : Bool → Prop} (q : P b) : ∃ k, V.bl b = V.bl k ∧ P k := ⟨b, rfl, q⟩
theorem x_ki {b : Int} {P : Int → Prop} (q : P b) : ∃ k, V.int b = V.int k ∧ P k := ⟨b, rfl, q⟩
theorem x_ks {b : Str} {P : Str → Prop} (q : P b) : ∃ k, V.str b = V.str k ∧ P k := ⟨b, rfl, q⟩
theorem x_ka {b : Addr} {P : Addr → Prop} (q : P b) : ∃ k, V.ref b = V.ref k ∧ P k := ⟨b, rfl, q⟩
end
end M
namespace M
open PySem PySem.Spec PyProof.Rows L2
section
variable {K : PySem.W.Frag} {H H' : Hp} {Q : VK} {v y : V} {p a d : Addr} {xs ys : List V} {i : Int} {l : List (Str × V)} {z : Str} {o : HO} {C dx : Addr} {fs : List (Str × V)} {f : Str}
theorem x_ixT (h : SqT K H p xs) (e : atI xs i = some v) (q : Q v H) : rIxT K (.ref p) (.int i) H Q := ⟨p, xs, i, v, rfl, rfl, h, e, q⟩
theorem x_ixL (h : SqL K H p xs) (e : atI xs i = some v) (q : Q v H) : rIxL K (.ref p) (.int i) H Q := ⟨p, xs, i, v, rfl, rfl, h, e, q⟩
theorem x_lenL (h : SqL K H p xs) (q : Q (.int xs.length) H) : rLenQ K [.ref p] H Q := ⟨p, xs, rfl, .inl h, q⟩
theorem x_lenT (h : SqT K H p xs) (q : Q (.int xs.length) H) : rLenQ K [.ref p] H Q := ⟨p, xs, rfl, .inr h, q⟩
theorem x_gDG (h : Rd H d (.dK (sk l))) (e : sVal l z = some v) (q : Q v H) : gDG (.ref d) (.str z) H Q := ⟨d, v, rfl, e ▸ dget_s z h, q⟩
theorem x_gD2 (h : Rd H d (.dK (sk l))) (q : Q ((sVal l z).getD y) H) : gD2 d (.str z) y H Q := ⟨_, dget_s z h, q⟩
theorem x_isd (h : Rd H d (.dK (sk l))) : IsD H d := .inl ⟨_, h⟩
theorem x_gDI (h : Rd H d (.dK (sk l))) (q : Q (.bl (sVal l z).isSome) H) : gDI id (.str z) (.ref d) H Q := ⟨d, _, rfl, dget_s z h, q⟩
theorem x_gDN (h : Rd H d (.dK (sk l))) (q : Q (.bl (!(sVal l z).isSome)) H) : gDI not (.str z) (.ref d) H Q := ⟨d, _, rfl, dget_s z h, q⟩
theorem x_gIsD {P : Addr → Prop} (h : Rd H d (.dK (sk l))) (q : P d) : gIsD (.ref d) H P := ⟨d, rfl, .inl ⟨_, h⟩, q⟩
theorem x_gFld (h : H a = some (.ins C dx fs)) (c : Cls K C) (n : NoAttr K C f) (e : fs.lookup f = some v) (q : Q v H) : gFld K f (.ref a) H Q := ⟨a, C, dx, fs, v, rfl, h, c, n, e, q⟩
theorem x_app (h : H p = some (.lst xs)) (hl : xs.length < 1000) (q : ∀ H', H' p = some (.lst (xs ++ [y])) → Chg [p] H H' → Q .non H') : rAppend (.ref p) [y] H Q := ⟨p, xs, y, rfl, rfl, h, small1000 (by omega), q _ upd_same (Chg.set (by simp))⟩
theorem x_new {Q : V → Hp → Prop} (q : ∀ p H', H p = none → H' p = some o → Same H H' → Q (.ref p) H') : ∀ p, H p = none → Q (.ref p) (upd H p o) := fun p np => q p _ np upd_same (same_new np)
theorem x_len2 {R : Prop} {a b : V} (q : R) : [a, b].length ≤ sizeLine ∧ R := ⟨by show 2 ≤ sizeLine; decide, q⟩
theorem x_len3 {R : Prop} {a b c : V} (q : R) : [a, b, c].length ≤ sizeLine ∧ R := ⟨by show 3 ≤ sizeLine; decide, q⟩
theorem x_len1 {R : Prop} {a : V} (q : R) : [a].length ≤ sizeLine ∧ R := ⟨by show 1 ≤ sizeLine; decide, q⟩
theorem x_len0 {R : Prop} (q : R) : ([] : List V).length ≤ sizeLine ∧ R := ⟨by show 0 ≤ sizeLine; decide, q⟩
theorem same_at (s : Same H H') (h : H a = some o) : H' a = some o := s _ _ h
theorem chg_at {S : List Addr} (c : Chg S H H') (n : a ∉ S) (h : H a = some o) : H' a = some o := c _ _ n h
theorem sqt_of (h : H a = some (.tup xs)) : SqT K H a xs := .inl (.inl h)
theorem sql_of (h : H a = some (.lst xs)) : SqL K H a xs := .inl (.inl h)
theorem rd_of (h : H a = some o) : Rd H a o := .inl h
theorem ty_l (h : SqL K H p xs) : tyV K "list" (.ref p) H := .inl ⟨rfl, _, h⟩
theorem Same.rd (s : Same H H') (h : Rd H a o) : Rd H' a o := h.elim (fun h => .inl (s _ _ h)) fun ⟨u, h⟩ => .inr ⟨u, s _ _ h⟩
end
end M
namespace M
open PySem PySem.Spec PyProof.Rows L2
section
variable {K : PySem.W.Frag} {H H' : Hp} {Q : VK} {v y : V} {p a d : Addr} {xs ys : List V} {i : Int} {l : List (Str × V)} {z : Str} {o : HO} {C dx : Addr} {fs : List (Str × V)} {f : Str}
theorem x_isiL (h : H p = some (.lst xs)) (q : Q (.bl true) H) : rIsi K [.ref p, .ty "list"] H Q := ⟨_, _, _, _, true, rfl, .ty "list", .base (.lst h), kit_ty (by decide +kernel), q⟩
theorem x_isiT (h : H p = some (.tup xs)) (q : Q (.bl true) H) : rIsi K [.ref p, .ty "tuple"] H Q := ⟨_, _, _, _, true, rfl, .ty "tuple", .base (.tup h), kit_ty (by decide +kernel), q⟩
theorem x_isiS (q : Q (.bl true) H) : rIsi K [.str z, .ty "str"] H Q := ⟨_, _, _, _, true, rfl, .ty "str", .base (.str _), kit_ty (by decide +kernel), q⟩
end
end M
namespace M
open PySem PySem.Spec PyProof.Rows L2
theorem kd_set (b : Bool) : decide (kd b = Str.ofString "set") = b := by cases b <;> decide +kernel
theorem kd_add (b : Bool) : decide (kd b = Str.ofString "add") = !b := by cases b <;> decide +kernel
end M
namespace M
open PySem PySem.Spec PyProof.Rows L2
theorem x_make {C : Addr} {sp : Sp} {dvs : List V} {E : XK} {tas : TA} {σ : L2.St} {H : Hp} {Q : VK} (q : tas σ H fun vs H1 => ∀ x dx, H1 x = none → H1 dx = none → dx ≠ x → sp (.ref x :: (vs ++ dvs)) (upd (upd H1 dx (.own x)) x (.ins C dx [])) (fun v H2 => v = .non ∧ Q (.ref x) H2) E) : tMake C sp dvs E tas σ H Q := q
theorem x_meth {C : Addr} {m : Str} {sp : Sp} {dvs : List V} {E : XK} {ta : TE} {tas : TA} {σ : L2.St} {H : Hp} {Q : VK} (q : ta σ H fun x H1 => ∃ a dx fs, x = .ref a ∧ H1 a = some (.ins C dx fs) ∧ fs.lookup m = none ∧ tas σ H1 fun vs H2 => sp (x :: (vs ++ dvs)) H2 Q E) : tMeth C m sp dvs E ta tas σ H Q := q
/-- the heap behind a lock is the heap ahead of it, but for what is at P -/
theorem same_unlock {H H1 H' : Hp} {d P : Addr} {f u : HO} (s1 : Same H H1) (hP : H P = none) (hd : H1 d = some u) (c : Chg [P] (upd H1 d f) H') : Same H (upd H' d u) := fun b o e => by
  by_cases hb : b = d
  · rw [hb, upd_same, ← hd, ← hb]; exact s1 _ _ e
  · rw [upd_ne hb]
    have nP : b ≠ P := ne_of_none e hP
    exact c b o (by simpa using nP) (by rw [upd_ne hb]; exact s1 _ _ e)
/-- tuples behind a lock, a store at P -/
theorem tup_lock {K : PySem.W.Frag} {H : Hp} {d : Addr} {f u : HO} (hd : H d = some u) (hu : ∀ xs, u ≠ .tup xs) (hf : ∀ g xs, u ≠ .frz g (.tup xs)) {b : Addr} {xs : List V} (g : SqT K H b xs) : SqT K (upd H d f) b xs := by
  rcases g with (g | ⟨o, g⟩) | g
  · exact .inl (.inl (by rw [upd_ne (ne_of g hd (fun e => hu _ e.symm))]; exact g))
  · exact .inl (.inr ⟨o, by rw [upd_ne (ne_of g hd (fun e => hf _ _ e.symm))]; exact g⟩)
  · exact .inr g
end M
namespace M
theorem x_itNT {A B : Prop} (q : B) : if (!true) = true then A else B := q
theorem x_itNF {A B : Prop} (q : A) : if (!false) = true then A else B := q
theorem x_itDT {A B p : Prop} [Decidable p] (h : p) (q : A) : if decide p = true then A else B := by rw [if_pos (decide_eq_true h)]; exact q
theorem x_itDF {A B p : Prop} [Decidable p] (h : ¬ p) (q : B) : if decide p = true then A else B := by rw [if_neg (by rw [decide_eq_false h]; exact Bool.false_ne_true)]; exact q
theorem x_itNDT {A B p : Prop} [Decidable p] (h : p) (q : B) : if (!decide p) = true then A else B := by rw [decide_eq_true h]; exact q
theorem x_itNDF {A B p : Prop} [Decidable p] (h : ¬ p) (q : A) : if (!decide p) = true then A else B := by rw [decide_eq_false h]; exact q
end M
namespace M
open PySem PySem.Spec PyProof.Rows L2
/-- a new object -/
def nw (H : Hp) (o : HO) (Q : VK) : Prop := ∀ p H', H p = none → H' p = some o → Same H H' → Q (.ref p) H'
theorem nw_upd {H : Hp} {o : HO} {Q : VK} (q : nw H o Q) : ∀ p, H p = none → Q (.ref p) (upd H p o) := fun p np => q p _ np upd_same (same_new np)
def uTup (t : TA) : TE := fun σ H Q => t σ H fun xs H1 => xs.length ≤ sizeLine ∧ nw H1 (.tup xs) Q
def uLst (t : TA) : TE := fun σ H Q => t σ H fun xs H1 => xs.length ≤ sizeLine ∧ nw H1 (.lst xs) Q
section
variable {X : Cx} {K : PySem.W.Frag} {σ : L2.St} {H : Hp} {Q : VK} {tas : TA} {es : List Expr} {pos : Pos} {te : TE}
theorem pe_up {e : Expr} {t u : TE} (h : PE X e t) (i : ∀ σ H Q, u σ H Q → t σ H Q) : PE X e u := ⟨fun pins s σ H Q I hw => h.run pins s σ H Q I (i σ H Q hw)⟩
theorem x_tup (q : tas σ H fun xs H1 => xs.length ≤ sizeLine ∧ nw H1 (.tup xs) Q) : uTup tas σ H Q := q
theorem x_lst (q : tas σ H fun xs H1 => xs.length ≤ sizeLine ∧ nw H1 (.lst xs) Q) : uLst tas σ H Q := q
theorem x_nw {o : HO} (q : ∀ p H', H p = none → H' p = some o → Same H H' → Q (.ref p) H') : nw H o Q := q
end
end M
namespace M
open PySem PySem.Spec PyProof.Rows L2
section
variable {X : Cx} {K : PySem.W.Frag}
def cloA (t : TA) : TA := fun σ H R => ∃ R0 : List V → Hp → Prop, t σ H R0 ∧ ∀ xs H1, R0 xs H1 → R xs H1
theorem pa_clo {es : List Expr} {t : TA} (h : PA X es t) : PA X es (cloA t) := ⟨fun pos pins s σ H Q I ⟨R0, h0, i0⟩ => thn (h.run pos pins s σ H R0 I h0) fun us s' ⟨vs, H', I', r, q⟩ => ⟨vs, H', I', r, i0 _ _ q⟩⟩
theorem pe_tupN {es : List Expr} {t : TA} {pos : Pos} {x1} (h : PA X es t) : PE X (.Tuple es x1 pos) (uTup t) := pe_up (pe_tup (pa_clo h)) fun σ H Q q => ⟨_, q, fun xs H1 ⟨a, b⟩ => ⟨a, nw_upd b⟩⟩
theorem pe_lstN {es : List Expr} {t : TA} {pos : Pos} (h : PA X es t) : PE X (.List es pos) (uLst t) := pe_up (pe_lst (pa_clo h)) fun σ H Q q => ⟨_, q, fun xs H1 ⟨a, b⟩ => ⟨a, nw_upd b⟩⟩
theorem callR_up {f : Value} {r r' : List V → Hp → VK → Prop} (h : CallR X f r) (i : ∀ xs H Q, r' xs H Q → r xs H Q) : CallR X f r' := fun pins s σ H xs us Q I v q => h pins s σ H xs us Q I v (i _ _ _ q)
theorem opR_up {f : Value → Value → Sem Value} {r r' : R2} (h : OpR X f r) (i : ∀ x y H Q, r' x y H Q → r x y H Q) : OpR X f r' := fun pins s σ H x y v u Q I a b q => h pins s σ H x y v u Q I a b (i _ _ _ _ q)
theorem slR_up {r r' : V → Option Int → Option Int → Hp → VK → Prop} (h : SlR X r) (i : ∀ x lo hi H Q, r' x lo hi H Q → r x lo hi H Q) : SlR X r' := fun pins s σ H x v vl vu lo hi sl Q I a b c d q => h pins s σ H x v vl vu lo hi sl Q I a b c d (i _ _ _ _ _ q)
def nDict : List V → Hp → VK → Prop := fun xs H Q => ∃ a kvs, xs = [.ref a] ∧ Rd H a (.dK kvs) ∧ nw H (.dK kvs) Q
theorem call_dictN : CallR X (.type "dict") nDict := callR_up call_dict fun xs H Q ⟨a, kvs, e, h, q⟩ => ⟨a, kvs, e, h, nw_upd q⟩
theorem x_dict {H : Hp} {Q : VK} {a : Addr} {kvs : List (Key × V)} (h : Rd H a (.dK kvs)) (q : nw H (.dK kvs) Q) : nDict [.ref a] H Q := ⟨a, kvs, rfl, h, q⟩
def nList (K : PySem.W.Frag) : List V → Hp → VK → Prop := fun xs H Q => ∃ p ys, xs = [.ref p] ∧ (SqL K H p ys ∨ SqT K H p ys) ∧ nw H (.lst ys) Q
theorem listKN (h : X.K = K) : CallR X (.type "list") (nList K) := callR_up (listK h) fun xs H Q ⟨a, kvs, e, h, q⟩ => ⟨a, kvs, e, h, nw_upd q⟩
theorem x_list {H : Hp} {Q : VK} {a : Addr} {ys : List V} (h : SqL K H a ys) (q : nw H (.lst ys) Q) : nList K [.ref a] H Q := ⟨a, ys, rfl, .inl h, q⟩
def nCat (K : PySem.W.Frag) : R2 := fun x y H Q => ∃ l b xs zs, x = .ref l ∧ y = .ref b ∧ Rd H l (.lst xs) ∧ Rd H b (.lst zs) ∧ xs.length + zs.length ≤ sizeLine ∧ nw H (.lst (xs ++ zs)) Q
theorem op_catN : OpR X (binaryOp .Add) (nCat K) := opR_up op_catR fun x y H Q ⟨l, b, xs, zs, e1, e2, h1, h2, h3, q⟩ => ⟨l, b, xs, zs, e1, e2, h1, h2, h3, nw_upd q⟩
theorem x_cat {H : Hp} {Q : VK} {l b : Addr} {xs zs : List V} (h1 : Rd H l (.lst xs)) (h2 : Rd H b (.lst zs)) (h3 : xs.length + zs.length ≤ 1000) (q : nw H (.lst (xs ++ zs)) Q) : nCat K (.ref l) (.ref b) H Q := ⟨l, b, xs, zs, rfl, rfl, h1, h2, Nat.le_of_lt (small1000 (by omega)), q⟩
def nSlL (K : PySem.W.Frag) : V → Option Int → Option Int → Hp → VK → Prop := fun x lo hi H Q => ∃ a xs, x = .ref a ∧ SqL K H a xs ∧ nw H (.lst (cutV xs lo hi)) Q
theorem slLN (h : X.K = K) : SlR X (nSlL K) := slR_up (slLK h) fun x lo hi H Q ⟨a, xs, e, h, q⟩ => ⟨a, xs, e, h, nw_upd q⟩
theorem x_slL {H : Hp} {Q : VK} {a : Addr} {ys : List V} {lo hi : Option Int} (h : SqL K H a ys) (q : nw H (.lst (cutV ys lo hi)) Q) : nSlL K (.ref a) lo hi H Q := ⟨a, ys, rfl, h, q⟩
def nSort (K : PySem.W.Frag) : List V → Hp → VK → Prop := fun vs H Q => ∃ (a : Addr) (xs : List Str), vs = [V.ref a] ∧ SqL K H a (xs.map V.str) ∧ xs.length < 64 ∧ ∀ (ys : List Str) (p : Addr) H', ys.Perm xs → sortedS ys = true → H p = none → H' p = some (.lst (ys.map V.str)) → Same H H' → Q (.ref p) H'
theorem sortN (h : X.K = K) : CallR X (.builtin "sorted") (nSort K) := callR_up (sortSK h) fun vs H Q ⟨a, xs, e, h, l, q⟩ => ⟨a, xs, e, h, l, fun ys p hp hs np => q ys p _ hp hs np upd_same (same_new np)⟩
theorem x_sort {H : Hp} {Q : VK} {a : Addr} {xs : List Str} (h : SqL K H a (xs.map V.str)) (hl : xs.length < 64) (q : ∀ (ys : List Str) (p : Addr) H', ys.Perm xs → sortedS ys = true → H p = none → H' p = some (.lst (ys.map V.str)) → Same H H' → Q (.ref p) H') : nSort K [.ref a] H Q := ⟨a, xs, rfl, h, hl, q⟩
end
theorem ni1 {a b : Addr} (h : a ≠ b) : a ∉ [b] := by simpa using h
theorem ni0 {a : Addr} : a ∉ ([] : List Addr) := by simp
theorem ne_nk {H H' : Hp} {a b : Addr} {o : HO} (h : H' a = some o) (n : H' b = none) : a ≠ b := ne_of_none h n
section
variable {K : PySem.W.Frag} {σ : L2.St} {H H1 : Hp} {Q : VK} {te : TE} {tt : TT} {vs : List Nat} {g : TG}
/-- te at x gives some y with Φ D x y, which speaks of nothing that stands at D, laying only new things -/
theorem lc_pure {a : Addr} {xs : List V} {j : Nat} (c : V → Bool) (Φ : Addr → V → V → Hp → Prop) (hx : SqL K H1 a xs) (hlen : xs.length ≤ 1000)
    (hw : ∀ x, wipe ((wipe σ vs).set j (some x)) vs = wipe σ vs) (mono : ∀ D x y H H', Chg [D] H H' → Φ D x y H → Φ D x y H')
    (ht : ∀ x H2, x ∈ xs → Same H1 H2 → ∀ R : Bool → Hp → Prop, (∀ H3, Same H2 H3 → R (c x) H3) → tt ((wipe σ vs).set j (some x)) H2 R)
    (he : ∀ D l x H2, x ∈ xs → c x = true → H1 D = none → H2 D = some (.lst l) → Same H1 H2 → ∀ R : VK, (∀ y H3, Same H2 H3 → Φ D x y H3 → R y H3) → te ((wipe σ vs).set j (some x)) H2 R)
    (q : ∀ D ys H', H1 D = none → H' D = some (.lst ys) → Same H1 H' → Paired (fun x y => Φ D x y H') (xs.filter c) ys → Q (.ref D) H') :
    ∀ D, H1 D = none → ∃ W : Nat → Nat → Hp → Prop, (∃ m, W 0 m (upd H1 D (.lst []))) ∧ ∀ i m H, W i m H →
      ((Itl K a).stop i H ∧ Q (.ref D) H) ∨ ((Itl K a).go i H ∧ ∃ Nx : Hp → Prop, (∀ H', Nx H' → ∃ m', m' < m ∧ W (i + 1) m' H') ∧ ∀ x H', (Itl K a).yld i H x H' → gName j x (wipe σ vs) H' fun σ2 H2 => wipe σ2 vs = wipe σ vs ∧ tt σ2 H2 fun b H3 =>
        if b = true then te σ2 H3 fun y H4 => ∃ acc, H4 D = some (.lst acc) ∧ acc.length < sizeLine ∧ Nx (upd H4 D (.lst (acc ++ [y]))) else Nx H3) := by
  intro D nD
  have key : ∀ (i : Nat) x, xs[i]? = some x → (xs.take (i + 1)).filter c = (xs.take i).filter c ++ [x].filter c := fun i x hi => by
    rw [List.take_add_one, hi, List.filter_append]
    rfl
  refine lc_list (K := K) (a := a) (xs := xs) (fun i H' => Same H1 H' ∧ ∃ ys, H' D = some (.lst ys) ∧ Paired (fun x y => Φ D x y H') ((xs.take i).filter c) ys) ⟨same_new nD, [], upd_same, .nil⟩ (fun i H' _ p => p.1.seq hx) (fun i x H' hi p => ?_) (fun H' p => ?_)
  · obtain ⟨s, ys, hD, ps⟩ := p
    have hm : x ∈ xs := List.mem_of_getElem? hi
    have hlt : i < xs.length := (List.getElem?_eq_some_iff.mp hi).1
    refine ⟨hw x, ht x _ hm s _ fun H3 s3 => ?_⟩
    have hD3 := s3 _ _ hD
    cases hc : c x with
    | false =>
      rw [if_neg Bool.false_ne_true]
      refine ⟨s.trans s3, ys, hD3, ?_⟩
      rw [key i x hi, List.filter_cons, hc]
      show Paired _ (_ ++ []) _
      rw [List.append_nil]
      exact Paired.mapP ps fun u v h => mono _ _ _ _ _ (Chg.same s3 _) h
    | true =>
      rw [if_pos rfl]
      refine he D ys x _ hm hc nD hD3 (s.trans s3) _ fun y H4 s4 hy => ?_
      have hl : ys.length ≤ i := by
        have h1 := Paired.length ps
        have h2 := List.length_filter_le c (xs.take i)
        rw [List.length_take] at h2
        omega
      refine ⟨ys, s4 _ _ hD3, small1000 (by omega), Same.put ((s.trans s3).trans s4) nD, ys ++ [y], upd_same, ?_⟩
      rw [key i x hi, List.filter_cons, hc]
      refine Paired.snoc (Paired.mapP ps fun u v h => mono _ _ _ _ _ ((Chg.same (s3.trans s4) _).trans (Chg.set (by simp))) h) (mono _ _ _ _ _ (Chg.set (by simp)) hy)
  · obtain ⟨s, ys, hD, ps⟩ := p
    rw [List.take_length] at ps
    exact q D ys _ nD hD s ps
end
end M
namespace M
open PySem PySem.Spec PyProof.Rows L2
def TupY (f : V → List V) (D : Addr) (x y : V) (H : Hp) : Prop := ∃ q, y = .ref q ∧ q ≠ D ∧ H q = some (.tup (f x))
theorem tups_of {f : V → List V} {D : Addr} {H : Hp} {xs ys : List V} (h : Paired (fun x y => TupY f D x y H) xs ys) : ∃ qs : List Addr, ys = qs.map V.ref ∧ TupsAt H qs (xs.map f) := by
  induction h with
  | nil => exact ⟨[], rfl, .nil⟩
  | @cons x y xs ys h _ ih =>
    obtain ⟨q, rfl, _, hq⟩ := h
    obtain ⟨qs, rfl, ts⟩ := ih
    refine ⟨q :: qs, rfl, by rw [List.length_cons, List.map_cons, List.length_cons, ts.1], fun i r t a b => ?_⟩
    cases i with
    | zero => cases a; cases b; exact hq
    | succ i => exact ts.2 i r t a b
section
variable {K : PySem.W.Frag} {σ : L2.St} {H H1 : Hp} {Q : VK} {te : TE} {tt : TT} {vs : List Nat} {g : TG}
theorem lc_tupN {a : Addr} {xs : List V} {j : Nat} (f : V → List V) (c : V → Bool) (hx : SqL K H1 a xs) (hlen : xs.length ≤ 1000)
    (hw : ∀ x, wipe ((wipe σ vs).set j (some x)) vs = wipe σ vs)
    (ht : ∀ x H2, x ∈ xs → Same H1 H2 → ∀ R : Bool → Hp → Prop, (∀ H3, Same H2 H3 → R (c x) H3) → tt ((wipe σ vs).set j (some x)) H2 R)
    (he : ∀ x H2, x ∈ xs → c x = true → Same H1 H2 → ∀ R : VK, (∀ q H3, H2 q = none → Same H2 H3 → H3 q = some (.tup (f x)) → R (.ref q) H3) → te ((wipe σ vs).set j (some x)) H2 R)
    (q : ∀ D qs H', H1 D = none → Same H1 H' → H' D = some (.lst (qs.map V.ref)) → TupsAt H' qs ((xs.filter c).map f) → Q (.ref D) H') :
    ∀ D, H1 D = none → ∃ W : Nat → Nat → Hp → Prop, (∃ m, W 0 m (upd H1 D (.lst []))) ∧ ∀ i m H, W i m H →
      ((Itl K a).stop i H ∧ Q (.ref D) H) ∨ ((Itl K a).go i H ∧ ∃ Nx : Hp → Prop, (∀ H', Nx H' → ∃ m', m' < m ∧ W (i + 1) m' H') ∧ ∀ x H', (Itl K a).yld i H x H' → gName j x (wipe σ vs) H' fun σ2 H2 => wipe σ2 vs = wipe σ vs ∧ tt σ2 H2 fun b H3 =>
        if b = true then te σ2 H3 fun y H4 => ∃ acc, H4 D = some (.lst acc) ∧ acc.length < sizeLine ∧ Nx (upd H4 D (.lst (acc ++ [y]))) else Nx H3) := by
  refine lc_pure c (TupY f) hx hlen hw (fun D x y H H' c h => ?_) ht (fun D l x H2 hm hc n hD s R r => ?_) (fun D ys H' n hD s ps => ?_)
  · obtain ⟨p, e, n, h⟩ := h
    exact ⟨p, e, n, c _ _ (by simpa using n) h⟩
  · exact he x H2 hm hc s R fun p H3 np s3 h3 => r _ _ s3 ⟨p, rfl, (ne_of_none hD np).symm, h3⟩
  · obtain ⟨qs, rfl, ts⟩ := tups_of ps
    exact q D qs H' n s hD ts
end
end M
namespace M
open PySem PySem.Spec PyProof.Rows L2
theorem lk1 {f : Str} {v : V} {r : List (Str × V)} : ((f, v) :: r).lookup f = some v := by rw [List.lookup_cons, beq_self_eq_true]
theorem dgs {H : Hp} {d : Addr} {l : List (Str × V)} {z : Str} {v : V} (h : Rd H d (.dK (sk l))) (e : sVal l z = some v) : DGet H d (.str z) (some v) := e ▸ dget_s z h
end M
namespace M
open PySem PySem.Spec PyProof.Rows L2
theorem dput_g {H : Hp} {a : Addr} {l : List (Str × V)} (z : Str) (v : V) (h : H a = some (.dK (sk l))) (hl : l.length < 1000) : ∃ H', DPut H a (.str z) v H' ∧ H' a = some (.dK (sk (sPut l z v))) ∧ Chg [a] H H' := ⟨_, dput_s z v h (small1000 (by omega)), upd_same, Chg.set (by simp)⟩
theorem x_dput {td tk tv : TE} {D : Ends} {σ : L2.St} {H : Hp} (q : tv σ H fun v H1 => td σ H1 fun x H2 => tk σ H2 fun y H3 => ∃ a H', x = .ref a ∧ DPut H3 a y v H' ∧ D.nx σ H') : sDPut td tk tv D σ H := q
end M
namespace M
open PySem L2
theorem ne_kn {H : Hp} {a b : Addr} {o : HO} (n : H b = none) (h : H a = some o) : a ≠ b := ne_of_none h n
theorem kinds_at {d : Int} (h0 : 0 ≤ d) (h3 : d < 3) : ∃ b, atI [V.str (Str.ofString "add"), V.str (Str.ofString "set"), V.str (Str.ofString "add")] d = some (.str (kd b)) := by
  have : d = 0 ∨ d = 1 ∨ d = 2 := by omega
  rcases this with rfl | rfl | rfl
  · exact ⟨false, rfl⟩
  · exact ⟨true, rfl⟩
  · exact ⟨false, rfl⟩
end M
namespace M
open PySem L2
theorem sqt_chg {K : PySem.W.Frag} {H H' : Hp} {a b : Addr} {o : HO} {ys : List V} (c : Chg [a] H H') (h : H a = some o) (n1 : ∀ xs, o ≠ .tup xs) (n2 : ∀ f xs, o ≠ .frz f (.tup xs)) (g : SqT K H b ys) : SqT K H' b ys := by
  rcases g with (g | ⟨f, g⟩) | g
  · exact .inl (.inl (c _ _ (ni1 (ne_of g h (fun e => n1 _ e.symm))) g))
  · exact .inl (.inr ⟨f, c _ _ (ni1 (ne_of g h (fun e => n2 _ _ e.symm))) g⟩)
  · exact .inr g
theorem sqt_L {K : PySem.W.Frag} {H H' : Hp} {a b : Addr} {xs ys : List V} (c : Chg [a] H H') (h : H a = some (.lst xs)) (g : SqT K H b ys) : SqT K H' b ys := sqt_chg c h (by intros; intro z; cases z) (by intros; intro z; cases z) g
theorem sqt_D {K : PySem.W.Frag} {H H' : Hp} {a b : Addr} {kvs : List (Key × V)} {ys : List V} (c : Chg [a] H H') (h : H a = some (.dK kvs)) (g : SqT K H b ys) : SqT K H' b ys := sqt_chg c h (by intros; intro z; cases z) (by intros; intro z; cases z) g
theorem sqt_I {K : PySem.W.Frag} {H H' : Hp} {a b : Addr} {C dx : Addr} {fs : List (Str × V)} {ys : List V} (c : Chg [a] H H') (h : H a = some (.ins C dx fs)) (g : SqT K H b ys) : SqT K H' b ys := sqt_chg c h (by intros; intro z; cases z) (by intros; intro z; cases z) g
end M
namespace M
open PySem PySem.Spec PyProof.Rows L2
section
variable {K : PySem.W.Frag} {σ : L2.St} {H : Hp} {Q : VK} {te td : TE} {tt : TT} {vs : List Nat} {d : Addr} {l : List (Str × V)} {i j : Nat}
theorem lck_pure (c : Str → Bool) (Φ : Addr → Str → V → Hp → Prop) (hv : σ[i]? = some (some (.ref d))) (hd : H d = some (.dK (sk l))) (hl : l.length ≤ 1000)
    (hw : ∀ x, wipe ((wipe σ vs).set j (some x)) vs = wipe σ vs) (mono : ∀ D x y H H', Chg [D, d] H H' → Φ D x y H → Φ D x y H')
    (ht : ∀ od z v H2, (z, v) ∈ l → Chg [d] H H2 → H2 d = some (.frz od (.dK (sk l))) → ∀ R : Bool → Hp → Prop, (∀ H3, Same H2 H3 → R (c z) H3) → tt ((wipe σ vs).set j (some (.str z))) H2 R)
    (he : ∀ od D al z v H2, (z, v) ∈ l → c z = true → H D = none → D ≠ d → H2 D = some (.lst al) → Chg [d] H H2 → H2 d = some (.frz od (.dK (sk l))) → ∀ R : VK, (∀ y H3, Same H2 H3 → Φ D z y H3 → R y H3) → te ((wipe σ vs).set j (some (.str z))) H2 R)
    (q : ∀ D ys H', H D = none → H' D = some (.lst ys) → Same H H' → Paired (fun x y => Φ D x y H') ((l.map (·.1)).filter c) ys → Q (.ref D) H') :
    tLockE (tLc (iKeys (tVar i)) (gName j) tt te vs) σ H Q := by
  refine ⟨d, _, hd, True.intro, fun od => ⟨.ref d, hv, d, od, rfl, .inl ⟨sk l, upd_same, fun D nD => ?_⟩⟩⟩
  have nDa : D ≠ d := fun e => by rw [e, upd_same] at nD; cases nD
  have nH : H D = none := by rw [upd_ne nDa] at nD; exact nD
  have key : ∀ (i : Nat) z v, l[i]? = some (z, v) → ((l.take (i + 1)).map (·.1)).filter c = ((l.take i).map (·.1)).filter c ++ [z].filter c := fun i z v hi => by
    rw [List.take_add_one, hi, List.map_append, List.filter_append]
    rfl
  have c0 : Chg [d] H (upd H d (.frz od (.dK (sk l)))) := Chg.set (by simp)
  refine lc_keys (fun i H' => Chg [d] H H' ∧ H' d = some (.frz od (.dK (sk l))) ∧ ∃ ys, H' D = some (.lst ys) ∧ Paired (fun x y => Φ D x y H') (((l.take i).map (·.1)).filter c) ys) ⟨c0.trans (Chg.same (same_new nD) _), by rw [upd_ne nDa.symm, upd_same], [], upd_same, .nil⟩ (fun i H' _ p => p.2.1) (fun i k v H' hk p => ?_) (fun H' p => ?_)
  · obtain ⟨z, rfl, hz⟩ := sk_get hk
    obtain ⟨s, hf, ys, hD, ps⟩ := p
    have hm : (z, v) ∈ l := List.mem_of_getElem? hz
    have hlt : i < l.length := (List.getElem?_eq_some_iff.mp hz).1
    refine ⟨hw _, ht od z v _ hm s hf _ fun H3 s3 => ?_⟩
    have hD3 := s3 _ _ hD
    have sub : ∀ {H4 : Hp} (s4 : Same H' H4), Chg [D, d] H' H4 := fun s4 => Chg.same s4 _
    cases hc : c z with
    | false =>
      rw [if_neg Bool.false_ne_true]
      refine ⟨s.trans (Chg.same s3 _), s3 _ _ hf, ys, hD3, ?_⟩
      rw [key i z v hz, List.filter_cons, hc]
      show Paired _ (_ ++ []) _
      rw [List.append_nil]
      exact Paired.mapP ps fun u v h => mono _ _ _ _ _ (Chg.same s3 _) h
    | true =>
      rw [if_pos rfl]
      refine he od D ys z v _ hm hc nH nDa hD3 (s.trans (Chg.same s3 _)) (s3 _ _ hf) _ fun y H4 s4 hy => ?_
      have hl : ys.length ≤ i := by
        have h1 := Paired.length ps
        have h2 := List.length_filter_le c ((l.take i).map (·.1))
        rw [List.length_map, List.length_take] at h2
        omega
      have hf4 := s4 _ _ (s3 _ _ hf)
      refine ⟨ys, s4 _ _ hD3, small1000 (by omega), ?_, by rw [upd_ne nDa.symm]; exact hf4, ys ++ [y], upd_same, ?_⟩
      · exact ((s.trans (Chg.same s3 _)).trans (Chg.same s4 _)).put nH
      · rw [key i z v hz, List.filter_cons, hc]
        refine Paired.snoc (Paired.mapP ps fun u v h => mono _ _ _ _ _ ((Chg.same (s3.trans s4) _).trans (Chg.set (by simp))) h) (mono _ _ _ _ _ (Chg.set (by simp)) hy)
  · obtain ⟨s, hf, ys, hD, ps⟩ := p
    rw [sk_len, List.take_length] at ps
    refine ⟨hf, ?_⟩
    have s2 : Same H (upd H' d (.dK (sk l))) := fun b o e => by
      by_cases hb : b = d
      · rw [hb, upd_same, ← hd, ← hb]; exact e
      · rw [upd_ne hb]; exact s b o (ni1 hb) e
    exact q D ys _ nH (by rw [upd_ne nDa]; exact hD) s2 (Paired.mapP ps fun u v h => mono _ _ _ _ _ (Chg.set (by simp)) h)
theorem paired_str {f : Str → V} : ∀ {xs : List Str} {ys : List V}, Paired (fun x y => y = f x) xs ys → ys = xs.map f
  | _, _, .nil => rfl
  | _, _, .cons h t => by rw [h, paired_str t]; rfl
/-- [str(n) for n in d] -/
theorem lck_strs (hv : σ[i]? = some (some (.ref d))) (hd : H d = some (.dK (sk l))) (hl : l.length ≤ 1000) (hw : ∀ x, wipe ((wipe σ vs).set j (some x)) vs = wipe σ vs)
    (he : ∀ z H2 (R : VK), R (.str z) H2 → te ((wipe σ vs).set j (some (.str z))) H2 R)
    (q : ∀ D H', H D = none → H' D = some (.lst ((l.map (·.1)).map V.str)) → Same H H' → Q (.ref D) H') : tLockE (tLc (iKeys (tVar i)) (gName j) tYes te vs) σ H Q := by
  refine lck_pure (fun _ => true) (fun _ z y _ => y = .str z) hv hd hl hw (fun _ _ _ _ _ _ h => h) (fun od z v H2 _ _ _ R r => r H2 (Same.refl _)) (fun od D al z v H2 _ _ _ _ _ _ _ R r => he z H2 R (r _ _ (Same.refl _) rfl)) fun D ys H' nD hD s ps => ?_
  have e := paired_str ps
  rw [List.filter_eq_self.mpr (by intros; rfl)] at e
  exact q D H' nD (by rw [hD, e]) s
end
end M
namespace M
open PySem PySem.Spec PyProof.Rows L2
section
variable {K : PySem.W.Frag} {σ : L2.St} {H : Hp} {Q : VK} {te tl : TE} {tt : TT} {vs : List Nat} {wi : TI} {g : TG} {tb : TS} {D : Ends} {R : It → Hp → Prop} {n : Nat} {B : Prop}
theorem x_lc (q : wi σ H fun J H1 => ∀ D, H1 D = none → ∃ W : Nat → Nat → Hp → Prop, (∃ m, W 0 m (upd H1 D (.lst []))) ∧ ∀ i m H, W i m H →
  (J.stop i H ∧ Q (.ref D) H) ∨ (J.go i H ∧ ∃ Nx : Hp → Prop, (∀ H', Nx H' → ∃ m', m' < m ∧ W (i + 1) m' H') ∧ ∀ x H', J.yld i H x H' → g x (wipe σ vs) H' fun σ2 H2 => wipe σ2 vs = wipe σ vs ∧ tt σ2 H2 fun b H3 =>
    if b = true then te σ2 H3 fun y H4 => ∃ acc, H4 D = some (.lst acc) ∧ acc.length < sizeLine ∧ Nx (upd H4 D (.lst (acc ++ [y]))) else Nx H3)) : tLc wi g tt te vs σ H Q := q
theorem x_il (q : tl σ H fun x H1 => ∃ a, x = .ref a ∧ (∃ xs, SqL K H1 a xs) ∧ R (Itl K a) H1) : iList K tl σ H R := q
theorem x_itup (q : tl σ H fun x H1 => ∃ a, x = .ref a ∧ (∃ xs, SqT K H1 a xs) ∧ R (Itt K a) H1) : iTup K tl σ H R := q
theorem x_for (q : wi σ H fun J H1 => ∃ W : Nat → Nat → L2.St → Hp → Prop, (∃ m, W 0 m σ H1) ∧ ∀ i m σ H, W i m σ H → (J.stop i H ∧ D.nx σ H) ∨
    (J.go i H ∧ ∃ N : L2.St → Hp → Prop, (∀ σ' H', N σ' H' → ∃ m', m' < m ∧ W (i + 1) m' σ' H') ∧ ∀ x H', J.yld i H x H' → g x σ H' fun σ2 H2 => tb { D with nx := N, ct := N, bk := D.nx } σ2 H2)) : tFor wi g tb D σ H := q
/-- truth known up to a word -/
theorem x_itB {b : Bool} {A B : Prop} (t : b = true → A) (f : b = false → B) : if b = true then A else B := by cases b with | true => exact t rfl | false => exact f rfl
end
end M
namespace M
open PySem PySem.Spec PyProof.Rows L2
/-- a comprehension over the list at a, from here -/
def LcG (K : PySem.W.Frag) (a : Addr) (g : TG) (tt : TT) (te : TE) (vs : List Nat) (σ : L2.St) (H1 : Hp) (Q : VK) : Prop := ∀ D, H1 D = none → ∃ W : Nat → Nat → Hp → Prop, (∃ m, W 0 m (upd H1 D (.lst []))) ∧ ∀ i m H, W i m H →
  ((Itl K a).stop i H ∧ Q (.ref D) H) ∨ ((Itl K a).go i H ∧ ∃ Nx : Hp → Prop, (∀ H', Nx H' → ∃ m', m' < m ∧ W (i + 1) m' H') ∧ ∀ x H', (Itl K a).yld i H x H' → g x (wipe σ vs) H' fun σ2 H2 => wipe σ2 vs = wipe σ vs ∧ tt σ2 H2 fun b H3 =>
    if b = true then te σ2 H3 fun y H4 => ∃ acc, H4 D = some (.lst acc) ∧ acc.length < sizeLine ∧ Nx (upd H4 D (.lst (acc ++ [y]))) else Nx H3)
section
variable {K : PySem.W.Frag} {σ : L2.St} {H H1 : Hp} {Q : VK} {te tl : TE} {tt : TT} {vs : List Nat} {g : TG} {a : Addr} {xs : List V} {j : Nat}
theorem x_lcL (q : tl σ H fun x H1 => ∃ a, x = .ref a ∧ (∃ xs, SqL K H1 a xs) ∧ LcG K a g tt te vs σ H1 Q) : tLc (iList K tl) g tt te vs σ H Q := q
theorem lcP (c : V → Bool) (Φ : Addr → V → V → Hp → Prop) (hx : SqL K H1 a xs) (hlen : xs.length ≤ 1000)
    (hw : ∀ x, wipe ((wipe σ vs).set j (some x)) vs = wipe σ vs) (mono : ∀ D x y H H', Chg [D] H H' → Φ D x y H → Φ D x y H')
    (ht : ∀ x H2, x ∈ xs → Same H1 H2 → ∀ R : Bool → Hp → Prop, (∀ H3, Same H2 H3 → R (c x) H3) → tt ((wipe σ vs).set j (some x)) H2 R)
    (he : ∀ D l x H2, x ∈ xs → c x = true → H1 D = none → H2 D = some (.lst l) → Same H1 H2 → ∀ R : VK, (∀ y H3, Same H2 H3 → Φ D x y H3 → R y H3) → te ((wipe σ vs).set j (some x)) H2 R)
    (q : ∀ D ys H', H1 D = none → H' D = some (.lst ys) → Same H1 H' → Paired (fun x y => Φ D x y H') (xs.filter c) ys → Q (.ref D) H') : LcG K a (gName j) tt te vs σ H1 Q :=
  lc_pure c Φ hx hlen hw mono ht he q
theorem lcT (f : V → List V) (c : V → Bool) (hx : SqL K H1 a xs) (hlen : xs.length ≤ 1000)
    (hw : ∀ x, wipe ((wipe σ vs).set j (some x)) vs = wipe σ vs)
    (ht : ∀ x H2, x ∈ xs → Same H1 H2 → ∀ R : Bool → Hp → Prop, (∀ H3, Same H2 H3 → R (c x) H3) → tt ((wipe σ vs).set j (some x)) H2 R)
    (he : ∀ x H2, x ∈ xs → c x = true → Same H1 H2 → ∀ R : VK, (∀ q H3, H2 q = none → Same H2 H3 → H3 q = some (.tup (f x)) → R (.ref q) H3) → te ((wipe σ vs).set j (some x)) H2 R)
    (q : ∀ D qs H', H1 D = none → Same H1 H' → H' D = some (.lst (qs.map V.ref)) → TupsAt H' qs ((xs.filter c).map f) → Q (.ref D) H') : LcG K a (gName j) tt te vs σ H1 Q :=
  lc_tupN f c hx hlen hw ht he q
/-- values told by the item alone -/
theorem lcV (f : V → V) (c : V → Bool) (hx : SqL K H1 a xs) (hlen : xs.length ≤ 1000)
    (hw : ∀ x, wipe ((wipe σ vs).set j (some x)) vs = wipe σ vs)
    (ht : ∀ x H2, x ∈ xs → Same H1 H2 → ∀ R : Bool → Hp → Prop, (∀ H3, Same H2 H3 → R (c x) H3) → tt ((wipe σ vs).set j (some x)) H2 R)
    (he : ∀ x H2, x ∈ xs → c x = true → Same H1 H2 → ∀ R : VK, (∀ H3, Same H2 H3 → R (f x) H3) → te ((wipe σ vs).set j (some x)) H2 R)
    (q : ∀ D H', H1 D = none → H' D = some (.lst ((xs.filter c).map f)) → Same H1 H' → Q (.ref D) H') : LcG K a (gName j) tt te vs σ H1 Q := by
  refine lcP c (fun _ x y _ => y = f x) hx hlen hw (fun _ _ _ _ _ _ h => h) ht (fun D l x H2 hm hc n hD s R r => he x H2 hm hc s R fun H3 s3 => r _ _ s3 rfl) fun D ys H' nD hD s ps => ?_
  have e : ∀ {us ys : List V}, Paired (fun x y => y = f x) us ys → ys = us.map f := fun ps => by
    induction ps with
    | nil => rfl
    | cons h _ ih => rw [h, ih]; rfl
  exact q D H' nD (by rw [hD, e ps]) s
end
end M
namespace M
open PySem L2
theorem TupsAt.pair {H : Hp} : ∀ {qs : List Addr} {ts : List (List V)}, TupsAt H qs ts → Paired (fun q t => H q = some (.tup t)) qs ts
  | [], [], _ => .nil
  | [], t :: ts, h => by have := h.1; simp at this
  | q :: qs, [], h => by have := h.1; simp at this
  | q :: qs, t :: ts, h => .cons (h.2 0 q t rfl rfl) (TupsAt.pair ⟨by have := h.1; simpa using this, fun i a b e f => h.2 (i + 1) a b e f⟩)
theorem TupsAt.of {H : Hp} {qs : List Addr} {ts : List (List V)} (h : Paired (fun q t => H q = some (.tup t)) qs ts) : TupsAt H qs ts := by
  induction h with
  | nil => exact .nil
  | @cons q t qs ts h _ ih =>
    refine ⟨by rw [List.length_cons, List.length_cons, ih.1], fun i r t a b => ?_⟩
    cases i with
    | zero => cases a; cases b; exact h
    | succ i => exact ih.2 i r t a b
theorem TupsAt.filt {H : Hp} {c : V → Bool} {g : List V → Bool} {qs : List Addr} {ts : List (List V)} (h : TupsAt H qs ts) (hc : ∀ q t, t ∈ ts → H q = some (.tup t) → c (.ref q) = g t) : ∃ qs', (qs.map V.ref).filter c = qs'.map V.ref ∧ TupsAt H qs' (ts.filter g) := by
  replace h := h.pair
  induction h with
  | nil => exact ⟨[], rfl, .nil⟩
  | @cons q t qs ts h _ ih =>
    obtain ⟨qs', e1, e2⟩ := ih fun a u m x => hc a u (List.mem_cons_of_mem _ m) x
    have e := hc q t (List.mem_cons_self ..) h
    rw [List.map_cons, List.filter_cons, List.filter_cons, e]
    cases g t with
    | true =>
      refine ⟨q :: qs', by rw [if_pos rfl, e1]; rfl, ?_⟩
      rw [if_pos rfl]
      exact TupsAt.of (.cons h e2.pair)
    | false =>
      rw [if_neg Bool.false_ne_true, if_neg Bool.false_ne_true]
      exact ⟨qs', e1, e2⟩
theorem TupsAt.look {H : Hp} {qs : List Addr} {ts : List (List V)} (h : TupsAt H qs ts) {v : V} (hv : v ∈ qs.map V.ref) : ∃ a t, v = .ref a ∧ t ∈ ts ∧ H a = some (.tup t) := by
  replace h := h.pair
  induction h with
  | nil => simp at hv
  | @cons q t qs ts h _ ih =>
    rw [List.map_cons, List.mem_cons] at hv
    rcases hv with rfl | hv
    · exact ⟨q, t, rfl, List.mem_cons_self .., h⟩
    · obtain ⟨a, u, e, m, x⟩ := ih hv
      exact ⟨a, u, e, List.mem_cons_of_mem _ m, x⟩
end M
namespace M
open PySem PySem.Spec PyProof.Rows L2
section
variable {K : PySem.W.Frag} {σ : L2.St} {H : Hp} {Q : L2.St → Hp → Prop} {a : Addr} {i j k : Nat} {x y z : V}
theorem x_gt2 (h : SqT K H a [x, y]) (q : Q ((σ.set i (some x)).set j (some y)) H) : gTup K 2 (gCons (gName i) (gCons (gName j) gNil)) (.ref a) σ H Q := ⟨a, _, rfl, h, rfl, x, [y], rfl, y, [], rfl, rfl, q⟩
theorem x_gt3 (h : SqT K H a [x, y, z]) (q : Q (((σ.set i (some x)).set j (some y)).set k (some z)) H) : gTup K 3 (gCons (gName i) (gCons (gName j) (gCons (gName k) gNil))) (.ref a) σ H Q := ⟨a, _, rfl, h, rfl, x, [y, z], rfl, y, [z], rfl, z, [], rfl, rfl, q⟩
end
end M
namespace M
open PySem PySem.Spec PyProof.Rows L2
theorem pgT {X : Cx} {K : PySem.W.Frag} (h : X.K = K) {es : List Expr} {k : Nat} {t : TGs} {n : Nat} {pos : Pos} (hc : X.calm = true) (hg : PGs X es t) (hn : (assignEach es X.env).length = n := by rfl) (hst : (assignEach es X.env).findIdx? (·.1) = none := by rfl) : PG X (.Tuple es k pos) (gTup K n t) := by
  subst h
  exact pg_tup hc hg hn hst
end M
namespace M
open PySem PySem.Spec PyProof.Rows L2
theorem for_sk {d : Addr} {o : Obj} {l : List (Str × V)} {g : TG} {tb : TS} {D : Ends} {σ : L2.St} {H : Hp} (Pv : Nat → L2.St → Hp → Prop) (h0 : Pv 0 σ H) (hl : ∀ i σ H, i ≤ l.length → Pv i σ H → H d = some (.frz o (.dK (sk l))))
    (hs : ∀ i z v σ H, l[i]? = some (z, v) → Pv i σ H → g (.str z) σ H fun σ2 H2 => tb { D with nx := Pv (i + 1), ct := Pv (i + 1), bk := D.nx } σ2 H2) (hd : ∀ σ H, Pv l.length σ H → D.nx σ H) :
    ∃ W : Nat → Nat → L2.St → Hp → Prop, (∃ m, W 0 m σ H) ∧ ∀ i m σ H, W i m σ H →
      ((Itk d o (sk l)).stop i H ∧ D.nx σ H) ∨ ((Itk d o (sk l)).go i H ∧ ∃ N : L2.St → Hp → Prop, (∀ σ' H', N σ' H' → ∃ m', m' < m ∧ W (i + 1) m' σ' H') ∧ ∀ x H', (Itk d o (sk l)).yld i H x H' → g x σ H' fun σ2 H2 => tb { D with nx := N, ct := N, bk := D.nx } σ2 H2) :=
  for_keys Pv h0 (fun i σ H h => hl i σ H (by rw [sk_len] at h; exact h)) (fun i k v σ H hk p => by
    obtain ⟨z, rfl, hz⟩ := sk_get hk
    exact hs i z v σ H hz p) (fun σ H p => hd σ H (by rw [sk_len] at p; exact p))
end M
namespace M
open L2
theorem x_oN {A B : Prop} (q : B) : if (none : Option V).isSome = true then A else B := q
theorem x_oS {v : V} {A B : Prop} (q : A) : if (some v).isSome = true then A else B := q
theorem x_noN {A B : Prop} (q : A) : if (!(none : Option V).isSome) = true then A else B := q
theorem x_noS {v : V} {A B : Prop} (q : B) : if (!(some v).isSome) = true then A else B := q
end M
namespace M
open PySem PySem.Spec PyProof.Rows L2
def gRng (vs : List V) (H : Hp) (R : It → Hp → Prop) : Prop := ∃ j : Int, vs = [.int j] ∧ -(2 ^ 62) ≤ j ∧ j < 2 ^ 62 ∧ R (Itr 0 j.toNat) H
def gRng2 (vs : List V) (H : Hp) (R : It → Hp → Prop) : Prop := ∃ i j : Int, vs = [.int i, .int j] ∧ (-(2 ^ 62) ≤ i ∧ i < 2 ^ 62 ∧ -(2 ^ 62) ≤ j ∧ j < 2 ^ 62) ∧ R (Itr i (j - i).toNat) H
theorem x_rng1 {ta : TA} {σ : L2.St} {H : Hp} {R : It → Hp → Prop} (q : ta σ H fun vs H1 => gRng vs H1 R) : iRng1 ta σ H R := q
theorem x_rng2 {ta : TA} {σ : L2.St} {H : Hp} {R : It → Hp → Prop} (q : ta σ H fun vs H1 => gRng2 vs H1 R) : iRng2 ta σ H R := q
end M
namespace M
open PySem PySem.Spec PyProof.Rows L2
theorem x_neD_same {K : PySem.W.Frag} {H : Hp} {x y : V} {d : PyData} {Q : VK} (h1 : Dp K H x d) (h2 : Dp K H y d) (sd : SeqAt.shaped d = true) (q : Q (.bl false) H) : rNeD K x y H Q := ⟨d, d, h1, h2, sd, sd, by rw [SeqAt.eqv_refl _ (SeqAt.canLay_of_shaped sd)]; exact q⟩
theorem x_eqD_same {K : PySem.W.Frag} {H : Hp} {x y : V} {d : PyData} {Q : VK} (h1 : Dp K H x d) (h2 : Dp K H y d) (sd : SeqAt.shaped d = true) (q : Q (.bl true) H) : rEqD K x y H Q := ⟨d, d, h1, h2, sd, sd, by rw [SeqAt.eqv_refl _ (SeqAt.canLay_of_shaped sd)]; exact q⟩
end M
namespace M
open PySem PySem.Spec PyProof.Rows L2
def gIsC (C : Addr) : List V → Hp → VK → Prop := fun xs H Q => ∃ a dx fs, xs = [.ref a, .ref C] ∧ H a = some (.ins C dx fs) ∧ Q (.bl true) H
theorem call_isCN {X : Cx} {C : Addr} (c : C8.InsC X.K C) : CallR X (.builtin "isinstance") (gIsC C) := C8.call_isC c
theorem x_isC {C : Addr} {H : Hp} {Q : VK} {a dx : Addr} {fs : List (Str × V)} (h : H a = some (.ins C dx fs)) (q : Q (.bl true) H) : gIsC C [.ref a, .ref C] H Q := ⟨a, dx, fs, rfl, h, q⟩
end M
namespace M
theorem nf_self {K : PySem.W.Frag} {C : PySem.Addr} : PySem.W.notFirst K C (.ref C) = true := by
  unfold PySem.W.notFirst
  rw [show (PySem.Value.ref C == PySem.Value.ref C) = true from beq_self_eq_true _]
  rfl
end M
namespace M
open PySem PySem.Spec PyProof.Rows L2
theorem lk0 {m f : Str} {v : V} (h : (m == f) = false) : [(f, v)].lookup m = none := by rw [List.lookup_cons, h]; rfl
def gMeth (C : Addr) (m : Str) (x : V) (H : Hp) (P : Prop) : Prop := ∃ a dx fs, x = .ref a ∧ H a = some (.ins C dx fs) ∧ fs.lookup m = none ∧ P
section
variable {C : Addr} {m : Str} {sp : Sp} {dvs : List V} {E : XK} {ta : TE} {tas : TA} {σ : L2.St} {H : Hp} {Q : VK} {a dx b dy C' : Addr} {fs gs : List (Str × V)} {B : Prop} {K : PySem.W.Frag} {y : V}
theorem x_methG (q : ta σ H fun x H1 => gMeth C m x H1 (tas σ H1 fun vs H2 => sp (x :: (vs ++ dvs)) H2 Q E)) : tMeth C m sp dvs E ta tas σ H Q := q
theorem x_gMeth (h : H a = some (.ins C dx fs)) (e : fs.lookup m = none) (q : B) : gMeth C m (.ref a) H B := ⟨a, dx, fs, rfl, h, e, q⟩
theorem x_ownLen (h : H a = some (.ins C dx fs)) (q : sp [.ref a] H (fun r H' => ∃ n : Int, r = .int n ∧ (0 ≤ n ∧ n < 2 ^ 63) ∧ Q (.int n) H') E0) : rOwnLen C sp [.ref a] H Q := ⟨a, dx, fs, rfl, h, q⟩
theorem x_own (h : H a = some (.ins C dx fs)) (q : sp [.ref a, y] H Q E0) : rOwn C sp (.ref a) y H Q := ⟨a, dx, fs, rfl, h, q⟩
theorem x_ownC (h : H a = some (.ins C dx fs)) (h2 : H b = some (.ins C dy gs)) (q : sp [.ref a, .ref b] H Q E0) : rOwnC K C sp (.ref a) (.ref b) H Q := ⟨a, dx, fs, b, C, dy, gs, rfl, rfl, h, h2, nf_self, q⟩
theorem x_ownB (h : H a = some (.ins C dx fs)) (h2 : H b = some (.ins C dy gs)) (q : sp [.ref a, .ref b] H Q E0) : rOwnB C sp (.ref a) (.ref b) H Q := ⟨a, dx, fs, b, dy, gs, rfl, rfl, h, h2, q⟩
theorem x_ownIn (h : H a = some (.ins C dx fs)) (q : sp [.ref a, y] H (fun r H' => ∃ b, r = .bl b ∧ Q (.bl b) H') E0) : rOwnIn C sp false y (.ref a) H Q := ⟨a, dx, fs, rfl, h, q⟩
theorem x_ownNin (h : H a = some (.ins C dx fs)) (q : sp [.ref a, y] H (fun r H' => ∃ b, r = .bl b ∧ Q (.bl (!b)) H') E0) : rOwnIn C sp true y (.ref a) H Q := ⟨a, dx, fs, rfl, h, q⟩
end
end M
namespace M
open PySem PySem.Spec PyProof.Rows L2
theorem bmK {X : Cx} {K : PySem.W.Frag} {e : Expr} {T : String} {r : V → List V → Hp → VK → Prop} {to : TE} {t : TA} (hk : X.K = K) (h : PE X e (tBM X.K T r to t)) : PE X e (tBM K T r to t) := by subst hk; exact h
theorem bm0K {X : Cx} {K : PySem.W.Frag} {e : Expr} {T : String} {r : V → List V → Hp → VK → Prop} {to : TE} (hk : X.K = K) (h : PE X e (tBM0 X.K T r to)) : PE X e (tBM0 K T r to) := by subst hk; exact h
def gTy (K : PySem.W.Frag) (T : String) (x : V) (H : Hp) (P : Prop) : Prop := tyV K T x H ∧ P
section
variable {K : PySem.W.Frag} {T : String} {σ : L2.St} {H : Hp} {Q : VK} {ta : TE} {tas : TA} {r : V → List V → Hp → VK → Prop} {p : Addr} {xs : List V} {B : Prop} {z : Str}
theorem x_bmG (q : ta σ H fun x H1 => gTy K T x H1 (tas σ H1 fun xs H2 => r x xs H2 Q)) : tBM K T r ta tas σ H Q := q
theorem x_bm0G (q : ta σ H fun x H1 => gTy K T x H1 (r x [] H1 Q)) : tBM0 K T r ta σ H Q := q
theorem x_gTyL (h : SqL K H p xs) (q : B) : gTy K "list" (.ref p) H B := ⟨ty_l h, q⟩
theorem x_gTyS (q : B) : gTy K "str" (.str z) H B := ⟨rfl, q⟩
end
end M
namespace M
open PySem PySem.Spec PyProof.Rows L2
theorem opCK {X : Cx} {K : PySem.W.Frag} {f : Value → Value → Sem Value} {C : Addr} {sp : Sp} (hk : X.K = K) (h : OpR X f (rOwnC X.K C sp)) : OpR X f (rOwnC K C sp) := by subst hk; exact h
end M
namespace M
open L2
/-- the same, hidden from the search -/
def Sm (H H' : Hp) : Prop := Same H H'
end M
namespace M
open PySem L2
def gMake (C : Addr) (sp : Sp) (dvs : List V) (E : XK) (vs : List V) (H : Hp) (Q : VK) : Prop := ∀ x dx, H x = none → H dx = none → dx ≠ x → sp (.ref x :: (vs ++ dvs)) (upd (upd H dx (.own x)) x (.ins C dx [])) (fun v H2 => v = .non ∧ Q (.ref x) H2) E
theorem x_makeG {C : Addr} {sp : Sp} {dvs : List V} {E : XK} {tas : TA} {σ : L2.St} {H : Hp} {Q : VK} (q : tas σ H fun vs H1 => gMake C sp dvs E vs H1 Q) : tMake C sp dvs E tas σ H Q := q
end M
namespace M
open PySem PySem.Spec PyProof.Rows L2
section
variable {X : Cx} {K : PySem.W.Frag}
def nCatS (K : PySem.W.Frag) : R2 := fun x y H Q => ∃ l b xs zs, x = .ref l ∧ y = .ref b ∧ SqL K H l xs ∧ SqL K H b zs ∧ xs.length + zs.length ≤ sizeLine ∧ nw H (.lst (xs ++ zs)) Q
theorem op_catS0 : OpR X (binaryOp .Add) (nCatS X.K) := by
  intro pins s σ H x y v u Q I rx ry h
  obtain ⟨l, b, xs, zs, rfl, rfl, hH, hB, hz, q⟩ := h
  cases rx
  cases ry
  obtain ⟨its, r, h1, z1⟩ := I.list hH
  obtain ⟨its2, r2, h2, z2⟩ := I.list hB
  obtain ⟨⟨cA, dA, tA, sA⟩, oA, eA, n, fA⟩ := id h1.isList
  obtain ⟨⟨cB, dB, tB, sB⟩, oB, eB, n2, fB⟩ := id h2.isList
  simp only at eA fA eB fB
  subst eA fA eB fB
  have hs : its.toArray.size + its2.toArray.size ≤ sizeLine := by rw [List.size_toArray, List.size_toArray, ← r.length, ← r2.length]; exact hz
  refine concat_meets ⟨_, oA, rfl⟩ ⟨_, oB, rfl⟩ noFill_list_add seq_list_add PySem.F.slot_list_add PySem.F.entry_list_add (PySem.F.args_list_add_2 _ _)
    (list_addW l b its.toArray its2.toArray n n2 dA dB sA sB hs) ⟨oA, oB, ?_⟩
  rw [show its.toArray ++ its2.toArray = (its ++ its2).toArray by simp]
  refine ⟨.ref _, _, I.lnew (t' := s.toks) (r.append r2) (by rw [List.length_append]; exact hz), rfl, ?_⟩
  exact nw_upd q _ I.fresh
theorem op_catS (h : X.K = K) : OpR X (binaryOp .Add) (nCatS K) := by subst h; exact op_catS0
theorem x_catS {H : Hp} {Q : VK} {l b : Addr} {xs zs : List V} (h1 : SqL K H l xs) (h2 : SqL K H b zs) (h3 : xs.length + zs.length ≤ 1000) (q : nw H (.lst (xs ++ zs)) Q) : nCatS K (.ref l) (.ref b) H Q := ⟨l, b, xs, zs, rfl, rfl, h1, h2, Nat.le_of_lt (small1000 (by omega)), q⟩
end
end M
namespace M
open PySem PySem.Spec PyProof.Rows L2
theorem Same.chg {H0 H1 H2 : Hp} {p : Addr} (s : Same H0 H1) (n : H0 p = none) (c : Chg [p] H1 H2) : Same H0 H2 := fun u o e => c u o (ni1 (ne_of_none e n)) (s u o e)
theorem x_cut {t u : TS} {D : Ends} {σ : L2.St} {H : Hp} (Mid : L2.St → Hp → Prop) (a : t { D with nx := Mid } σ H) (b : ∀ σ' H', Mid σ' H' → u D σ' H') : Evl.tCut t u D σ H := ⟨Mid, a, b⟩
end M
namespace M
open PySem PySem.Spec PyProof.Rows L2
theorem InitOk.mono {P : Program} {w : World} {K : PySem.W.Frag} {mg : Str → Option Value} {base : Heap} {x : Str} {C : Addr} {j k : Nat} {ps : List Str} {sp : Sp} (D : InitOk P w K mg base x C j ps sp) (h : j ≤ k) : InitOk P w K mg base x C k ps sp :=
  ⟨D.cls, D.gl, D.mks, D.kp, let ⟨f, fd, F, r⟩ := D.ex; ⟨f, fd, F.mono h, r⟩⟩
theorem Init0.mono {P : Program} {w : World} {K : PySem.W.Frag} {mg : Str → Option Value} {base : Heap} {x : Str} {C : Addr} {j k : Nat} {ps : List Str} {sp : Sp} (D : Init0 P w K mg base x C j ps sp) (h : j ≤ k) : Init0 P w K mg base x C k ps sp :=
  ⟨D.gl, D.mks, D.kp, let ⟨f, fd, F, r⟩ := D.ex; ⟨f, fd, F.mono h, r⟩⟩
/-- a written pair -/
theorem sqt_pair {K : PySem.W.Frag} {a : Addr} {x y : V} {u v : Value} {d : Option Addr} {n : Nat} {sl : Array (Option Value)} (h : K.lookup a = some ⟨.type "tuple", d, .seq #[u, v] n, sl⟩) (r1 : RelV x u) (r2 : RelV y v) (H : Hp) : SqT K H a [x, y] :=
  .inr ⟨_, #[u, v], n, h, rfl, rfl, by show 2 ≤ sizeLine; decide, .cons r1 (.cons r2 .nil)⟩
end M
namespace M
theorem me_self {K : PySem.W.Frag} {C : PySem.Addr} : PySem.W.kitOne K (.ref C) (.ref C) = some true := by
  unfold PySem.W.kitOne
  rw [if_pos (show (PySem.Value.ref C == PySem.Value.ref C) = true from beq_self_eq_true _)]
end M
namespace PySem.W
open PySem PySem.Spec PyProof.Rows
section
variable {prog : Program} {w : World} {A : Around} {E : Value → Shared → Prop} {s : Shared} {K : Frag} {x C C' L f : Addr} {h₀ : Heap} {m : Str → Option Value} {ox : Obj} {od : Option Obj} {nm : String}
theorem my_fillsN {M : Model} {h : Heap} {cd : ClassData} (X : K.In h) (hcl : clsIn K C' = some cd) (hmr : cd.mro = [.ref C', .type "object"]) (h1 : findIn K (.ref C') (PySem.dunder nm) = some none) (h2 : findIn K (.ref C') (dunderR nm) = some none)
    (h3 : findIn K (.type "object") (PySem.dunder nm) = some none) (h4 : findIn K (.type "object") (dunderR nm) = some none) : Looks M h (fillsNumberSlot (.ref C') nm) false := by
  intro A Q E s k q
  obtain ⟨hh, g, d, tt, os⟩ := s
  have Y : K.In hh := X.keeps k
  have la : Looks M hh (typeLookup (.ref C') (PySem.dunder nm)) none := looks_findIn Y h1
  have lb : Looks M hh (typeLookup (.ref C') (dunderR nm)) none := looks_findIn Y h2
  have lc : Looks M hh (typeLookup (.type "object") (PySem.dunder nm)) none := looks_findIn Y h3
  have ld : Looks M hh (typeLookup (.type "object") (dunderR nm)) none := looks_findIn Y h4
  have lm : Looks M hh (classData C') cd := looks_clsIn Y hcl
  unfold fillsNumberSlot
  refine wpAny_bind (lm.andThen (f := fun c => pure c.mro) .now _ _ _ _ (fun _ _ e => e) ?_)
  rw [hmr]
  simp only [List.anyM_cons, List.anyM_nil]
  repeat lk
  exact q
theorem my_binO {op : Operator} {b : Value} {Q : Value → Shared → Prop} (F : Fr h₀ L s.heap m) (X₀ : K.In h₀) (I : InstAt s.heap x ox C od) (hb : Looks (model prog w) s.heap (typeOf b) (.ref C')) (hn : C ≠ C') (hc : selfFirst K C = true)
    (hs : findIn K (.ref C) (PySem.dunder op.info.2) = some (some (.ref f))) (hf : isFn K (.ref f) = true)
    (h1 : findIn K (.ref C') (PySem.dunder op.info.2) = some none) (h2 : findIn K (.ref C') (dunderR op.info.2) = some none)
    {cd' : ClassData} (hcl : clsIn K C' = some cd') (hmr : cd'.mro = [.ref C', .type "object"]) (h3 : findIn K (.type "object") (PySem.dunder op.info.2) = some none) (h4 : findIn K (.type "object") (dunderR op.info.2) = some none)
    (h : wpAny (model prog w) A (call (.ref f) [.ref x, b]) (CmpBack Q) E s) : wpAny (model prog w) A (binaryOp op (.ref x) b) Q E s := by
  have Y := X₀.keeps F.keep
  obtain ⟨cd, rest, hcd, hm⟩ := ksp_first hc
  rcases hi : op.info with ⟨sy, n2⟩
  rw [hi] at hs h1 h2 h3 h4
  dsimp only at hs h1 h2 h3 h4
  have go := ksp_try Y I hs hf h
  obtain ⟨hh, g, d, tt, os⟩ := s
  have l1 : Looks (model prog w) hh (typeOf (.ref x)) (.ref C) := I.type
  have l3 : Looks (model prog w) hh (fillsNumberSlot (.ref C) n2) true := fills_K Y hcd hm hs
  have l4 : Looks (model prog w) hh (fillsNumberSlot (.ref C') n2) false := my_fillsN Y hcl hmr h1 h2 h3 h4
  have ne : (Value.ref C == Value.ref C') = false := Bool.eq_false_iff.mpr fun q => hn (by have := beq_iff_eq.mp q; cases this; rfl)
  simp only [binaryOp, hi]
  refine wpAny_holding (wpAny_bind ?_)
  unfold binaryOp1
  refine wpAny_bind (l1.at (wpAny_bind (hb.at (wpAny_bind (l3.at ?_)))))
  simp only [ne, Bool.false_eq_true, if_false]
  ksp_lk
  refine wpAny_mono go (fun r s' hr => ?_) fun _ _ e => e
  obtain ⟨v, rfl, hq⟩ := hr
  ksp_lk
  exact hq
end
end PySem.W
namespace M
open PySem PySem.Spec PyProof.Rows L2
/-- the own class at C has no such operator -/
structure NoOp (K : PySem.W.Frag) (C : Addr) (nm rn : Str) : Prop where
  h1 : PySem.W.findIn K (.ref C) nm = some none
  h2 : PySem.W.findIn K (.ref C) rn = some none
  h3 : PySem.W.findIn K (.type "object") nm = some none
  h4 : PySem.W.findIn K (.type "object") rn = some none
  cl : ∃ cd, PySem.W.clsIn K C = some cd ∧ cd.mro = [.ref C, .type "object"]
section
variable {X : Cx} {k : Nat} {C C' : Addr} {ps : List Str} {sp : Sp} {rn : Str}
def rOwn2 (C C' : Addr) (sp : Sp) : R2 := fun x y H Q => ∃ a dx fs b dy gs, x = .ref a ∧ y = .ref b ∧ H a = some (.ins C dx fs) ∧ H b = some (.ins C' dy gs) ∧ sp [x, y] H Q E0
theorem op_bin2 {op : Operator} {nm : Str} (D : MethOk X.prog X.w X.K X.mg X.base C k nm ps sp) (hc : PySem.W.selfFirst X.K C = true) (N : NoOp X.K C' nm rn) (hn : C ≠ C') (hr : Room k X.A) (hnm : PySem.dunder op.info.2 = nm := by rfl) (hrn : dunderR op.info.2 = rn := by rfl) : OpR X (binaryOp op) (rOwn2 C C' sp) := by
  intro pins s σ H x y v u Q I rx ry h
  obtain ⟨f, fd, F, hf, hi, kp, fi, bd⟩ := D.ex
  obtain ⟨a, dx, fs, b, dy, gs, rfl, rfl, ha, hb, q⟩ := h
  cases (show v = Value.ref a from rx)
  cases (show u = Value.ref b from ry)
  obtain ⟨ox, od, J, _⟩ := inst_at I ha
  obtain ⟨ox', od', J', _⟩ := inst_at I hb
  obtain ⟨m, hF⟩ := I.fr
  obtain ⟨cd, hcl, hmr⟩ := N.cl
  refine PySem.W.my_binO hF I.ok.mod.kin J J'.type hn hc (by rw [hnm]; exact hf) hi (by rw [hnm]; exact N.h1) (by rw [hrn]; exact N.h2) hcl hmr (by rw [hnm]; exact N.h3) (by rw [hrn]; exact N.h4) ?_
  refine thn (run_at (us := [.ref a, .ref b]) (vs := [.ref a, .ref b]) (fnok_raw F bd) hr I (.cons rfl (.cons rfl .nil)) q) fun w s' z => ?_
  obtain ⟨z', H', I', rz, qz⟩ := z
  exact cmpback rz ⟨z', H', I', rz, qz⟩
theorem x_own2 {H : Hp} {Q : VK} {a b dx dy : Addr} {fs gs : List (Str × V)} (h : H a = some (.ins C dx fs)) (h2 : H b = some (.ins C' dy gs)) (q : sp [.ref a, .ref b] H Q E0) : rOwn2 C C' sp (.ref a) (.ref b) H Q := ⟨a, dx, fs, b, dy, gs, rfl, rfl, h, h2, q⟩
end
end M
namespace M
open PySem PySem.Spec PyProof.Rows L2
def gFS (K : PySem.W.Frag) (f : Str) (y x : V) (H : Hp) (P : Hp → Prop) : Prop := ∃ a C dx fs, x = .ref a ∧ H a = some (.ins C dx fs) ∧ Cls K C ∧ NoAttr K C f ∧ fs.length < 1000 ∧ P (upd H a (.ins C dx (putF f y fs)))
theorem x_sFld {K : PySem.W.Frag} {ta tv : TE} {f : Str} {D : Ends} {σ : L2.St} {H : Hp} (q : tv σ H fun y H1 => ta σ H1 fun x H2 => gFS K f y x H2 (D.nx σ)) : sFld K ta tv f D σ H := q
end M
namespace M
open PySem PySem.Spec PyProof.Rows L2
theorem op_mulOk {X : Cx} : OpR X (binaryOp .Mult) (rI IntMulOk fun i j => .int (i * j)) := opI fun _ _ _ _ _ _ _ hc q => mul_int q hc
def gInt1 : List V → Hp → VK → Prop := fun xs H Q => (∃ i, xs = [.int i] ∧ Q (.int i) H) ∨ ∃ k, xs = [.bl k] ∧ Q (.int (if k then 1 else 0)) H
theorem call_int1N {X : Cx} : CallR X (.type "int") gInt1 := call_int1
theorem x_intI {H : Hp} {Q : VK} {i : Int} (q : Q (.int i) H) : gInt1 [.int i] H Q := .inl ⟨i, rfl, q⟩
theorem x_intB {H : Hp} {Q : VK} {k : Bool} (q : Q (.int (if k then 1 else 0)) H) : gInt1 [.bl k] H Q := .inr ⟨k, rfl, q⟩
theorem mul01 {i : Int} {k : Bool} : IntMulOk i (if k then 1 else 0) := IntMulOk.of_right (by cases k <;> decide +kernel)
theorem x_mul01 {f : Int → Int → V} {i : Int} {k : Bool} {H : Hp} {Q : VK} (q : Q (f i (if k then 1 else 0)) H) : rI IntMulOk f (.int i) (.int (if k then 1 else 0)) H Q := ⟨_, _, rfl, rfl, mul01, q⟩
end M
namespace M
open PySem PySem.Spec PyProof.Rows L2
section
variable {X : Cx} {k : Nat} {C : Addr} {ps : List Str} {sp : Sp} {fe e : Expr} {es : List Expr} {pos : Pos} {tf : TE} {t : TA}
theorem pe_callI (hf : PE X fe tf) (D : MethOk X.prog X.w X.K X.mg X.base C k "__call__" ps sp) (hr : Room k X.A) (ha : PA X (e :: es) t)
    (ht : eval (.Call fe (e :: es) [] pos) X.env = (do callWith pos (← eval fe X.env) [] (backTo pos (starEach (e :: es) X.env)) (backToKw pos (keywordEach [] X.env))) := by rfl)
    (hst : starEach (e :: es) X.env = (false, eval e X.env) :: starEach es X.env := by rfl) (hpl : (backTo pos (starEach es X.env)).any (·.1) = false := by rfl) : PE X (.Call fe (e :: es) [] pos) (StX.tCallO X C sp E0 tf t) := by
  obtain ⟨f, fd, F, hf', hi, kp, fi, b⟩ := D.ex
  exact StX.pe_callO hf ⟨hf', hi, fi⟩ (fnok_raw F b) hr pass0 ha (ht := ht) (he := hst) (hpl := hpl)
def gCO (X : Cx) (C a : Addr) (H : Hp) (B : Prop) : Prop := StX.InsC X H a C ∧ B
theorem x_callO {E : XK} {σ : L2.St} {H : Hp} {Q : VK} (q : tf σ H fun y H1 => ∃ a, y = V.ref a ∧ t σ H1 fun vs H2 => gCO X C a H2 (sp (V.ref a :: vs) H2 Q E)) : StX.tCallO X C sp E tf t σ H Q := q
theorem x_gCO {H : Hp} {a dx : Addr} {fs : List (Str × V)} {B : Prop} (h : H a = some (.ins C dx fs)) (q : B) : gCO X C a H B := ⟨.inr ⟨dx, fs, h⟩, q⟩
theorem x_gsub {to ti : TE} {ts : TSet} {v : V} {σ : L2.St} {H : Hp} {Q : L2.St → Hp → Prop} (q : to σ H fun o H1 => ti σ H1 fun i H2 => ts o i v H2 fun H3 => Q σ H3) : gSub to ti ts v σ H Q := q
theorem x_ownSet {H : Hp} {a dx : Addr} {fs : List (Str × V)} {i v : V} {Q : Hp → Prop} (h : H a = some (.ins C dx fs)) (q : sp [.ref a, i, v] H (fun _ H' => Q H') E0) : rOwnSet C sp (.ref a) i v H Q := ⟨a, dx, fs, rfl, h, q⟩
end
end M
namespace M
open PySem PySem.Spec PyProof.Rows L2
theorem x_aug {i : Nat} {te : TE} {ti : TIp} {D : Ends} {σ : L2.St} {H : Hp} {x : V} (h : σ[i]? = some (some x)) (q : te σ H fun y H1 => ti x y H1 fun z H2 => D.nx (σ.set i (some z)) H2) : tAug i te ti D σ H := ⟨x, h, q⟩
end M
namespace M
open PySem PySem.Spec PyProof.Rows L2
theorem shaped_trip {z y : Str} (h : Sgn z) (h' : Sgn y) (n : Int) : SeqAt.shaped (.tuple [.str z, .str y, .int n]) = true := by
  have e : ∀ {z : Str}, Sgn z → (z.cps.all (· < 0x110000)) = true := fun h => by
    rw [← Array.all_toList]
    exact List.all_eq_true.mpr fun c hc => decide_eq_true (h c hc)
  unfold SeqAt.shaped
  rw [show (PyData.tuple [.str z, .str y, .int n]).canLay0 = ((z.cps.all (· < 0x110000)) && ((y.cps.all (· < 0x110000)) && (true && true))) from rfl, e h, e h']
  rfl
end M
namespace M
open PySem PySem.Spec PyProof.Rows L2
theorem revK {X : Cx} {K : PySem.W.Frag} {tg e : Expr} {ta : TA} (h : X.K = K) (p : PI X tg e (iRev X.K ta)) : PI X tg e (iRev K ta) := by subst h; exact p
def gRev (K : PySem.W.Frag) (vs : List V) (H : Hp) (R : It → Hp → Prop) : Prop := ∃ (a : Addr) (xs : List V), vs = [.ref a] ∧ SqL K H a xs ∧ R (Itv K a xs.length) H
theorem x_rev {K : PySem.W.Frag} {ta : TA} {σ : L2.St} {H : Hp} {R : It → Hp → Prop} (q : ta σ H fun vs H1 => gRev K vs H1 R) : iRev K ta σ H R := q
/-- the turns of a list from its end; i items done -/
theorem for_rv {K : PySem.W.Frag} {a : Addr} {xs : List V} {g : TG} {tb : TS} {D : Ends} {σ : L2.St} {H : Hp} (Pv : Nat → L2.St → Hp → Prop) (h0 : Pv 0 σ H) (hl : ∀ i σ H, i ≤ xs.length → Pv i σ H → SqL K H a xs)
    (hs : ∀ i x σ H, i < xs.length → xs[xs.length - 1 - i]? = some x → Pv i σ H → g x σ H fun σ2 H2 => tb { D with nx := Pv (i + 1), ct := Pv (i + 1), bk := D.nx } σ2 H2) (hd : ∀ σ H, Pv xs.length σ H → D.nx σ H) :
    ∃ W : Nat → Nat → L2.St → Hp → Prop, (∃ m, W 0 m σ H) ∧ ∀ i m σ H, W i m σ H →
      ((Itv K a xs.length).stop i H ∧ D.nx σ H) ∨ ((Itv K a xs.length).go i H ∧ ∃ N : L2.St → Hp → Prop, (∀ σ' H', N σ' H' → ∃ m', m' < m ∧ W (i + 1) m' σ' H') ∧ ∀ x H', (Itv K a xs.length).yld i H x H' → g x σ H' fun σ2 H2 => tb { D with nx := N, ct := N, bk := D.nx } σ2 H2) := by
  refine ⟨fun j m s h => m = xs.length - j ∧ j ≤ xs.length ∧ Pv j s h, ⟨xs.length, by simp, Nat.zero_le _, h0⟩, ?_⟩
  rintro j m s h ⟨rfl, hj, p⟩
  have sq := hl j s h hj p
  by_cases lt : j < xs.length
  · have ex : xs[xs.length - 1 - j]? = some (xs[xs.length - 1 - j]'(by omega)) := List.getElem?_eq_getElem _
    refine .inr ⟨⟨lt, xs, _, sq, ex⟩, Pv (j + 1), fun s' h' p' => ⟨xs.length - (j + 1), by omega, rfl, lt, p'⟩, fun x h' y => ?_⟩
    obtain ⟨e, y⟩ := y
    subst e
    exact hs j x s _ lt (y xs sq) p
  · have e : j = xs.length := by omega
    subst e
    exact .inl ⟨Nat.le_refl _, hd s h p⟩
end M
namespace DM
open PySem PySem.Spec PyProof.Rows L2

abbrev cap : Nat := 1000000
inductive D where
  | non | bl (b : Bool) | int (i : Int) | str (s : Str) | ty (n : String) | glb (a : Addr)
  | lst (xs : List D) | tup (xs : List D) | dct (ks : List Key) (vs : List D) | obj (C : Addr) (ns : List Str) (vs : List D) | lsk (xs : List D)
inductive RV where
  | val (d : D) | ptr (n : Nat)
inductive Nd where
  | lst (ds : List D) | dct (lk : Bool) (ks : List Key) (ds : List D) | obj (C : Addr) (ns : List Str) (rs : List RV)
structure Stx where
  nx : Nat
  hi : Nat
  at' : Nat → Option Nd
instance : Inhabited D := ⟨.non⟩

def KL (K : PySem.W.Frag) (a : Addr) (xs : List V) : Prop := ∃ (its : Array Value) (n : Nat), K.lookup a = some { cls := .type "list", data := .seq its n } ∧ its.size ≤ sizeLine ∧ Vals xs its.toList
def KT (K : PySem.W.Frag) (a : Addr) (xs : List V) : Prop := ∃ (o : Obj) (its : Array Value) (n : Nat), K.lookup a = some o ∧ o.cls = .type "tuple" ∧ o.data = .seq its n ∧ its.size ≤ sizeLine ∧ Vals xs its.toList
def KG (K : PySem.W.Frag) (a : Addr) (xs : List V) : Prop := ∃ (o : Obj) (its : Array Value) (n : Nat), K.lookup a = some o ∧ o.cls = .type "list" ∧ o.dict = none ∧ o.data = .seq its n ∧ its.size ≤ sizeLine ∧ Vals xs its.toList
def LsAt (K : PySem.W.Frag) (P : Addr → Prop) (H : Hp) (a : Addr) (vs : List V) : Prop := (¬P a ∧ Rd H a (.lst vs)) ∨ KL K a vs
def TpAt (K : PySem.W.Frag) (P : Addr → Prop) (H : Hp) (a : Addr) (vs : List V) : Prop := (¬P a ∧ Rd H a (.tup vs)) ∨ KT K a vs
def DcAt (P : Addr → Prop) (H : Hp) (a : Addr) (kvs : List (Key × V)) : Prop := ¬P a ∧ Rd H a (.dK kvs)
theorem LsAt.sq {K : PySem.W.Frag} {P : Addr → Prop} {H : Hp} {a : Addr} {vs : List V} (h : LsAt K P H a vs) : SqL K H a vs := h.elim (fun h => .inl h.2) fun ⟨its, n, h1, h2, h3⟩ => .inr ⟨_, its, n, h1, rfl, rfl, rfl, h2, h3⟩
theorem TpAt.sq {K : PySem.W.Frag} {P : Addr → Prop} {H : Hp} {a : Addr} {vs : List V} (h : TpAt K P H a vs) : SqT K H a vs := h.elim (fun h => .inl h.2) .inr

mutual
def Vl (K : PySem.W.Frag) (P : Addr → Prop) (H : Hp) : D → V → Prop
  | .non, v => v = .non
  | .bl b, v => v = .bl b
  | .int i, v => v = .int i
  | .str s, v => v = .str s
  | .ty n, v => v = .ty n
  | .glb a, v => v = .ref a
  | .lst ds, v => ∃ a vs, v = .ref a ∧ LsAt K P H a vs ∧ ds.length ≤ cap ∧ Vls K P H ds vs
  | .tup ds, v => ∃ a vs, v = .ref a ∧ TpAt K P H a vs ∧ ds.length ≤ cap ∧ Vls K P H ds vs
  | .dct ks ds, v => ∃ a kvs, v = .ref a ∧ DcAt P H a kvs ∧ kvs.map (·.1) = ks ∧ ks.Nodup ∧ ks.length ≤ cap ∧ Vls K P H ds (kvs.map (·.2))
  | .obj C ns ds, v => ∃ a dx fvs, v = .ref a ∧ ¬P a ∧ H a = some (.ins C dx fvs) ∧ fvs.map (·.1) = ns ∧ Vls K P H ds (fvs.map (·.2))
  | .lsk ds, v => ∃ a vs, v = .ref a ∧ KG K a vs ∧ ds.length ≤ cap ∧ Vls K P H ds vs
def Vls (K : PySem.W.Frag) (P : Addr → Prop) (H : Hp) : List D → List V → Prop
  | [], vs => vs = []
  | d :: ds, vs => ∃ v r, vs = v :: r ∧ Vl K P H d v ∧ Vls K P H ds r
end
/-- what is not held is kept; what comes to be held was not there -/
def nofrz : HO → Prop
  | .frz _ _ => False
  | _ => True
structure Kp (P P' : Addr → Prop) (H H' : Hp) : Prop where
  rd : ∀ a o, nofrz o → ¬P a → Rd H a o → Rd H' a o
  ins : ∀ a C dx fs, ¬P a → H a = some (.ins C dx fs) → H' a = some (.ins C dx fs)
  np : ∀ a o, ¬P a → H a = some o → ¬P' a
section
variable {K : PySem.W.Frag} {P P' : Addr → Prop} {H H' : Hp}
theorem Kp.rd' (k : Kp P P' H H') {a : Addr} {o : HO} (nf : nofrz o) (n : ¬P a) (r : Rd H a o) : ¬P' a ∧ Rd H' a o :=
  ⟨r.elim (fun h => k.np a _ n h) fun ⟨_, h⟩ => k.np a _ n h, k.rd a o nf n r⟩
mutual
theorem Vl.keep (k : Kp P P' H H') : ∀ (d : D) (v : V), Vl K P H d v → Vl K P' H' d v
  | .non, _, h => h
  | .bl _, _, h => h
  | .int _, _, h => h
  | .str _, _, h => h
  | .ty _, _, h => h
  | .glb _, _, h => h
  | .lst ds, v, h => by
    obtain ⟨a, vs, e, la, l, r⟩ := h
    exact ⟨a, vs, e, la.elim (fun x => .inl (k.rd' trivial x.1 x.2)) .inr, l, Vls.keep k ds vs r⟩
  | .tup ds, v, h => by
    obtain ⟨a, vs, e, la, l, r⟩ := h
    exact ⟨a, vs, e, la.elim (fun x => .inl (k.rd' trivial x.1 x.2)) .inr, l, Vls.keep k ds vs r⟩
  | .dct ks ds, v, h => by
    obtain ⟨a, kvs, e, la, e2, n, l, r⟩ := h
    exact ⟨a, kvs, e, k.rd' trivial la.1 la.2, e2, n, l, Vls.keep k ds _ r⟩
  | .obj C ns ds, v, h => by
    obtain ⟨a, dx, fvs, e, n, ha, e2, r⟩ := h
    exact ⟨a, dx, fvs, e, k.np a _ n ha, k.ins a C dx fvs n ha, e2, Vls.keep k ds _ r⟩
  | .lsk ds, v, h => by
    obtain ⟨a, vs, e, la, l, r⟩ := h
    exact ⟨a, vs, e, la, l, Vls.keep k ds vs r⟩
theorem Vls.keep (k : Kp P P' H H') : ∀ (ds : List D) (vs : List V), Vls K P H ds vs → Vls K P' H' ds vs
  | [], _, h => h
  | d :: ds, vs, h => by
    obtain ⟨v, r, e, h1, h2⟩ := h
    exact ⟨v, r, e, Vl.keep k d v h1, Vls.keep k ds r h2⟩
end
theorem Vls.length : ∀ {ds : List D} {vs : List V}, Vls K P H ds vs → vs.length = ds.length
  | [], _, h => by rw [show _ = [] from h]; rfl
  | d :: ds, vs, h => by
    obtain ⟨v, r, e, _, h2⟩ := h
    rw [e, List.length_cons, List.length_cons, Vls.length h2]
theorem Vls.get : ∀ {ds : List D} {vs : List V} {i : Nat} {d : D}, Vls K P H ds vs → ds[i]? = some d → ∃ v, vs[i]? = some v ∧ Vl K P H d v
  | [], _, _, _, _, e => by simp at e
  | d :: ds, vs, 0, _, h, e => by
    obtain ⟨v, r, rfl, h1, _⟩ := h
    cases (show d = _ by simpa using e)
    exact ⟨v, rfl, h1⟩
  | d :: ds, vs, i + 1, x, h, e => by
    obtain ⟨v, r, rfl, _, h2⟩ := h
    obtain ⟨u, h3, h4⟩ := Vls.get (i := i) h2 (by simpa using e)
    exact ⟨u, by simpa using h3, h4⟩
theorem Vls.getv {ds : List D} {vs : List V} {i : Nat} {v : V} (h : Vls K P H ds vs) (e : vs[i]? = some v) : ∃ d, ds[i]? = some d ∧ Vl K P H d v := by
  have hl := h.length
  have hi : i < ds.length := by
    have := (List.getElem?_eq_some_iff.mp e).1
    omega
  obtain ⟨v', e', r⟩ := h.get (List.getElem?_eq_getElem hi)
  rw [e] at e'
  cases e'
  exact ⟨_, List.getElem?_eq_getElem hi, r⟩
theorem Vls.append : ∀ {ds es : List D} {vs us : List V}, Vls K P H ds vs → Vls K P H es us → Vls K P H (ds ++ es) (vs ++ us)
  | [], _, _, _, h, q => by rw [show _ = [] from h]; exact q
  | d :: ds, _, vs, _, h, q => by
    obtain ⟨v, r, rfl, h1, h2⟩ := h
    exact ⟨v, _, rfl, h1, Vls.append h2 q⟩
theorem Vls.one {d : D} {v : V} (h : Vl K P H d v) : Vls K P H [d] [v] := ⟨v, [], rfl, h, rfl⟩
theorem Vls.take : ∀ {ds : List D} {vs : List V} (n : Nat), Vls K P H ds vs → Vls K P H (ds.take n) (vs.take n)
  | _, _, 0, _ => by rw [List.take_zero, List.take_zero]; rfl
  | [], _, n + 1, h => by rw [show _ = [] from h, List.take_nil, List.take_nil]; rfl
  | d :: ds, vs, n + 1, h => by
    obtain ⟨v, r, rfl, h1, h2⟩ := h
    exact ⟨v, _, rfl, h1, Vls.take n h2⟩
theorem Vls.drop : ∀ {ds : List D} {vs : List V} (n : Nat), Vls K P H ds vs → Vls K P H (ds.drop n) (vs.drop n)
  | _, _, 0, h => h
  | [], _, n + 1, h => by rw [show _ = [] from h, List.drop_nil, List.drop_nil]; rfl
  | d :: ds, vs, n + 1, h => by
    obtain ⟨v, r, rfl, h1, h2⟩ := h
    exact Vls.drop n h2
theorem Vls.set : ∀ {ds : List D} {vs : List V} {d : D} {v : V} (i : Nat), Vls K P H ds vs → Vl K P H d v → Vls K P H (ds.set i d) (vs.set i v)
  | [], _, _, _, _, h, _ => by rw [show _ = [] from h]; rfl
  | _ :: ds, vs, _, _, 0, h, q => by
    obtain ⟨v, r, rfl, h1, h2⟩ := h
    exact ⟨_, _, rfl, q, h2⟩
  | _ :: ds, vs, _, _, i + 1, h, q => by
    obtain ⟨v, r, rfl, h1, h2⟩ := h
    exact ⟨_, _, rfl, h1, Vls.set i h2 q⟩
theorem Vls.reverse : ∀ {ds : List D} {vs : List V}, Vls K P H ds vs → Vls K P H ds.reverse vs.reverse
  | [], _, h => by rw [show _ = [] from h]; rfl
  | d :: ds, vs, h => by
    obtain ⟨v, r, rfl, h1, h2⟩ := h
    rw [List.reverse_cons, List.reverse_cons]
    exact Vls.append (Vls.reverse h2) (Vls.one h1)
end

def Pof (ι : Nat → Addr) (st : Stx) : Addr → Prop := fun a => ∃ n nd, st.at' n = some nd ∧ ι n = a
def RVl (K : PySem.W.Frag) (P : Addr → Prop) (H : Hp) (ι : Nat → Addr) (nx : Nat) : RV → V → Prop
  | .val d, v => Vl K P H d v
  | .ptr n, v => n < nx ∧ v = .ref (ι n)
abbrev RVls (K : PySem.W.Frag) (P : Addr → Prop) (H : Hp) (ι : Nat → Addr) (nx : Nat) : List RV → List V → Prop := Paired (RVl K P H ι nx)
def NdAt (K : PySem.W.Frag) (P : Addr → Prop) (H : Hp) (ι : Nat → Addr) (hi : Nat) (a : Addr) : Nd → Prop
  | .lst ds => ∃ vs, H a = some (.lst vs) ∧ ds.length ≤ cap ∧ Vls K P H ds vs
  | .dct lk ks ds => ∃ kvs, (if lk = true then ∃ od, H a = some (.frz od (.dK kvs)) else H a = some (.dK kvs)) ∧ kvs.map (·.1) = ks ∧ ks.Nodup ∧ ks.length ≤ cap ∧ Vls K P H ds (kvs.map (·.2))
  | .obj C ns rs => ∃ dx fvs, H a = some (.ins C dx fvs) ∧ fvs.map (·.1) = ns ∧ ns.length ≤ 500 ∧ RVls K P H ι hi rs (fvs.map (·.2))
structure Frm where
  H0 : Hp
  dom : Nat → Prop
  ι0 : Nat → Addr
  nx0 : Nat
  Li : List (Addr × Obj × HO)
  L : List (Addr × Obj × HO)
  X : Addr → Prop
/-- what is held: the store's, and what a piece of code around holds -/
def Pf (F : Frm) (ι : Nat → Addr) (st : Stx) : Addr → Prop := fun a => Pof ι st a ∨ F.X a
def Frm.P0 (F : Frm) : Addr → Prop := fun a => ∃ n, n < F.nx0 ∧ F.dom n ∧ F.ι0 n = a
abbrev Env := List (Option RV)
/-- what is so of the state, ι given -/
structure Ok (K : PySem.W.Frag) (F : Frm) (ι : Nat → Addr) (σ : L2.St) (env : Env) (ts : List (V × RV)) (st : Stx) (H : Hp) : Prop where
  len : σ.length = env.length
  slot : ∀ (i : Nat) (r : RV), env[i]? = some (some r) → ∃ v, σ[i]? = some (some v) ∧ RVl K (Pf F ι st) H ι st.nx r v
  tmp : ∀ t ∈ ts, RVl K (Pf F ι st) H ι st.nx t.2 t.1
  node : ∀ n nd, st.at' n = some nd → NdAt K (Pf F ι st) H ι st.hi (ι n) nd ∧ n < st.nx
  inj : ∀ n m nd nd', st.at' n = some nd → st.at' m = some nd' → ι n = ι m → n = m
  hi : st.hi ≤ st.nx
  nx : F.nx0 ≤ st.nx
  ag : ∀ n, n < F.nx0 → ι n = F.ι0 n
  old : ∀ n nd, st.at' n = some nd → n < F.nx0 → F.dom n
  new : ∀ n nd, st.at' n = some nd → F.nx0 ≤ n → F.H0 (ι n) = none
  there : ∀ a o, F.H0 a = some o → ∃ o', H a = some o'
  frame : ∀ a o, F.H0 a = some o → ¬F.P0 a → H a = some o ∨ ∃ od, (a, od, o) ∈ F.L
  lock : ∀ a od u, (a, od, u) ∈ F.L ++ F.Li → H a = some (.frz od u)
  xs : ∀ a, F.X a → ∃ o, H a = some o
  xn : ∀ n nd, st.at' n = some nd → ¬F.X (ι n)
def StOk (K : PySem.W.Frag) (F : Frm) (σ : L2.St) (env : Env) (ts : List (V × RV)) (st : Stx) (H : Hp) : Prop := ∃ ι, Ok K F ι σ env ts st H
end DM
namespace DM
open PySem PySem.Spec PyProof.Rows L2
section
variable {K : PySem.W.Frag} {F : Frm} {ι ι' : Nat → Addr} {σ : L2.St} {env : Env} {ts : List (V × RV)} {st st' : Stx} {H H' : Hp} {P P' : Addr → Prop} {p a : Addr} {o : HO} {v : V} {r : RV} {n nx nx' : Nat} {nd : Nd}

theorem RVl.keep (k : Kp P P' H H') (hn : nx ≤ nx') (hi : ∀ n, n < nx → ι' n = ι n) {r : RV} {v : V} (h : RVl K P H ι nx r v) : RVl K P' H' ι' nx' r v := by
  cases r with
  | val d => exact Vl.keep k d v h
  | ptr n => obtain ⟨h1, h2⟩ := h; exact ⟨by omega, by rw [hi n h1]; exact h2⟩
theorem RVls.keep (k : Kp P P' H H') (hn : nx ≤ nx') (hi : ∀ n, n < nx → ι' n = ι n) {rs : List RV} {vs : List V} (h : RVls K P H ι nx rs vs) : RVls K P' H' ι' nx' rs vs := by
  unfold RVls at *
  induction h with
  | nil => exact .nil
  | cons a b ih => exact .cons (a.keep k hn hi) ih
/-- the content at an address that stays -/
theorem NdAt.keep (k : Kp P P' H H') (hn : nx ≤ nx') (hi : ∀ n, n < nx → ι' n = ι n) (e : H' a = H a) {nd : Nd} (h : NdAt K P H ι nx a nd) : NdAt K P' H' ι' nx' a nd := by
  cases nd with
  | lst ds => obtain ⟨vs, h1, h2, h3⟩ := h; exact ⟨vs, by rw [e]; exact h1, h2, Vls.keep k _ _ h3⟩
  | dct lk ks ds => obtain ⟨kvs, h1, h2, h3, h4, h5⟩ := h; exact ⟨kvs, by rw [e]; exact h1, h2, h3, h4, Vls.keep k _ _ h5⟩
  | obj C ns rs => obtain ⟨dx, fvs, h1, h2, h3, h4⟩ := h; exact ⟨dx, fvs, by rw [e]; exact h1, h2, h3, RVls.keep k hn hi h4⟩
theorem NdAt.there (h : NdAt K P H ι nx a nd) : ∃ o, H a = some o := by
  cases nd with
  | lst ds => obtain ⟨vs, h1, _⟩ := h; exact ⟨_, h1⟩
  | dct lk ks ds =>
    obtain ⟨kvs, h1, _⟩ := h
    cases lk with
    | true => obtain ⟨od, h1⟩ := h1; exact ⟨_, h1⟩
    | false => exact ⟨_, h1⟩
  | obj C ns rs => obtain ⟨dx, fvs, h1, _⟩ := h; exact ⟨_, h1⟩
theorem Kp.same (s : L2.Same H H') : Kp P P H H' :=
  ⟨fun a o _ _ h => h.elim (fun h => .inl (s _ _ h)) fun ⟨od, h⟩ => .inr ⟨od, s _ _ h⟩, fun a C dx fs _ h => s _ _ h, fun a o n _ => n⟩
theorem Ok.pn (O : Ok K F ι σ env ts st H) (np : H p = none) : ¬Pf F ι st p := by
  rintro (⟨n, nd, e, rfl⟩ | h)
  · obtain ⟨o, h⟩ := (O.node n nd e).1.there
    rw [np] at h
    cases h
  · obtain ⟨o, h⟩ := O.xs p h
    rw [np] at h
    cases h
/-- what is old and not held -/
theorem Ok.nP (O : Ok K F ι σ env ts st H) (h : F.H0 a = some o) (n : ¬F.P0 a) : ¬Pof ι st a := by
  rintro ⟨m, nd, e, rfl⟩
  by_cases hm : m < F.nx0
  · exact n ⟨m, hm, O.old m nd e hm, (O.ag m hm).symm⟩
  · rw [O.new m nd e (by omega)] at h
    cases h
/-- the heap grows -/
theorem Ok.same (O : Ok K F ι σ env ts st H) (s : L2.Same H H') : Ok K F ι σ env ts st H' where
  len := O.len
  slot := fun i r e => let ⟨v, h1, h2⟩ := O.slot i r e; ⟨v, h1, h2.keep (Kp.same s) (Nat.le_refl _) fun _ _ => rfl⟩
  tmp := fun t m => (O.tmp t m).keep (Kp.same s) (Nat.le_refl _) fun _ _ => rfl
  node := fun n nd e => by
    obtain ⟨h, l⟩ := O.node n nd e
    obtain ⟨o, ho⟩ := h.there
    exact ⟨h.keep (Kp.same s) (Nat.le_refl _) (fun _ _ => rfl) (by rw [ho, s _ _ ho]), l⟩
  inj := O.inj
  hi := O.hi
  nx := O.nx
  ag := O.ag
  old := O.old
  new := O.new
  there := fun a o h => let ⟨o', h'⟩ := O.there a o h; ⟨o', s _ _ h'⟩
  frame := fun a o h n => (O.frame a o h n).elim (fun h => .inl (s _ _ h)) .inr
  lock := fun a od u m => s _ _ (O.lock a od u m)
  xs := fun a h => let ⟨o, h'⟩ := O.xs a h; ⟨o, s _ _ h'⟩
  xn := O.xn
theorem Ok.push (O : Ok K F ι σ env ts st H) (h : RVl K (Pf F ι st) H ι st.nx r v) : Ok K F ι σ env ((v, r) :: ts) st H := by
  have h' : ∀ t ∈ (v, r) :: ts, RVl K (Pf F ι st) H ι st.nx t.2 t.1 := fun t m => by
    rcases List.mem_cons.mp m with rfl | m
    · exact h
    · exact O.tmp t m
  exact { O with tmp := h' }
theorem Ok.tmps {ts' : List (V × RV)} (O : Ok K F ι σ env ts st H) (h : ∀ t ∈ ts', t ∈ ts) : Ok K F ι σ env ts' st H := { O with tmp := fun t m => O.tmp t (h t m) }
theorem Ok.get (O : Ok K F ι σ env ts st H) {i : Nat} (e : env[i]? = some (some r)) : ∃ v, σ[i]? = some (some v) ∧ Ok K F ι σ env ((v, r) :: ts) st H := let ⟨v, h1, h2⟩ := O.slot i r e; ⟨v, h1, O.push h2⟩
theorem Ok.set (O : Ok K F ι σ env ((v, r) :: ts) st H) (i : Nat) : Ok K F ι (σ.set i (some v)) (env.set i (some r)) ts st H := by
  have hs : ∀ (j : Nat) (q : RV), (env.set i (some r))[j]? = some (some q) → ∃ u, (σ.set i (some v))[j]? = some (some u) ∧ RVl K (Pf F ι st) H ι st.nx q u := fun j q e => by
    by_cases h : j = i
    · subst h
      have hj : j < env.length := by
        have := (List.getElem?_eq_some_iff.mp e).1
        rwa [List.length_set] at this
      rw [List.getElem?_set_self hj] at e
      cases e
      exact ⟨v, by rw [List.getElem?_set_self (by rw [O.len]; exact hj)], O.tmp (v, r) (List.mem_cons_self ..)⟩
    · rw [List.getElem?_set_ne (Ne.symm h)] at e
      obtain ⟨u, h1, h2⟩ := O.slot j q e
      exact ⟨u, by rw [List.getElem?_set_ne (Ne.symm h)]; exact h1, h2⟩
  have hl : (σ.set i (some v)).length = (env.set i (some r)).length := by rw [List.length_set, List.length_set]; exact O.len
  exact { O with len := hl, slot := hs, tmp := fun t m => O.tmp t (List.mem_cons_of_mem _ m) }
/-- a slot is forgotten -/
theorem Ok.unset {σ' : L2.St} {env' : Env} (O : Ok K F ι σ env ts st H) (hl : σ'.length = env'.length) (h : ∀ (i : Nat) (r : RV), env'[i]? = some (some r) → env[i]? = some (some r) ∧ σ'[i]? = σ[i]?) : Ok K F ι σ' env' ts st H := by
  have hs : ∀ (i : Nat) (r : RV), env'[i]? = some (some r) → ∃ v, σ'[i]? = some (some v) ∧ RVl K (Pf F ι st) H ι st.nx r v := fun i r e => by
    obtain ⟨h1, h2⟩ := h i r e
    rw [h2]
    exact O.slot i r h1
  exact { O with len := hl, slot := hs }
def Stx.push (st : Stx) (nd : Nd) : Stx := { nx := st.nx + 1, hi := st.hi, at' := fun n => if n = st.nx then some nd else st.at' n }
def Stx.set (st : Stx) (n : Nat) (nd : Nd) : Stx := { st with at' := fun m => if m = n then some nd else st.at' m }
def Stx.del (st : Stx) (n : Nat) : Stx := { st with at' := fun m => if m = n then none else st.at' m }
def Stx.up (st : Stx) (k : Nat) : Stx := { st with hi := max st.hi k }
/-- a new thing is laid and held -/
theorem Ok.alloc (O : Ok K F ι σ env ts st H) (s : L2.Same H H') (np : H p = none) (h : ∀ ι', (∀ n, n < st.nx → ι' n = ι n) → ι' st.nx = p → Kp (Pf F ι st) (Pf F ι' (st.push nd)) H H' → NdAt K (Pf F ι' (st.push nd)) H' ι' st.hi p nd) :
    ∃ ι', Ok K F ι' σ env ((.ref p, .ptr st.nx) :: ts) (st.push nd) H' := by
  let ι' : Nat → Addr := fun n => if n = st.nx then p else ι n
  have e1 : ∀ n, n < st.nx → ι' n = ι n := fun n h => if_neg (by omega)
  have e2 : ι' st.nx = p := if_pos rfl
  have k : Kp (Pf F ι st) (Pf F ι' (st.push nd)) H H' := by
    refine ⟨fun a o _ _ h => h.elim (fun h => .inl (s _ _ h)) fun ⟨od, h⟩ => .inr ⟨od, s _ _ h⟩, fun a C dx fs _ h => s _ _ h, fun a o n h => ?_⟩
    rintro (⟨m, nd', e, rfl⟩ | hx)
    · by_cases hm : m = st.nx
      · rw [hm, e2, np] at h; cases h
      · have e' : st.at' m = some nd' := by
          have : (st.push nd).at' m = st.at' m := if_neg hm
          rw [← this]; exact e
        have := (O.node m nd' e').2
        exact n (.inl ⟨m, nd', e', (e1 m this).symm⟩)
    · exact n (.inr hx)
  have ats : ∀ m nd', (st.push nd).at' m = some nd' → (m = st.nx ∧ nd' = nd) ∨ (m < st.nx ∧ st.at' m = some nd') := fun m nd' e => by
    by_cases hm : m = st.nx
    · subst hm
      have : (st.push nd).at' st.nx = some nd := if_pos rfl
      rw [this] at e
      exact .inl ⟨rfl, (Option.some.inj e).symm⟩
    · have : (st.push nd).at' m = st.at' m := if_neg hm
      rw [this] at e
      exact .inr ⟨(O.node m nd' e).2, e⟩
  refine ⟨ι', ⟨O.len, fun i r e => ?_, fun t m => ?_, fun n nd' e => ?_, fun n m nd1 nd2 h1 h2 h3 => ?_, ?_, ?_, fun n h => ?_, fun n nd' e h => ?_, fun n nd' e h => ?_, fun a o h => ?_, fun a o h n => ?_, fun a od u m => ?_, fun a h => ?_, fun n nd' e hx => ?_⟩⟩
  · obtain ⟨v, h1, h2⟩ := O.slot i r e
    exact ⟨v, h1, h2.keep k (Nat.le_succ _) e1⟩
  · rcases List.mem_cons.mp m with rfl | m
    · exact ⟨Nat.lt_succ_self _, by rw [e2]⟩
    · exact (O.tmp t m).keep k (Nat.le_succ _) e1
  · rcases ats n nd' e with ⟨rfl, rfl⟩ | ⟨hn, e'⟩
    · exact ⟨by rw [e2]; exact h ι' e1 e2 k, Nat.lt_succ_self _⟩
    · obtain ⟨q, l⟩ := O.node n nd' e'
      obtain ⟨o, ho⟩ := q.there
      refine ⟨?_, Nat.lt_succ_of_lt hn⟩
      rw [e1 n hn]
      exact q.keep k (Nat.le_refl _) (fun n hn => e1 n (Nat.lt_of_lt_of_le hn O.hi)) (by rw [ho, s _ _ ho])
  · rcases ats n nd1 h1 with ⟨rfl, rfl⟩ | ⟨hn, e'⟩
    · rcases ats m nd2 h2 with ⟨rfl, rfl⟩ | ⟨hm, e''⟩
      · rfl
      · rw [e2, e1 m hm] at h3
        exact (O.pn np (.inl ⟨m, nd2, e'', h3.symm⟩)).elim
    · rcases ats m nd2 h2 with ⟨rfl, rfl⟩ | ⟨hm, e''⟩
      · rw [e2, e1 n hn] at h3
        exact (O.pn np (.inl ⟨n, nd1, e', h3⟩)).elim
      · rw [e1 n hn, e1 m hm] at h3
        exact O.inj n m nd1 nd2 e' e'' h3
  · exact Nat.le_succ_of_le O.hi
  · exact Nat.le_succ_of_le O.nx
  · rw [e1 n (Nat.lt_of_lt_of_le h O.nx)]
    exact O.ag n h
  · rcases ats n nd' e with ⟨rfl, rfl⟩ | ⟨hn, e'⟩
    · have := O.nx; omega
    · exact O.old n nd' e' h
  · rcases ats n nd' e with ⟨rfl, rfl⟩ | ⟨hn, e'⟩
    · rw [e2]
      cases q : F.H0 p with
      | none => rfl
      | some o => obtain ⟨o', h'⟩ := O.there p o q; rw [np] at h'; cases h'
    · rw [e1 n hn]
      exact O.new n nd' e' h
  · obtain ⟨o', h'⟩ := O.there a o h
    exact ⟨o', s _ _ h'⟩
  · exact (O.frame a o h n).elim (fun h => .inl (s _ _ h)) .inr
  · exact s _ _ (O.lock a od u m)
  · obtain ⟨o, h'⟩ := O.xs a h
    exact ⟨o, s _ _ h'⟩
  · rcases ats n nd' e with ⟨rfl, rfl⟩ | ⟨hn, e'⟩
    · rw [e2] at hx
      exact O.pn np (.inr hx)
    · rw [e1 n hn] at hx
      exact O.xn n nd' e' hx
/-- a held thing is changed -/
theorem Ok.write {nd' : Nd} (O : Ok K F ι σ env ts st H) (e : st.at' n = some nd) {u : HO} (hu : H (ι n) = some u) (nf : ∀ od w, u ≠ .frz od w)
    (h : Kp (Pf F ι st) (Pf F ι (st.set n nd')) H (upd H (ι n) o) → NdAt K (Pf F ι (st.set n nd')) (upd H (ι n) o) ι st.hi (ι n) nd') : Ok K F ι σ env ts (st.set n nd') (upd H (ι n) o) := by
  have ats : ∀ m nd1, (st.set n nd').at' m = some nd1 → (m = n ∧ nd1 = nd') ∨ (m ≠ n ∧ st.at' m = some nd1) := fun m nd1 e1 => by
    by_cases hm : m = n
    · subst hm
      have : (st.set m nd').at' m = some nd' := if_pos rfl
      rw [this] at e1
      exact .inl ⟨rfl, (Option.some.inj e1).symm⟩
    · have : (st.set n nd').at' m = st.at' m := if_neg hm
      rw [this] at e1
      exact .inr ⟨hm, e1⟩
  have some_of : ∀ m nd1, (st.set n nd').at' m = some nd1 → ∃ nd2, st.at' m = some nd2 := fun m nd1 e1 => by
    rcases ats m nd1 e1 with ⟨rfl, _⟩ | ⟨_, h⟩
    · exact ⟨nd, e⟩
    · exact ⟨_, h⟩
  have hP : ∀ a, Pof ι (st.set n nd') a → Pof ι st a := fun a ⟨m, nd1, e1, ea⟩ => let ⟨nd2, h⟩ := some_of m nd1 e1; ⟨m, nd2, h, ea⟩
  have nP0 : ∀ a, ¬Pof ι st a → a ≠ ι n := fun a h z => h ⟨n, nd, e, z.symm⟩
  have nP : ∀ a, ¬Pf F ι st a → a ≠ ι n := fun a h => nP0 a fun z => h (.inl z)
  have k : Kp (Pf F ι st) (Pf F ι (st.set n nd')) H (upd H (ι n) o) := ⟨fun a o' _ hn h => by
      rcases h with h | ⟨od, h⟩
      · exact .inl (by rw [upd_ne (nP a hn)]; exact h)
      · exact .inr ⟨od, by rw [upd_ne (nP a hn)]; exact h⟩, fun a C dx fs hn h => by rw [upd_ne (nP a hn)]; exact h, fun a o' hn h q => hn (q.elim (fun q => .inl (hP a q)) .inr)⟩
  have oldne : ∀ a o', F.H0 a = some o' → ¬F.P0 a → a ≠ ι n := fun a o' h1 h2 => nP0 a (O.nP h1 h2)
  refine ⟨O.len, fun i r e => ?_, fun t m => ?_, fun m nd1 e1 => ?_, fun n1 m1 nd1 nd2 h1 h2 h3 => ?_, O.hi, O.nx, O.ag, fun m nd1 e1 h1 => ?_, fun m nd1 e1 h1 => ?_, fun a o' h1 => ?_, fun a o' h1 h2 => ?_, fun a od w m => ?_, fun a h1 => ?_, fun m nd1 e1 h1 => ?_⟩
  · obtain ⟨v, h1, h2⟩ := O.slot i r e
    exact ⟨v, h1, h2.keep k (Nat.le_refl _) fun _ _ => rfl⟩
  · exact (O.tmp t m).keep k (Nat.le_refl _) fun _ _ => rfl
  · rcases ats m nd1 e1 with ⟨rfl, rfl⟩ | ⟨hm, e2⟩
    · exact ⟨h k, (O.node m nd e).2⟩
    · obtain ⟨q, l⟩ := O.node m nd1 e2
      exact ⟨q.keep k (Nat.le_refl _) (fun _ _ => rfl) (upd_ne fun z => hm (O.inj m n nd1 nd e2 e z)), l⟩
  · obtain ⟨nd3, h4⟩ := some_of n1 nd1 h1
    obtain ⟨nd4, h5⟩ := some_of m1 nd2 h2
    exact O.inj n1 m1 nd3 nd4 h4 h5 h3
  · obtain ⟨nd2, h⟩ := some_of m nd1 e1
    exact O.old m nd2 h h1
  · obtain ⟨nd2, h⟩ := some_of m nd1 e1
    exact O.new m nd2 h h1
  · obtain ⟨o2, h3⟩ := O.there a o' h1
    by_cases z : a = ι n
    · subst z; exact ⟨_, upd_same⟩
    · exact ⟨o2, by rw [upd_ne z]; exact h3⟩
  · rcases O.frame a o' h1 h2 with h3 | h3
    · exact .inl (by rw [upd_ne (oldne a o' h1 h2)]; exact h3)
    · exact .inr h3
  · have := O.lock a od w m
    by_cases z : a = ι n
    · subst z
      rw [hu] at this
      exact (nf _ _ (Option.some.inj this)).elim
    · rw [upd_ne z]; exact this
  · obtain ⟨o2, h3⟩ := O.xs a h1
    by_cases z : a = ι n
    · subst z; exact ⟨_, upd_same⟩
    · exact ⟨o2, by rw [upd_ne z]; exact h3⟩
  · obtain ⟨nd2, h⟩ := some_of m nd1 e1
    exact O.xn m nd2 h h1
theorem Ok.writeU {nd' : Nd} (O : Ok K F ι σ env ts st H) (e : st.at' n = some nd) (hlk : ∀ od w, (ι n, od, w) ∉ F.L ++ F.Li)
    (h : Kp (Pf F ι st) (Pf F ι (st.set n nd')) H (upd H (ι n) o) → NdAt K (Pf F ι (st.set n nd')) (upd H (ι n) o) ι st.hi (ι n) nd') : Ok K F ι σ env ts (st.set n nd') (upd H (ι n) o) := by
  have ats : ∀ m nd1, (st.set n nd').at' m = some nd1 → (m = n ∧ nd1 = nd') ∨ (m ≠ n ∧ st.at' m = some nd1) := fun m nd1 e1 => by
    by_cases hm : m = n
    · subst hm
      have : (st.set m nd').at' m = some nd' := if_pos rfl
      rw [this] at e1
      exact .inl ⟨rfl, (Option.some.inj e1).symm⟩
    · have : (st.set n nd').at' m = st.at' m := if_neg hm
      rw [this] at e1
      exact .inr ⟨hm, e1⟩
  have some_of : ∀ m nd1, (st.set n nd').at' m = some nd1 → ∃ nd2, st.at' m = some nd2 := fun m nd1 e1 => by
    rcases ats m nd1 e1 with ⟨rfl, _⟩ | ⟨_, h⟩
    · exact ⟨nd, e⟩
    · exact ⟨_, h⟩
  have hP : ∀ a, Pof ι (st.set n nd') a → Pof ι st a := fun a ⟨m, nd1, e1, ea⟩ => let ⟨nd2, h⟩ := some_of m nd1 e1; ⟨m, nd2, h, ea⟩
  have nP0 : ∀ a, ¬Pof ι st a → a ≠ ι n := fun a h z => h ⟨n, nd, e, z.symm⟩
  have nP : ∀ a, ¬Pf F ι st a → a ≠ ι n := fun a h => nP0 a fun z => h (.inl z)
  have k : Kp (Pf F ι st) (Pf F ι (st.set n nd')) H (upd H (ι n) o) := ⟨fun a o' _ hn h => by
      rcases h with h | ⟨od, h⟩
      · exact .inl (by rw [upd_ne (nP a hn)]; exact h)
      · exact .inr ⟨od, by rw [upd_ne (nP a hn)]; exact h⟩, fun a C dx fs hn h => by rw [upd_ne (nP a hn)]; exact h, fun a o' hn h q => hn (q.elim (fun q => .inl (hP a q)) .inr)⟩
  have oldne : ∀ a o', F.H0 a = some o' → ¬F.P0 a → a ≠ ι n := fun a o' h1 h2 => nP0 a (O.nP h1 h2)
  refine ⟨O.len, fun i r e => ?_, fun t m => ?_, fun m nd1 e1 => ?_, fun n1 m1 nd1 nd2 h1 h2 h3 => ?_, O.hi, O.nx, O.ag, fun m nd1 e1 h1 => ?_, fun m nd1 e1 h1 => ?_, fun a o' h1 => ?_, fun a o' h1 h2 => ?_, fun a od w m => ?_, fun a h1 => ?_, fun m nd1 e1 h1 => ?_⟩
  · obtain ⟨v, h1, h2⟩ := O.slot i r e
    exact ⟨v, h1, h2.keep k (Nat.le_refl _) fun _ _ => rfl⟩
  · exact (O.tmp t m).keep k (Nat.le_refl _) fun _ _ => rfl
  · rcases ats m nd1 e1 with ⟨rfl, rfl⟩ | ⟨hm, e2⟩
    · exact ⟨h k, (O.node m nd e).2⟩
    · obtain ⟨q, l⟩ := O.node m nd1 e2
      exact ⟨q.keep k (Nat.le_refl _) (fun _ _ => rfl) (upd_ne fun z => hm (O.inj m n nd1 nd e2 e z)), l⟩
  · obtain ⟨nd3, h4⟩ := some_of n1 nd1 h1
    obtain ⟨nd4, h5⟩ := some_of m1 nd2 h2
    exact O.inj n1 m1 nd3 nd4 h4 h5 h3
  · obtain ⟨nd2, h⟩ := some_of m nd1 e1
    exact O.old m nd2 h h1
  · obtain ⟨nd2, h⟩ := some_of m nd1 e1
    exact O.new m nd2 h h1
  · obtain ⟨o2, h3⟩ := O.there a o' h1
    by_cases z : a = ι n
    · subst z; exact ⟨_, upd_same⟩
    · exact ⟨o2, by rw [upd_ne z]; exact h3⟩
  · rcases O.frame a o' h1 h2 with h3 | h3
    · exact .inl (by rw [upd_ne (oldne a o' h1 h2)]; exact h3)
    · exact .inr h3
  · have := O.lock a od w m
    by_cases z : a = ι n
    · subst z
      exact (hlk _ _ m).elim
    · rw [upd_ne z]; exact this
  · obtain ⟨o2, h3⟩ := O.xs a h1
    by_cases z : a = ι n
    · subst z; exact ⟨_, upd_same⟩
    · exact ⟨o2, by rw [upd_ne z]; exact h3⟩
  · obtain ⟨nd2, h⟩ := some_of m nd1 e1
    exact O.xn m nd2 h h1
theorem Pof.del {ι : Nat → Addr} {st : Stx} {n : Nat} : ∀ a, Pof ι (st.del n) a → Pof ι st a := fun a ⟨m, nd, e, ea⟩ => by
  by_cases hm : m = n
  · subst hm
    have : (st.del m).at' m = none := if_pos rfl
    rw [this] at e; cases e
  · have : (st.del n).at' m = st.at' m := if_neg hm
    rw [this] at e
    exact ⟨m, nd, e, ea⟩
/-- a held thing is held no longer -/
theorem Ok.del (O : Ok K F ι σ env ts st H) (n : Nat) : Ok K F ι σ env ts (st.del n) H := by
  have at_ : ∀ m nd, (st.del n).at' m = some nd → st.at' m = some nd ∧ m ≠ n := fun m nd e => by
    by_cases hm : m = n
    · subst hm
      have : (st.del m).at' m = none := if_pos rfl
      rw [this] at e; cases e
    · have : (st.del n).at' m = st.at' m := if_neg hm
      rw [this] at e
      exact ⟨e, hm⟩
  have k : Kp (Pf F ι st) (Pf F ι (st.del n)) H H := ⟨fun _ _ _ _ h => h, fun _ _ _ _ _ h => h, fun a o h _ q => h (q.elim (fun q => .inl (Pof.del a q)) .inr)⟩
  exact ⟨O.len, fun i r e => let ⟨v, h1, h2⟩ := O.slot i r e; ⟨v, h1, h2.keep k (Nat.le_refl _) fun _ _ => rfl⟩, fun t m => (O.tmp t m).keep k (Nat.le_refl _) fun _ _ => rfl,
    fun m nd e => let ⟨q, l⟩ := O.node m nd (at_ m nd e).1; ⟨q.keep k (Nat.le_refl _) (fun _ _ => rfl) rfl, l⟩, fun a b c d h1 h2 h3 => O.inj a b c d (at_ _ _ h1).1 (at_ _ _ h2).1 h3, O.hi, O.nx, O.ag,
    fun m nd e h => O.old m nd (at_ m nd e).1 h, fun m nd e h => O.new m nd (at_ m nd e).1 h, O.there, O.frame, O.lock, O.xs, fun m nd e => O.xn m nd (at_ m nd e).1⟩
/-- the content of a held thing as data -/
def allV : List RV → Option (List D)
  | [] => some []
  | .val d :: r => (allV r).map (d :: ·)
  | .ptr _ :: _ => none
def Nd.data : Nd → Option D
  | .lst ds => some (.lst ds)
  | .dct _ ks ds => some (.dct ks ds)
  | .obj C ns rs => (allV rs).map (.obj C ns ·)
theorem allV_vls : ∀ {rs : List RV} {vs : List V} {ds : List D}, RVls K P H ι nx rs vs → allV rs = some ds → Vls K P H ds vs
  | [], _, _, h, e => by
    cases e
    cases h
    rfl
  | .val d :: r, vs, ds, h, e => by
    cases h with
    | cons a b =>
      unfold allV at e
      cases q : allV r with
      | none => rw [q] at e; cases e
      | some es =>
        rw [q] at e
        cases e
        exact ⟨_, _, rfl, a, allV_vls b q⟩
  | .ptr n :: r, _, _, _, e => by cases e
theorem Ok.frz {d : D} (O : Ok K F ι σ env ts st H) (e : st.at' n = some nd) (hd : nd.data = some d) (hn : n < st.nx) : Ok K F ι σ env ((.ref (ι n), .val d) :: ts) (st.del n) H := by
  refine (O.del n).push ?_
  have nP : ¬Pf F ι (st.del n) (ι n) := by
    rintro (⟨m, nd', e', ea⟩ | hx)
    · by_cases hm : m = n
      · subst hm
        have : (st.del m).at' m = none := if_pos rfl
        rw [this] at e'; cases e'
      · have : (st.del n).at' m = st.at' m := if_neg hm
        rw [this] at e'
        exact hm (O.inj m n nd' nd e' e ea)
    · exact O.xn n nd e hx
  have k : Kp (Pf F ι st) (Pf F ι (st.del n)) H H := ⟨fun _ _ _ _ h => h, fun _ _ _ _ _ h => h, fun a o h _ q => h (q.elim (fun q => .inl (Pof.del a q)) .inr)⟩
  obtain ⟨q, _⟩ := O.node n nd e
  cases nd with
  | lst ds =>
    cases hd
    obtain ⟨vs, h1, h2, h3⟩ := q
    exact ⟨_, vs, rfl, .inl ⟨nP, .inl h1⟩, h2, Vls.keep k _ _ h3⟩
  | dct lk ks ds =>
    cases hd
    obtain ⟨kvs, h1, h2, h3, h4, h5⟩ := q
    refine ⟨_, kvs, rfl, ⟨nP, ?_⟩, h2, h3, h4, Vls.keep k _ _ h5⟩
    cases lk with
    | true => obtain ⟨od, h1⟩ := h1; exact .inr ⟨od, h1⟩
    | false => exact .inl h1
  | obj C ns rs =>
    obtain ⟨dx, fvs, h1, h2, h3, h4⟩ := q
    have hd : (allV rs).map (D.obj C ns ·) = some d := hd
    cases qq : allV rs with
    | none => rw [qq] at hd; cases hd
    | some ds =>
      rw [qq] at hd
      cases hd
      exact ⟨_, dx, fvs, rfl, nP, h1, h2, Vls.keep k _ _ (allV_vls h4 qq)⟩
end
end DM
namespace DM
open PySem PySem.Spec PyProof.Rows L2
section
variable {K : PySem.W.Frag} {F : Frm} {ι ι' : Nat → Addr} {σ σ' : L2.St} {env env' : Env} {ts ts' : List (V × RV)} {st st' st0 : Stx} {H H' : Hp} {p a : Addr} {o : HO} {v : V} {r : RV} {n : Nat} {nd : Nd}

def Frm.callee (F : Frm) (st : Stx) (ι : Nat → Addr) (H : Hp) : Frm := ⟨H, fun n => st.at' n ≠ none, ι, st.nx, F.L ++ F.Li, [], F.X⟩
theorem Ok.p0 (O : Ok K F ι σ env ts st H) : ∀ a, (F.callee st ι H).P0 a → Pof ι st a := fun a ⟨n, h1, h2, h3⟩ => by
  cases e : st.at' n with
  | none => exact (h2 e).elim
  | some nd => exact ⟨n, nd, e, h3⟩
theorem Ok.kcall (O : Ok K F ι σ env ts st H) (O' : Ok K (F.callee st ι H) ι' σ' env' ts' st' H') : Kp (Pf F ι st) (Pf F ι' st') H H' := by
  have fr : ∀ a o, ¬Pof ι st a → H a = some o → H' a = some o := fun a o n h => by
    rcases O'.frame a o h (fun q => n (O.p0 a q)) with h | ⟨_, h⟩
    · exact h
    · cases h
  have np : ∀ a, ¬Pf F ι st a → ¬Pof ι st a := fun a h z => h (.inl z)
  refine ⟨fun a o _ n h => ?_, fun a C dx fs n h => fr a _ (np a n) h, fun a o n h => ?_⟩
  · rcases h with h | ⟨od, h⟩
    · exact .inl (fr a _ (np a n) h)
    · exact .inr ⟨od, fr a _ (np a n) h⟩
  · rintro (⟨m, nd, e, rfl⟩ | hx)
    · by_cases hm : m < st.nx
      · have h1 := O'.old m nd e hm
        have h2 := O'.ag m hm
        refine n (.inl ?_)
        rw [h2]
        exact O.p0 _ ⟨m, hm, h1, rfl⟩
      · have h1 := O'.new m nd e (by show st.nx ≤ m; omega)
        rw [show (F.callee st ι H).H0 (ι' m) = H (ι' m) from rfl, h] at h1
        cases h1
    · exact n (.inr hx)
/-- behind a call -/
theorem Ok.call (O : Ok K F ι σ env ts st H) (O' : Ok K (F.callee st ι H) ι' σ' env' ts' st' H') : Ok K F ι' σ env (ts' ++ ts) st' H' := by
  have k := O.kcall O'
  have nxle : st.nx ≤ st'.nx := O'.nx
  have ag : ∀ n, n < st.nx → ι' n = ι n := O'.ag
  have fr : ∀ a o, ¬Pof ι st a → H a = some o → H' a = some o := fun a o n h => by
    rcases O'.frame a o h (fun q => n (O.p0 a q)) with h | ⟨_, h⟩
    · exact h
    · cases h
  refine ⟨O.len, fun i r e => ?_, fun t m => ?_, O'.node, O'.inj, O'.hi, Nat.le_trans O.nx nxle, fun n h => ?_, fun n nd e h => ?_, fun n nd e h => ?_, fun a o h => ?_, fun a o h n => ?_, fun a od u m => ?_, O'.xs, O'.xn⟩
  · obtain ⟨v, h1, h2⟩ := O.slot i r e
    exact ⟨v, h1, h2.keep k nxle ag⟩
  · rcases List.mem_append.mp m with m | m
    · exact O'.tmp t m
    · exact (O.tmp t m).keep k nxle ag
  · rw [ag n (Nat.lt_of_lt_of_le h O.nx)]
    exact O.ag n h
  · have h1 := O'.old n nd e (Nat.lt_of_lt_of_le h O.nx)
    cases q : st.at' n with
    | none => exact (h1 q).elim
    | some nd' => exact O.old n nd' q h
  · by_cases hn : n < st.nx
    · have h1 := O'.old n nd e hn
      cases q : st.at' n with
      | none => exact (h1 q).elim
      | some nd' => rw [ag n hn]; exact O.new n nd' q h
    · have h1 : H (ι' n) = none := O'.new n nd e (by show st.nx ≤ n; omega)
      cases q : F.H0 (ι' n) with
      | none => rfl
      | some o => obtain ⟨o', h'⟩ := O.there _ o q; rw [h1] at h'; cases h'
  · obtain ⟨o', h'⟩ := O.there a o h
    exact O'.there a o' h'
  · rcases O.frame a o h n with h1 | h1
    · exact .inl (fr a o (O.nP h n) h1)
    · exact .inr h1
  · exact O'.lock a od u m
/-- at a call's start -/
theorem Ok.start (O : Ok K F ι σ env ts st H) (hl : σ'.length = env'.length) (h : ∀ (i : Nat) (r : RV), env'[i]? = some (some r) → ∃ v, σ'[i]? = some (some v) ∧ (v, r) ∈ ts) : Ok K (F.callee st ι H) ι σ' env' [] st H where
  len := hl
  slot := fun i r e => let ⟨v, h1, h2⟩ := h i r e; ⟨v, h1, O.tmp _ h2⟩
  tmp := fun _ m => nomatch m
  node := O.node
  inj := O.inj
  hi := O.hi
  nx := Nat.le_refl _
  ag := fun _ _ => rfl
  old := fun n nd e _ => by show st.at' n ≠ none; rw [e]; exact fun z => nomatch z
  new := fun n nd e h => absurd (O.node n nd e).2 (Nat.not_lt.mpr h)
  there := fun a o h => ⟨o, h⟩
  frame := fun a o h _ => .inl h
  lock := fun a od u m => O.lock a od u (by simpa [Frm.callee] using m)
  xs := O.xs
  xn := O.xn

def Stx.clean (st0 st : Stx) : Stx := { nx := st0.nx, hi := st0.hi, at' := fun n => if n < st0.nx then st.at' n else st0.at' n }
def fin (st0 st : Stx) (r : RV) : RV × Stx :=
  if st.hi = st0.hi then
    match r with
    | .val d => (.val d, st0.clean st)
    | .ptr n => if n < st0.nx then (.ptr n, st0.clean st) else
      match st.at' n with
      | some nd => (.ptr st0.nx, (st0.clean st).push nd)
      | none => (r, st)
  else (r, st)
theorem Ok.clean (O : Ok K F ι σ env [] st H) (hn : F.nx0 = st0.nx) (h0 : st0.hi ≤ st0.nx) (hw : ∀ n, st0.nx ≤ n → st0.at' n = none) (hh : st.hi = st0.hi) : Ok K F ι [] [] [] (st0.clean st) H := by
  have at_ : ∀ m nd, (st0.clean st).at' m = some nd → st.at' m = some nd ∧ m < st0.nx := fun m nd e => by
    by_cases hm : m < st0.nx
    · have : (st0.clean st).at' m = st.at' m := if_pos hm
      rw [this] at e
      exact ⟨e, hm⟩
    · have : (st0.clean st).at' m = st0.at' m := if_neg hm
      rw [this, hw m (by omega)] at e
      cases e
  have k : Kp (Pf F ι st) (Pf F ι (st0.clean st)) H H := ⟨fun _ _ _ _ h => h, fun _ _ _ _ _ h => h, fun a o h _ q => h (q.elim (fun ⟨m, nd, e, ea⟩ => .inl ⟨m, nd, (at_ m nd e).1, ea⟩) .inr)⟩
  refine ⟨rfl, fun i r e => by simp at e, fun _ m => (List.not_mem_nil m).elim, fun m nd e => ⟨?_, (at_ m nd e).2⟩, fun a b c d h1 h2 h3 => O.inj a b c d (at_ _ _ h1).1 (at_ _ _ h2).1 h3, h0, Nat.le_of_eq hn, O.ag,
    fun m nd e h => O.old m nd (at_ m nd e).1 h, fun m nd e h => O.new m nd (at_ m nd e).1 h, O.there, O.frame, O.lock, O.xs, fun m nd e => O.xn m nd (at_ m nd e).1⟩
  exact (O.node m nd (at_ m nd e).1).1.keep k (Nat.le_of_eq hh) (fun _ _ => rfl) rfl
theorem Ok.clean_k (O : Ok K F ι σ env ts st H) (hw : ∀ n, st0.nx ≤ n → st0.at' n = none) : Kp (Pf F ι st) (Pf F ι (st0.clean st)) H H := by
  refine ⟨fun _ _ _ _ h => h, fun _ _ _ _ _ h => h, fun a o h _ => ?_⟩
  rintro (⟨m, nd, e, ea⟩ | hx)
  · refine h (.inl ⟨m, nd, ?_, ea⟩)
    by_cases hm : m < st0.nx
    · have : (st0.clean st).at' m = st.at' m := if_pos hm
      rw [this] at e; exact e
    · have : (st0.clean st).at' m = st0.at' m := if_neg hm
      rw [this, hw m (by omega)] at e; cases e
  · exact h (.inr hx)
theorem Ok.fin (O : Ok K F ι σ env [(v, r)] st H) (hn : F.nx0 = st0.nx) (h0 : st0.hi ≤ st0.nx) (hw : ∀ n, st0.nx ≤ n → st0.at' n = none) : ∃ ι', Ok K F ι' [] [] [(v, (fin st0 st r).1)] (fin st0 st r).2 H := by
  have O0 : Ok K F ι [] [] [(v, r)] st H := O.unset rfl (fun i r e => by simp at e)
  by_cases hh : st.hi = st0.hi
  · have C := (O.tmps (ts' := []) (fun t m => (List.not_mem_nil m).elim)).clean hn h0 hw hh
    have hr := O.tmp _ (List.mem_cons_self ..)
    have k := O.clean_k (st0 := st0) hw
    cases r with
    | val d =>
      refine ⟨ι, ?_⟩
      unfold DM.fin
      rw [if_pos hh]
      exact C.push (Vl.keep k d v hr)
    | ptr n =>
      obtain ⟨h1, rfl⟩ := hr
      by_cases hm : n < st0.nx
      · refine ⟨ι, ?_⟩
        unfold DM.fin
        rw [if_pos hh]
        simp only [if_pos hm]
        exact C.push ⟨hm, rfl⟩
      · cases q : st.at' n with
        | none =>
          refine ⟨ι, ?_⟩
          unfold DM.fin
          rw [if_pos hh]
          simp only [if_neg hm, q]
          exact O0
        | some nd =>
          let ι' : Nat → Addr := fun m => if m = st0.nx then ι n else ι m
          have e1 : ∀ m, m < st0.nx → ι' m = ι m := fun m h => if_neg (by omega)
          have e2 : ι' st0.nx = ι n := if_pos rfl
          have fe : DM.fin st0 st (.ptr n) = (.ptr st0.nx, (st0.clean st).push nd) := by
            unfold DM.fin
            rw [if_pos hh]
            simp only [if_neg hm, q]
          refine ⟨ι', ?_⟩
          rw [fe]
          have ats : ∀ m nd', ((st0.clean st).push nd).at' m = some nd' → (m = st0.nx ∧ nd' = nd) ∨ (m < st0.nx ∧ st.at' m = some nd') := fun m nd' e => by
            by_cases hm' : m = st0.nx
            · subst hm'
              have : ((st0.clean st).push nd).at' st0.nx = some nd := if_pos rfl
              rw [this] at e
              exact .inl ⟨rfl, (Option.some.inj e).symm⟩
            · have : ((st0.clean st).push nd).at' m = (st0.clean st).at' m := if_neg hm'
              rw [this] at e
              by_cases hm2 : m < st0.nx
              · have : (st0.clean st).at' m = st.at' m := if_pos hm2
                rw [this] at e; exact .inr ⟨hm2, e⟩
              · have : (st0.clean st).at' m = st0.at' m := if_neg hm2
                rw [this, hw m (by omega)] at e; cases e
          have src : ∀ m nd', ((st0.clean st).push nd).at' m = some nd' → ∃ j, st.at' j = some nd' ∧ ι' m = ι j ∧ ((m = st0.nx ∧ j = n) ∨ (m < st0.nx ∧ j = m)) := fun m nd' e => by
            rcases ats m nd' e with ⟨rfl, rfl⟩ | ⟨h, e'⟩
            · exact ⟨n, q, e2, .inl ⟨rfl, rfl⟩⟩
            · exact ⟨m, e', e1 m h, .inr ⟨h, rfl⟩⟩
          have k2 : Kp (Pf F ι st) (Pf F ι' ((st0.clean st).push nd)) H H := by
            refine ⟨fun _ _ _ _ h => h, fun _ _ _ _ _ h => h, fun a o h _ => ?_⟩
            rintro (⟨m, nd', e, ea⟩ | hx)
            · obtain ⟨j, h2, h3, _⟩ := src m nd' e
              exact h (.inl ⟨j, nd', h2, by rw [← h3]; exact ea⟩)
            · exact h (.inr hx)
          refine ⟨rfl, fun i r e => by simp at e, fun t m => ?_, fun m nd' e => ?_, fun a b c d h1 h2 h3 => ?_, Nat.le_succ_of_le h0, ?_, fun m h => ?_, fun m nd' e h => ?_, fun m nd' e h => ?_, O.there, O.frame, O.lock, O.xs, fun m nd' e => ?_⟩
          · rw [List.mem_singleton.mp m]
            exact ⟨Nat.lt_succ_self _, by rw [e2]⟩
          · obtain ⟨j, h2, h3, h4⟩ := src m nd' e
            refine ⟨?_, ?_⟩
            · rw [h3]
              exact (O.node j nd' h2).1.keep k2 (Nat.le_of_eq hh) (fun i hi => e1 i (by omega)) rfl
            · show m < st0.nx + 1
              omega
          · obtain ⟨i, p1, p2, p3⟩ := src a c h1
            obtain ⟨j, q1, q2, q3⟩ := src b d h2
            rw [p2, q2] at h3
            have := O.inj i j c d p1 q1 h3
            omega
          · rw [hn]; exact Nat.le_succ _
          · rw [e1 m (by omega)]
            exact O.ag m h
          · obtain ⟨j, h2, h3, h4⟩ := src m nd' e
            rcases h4 with ⟨z, _⟩ | ⟨_, z⟩
            · omega
            · subst z; exact O.old j nd' h2 h
          · obtain ⟨j, h2, h3, h4⟩ := src m nd' e
            rw [h3]
            rcases h4 with ⟨_, z⟩ | ⟨z, _⟩
            · subst z; exact O.new j nd' h2 (by omega)
            · omega
          · obtain ⟨j, h2, h3, h4⟩ := src m nd' e
            rw [h3]
            exact O.xn j nd' h2
  · refine ⟨ι, ?_⟩
    unfold DM.fin
    rw [if_neg hh]
    exact O0
theorem Ok.lck {od : Obj} {kvs : List (Key × V)} (O : Ok K F ι σ env ts st H) (hn : ¬Pf F ι st a) (ha : H a = some (.dK kvs)) : Ok K { F with L := (a, od, .dK kvs) :: F.L } ι σ env ts st (upd H a (.frz od (.dK kvs))) := by
  have k : Kp (Pf F ι st) (Pf F ι st) H (upd H a (.frz od (.dK kvs))) := ⟨fun b o nf _ h => by
      by_cases hb : b = a
      · subst hb
        rcases h with h | ⟨od', h⟩
        · rw [ha] at h; cases h; exact .inr ⟨od, upd_same⟩
        · rw [ha] at h; cases h
      · rcases h with h | ⟨od', h⟩
        · exact .inl (by rw [upd_ne hb]; exact h)
        · exact .inr ⟨od', by rw [upd_ne hb]; exact h⟩,
    fun b C dx fs _ h => by rw [upd_ne (ne_of h ha (by intro z; cases z))]; exact h, fun b o n _ => n⟩
  refine ⟨O.len, fun i r e => let ⟨v, h1, h2⟩ := O.slot i r e; ⟨v, h1, h2.keep k (Nat.le_refl _) fun _ _ => rfl⟩, fun t m => (O.tmp t m).keep k (Nat.le_refl _) fun _ _ => rfl, fun m nd e => ?_, O.inj, O.hi, O.nx, O.ag, O.old, O.new, fun b o h => ?_, fun b o h n => ?_, fun b od' u m => ?_, fun b h => ?_, O.xn⟩
  · obtain ⟨q, l⟩ := O.node m nd e
    exact ⟨q.keep k (Nat.le_refl _) (fun _ _ => rfl) (upd_ne fun z => hn (.inl ⟨m, nd, e, z⟩)), l⟩
  · obtain ⟨o', h'⟩ := O.there b o h
    by_cases hb : b = a
    · subst hb; exact ⟨_, upd_same⟩
    · exact ⟨o', by rw [upd_ne hb]; exact h'⟩
  · rcases O.frame b o h n with h1 | ⟨od', h1⟩
    · by_cases hb : b = a
      · subst hb; rw [ha] at h1; cases h1; exact .inr ⟨od, List.mem_cons_self ..⟩
      · exact .inl (by rw [upd_ne hb]; exact h1)
    · exact .inr ⟨od', List.mem_cons_of_mem _ h1⟩
  · have m : (b, od', u) ∈ (a, od, .dK kvs) :: (F.L ++ F.Li) := m
    rcases List.mem_cons.mp m with z | m
    · cases z; exact upd_same
    · have := O.lock b od' u m
      rw [upd_ne (ne_of this ha (by intro z; cases z))]
      exact this
  · obtain ⟨o', h'⟩ := O.xs b h
    by_cases hb : b = a
    · subst hb; exact ⟨_, upd_same⟩
    · exact ⟨o', by rw [upd_ne hb]; exact h'⟩
/-- a frame of its own for a piece of code, from here on -/
theorem Ok.sub (O : Ok K F ι σ env ts st H) : Ok K (F.callee st ι H) ι σ env ts st H where
  len := O.len
  slot := O.slot
  tmp := O.tmp
  node := O.node
  inj := O.inj
  hi := O.hi
  nx := Nat.le_refl _
  ag := fun _ _ => rfl
  old := fun n nd e _ => by show st.at' n ≠ none; rw [e]; exact fun z => nomatch z
  new := fun n nd e h => absurd (O.node n nd e).2 (Nat.not_lt.mpr h)
  there := fun a o h => ⟨o, h⟩
  frame := fun a o h _ => .inl h
  lock := fun a od u m => O.lock a od u (by simpa [Frm.callee] using m)
  xs := O.xs
  xn := O.xn
theorem Ok.join (O : Ok K F ι σ env ts st H) (O' : Ok K (F.callee st ι H) ι' σ' env' ts' st' H') : Ok K F ι' σ' env' ts' st' H' :=
  { O.call O' with len := O'.len, slot := O'.slot, tmp := O'.tmp }
theorem Ok.out (O : Ok K F ι σ env ts st H) (O' : Ok K (F.callee st ι H) ι' σ' env' ts' st' H') (hn : ¬Pf F ι st a) (ha : H a = some o) : ¬Pf F ι' st' a := by
  rintro (⟨m, nd, e, rfl⟩ | hx)
  · by_cases hm : m < st.nx
    · have h1 := O'.old m nd e hm
      rw [show ι' m = ι m from O'.ag m hm] at hn
      exact hn (.inl (O.p0 _ ⟨m, hm, h1, rfl⟩))
    · have h1 : H (ι' m) = none := O'.new m nd e (by show st.nx ≤ m; omega)
      rw [h1] at ha
      cases ha
  · exact hn (.inr hx)
/-- the lock goes: as ahead of it -/
theorem Ok.unlck {od : Obj} {kvs : List (Key × V)} (hn0 : H a = some (.dK kvs)) (O0 : Ok K F ι σ env ts st H) (O : Ok K { F with L := (a, od, .dK kvs) :: F.L } ι' σ' env' ts' st' H') (hP' : ¬Pf F ι' st' a) :
    H' a = some (.frz od (.dK kvs)) ∧ Ok K F ι' σ' env' ts' st' (upd H' a (.dK kvs)) := by
  have ha : H' a = some (.frz od (.dK kvs)) := O.lock a od _ (List.mem_cons_self ..)
  refine ⟨ha, ?_⟩
  have k : Kp (Pf F ι' st') (Pf F ι' st') H' (upd H' a (.dK kvs)) := ⟨fun b o nf _ h => by
      by_cases hb : b = a
      · subst hb
        rcases h with h | ⟨od', h⟩
        · rw [ha] at h; cases h; exact nf.elim
        · rw [ha] at h; cases h; exact .inl upd_same
      · rcases h with h | ⟨od', h⟩
        · exact .inl (by rw [upd_ne hb]; exact h)
        · exact .inr ⟨od', by rw [upd_ne hb]; exact h⟩,
    fun b C dx fs _ h => by rw [upd_ne (ne_of h ha (by intro z; cases z))]; exact h, fun b o n _ => n⟩
  refine ⟨O.len, fun i r e => let ⟨v, h1, h2⟩ := O.slot i r e; ⟨v, h1, h2.keep k (Nat.le_refl _) fun _ _ => rfl⟩, fun t m => (O.tmp t m).keep k (Nat.le_refl _) fun _ _ => rfl, fun m nd e => ?_, O.inj, O.hi, O.nx, O.ag, O.old, O.new, fun b o h => ?_, fun b o h n => ?_, fun b od' u m => ?_, fun b h => ?_, O.xn⟩
  · obtain ⟨q, l⟩ := O.node m nd e
    exact ⟨q.keep k (Nat.le_refl _) (fun _ _ => rfl) (upd_ne fun z => hP' (.inl ⟨m, nd, e, z⟩)), l⟩
  · obtain ⟨o', h'⟩ := O.there b o h
    by_cases hb : b = a
    · subst hb; exact ⟨_, upd_same⟩
    · exact ⟨o', by rw [upd_ne hb]; exact h'⟩
  · by_cases hb : b = a
    · subst hb
      rcases O0.frame b o h n with h1 | ⟨od', h1⟩
      · rw [hn0] at h1; cases h1; exact .inl upd_same
      · have := O0.lock b od' o (List.mem_append_left _ h1)
        rw [hn0] at this; cases this
    · rcases O.frame b o h n with h1 | ⟨od', h1⟩
      · exact .inl (by rw [upd_ne hb]; exact h1)
      · rcases List.mem_cons.mp h1 with z | h1
        · cases z; exact (hb rfl).elim
        · exact .inr ⟨od', h1⟩
  · have h0 := O0.lock b od' u m
    have h1 := O.lock b od' u (List.mem_cons_of_mem _ m)
    rw [upd_ne (ne_of h0 hn0 (by intro z; cases z))]
    exact h1
  · obtain ⟨o', h'⟩ := O.xs b h
    by_cases hb : b = a
    · subst hb; exact ⟨_, upd_same⟩
    · exact ⟨o', by rw [upd_ne hb]; exact h'⟩
end
end DM
namespace DM
open PySem PySem.Spec PyProof.Rows L2
structure Ex where
  C : Value
  fs : List (Str × D)
inductive Rs (α : Type) where
  | ok (a : α) (st : Stx) | er (e : Ex) (st : Stx) | no
def Rs.bind {α β : Type} (x : Rs α) (k : α → Stx → Rs β) : Rs β := match x with | .ok a st => k a st | .er e st => .er e st | .no => .no
abbrev EF := Env → Stx → Rs RV
abbrev AF := Env → Stx → Rs (List RV)
inductive Fl where
  | nx | rt (r : RV) | bk | ct
inductive Rt where
  | go (f : Fl) (env : Env) (st : Stx) | er (e : Ex) (env : Env) (st : Stx) | no
abbrev SF := Env → Stx → Rt
/-- data without a place -/
def D.flat : D → Bool
  | .non | .bl _ | .int _ | .str _ | .ty _ | .glb _ => true
  | _ => false
def D.v : D → V
  | .non => .non | .bl b => .bl b | .int i => .int i | .str s => .str s | .ty n => .ty n | .glb a => .ref a | _ => .non
section
variable {K : PySem.W.Frag} {W : WX} {F : Frm} {ι ι' : Nat → Addr} {σ σ' : L2.St} {env env' : Env} {ts ts' : List (V × RV)} {st st' : Stx} {H H' : Hp} {p a : Addr} {o : HO} {v w : V} {r : RV} {n : Nat} {nd : Nd} {d : D}
theorem StOk.tmps (S : StOk K F σ env ts st H) (h : ∀ t ∈ ts', t ∈ ts) : StOk K F σ env ts' st H := let ⟨ι, O⟩ := S; ⟨ι, O.tmps h⟩
theorem StOk.pop {t : V × RV} (S : StOk K F σ env (t :: ts) st H) : StOk K F σ env ts st H := S.tmps fun _ m => List.mem_cons_of_mem _ m
theorem StOk.same (S : StOk K F σ env ts st H) (s : L2.Same H H') : StOk K F σ env ts st H' := let ⟨ι, O⟩ := S; ⟨ι, O.same s⟩
theorem StOk.laid (S : StOk K F σ env ts st H) (np : H p = none) : StOk K F σ env ts st (upd H p o) := S.same (M.same_new np)
theorem StOk.flat (S : StOk K F σ env ts st H) (d : D) (h : d.flat = true) : StOk K F σ env ((d.v, .val d) :: ts) st H := by
  obtain ⟨ι, O⟩ := S
  refine ⟨ι, O.push ?_⟩
  cases d <;> first | rfl | cases h
theorem StOk.set (S : StOk K F σ env ((v, r) :: ts) st H) (i : Nat) : StOk K F (σ.set i (some v)) (env.set i (some r)) ts st H := let ⟨ι, O⟩ := S; ⟨ι, O.set i⟩
/-- an exception, as it leaves: its class, its own dict -/
def ExAt (K : PySem.W.Frag) (F : Frm) (σ : L2.St) (env : Env) (ts : List (V × RV)) (st : Stx) (H : Hp) (e : Ex) (cls : Value) (d : Option Addr) : Prop :=
  cls = e.C ∧ ∃ vs : List V, vs.length = e.fs.length ∧ StOk K F σ env ((vs.zip (e.fs.map fun p => RV.val p.2)) ++ ts) st H ∧ ((e.fs = [] ∧ d = none) ∨ (e.fs ≠ [] ∧ ∃ dx, d = some dx ∧ (H dx = some (.xd ((e.fs.map (·.1)).zip vs)))))
theorem ExAt.tmps {e : Ex} {cls : Value} {dx : Option Addr} (x : ExAt K F σ env ts st H e cls dx) (h : ∀ t ∈ ts', t ∈ ts) : ExAt K F σ env ts' st H e cls dx := by
  obtain ⟨h1, vs, h2, S, h3⟩ := x
  refine ⟨h1, vs, h2, S.tmps (fun t m => ?_), h3⟩
  rcases List.mem_append.mp m with m | m
  · exact List.mem_append_left _ m
  · exact List.mem_append_right _ (h t m)
theorem ExAt.ok {e : Ex} {cls : Value} {dx : Option Addr} (x : ExAt K F σ env ts st H e cls dx) : StOk K F σ env ts st H := by
  obtain ⟨h1, vs, h2, S, h3⟩ := x
  exact S.tmps fun t m => List.mem_append_right _ m
/-- what is wanted of a result -/
def Post {α : Type} (K : PySem.W.Frag) (W : WX) (F : Frm) (σ : L2.St) (env : Env) (ts : List (V × RV)) (x : Rs α) (oc : α → Stx → Prop) : Prop :=
  match x with
  | .ok a st' => oc a st'
  | .er e st' => ∀ cls d H', ExAt K F σ env ts st' H' e cls d → W cls d σ H'
  | .no => False
theorem Post.bind {α β : Type} {x : Rs α} {k : α → Stx → Rs β} {oc : β → Stx → Prop} (h : Post K W F σ env ts (x.bind k) oc) : Post K W F σ env ts x fun a st' => Post K W F σ env ts (k a st') oc := by
  cases x with
  | ok a st' => exact h
  | er e st' => exact h
  | no => exact h
theorem Post.imp {α : Type} {x : Rs α} {oc oc' : α → Stx → Prop} (h : Post K W F σ env ts x oc) (i : ∀ a st', x = .ok a st' → oc a st' → oc' a st') : Post K W F σ env ts x oc' := by
  cases x with
  | ok a st' => exact i a st' rfl h
  | er e st' => exact h
  | no => exact h
theorem Post.more {α : Type} {x : Rs α} {oc : α → Stx → Prop} (h : Post K W F σ env ts x oc) (i : ∀ t ∈ ts, t ∈ ts') : Post K W F σ env ts' x oc := by
  cases x with
  | ok a st' => exact h
  | er e st' => exact fun cls d H' x => h cls d H' (x.tmps i)
  | no => exact h
def okE (K : PySem.W.Frag) (F : Frm) (σ : L2.St) (env : Env) (ts : List (V × RV)) (Q : VK) : RV → Stx → Prop := fun r st' => ∀ v H', StOk K F σ env ((v, r) :: ts) st' H' → Q v H'
def okA (K : PySem.W.Frag) (F : Frm) (σ : L2.St) (env : Env) (ts : List (V × RV)) (Q : List V → Hp → Prop) : List RV → Stx → Prop := fun rs st' => ∀ vs H', vs.length = rs.length → StOk K F σ env (vs.zip rs ++ ts) st' H' → Q vs H'
def tE (K : PySem.W.Frag) (W : WX) (f : EF) : TE := fun σ H Q => ∃ F env ts st, StOk K F σ env ts st H ∧ Post K W F σ env ts (f env st) (okE K F σ env ts Q)
def tA (K : PySem.W.Frag) (W : WX) (f : AF) : TA := fun σ H Q => ∃ F env ts st, StOk K F σ env ts st H ∧ Post K W F σ env ts (f env st) (okA K F σ env ts Q)
def RtPost (K : PySem.W.Frag) (W : WX) (F : Frm) (ts : List (V × RV)) (x : Rt) (D : Ends) : Prop :=
  match x with
  | .go .nx env' st' => ∀ σ' H', StOk K F σ' env' ts st' H' → D.nx σ' H'
  | .go (.rt r) env' st' => ∀ v σ' H', StOk K F σ' env' ((v, r) :: ts) st' H' → D.rt v H'
  | .go .bk env' st' => ∀ σ' H', StOk K F σ' env' ts st' H' → D.bk σ' H'
  | .go .ct env' st' => ∀ σ' H', StOk K F σ' env' ts st' H' → D.ct σ' H'
  | .er e env' st' => ∀ cls d σ' H', ExAt K F σ' env' ts st' H' e cls d → W cls d σ' H'
  | .no => False
def tS (K : PySem.W.Frag) (W : WX) (g : SF) : TS := fun D σ H => ∃ F env ts st, StOk K F σ env ts st H ∧ RtPost K W F ts (g env st) D
end

section
variable {X : Cx} {W : WX} {es : List Expr} {pos : Pos} {a b c e : Expr} {fa fb fc f : EF} {ff : AF} {t u : TE}
theorem pe_up (h : PE X e t) (i : ∀ σ H Q, u σ H Q → t σ H Q) : PE X e u := ⟨fun pins s σ H Q I hw => h.run pins s σ H Q I (i σ H Q hw)⟩
theorem pa_up {t u : TA} (h : PA X es t) (i : ∀ σ H Q, u σ H Q → t σ H Q) : PA X es u := ⟨fun pos pins s σ H Q I hw => h.run pos pins s σ H Q I (i σ H Q hw)⟩
theorem pt_up {t u : TT} (h : PT X e t) (i : ∀ σ H Q, u σ H Q → t σ H Q) : PT X e u := ⟨fun pins s σ H Q I hw => h.run pins s σ H Q I (i σ H Q hw)⟩
theorem pss_up {st : List Stmt} {t u : TS} (h : PSs X st t) (i : ∀ D σ H, u D σ H → t D σ H) : PSs X st u := ⟨fun pins s σ H D I hw => h.run pins s σ H D I (i D σ H hw)⟩
theorem ps_up {st : Stmt} {t u : TS} (h : PS X st t) (i : ∀ D σ H, u D σ H → t D σ H) : PS X st u := ⟨fun pins s σ H D I hw => h.run pins s σ H D I (i D σ H hw)⟩
/-- how the first part of a reading goes on -/
theorem tE.go {K : PySem.W.Frag} {F : Frm} {σ : L2.St} {env : Env} {ts : List (V × RV)} {st : Stx} {H : Hp} {Q : VK} {α : Type} {k : RV → Stx → Rs α} {oc : α → Stx → Prop} (S : StOk K F σ env ts st H) (h : Post K W F σ env ts ((f env st).bind k) oc)
    (go : ∀ r st' v H', StOk K F σ env ((v, r) :: ts) st' H' → Post K W F σ env ((v, r) :: ts) (k r st') oc → Q v H') : tE K W f σ H Q :=
  ⟨F, env, ts, st, S, h.bind.imp fun r st' _ h' v H' S' => go r st' v H' S' (h'.more fun t m => List.mem_cons_of_mem _ m)⟩

def eVar (i : Nat) : EF := fun env st => match env[i]? with | some (some r) => .ok r st | _ => .no
theorem d_var (i : Nat) {x : Str} (hN : X.N[i]? = some x := by rfl) (hv : Vis X.env.scope x := by first | exact Or.inl rfl | exact Or.inr (Or.inl rfl) | exact Or.inr (Or.inr rfl)) (hd : (x == ("__debug__" : Str)) = false := by decide)
    (hcd : (x == ("__classdict__" : Str)) = false := by decide) : PE X (.Name x pos) (tE X.K W (eVar i)) :=
  pe_up (pe_var hN hv hd hcd) fun σ H Q ⟨F, env, ts, st, ⟨ι, O⟩, h⟩ => by
    unfold eVar at h
    cases q : env[i]? with
    | none => rw [q] at h; exact h.elim
    | some o =>
      cases o with
      | none => rw [q] at h; exact h.elim
      | some r =>
        rw [q] at h
        obtain ⟨v, h1, O1⟩ := O.get q
        exact ⟨v, h1, h v H ⟨ι, O1⟩⟩
def eC (d : D) : EF := fun _ st => .ok (.val d) st
theorem d_c (d : D) (hd : d.flat = true) (he : PE X e (tC d.v)) : PE X e (tE X.K W (eC d)) := pe_up he fun σ H Q ⟨F, env, ts, st, S, h⟩ => h _ H (S.flat d hd)
theorem d_int {i : Int} {j pos} : PE X (.Constant (.int i) j pos) (tE X.K W (eC (.int i))) := d_c (.int i) rfl pe_int
theorem d_bl {i : Bool} {j pos} : PE X (.Constant (.bool i) j pos) (tE X.K W (eC (.bl i))) := d_c (.bl i) rfl pe_bl
theorem d_non {j pos} : PE X (.Constant .none j pos) (tE X.K W (eC .non)) := d_c .non rfl pe_non
theorem d_str {x : Str} {j pos} : PE X (.Constant (.str x) j pos) (tE X.K W (eC (.str x))) := d_c (.str x) rfl pe_str

abbrev O2 := RV → RV → Stx → Rs RV
/-- an operator's rule bears what is reckoned -/
def Sem2 (K : PySem.W.Frag) (W : WX) (r : R2) (o : O2) : Prop := ∀ F σ env ts st H x y rx ry Q, StOk K F σ env ((y, ry) :: (x, rx) :: ts) st H → Post K W F σ env ((y, ry) :: (x, rx) :: ts) (o rx ry st) (okE K F σ env ts Q) → r x y H Q
def eOp (o : O2) (fa fb : EF) : EF := fun env st => (fa env st).bind fun x st1 => (fb env st1).bind fun y st2 => o x y st2
theorem tOp_of {r : R2} {o : O2} (hs : Sem2 X.K W r o) : ∀ σ H Q, tE X.K W (eOp o fa fb) σ H Q → tOp r (tE X.K W fa) (tE X.K W fb) σ H Q := fun σ H Q ⟨F, env, ts, st, S, h⟩ => by
  refine tE.go S h fun rx st1 x H1 S1 h1 => ?_
  refine tE.go S1 h1 fun ry st2 y H2 S2 h2 => ?_
  exact hs F σ env ts st2 H2 x y rx ry Q S2 h2
theorem d_op {op : Operator} {r : R2} {o : O2} (ho : OpR X (binaryOp op) r) (hs : Sem2 X.K W r o) (ha : PE X a (tE X.K W fa)) (hb : PE X b (tE X.K W fb)) : PE X (.BinOp a op b pos) (tE X.K W (eOp o fa fb)) :=
  pe_up (pe_op ho ha hb) (tOp_of hs)
theorem d_cmp {op : CmpOp} {r : R2} {o : O2} (ho : OpR X (compareOp op) r) (hs : Sem2 X.K W r o) (ha : PE X a (tE X.K W fa)) (hb : PE X b (tE X.K W fb)) (hm : behindInMarks op b = false := by rfl) : PE X (.Compare a [op] [b] pos) (tE X.K W (eOp o fa fb)) :=
  pe_up (pe_cmpR ho ha hb hm) (tOp_of hs)
/-- a value without a place comes of it -/
theorem Post.flat {K : PySem.W.Frag} {F : Frm} {σ : L2.St} {env : Env} {ts ts' : List (V × RV)} {st : Stx} {H : Hp} {Q : VK} {d : D} (S : StOk K F σ env ts' st H) (hd : d.flat = true) (hs : ∀ t ∈ ts, t ∈ ts') (h : Post K W F σ env ts' (Rs.ok (.val d) st) (okE K F σ env ts Q)) : Q d.v H :=
  h _ H ((S.tmps hs).flat d hd)
def two : ∀ {t : V × RV} {ts : List (V × RV)} (a b : V × RV), t ∈ ts → t ∈ a :: b :: ts := fun a b m => List.mem_cons_of_mem _ (List.mem_cons_of_mem _ m)
/-- of two ints -/
def oI (g : Int → Int → D) (c : Int → Int → Bool) : O2 := fun x y st => match x, y with
  | .val (.int i), .val (.int j) => if c i j = true then .ok (.val (g i j)) st else .no
  | _, _ => .no
theorem StOk.vl2 {K : PySem.W.Frag} {F : Frm} {σ : L2.St} {env : Env} {ts : List (V × RV)} {st : Stx} {H : Hp} {x y : V} {d e : D} (S : StOk K F σ env ((y, .val e) :: (x, .val d) :: ts) st H) : ∃ P, Vl K P H d x ∧ Vl K P H e y := by
  obtain ⟨ι, O⟩ := S
  exact ⟨_, O.tmp (x, .val d) (List.mem_cons_of_mem _ (List.mem_cons_self ..)), O.tmp (y, .val e) (List.mem_cons_self ..)⟩
theorem sem_I {K : PySem.W.Frag} {C : Int → Int → Prop} {g : Int → Int → D} {c : Int → Int → Bool} (hg : ∀ i j, (g i j).flat = true) (hc : ∀ i j, c i j = true → C i j) : Sem2 K W (rI C fun i j => (g i j).v) (oI g c) := fun F σ env ts st H x y rx ry Q S h => by
  unfold oI at h
  split at h
  · rename_i i j
    obtain ⟨P, hx, hy⟩ := S.vl2
    cases (show x = .int i from hx)
    cases (show y = .int j from hy)
    by_cases q : c i j = true
    · rw [if_pos q] at h
      exact ⟨i, j, rfl, rfl, hc i j q, Post.flat S (hg i j) (fun t m => two _ _ m) h⟩
    · rw [if_neg q] at h
      exact h.elim
  · exact h.elim
theorem sem_I0 {K : PySem.W.Frag} {g : Int → Int → D} (hg : ∀ i j, (g i j).flat = true) : Sem2 K W (rI0 fun i j => (g i j).v) (oI g fun _ _ => true) := fun F σ env ts st H x y rx ry Q S h => by
  obtain ⟨i, j, h1, h2, _, h3⟩ := sem_I (C := fun _ _ => True) hg (fun _ _ _ => trivial) F σ env ts st H x y rx ry Q S h
  exact ⟨i, j, h1, h2, h3⟩
end
end DM
namespace DM
open PySem PySem.Spec PyProof.Rows L2
def mkF (H : Hp) (st : Stx) (ι : Nat → Addr) (Li : List (Addr × Obj × HO)) (XX : Addr → Prop) : Frm := ⟨H, fun n => st.at' n ≠ none, ι, st.nx, Li, [], XX⟩
abbrev MF := List RV → Stx → Rs RV
/-- what a def does is told by Fm -/
def spM (K : PySem.W.Frag) (Fm : MF) : Sp := fun vs H Q E => ∃ (Li : List (Addr × Obj × HO)) (XX : Addr → Prop) (ι : Nat → Addr) (rs : List RV) (st : Stx), vs.length = rs.length ∧ Ok K (mkF H st ι Li XX) ι [] [] (vs.zip rs) st H ∧
  Post K (fun cls d _ H' => E cls d H') (mkF H st ι Li XX) [] [] [] (Fm rs st) (okE K (mkF H st ι Li XX) [] [] [] Q)
def runDef (N n : Nat) (g : SF) : MF := fun rs st =>
  if rs.length = n then
    match g (rs.map some ++ List.replicate (N - n) none) st with
    | .go (.rt r) _ st' => .ok (fin st st' r).1 (fin st st' r).2
    | .go .nx _ st' => .ok (fin st st' (.val .non)).1 (fin st st' (.val .non)).2
    | .er e _ st' => .er e st'
    | _ => .no
  else .no
section
variable {K : PySem.W.Frag} {W : WX} {F : Frm} {ι ι' : Nat → Addr} {σ σ' : L2.St} {env env' : Env} {ts ts' : List (V × RV)} {st st' : Stx} {H H' : Hp}
theorem zip_at {α β : Type} : ∀ {as : List α} {bs : List β} {i : Nat} {b : β}, as.length = bs.length → bs[i]? = some b → ∃ a, as[i]? = some a ∧ (a, b) ∈ as.zip bs
  | [], [], _, _, _, e => by simp at e
  | [], _ :: _, _, _, h, _ => by simp at h
  | _ :: _, [], _, _, h, _ => by simp at h
  | a :: as, b :: bs, 0, c, _, e => ⟨a, rfl, by cases (show b = c by simpa using e); exact List.mem_cons_self ..⟩
  | a :: as, b :: bs, i + 1, c, h, e => by
    obtain ⟨x, h1, h2⟩ := zip_at (as := as) (bs := bs) (i := i) (by simpa using h) (by simpa using e)
    exact ⟨x, by simpa using h1, List.mem_cons_of_mem _ h2⟩
/-- from a call's end back to the caller -/
theorem ExAt.call {e : Ex} {cls : Value} {d : Option Addr} (O : Ok K F ι σ env ts st H) (x : ExAt K (F.callee st ι H) [] [] [] st' H' e cls d) : ExAt K F σ env ts st' H' e cls d := by
  obtain ⟨h1, vs, h2, ⟨ι', O'⟩, h3⟩ := x
  refine ⟨h1, vs, h2, ⟨ι', ?_⟩, h3⟩
  have := O.call O'
  rwa [List.append_nil] at this
/-- the arguments stand: the callee runs -/
theorem callee_of {Fm : MF} {rs : List RV} {vs : List V} {Q : VK} (S : StOk K F σ env (vs.zip rs ++ ts) st H) (hl : vs.length = rs.length) (h : Post K W F σ env ts (Fm rs st) (okE K F σ env ts Q)) : spM K Fm vs H Q (fun cls d H' => W cls d σ H') := by
  obtain ⟨ι, O⟩ := S
  have O1 : Ok K (F.callee st ι H) ι [] [] (vs.zip rs) st H := (O.sub.tmps fun t m => List.mem_append_left _ m).unset rfl (fun i r e => by simp at e)
  refine ⟨F.L ++ F.Li, F.X, ι, rs, st, hl, O1, ?_⟩
  cases q : Fm rs st with
  | ok r st' =>
    rw [q] at h
    intro v H' ⟨ι', O'⟩
    refine h v H' ⟨ι', (O.call O').tmps fun t m => ?_⟩
    rcases List.mem_cons.mp m with rfl | m
    · exact List.mem_append_left _ (List.mem_cons_self ..)
    · exact List.mem_append_right _ (List.mem_append_right _ m)
  | er e st' =>
    rw [q] at h
    exact fun cls d H' x => h cls d H' ((ExAt.call O x).tmps fun t m => List.mem_append_right _ m)
  | no =>
    rw [q] at h
    exact h
/-- a def of the text, by what it does -/
structure DefX (P : Program) (w : World) (K : PySem.W.Frag) (mg : Str → Option Value) (base : Heap) (k : Nat) (x : Str) (ps : List Str) (Fm : MF) : Prop where
  ex : ∃ f fd, FnOk P w K mg base (L2.CX P w) k f fd ps (spM K Fm) ∧ mg x = some (.ref f) ∧ PySem.W.keepIn K (.ref f) = true ∧ Binds K fd ps []
structure MethX (P : Program) (w : World) (K : PySem.W.Frag) (mg : Str → Option Value) (base : Heap) (C : Addr) (k : Nat) (m : Str) (ps : List Str) (Fm : MF) : Prop where
  ex : ∃ f fd, FnOk P w K mg base (L2.CX P w) k f fd ps (spM K Fm) ∧ PySem.W.findIn K (.ref C) m = some (some (.ref f)) ∧ PySem.W.isFn K (.ref f) = true ∧ PySem.W.keepIn K (.ref f) = true ∧ PySem.W.fnIn K f = true ∧ Binds K fd ps []
structure InitX (P : Program) (w : World) (K : PySem.W.Frag) (mg : Str → Option Value) (base : Heap) (x : Str) (C : Addr) (k : Nat) (ps : List Str) (Fm : MF) (ds : List Value) : Prop where
  gl : mg x = some (.ref C)
  mks : PySem.W.makesIn K C = true
  kp : PySem.W.keepIn K (.ref C) = true
  ex : ∃ f fd, FnOk P w K mg base (L2.CX P w) k f fd ps (spM K Fm) ∧ PySem.W.findIn K (.ref C) "__init__" = some (some (.ref f)) ∧ PySem.W.isFn K (.ref f) = true ∧ Binds K fd ps ds
theorem DefX.mono {P : Program} {w : World} {mg : Str → Option Value} {base : Heap} {j k : Nat} {x : Str} {ps : List Str} {Fm : MF} (D : DefX P w K mg base j x ps Fm) (h : j ≤ k) : DefX P w K mg base k x ps Fm := let ⟨f, fd, F, r⟩ := D.ex; ⟨f, fd, F.mono h, r⟩
theorem MethX.mono {P : Program} {w : World} {mg : Str → Option Value} {base : Heap} {C : Addr} {j k : Nat} {m : Str} {ps : List Str} {Fm : MF} (D : MethX P w K mg base C j m ps Fm) (h : j ≤ k) : MethX P w K mg base C k m ps Fm := let ⟨f, fd, F, r⟩ := D.ex; ⟨f, fd, F.mono h, r⟩
theorem InitX.mono {P : Program} {w : World} {mg : Str → Option Value} {base : Heap} {C : Addr} {j k : Nat} {x : Str} {ps : List Str} {Fm : MF} {ds : List Value} (D : InitX P w K mg base x C j ps Fm ds) (h : j ≤ k) : InitX P w K mg base x C k ps Fm ds := ⟨D.gl, D.mks, D.kp, let ⟨f, fd, F, r⟩ := D.ex; ⟨f, fd, F.mono h, r⟩⟩
/-- a def's proof: its body's term -/
theorem ok_def {P : Program} {w : World} {mg : Str → Option Value} {base : Heap} {x qual : Str} {s : Stmt} {f : Addr} {fd : FuncData} {N ps : List Str} {k : Nat} {g : SF} (F : M.Fun2 K x qual s f fd) (S : FnScope N ps (defScope s)) (hN : ps.length ≤ N.length)
    (body : ∀ (X : Cx) (W : WX), X.prog = P → X.w = w → X.K = K → X.mg = mg → X.base = base → Room k X.A → (∃ cdv A outer sh H E, X = cxOf (L2.CX P w) P w K mg base N qual (defScope s) f cdv A outer sh H E) → Takes X W → PSs X (defBody s) (tS K W g)) :
    FnOk P w K mg base (L2.CX P w) (k + 1) f fd ps (spM K (runDef N.length ps.length g)) := by
  obtain ⟨oc, od, dV, kV, doc, pm, an, cdv, ct, osl, rfl, lk, hcd⟩ := F.ex
  refine fn_of lk hcd S (fun vs H Q E h => ?_) fun A outer sh H vs Q E hr h => ?_
  · obtain ⟨Li, XX, ι, rs, st, hl, O, h⟩ := h
    unfold runDef at h
    by_cases q : rs.length = ps.length
    · rw [hl, q]
    · rw [if_neg q] at h
      exact h.elim
  · obtain ⟨Li, XX, ι, rs, st, hl, O, h⟩ := h
    refine ⟨_, body _ (fun cls d _ H' => E cls d H') rfl rfl rfl rfl rfl hr ⟨_, _, _, _, _, _, rfl⟩ (takes_of rfl rfl rfl rfl), ?_⟩
    unfold runDef at h
    have q : rs.length = ps.length := Decidable.byContradiction fun q => by
      rw [if_neg q] at h
      exact h
    rw [if_pos q] at h
    have hlv : (L2.start N vs).length = (rs.map some ++ List.replicate (N.length - ps.length) none : Env).length := by
      unfold L2.start
      rw [List.length_append, List.length_append, List.length_map, List.length_map, List.length_replicate, List.length_replicate, hl, q]
    have O2 : Ok K (mkF H st ι Li XX) ι (L2.start N vs) (rs.map some ++ List.replicate (N.length - ps.length) none) [] st H := by
      refine { O with len := hlv, slot := fun i r e => ?_, tmp := fun _ m => nomatch m }
      by_cases hi : i < rs.length
      · rw [List.getElem?_append_left (by rw [List.length_map]; exact hi), List.getElem?_map] at e
        obtain ⟨r', e1, e2⟩ := Option.map_eq_some_iff.mp e
        cases e2
        obtain ⟨v, h1, h2⟩ := zip_at hl e1
        refine ⟨v, ?_, O.tmp _ h2⟩
        unfold L2.start
        rw [List.getElem?_append_left (by rw [List.length_map, hl]; exact hi), List.getElem?_map, h1]
        rfl
      · rw [List.getElem?_append_right (by rw [List.length_map]; omega), List.getElem?_replicate] at e
        split at e <;> cases e
    refine ⟨_, _, _, _, ⟨ι, O2⟩, ?_⟩
    have hw : ∀ n, st.nx ≤ n → st.at' n = none := fun n hn => by
      cases e : st.at' n with
      | none => rfl
      | some nd => have := (O.node n nd e).2; omega
    cases e : g (rs.map some ++ List.replicate (N.length - ps.length) none) st with
    | go fl env' st' =>
      rw [e] at h
      cases fl with
      | nx =>
        intro σ' H' ⟨ι', O'⟩
        obtain ⟨ι2, O3⟩ := (O'.push (r := .val .non) (v := .non) rfl).fin (st0 := st) rfl O.hi hw
        exact h .non H' ⟨ι2, O3⟩
      | rt r =>
        intro v σ' H' ⟨ι', O'⟩
        obtain ⟨ι2, O3⟩ := O'.fin (st0 := st) rfl O.hi hw
        exact h v H' ⟨ι2, O3⟩
      | bk => exact h.elim
      | ct => exact h.elim
    | er ex env' st' =>
      rw [e] at h
      intro cls d σ' H' x
      obtain ⟨h1, us, h2, ⟨ι', O'⟩, h3⟩ := x
      exact h cls d H' ⟨h1, us, h2, ⟨ι', O'.unset rfl (fun i r e => by simp at e)⟩, h3⟩
    | no => rw [e] at h; exact h.elim
end
section
variable {X : Cx} {W : WX} {k : Nat} {f C : Addr} {fd : FuncData} {ps : List Str} {Fm : MF} {ds : List Value} {x m : Str} {p pos apos : Pos} {e o : Expr} {es : List Expr} {fo : EF} {ff : AF}
def eCall (Fm : MF) (ff : AF) : EF := fun env st => (ff env st).bind fun rs st1 => Fm rs st1
def aNil : AF := fun _ st => .ok [] st
def aCons (f : EF) (ff : AF) : AF := fun env st => (f env st).bind fun r st1 => (ff env st1).bind fun rs st2 => .ok (r :: rs) st2
theorem d_nil : PA X [] (tA X.K W aNil) := pa_up pa_nil fun σ H Q ⟨F, env, ts, st, S, h⟩ => h [] H rfl S
theorem d_cons {fe : EF} (ha : PE X e (tE X.K W fe)) (hr : PA X es (tA X.K W ff)) (hs : starEach (e :: es) X.env = (false, eval e X.env) :: starEach es X.env := by rfl) : PA X (e :: es) (tA X.K W (aCons fe ff)) :=
  pa_up (pa_cons ha hr hs) fun σ H Q ⟨F, env, ts, st, S, h⟩ => by
    refine tE.go S h fun r st1 v H1 S1 h1 => ?_
    refine ⟨F, env, _, st1, S1, h1.bind.imp fun rs st2 _ h2 vs H2 hl S2 => ?_⟩
    refine h2 (v :: vs) H2 (by rw [List.length_cons, List.length_cons, hl]) (S2.tmps fun t m => ?_)
    rw [List.zip_cons_cons] at m
    rcases List.mem_cons.mp m with rfl | m
    · exact List.mem_append_right _ (List.mem_cons_self ..)
    · rcases List.mem_append.mp m with m | m
      · exact List.mem_append_left _ m
      · exact List.mem_append_right _ (List.mem_cons_of_mem _ m)
theorem d_call (D : DefX X.prog X.w X.K X.mg X.base k x ps Fm) (hr : Room k X.A) (tk : Takes X W) (hg : Gl X x) (ha : PA X (e :: es) (tA X.K W ff)) (hdb : (x == ("__debug__" : Str)) = false := by decide)
    (he : starEach (e :: es) X.env = (false, eval e X.env) :: starEach es X.env := by rfl) (hpl : (backTo pos (starEach es X.env)).any (·.1) = false := by rfl) : PE X (.Call (.Name x p) (e :: es) [] pos) (tE X.K W (eCall Fm ff)) := by
  obtain ⟨f, fd, F, g, kp, b⟩ := D.ex
  refine pe_up (pe_callSD (E := fun σ => WE W σ) F hr hg g kp b .nil (fun σ => passAt tk σ) ha (hdb := hdb) (he := he) (hpl := hpl)) fun σ H Q ⟨F, env, ts, st, S, h⟩ => ?_
  refine ⟨F, env, ts, st, S, (Post.bind (k := fun rs st1 => Fm rs st1) h).imp fun rs st1 _ h1 vs H1 hl S1 => ?_⟩
  show spM X.K Fm (vs ++ []) H1 Q (WE W σ)
  rw [List.append_nil]
  exact callee_of S1 hl h1
theorem d_call0 (D : DefX X.prog X.w X.K X.mg X.base k x ps Fm) (hr : Room k X.A) (tk : Takes X W) (hg : Gl X x) (hdb : (x == ("__debug__" : Str)) = false := by decide) : PE X (.Call (.Name x p) [] [] pos) (tE X.K W (eCall Fm aNil)) := by
  obtain ⟨f, fd, F, g, kp, b⟩ := D.ex
  refine ⟨fun pins s σ H Q I ⟨Fr, env, ts, st, S, h⟩ => ?_⟩
  refine wpAny_Call_Name_kw (ld_glob I hg g ?_ hdb)
  refine PySem.W.callWith_K0 I.kIn kp (run_fnSD (us := []) (vs := []) (E := fun σ => WE W σ) F hr b .nil (passAt tk σ) I .nil ?_)
  exact callee_of (vs := []) (rs := []) S rfl h
end
end DM
namespace DM
open PySem PySem.Spec PyProof.Rows L2
def Stx.ls (st : Stx) : RV → Option (List D)
  | .val (.lst ds) => some ds
  | .val (.lsk ds) => some ds
  | .val _ => none
  | .ptr n => match st.at' n with
    | some (.lst ds) => some ds
    | _ => none
def Stx.dc (st : Stx) : RV → Option (List Key × List D)
  | .val (.dct ks ds) => some (ks, ds)
  | .val _ => none
  | .ptr n => match st.at' n with
    | some (.dct _ ks ds) => some (ks, ds)
    | _ => none
def Stx.ob (st : Stx) : RV → Option (Addr × List Str × List RV)
  | .val (.obj C ns ds) => some (C, ns, ds.map .val)
  | .val _ => none
  | .ptr n => match st.at' n with
    | some (.obj C ns rs) => some (C, ns, rs)
    | _ => none
section
variable {K : PySem.W.Frag} {W : WX} {F : Frm} {ι ι' : Nat → Addr} {σ σ' : L2.St} {env env' : Env} {ts ts' : List (V × RV)} {st st' : Stx} {H H' : Hp} {p a : Addr} {o : HO} {v w : V} {r : RV} {n : Nat} {nd : Nd} {d : D} {ds : List D} {ks : List Key} {vs : List V} {P : Addr → Prop}
theorem RVls.of_vls : ∀ {ds : List D} {vs : List V} {nx : Nat}, Vls K P H ds vs → RVls K P H ι nx (ds.map RV.val) vs
  | [], _, _, h => by rw [show _ = [] from h]; exact .nil
  | d :: ds, _, _, h => by
    obtain ⟨v, r, rfl, h1, h2⟩ := h
    exact .cons h1 (RVls.of_vls h2)
theorem Ok.ls (O : Ok K F ι σ env ts st H) (h : RVl K (Pf F ι st) H ι st.nx r v) (e : st.ls r = some ds) : ∃ a vs, v = .ref a ∧ SqL K H a vs ∧ ds.length ≤ cap ∧ Vls K (Pf F ι st) H ds vs := by
  cases r with
  | val d =>
    cases d with
    | lst xs =>
      cases e
      obtain ⟨a, vs, e1, la, l, q⟩ := h
      exact ⟨a, vs, e1, la.sq, l, q⟩
    | lsk xs =>
      cases e
      obtain ⟨a, vs, e1, la, l, q⟩ := h
      exact ⟨a, vs, e1, .inr la, l, q⟩
    | _ => cases e
  | ptr n =>
    obtain ⟨_, e1⟩ := h
    simp only [Stx.ls] at e
    cases q : st.at' n with
    | none => rw [q] at e; cases e
    | some nd =>
      rw [q] at e
      cases nd with
      | lst xs =>
        cases e
        obtain ⟨⟨vs, h1, h2, h3⟩, _⟩ := O.node n _ q
        exact ⟨_, vs, e1, .inl (.inl h1), h2, h3⟩
      | dct _ _ _ => cases e
      | obj _ _ _ => cases e
theorem Ok.dc (O : Ok K F ι σ env ts st H) (h : RVl K (Pf F ι st) H ι st.nx r v) (e : st.dc r = some (ks, ds)) : ∃ a kvs, v = .ref a ∧ Rd H a (.dK kvs) ∧ kvs.map (·.1) = ks ∧ ks.Nodup ∧ ks.length ≤ cap ∧ Vls K (Pf F ι st) H ds (kvs.map (·.2)) := by
  cases r with
  | val d =>
    cases d with
    | dct xs ys =>
      cases e
      obtain ⟨a, kvs, e1, la, e2, n, l, q⟩ := h
      exact ⟨a, kvs, e1, la.2, e2, n, l, q⟩
    | _ => cases e
  | ptr n =>
    obtain ⟨_, e1⟩ := h
    simp only [Stx.dc] at e
    cases q : st.at' n with
    | none => rw [q] at e; cases e
    | some nd =>
      rw [q] at e
      cases nd with
      | dct lk xs ys =>
        cases e
        obtain ⟨⟨kvs, h1, h2, h3, h4, h5⟩, _⟩ := O.node n _ q
        refine ⟨_, kvs, e1, ?_, h2, h3, h4, h5⟩
        cases lk with
        | true => obtain ⟨od, h1⟩ := h1; exact .inr ⟨od, h1⟩
        | false => exact .inl h1
      | lst _ => cases e
      | obj _ _ _ => cases e
theorem Ok.ob {C : Addr} {ns : List Str} {rs : List RV} (O : Ok K F ι σ env ts st H) (h : RVl K (Pf F ι st) H ι st.nx r v) (e : st.ob r = some (C, ns, rs)) : ∃ a dx fvs, v = .ref a ∧ H a = some (.ins C dx fvs) ∧ fvs.map (·.1) = ns ∧ RVls K (Pf F ι st) H ι st.nx rs (fvs.map (·.2)) := by
  cases r with
  | val d =>
    cases d with
    | obj C' xs ys =>
      cases e
      obtain ⟨a, dx, fvs, e1, _, h1, h2, h3⟩ := h
      exact ⟨a, dx, fvs, e1, h1, h2, RVls.of_vls h3⟩
    | _ => cases e
  | ptr n =>
    obtain ⟨_, e1⟩ := h
    simp only [Stx.ob] at e
    cases q : st.at' n with
    | none => rw [q] at e; cases e
    | some nd =>
      rw [q] at e
      cases nd with
      | obj C' xs ys =>
        cases e
        obtain ⟨⟨dx, fvs, h1, h2, h3, h4⟩, _⟩ := O.node n _ q
        exact ⟨_, dx, fvs, e1, h1, h2, RVls.keep ⟨fun _ _ _ _ h => h, fun _ _ _ _ _ h => h, fun _ _ n _ => n⟩ O.hi (fun _ _ => rfl) h4⟩
      | lst _ => cases e
      | dct _ _ _ => cases e
theorem Ok.newL (O : Ok K F ι σ env ts st H) (np : H p = none) (h : Vls K (Pf F ι st) H ds vs) (hl : ds.length ≤ cap) : Ok K F ι σ env ((.ref p, .val (.lst ds)) :: ts) st (upd H p (.lst vs)) :=
  (O.same (M.same_new np)).push ⟨p, vs, rfl, .inl ⟨O.pn np, .inl upd_same⟩, hl, Vls.keep (Kp.same (M.same_new np)) _ _ h⟩
theorem Ok.newT (O : Ok K F ι σ env ts st H) (np : H p = none) (h : Vls K (Pf F ι st) H ds vs) (hl : ds.length ≤ cap) : Ok K F ι σ env ((.ref p, .val (.tup ds)) :: ts) st (upd H p (.tup vs)) :=
  (O.same (M.same_new np)).push ⟨p, vs, rfl, .inl ⟨O.pn np, .inl upd_same⟩, hl, Vls.keep (Kp.same (M.same_new np)) _ _ h⟩
theorem Ok.newD {kvs : List (Key × V)} (O : Ok K F ι σ env ts st H) (np : H p = none) (h : Vls K (Pf F ι st) H ds (kvs.map (·.2))) (e : kvs.map (·.1) = ks) (hn : ks.Nodup) (hl : ks.length ≤ cap) : Ok K F ι σ env ((.ref p, .val (.dct ks ds)) :: ts) st (upd H p (.dK kvs)) :=
  (O.same (M.same_new np)).push ⟨p, kvs, rfl, ⟨O.pn np, .inl upd_same⟩, e, hn, hl, Vls.keep (Kp.same (M.same_new np)) _ _ h⟩
/-- all args are data -/
theorem vls_of_zip : ∀ {ds : List D} {vs : List V}, vs.length = ds.length → (∀ t ∈ vs.zip (ds.map RV.val), RVl K P H ι n t.2 t.1) → Vls K P H ds vs
  | [], [], _, _ => rfl
  | [], _ :: _, h, _ => by simp at h
  | _ :: _, [], h, _ => by simp at h
  | d :: ds, v :: vs, h, q => by
    rw [List.map_cons, List.zip_cons_cons] at q
    exact ⟨v, vs, rfl, q (v, .val d) (List.mem_cons_self ..), vls_of_zip (by simpa using h) fun t m => q t (List.mem_cons_of_mem _ m)⟩
theorem allV_map : ∀ {rs : List RV} {ds : List D}, allV rs = some ds → rs = ds.map RV.val
  | [], _, e => by cases e; rfl
  | .val d :: r, ds, e => by
    unfold allV at e
    cases q : allV r with
    | none => rw [q] at e; cases e
    | some es =>
      rw [q] at e
      cases e
      rw [List.map_cons, ← allV_map q]
  | .ptr n :: r, _, e => by cases e
theorem StOk.vls {rs : List RV} {vs : List V} (O : Ok K F ι σ env ts st H) (hl : vs.length = rs.length) (h : ∀ t ∈ vs.zip rs, t ∈ ts) (e : allV rs = some ds) : Vls K (Pf F ι st) H ds vs := by
  have em := allV_map e
  subst em
  exact vls_of_zip (by simpa using hl) fun t m => O.tmp t (h t m)
end
abbrev CF := Env → Stx → Rs Bool
def okT (K : PySem.W.Frag) (F : Frm) (σ : L2.St) (env : Env) (ts : List (V × RV)) (Q : Bool → Hp → Prop) : Bool → Stx → Prop := fun b st' => ∀ H', StOk K F σ env ts st' H' → Q b H'
def tT (K : PySem.W.Frag) (W : WX) (f : CF) : TT := fun σ H Q => ∃ F env ts st, StOk K F σ env ts st H ∧ Post K W F σ env ts (f env st) (okT K F σ env ts Q)
section
variable {X : Cx} {W : WX} {es : List Expr} {pos : Pos} {a b c e : Expr} {fa fb fc f : EF} {ff : AF} {ca cb : CF}
/-- a value's truth -/
def truth (st : Stx) : RV → Option Bool
  | .val .non => some false
  | .val (.bl b) => some b
  | .val (.int i) => some (i != 0)
  | .val (.str s) => if s.length ≤ cap then some ((s.length : Int) != 0) else none
  | .val (.lst ds) => some (!ds.isEmpty)
  | .val (.tup ds) => some (!ds.isEmpty)
  | .val (.dct ks _) => some (!ks.isEmpty)
  | .val _ => none
  | .ptr n => match st.at' n with
    | some (.lst ds) => some (!ds.isEmpty)
    | some (.dct _ ks _) => some (!ks.isEmpty)
    | _ => none
def cTruth (f : EF) : CF := fun env st => (f env st).bind fun r st1 => match truth st1 r with | some b => .ok b st1 | none => .no
theorem tru_dK : TruR X (fun x H Q => ∃ p kvs, x = .ref p ∧ Rd H p (.dK kvs) ∧ Q (!kvs.isEmpty) H) := by
  intro pins s σ H x v Q I rx h
  obtain ⟨p, kvs, rfl, hx, q⟩ := h
  cases (show v = Value.ref p from rx)
  have hl := line63
  obtain ⟨hz, hS, vs, r, m⟩ : kvs.length ≤ sizeLine ∧ (p == sysModules) = false ∧ ∃ vs, KV kvs vs ∧ s.heap.DictOf (mixKind X.prog X.w) p vs := by
    rcases hx with hx | ⟨od, hx⟩
    · exact I.hok p _ hx
    · exact (I.hok p _ hx).2
  have hlen : kvs.length = vs.length := Paired.length r
  exact wpAny_truthy_dict hS m (by omega) ⟨H, I.tok _, by rw [isEmpty_kv r]; exact q⟩
theorem emp_len {α β : Type} {xs : List α} {ys : List β} (h : xs.length = ys.length) : xs.isEmpty = ys.isEmpty := by
  cases xs <;> cases ys <;> first | rfl | (simp at h)
theorem tru_run {K : PySem.W.Frag} {F : Frm} {ι : Nat → Addr} {σ : L2.St} {env : Env} {ts : List (V × RV)} {st : Stx} {H : Hp} {r : RV} {x : V} {b : Bool} (O : Ok K F ι σ env ts st H) (h : RVl K (Pf F ι st) H ι st.nx r x) (e : truth st r = some b) :
    TruV K x H b ∨ ∃ p kvs, x = .ref p ∧ Rd H p (.dK kvs) ∧ b = !kvs.isEmpty := by
  have lsl : ∀ {ds : List D} {vs : List V} {P : Addr → Prop}, Vls K P H ds vs → (!ds.isEmpty) = !vs.isEmpty := fun q => by rw [emp_len q.length]
  cases r with
  | val d =>
    cases d with
    | non => cases e; cases (show x = V.non from h); exact .inl rfl
    | bl b => cases e; cases (show x = V.bl b from h); exact .inl rfl
    | int i => cases e; cases (show x = V.int i from h); exact .inl rfl
    | str s =>
      cases (show x = V.str s from h)
      simp only [truth] at e
      by_cases q : s.length ≤ cap
      · simp only [if_pos q] at e
        cases e
        exact .inl ⟨Nat.le_trans q (by decide), rfl⟩
      · simp only [if_neg q] at e
        cases e
    | lst ds =>
      cases e
      obtain ⟨a, vs, rfl, la, _, q⟩ := h
      exact .inl (.inl ⟨vs, la.sq, lsl q⟩)
    | tup ds =>
      cases e
      obtain ⟨a, vs, rfl, la, _, q⟩ := h
      exact .inl (.inr (.inl ⟨vs, la.sq, lsl q⟩))
    | dct ks ds =>
      cases e
      obtain ⟨a, kvs, rfl, la, e2, _, _, q⟩ := h
      exact .inr ⟨a, kvs, rfl, la.2, by rw [← e2, emp_len (List.length_map ..)]⟩
    | ty n => cases e
    | glb a => cases e
    | obj C ns ds => cases e
    | lsk ds => cases e
  | ptr n =>
    obtain ⟨_, rfl⟩ := h
    simp only [truth] at e
    cases q : st.at' n with
    | none => rw [q] at e; cases e
    | some nd =>
      rw [q] at e
      cases nd with
      | lst ds =>
        cases e
        obtain ⟨⟨vs, h1, h2, h3⟩, _⟩ := O.node n _ q
        exact .inl (.inl ⟨vs, .inl (.inl h1), lsl h3⟩)
      | dct lk ks ds =>
        cases e
        obtain ⟨⟨kvs, h1, h2, h3, h4, h5⟩, _⟩ := O.node n _ q
        refine .inr ⟨_, kvs, rfl, ?_, by rw [← h2, emp_len (List.length_map ..)]⟩
        cases lk with
        | true => obtain ⟨od, h1⟩ := h1; exact .inr ⟨od, h1⟩
        | false => exact .inl h1
      | obj _ _ _ => cases e
theorem d_truth (ha : PE X a (tE X.K W fa)) (he : ∀ whole, isTrue a X.env whole = (do let v ← whole; standAt a.pos; holding [v] (truthy v)) := by intro _; rfl) : PT X a (tT X.K W (cTruth fa)) := by
  refine ⟨fun pins s σ H Q I ⟨F, env, ts, st, S, h⟩ => ?_⟩
  refine isTrue_plain (thn (ha.run pins s σ H (fun x H1 => ∃ b, (TruV X.K x H1 b ∨ ∃ p kvs, x = .ref p ∧ Rd H1 p (.dK kvs) ∧ b = !kvs.isEmpty) ∧ Q b H1) I (tE.go S h fun r st1 v H1 S1 h1 => ?_)) fun v s1 ⟨x, H1, I1, r1, b, hb, q⟩ => ?_) (he _)
  · cases q : truth st1 r with
    | none => rw [q] at h1; exact h1.elim
    | some b =>
      rw [q] at h1
      obtain ⟨ι, O⟩ := id S1
      exact ⟨b, tru_run O (O.tmp _ (List.mem_cons_self ..)) q, h1 H1 S1.pop⟩
  · rcases hb with hb | ⟨p, kvs, rfl, hr, rfl⟩
    · exact tru_ok pins s1 σ H1 x v Q I1 r1 ⟨b, hb, q⟩
    · exact tru_dK pins s1 σ H1 _ v Q I1 r1 ⟨p, kvs, rfl, hr, q⟩
/-- an expression that gives a bool, as a test -/
def cB (f : EF) : CF := fun env st => (f env st).bind fun r st1 => match r with | .val (.bl b) => .ok b st1 | _ => .no
theorem tB_of {t : TE} (i : ∀ σ H Q, tE X.K W fa σ H Q → t σ H Q) : ∀ σ H Q, tT X.K W (cB fa) σ H Q → t σ H fun x H1 => ∃ c, x = .bl c ∧ Q c H1 := fun σ H Q ⟨F, env, ts, st, S, h⟩ =>
  i σ H _ (tE.go S h fun r st1 v H1 S1 h1 => by
    split at h1
    · rename_i b
      obtain ⟨ι, O⟩ := id S1
      exact ⟨b, O.tmp _ (List.mem_cons_self ..), h1 H1 S1.pop⟩
    · exact h1.elim)
theorem d_tval (ha : PE X a (tE X.K W fa)) (he : ∀ whole, isTrue a X.env whole = (do let v ← whole; standAt a.pos; holding [v] (truthy v)) := by intro _; rfl) : PT X a (tT X.K W (cB fa)) :=
  pt_up (pt_val ha he) (tB_of fun _ _ _ h => h)
theorem d_tcmp {op : CmpOp} {r : R2} {o : O2} (ho : OpR X (compareOp op) r) (hs : Sem2 X.K W r o) (ha : PE X a (tE X.K W fa)) (hb : PE X b (tE X.K W fb)) (hm : behindInMarks op b = false := by rfl) : PT X (.Compare a [op] [b] pos) (tT X.K W (cB (eOp o fa fb))) :=
  pt_up (pt_cmpR ho ha hb hm) (tB_of (tOp_of hs))
theorem tT.go {K : PySem.W.Frag} {F : Frm} {σ : L2.St} {env : Env} {ts : List (V × RV)} {st : Stx} {H : Hp} {Q : Bool → Hp → Prop} {α : Type} {k : Bool → Stx → Rs α} {oc : α → Stx → Prop} (S : StOk K F σ env ts st H) (h : Post K W F σ env ts ((ca env st).bind k) oc)
    (go : ∀ b st' H', StOk K F σ env ts st' H' → Post K W F σ env ts (k b st') oc → Q b H') : tT K W ca σ H Q :=
  ⟨F, env, ts, st, S, h.bind.imp fun b st' _ h' H' S' => go b st' H' S' h'⟩
def cNot (c : CF) : CF := fun env st => (c env st).bind fun b st1 => .ok (!b) st1
def cAnd (c d : CF) : CF := fun env st => (c env st).bind fun b st1 => if b = true then d env st1 else .ok false st1
def cOr (c d : CF) : CF := fun env st => (c env st).bind fun b st1 => if b = true then .ok true st1 else d env st1
theorem d_tnot (h : PT X a (tT X.K W ca)) : PT X (.UnaryOp .Not a pos) (tT X.K W (cNot ca)) := pt_up (pt_not h) fun σ H Q ⟨F, env, ts, st, S, h⟩ => tT.go S h fun b st1 H1 S1 h1 => h1 H1 S1
theorem pw_up {t u : TT} (h : PW X e t) (i : ∀ σ H Q, u σ H Q → t σ H Q) : PW X e u := ⟨fun wh pins s σ H Q I hw => h.run wh pins s σ H Q I (i σ H Q hw)⟩
variable {rest : List Expr}
theorem d_and1 (h : PT X a (tT X.K W ca)) : PW X (.BoolOp .And [a] pos) (tT X.K W ca) := pw_and1 h
theorem d_or1 (h : PT X a (tT X.K W ca)) : PW X (.BoolOp .Or [a] pos) (tT X.K W ca) := pw_or1 h
theorem d_and (h : PT X a (tT X.K W ca)) (h2 : PW X (.BoolOp .And (b :: rest) pos) (tT X.K W cb)) : PW X (.BoolOp .And (a :: b :: rest) pos) (tT X.K W (cAnd ca cb)) :=
  pw_up (pw_and h h2) fun σ H Q ⟨F, env, ts, st, S, h⟩ => tT.go S h fun b st1 H1 S1 h1 => by
    cases b with
    | true => exact ⟨F, env, ts, st1, S1, h1⟩
    | false => exact h1 H1 S1
theorem d_or (h : PT X a (tT X.K W ca)) (h2 : PW X (.BoolOp .Or (b :: rest) pos) (tT X.K W cb)) : PW X (.BoolOp .Or (a :: b :: rest) pos) (tT X.K W (cOr ca cb)) :=
  pw_up (pw_or h h2) fun σ H Q ⟨F, env, ts, st, S, h⟩ => tT.go S h fun b st1 H1 S1 h1 => by
    cases b with
    | true => exact h1 H1 S1
    | false => exact ⟨F, env, ts, st1, S1, h1⟩
/-- and, or, not as values of bools; a if c else b -/
def eAnd (fa fb : EF) : EF := fun env st => (fa env st).bind fun r st1 => match r with
  | .val (.bl b) => if b = true then fb env st1 else .ok (.val (.bl false)) st1
  | _ => .no
def eOr (fa fb : EF) : EF := fun env st => (fa env st).bind fun r st1 => match r with
  | .val (.bl b) => if b = true then .ok (.val (.bl true)) st1 else fb env st1
  | _ => .no
def eNot (fa : EF) : EF := fun env st => (fa env st).bind fun r st1 => match r with
  | .val (.bl b) => .ok (.val (.bl (!b))) st1
  | _ => .no
theorem d_one {op : BoolOp} (h : PE X a (tE X.K W fa)) : PE X (.BoolOp op [a] pos) (tE X.K W fa) := pe_one h
theorem d_eand (h : PE X a (tE X.K W fa)) (h2 : PE X (.BoolOp .And (b :: rest) pos) (tE X.K W fb)) : PE X (.BoolOp .And (a :: b :: rest) pos) (tE X.K W (eAnd fa fb)) :=
  pe_up (pe_and h h2) fun σ H Q ⟨F, env, ts, st, S, h⟩ => tE.go S h fun r st1 v H1 S1 h1 => by
    split at h1
    · rename_i b
      obtain ⟨ι, O⟩ := id S1
      refine ⟨b, O.tmp _ (List.mem_cons_self ..), ?_⟩
      cases b with
      | true => exact ⟨F, env, _, st1, S1, h1.imp fun r st2 _ h2 v2 H2 S2 => h2 v2 H2 (S2.tmps fun t m => (List.mem_cons.mp m).elim (fun e => e ▸ List.mem_cons_self ..) fun m => List.mem_cons_of_mem _ (List.mem_cons_of_mem _ m))⟩
      | false => exact Post.flat (d := .bl false) S1 rfl (fun t m => List.mem_cons_of_mem _ m) h1
    · exact h1.elim
theorem d_eor (h : PE X a (tE X.K W fa)) (h2 : PE X (.BoolOp .Or (b :: rest) pos) (tE X.K W fb)) : PE X (.BoolOp .Or (a :: b :: rest) pos) (tE X.K W (eOr fa fb)) :=
  pe_up (pe_or h h2) fun σ H Q ⟨F, env, ts, st, S, h⟩ => tE.go S h fun r st1 v H1 S1 h1 => by
    split at h1
    · rename_i b
      obtain ⟨ι, O⟩ := id S1
      refine ⟨b, O.tmp _ (List.mem_cons_self ..), ?_⟩
      cases b with
      | false => exact ⟨F, env, _, st1, S1, h1.imp fun r st2 _ h2 v2 H2 S2 => h2 v2 H2 (S2.tmps fun t m => (List.mem_cons.mp m).elim (fun e => e ▸ List.mem_cons_self ..) fun m => List.mem_cons_of_mem _ (List.mem_cons_of_mem _ m))⟩
      | true => exact Post.flat (d := .bl true) S1 rfl (fun t m => List.mem_cons_of_mem _ m) h1
    · exact h1.elim
theorem d_enot (h : PE X a (tE X.K W fa)) : PE X (.UnaryOp .Not a pos) (tE X.K W (eNot fa)) :=
  pe_up (pe_not h) fun σ H Q ⟨F, env, ts, st, S, h⟩ => tE.go S h fun r st1 v H1 S1 h1 => by
    split at h1
    · rename_i b
      obtain ⟨ι, O⟩ := id S1
      exact ⟨b, O.tmp _ (List.mem_cons_self ..), Post.flat (d := .bl (!b)) S1 rfl (fun t m => List.mem_cons_of_mem _ m) h1⟩
    · exact h1.elim
def eIf (c : CF) (fa fb : EF) : EF := fun env st => (c env st).bind fun b st1 => if b = true then fa env st1 else fb env st1
theorem d_if {c : Expr} (hc : PT X c (tT X.K W ca)) (ha : PE X a (tE X.K W fa)) (hb : PE X b (tE X.K W fb)) : PE X (.IfExp c a b pos) (tE X.K W (eIf ca fa fb)) :=
  pe_up (pe_ifExp hc ha hb) fun σ H Q ⟨F, env, ts, st, S, h⟩ => tT.go S h fun b st1 H1 S1 h1 => by
    cases b with
    | true => exact ⟨F, env, ts, st1, S1, h1⟩
    | false => exact ⟨F, env, ts, st1, S1, h1⟩
end
end DM
namespace DM
open PySem PySem.Spec PyProof.Rows L2
def Rs.toRt (x : Rs α) (env : Env) (k : α → Stx → Rt) : Rt := match x with | .ok a st => k a st | .er e st => .er e env st | .no => .no
section
variable {K : PySem.W.Frag} {W : WX} {F : Frm} {σ σ' : L2.St} {env env' : Env} {ts ts' : List (V × RV)} {st st' : Stx} {H H' : Hp} {D D' : Ends} {α : Type} {x : Rs α} {y : Rt}
theorem RtPost.bind {k : α → Stx → Rt} (S : StOk K F σ env ts st H) (h : RtPost K W F ts (x.toRt env k) D) : Post K W F σ env ts x fun a st' => RtPost K W F ts (k a st') D := by
  cases x with
  | ok a st' => exact h
  | er e st' => exact fun cls d H' x => h cls d σ H' x
  | no => exact h
theorem RtPost.more (h : RtPost K W F ts y D) (i : ∀ t ∈ ts, t ∈ ts') : RtPost K W F ts' y D := by
  cases y with
  | go f env' st' =>
    cases f with
    | nx => exact fun σ' H' S => h σ' H' (S.tmps i)
    | rt r => exact fun v σ' H' S => h v σ' H' (S.tmps fun t m => (List.mem_cons.mp m).elim (fun e => e ▸ List.mem_cons_self ..) fun m => List.mem_cons_of_mem _ (i t m))
    | bk => exact fun σ' H' S => h σ' H' (S.tmps i)
    | ct => exact fun σ' H' S => h σ' H' (S.tmps i)
  | er e env' st' => exact fun cls d σ' H' x => h cls d σ' H' (x.tmps i)
  | no => exact h
end
abbrev GF := RV → Env → Stx → Option Env
abbrev GsF := List RV → Env → Stx → Option Env
def GPost (K : PySem.W.Frag) (F : Frm) (σ : L2.St) (ts : List (V × RV)) (st : Stx) (H : Hp) (vs : List Nat) (x : Option Env) (Q : L2.St → Hp → Prop) : Prop := match x with
  | some env' => ∀ σ', σ'.length = σ.length → (∀ j, j ∉ vs → σ'[j]? = σ[j]?) → StOk K F σ' env' ts st H → Q σ' H
  | none => False
def tG (K : PySem.W.Frag) (f : GF) (vs : List Nat) : TG := fun v σ H Q => ∃ F env ts st r, StOk K F σ env ((v, r) :: ts) st H ∧ GPost K F σ ts st H vs (f r env st) Q
def tGs (K : PySem.W.Frag) (f : GsF) (vs : List Nat) : TGs := fun xs σ H Q => ∃ F env ts st rs, xs.length = rs.length ∧ StOk K F σ env (xs.zip rs ++ ts) st H ∧ GPost K F σ ts st H vs (f rs env st) Q
def Stx.tp : RV → Option (List D)
  | .val (.tup ds) => some ds
  | _ => none
def fName (i : Nat) : GF := fun r env _ => some (env.set i (some r))
def fNil : GsF := fun rs env _ => match rs with | [] => some env | _ => none
def fCons (f : GF) (g : GsF) : GsF := fun rs env st => match rs with | r :: rs => (f r env st).bind fun env' => g rs env' st | [] => none
def fTup (g : GsF) : GF := fun r env st => (Stx.tp r).bind fun ds => g (ds.map .val) env st
section
variable {X : Cx} {W : WX} {pos : Pos} {tg e : Expr} {es : List Expr} {f : GF} {g : GsF} {vs us : List Nat} {fe : EF}
theorem pg_up {t u : TG} (h : PG X tg t) (i : ∀ v σ H Q, u v σ H Q → t v σ H Q) : PG X tg u := ⟨fun pins s σ H v x Q I r hw => h.run pins s σ H v x Q I r (i v σ H Q hw)⟩
theorem pgs_up {t u : TGs} (h : PGs X es t) (i : ∀ v σ H Q, u v σ H Q → t v σ H Q) : PGs X es u := ⟨fun pins s σ H v x Q I r hw => h.run pins s σ H v x Q I r (i v σ H Q hw)⟩
theorem dg_name (i : Nat) {x : Str} (hN : X.N.Nodup) (hi : X.N[i]? = some x) (hx : Loc X.env.scope x) (hf : X.fn x = true ∨ X.env.scope.names.lookup x = some .local := by first | exact .inl rfl | exact .inr rfl | assumption) : PG X (.Name x pos) (tG X.K (fName i) [i]) :=
  pg_up (pg_name hN hi hx hf) fun v σ H Q ⟨F, env, ts, st, r, S, h⟩ => h (σ.set i (some v)) (List.length_set ..) (fun j hj => List.getElem?_set_ne fun e => hj (by rw [← e]; exact List.mem_cons_self ..)) (S.set i)
theorem dgs_nil : PGs X [] (tGs X.K fNil []) := pgs_up pgs_nil fun xs σ H Q ⟨F, env, ts, st, rs, hl, S, h⟩ => by
  cases rs with
  | nil =>
    cases xs with
    | nil => exact ⟨rfl, h σ rfl (fun _ _ => rfl) S⟩
    | cons x xs => simp at hl
  | cons r rs => exact h.elim
theorem dgs_cons (h1 : PG X e (tG X.K f vs)) (h2 : PGs X es (tGs X.K g us)) (hs : (assignEach (e :: es) X.env).map (·.2) = assign e X.env :: (assignEach es X.env).map (·.2) := by rfl) : PGs X (e :: es) (tGs X.K (fCons f g) (vs ++ us)) :=
  pgs_up (pgs_cons h1 h2 hs) fun xs σ H Q ⟨F, env, ts, st, rs, hl, S, h⟩ => by
    cases rs with
    | nil => exact h.elim
    | cons r rs =>
      cases xs with
      | nil => simp at hl
      | cons x xs =>
        refine ⟨x, xs, rfl, F, env, xs.zip rs ++ ts, st, r, S, ?_⟩
        unfold fCons at h
        simp only at h
        cases q : f r env st with
        | none => rw [q] at h; exact h.elim
        | some env1 =>
          rw [q] at h
          intro σ1 l1 k1 S1
          refine ⟨F, env1, ts, st, rs, by simpa using hl, S1, ?_⟩
          have h : GPost _ F σ ts st H (vs ++ us) (g rs env1 st) Q := h
          cases q2 : g rs env1 st with
          | none => rw [q2] at h; exact h.elim
          | some env2 =>
            rw [q2] at h
            intro σ2 l2 k2 S2
            exact h σ2 (l2.trans l1) (fun j hj => (k2 j fun m => hj (List.mem_append_right _ m)).trans (k1 j fun m => hj (List.mem_append_left _ m))) S2
theorem zip_vls {K : PySem.W.Frag} {P : Addr → Prop} {H : Hp} {ι : Nat → Addr} {n : Nat} : ∀ {ds : List D} {us : List V}, Vls K P H ds us → ∀ t ∈ us.zip (ds.map RV.val), RVl K P H ι n t.2 t.1
  | [], us, h, t, m => by rw [show us = [] from h] at m; exact (List.not_mem_nil m).elim
  | d :: ds, us, h, t, m => by
    obtain ⟨v, r, rfl, h1, h2⟩ := h
    rw [List.map_cons, List.zip_cons_cons] at m
    rcases List.mem_cons.mp m with rfl | m
    · exact h1
    · exact zip_vls h2 t m
theorem dg_tup {k n : Nat} (hc : X.calm = true) (h : PGs X es (tGs X.K g vs)) (hn : (assignEach es X.env).length = n := by rfl) (hst : (assignEach es X.env).findIdx? (·.1) = none := by rfl) (hgn : ∀ rs env st env', g rs env st = some env' → rs.length = n) : PG X (.Tuple es k pos) (tG X.K (fTup g) vs) :=
  pg_up (pg_tup (n := n) hc h hn hst) fun v σ H Q ⟨F, env, ts, st, r, S, h⟩ => by
    obtain ⟨ι, O⟩ := id S
    have hr := O.tmp _ (List.mem_cons_self ..)
    unfold fTup at h
    cases q : Stx.tp r with
    | none => rw [q] at h; exact h.elim
    | some ds =>
      rw [q] at h
      have h : GPost _ F σ ts st H vs (g (ds.map .val) env st) Q := h
      cases r with
      | ptr n => cases q
      | val d =>
        cases d with
        | tup xs =>
          cases q
          obtain ⟨a, us, rfl, la, l, q⟩ := hr
          cases q2 : g (ds.map .val) env st with
          | none => rw [q2] at h; exact h.elim
          | some env1 =>
            have hl := hgn _ _ _ _ q2
            rw [List.length_map] at hl
            refine ⟨a, us, rfl, la.sq, by rw [q.length, hl], F, env, ts, st, ds.map .val, by rw [List.length_map, q.length], ?_, h⟩
            refine ⟨ι, (O.tmps (ts' := ts) fun t m => List.mem_cons_of_mem _ m) |> fun O2 => { O2 with tmp := fun t m => ?_ }⟩
            rcases List.mem_append.mp m with m | m
            · exact zip_vls q t m
            · exact O2.tmp t m
        | _ => cases q
theorem fNil_len : ∀ rs env st env', fNil rs env st = some env' → rs.length = 0 := fun rs env st env' h => by
  cases rs with
  | nil => rfl
  | cons r rs => cases h
theorem fCons_len {n : Nat} (i : ∀ rs env st env', g rs env st = some env' → rs.length = n) : ∀ rs env st env', fCons f g rs env st = some env' → rs.length = n + 1 := fun rs env st env' h => by
  cases rs with
  | nil => cases h
  | cons r rs =>
    unfold fCons at h
    simp only at h
    cases q : f r env st with
    | none => rw [q] at h; cases h
    | some env1 =>
      rw [q] at h
      rw [List.length_cons, i rs env1 st env' h]
end
section
variable {X : Cx} {W : WX} {pos : Pos} {tg e c : Expr} {fe : EF} {f : GF} {vs : List Nat} {s : Stmt} {rest body els : List Stmt} {a b g : SF} {cf : CF}
def sNext : SF := fun env st => .go .nx env st
def sSeq (a b : SF) : SF := fun env st => match a env st with | .go .nx env' st' => b env' st' | x => x
def sAsg (fe : EF) (f : GF) : SF := fun env st => (fe env st).toRt env fun r st1 => match f r env st1 with | some env' => .go .nx env' st1 | none => .no
def sExpr (fe : EF) : SF := fun env st => (fe env st).toRt env fun _ st1 => .go .nx env st1
def sRet (fe : EF) : SF := fun env st => (fe env st).toRt env fun r st1 => .go (.rt r) env st1
def sRetN : SF := fun env st => .go (.rt (.val .non)) env st
def sIf (c : CF) (a b : SF) : SF := fun env st => (c env st).toRt env fun t st1 => if t = true then a env st1 else b env st1
def sBreak : SF := fun env st => .go .bk env st
def sCont : SF := fun env st => .go .ct env st
/-- a slot's thing is held no longer: data from here on -/
def sFrz (i : Nat) : SF := fun env st => match env[i]? with
  | some (some (.ptr n)) => match st.at' n with
    | some nd => match nd.data with
      | some d => .go .nx (env.set i (some (.val d))) (st.del n)
      | none => .no
    | none => .no
  | _ => .go .nx env st
theorem ds_nil : PSs X [] (tS X.K W sNext) := pss_up pss_nil fun D σ H ⟨F, env, ts, st, S, h⟩ => h σ H S
theorem ds_pass : PS X (.Pass pos) (tS X.K W sNext) := ps_up ps_pass fun D σ H ⟨F, env, ts, st, S, h⟩ => h σ H S
theorem ds_doc {x j pos'} : PS X (.Expr (.Constant (.str x) j pos) pos') (tS X.K W sNext) := ps_up ps_doc fun D σ H ⟨F, env, ts, st, S, h⟩ => h σ H S
theorem ds_break : PS X (.Break pos) (tS X.K W sBreak) := ps_up ps_break fun D σ H ⟨F, env, ts, st, S, h⟩ => h σ H S
theorem ds_cont : PS X (.Continue pos) (tS X.K W sCont) := ps_up ps_continue fun D σ H ⟨F, env, ts, st, S, h⟩ => h σ H S
theorem ds_cons (h1 : PS X s (tS X.K W a)) (h2 : PSs X rest (tS X.K W b)) : PSs X (s :: rest) (tS X.K W (sSeq a b)) :=
  pss_up (pss_cons h1 h2) fun D σ H ⟨F, env, ts, st, S, h⟩ => by
    refine ⟨F, env, ts, st, S, ?_⟩
    unfold sSeq at h
    cases q : a env st with
    | go fl env' st' =>
      rw [q] at h
      cases fl with
      | nx => exact fun σ' H' S' => ⟨F, env', ts, st', S', h⟩
      | rt r => exact h
      | bk => exact h
      | ct => exact h
    | er e env' st' => rw [q] at h; exact h
    | no => rw [q] at h; exact h
theorem ds_one (h1 : PS X s (tS X.K W a)) : PSs X [s] (tS X.K W a) := pss_up (pss_one h1) fun D σ H h => h
/-- ahead of a statement a slot's thing becomes data -/
theorem ds_frz (i : Nat) (h : PSs X rest (tS X.K W b)) : PSs X rest (tS X.K W (sSeq (sFrz i) b)) :=
  pss_up h fun D σ H ⟨F, env, ts, st, S, h⟩ => by
    unfold sSeq sFrz at h
    cases q : env[i]? with
    | none => rw [q] at h; exact ⟨F, env, ts, st, S, h⟩
    | some o =>
      cases o with
      | none => rw [q] at h; exact ⟨F, env, ts, st, S, h⟩
      | some r =>
        cases r with
        | val d => rw [q] at h; exact ⟨F, env, ts, st, S, h⟩
        | ptr n =>
          rw [q] at h
          simp only at h
          cases q2 : st.at' n with
          | none => rw [q2] at h; exact h.elim
          | some nd =>
            rw [q2] at h
            simp only at h
            cases q3 : nd.data with
            | none => rw [q3] at h; exact h.elim
            | some d =>
              rw [q3] at h
              simp only at h
              obtain ⟨ι, O⟩ := S
              obtain ⟨v, hv, hn, rfl⟩ := O.slot i _ q
              have O2 := (O.frz q2 q3 hn).set i
              have e : σ.set i (some (.ref (ι n))) = σ := by
                refine List.ext_getElem? fun j => ?_
                by_cases hj : i = j
                · subst hj
                  have hlt : i < σ.length := (List.getElem?_eq_some_iff.mp hv).1
                  rw [List.getElem?_set_self hlt, hv]
                · rw [List.getElem?_set_ne hj]
              rw [e] at O2
              exact ⟨F, _, ts, _, ⟨ι, O2⟩, h⟩
theorem sAsg_of {t : TG} (hg : ∀ v σ H Q, tG X.K f vs v σ H Q → t v σ H Q) : ∀ D σ H, tS X.K W (sAsg fe f) D σ H → tAsg (tE X.K W fe) t D σ H := fun D σ H ⟨F, env, ts, st, S, h⟩ =>
  ⟨F, env, ts, st, S, (RtPost.bind S h).imp fun r st1 _ h1 v H1 S1 => hg v σ H1 _ ⟨F, env, ts, st1, r, S1, by
    cases q : f r env st1 with
    | none => rw [q] at h1; exact h1.elim
    | some env' => rw [q] at h1; exact fun σ' _ _ S' => h1 σ' H1 S'⟩⟩
theorem ds_set (i : Nat) {x : Str} {pos' : Pos} (hN : X.N.Nodup) (hi : X.N[i]? = some x) (hx : Loc X.env.scope x) (he : PE X e (tE X.K W fe)) (hs : swapsWith e (some (.Name x pos')) pos.line X.env = pure false := by rfl)
    (hf : X.fn x = true ∨ X.env.scope.names.lookup x = some .local := by first | exact .inl rfl | exact .inr rfl | assumption) : PS X (.Assign [.Name x pos'] e pos) (tS X.K W (sAsg fe (fName i))) :=
  ps_up (ps_set hN hi hx he hs hf) (sAsg_of (vs := [i]) fun v σ H Q ⟨F, env, ts, st, r, S, h⟩ => h (σ.set i (some v)) (List.length_set ..) (fun j hj => List.getElem?_set_ne fun e => hj (by rw [← e]; exact List.mem_cons_self ..)) (S.set i))
theorem ds_asg (he : PE X e (tE X.K W fe)) (hg : PG X tg (tG X.K f vs)) (hs : swapsWithSole [tg] e pos.line X.env = pure false := by rfl) (hw : swappedStores [tg] e X.env = pure none := by rfl)
    (h1 : (assignEach [tg] X.env).map (·.2) = [assign tg X.env] := by rfl) : PS X (.Assign [tg] e pos) (tS X.K W (sAsg fe f)) := ps_up (ps_asg he hg hs hw h1) (sAsg_of fun v σ H Q h => h)
theorem ds_expr (he : PE X e (tE X.K W fe)) (hs : swapsWith e none pos.line X.env = pure false := by rfl) : PS X (.Expr e pos) (tS X.K W (sExpr fe)) :=
  ps_up (ps_expr he hs) fun D σ H ⟨F, env, ts, st, S, h⟩ => ⟨F, env, ts, st, S, (RtPost.bind S h).imp fun r st1 _ h1 v H1 S1 => h1 σ H1 S1.pop⟩
theorem ds_ret (he : PE X e (tE X.K W fe)) : PS X (.Return (some e) pos) (tS X.K W (sRet fe)) :=
  ps_up (ps_ret he) fun D σ H ⟨F, env, ts, st, S, h⟩ => ⟨F, env, ts, st, S, (RtPost.bind S h).imp fun r st1 _ h1 v H1 S1 => h1 v σ H1 S1⟩
theorem ds_retN : PS X (.Return none pos) (tS X.K W sRetN) := ps_up ps_retN fun D σ H ⟨F, env, ts, st, S, h⟩ => h .non σ H (S.flat .non rfl)
theorem ds_if (hc : PT X c (tT X.K W cf)) (ha : PSs X body (tS X.K W a)) (hb : PSs X els (tS X.K W b)) : PS X (.If c body els pos) (tS X.K W (sIf cf a b)) :=
  ps_up (ps_if hc ha hb) fun D σ H ⟨F, env, ts, st, S, h⟩ => ⟨F, env, ts, st, S, (RtPost.bind S h).imp fun t st1 _ h1 H1 S1 => by
    cases t with
    | true => exact ⟨F, env, ts, st1, S1, h1⟩
    | false => exact ⟨F, env, ts, st1, S1, h1⟩⟩
/-- code that is never come to -/
def sNo : SF := fun _ _ => .no
theorem ds_never : PS X s (tS X.K W sNo) := ps_up ps_never fun D σ H ⟨F, env, ts, st, S, h⟩ => h.elim
end
/-- what is locked is so in each state of this frame -/
def LkOk (K : PySem.W.Frag) (F : Frm) (Lk : List (Addr × Obj × HO)) : Prop := ∀ σ env ts st H, StOk K F σ env ts st H → ∀ x ∈ Lk, H x.1 = some (.frz x.2.1 x.2.2)
theorem lk_nil {K : PySem.W.Frag} {F : Frm} : LkOk K F [] := fun _ _ _ _ _ _ _ m => nomatch m
structure IterOk (K : PySem.W.Frag) (Lk : List (Addr × Obj × HO)) (t1 : List (V × RV)) (ds : List D) (J : It) : Prop where
  goes : ∀ F σ env ts st H i, LkOk K F Lk → (∀ t ∈ t1, t ∈ ts) → StOk K F σ env ts st H → i < ds.length → J.go i H
  stops : ∀ F σ env ts st H, LkOk K F Lk → (∀ t ∈ t1, t ∈ ts) → StOk K F σ env ts st H → J.stop ds.length H
  yields : ∀ F σ env ts st H H' i x d, LkOk K F Lk → (∀ t ∈ t1, t ∈ ts) → StOk K F σ env ts st H → ds[i]? = some d → J.yld i H x H' → StOk K F σ env ((x, .val d) :: ts) st H' ∧ L2.Same H H'
abbrev ItF := Env → Stx → Rs (List D)
def okI (K : PySem.W.Frag) (F : Frm) (σ : L2.St) (env : Env) (ts : List (V × RV)) (R : It → Hp → Prop) : List D → Stx → Prop := fun ds st' => ∀ J t1 H', StOk K F σ env (t1 ++ ts) st' H' → IterOk K [] t1 ds J → R J H'
def tI (K : PySem.W.Frag) (W : WX) (f : ItF) : TI := fun σ H R => ∃ F env ts st, StOk K F σ env ts st H ∧ Post K W F σ env ts (f env st) (okI K F σ env ts R)
def loopM (f : GF) (body : SF) : List D → Env → Stx → Rt
  | [], env, st => .go .nx env st
  | d :: ds, env, st => match f (.val d) env st with
    | none => .no
    | some env1 => match body env1 st with
      | .go .nx env2 st2 => loopM f body ds env2 st2
      | .go .ct env2 st2 => loopM f body ds env2 st2
      | .go .bk env2 st2 => .go .nx env2 st2
      | .go (.rt r) env2 st2 => .go (.rt r) env2 st2
      | .er e env2 st2 => .er e env2 st2
      | .no => .no
def sFor (fi : ItF) (f : GF) (body : SF) : SF := fun env st => (fi env st).toRt env fun ds st1 => loopM f body ds env st1
section
variable {X : Cx} {W : WX} {pos : Pos} {tg e c iter : Expr} {fi : ItF} {f : GF} {vs : List Nat} {body : List Stmt} {g : SF} {cf : CF}
theorem for_run {K : PySem.W.Frag} {F : Frm} {σ : L2.St} {env : Env} {ts t1 : List (V × RV)} {st : Stx} {H : Hp} {ds : List D} {J : It} {Lk : List (Addr × Obj × HO)} {D : Ends} (hL : LkOk K F Lk) (S : StOk K F σ env (t1 ++ ts) st H) (I : IterOk K Lk t1 ds J) (h : RtPost K W F ts (loopM f g ds env st) D) :
    ∃ W' : Nat → Nat → L2.St → Hp → Prop, (∃ m, W' 0 m σ H) ∧ ∀ i m σ H, W' i m σ H →
      (J.stop i H ∧ D.nx σ H) ∨ (J.go i H ∧ ∃ N : L2.St → Hp → Prop, (∀ σ' H', N σ' H' → ∃ m', m' < m ∧ W' (i + 1) m' σ' H') ∧ ∀ x H', J.yld i H x H' → tG K f vs x σ H' fun σ2 H2 => tS K W g { D with nx := N, ct := N, bk := D.nx } σ2 H2) := by
  have w : Walk J ds.length (fun H => ∃ σ env st, StOk K F σ env (t1 ++ ts) st H) J.yld :=
    ⟨fun i H hi ⟨σ, env, st, S⟩ => I.goes F σ env _ st H i hL (fun t m => List.mem_append_left _ m) S hi, fun H ⟨σ, env, st, S⟩ => I.stops F σ env _ st H hL (fun t m => List.mem_append_left _ m) S, fun _ _ _ _ _ _ y => y⟩
  refine for_it w (g := tG K f vs) (tb := tS K W g) (D := D) (fun i σ' H' => ∃ env' st', StOk K F σ' env' (t1 ++ ts) st' H' ∧ RtPost K W F ts (loopM f g (ds.drop i) env' st') D) ⟨env, st, S, h⟩ (fun i σ' H' _ ⟨env', st', S', _⟩ => ⟨σ', env', st', S'⟩) (fun i x σ' H1 H2 hi ⟨env', st', S', h'⟩ y => ?_) (fun σ' H' ⟨env', st', S', h'⟩ => ?_)
  · obtain ⟨S2, _⟩ := I.yields F σ' env' _ st' H1 H2 i x ds[i] hL (fun t m => List.mem_append_left _ m) S' (List.getElem?_eq_getElem hi) y
    rw [List.drop_eq_getElem_cons hi] at h'
    unfold loopM at h'
    refine ⟨F, env', t1 ++ ts, st', .val ds[i], S2, ?_⟩
    cases q : f (.val ds[i]) env' st' with
    | none => rw [q] at h'; exact h'.elim
    | some env1 =>
      rw [q] at h'
      simp only at h'
      intro σ2 _ _ S3
      refine ⟨F, env1, t1 ++ ts, st', S3, ?_⟩
      have wk : ∀ {t : V × RV}, t ∈ ts → t ∈ t1 ++ ts := fun m => List.mem_append_right _ m
      cases q2 : g env1 st' with
      | go fl env2 st2 =>
        rw [q2] at h'
        cases fl with
        | nx => exact fun σ4 H4 S4 => ⟨env2, st2, S4, h'⟩
        | ct => exact fun σ4 H4 S4 => ⟨env2, st2, S4, h'⟩
        | bk => exact fun σ4 H4 S4 => h' σ4 H4 (S4.tmps fun t m => wk m)
        | rt r => exact fun v σ4 H4 S4 => h' v σ4 H4 (S4.tmps fun t m => (List.mem_cons.mp m).elim (fun e => e ▸ List.mem_cons_self ..) fun m => List.mem_cons_of_mem _ (wk m))
      | er e env2 st2 => rw [q2] at h'; exact fun cls d σ4 H4 x => h' cls d σ4 H4 (x.tmps fun t m => wk m)
      | no => rw [q2] at h'; exact h'
  · rw [List.drop_length] at h'
    exact h' σ' H' (S'.tmps fun t m => List.mem_append_right _ m)
theorem ds_for (hp : PassesOwn (model X.prog X.w) X.A X.env X.xe) (hc : X.calm = true) (hi : PI X tg iter (tI X.K W fi)) (hg : PG X tg (tG X.K f vs)) (hb : PSs X body (tS X.K W g)) (hs : ∀ x, foldedSetIterable iter X.env x = pure x := by intro _; rfl) :
    PS X (.For tg iter body [] pos) (tS X.K W (sFor fi f g)) :=
  ps_up (ps_for hp hc hi hg hb hs) fun D σ H ⟨F, env, ts, st, S, h⟩ =>
    ⟨F, env, ts, st, S, (RtPost.bind S h).imp fun ds st1 _ h1 J t1 H1 S1 I => for_run lk_nil S1 I h1⟩
/-- while, at most n turns -/
def whileM (c : CF) (body : SF) : Nat → Env → Stx → Rt
  | 0, _, _ => .no
  | n + 1, env, st => (c env st).toRt env fun t st1 => if t = true then
      match body env st1 with
      | .go .nx env2 st2 => whileM c body n env2 st2
      | .go .ct env2 st2 => whileM c body n env2 st2
      | .go .bk env2 st2 => .go .nx env2 st2
      | .go (.rt r) env2 st2 => .go (.rt r) env2 st2
      | .er e env2 st2 => .er e env2 st2
      | .no => .no
    else .go .nx env st1
end
end DM
namespace DM
open PySem PySem.Spec PyProof.Rows L2
section
variable {K : PySem.W.Frag} {W : WX} {F : Frm} {ι ι' : Nat → Addr} {σ σ' : L2.St} {env env' : Env} {ts ts' t1 : List (V × RV)} {st st' : Stx} {H H' : Hp} {a D0 : Addr} {o : HO} {v : V} {r : RV} {n : Nat} {ds : List D} {ks : List Key} {J : It}
def Frm.hold (F : Frm) (a : Addr) : Frm := { F with X := fun b => F.X b ∨ b = a }
theorem Ok.hold (O : Ok K F ι σ env ts st H) (np : H a = none) : Ok K (F.hold a) ι σ env ts st (upd H a o) := by
  have s := M.same_new (o := o) np
  have k : Kp (Pf F ι st) (Pf (F.hold a) ι st) H (upd H a o) := ⟨fun b o' nf _ h => h.elim (fun h => .inl (s _ _ h)) fun ⟨od, h⟩ => .inr ⟨od, s _ _ h⟩, fun b C dx fs _ h => s _ _ h, fun b o' n h => by
    rintro (q | q | q)
    · exact n (.inl q)
    · exact n (.inr q)
    · exact ne_of_none h np q⟩
  have O1 := O.same s
  exact { len := O.len, slot := fun i r e => let ⟨v, h1, h2⟩ := O.slot i r e; ⟨v, h1, h2.keep k (Nat.le_refl _) fun _ _ => rfl⟩, tmp := fun t m => (O.tmp t m).keep k (Nat.le_refl _) fun _ _ => rfl,
          node := fun n nd e => by
            obtain ⟨h, l⟩ := O.node n nd e
            obtain ⟨o', ho⟩ := h.there
            exact ⟨h.keep k (Nat.le_refl _) (fun _ _ => rfl) (by rw [ho, s _ _ ho]), l⟩
          inj := O.inj, hi := O.hi, nx := O.nx, ag := O.ag, old := O.old, new := O.new, there := O1.there, frame := O1.frame, lock := O1.lock
          xs := fun b h => by
            rcases h with h | rfl
            · exact O1.xs b h
            · exact ⟨_, upd_same⟩
          xn := fun n nd e h => by
            rcases h with h | h
            · exact O.xn n nd e h
            · obtain ⟨o', ho⟩ := (O.node n nd e).1.there
              exact ne_of_none ho np h }
/-- the held thing is written -/
theorem Ok.wrX {o' : HO} (O : Ok K F ι σ env ts st H) (hx : F.X a) (h0 : F.H0 a = none) (ha : H a = some o) (nf : ∀ od w, o ≠ .frz od w) : Ok K F ι σ env ts st (upd H a o') := by
  have nP : ∀ b, ¬Pf F ι st b → b ≠ a := fun b h z => h (.inr (z ▸ hx))
  have k : Kp (Pf F ι st) (Pf F ι st) H (upd H a o') := ⟨fun b u _ hn h => by
      rcases h with h | ⟨od, h⟩
      · exact .inl (by rw [upd_ne (nP b hn)]; exact h)
      · exact .inr ⟨od, by rw [upd_ne (nP b hn)]; exact h⟩, fun b C dx fs hn h => by rw [upd_ne (nP b hn)]; exact h, fun b u hn _ => hn⟩
  have ex : ∀ b u, H b = some u → ∃ u', upd H a o' b = some u' := fun b u h => by
    by_cases z : b = a
    · subst z; exact ⟨_, upd_same⟩
    · exact ⟨u, by rw [upd_ne z]; exact h⟩
  refine ⟨O.len, fun i r e => let ⟨v, h1, h2⟩ := O.slot i r e; ⟨v, h1, h2.keep k (Nat.le_refl _) fun _ _ => rfl⟩, fun t m => (O.tmp t m).keep k (Nat.le_refl _) fun _ _ => rfl, fun n nd e => ?_, O.inj, O.hi, O.nx, O.ag, O.old, O.new,
    fun b u h => let ⟨u', h'⟩ := O.there b u h; ex b u' h', fun b u h n => ?_, fun b od w m => ?_, fun b h => let ⟨u', h'⟩ := O.xs b h; ex b u' h', O.xn⟩
  · obtain ⟨q, l⟩ := O.node n nd e
    exact ⟨q.keep k (Nat.le_refl _) (fun _ _ => rfl) (upd_ne fun z => O.xn n nd e (by rw [z]; exact hx)), l⟩
  · rcases O.frame b u h n with h1 | h1
    · exact .inl (by rw [upd_ne (fun z => by subst z; rw [h0] at h; cases h)]; exact h1)
    · exact .inr h1
  · have := O.lock b od w m
    rw [upd_ne (ne_of this ha (fun z => nf _ _ z.symm))]
    exact this
theorem Ok.unhold (O : Ok K (F.hold a) ι σ env ts st H) (hx : ¬F.X a) : Ok K F ι σ env ts st H ∧ ¬Pf F ι st a ∧ Kp (Pf (F.hold a) ι st) (Pf F ι st) H H := by
  have k : Kp (Pf (F.hold a) ι st) (Pf F ι st) H H := ⟨fun _ _ _ _ h => h, fun _ _ _ _ _ h => h, fun b o n _ q => n (q.elim .inl fun q => .inr (.inl q))⟩
  refine ⟨⟨O.len, fun i r e => let ⟨v, h1, h2⟩ := O.slot i r e; ⟨v, h1, h2.keep k (Nat.le_refl _) fun _ _ => rfl⟩, fun t m => (O.tmp t m).keep k (Nat.le_refl _) fun _ _ => rfl, fun n nd e => let ⟨q, l⟩ := O.node n nd e; ⟨q.keep k (Nat.le_refl _) (fun _ _ => rfl) rfl, l⟩,
    O.inj, O.hi, O.nx, O.ag, O.old, O.new, O.there, O.frame, O.lock, fun b h => O.xs b (.inl h), fun n nd e h => O.xn n nd e (.inl h)⟩, ?_, k⟩
  rintro (⟨n, nd, e, q⟩ | q)
  · exact O.xn n nd e (.inr q)
  · exact hx q

end
section
variable {X : Cx} {W : WX} {pos : Pos} {tg e c iter : Expr} {fi : ItF} {f : GF} {vs : List Nat} {body : List Stmt} {g : SF} {cf : CF} {fe : EF} {ff : AF}
def sWhile (n : Nat) (c : CF) (body : SF) : SF := whileM c body n
theorem ds_while (n : Nat) (hp : PassesOwn (model X.prog X.w) X.A X.env X.xe) (hc : PT X c (tT X.K W cf)) (hb : PSs X body (tS X.K W g)) : PS X (.While c body [] pos) (tS X.K W (sWhile n cf g)) :=
  ps_up (ps_while hp hc hb) fun D σ H ⟨F, env, ts, st, S, h⟩ => by
    refine ⟨fun m σ H => ∃ env st, StOk X.K F σ env ts st H ∧ RtPost X.K W F ts (whileM cf g m env st) D, ⟨n, env, st, S, h⟩, ?_⟩
    rintro m σ H ⟨env, st, S, h⟩
    cases m with
    | zero => exact h.elim
    | succ m =>
      refine ⟨F, env, ts, st, S, (RtPost.bind S h).imp fun t st1 _ h1 H1 S1 => ?_⟩
      cases t with
      | false => exact h1 σ H1 S1
      | true =>
        rw [if_pos rfl] at h1 ⊢
        refine ⟨fun σ' H' => ∃ env st, StOk X.K F σ' env ts st H' ∧ RtPost X.K W F ts (whileM cf g m env st) D, fun σ' H' q => ⟨m, Nat.lt_succ_self _, q⟩, F, env, ts, st1, S1, ?_⟩
        cases q2 : g env st1 with
        | go fl env2 st2 =>
          rw [q2] at h1
          cases fl with
          | nx => exact fun σ4 H4 S4 => ⟨env2, st2, S4, h1⟩
          | ct => exact fun σ4 H4 S4 => ⟨env2, st2, S4, h1⟩
          | bk => exact h1
          | rt r => exact h1
        | er e env2 st2 => rw [q2] at h1; exact h1
        | no => rw [q2] at h1; exact h1
theorem PI_or {wi wi2 : TI} (h : PI X tg iter wi) (h2 : PI X tg iter wi2) : PI X tg iter (fun σ H R => wi σ H R ∨ wi2 σ H R) := ⟨fun pins s σ H R I hw => hw.elim (fun hw => h.run pins s σ H R I hw) fun hw => h2.run pins s σ H R I hw⟩
theorem pi_up {wi wi2 : TI} (h : PI X tg iter wi) (i : ∀ σ H R, wi2 σ H R → wi σ H R) : PI X tg iter wi2 := ⟨fun pins s σ H R I hw => h.run pins s σ H R I (i σ H R hw)⟩
def signs (s : Str) : List D := s.cps.toList.map fun c => .str ⟨#[c]⟩
/-- a list's, a tuple's items, a text's signs -/
def seqK : RV → Stx → Rs (List D) := fun r st1 => match r with
  | .val (.lst ds) => .ok ds st1
  | .val (.tup ds) => .ok ds st1
  | .val (.str s) => if s.cps.size ≤ cap then .ok (signs s) st1 else .no
  | _ => .no
def iSeq (fe : EF) : ItF := fun env st => (fe env st).bind seqK
theorem StOk.at {K : PySem.W.Frag} {F : Frm} {σ : L2.St} {env : Env} {ts : List (V × RV)} {st : Stx} {H : Hp} {v : V} {d : D} (S : StOk K F σ env ts st H) (m : (v, .val d) ∈ ts) : ∃ P, Vl K P H d v := let ⟨ι, O⟩ := S; ⟨_, O.tmp _ m⟩
theorem yld_item {K : PySem.W.Frag} {F : Frm} {σ : L2.St} {env : Env} {ts : List (V × RV)} {st : Stx} {H : Hp} {a : Addr} {x : V} {ds : List D} {d : D} {i : Nat} (S : StOk K F σ env ts st H) (m : (V.ref a, .val (.lst ds)) ∈ ts) (e : ds[i]? = some d) (y : ∀ xs, SqL K H a xs → xs[i]? = some x) : StOk K F σ env ((x, .val d) :: ts) st H := by
  obtain ⟨ι, O⟩ := S
  obtain ⟨a', vs, ea, la, _, q⟩ := O.tmp _ m
  cases ea
  obtain ⟨v, h1, h2⟩ := q.get e
  rw [y vs la.sq] at h1
  cases h1
  exact ⟨ι, O.push h2⟩
theorem it_list {K : PySem.W.Frag} {a : Addr} {ds : List D} : IterOk K [] [(.ref a, .val (.lst ds))] ds (Itl K a) where
  goes := fun F σ env ts st H i _ m S hi => by
    obtain ⟨P, a', vs, ea, la, _, q⟩ := S.at (m _ (List.mem_cons_self ..))
    cases ea
    obtain ⟨v, h1, _⟩ := q.get (List.getElem?_eq_getElem hi)
    exact ⟨vs, v, la.sq, h1⟩
  stops := fun F σ env ts st H _ m S => by
    obtain ⟨P, a', vs, ea, la, _, q⟩ := S.at (m _ (List.mem_cons_self ..))
    cases ea
    exact ⟨vs, la.sq, Nat.le_of_eq q.length⟩
  yields := fun F σ env ts st H H' i x d _ m S e y => by
    obtain ⟨rfl, y⟩ := y
    exact ⟨yld_item S (m _ (List.mem_cons_self ..)) e y, Same.refl _⟩
theorem it_tup {K : PySem.W.Frag} {a : Addr} {ds : List D} : IterOk K [] [(.ref a, .val (.tup ds))] ds (Itt K a) where
  goes := fun F σ env ts st H i _ m S hi => by
    obtain ⟨P, a', vs, ea, la, _, q⟩ := S.at (m _ (List.mem_cons_self ..))
    cases ea
    obtain ⟨v, h1, _⟩ := q.get (List.getElem?_eq_getElem hi)
    exact ⟨vs, v, la.sq, h1⟩
  stops := fun F σ env ts st H _ m S => by
    obtain ⟨P, a', vs, ea, la, _, q⟩ := S.at (m _ (List.mem_cons_self ..))
    cases ea
    exact ⟨vs, la.sq, Nat.le_of_eq q.length⟩
  yields := fun F σ env ts st H H' i x d _ m S e y => by
    obtain ⟨rfl, y⟩ := y
    obtain ⟨ι, O⟩ := S
    obtain ⟨a', vs, ea, la, _, q⟩ := O.tmp _ (m _ (List.mem_cons_self ..))
    cases ea
    obtain ⟨v, h1, h2⟩ := q.get e
    rw [y vs la.sq] at h1
    cases h1
    exact ⟨⟨ι, O.push h2⟩, Same.refl _⟩
theorem it_str {K : PySem.W.Frag} {z : Str} : IterOk K [] [] (signs z) (Its z) where
  goes := fun F σ env ts st H i _ m S hi => by
    unfold signs at hi
    rw [List.length_map, Array.length_toList] at hi
    exact hi
  stops := fun F σ env ts st H _ m S => by
    show z.cps.size ≤ (signs z).length
    unfold signs
    rw [List.length_map, Array.length_toList]
    exact Nat.le_refl _
  yields := fun F σ env ts st H H' i x d _ m S e y => by
    obtain ⟨rfl, c, hc, rfl⟩ := y
    unfold signs at e
    rw [List.getElem?_map, Array.getElem?_toList, hc] at e
    cases e
    exact ⟨S.flat (.str ⟨#[c]⟩) rfl, Same.refl _⟩
theorem di_seq (he : PE X e (tE X.K W fe)) : PI X tg e (tI X.K W (iSeq fe)) :=
  pi_up (PI_or (PI_or (pi_list he) (pi_tup he)) (pi_str he)) fun σ H R ⟨F, env, ts, st, S, h⟩ => by
    have h' := Post.bind (k := seqK) h
    cases q : fe env st with
    | no => rw [q] at h'; exact h'.elim
    | er ex st1 =>
      rw [q] at h'
      exact .inr ⟨F, env, ts, st, S, by rw [q]; exact h'⟩
    | ok r st1 =>
      rw [q] at h'
      cases r with
      | ptr n => exact h'.elim
      | val d =>
        cases d with
        | lst ds =>
          refine .inl (.inl ⟨F, env, ts, st, S, ?_⟩)
          rw [q]
          intro v H1 S1
          obtain ⟨P, a, vs, rfl, la, _, qq⟩ := S1.at (List.mem_cons_self ..)
          exact ⟨a, rfl, ⟨vs, la.sq⟩, h' _ [(.ref a, .val (.lst ds))] H1 S1 it_list⟩
        | tup ds =>
          refine .inl (.inr ⟨F, env, ts, st, S, ?_⟩)
          rw [q]
          intro v H1 S1
          obtain ⟨P, a, vs, rfl, la, _, qq⟩ := S1.at (List.mem_cons_self ..)
          exact ⟨a, rfl, ⟨vs, la.sq⟩, h' _ [(.ref a, .val (.tup ds))] H1 S1 it_tup⟩
        | str s =>
          refine .inr ⟨F, env, ts, st, S, ?_⟩
          rw [q]
          intro v H1 S1
          obtain ⟨P, e1⟩ := S1.at (List.mem_cons_self ..)
          cases (show v = V.str s from e1)
          have h' : Post X.K W F σ env ts (if s.cps.size ≤ cap then Rs.ok (signs s) st1 else .no) (okI X.K F σ env ts R) := h'
          by_cases hs : s.cps.size ≤ cap
          · rw [if_pos hs] at h'
            exact ⟨s, rfl, h' _ [] H1 S1.pop it_str⟩
          · rw [if_neg hs] at h'; exact h'.elim
        | _ => exact h'.elim
def irng (lo : Int) (n : Nat) : List D := (List.range n).map fun (i : Nat) => D.int (lo + (i : Int))
theorem irng_len (lo : Int) (n : Nat) : (irng lo n).length = n := by unfold irng; rw [List.length_map, List.length_range]
theorem it_range {K : PySem.W.Frag} {lo : Int} {n : Nat} : IterOk K [] [] (irng lo n) (Itr lo n) where
  goes := fun F σ env ts st H i _ m S hi => by rw [irng_len] at hi; exact hi
  stops := fun F σ env ts st H _ m S => by rw [irng_len]; exact Nat.le_refl _
  yields := fun F σ env ts st H H' i x d _ m S e y => by
    obtain ⟨rfl, rfl⟩ := y
    have hi : i < n := by
      have := (List.getElem?_eq_some_iff.mp e).1
      rwa [irng_len] at this
    unfold irng at e
    rw [List.getElem?_map, List.getElem?_range hi] at e
    cases e
    exact ⟨S.flat (.int (lo + i)) rfl, Same.refl _⟩
theorem StOk.vl {K : PySem.W.Frag} {F : Frm} {σ : L2.St} {env : Env} {ts : List (V × RV)} {st : Stx} {H : Hp} {v : V} {d : D} (S : StOk K F σ env ((v, .val d) :: ts) st H) : ∃ P, Vl K P H d v := S.at (List.mem_cons_self ..)
def rangeK : List RV → Stx → Rs (List D) := fun rs st1 => match rs with
  | [.val (.int j)] => if -(2 ^ 60) ≤ j ∧ j ≤ cap then .ok (irng 0 j.toNat) st1 else .no
  | [.val (.int i), .val (.int j)] => if -(2 ^ 60) ≤ i ∧ i ≤ 2 ^ 60 ∧ -(2 ^ 60) ≤ j ∧ j ≤ i + cap then .ok (irng i (j - i).toNat) st1 else .no
  | _ => .no
def iRange (ff : AF) : ItF := fun env st => (ff env st).bind rangeK
theorem di_range1 {a : Expr} {p : Pos} (hg : Gl X "range") (hm : X.mg "range" = none) (ha : PA X [a] (tA X.K W (aCons fe aNil))) (hs : starEach [a] X.env = [(false, eval a X.env)] := by rfl) : PI X tg (.Call (.Name "range" p) [a] [] pos) (tI X.K W (iRange (aCons fe aNil))) :=
  pi_up (pi_range1 hg hm ha hs) fun σ H R ⟨F, env, ts, st, S, h⟩ => ⟨F, env, ts, st, S, (Post.bind (k := rangeK) h).imp fun rs st1 hr h1 vs H1 hl S1 => by
    have hl1 : rs.length = 1 := by
      unfold aCons aNil at hr
      cases q : fe env st with
      | ok r st2 => rw [q] at hr; cases hr; rfl
      | er e st2 => rw [q] at hr; cases hr
      | no => rw [q] at hr; cases hr
    match rs, vs, hl1, hl, S1, h1 with
    | [r], [v], _, _, S1, h1 =>
      cases r with
      | ptr n => exact (show False from h1).elim
      | val d =>
        cases d with
        | int j =>
          obtain ⟨P, e1⟩ := S1.vl
          cases (show v = V.int j from e1)
          simp only [rangeK] at h1
          by_cases hj : -(2 ^ 60) ≤ j ∧ j ≤ cap
          · rw [if_pos hj] at h1
            have hc : (cap : Int) = 1000000 := rfl
            refine ⟨j, rfl, by omega, by omega, ?_⟩
            exact h1 _ [] H1 S1.pop it_range
          · rw [if_neg hj] at h1; exact (show False from h1).elim
        | _ => exact (show False from h1).elim⟩
theorem di_range2 {a b : Expr} {fb : EF} {p : Pos} (hg : Gl X "range") (hm : X.mg "range" = none) (ha : PA X [a, b] (tA X.K W (aCons fe (aCons fb aNil)))) (hs : starEach [a, b] X.env = [(false, eval a X.env), (false, eval b X.env)] := by rfl) (hs2 : starEach [b] X.env = [(false, eval b X.env)] := by rfl) :
    PI X tg (.Call (.Name "range" p) [a, b] [] pos) (tI X.K W (iRange (aCons fe (aCons fb aNil)))) :=
  pi_up (pi_range2 hg hm ha hs hs2) fun σ H R ⟨F, env, ts, st, S, h⟩ => ⟨F, env, ts, st, S, (Post.bind (k := rangeK) h).imp fun rs st1 hr h1 vs H1 hl S1 => by
    have hl1 : rs.length = 2 := by
      unfold aCons aNil at hr
      cases q : fe env st with
      | ok r st2 =>
        rw [q] at hr
        simp only [Rs.bind] at hr
        cases q2 : fb env st2 with
        | ok r st3 => rw [q2] at hr; cases hr; rfl
        | er e st3 => rw [q2] at hr; cases hr
        | no => rw [q2] at hr; cases hr
      | er e st2 => rw [q] at hr; cases hr
      | no => rw [q] at hr; cases hr
    match rs, vs, hl1, hl, S1, h1 with
    | [r, s], [v, w], _, _, S1, h1 =>
      cases r with
      | ptr n => cases s <;> exact (show False from h1).elim
      | val d =>
        cases s with
        | ptr n => cases d <;> exact (show False from h1).elim
        | val e =>
          cases d with
          | int i =>
            cases e with
            | int j =>
              obtain ⟨P, e1⟩ := S1.vl
              obtain ⟨P', e2⟩ := S1.at (List.mem_cons_of_mem _ (List.mem_cons_self ..))
              cases (show v = V.int i from e1)
              cases (show w = V.int j from e2)
              simp only [rangeK] at h1
              by_cases hj : -(2 ^ 60) ≤ i ∧ i ≤ 2 ^ 60 ∧ -(2 ^ 60) ≤ j ∧ j ≤ i + cap
              · rw [if_pos hj] at h1
                have hc : (cap : Int) = 1000000 := rfl
                refine ⟨i, j, rfl, by omega, ?_⟩
                exact h1 _ [] H1 S1.pop.pop it_range
              · rw [if_neg hj] at h1; exact (show False from h1).elim
            | _ => exact (show False from h1).elim
          | _ => cases e <;> exact (show False from h1).elim⟩
end
end DM
namespace DM
open PySem PySem.Spec PyProof.Rows L2
section
variable {K : PySem.W.Frag} {W : WX} {F : Frm} {ι ι' : Nat → Addr} {σ σ' : L2.St} {env env' : Env} {ts ts' t1 : List (V × RV)} {st st' : Stx} {H H' : Hp} {a : Addr} {o : HO} {v x y : V} {r : RV} {n : Nat} {ds es : List D} {ks : List Key} {J : It} {d e : D}
theorem StOk.pairT {T : Addr} (S : StOk K F σ env ((y, .val e) :: (x, .val d) :: ts) st H) (nT : H T = none) : StOk K F σ env ((.ref T, .val (.tup [d, e])) :: ts) st (upd H T (.tup [x, y])) := by
  obtain ⟨ι, O⟩ := S
  have h1 := O.tmp (x, .val d) (List.mem_cons_of_mem _ (List.mem_cons_self ..))
  have h2 := O.tmp (y, .val e) (List.mem_cons_self ..)
  have hv : Vls K (Pf F ι st) H [d, e] [x, y] := ⟨x, [y], rfl, h1, y, [], rfl, h2, rfl⟩
  refine ⟨ι, (O.newT nT hv (by show 2 ≤ 1000000; decide)).tmps fun t m => ?_⟩
  rcases List.mem_cons.mp m with rfl | m
  · exact List.mem_cons_self ..
  · exact List.mem_cons_of_mem _ (two _ _ m)
theorem StOk.len {v : V} (S : StOk K F σ env ts st H) (m : (v, .val (.lst ds)) ∈ ts) : ds.length ≤ cap := by
  obtain ⟨P, a, vs, _, _, l, _⟩ := S.at m
  exact l
def enumD : Nat → List D → List D
  | _, [] => []
  | i, d :: ds => .tup [.int (i : Int), d] :: enumD (i + 1) ds
theorem enumD_len : ∀ (i : Nat) (ds : List D), (enumD i ds).length = ds.length
  | _, [] => rfl
  | i, d :: ds => by unfold enumD; rw [List.length_cons, List.length_cons, enumD_len]
theorem enumD_get : ∀ (k : Nat) (ds : List D) (i : Nat), (enumD k ds)[i]? = (ds[i]?).map fun d => .tup [.int ((k + i : Nat) : Int), d]
  | _, [], i => by simp [enumD]
  | k, d :: ds, 0 => by simp [enumD]
  | k, d :: ds, i + 1 => by
    unfold enumD
    rw [List.getElem?_cons_succ, List.getElem?_cons_succ, enumD_get (k + 1) ds i]
    rw [show k + 1 + i = k + (i + 1) by omega]
theorem it_enum {a : Addr} {ds : List D} : IterOk K [] [(.ref a, .val (.lst ds))] (enumD 0 ds) (Ite K a) where
  goes := fun F σ env ts st H i hL m S hi => it_list.goes F σ env ts st H i hL m S (by rwa [enumD_len] at hi)
  stops := fun F σ env ts st H hL m S => by
    obtain ⟨xs, h1, h2⟩ := it_list.stops F σ env ts st H hL m S
    exact ⟨xs, h1, by rw [enumD_len]; exact h2⟩
  yields := fun F σ env ts st H H' i x d _ m S e y => by
    obtain ⟨T, z, rfl, nT, rfl, y⟩ := y
    rw [enumD_get] at e
    obtain ⟨d', e1, e2⟩ := Option.map_eq_some_iff.mp e
    subst e2
    have S1 := yld_item (ds := ds) (S.flat (.int ((0 + i : Nat) : Int)) rfl) (List.mem_cons_of_mem _ (m _ (List.mem_cons_self ..))) e1 y
    rw [Nat.zero_add] at S1 ⊢
    exact ⟨StOk.pairT S1 nT, M.same_new nT⟩
def zipD : List D → List D → List D
  | d :: ds, e :: es => .tup [d, e] :: zipD ds es
  | _, _ => []
theorem zipD_get : ∀ (ds es : List D) (i : Nat) (x : D), (zipD ds es)[i]? = some x → ∃ d e, ds[i]? = some d ∧ es[i]? = some e ∧ x = .tup [d, e]
  | d :: ds, e :: es, 0, x, h => ⟨d, e, rfl, rfl, by unfold zipD at h; simpa using h.symm⟩
  | d :: ds, e :: es, i + 1, x, h => by
    unfold zipD at h
    obtain ⟨d', e', h1, h2, h3⟩ := zipD_get ds es i x (by simpa using h)
    exact ⟨d', e', by simpa using h1, by simpa using h2, h3⟩
  | [], es, i, x, h => by unfold zipD at h; simp at h
  | d :: ds, [], i, x, h => by unfold zipD at h; simp at h
theorem zipD_len : ∀ ds es : List D, (zipD ds es).length = min ds.length es.length
  | d :: ds, e :: es => by unfold zipD; rw [List.length_cons, List.length_cons, List.length_cons, zipD_len]; omega
  | [], es => by unfold zipD; simp
  | d :: ds, [] => by unfold zipD; simp
theorem it_zip {a b : Addr} {ds es : List D} : IterOk K [] [(.ref a, .val (.lst ds)), (.ref b, .val (.lst es))] (zipD ds es) (Itz K a b) where
  goes := fun F σ env ts st H i hL m S hi => by
    rw [zipD_len] at hi
    obtain ⟨xs, x, h1, h2⟩ := it_list.goes F σ env ts st H i hL (fun t mm => m t (by rw [List.mem_singleton.mp mm]; exact List.mem_cons_self ..)) S (show i < ds.length by omega)
    obtain ⟨ys, y, h3, h4⟩ := it_list.goes F σ env ts st H i hL (fun t mm => m t (by rw [List.mem_singleton.mp mm]; exact List.mem_cons_of_mem _ (List.mem_cons_self ..))) S (show i < es.length by omega)
    exact ⟨xs, ys, x, y, h1, h3, h2, h4⟩
  stops := fun F σ env ts st H hL m S => by
    obtain ⟨xs, h1, h2⟩ := it_list.stops F σ env ts st H hL (fun t mm => m t (by rw [List.mem_singleton.mp mm]; exact List.mem_cons_self ..)) S
    obtain ⟨ys, h3, h4⟩ := it_list.stops F σ env ts st H hL (fun t mm => m t (by rw [List.mem_singleton.mp mm]; exact List.mem_cons_of_mem _ (List.mem_cons_self ..))) S
    refine ⟨xs, ys, h1, h3, ?_⟩
    rw [zipD_len]
    by_cases q : ds.length ≤ es.length
    · exact .inl (by omega)
    · exact .inr (by omega)
  yields := fun F σ env ts st H H' i x d hL m S e y => by
    obtain ⟨T, x1, x2, rfl, nT, rfl, y1, y2⟩ := y
    obtain ⟨d1, d2, e1, e2, rfl⟩ := zipD_get ds es i d e
    have S1 := yld_item S (m _ (List.mem_cons_self ..)) e1 y1
    have S2 := yld_item S1 (List.mem_cons_of_mem _ (m _ (List.mem_cons_of_mem _ (List.mem_cons_self ..)))) e2 y2
    exact ⟨StOk.pairT S2 nT, M.same_new nT⟩
theorem it_rev {a : Addr} {ds : List D} : IterOk K [] [(.ref a, .val (.lst ds))] ds.reverse (Itv K a ds.length) where
  goes := fun F σ env ts st H i hL m S hi => by
    rw [List.length_reverse] at hi
    obtain ⟨xs, x, h1, h2⟩ := it_list.goes F σ env ts st H (ds.length - 1 - i) hL m S (by omega)
    exact ⟨hi, xs, x, h1, h2⟩
  stops := fun F σ env ts st H hL m S => by rw [List.length_reverse]; exact Nat.le_refl _
  yields := fun F σ env ts st H H' i x d hL m S e y => by
    obtain ⟨rfl, y⟩ := y
    have hi := (List.getElem?_eq_some_iff.mp e).1
    rw [List.length_reverse] at hi
    rw [List.getElem?_reverse hi] at e
    exact ⟨yld_item S (m _ (List.mem_cons_self ..)) e y, Same.refl _⟩
def keyD : Key → D
  | .inl i => .int i
  | .inr s => .str s
theorem keyD_v (k : Key) : (keyD k).v = kV k := by cases k <;> rfl
theorem keyD_flat (k : Key) : (keyD k).flat = true := by cases k <;> rfl
def itemsD : List Key → List D → List D
  | k :: ks, d :: ds => .tup [keyD k, d] :: itemsD ks ds
  | _, _ => []
theorem itemsD_get : ∀ (ks : List Key) (ds : List D) (i : Nat) (x : D), (itemsD ks ds)[i]? = some x → ∃ k d, ks[i]? = some k ∧ ds[i]? = some d ∧ x = .tup [keyD k, d]
  | d :: ds, e :: es, 0, x, h => ⟨d, e, rfl, rfl, by unfold itemsD at h; simpa using h.symm⟩
  | d :: ds, e :: es, i + 1, x, h => by
    unfold itemsD at h
    obtain ⟨d', e', h1, h2, h3⟩ := itemsD_get ds es i x (by simpa using h)
    exact ⟨d', e', by simpa using h1, by simpa using h2, h3⟩
  | [], es, i, x, h => by unfold itemsD at h; simp at h
  | d :: ds, [], i, x, h => by unfold itemsD at h; simp at h
theorem itemsD_len : ∀ (ks : List Key) (ds : List D), (itemsD ks ds).length = min ks.length ds.length
  | d :: ds, e :: es => by unfold itemsD; rw [List.length_cons, List.length_cons, List.length_cons, itemsD_len]; omega
  | [], es => by unfold itemsD; simp
  | d :: ds, [] => by unfold itemsD; simp
variable {od : Obj} {kvs : List (Key × V)}
theorem StOk.lk (S : StOk K F σ env ts st H) (h : LkOk K F [(a, od, HO.dK kvs)]) : H a = some (.frz od (.dK kvs)) := h _ _ _ _ _ S _ (List.mem_cons_self ..)
/-- what the locked dict holds -/
theorem StOk.dctL (S : StOk K F σ env ts st H) (h : LkOk K F [(a, od, HO.dK kvs)]) (m : (V.ref a, .val (.dct ks ds)) ∈ ts) : kvs.map (·.1) = ks ∧ ks.length = ds.length ∧ ∀ (i : Nat) (d : D), ds[i]? = some d → ∃ k v, kvs[i]? = some (k, v) ∧ ks[i]? = some k ∧ StOk K F σ env ((v, .val d) :: ts) st H := by
  have hl := S.lk h
  obtain ⟨ι, O⟩ := S
  obtain ⟨a', kvs', ea, la, e2, n, l, q⟩ := O.tmp _ m
  cases ea
  have ek : kvs' = kvs := by
    rcases la.2 with h1 | ⟨od', h1⟩
    · rw [hl] at h1; cases h1
    · rw [hl] at h1; cases h1; rfl
  subst ek
  refine ⟨e2, by rw [← e2, List.length_map, ← q.length, List.length_map], fun i d e => ?_⟩
  obtain ⟨v, h1, h2⟩ := q.get e
  rw [List.getElem?_map] at h1
  obtain ⟨⟨k, v'⟩, h3, h4⟩ := Option.map_eq_some_iff.mp h1
  cases h4
  exact ⟨k, _, h3, by rw [← e2, List.getElem?_map, h3]; rfl, ι, O.push h2⟩
theorem it_keys : IterOk K [(a, od, .dK kvs)] [(.ref a, .val (.dct ks ds))] (ks.map keyD) (Itk a od kvs) where
  goes := fun F σ env ts st H i hL m S hi => by
    obtain ⟨e1, _, _⟩ := S.dctL hL (m _ (List.mem_cons_self ..))
    refine ⟨S.lk hL, ?_⟩
    rw [← e1, List.length_map, List.length_map] at hi
    exact hi
  stops := fun F σ env ts st H hL m S => by
    obtain ⟨e1, _, _⟩ := S.dctL hL (m _ (List.mem_cons_self ..))
    refine ⟨S.lk hL, ?_⟩
    rw [← e1, List.length_map, List.length_map]
    exact Nat.le_refl _
  yields := fun F σ env ts st H H' i x d hL m S e y => by
    obtain ⟨rfl, k, u, h1, rfl⟩ := y
    obtain ⟨e1, _, _⟩ := S.dctL hL (m _ (List.mem_cons_self ..))
    rw [← e1, List.map_map, List.getElem?_map, h1] at e
    cases e
    have := S.flat (keyD k) (keyD_flat k)
    rw [keyD_v] at this
    exact ⟨this, Same.refl _⟩
theorem it_vals : IterOk K [(a, od, .dK kvs)] [(.ref a, .val (.dct ks ds))] ds (Itd a od kvs) where
  goes := fun F σ env ts st H i hL m S hi => by
    obtain ⟨e1, e2, _⟩ := S.dctL hL (m _ (List.mem_cons_self ..))
    refine ⟨S.lk hL, ?_⟩
    rw [← e1, List.length_map] at e2
    omega
  stops := fun F σ env ts st H hL m S => by
    obtain ⟨e1, e2, _⟩ := S.dctL hL (m _ (List.mem_cons_self ..))
    refine ⟨S.lk hL, ?_⟩
    rw [← e1, List.length_map] at e2
    omega
  yields := fun F σ env ts st H H' i x d hL m S e y => by
    obtain ⟨rfl, k, h1⟩ := y
    obtain ⟨_, _, e3⟩ := S.dctL hL (m _ (List.mem_cons_self ..))
    obtain ⟨k', v', h2, _, S2⟩ := e3 i d e
    rw [h1] at h2
    cases h2
    exact ⟨S2, Same.refl _⟩
theorem it_items : IterOk K [(a, od, .dK kvs)] [(.ref a, .val (.dct ks ds))] (itemsD ks ds) (Iti a od kvs) where
  goes := fun F σ env ts st H i hL m S hi => by
    obtain ⟨e1, e2, _⟩ := S.dctL hL (m _ (List.mem_cons_self ..))
    refine ⟨S.lk hL, ?_⟩
    rw [itemsD_len] at hi
    rw [← e1, List.length_map] at e2 hi
    omega
  stops := fun F σ env ts st H hL m S => by
    obtain ⟨e1, e2, _⟩ := S.dctL hL (m _ (List.mem_cons_self ..))
    refine ⟨S.lk hL, ?_⟩
    rw [itemsD_len]
    rw [← e1, List.length_map] at e2 ⊢
    omega
  yields := fun F σ env ts st H H' i x d hL m S e y => by
    obtain ⟨T, k, v, h1, rfl, nT, rfl⟩ := y
    obtain ⟨_, _, e3⟩ := S.dctL hL (m _ (List.mem_cons_self ..))
    obtain ⟨k1, d1, f1, f2, rfl⟩ := itemsD_get ks ds i d e
    have S1 := S.flat (keyD k) (keyD_flat k)
    rw [keyD_v] at S1
    obtain ⟨_, _, e4⟩ := S1.dctL hL (List.mem_cons_of_mem _ (m _ (List.mem_cons_self ..)))
    obtain ⟨k', v', h2, h3, S2⟩ := e4 i d1 f2
    rw [h1] at h2
    cases h2
    rw [f1] at h3
    cases h3
    exact ⟨StOk.pairT S2 nT, M.same_new nT⟩
theorem StOk.dctN (S : StOk K F σ env ts st H) (f1 : kvs.map (·.1) = ks) (f2 : kvs.length = ds.length) (m : ∀ t ∈ (kvs.map (·.2)).zip (ds.map RV.val), t ∈ ts) : kvs.map (·.1) = ks ∧ ks.length = ds.length ∧ ∀ (i : Nat) (d : D), ds[i]? = some d → ∃ k v, kvs[i]? = some (k, v) ∧ ks[i]? = some k ∧ StOk K F σ env ((v, .val d) :: ts) st H := by
  refine ⟨f1, by rw [← f1, List.length_map, f2], fun i d e => ?_⟩
  have hi : i < kvs.length := by rw [f2]; exact (List.getElem?_eq_some_iff.mp e).1
  refine ⟨kvs[i].1, kvs[i].2, List.getElem?_eq_getElem hi, by rw [← f1, List.getElem?_map, List.getElem?_eq_getElem hi]; rfl, ?_⟩
  obtain ⟨ι, O⟩ := S
  refine ⟨ι, O.push (O.tmp _ (m (kvs[i].2, .val d) ?_))⟩
  refine List.mem_of_getElem? (i := i) ?_
  rw [List.getElem?_zip_eq_some]
  exact ⟨by rw [List.getElem?_map, List.getElem?_eq_getElem hi]; rfl, by rw [List.getElem?_map, e]; rfl⟩
theorem itn_keys (f1 : kvs.map (·.1) = ks) (f2 : kvs.length = ds.length) : IterOk K [(a, od, .dK kvs)] ((kvs.map (·.2)).zip (ds.map RV.val)) (ks.map keyD) (Itk a od kvs) where
  goes := fun F σ env ts st H i hL m S hi => by
    obtain ⟨e1, _, _⟩ := S.dctN f1 f2 m
    refine ⟨S.lk hL, ?_⟩
    rw [← e1, List.length_map, List.length_map] at hi
    exact hi
  stops := fun F σ env ts st H hL m S => by
    obtain ⟨e1, _, _⟩ := S.dctN f1 f2 m
    refine ⟨S.lk hL, ?_⟩
    rw [← e1, List.length_map, List.length_map]
    exact Nat.le_refl _
  yields := fun F σ env ts st H H' i x d hL m S e y => by
    obtain ⟨rfl, k, u, h1, rfl⟩ := y
    obtain ⟨e1, _, _⟩ := S.dctN f1 f2 m
    rw [← e1, List.map_map, List.getElem?_map, h1] at e
    cases e
    have := S.flat (keyD k) (keyD_flat k)
    rw [keyD_v] at this
    exact ⟨this, Same.refl _⟩
theorem itn_vals (f1 : kvs.map (·.1) = ks) (f2 : kvs.length = ds.length) : IterOk K [(a, od, .dK kvs)] ((kvs.map (·.2)).zip (ds.map RV.val)) ds (Itd a od kvs) where
  goes := fun F σ env ts st H i hL m S hi => by
    obtain ⟨e1, e2, _⟩ := S.dctN f1 f2 m
    refine ⟨S.lk hL, ?_⟩
    rw [← e1, List.length_map] at e2
    omega
  stops := fun F σ env ts st H hL m S => by
    obtain ⟨e1, e2, _⟩ := S.dctN f1 f2 m
    refine ⟨S.lk hL, ?_⟩
    rw [← e1, List.length_map] at e2
    omega
  yields := fun F σ env ts st H H' i x d hL m S e y => by
    obtain ⟨rfl, k, h1⟩ := y
    obtain ⟨_, _, e3⟩ := S.dctN f1 f2 m
    obtain ⟨k', v', h2, _, S2⟩ := e3 i d e
    rw [h1] at h2
    cases h2
    exact ⟨S2, Same.refl _⟩
theorem itn_items (f1 : kvs.map (·.1) = ks) (f2 : kvs.length = ds.length) : IterOk K [(a, od, .dK kvs)] ((kvs.map (·.2)).zip (ds.map RV.val)) (itemsD ks ds) (Iti a od kvs) where
  goes := fun F σ env ts st H i hL m S hi => by
    obtain ⟨e1, e2, _⟩ := S.dctN f1 f2 m
    refine ⟨S.lk hL, ?_⟩
    rw [itemsD_len] at hi
    rw [← e1, List.length_map] at e2 hi
    omega
  stops := fun F σ env ts st H hL m S => by
    obtain ⟨e1, e2, _⟩ := S.dctN f1 f2 m
    refine ⟨S.lk hL, ?_⟩
    rw [itemsD_len]
    rw [← e1, List.length_map] at e2 ⊢
    omega
  yields := fun F σ env ts st H H' i x d hL m S e y => by
    obtain ⟨T, k, v, h1, rfl, nT, rfl⟩ := y
    obtain ⟨_, _, e3⟩ := S.dctN f1 f2 m
    obtain ⟨k1, d1, g1, g2, rfl⟩ := itemsD_get ks ds i d e
    have S1 := S.flat (keyD k) (keyD_flat k)
    rw [keyD_v] at S1
    obtain ⟨_, _, e4⟩ := S1.dctN f1 f2 fun t q => List.mem_cons_of_mem _ (m t q)
    obtain ⟨k', v', h2, h3, S2⟩ := e4 i d1 g2
    rw [h1] at h2
    cases h2
    rw [g1] at h3
    cases h3
    exact ⟨StOk.pairT S2 nT, M.same_new nT⟩
end
section
variable {X : Cx} {W : WX} {pos : Pos} {tg e c iter : Expr} {fi : ItF} {f : GF} {vs : List Nat} {body : List Stmt} {g : SF} {cf : CF} {fe fb : EF} {ff : AF}
def enumK : List RV → Stx → Rs (List D) := fun rs st1 => match rs with | [.val (.lst ds)] => .ok (enumD 0 ds) st1 | _ => .no
def revK : List RV → Stx → Rs (List D) := fun rs st1 => match rs with | [.val (.lst ds)] => .ok ds.reverse st1 | _ => .no
def zipK : List RV → Stx → Rs (List D) := fun rs st1 => match rs with | [.val (.lst ds), .val (.lst es)] => .ok (zipD ds es) st1 | _ => .no
def iArgs (k : List RV → Stx → Rs (List D)) (ff : AF) : ItF := fun env st => (ff env st).bind k
theorem di_enum {a : Expr} {elts : List Expr} {kk : Nat} {tpos p : Pos} (hg : Gl X "enumerate") (hm : X.mg "enumerate" = none) (ha : PA X [a] (tA X.K W ff)) (hs : starEach [a] X.env = [(false, eval a X.env)] := by rfl) :
    PI X (.Tuple elts kk tpos) (.Call (.Name "enumerate" p) [a] [] pos) (tI X.K W (iArgs enumK ff)) :=
  pi_up (pi_enum hg hm ha hs) fun σ H R ⟨F, env, ts, st, S, h⟩ => ⟨F, env, ts, st, S, (Post.bind (k := enumK) h).imp fun rs st1 hr h1 vs H1 hl S1 => by
    match rs, vs, hl, S1, h1 with
    | [.val (.lst ds)], [v], _, S1, h1 =>
      obtain ⟨P, a, us, rfl, la, _, q⟩ := S1.vl
      exact ⟨a, us, rfl, la.sq, h1 _ _ H1 S1 it_enum⟩⟩
theorem di_rev {a : Expr} {p : Pos} (hg : Gl X "reversed") (hm : X.mg "reversed" = none) (ha : PA X [a] (tA X.K W ff)) (hs : starEach [a] X.env = [(false, eval a X.env)] := by rfl) :
    PI X tg (.Call (.Name "reversed" p) [a] [] pos) (tI X.K W (iArgs revK ff)) :=
  pi_up (pi_reversed hg hm ha hs) fun σ H R ⟨F, env, ts, st, S, h⟩ => ⟨F, env, ts, st, S, (Post.bind (k := revK) h).imp fun rs st1 hr h1 vs H1 hl S1 => by
    match rs, vs, hl, S1, h1 with
    | [.val (.lst ds)], [v], _, S1, h1 =>
      obtain ⟨P, a, us, rfl, la, _, q⟩ := S1.vl
      refine ⟨a, us, rfl, la.sq, ?_⟩
      rw [q.length]
      exact h1 _ _ H1 S1 it_rev⟩
theorem di_zip {a b : Expr} {elts : List Expr} {kk : Nat} {tpos p : Pos} (hg : Gl X "zip") (hm : X.mg "zip" = none) (ha : PA X [a, b] (tA X.K W ff)) (hs : starEach [a, b] X.env = (false, eval a X.env) :: starEach [b] X.env := by rfl) (hpl : (backTo pos (starEach [b] X.env)).any (·.1) = false := by rfl) :
    PI X (.Tuple elts kk tpos) (.Call (.Name "zip" p) [a, b] [] pos) (tI X.K W (iArgs zipK ff)) :=
  pi_up (pi_zip hg hm ha hs hpl) fun σ H R ⟨F, env, ts, st, S, h⟩ => ⟨F, env, ts, st, S, (Post.bind (k := zipK) h).imp fun rs st1 hr h1 vs H1 hl S1 => by
    match rs, vs, hl, S1, h1 with
    | [.val (.lst ds), .val (.lst es)], [v, w], _, S1, h1 =>
      obtain ⟨P, a, us, rfl, la, _, q⟩ := S1.vl
      obtain ⟨P', b, ws, rfl, lb, _, q'⟩ := S1.at (List.mem_cons_of_mem _ (List.mem_cons_self ..))
      exact ⟨a, b, us, ws, rfl, la.sq, lb.sq, h1 _ [(.ref a, .val (.lst ds)), (.ref b, .val (.lst es))] H1 S1 it_zip⟩⟩
structure Prd (K : PySem.W.Frag) (te : TE) (pm : Env → Stx → Option RV) : Prop where
  ev : ∀ F σ env ts st H r, StOk K F σ env ts st H → pm env st = some r → ∃ v, StOk K F σ env ((v, r) :: ts) st H ∧ (∀ Q : VK, Q v H → te σ H Q) ∧
    ∀ b od kvs, H b = some (.dK kvs) → ∀ Q : VK, Q v (upd H b (.frz od (.dK kvs))) → te σ (upd H b (.frz od (.dK kvs))) Q
def pVar (i : Nat) : Env → Stx → Option RV := fun env _ => (env[i]?).join
theorem prd_var {K : PySem.W.Frag} (i : Nat) : Prd K (tVar i) (pVar i) := ⟨fun F σ env ts st H r S e => by
  obtain ⟨ι, O⟩ := S
  have e' : env[i]? = some (some r) := by
    unfold pVar at e
    cases q : env[i]? with
    | none => rw [q] at e; cases e
    | some o => rw [q] at e; cases o with
      | none => cases e
      | some r' => cases e; rfl
  obtain ⟨v, h1, O1⟩ := O.get e'
  exact ⟨v, ⟨ι, O1⟩, fun Q q => ⟨v, h1, q⟩, fun b od kvs _ Q q => ⟨v, h1, q⟩⟩⟩
def getF (f : Str) : List Str → List RV → Option RV
  | n :: ns, r :: rs => if n = f then some r else getF f ns rs
  | _, _ => none
theorem getF_at {K : PySem.W.Frag} {P : Addr → Prop} {H : Hp} {ι : Nat → Addr} {nx : Nat} {f : Str} {r : RV} : ∀ {ns : List Str} {rs : List RV} {fvs : List (Str × V)}, fvs.map (·.1) = ns → RVls K P H ι nx rs (fvs.map (·.2)) → getF f ns rs = some r → ∃ v, fvs.lookup f = some v ∧ RVl K P H ι nx r v
  | [], rs, fvs, e, q, h => by unfold getF at h; cases h
  | n :: ns, [], fvs, e, q, h => by unfold getF at h; cases h
  | n :: ns, s :: rs, [], e, q, h => by simp at e
  | n :: ns, s :: rs, (m, v) :: fvs, e, q, h => by
    rw [List.map_cons] at e q
    injection e with e1 e2
    cases q with
    | cons q1 q2 =>
      unfold getF at h
      subst e1
      by_cases hn : m = f
      · subst hn
        rw [if_pos rfl] at h
        cases h
        exact ⟨v, by rw [List.lookup_cons, beq_self_eq_true], q1⟩
      · rw [if_neg hn] at h
        obtain ⟨w, h1, h2⟩ := getF_at e2 q2 h
        refine ⟨w, ?_, h2⟩
        rw [List.lookup_cons, show (f == m) = false from beq_eq_false_iff_ne.mpr fun z => hn z.symm]
        exact h1
/-- a class whose instances' attributes are read plainly -/
structure ClsF (K : PySem.W.Frag) (C : Addr) (f : Str) : Prop where
  cls : Cls K C
  no : NoAttr K C f
def pFld (p : Env → Stx → Option RV) (C : Addr) (f : Str) : Env → Stx → Option RV := fun env st => (p env st).bind fun r => (st.ob r).bind fun o => if o.1 = C then getF f o.2.1 o.2.2 else none
theorem prd_fld {K : PySem.W.Frag} {te : TE} {pm : Env → Stx → Option RV} {C : Addr} {f : Str} (c : ClsF K C f) (h : Prd K te pm) : Prd K (tFld K te f) (pFld pm C f) := ⟨fun F σ env ts st H r S e => by
  unfold pFld at e
  cases q : pm env st with
  | none => rw [q] at e; cases e
  | some r0 =>
    rw [q] at e
    simp only [Option.bind_some] at e
    cases q2 : st.ob r0 with
    | none => rw [q2] at e; cases e
    | some o =>
      rw [q2] at e
      simp only [Option.bind_some] at e
      obtain ⟨C', ns, rs⟩ := o
      by_cases hc : C' = C
      · subst hc
        rw [if_pos rfl] at e
        obtain ⟨v, ⟨ι, O⟩, h1, h2⟩ := h.ev F σ env ts st H r0 S q
        obtain ⟨a, dx, fvs, rfl, ha, e1, hq⟩ := O.ob (O.tmp _ (List.mem_cons_self ..)) q2
        obtain ⟨w, h3, h4⟩ := getF_at e1 hq e
        refine ⟨w, ⟨ι, (O.tmps (ts' := ts) fun t m => List.mem_cons_of_mem _ m).push h4⟩, fun Q qq => h1 _ ⟨a, C', dx, fvs, w, rfl, ha, c.cls, c.no, h3, qq⟩, fun b od kvs hb Q qq => h2 b od kvs hb _ ⟨a, C', dx, fvs, w, rfl, ?_, c.cls, c.no, h3, qq⟩⟩
        rw [upd_ne (ne_of ha hb (by intro z; cases z))]
        exact ha
      · rw [if_neg hc] at e; cases e⟩
end
end DM
namespace DM
open PySem PySem.Spec PyProof.Rows L2
def Rt.noEr : Rt → Rt
  | .er _ _ _ => .no
  | x => x
def Rs.noEr {α : Type} : Rs α → Rs α
  | .er _ _ => .no
  | x => x
section
variable {K : PySem.W.Frag} {W W' : WX} {F : Frm} {ι ι' : Nat → Addr} {σ σ' : L2.St} {env env' : Env} {ts ts' t1 : List (V × RV)} {st st' : Stx} {H H' : Hp} {a : Addr} {o : HO} {v x y : V} {r : RV} {n : Nat} {ds es : List D} {ks : List Key} {J : It} {d e : D} {od : Obj} {kvs : List (Key × V)}
def Frm.lkd (F : Frm) (a : Addr) (od : Obj) (kvs : List (Key × V)) : Frm := { F with L := (a, od, .dK kvs) :: F.L }
/-- behind the lock: back to the frame ahead of it -/
theorem unlock_ok (O : Ok K F ι σ env ts st H) (hn : ¬Pf F ι st a) (ha : H a = some (.dK kvs)) (S' : StOk K ((F.lkd a od kvs).callee st ι (upd H a (.frz od (.dK kvs)))) σ' env' ts' st' H') :
    H' a = some (.frz od (.dK kvs)) ∧ StOk K F σ' env' ts' st' (upd H' a (.dK kvs)) := by
  obtain ⟨ι', O'⟩ := S'
  have O1 : Ok K (F.lkd a od kvs) ι σ env ts st (upd H a (.frz od (.dK kvs))) := O.lck hn ha
  have J := O1.join O'
  have hP : ¬Pf (F.lkd a od kvs) ι' st' a := O1.out O' (o := .frz od (.dK kvs)) (fun q => hn (q.elim .inl .inr)) upd_same
  obtain ⟨h1, h2⟩ := O.unlck ha J hP
  exact ⟨h1, ι', h2⟩
theorem RtPost.unlock {x : Rt} {D : Ends} (O : Ok K F ι σ env ts st H) (hn : ¬Pf F ι st a) (ha : H a = some (.dK kvs)) (h : RtPost K W F ts x.noEr D) :
    RtPost K W' ((F.lkd a od kvs).callee st ι (upd H a (.frz od (.dK kvs)))) ts x.noEr ⟨fun σ' H' => H' a = some (.frz od (.dK kvs)) ∧ D.nx σ' (upd H' a (.dK kvs)), fun v H' => H' a = some (.frz od (.dK kvs)) ∧ D.rt v (upd H' a (.dK kvs)), fun σ' H' => H' a = some (.frz od (.dK kvs)) ∧ D.bk σ' (upd H' a (.dK kvs)), fun σ' H' => H' a = some (.frz od (.dK kvs)) ∧ D.ct σ' (upd H' a (.dK kvs))⟩ := by
  cases x with
  | go fl env2 st2 =>
    cases fl with
    | nx => exact fun σ' H' S => let ⟨h1, h2⟩ := unlock_ok O hn ha S; ⟨h1, h σ' _ h2⟩
    | rt r => exact fun v σ' H' S => let ⟨h1, h2⟩ := unlock_ok O hn ha S; ⟨h1, h v σ' _ h2⟩
    | bk => exact fun σ' H' S => let ⟨h1, h2⟩ := unlock_ok O hn ha S; ⟨h1, h σ' _ h2⟩
    | ct => exact fun σ' H' S => let ⟨h1, h2⟩ := unlock_ok O hn ha S; ⟨h1, h σ' _ h2⟩
  | er e env2 st2 => exact h.elim
  | no => exact h.elim
theorem lk_of (h : (a, od, .dK kvs) ∈ F.L ++ F.Li) : LkOk K F [(a, od, .dK kvs)] := fun σ env ts st H S x m => by
  rw [List.mem_singleton.mp m]
  obtain ⟨ι, O⟩ := S
  exact O.lock a od _ h
theorem lk_frame (h : H a = some (.frz od (.dK kvs))) (hn : ¬(F.callee st ι H).P0 a) : LkOk K (F.callee st ι H) [(a, od, .dK kvs)] := fun σ env ts st' H' S x m => by
  rw [List.mem_singleton.mp m]
  obtain ⟨ι', O⟩ := S
  rcases O.frame a _ h hn with h1 | ⟨_, h1⟩
  · exact h1
  · cases h1
theorem RtPost.sub {x : Rt} {D : Ends} (O : Ok K F ι σ env ts st H) (h : RtPost K W F ts x.noEr D) : RtPost K W' (F.callee st ι H) ts x.noEr D := by
  have jn : ∀ {σ' env' ts' st' H'}, StOk K (F.callee st ι H) σ' env' ts' st' H' → StOk K F σ' env' ts' st' H' := fun ⟨ι', O'⟩ => ⟨ι', O.join O'⟩
  cases x with
  | go fl env2 st2 =>
    cases fl with
    | nx => exact fun σ' H' S => h σ' _ (jn S)
    | rt r => exact fun v σ' H' S => h v σ' _ (jn S)
    | bk => exact fun σ' H' S => h σ' _ (jn S)
    | ct => exact fun σ' H' S => h σ' _ (jn S)
  | er e env2 st2 => exact h.elim
  | no => exact h.elim
theorem Ok.addL {u : HO} (O : Ok K F ι σ env ts st H) (h : H a = some (.frz od u)) : Ok K { F with L := (a, od, u) :: F.L } ι σ env ts st H :=
  { len := O.len, slot := O.slot, tmp := O.tmp, node := O.node, inj := O.inj, hi := O.hi, nx := O.nx, ag := O.ag, old := O.old, new := O.new, there := O.there
    frame := fun b o h1 h2 => (O.frame b o h1 h2).elim .inl fun ⟨od', m⟩ => .inr ⟨od', List.mem_cons_of_mem _ m⟩
    lock := fun b od' w m => by
      have m : (b, od', w) ∈ (a, od, u) :: (F.L ++ F.Li) := m
      rcases List.mem_cons.mp m with z | m
      · cases z; exact h
      · exact O.lock b od' w m
    xs := O.xs, xn := O.xn }
theorem Ok.dropL {u : HO} {nd : Nd} (O : Ok K { F with L := (a, od, u) :: F.L } ι σ env ts st H) (e : st.at' n = some nd) (ea : ι n = a) : Ok K F ι σ env ts st H :=
  { len := O.len, slot := O.slot, tmp := O.tmp, node := O.node, inj := O.inj, hi := O.hi, nx := O.nx, ag := O.ag, old := O.old, new := O.new, there := O.there
    frame := fun b o h1 h2 => by
      rcases O.frame b o h1 h2 with h3 | ⟨od', m⟩
      · exact .inl h3
      · rcases List.mem_cons.mp m with z | m
        · cases z
          exfalso
          by_cases hn : n < F.nx0
          · exact h2 ⟨n, hn, O.old n nd e hn, by rw [← ea]; exact (O.ag n hn).symm⟩
          · have := O.new n nd e (Nat.le_of_not_lt hn)
            rw [ea] at this
            rw [show F.H0 a = none from this] at h1
            cases h1
        · exact .inr ⟨od', m⟩
    lock := fun b od' w m => O.lock b od' w (List.mem_cons_of_mem _ m)
    xs := O.xs, xn := O.xn }
/-- a dict of the store is locked -/
theorem Ok.lckN (O : Ok K F ι σ env ts st H) (e : st.at' n = some (.dct false ks ds)) : ∃ kvs, H (ι n) = some (.dK kvs) ∧ kvs.map (·.1) = ks ∧ ks.Nodup ∧ ks.length ≤ cap ∧ ds.length = ks.length ∧ ∀ od, Ok K (F.lkd (ι n) od kvs) ι σ env ((kvs.map (·.2)).zip (ds.map RV.val) ++ ts) (st.set n (.dct true ks ds)) (upd H (ι n) (.frz od (.dK kvs))) := by
  obtain ⟨⟨kvs, h1, h2, h3, h4, h5⟩, hn⟩ := O.node n _ e
  have h1 : H (ι n) = some (.dK kvs) := h1
  refine ⟨kvs, h1, h2, h3, h4, by rw [← h5.length, ← h2, List.length_map, List.length_map], fun od => ?_⟩
  have O1 : Ok K F ι σ env ((kvs.map (·.2)).zip (ds.map RV.val) ++ ts) st H := { O with tmp := fun t m => (List.mem_append.mp m).elim (fun m => zip_vls h5 t m) (O.tmp t) }
  have O2 := O1.write (o := .frz od (.dK kvs)) (nd' := .dct true ks ds) e h1 (fun od w z => by cases z) fun k => ⟨kvs, by rw [if_pos rfl]; exact ⟨od, upd_same⟩, h2, h3, h4, Vls.keep k _ _ h5⟩
  exact O2.addL upd_same
theorem unlockN_ok (O : Ok K F ι σ env ts st H) (e : st.at' n = some (.dct false ks ds)) (ha : H (ι n) = some (.dK kvs)) {ts1 : List (V × RV)} (O1 : Ok K (F.lkd (ι n) od kvs) ι σ env ts1 (st.set n (.dct true ks ds)) (upd H (ι n) (.frz od (.dK kvs))))
    (S' : StOk K ((F.lkd (ι n) od kvs).callee (st.set n (.dct true ks ds)) ι (upd H (ι n) (.frz od (.dK kvs)))) σ' env' ts' st' H') {ks' : List Key} {ds' : List D} (e' : st'.at' n = some (.dct true ks' ds')) :
    H' (ι n) = some (.frz od (.dK kvs)) ∧ StOk K F σ' env' ts' (st'.set n (.dct false ks' ds')) (upd H' (ι n) (.dK kvs)) := by
  obtain ⟨ι', O'⟩ := S'
  have J := O1.join O'
  have hn : n < st.nx := (O.node n _ e).2
  have ea : ι' n = ι n := O'.ag n hn
  have hl : H' (ι n) = some (.frz od (.dK kvs)) := J.lock (ι n) od _ (List.mem_cons_self ..)
  have J2 : Ok K F ι' σ' env' ts' st' H' := Ok.dropL (od := od) (u := .dK kvs) (a := ι n) J e' ea
  refine ⟨hl, ι', ?_⟩
  obtain ⟨⟨kvs', h1, h2, h3, h4, h5⟩, _⟩ := J2.node n _ e'
  have h1 : ∃ od', H' (ι' n) = some (.frz od' (.dK kvs')) := h1
  have ek : kvs' = kvs := by
    obtain ⟨od', h1⟩ := h1
    rw [ea, hl] at h1
    cases h1
    rfl
  subst ek
  rw [← ea]
  exact J2.writeU (nd' := .dct false ks' ds') e' (fun od2 w m => by
    have := O.lock (ι n) od2 w (by rw [← ea]; exact m)
    rw [ha] at this; cases this) fun k => ⟨kvs', by rw [if_neg (by decide)]; exact upd_same, h2, h3, h4, Vls.keep k _ _ h5⟩
/-- the lock of a thing of the store goes -/
def unlT (n : Nat) : Rt → Rt
  | .go fl env st => match st.at' n with
    | some (.dct true ks ds) => .go fl env (st.set n (.dct false ks ds))
    | _ => .no
  | _ => .no
theorem RtPost.unlockN {x : Rt} {D : Ends} (O : Ok K F ι σ env ts st H) (e : st.at' n = some (.dct false ks ds)) (ha : H (ι n) = some (.dK kvs)) {ts1 : List (V × RV)} (O1 : Ok K (F.lkd (ι n) od kvs) ι σ env ts1 (st.set n (.dct true ks ds)) (upd H (ι n) (.frz od (.dK kvs)))) (h : RtPost K W F ts' (unlT n x) D) :
    RtPost K W' ((F.lkd (ι n) od kvs).callee (st.set n (.dct true ks ds)) ι (upd H (ι n) (.frz od (.dK kvs)))) ts' x ⟨fun σ' H' => H' (ι n) = some (.frz od (.dK kvs)) ∧ D.nx σ' (upd H' (ι n) (.dK kvs)), fun v H' => H' (ι n) = some (.frz od (.dK kvs)) ∧ D.rt v (upd H' (ι n) (.dK kvs)), fun σ' H' => H' (ι n) = some (.frz od (.dK kvs)) ∧ D.bk σ' (upd H' (ι n) (.dK kvs)), fun σ' H' => H' (ι n) = some (.frz od (.dK kvs)) ∧ D.ct σ' (upd H' (ι n) (.dK kvs))⟩ := by
  cases x with
  | go fl env2 st2 =>
    unfold unlT at h
    simp only at h
    split at h
    · rename_i ks' ds' q
      cases fl with
      | nx => exact fun σ' H' S => let ⟨h1, h2⟩ := unlockN_ok O e ha O1 S q; ⟨h1, h σ' _ h2⟩
      | rt r => exact fun v σ' H' S => let ⟨h1, h2⟩ := unlockN_ok O e ha O1 S q; ⟨h1, h v σ' _ h2⟩
      | bk => exact fun σ' H' S => let ⟨h1, h2⟩ := unlockN_ok O e ha O1 S q; ⟨h1, h σ' _ h2⟩
      | ct => exact fun σ' H' S => let ⟨h1, h2⟩ := unlockN_ok O e ha O1 S q; ⟨h1, h σ' _ h2⟩
    · exact h.elim
  | er e env2 st2 => exact h.elim
  | no => exact h.elim
end
/-- the items of a dict by a kind of walk -/
structure WalkD (K : PySem.W.Frag) (te : TE) (wi : TI) (mk : Addr → Obj → List (Key × V) → It) (items : List Key → List D → List D) : Prop where
  rd : ∀ σ H R d o kvs, (∀ Q : VK, Q (.ref d) H → te σ H Q) → H d = some (.frz o (.dK kvs)) → R (mk d o kvs) H → wi σ H R
  it : ∀ a od kvs ks ds, IterOk K [(a, od, .dK kvs)] [(.ref a, .val (.dct ks ds))] (items ks ds) (mk a od kvs)
  itn : ∀ a od kvs ks ds, kvs.map (·.1) = ks → kvs.length = ds.length → IterOk K [(a, od, .dK kvs)] ((kvs.map (·.2)).zip (ds.map RV.val)) (items ks ds) (mk a od kvs)
  ln : ∀ ks ds, (items ks ds).length ≤ ks.length ∨ (items ks ds).length ≤ ds.length
theorem wd_keys {K : PySem.W.Frag} {te : TE} : WalkD K te (iKeys te) Itk (fun ks _ => ks.map keyD) := ⟨fun σ H R d o kvs h e q => h _ ⟨d, o, rfl, .inl ⟨kvs, e, q⟩⟩, fun _ _ _ _ _ => it_keys, fun _ _ _ _ _ a b => itn_keys a b, fun ks ds => .inl (by rw [List.length_map]; exact Nat.le_refl _)⟩
theorem wd_vals {K : PySem.W.Frag} {te : TE} : WalkD K te (iVals te) Itd (fun _ ds => ds) := ⟨fun σ H R d o kvs h e q => h _ ⟨d, o, kvs, rfl, e, q⟩, fun _ _ _ _ _ => it_vals, fun _ _ _ _ _ a b => itn_vals a b, fun ks ds => .inr (Nat.le_refl _)⟩
theorem wd_items {K : PySem.W.Frag} {te : TE} : WalkD K te (iItems te) Iti itemsD := ⟨fun σ H R d o kvs h e q => h _ ⟨d, o, kvs, rfl, e, q⟩, fun _ _ _ _ _ => it_items, fun _ _ _ _ _ a b => itn_items a b, fun ks ds => .inl (by rw [itemsD_len]; omega)⟩
theorem wd_keysM {K : PySem.W.Frag} {te : TE} : WalkD K te (iKeysM te) Itk (fun ks _ => ks.map keyD) := ⟨fun σ H R d o kvs h e q => h _ ⟨d, o, kvs, rfl, e, q⟩, fun _ _ _ _ _ => it_keys, fun _ _ _ _ _ a b => itn_keys a b, fun ks ds => .inl (by rw [List.length_map]; exact Nat.le_refl _)⟩
section
variable {X : Cx} {W : WX} {pos : Pos} {tg e c iter elt : Expr} {fi : ItF} {f : GF} {vs us : List Nat} {body : List Stmt} {g : SF} {cf : CF} {fe fb fk : EF} {ff : AF} {pm : Env → Stx → Option RV} {items : List Key → List D → List D} {te : TE} {wi : TI} {mk : Addr → Obj → List (Key × V) → It}
def sForD (pm : Env → Stx → Option RV) (items : List Key → List D → List D) (f : GF) (body : SF) : SF := fun env st => match pm env st with
  | some (.val (.dct ks ds)) => (loopM f body (items ks ds) env st).noEr
  | some (.ptr n) => match st.at' n with
    | some (.dct false ks ds) => unlT n (loopM f body (items ks ds) env (st.set n (.dct true ks ds)))
    | _ => .no
  | _ => .no
/-- noEr of a loop: a loop of what raises nothing -/
theorem RtPost.un {K : PySem.W.Frag} {W : WX} {F : Frm} {ts : List (V × RV)} {x : Rt} {D : Ends} (h : RtPost K W F ts x.noEr D) : RtPost K W F ts x D := by
  cases x with
  | go fl env2 st2 => exact h
  | er e env2 st2 => exact h.elim
  | no => exact h
theorem ds_forD (hp : PassesOwn (model X.prog X.w) X.A X.env X.xe) (hc : X.calm = true) (hi : PI X tg iter wi) (P : Prd X.K te pm) (hw : WalkD X.K te wi mk items) (hg : PG X tg (tG X.K f vs)) (hb : PSs X body (tS X.K W g)) (hs : ∀ x, foldedSetIterable iter X.env x = pure x := by intro _; rfl) :
    PS X (.For tg iter body [] pos) (tS X.K W (sForD pm items f g)) := by
  have base := ps_for hp hc hi hg hb hs (pos := pos)
  refine ⟨fun pins s σ H D I ⟨F, env, ts, st, S, h⟩ => ?_⟩
  unfold sForD at h
  cases q : pm env st with
  | none => rw [q] at h; exact h.elim
  | some r =>
    rw [q] at h
    cases r with
    | ptr n =>
      simp only at h
      split at h
      · rename_i ks ds e
        obtain ⟨v, ⟨ι, O⟩, h1, h2⟩ := P.ev F σ env ts st H _ S q
        obtain ⟨hn, rfl⟩ := (show RVl X.K _ _ ι _ (.ptr n) v from O.tmp _ (List.mem_cons_self ..))
        have O := O.tmps (ts' := ts) fun t m => List.mem_cons_of_mem _ m
        obtain ⟨kvs, ha, e1, nd, l, hl, O1⟩ := O.lckN e
        refine (ps_lock base).run pins s σ H D I ⟨ι n, .dK kvs, ha, trivial, fun od => ?_⟩
        refine hw.rd σ _ _ (ι n) od kvs (fun Q q => h2 (ι n) od kvs ha Q q) upd_same ?_
        refine for_run (F := (F.lkd (ι n) od kvs).callee (st.set n (.dct true ks ds)) ι (upd H (ι n) (.frz od (.dK kvs)))) (Lk := [(ι n, od, .dK kvs)]) (t1 := (kvs.map (·.2)).zip (ds.map RV.val)) (ts := ts) (lk_of (List.mem_append_right _ (List.mem_append_left _ (List.mem_cons_self ..)))) ⟨ι, (O1 od).sub⟩ (hw.itn (ι n) od kvs ks ds e1 (by rw [hl, ← e1, List.length_map])) (W := W) ?_
        exact RtPost.unlockN O e ha (O1 od) h
      · exact h.elim
    | val d =>
      cases d with
      | dct ks ds =>
        simp only at h
        obtain ⟨v, ⟨ι, O⟩, h1, h2⟩ := P.ev F σ env ts st H _ S q
        obtain ⟨a, kvs, rfl, ⟨nP, la⟩, e2, n, l, qv⟩ := O.tmp _ (List.mem_cons_self ..)
        rcases la with ha | ⟨od, ha⟩
        · refine (ps_lock base).run pins s σ H D I ⟨a, .dK kvs, ha, trivial, fun od => ?_⟩
          have O1 : Ok X.K (F.lkd a od kvs) ι σ env _ st (upd H a (.frz od (.dK kvs))) := O.lck nP ha
          refine hw.rd σ _ _ a od kvs (fun Q q => h2 a od kvs ha Q q) upd_same ?_
          refine for_run (F := (F.lkd a od kvs).callee st ι (upd H a (.frz od (.dK kvs)))) (Lk := [(a, od, .dK kvs)]) (t1 := [(.ref a, .val (.dct ks ds))]) (ts := ts) (lk_of (List.mem_append_right _ (List.mem_append_left _ (List.mem_cons_self ..)))) ⟨ι, O1.sub⟩ (hw.it a od kvs ks ds) (W := W) ?_
          · exact RtPost.un (RtPost.unlock (O.tmps (ts' := ts) fun t m => List.mem_cons_of_mem _ m) nP ha h)
        · refine base.run pins s σ H D I (hw.rd σ H _ a od kvs h1 ha ?_)
          refine for_run (F := F.callee st ι H) (Lk := [(a, od, .dK kvs)]) (t1 := [(.ref a, .val (.dct ks ds))]) (ts := ts) (lk_frame ha fun q => nP (O.p0 a q |> .inl)) ⟨ι, O.sub⟩ (hw.it a od kvs ks ds) (W := W) ?_
          exact RtPost.un (RtPost.sub (O.tmps (ts' := ts) fun t m => List.mem_cons_of_mem _ m) h)
      | _ => exact h.elim
end
end DM
namespace DM
open PySem PySem.Spec PyProof.Rows L2
section
variable {K : PySem.W.Frag} {W : WX} {F : Frm} {ι : Nat → Addr} {σ : L2.St} {env : Env} {ts ts' : List (V × RV)} {st : Stx} {H H' : Hp} {v : V} {r : RV} {p a : Addr} {ds es : List D} {vs : List V} {ks : List Key} {Q : VK} {m : Bool} {P : Addr → Prop} {nd : Nd}
/-- what the code held becomes a thing of the store -/
theorem Ok.adopt (O : Ok K (F.hold p) ι σ env ts st H) (hx : ¬F.X p) (h0 : F.H0 p = none) (h : ∀ ι', (∀ n, n < st.nx → ι' n = ι n) → ι' st.nx = p → Kp (Pf (F.hold p) ι st) (Pf F ι' (st.push nd)) H H → NdAt K (Pf F ι' (st.push nd)) H ι' st.hi p nd) :
    ∃ ι', Ok K F ι' σ env ((.ref p, .ptr st.nx) :: ts) (st.push nd) H := by
  obtain ⟨U, nP, k0⟩ := O.unhold hx
  let ι' : Nat → Addr := fun n => if n = st.nx then p else ι n
  have e1 : ∀ n, n < st.nx → ι' n = ι n := fun n h => if_neg (by omega)
  have e2 : ι' st.nx = p := if_pos rfl
  have k : Kp (Pf (F.hold p) ι st) (Pf F ι' (st.push nd)) H H := by
    refine ⟨fun a o _ _ h => h, fun a C dx fs _ h => h, fun a o n h => ?_⟩
    rintro (⟨m, nd', e, rfl⟩ | hx)
    · by_cases hm : m = st.nx
      · exact n (.inr (.inr (by rw [hm, e2])))
      · have e' : st.at' m = some nd' := by
          have : (st.push nd).at' m = st.at' m := if_neg hm
          rw [← this]; exact e
        have := (O.node m nd' e').2
        exact n (.inl ⟨m, nd', e', (e1 m this).symm⟩)
    · exact n (.inr (.inl hx))
  have ats : ∀ m nd', (st.push nd).at' m = some nd' → (m = st.nx ∧ nd' = nd) ∨ (m < st.nx ∧ st.at' m = some nd') := fun m nd' e => by
    by_cases hm : m = st.nx
    · subst hm
      have : (st.push nd).at' st.nx = some nd := if_pos rfl
      rw [this] at e
      exact .inl ⟨rfl, (Option.some.inj e).symm⟩
    · have : (st.push nd).at' m = st.at' m := if_neg hm
      rw [this] at e
      exact .inr ⟨(O.node m nd' e).2, e⟩
  refine ⟨ι', ⟨O.len, fun i r e => ?_, fun t m => ?_, fun n nd' e => ?_, fun n m nd1 nd2 h1 h2 h3 => ?_, ?_, ?_, fun n h => ?_, fun n nd' e h => ?_, fun n nd' e h => ?_, fun a o h => ?_, fun a o h n => ?_, fun a od u m => ?_, fun a h => ?_, fun n nd' e hx => ?_⟩⟩
  · obtain ⟨v, h1, h2⟩ := O.slot i r e
    exact ⟨v, h1, h2.keep k (Nat.le_succ _) e1⟩
  · rcases List.mem_cons.mp m with rfl | m
    · exact ⟨Nat.lt_succ_self _, by rw [e2]⟩
    · exact (O.tmp t m).keep k (Nat.le_succ _) e1
  · rcases ats n nd' e with ⟨rfl, rfl⟩ | ⟨hn, e'⟩
    · exact ⟨by rw [e2]; exact h ι' e1 e2 k, Nat.lt_succ_self _⟩
    · obtain ⟨q, l⟩ := O.node n nd' e'
      refine ⟨?_, Nat.lt_succ_of_lt hn⟩
      rw [e1 n hn]
      exact q.keep k (Nat.le_refl _) (fun n hn => e1 n (Nat.lt_of_lt_of_le hn O.hi)) rfl
  · rcases ats n nd1 h1 with ⟨rfl, rfl⟩ | ⟨hn, e'⟩
    · rcases ats m nd2 h2 with ⟨rfl, rfl⟩ | ⟨hm, e''⟩
      · rfl
      · rw [e2, e1 m hm] at h3
        exact (nP (.inl ⟨m, nd2, e'', h3.symm⟩)).elim
    · rcases ats m nd2 h2 with ⟨rfl, rfl⟩ | ⟨hm, e''⟩
      · rw [e2, e1 n hn] at h3
        exact (nP (.inl ⟨n, nd1, e', h3⟩)).elim
      · rw [e1 n hn, e1 m hm] at h3
        exact O.inj n m nd1 nd2 e' e'' h3
  · exact Nat.le_succ_of_le O.hi
  · exact Nat.le_succ_of_le O.nx
  · rw [e1 n (Nat.lt_of_lt_of_le h O.nx)]
    exact O.ag n h
  · rcases ats n nd' e with ⟨rfl, rfl⟩ | ⟨hn, e'⟩
    · have := U.nx; omega
    · exact O.old n nd' e' h
  · rcases ats n nd' e with ⟨rfl, rfl⟩ | ⟨hn, e'⟩
    · rw [e2]; exact h0
    · rw [e1 n hn]
      exact O.new n nd' e' h
  · exact U.there a o h
  · exact U.frame a o h n
  · exact O.lock a od u m
  · exact U.xs a h
  · rcases ats n nd' e with ⟨rfl, rfl⟩ | ⟨hn, e'⟩
    · rw [e2] at hx
      exact nP (.inr hx)
    · rw [e1 n hn] at hx
      exact U.xn n nd' e' hx
theorem Ok.hold0 (O : Ok K F ι σ env ts st H) (np : H p = none) : F.H0 p = none ∧ ¬F.X p := by
  refine ⟨?_, fun q => ?_⟩
  · cases q : F.H0 p with
    | none => rfl
    | some o => obtain ⟨o', h'⟩ := O.there p o q; rw [np] at h'; cases h'
  · obtain ⟨o', h'⟩ := O.xs p q; rw [np] at h'; cases h'
end
def okLc (m : Bool) (xs : List D) (st : Stx) : Rs RV := if m = true then .ok (.ptr st.nx) (st.push (.lst xs)) else .ok (.val (.lst xs)) st
end DM
namespace DM
open PySem PySem.Spec PyProof.Rows L2
def wipeE (env : Env) : List Nat → Env
  | [] => env
  | v :: vs => (wipeE env vs).set v none
def compM (vs : List Nat) (f : GF) (c : CF) (fe : EF) : List D → Env → Stx → Rs (List D)
  | [], _, st => .ok [] st
  | d :: ds, env, st => match f (.val d) (wipeE env vs) st with
    | none => .no
    | some env1 => ((c env1 st).noEr).bind fun b st1 => if b = true then
        ((fe env1 st1).noEr).bind fun r st2 => match r with
          | .val x => (compM vs f c fe ds env st2).bind fun xs st3 => .ok (x :: xs) st3
          | .ptr _ => .no
      else compM vs f c fe ds env st1
def eComp (m : Bool) (vs : List Nat) (fi : ItF) (f : GF) (c : CF) (fe : EF) : EF := fun env st => (fi env st).bind fun ds st1 => if ds.length ≤ cap then (compM vs f c fe ds env st1).bind fun xs st2 => okLc m xs st2 else .no
section
variable {K : PySem.W.Frag} {W W' : WX} {F : Frm} {ι ι' : Nat → Addr} {σ σ' : L2.St} {env env' : Env} {ts ts' t1 : List (V × RV)} {st st' : Stx} {H H' : Hp} {a : Addr} {o : HO} {v x y : V} {r : RV} {n : Nat} {ds es : List D} {ks : List Key} {J : It} {d e : D} {vs us : List Nat} {f : GF} {c : CF} {fe fk : EF} {Lk : List (Addr × Obj × HO)}
theorem wipeE_len (env : Env) : ∀ vs : List Nat, (wipeE env vs).length = env.length
  | [] => rfl
  | v :: vs => by unfold wipeE; rw [List.length_set, wipeE_len env vs]
theorem wipeE_at {env : Env} {i : Nat} {r : RV} : ∀ {vs : List Nat}, (wipeE env vs)[i]? = some (some r) → env[i]? = some (some r) ∧ i ∉ vs
  | [], h => ⟨h, by simp⟩
  | v :: vs, h => by
    unfold wipeE at h
    by_cases hi : v = i
    · subst hi
      by_cases hv : v < (wipeE env vs).length
      · rw [List.getElem?_set_self hv] at h; cases h
      · rw [List.getElem?_eq_none (by simpa using hv)] at h; cases h
    · rw [List.getElem?_set_ne hi] at h
      obtain ⟨h1, h2⟩ := wipeE_at h
      exact ⟨h1, by simp only [List.mem_cons, not_or]; exact ⟨fun e => hi e.symm, h2⟩⟩
theorem wipe_at {σ : L2.St} {i : Nat} : ∀ {vs : List Nat}, i ∉ vs → (wipe σ vs)[i]? = σ[i]?
  | [], _ => rfl
  | v :: vs, h => by
    unfold wipe
    simp only [List.mem_cons, not_or] at h
    rw [List.getElem?_set_ne fun e => h.1 e.symm, wipe_at h.2]
theorem wipe_in {σ : L2.St} {i : Nat} : ∀ {vs : List Nat}, i ∈ vs → (wipe σ vs)[i]? = if i < σ.length then some none else none
  | v :: vs, h => by
    unfold wipe
    by_cases hi : v = i
    · subst hi
      by_cases hv : v < σ.length
      · rw [List.getElem?_set_self (by rw [wipe_length]; exact hv), if_pos hv]
      · rw [List.getElem?_eq_none (by rw [List.length_set, wipe_length]; omega), if_neg hv]
    · rw [List.getElem?_set_ne hi, wipe_in (List.mem_of_ne_of_mem (fun e => hi e.symm) h)]
theorem wipe_same {σ σ' : L2.St} (hl : σ'.length = σ.length) (h : ∀ j, j ∉ vs → σ'[j]? = σ[j]?) : wipe σ' vs = wipe σ vs := by
  refine List.ext_getElem? fun i => ?_
  by_cases hi : i ∈ vs
  · rw [wipe_in hi, wipe_in hi, hl]
  · rw [wipe_at hi, wipe_at hi, h i hi]
theorem wipe_wipe {σ : L2.St} : wipe (wipe σ vs) vs = wipe σ vs := wipe_same (wipe_length ..) fun j hj => wipe_at hj
theorem Ok.wipe (O : Ok K F ι σ env ts st H) : Ok K F ι (wipe σ vs) (wipeE env vs) ts st H := O.unset (by rw [wipe_length, wipeE_len]; exact O.len) fun i r e => by
  obtain ⟨h1, h2⟩ := wipeE_at e
  exact ⟨h1, wipe_at h2⟩
theorem noEr_post {α : Type} {x : Rs α} {oc : α → Stx → Prop} (h : Post K W F σ env ts x.noEr oc) : Post K W' F σ' env' ts' x oc := by
  cases x with
  | ok a st' => exact h
  | er e st' => exact h.elim
  | no => exact h
/-- a turn's new value behind the others -/
theorem zip_snoc {α β : Type} : ∀ {as : List α} {bs : List β} {a : α} {b : β}, as.length = bs.length → (as ++ [a]).zip (bs ++ [b]) = as.zip bs ++ [(a, b)]
  | [], [], _, _, _ => rfl
  | [], _ :: _, _, _, h => by simp at h
  | _ :: _, [], _, _, h => by simp at h
  | x :: as, y :: bs, a, b, h => by
    rw [List.cons_append, List.cons_append, List.zip_cons_cons, zip_snoc (by simpa using h), List.zip_cons_cons, List.cons_append]
theorem comp_run {m : Bool} (hus : ∀ i ∈ us, i ∈ vs) (hL : LkOk K (F.hold a) Lk) (hLs : ∀ {ι σ env ts st H}, Ok K (F.hold a) ι σ env ts st H → LkOk K ((F.hold a).callee st ι H) Lk) (O1 : Ok K F ι σ env (t1 ++ ts) st H) (I : IterOk K Lk t1 ds J) (hd : ds.length ≤ cap) (nD : H a = none) {Q : VK}
    (h : Post K W F σ env ts ((compM vs f c fe ds env st).bind fun xs st2 => okLc m xs st2) (okE K F σ env ts Q)) :
    ∃ W' : Nat → Nat → Hp → Prop, (∃ m, W' 0 m (upd H a (.lst []))) ∧ ∀ i m H, W' i m H →
      (J.stop i H ∧ Q (.ref a) H) ∨ (J.go i H ∧ ∃ Nx : Hp → Prop, (∀ H', Nx H' → ∃ m', m' < m ∧ W' (i + 1) m' H') ∧ ∀ x H', J.yld i H x H' → tG K f us x (wipe σ vs) H' fun σ2 H2 => wipe σ2 vs = wipe σ vs ∧ tT K (fun _ _ _ _ => False) c σ2 H2 fun b H3 =>
        if b = true then tE K (fun _ _ _ _ => False) fe σ2 H3 fun y H4 => ∃ acc, H4 a = some (.lst acc) ∧ acc.length < sizeLine ∧ Nx (upd H4 a (.lst (acc ++ [y]))) else Nx H3) := by
  have h0 : F.H0 a = none := by
    cases q : F.H0 a with
    | none => rfl
    | some o => obtain ⟨o', h'⟩ := O1.there a o q; rw [nD] at h'; cases h'
  have hX : ¬F.X a := fun q => by obtain ⟨o', h'⟩ := O1.xs a q; rw [nD] at h'; cases h'
  let Pv : Nat → Hp → Prop := fun i H' => ∃ ι' st' acc xs, Ok K (F.hold a) ι' σ env (acc.zip (xs.map RV.val) ++ (t1 ++ ts)) st' H' ∧ acc.length = xs.length ∧ H' a = some (.lst acc) ∧ xs.length ≤ i ∧
    Post K W F σ env ts ((compM vs f c fe (ds.drop i) env st').bind fun ys st2 => okLc m (xs ++ ys) st2) (okE K F σ env ts Q)
  have w : Walk J ds.length (fun H => ∃ env st ι ts', (∀ t ∈ t1, t ∈ ts') ∧ Ok K (F.hold a) ι σ env ts' st H) J.yld :=
    ⟨fun i H hi ⟨env, st, ι, ts', m, O⟩ => I.goes _ σ env ts' st H i hL m ⟨ι, O⟩ hi, fun H ⟨env, st, ι, ts', m, O⟩ => I.stops _ σ env ts' st H hL m ⟨ι, O⟩, fun _ _ _ _ _ _ y => y⟩
  refine lc_it w (g := tG K f us) (tt := tT K _ c) (te := tE K _ fe) Pv ⟨ι, st, [], [], O1.hold nD, rfl, upd_same, Nat.zero_le _, by rw [List.drop_zero]; exact h⟩ (fun i H' _ ⟨ι', st', acc, xs, O, _⟩ => ⟨env, st', ι', _, fun t m => List.mem_append_right _ (List.mem_append_left _ m), O⟩) (fun i x H2 H3 hi ⟨ι', st', acc, xs, O, hl, hD, hx, hP⟩ y => ?_) (fun H' ⟨ι', st', acc, xs, O, hl, hD, hx, hP⟩ => ?_)
  · have O2 := O.sub
    have mt : ∀ t ∈ t1, t ∈ acc.zip (xs.map RV.val) ++ (t1 ++ ts) := fun t m => List.mem_append_right _ (List.mem_append_left _ m)
    obtain ⟨S3, sm⟩ := I.yields _ _ _ _ st' H2 H3 i x ds[i] (hLs O) mt ⟨ι', O2.wipe (vs := vs)⟩ (List.getElem?_eq_getElem hi) y
    rw [List.drop_eq_getElem_cons hi] at hP
    unfold compM at hP
    refine ⟨_, _, _, st', .val ds[i], S3, ?_⟩
    cases q : f (.val ds[i]) (wipeE env vs) st' with
    | none => rw [q] at hP; exact hP.elim
    | some env1 =>
      rw [q] at hP
      intro σ2 l2 k2 S4
      refine ⟨(wipe_same (l2.trans rfl) fun j hj => k2 j fun m => hj (hus j m)).trans wipe_wipe, ?_⟩
      refine ⟨_, env1, _, st', S4, ?_⟩
      have hP : Post K W F σ env ts ((((c env1 st').noEr).bind fun b st1 => if b = true then
        ((fe env1 st1).noEr).bind fun r st2 => match r with
          | .val x => (compM vs f c fe (ds.drop (i + 1)) env st2).bind fun xs st3 => Rs.ok (x :: xs) st3
          | .ptr _ => .no
        else compM vs f c fe (ds.drop (i + 1)) env st1).bind fun ys st2 => okLc m (xs ++ ys) st2) (okE K F σ env ts Q) := hP
      cases q2 : c env1 st' with
      | no => rw [q2] at hP; exact hP.elim
      | er e st2 => rw [q2] at hP; exact hP.elim
      | ok b st2 =>
        rw [q2] at hP
        intro H5 S5
        obtain ⟨ι5, O5⟩ := S5
        have stay : ∀ {ι6 σ6 env6 ts6 st6 H6}, Ok K ((F.hold a).callee st' ι' H2) ι6 σ6 env6 ts6 st6 H6 → H6 a = some (.lst acc) := fun O6 => by
          have nP0 : ¬((F.hold a).callee st' ι' H2).P0 a := fun ⟨n, h1, h2, h3⟩ => by
            cases qq : st'.at' n with
            | none => exact h2 qq
            | some nd => exact O.xn n nd qq (.inr h3)
          rcases O6.frame a _ hD nP0 with h1 | ⟨_, h1⟩
          · exact h1
          · cases h1
        cases b with
        | false =>
          simp only [Bool.false_eq_true, if_false] at hP ⊢
          refine ⟨ι5, st2, acc, xs, (O.call O5).tmps fun t m => List.mem_append_right _ m, hl, stay O5, by omega, hP⟩
        | true =>
          simp only [if_true] at hP ⊢
          refine ⟨_, env1, _, st2, ⟨ι5, O5⟩, ?_⟩
          have hP : Post K W F σ env ts ((((fe env1 st2).noEr).bind fun r st3 => match r with
            | .val x => (compM vs f c fe (ds.drop (i + 1)) env st3).bind fun xs st4 => Rs.ok (x :: xs) st4
            | .ptr _ => .no).bind fun ys st3 => okLc m (xs ++ ys) st3) (okE K F σ env ts Q) := hP
          cases q3 : fe env1 st2 with
          | no => rw [q3] at hP; exact hP.elim
          | er e st3 => rw [q3] at hP; exact hP.elim
          | ok r st3 =>
            rw [q3] at hP
            intro z H6 S6
            obtain ⟨ι6, O6⟩ := S6
            cases r with
            | ptr n => exact hP.elim
            | val dz =>
              have hD6 := stay O6
              have hlen : acc.length < sizeLine := by
                have : xs.length ≤ i := hx
                have e : sizeLine = 16777216 := sizeLine_eq
                have : (cap : Nat) = 1000000 := rfl
                omega
              refine ⟨acc, hD6, hlen, ι6, st3, acc ++ [z], xs ++ [dz], ?_, by rw [List.length_append, List.length_append, hl]; rfl, upd_same, by rw [List.length_append]; exact Nat.succ_le_succ hx, ?_⟩
              · refine ((O.call O6).tmps fun t m => ?_).wrX (.inr rfl) h0 hD6 (by intro od w z; cases z)
                rw [List.map_append, List.map_cons, List.map_nil, zip_snoc (by rw [List.length_map]; exact hl)] at m
                rcases List.mem_append.mp m with m | m
                · rcases List.mem_append.mp m with m | m
                  · exact List.mem_append_right _ (List.mem_append_left _ m)
                  · rw [List.mem_singleton.mp m]
                    exact List.mem_append_left _ (List.mem_cons_self ..)
                · exact List.mem_append_right _ (List.mem_append_right _ m)
              · have hP : Post K W F σ env ts (((compM vs f c fe (ds.drop (i + 1)) env st3).bind fun xs st4 => Rs.ok (dz :: xs) st4).bind fun ys st3 => okLc m (xs ++ ys) st3) (okE K F σ env ts Q) := hP
                cases q4 : compM vs f c fe (ds.drop (i + 1)) env st3 with
                | no => rw [q4] at hP; exact hP.elim
                | er e st4 => rw [q4] at hP; exact hP
                | ok ys st4 =>
                  rw [q4] at hP
                  have hP : Post K W F σ env ts (okLc m (xs ++ dz :: ys) st4) (okE K F σ env ts Q) := hP
                  show Post K W F σ env ts (okLc m ((xs ++ [dz]) ++ ys) st4) (okE K F σ env ts Q)
                  rw [List.append_assoc]
                  exact hP
  · rw [List.drop_length] at hP
    have hP : Post K W F σ env ts (okLc m (xs ++ []) st') (okE K F σ env ts Q) := hP
    rw [List.append_nil] at hP
    cases m with
    | false =>
      have hP : okE K F σ env ts Q (.val (.lst xs)) st' := hP
      obtain ⟨O2, nP, k⟩ := O.unhold hX
      refine hP _ H' ⟨ι', (O2.tmps (ts' := ts) fun t m => List.mem_append_right _ (List.mem_append_right _ m)).push ?_⟩
      have hv : Vls K (Pf F ι' st') H' xs acc := vls_of_zip (ι := ι') (n := st'.nx) hl fun t m => O2.tmp t (List.mem_append_left _ m)
      exact ⟨a, acc, rfl, .inl ⟨nP, .inl hD⟩, by omega, hv⟩
    | true =>
      have hP : okE K F σ env ts Q (.ptr st'.nx) (st'.push (.lst xs)) := hP
      have hv : Vls K (Pf (F.hold a) ι' st') H' xs acc := vls_of_zip (ι := ι') (n := st'.nx) hl fun t m => O.tmp t (List.mem_append_left _ m)
      obtain ⟨ι2, O2⟩ := O.adopt (nd := .lst xs) hX h0 fun ι2 e1 e2 k => ⟨acc, hD, by omega, Vls.keep k _ _ hv⟩
      exact hP _ H' ⟨ι2, O2.tmps fun t m => (List.mem_cons.mp m).elim (fun e => e ▸ List.mem_cons_self ..) fun m => List.mem_cons_of_mem _ (List.mem_append_right _ (List.mem_append_right _ m))⟩
theorem lk_mem {a0 : Addr} {od : Obj} {kvs : List (Key × V)} (h : (a0, od, .dK kvs) ∈ F.L ++ F.Li) : LkOk K (F.hold a) [(a0, od, .dK kvs)] ∧ ∀ {ι σ env ts st H}, Ok K (F.hold a) ι σ env ts st H → LkOk K ((F.hold a).callee st ι H) [(a0, od, .dK kvs)] :=
  ⟨lk_of (F := F.hold a) h, fun {ι σ env ts st H} _ => lk_of (F := (F.hold a).callee st ι H) (List.mem_append_right _ h)⟩
theorem lk_fr {a0 : Addr} {od : Obj} {kvs : List (Key × V)} (h : F.H0 a0 = some (.frz od (.dK kvs))) (hl : F.L = []) (hn : ¬F.P0 a0) : LkOk K (F.hold a) [(a0, od, .dK kvs)] ∧ ∀ {ι σ env ts st H}, Ok K (F.hold a) ι σ env ts st H → LkOk K ((F.hold a).callee st ι H) [(a0, od, .dK kvs)] := by
  have at_ : ∀ {ι σ env ts st H}, Ok K (F.hold a) ι σ env ts st H → H a0 = some (.frz od (.dK kvs)) := fun O => by
    rcases O.frame a0 _ h hn with h1 | ⟨_, h1⟩
    · exact h1
    · rw [show (F.hold a).L = F.L from rfl, hl] at h1; cases h1
  refine ⟨fun σ env ts st H S x m => ?_, fun {ι σ env ts st H} O => lk_frame (F := F.hold a) (at_ O) fun q => ?_⟩
  · rw [List.mem_singleton.mp m]
    obtain ⟨ι, O⟩ := S
    exact at_ O
  · exact O.nP (F := F.hold a) h hn (O.p0 a0 q)
end
section
variable {X : Cx} {W : WX} {pos : Pos} {tg e c iter elt : Expr} {fi : ItF} {f : GF} {vs us : List Nat} {cf : CF} {fe fk : EF} {pm : Env → Stx → Option RV} {items : List Key → List D → List D} {te : TE} {wi : TI} {mk : Addr → Obj → List (Key × V) → It} {own : List (Str × Nat)} {scope : Scope} {ifs : List Expr}
abbrev W0 : WX := fun _ _ _ _ => False
def tTs (K : PySem.W.Frag) (f : CF) : TT := tT K W0 f
/-- the tests of a comprehension -/
def cYes : CF := fun _ st => .ok true st
theorem dts_nil {X : Cx} : PTs X [] (tT X.K W0 cYes) := ⟨fun pins s σ H Q I ⟨F, env, ts, st, S, h⟩ => wpAny_tests_nil ⟨H, I, h H S⟩⟩
theorem dts_one {X : Cx} {c : Expr} {cf : CF} (h : PT X c (tT X.K W0 cf)) : PTs X [c] (tT X.K W0 cf) := pts_one h
theorem d_comp (m : Bool) (hc : X.calm = true) (hN : X.N.Nodup) (hi : PI X tg iter (tI X.K W fi)) (ok : BlkOk X.N X.env.scope scope own) (hus : ∀ i ∈ us, i ∈ own.map (·.2))
    (hg : ∀ (s : Shared) (H : Hp) (C : Addr) (cl : List (Str × Addr)) (fp : List Addr), PG (X.blk s H scope (compEnvC scope cl C X.env) fp) tg (tG X.K f us)) (ht : ∀ (s : Shared) (H : Hp) (C : Addr) (cl : List (Str × Addr)) (fp : List Addr), PTs (X.blk s H scope (compEnvC scope cl C X.env) fp) ifs (tT X.K W0 cf))
    (he : ∀ (s : Shared) (H : Hp) (C : Addr) (cl : List (Str × Addr)) (fp : List Addr), PE (X.blk s H scope (compEnvC scope cl C X.env) fp) elt (tE X.K W0 fe)) (hs : ∀ x, foldedSetIterable iter X.env x = pure x := by intro _; rfl) :
    PE X (.ListComp elt [⟨tg, iter, ifs, 0⟩] scope pos) (tE X.K W (eComp m (own.map (·.2)) fi f cf fe)) :=
  pe_up (pe_lc hc hN hi ok hg ht he hs) fun σ H Q ⟨F, env, ts, st, S, h⟩ => ⟨F, env, ts, st, S, (Post.bind h).imp fun ds st1 _ h1 J t1 H1 S1 I D0 nD => by
    obtain ⟨ι, O⟩ := S1
    by_cases hd : ds.length ≤ cap
    · rw [if_pos hd] at h1
      exact comp_run hus lk_nil (fun _ => lk_nil) O I hd nD h1
    · rw [if_neg hd] at h1; exact h1.elim⟩
end
end DM
namespace DM
open PySem PySem.Spec PyProof.Rows L2
def lookK : List Key → List D → Key → Option D
  | k :: ks, d :: ds, j => if k = j then some d else lookK ks ds j
  | _, _, _ => none
def setK : List Key → List D → Key → D → List D
  | k :: ks, e :: ds, j, d => if k = j then d :: ds else e :: setK ks ds j d
  | _, ds, _, _ => ds
def hasK (ks : List Key) (k : Key) : Bool := ks.any fun j => decide (j = k)
theorem hasK_iff {ks : List Key} {k : Key} : hasK ks k = true ↔ k ∈ ks := by
  unfold hasK
  rw [List.any_eq_true]
  constructor
  · rintro ⟨j, h1, h2⟩; rw [← of_decide_eq_true h2]; exact h1
  · intro h; exact ⟨k, h, decide_eq_true rfl⟩
def putKs (ks : List Key) (k : Key) : List Key := if hasK ks k = true then ks else ks ++ [k]
def putDs (ks : List Key) (ds : List D) (k : Key) (d : D) : List D := if hasK ks k = true then setK ks ds k d else ds ++ [d]
section
variable {K : PySem.W.Frag} {P : Addr → Prop} {H : Hp}
theorem look_v : ∀ {kvs : List (Key × V)} {ds : List D} (k : Key), Vls K P H ds (kvs.map (·.2)) → (lookK (kvs.map (·.1)) ds k = none ∧ valV kvs k = none) ∨ ∃ d v, lookK (kvs.map (·.1)) ds k = some d ∧ valV kvs k = some v ∧ Vl K P H d v
  | [], ds, k, h => .inl ⟨by unfold lookK; rfl, rfl⟩
  | (j, v) :: kvs, [], k, h => by
    have := h.length
    simp at this
  | (j, v) :: kvs, d :: ds, k, h => by
    obtain ⟨v', r, e, h1, h2⟩ := h
    rw [List.map_cons] at e
    injection e with e1 e2
    subst e1 e2
    rw [List.map_cons]
    unfold lookK
    by_cases hk : j = k
    · exact .inr ⟨d, v, if_pos hk, valV_pos (p := (j, v)) hk, h1⟩
    · rw [if_neg hk, valV_neg (p := (j, v)) hk]
      exact look_v k h2
theorem mem_any {kvs : List (Key × V)} {k : Key} : (kvs.any fun kv => decide (kv.1 = k)) = true ↔ k ∈ kvs.map (·.1) := by
  rw [List.any_eq_true, List.mem_map]
  constructor
  · rintro ⟨p, h1, h2⟩; exact ⟨p, h1, of_decide_eq_true h2⟩
  · rintro ⟨p, h1, h2⟩; exact ⟨p, h1, decide_eq_true h2⟩
theorem setK_no : ∀ {ks : List Key} {ds : List D} {k : Key} {d : D}, k ∉ ks → setK ks ds k d = ds
  | [], ds, k, d, _ => by cases ds <;> rfl
  | j :: ks, [], k, d, _ => rfl
  | j :: ks, e :: ds, k, d, h => by
    unfold setK
    simp only [List.mem_cons, not_or] at h
    rw [if_neg fun q => h.1 q.symm, setK_no h.2]
theorem set_v : ∀ {kvs : List (Key × V)} {ds : List D} {k : Key} {d : D} {z : V}, (kvs.map (·.1)).Nodup → Vls K P H ds (kvs.map (·.2)) → Vl K P H d z → Vls K P H (setK (kvs.map (·.1)) ds k d) ((kvs.map fun kv => if kv.1 = k then (kv.1, z) else kv).map (·.2))
  | [], ds, k, d, z, _, h, _ => by rw [show ds = [] from by have := h.length; simpa using this.symm]; rfl
  | (j, v) :: kvs, [], k, d, z, _, h, _ => by have := h.length; simp at this
  | (j, v) :: kvs, e :: ds, k, d, z, hn, h, hz => by
    obtain ⟨v', r, q, h1, h2⟩ := h
    rw [List.map_cons] at q hn
    injection q with e1 e2
    subst e1 e2
    have hn := List.nodup_cons.mp hn
    have ih := set_v (k := k) hn.2 h2 hz
    rw [List.map_cons, List.map_cons, List.map_cons]
    unfold setK
    by_cases hk : j = k
    · rw [if_pos hk]
      simp only [if_pos hk]
      rw [setK_no (hk ▸ hn.1)] at ih
      exact ⟨z, _, rfl, hz, ih⟩
    · rw [if_neg hk]
      simp only [if_neg hk]
      exact ⟨v, _, rfl, h1, ih⟩
theorem put_keys {kvs : List (Key × V)} {k : Key} {z : V} : (putK kvs k z).map (·.1) = putKs (kvs.map (·.1)) k := by
  unfold putK putKs
  by_cases h : k ∈ kvs.map (·.1)
  · rw [if_pos (mem_any.mpr h), if_pos (hasK_iff.mpr h), List.map_map]
    refine List.map_congr_left fun p _ => ?_
    show (if p.1 = k then (p.1, z) else p).1 = p.1
    split <;> rfl
  · rw [if_neg fun q => h (mem_any.mp q), if_neg fun q => h (hasK_iff.mp q), List.map_append]; rfl
theorem put_vals {kvs : List (Key × V)} {ds : List D} {k : Key} {d : D} {z : V} (hn : (kvs.map (·.1)).Nodup) (h : Vls K P H ds (kvs.map (·.2))) (hz : Vl K P H d z) : Vls K P H (putDs (kvs.map (·.1)) ds k d) ((putK kvs k z).map (·.2)) := by
  unfold putK putDs
  by_cases q : k ∈ kvs.map (·.1)
  · rw [if_pos (mem_any.mpr q), if_pos (hasK_iff.mpr q)]
    exact set_v hn h hz
  · rw [if_neg fun z => q (mem_any.mp z), if_neg fun z => q (hasK_iff.mp z), List.map_append]
    exact Vls.append h (Vls.one hz)
theorem putKs_nodup {ks : List Key} {k : Key} (h : ks.Nodup) : (putKs ks k).Nodup := by
  unfold putKs
  by_cases q : k ∈ ks
  · rw [if_pos (hasK_iff.mpr q)]; exact h
  · rw [if_neg fun z => q (hasK_iff.mp z)]
    refine List.nodup_append.mpr ⟨h, by simp, fun a ha b hb => ?_⟩
    rw [List.mem_singleton.mp hb]
    exact fun z => q (z ▸ ha)
theorem putKs_len {ks : List Key} {k : Key} : (putKs ks k).length ≤ ks.length + 1 := by
  unfold putKs
  split
  · omega
  · rw [List.length_append]; simp
end
/-- data as a key -/
def keyOf : RV → Option Key
  | .val (.int i) => some (.inl i)
  | .val (.str s) => some (.inr s)
  | _ => none
theorem keyOf_v {K : PySem.W.Frag} {P : Addr → Prop} {H : Hp} {ι : Nat → Addr} {nx : Nat} {r : RV} {k : Key} {v : V} (e : keyOf r = some k) (h : RVl K P H ι nx r v) : v = kV k := by
  cases r with
  | ptr n => cases e
  | val d => cases d <;> cases e <;> exact h
def compDM (vs : List Nat) (f : GF) (c : CF) (fk fe : EF) : List D → List Key → List D → Env → Stx → Rs (List Key × List D)
  | [], ks, es, _, st => .ok (ks, es) st
  | d :: ds, ks, es, env, st => match f (.val d) (wipeE env vs) st with
    | none => .no
    | some env1 => ((c env1 st).noEr).bind fun b st1 => if b = true then
        ((fk env1 st1).noEr).bind fun rk st2 => ((fe env1 st2).noEr).bind fun r st3 => match keyOf rk, r with
          | some k, .val x => compDM vs f c fk fe ds (putKs ks k) (putDs ks es k x) env st3
          | _, _ => .no
      else compDM vs f c fk fe ds ks es env st1
def eDComp (vs : List Nat) (fi : ItF) (f : GF) (c : CF) (fk fe : EF) : EF := fun env st => (fi env st).bind fun ds st1 => if ds.length ≤ cap then (compDM vs f c fk fe ds [] [] env st1).bind fun x st2 => .ok (.val (.dct x.1 x.2)) st2 else .no
section
variable {K : PySem.W.Frag} {W W' : WX} {F : Frm} {ι ι' : Nat → Addr} {σ σ' : L2.St} {env env' : Env} {ts ts' t1 : List (V × RV)} {st st' : Stx} {H H' : Hp} {a : Addr} {o : HO} {v x y : V} {r : RV} {n : Nat} {ds es : List D} {ks : List Key} {J : It} {d e : D} {vs us : List Nat} {f : GF} {c : CF} {fe fk : EF} {Lk : List (Addr × Obj × HO)}
theorem lc_itD {J : It} {n : Nat} {G : Hp → Prop} {Y : Nat → Hp → V → Hp → Prop} (w : Walk J n G Y) {g : TG} {tt : TT} {tk tv : TE} {vs : List Nat} {σ : L2.St} {H1 : Hp} {D0 : Addr} {Qd : Hp → Prop} (Pv : Nat → Hp → Prop) (h0 : Pv 0 (upd H1 D0 (.dK []))) (hG : ∀ i H, i ≤ n → Pv i H → G H)
    (hs : ∀ i x H H', i < n → Pv i H → Y i H x H' → g x (wipe σ vs) H' fun σ2 H2 => wipe σ2 vs = wipe σ vs ∧ tt σ2 H2 fun b H3 =>
      if b = true then tk σ2 H3 fun y H4 => tv σ2 H4 fun z H5 => ∃ kvs k, y = kV k ∧ H5 D0 = some (.dK kvs) ∧ kvs.length < sizeLine ∧ Pv (i + 1) (upd H5 D0 (.dK (putK kvs k z))) else Pv (i + 1) H3) (hd : ∀ H, Pv n H → Qd H) :
    ∃ W : Nat → Nat → Hp → Prop, (∃ m, W 0 m (upd H1 D0 (.dK []))) ∧ ∀ i m H, W i m H →
      (J.stop i H ∧ Qd H) ∨ (J.go i H ∧ ∃ Nx : Hp → Prop, (∀ H', Nx H' → ∃ m', m' < m ∧ W (i + 1) m' H') ∧ ∀ x H', J.yld i H x H' → g x (wipe σ vs) H' fun σ2 H2 => wipe σ2 vs = wipe σ vs ∧ tt σ2 H2 fun b H3 =>
        if b = true then tk σ2 H3 fun y H4 => tv σ2 H4 fun z H5 => ∃ kvs k, y = kV k ∧ H5 D0 = some (.dK kvs) ∧ kvs.length < sizeLine ∧ Nx (upd H5 D0 (.dK (putK kvs k z))) else Nx H3) := by
  refine ⟨fun i m H => m = n - i ∧ i ≤ n ∧ Pv i H, ⟨n, by simp, Nat.zero_le _, h0⟩, ?_⟩
  rintro i m H ⟨rfl, hi, p⟩
  have q := hG i H hi p
  by_cases hlt : i < n
  · refine .inr ⟨w.goes i H hlt q, Pv (i + 1), fun H' p' => ⟨n - (i + 1), by omega, rfl, hlt, p'⟩, fun x H' y => hs i x H H' hlt p (w.yields i H x H' hlt q y)⟩
  · have e : i = n := by omega
    subst e
    exact .inl ⟨w.stops H q, hd H p⟩
theorem compD_run (hus : ∀ i ∈ us, i ∈ vs) (hL : LkOk K (F.hold a) Lk) (hLs : ∀ {ι σ env ts st H}, Ok K (F.hold a) ι σ env ts st H → LkOk K ((F.hold a).callee st ι H) Lk) (O1 : Ok K F ι σ env (t1 ++ ts) st H) (I : IterOk K Lk t1 ds J) (hd : ds.length ≤ cap) (nD : H a = none) {Q : VK}
    (h : Post K W F σ env ts ((compDM vs f c fk fe ds [] [] env st).bind fun (x : List Key × List D) st2 => .ok (.val (.dct x.1 x.2)) st2) (okE K F σ env ts Q)) :
    ∃ W' : Nat → Nat → Hp → Prop, (∃ m, W' 0 m (upd H a (.dK []))) ∧ ∀ i m H, W' i m H →
      (J.stop i H ∧ Q (.ref a) H) ∨ (J.go i H ∧ ∃ Nx : Hp → Prop, (∀ H', Nx H' → ∃ m', m' < m ∧ W' (i + 1) m' H') ∧ ∀ x H', J.yld i H x H' → tG K f us x (wipe σ vs) H' fun σ2 H2 => wipe σ2 vs = wipe σ vs ∧ tT K (fun _ _ _ _ => False) c σ2 H2 fun b H3 =>
        if b = true then tE K (fun _ _ _ _ => False) fk σ2 H3 fun y H4 => tE K (fun _ _ _ _ => False) fe σ2 H4 fun z H5 => ∃ kvs k, y = kV k ∧ H5 a = some (.dK kvs) ∧ kvs.length < sizeLine ∧ Nx (upd H5 a (.dK (putK kvs k z))) else Nx H3) := by
  have h0 : F.H0 a = none := by
    cases q : F.H0 a with
    | none => rfl
    | some o => obtain ⟨o', h'⟩ := O1.there a o q; rw [nD] at h'; cases h'
  have hX : ¬F.X a := fun q => by obtain ⟨o', h'⟩ := O1.xs a q; rw [nD] at h'; cases h'
  let Pv : Nat → Hp → Prop := fun i H' => ∃ ι' st' kvs xs, Ok K (F.hold a) ι' σ env ((kvs.map (·.2)).zip (xs.map RV.val) ++ (t1 ++ ts)) st' H' ∧ (kvs.map (·.2)).length = xs.length ∧ (kvs.map (·.1)).Nodup ∧ H' a = some (.dK kvs) ∧ xs.length ≤ i ∧
    Post K W F σ env ts ((compDM vs f c fk fe (ds.drop i) (kvs.map (·.1)) xs env st').bind fun (x : List Key × List D) st2 => .ok (.val (.dct x.1 x.2)) st2) (okE K F σ env ts Q)
  have w : Walk J ds.length (fun H => ∃ env st ι ts', (∀ t ∈ t1, t ∈ ts') ∧ Ok K (F.hold a) ι σ env ts' st H) J.yld :=
    ⟨fun i H hi ⟨env, st, ι, ts', m, O⟩ => I.goes _ σ env ts' st H i hL m ⟨ι, O⟩ hi, fun H ⟨env, st, ι, ts', m, O⟩ => I.stops _ σ env ts' st H hL m ⟨ι, O⟩, fun _ _ _ _ _ _ y => y⟩
  refine lc_itD w (g := tG K f us) (tt := tT K _ c) (tk := tE K _ fk) (tv := tE K _ fe) Pv ⟨ι, st, [], [], O1.hold nD, rfl, List.nodup_nil, upd_same, Nat.zero_le _, by rw [List.drop_zero]; exact h⟩ (fun i H' _ ⟨ι', st', kvs, xs, O, _⟩ => ⟨env, st', ι', _, fun t m => List.mem_append_right _ (List.mem_append_left _ m), O⟩) (fun i x H2 H3 hi ⟨ι', st', kvs, xs, O, hl, hn, hD, hx, hP⟩ y => ?_) (fun H' ⟨ι', st', kvs, xs, O, hl, hn, hD, hx, hP⟩ => ?_)
  · have O2 := O.sub
    have mt : ∀ t ∈ t1, t ∈ (kvs.map (·.2)).zip (xs.map RV.val) ++ (t1 ++ ts) := fun t m => List.mem_append_right _ (List.mem_append_left _ m)
    obtain ⟨S3, sm⟩ := I.yields _ _ _ _ st' H2 H3 i x ds[i] (hLs O) mt ⟨ι', O2.wipe (vs := vs)⟩ (List.getElem?_eq_getElem hi) y
    rw [List.drop_eq_getElem_cons hi] at hP
    unfold compDM at hP
    refine ⟨_, _, _, st', .val ds[i], S3, ?_⟩
    cases q : f (.val ds[i]) (wipeE env vs) st' with
    | none => rw [q] at hP; exact hP.elim
    | some env1 =>
      rw [q] at hP
      intro σ2 l2 k2 S4
      refine ⟨(wipe_same (l2.trans rfl) fun j hj => k2 j fun m => hj (hus j m)).trans wipe_wipe, ?_⟩
      refine ⟨_, env1, _, st', S4, ?_⟩
      have hP : Post K W F σ env ts ((((c env1 st').noEr).bind fun b st1 => if b = true then
        ((fk env1 st1).noEr).bind fun rk st2 => ((fe env1 st2).noEr).bind fun r st3 => match keyOf rk, r with
          | some k, .val x => compDM vs f c fk fe (ds.drop (i + 1)) (putKs (kvs.map (·.1)) k) (putDs (kvs.map (·.1)) xs k x) env st3
          | _, _ => .no
        else compDM vs f c fk fe (ds.drop (i + 1)) (kvs.map (·.1)) xs env st1).bind fun (x : List Key × List D) st2 => .ok (.val (.dct x.1 x.2)) st2) (okE K F σ env ts Q) := hP
      cases q2 : c env1 st' with
      | no => rw [q2] at hP; exact hP.elim
      | er e st2 => rw [q2] at hP; exact hP.elim
      | ok b st2 =>
        rw [q2] at hP
        intro H5 S5
        obtain ⟨ι5, O5⟩ := S5
        have stay : ∀ {ι6 σ6 env6 ts6 st6 H6}, Ok K ((F.hold a).callee st' ι' H2) ι6 σ6 env6 ts6 st6 H6 → H6 a = some (.dK kvs) := fun O6 => by
          have nP0 : ¬((F.hold a).callee st' ι' H2).P0 a := fun ⟨n, h1, h2, h3⟩ => by
            cases qq : st'.at' n with
            | none => exact h2 qq
            | some nd => exact O.xn n nd qq (.inr h3)
          rcases O6.frame a _ hD nP0 with h1 | ⟨_, h1⟩
          · exact h1
          · cases h1
        cases b with
        | false =>
          simp only [Bool.false_eq_true, if_false] at hP ⊢
          refine ⟨ι5, st2, kvs, xs, (O.call O5).tmps fun t m => List.mem_append_right _ m, hl, hn, stay O5, by omega, hP⟩
        | true =>
          simp only [if_true] at hP ⊢
          refine ⟨_, env1, _, st2, ⟨ι5, O5⟩, ?_⟩
          have hP : Post K W F σ env ts ((((fk env1 st2).noEr).bind fun rk st3 => ((fe env1 st3).noEr).bind fun r st4 => match keyOf rk, r with
            | some k, .val x => compDM vs f c fk fe (ds.drop (i + 1)) (putKs (kvs.map (·.1)) k) (putDs (kvs.map (·.1)) xs k x) env st4
            | _, _ => .no).bind fun (x : List Key × List D) st3 => .ok (.val (.dct x.1 x.2)) st3) (okE K F σ env ts Q) := hP
          cases q3 : fk env1 st2 with
          | no => rw [q3] at hP; exact hP.elim
          | er e st3 => rw [q3] at hP; exact hP.elim
          | ok rk st3 =>
            rw [q3] at hP
            intro y1 H6 S6
            refine ⟨_, env1, _, st3, S6, ?_⟩
            have hP : Post K W F σ env ts ((((fe env1 st3).noEr).bind fun r st4 => match keyOf rk, r with
              | some k, .val x => compDM vs f c fk fe (ds.drop (i + 1)) (putKs (kvs.map (·.1)) k) (putDs (kvs.map (·.1)) xs k x) env st4
              | _, _ => .no).bind fun (x : List Key × List D) st3 => .ok (.val (.dct x.1 x.2)) st3) (okE K F σ env ts Q) := hP
            cases q4 : fe env1 st3 with
            | no => rw [q4] at hP; exact hP.elim
            | er e st4 => rw [q4] at hP; exact hP.elim
            | ok r st4 =>
              rw [q4] at hP
              intro z H7 S7
              obtain ⟨ι7, O7⟩ := S7
              cases qk : keyOf rk with
              | none =>
                simp only [Rs.noEr, Rs.bind, qk] at hP
                exact hP.elim
              | some k =>
                simp only [Rs.noEr, Rs.bind, qk] at hP
                cases r with
                | ptr n => exact hP.elim
                | val dz =>
                  have hD7 := stay O7
                  have hlen : kvs.length < sizeLine := by
                    have : xs.length ≤ i := hx
                    rw [List.length_map] at hl
                    have e : sizeLine = 16777216 := sizeLine_eq
                    have : (cap : Nat) = 1000000 := rfl
                    omega
                  have O8 := O.call O7
                  have hy : y1 = kV k := keyOf_v qk (O7.tmp (y1, rk) (List.mem_cons_of_mem _ (List.mem_cons_self ..)))
                  have hz : RVl K (Pf (F.hold a) ι7 st4) H7 ι7 st4.nx (.val dz) z := O8.tmp (z, .val dz) (List.mem_append_left _ (List.mem_cons_self ..))
                  have hv : Vls K (Pf (F.hold a) ι7 st4) H7 xs (kvs.map (·.2)) := vls_of_zip (ι := ι7) (n := st4.nx) hl fun t m => O8.tmp t (List.mem_append_right _ (List.mem_append_left _ m))
                  have hp := put_vals (k := k) hn hv (show Vl K _ _ dz z from hz)
                  refine ⟨kvs, k, hy, hD7, hlen, ι7, st4, putK kvs k z, putDs (kvs.map (·.1)) xs k dz, ?_, ?_, ?_, upd_same, ?_, ?_⟩
                  · have O9 : Ok K (F.hold a) ι7 σ env (((putK kvs k z).map (·.2)).zip ((putDs (kvs.map (·.1)) xs k dz).map RV.val) ++ (t1 ++ ts)) st4 H7 :=
                      { (O8.tmps (ts' := t1 ++ ts) fun t m => List.mem_append_right _ (List.mem_append_right _ m)) with
                        tmp := fun t m => (List.mem_append.mp m).elim (fun m => zip_vls hp t m) fun m => O8.tmp t (List.mem_append_right _ (List.mem_append_right _ m)) }
                    exact O9.wrX (.inr rfl) h0 hD7 (by intro od w z; cases z)
                  · rw [hp.length]
                  · rw [put_keys]; exact putKs_nodup hn
                  · have e1 := hp.length
                    have e2 : ((putK kvs k z).map (·.2)).length = (putKs (kvs.map (·.1)) k).length := by rw [← put_keys (z := z), List.length_map, List.length_map]
                    have e3 := putKs_len (ks := kvs.map (·.1)) (k := k)
                    rw [List.length_map] at hl e3
                    omega
                  · rw [put_keys]
                    exact hP
  · rw [List.drop_length] at hP
    have hP : okE K F σ env ts Q (.val (.dct (kvs.map (·.1)) xs)) st' := hP
    obtain ⟨O2, nP, k⟩ := O.unhold hX
    refine hP _ H' ⟨ι', (O2.tmps (ts' := ts) fun t m => List.mem_append_right _ (List.mem_append_right _ m)).push ?_⟩
    have hv : Vls K (Pf F ι' st') H' xs (kvs.map (·.2)) := vls_of_zip (ι := ι') (n := st'.nx) hl fun t m => O2.tmp t (List.mem_append_left _ m)
    exact ⟨a, kvs, rfl, ⟨nP, .inl hD⟩, rfl, hn, by rw [List.length_map] at hl ⊢; omega, hv⟩
end
end DM
namespace DM
open PySem PySem.Spec PyProof.Rows L2
section
variable {K : PySem.W.Frag} {W W' : WX} {F : Frm} {ι ι' : Nat → Addr} {σ σ' : L2.St} {env env' : Env} {ts ts' t1 : List (V × RV)} {st st' : Stx} {H H' : Hp} {a : Addr} {kvs : List (Key × V)} {od : Obj} {α : Type}
theorem Post.unlock {x : Rs α} {g : α → D} {Q : VK} (O : Ok K F ι σ env ts st H) (hn : ¬Pf F ι st a) (ha : H a = some (.dK kvs)) (h : Post K W F σ env ts (x.noEr.bind fun z st2 => .ok (.val (g z)) st2) (okE K F σ env ts Q)) :
    Post K W' ((F.lkd a od kvs).callee st ι (upd H a (.frz od (.dK kvs)))) σ env ts (x.bind fun z st2 => .ok (.val (g z)) st2) (okE K ((F.lkd a od kvs).callee st ι (upd H a (.frz od (.dK kvs)))) σ env ts fun v H' => H' a = some (.frz od (.dK kvs)) ∧ Q v (upd H' a (.dK kvs))) := by
  cases x with
  | ok z st2 => exact fun v H' S => let ⟨h1, h2⟩ := unlock_ok O hn ha S; ⟨h1, h v _ h2⟩
  | er e st2 => exact h.elim
  | no => exact h
theorem Post.sub {x : Rs α} {g : α → D} {Q : VK} (O : Ok K F ι σ env ts st H) (h : Post K W F σ env ts (x.noEr.bind fun z st2 => .ok (.val (g z)) st2) (okE K F σ env ts Q)) :
    Post K W' (F.callee st ι H) σ env ts (x.bind fun z st2 => .ok (.val (g z)) st2) (okE K (F.callee st ι H) σ env ts Q) := by
  cases x with
  | ok z st2 => exact fun v H' ⟨ι', O'⟩ => h v _ ⟨ι', O.join O'⟩
  | er e st2 => exact h.elim
  | no => exact h
end
section
variable {X : Cx} {W : WX} {pos : Pos} {tg e c iter elt kx : Expr} {fi : ItF} {f : GF} {us : List Nat} {cf : CF} {fe fk : EF} {pm : Env → Stx → Option RV} {items : List Key → List D → List D} {te : TE} {wi : TI} {mk : Addr → Obj → List (Key × V) → It} {own : List (Str × Nat)} {scope : Scope} {ifs : List Expr}
def unlE (n : Nat) : Rs RV → Rs RV
  | .ok r st => match st.at' n with
    | some (.dct true ks ds) => .ok r (st.set n (.dct false ks ds))
    | _ => .no
  | _ => .no
theorem Post.unlockN {K : PySem.W.Frag} {W W' : WX} {F : Frm} {ι : Nat → Addr} {σ : L2.St} {env : Env} {ts ts1 : List (V × RV)} {st : Stx} {H : Hp} {n : Nat} {ks : List Key} {ds : List D} {kvs : List (Key × V)} {od : Obj} {x : Rs RV} {Q : VK} (O : Ok K F ι σ env ts st H) (e : st.at' n = some (.dct false ks ds)) (ha : H (ι n) = some (.dK kvs)) (O1 : Ok K (F.lkd (ι n) od kvs) ι σ env ts1 (st.set n (.dct true ks ds)) (upd H (ι n) (.frz od (.dK kvs))))
    (h : Post K W F σ env ts (unlE n x) (okE K F σ env ts Q)) : Post K W' ((F.lkd (ι n) od kvs).callee (st.set n (.dct true ks ds)) ι (upd H (ι n) (.frz od (.dK kvs)))) σ env ts x (okE K ((F.lkd (ι n) od kvs).callee (st.set n (.dct true ks ds)) ι (upd H (ι n) (.frz od (.dK kvs)))) σ env ts fun v H' => H' (ι n) = some (.frz od (.dK kvs)) ∧ Q v (upd H' (ι n) (.dK kvs))) := by
  cases x with
  | ok z st2 =>
    unfold unlE at h
    simp only at h
    split at h
    · rename_i ks' ds' q
      exact fun v H' S => let ⟨h1, h2⟩ := DM.unlockN_ok O e ha O1 S q; ⟨h1, h v _ h2⟩
    · exact h.elim
  | er e st2 => exact h.elim
  | no => exact h.elim
/-- a dict told ahead, locked while the code runs -/
def lkE {α : Type} (pm : Env → Stx → Option RV) (run : List Key → List D → Env → Stx → Rs α) (g : α → D) : EF := fun env st => match pm env st with
  | some (.val (.dct ks ds)) => ((run ks ds env st).noEr).bind fun z st2 => .ok (.val (g z)) st2
  | some (.ptr n) => match st.at' n with
    | some (.dct false ks ds) => unlE n ((run ks ds env (st.set n (.dct true ks ds))).bind fun z st2 => .ok (.val (g z)) st2)
    | _ => .no
  | _ => .no
theorem lock_pe {t : TE} {K : PySem.W.Frag} (base : PE X e t) (P : Prd X.K te pm) (hw : WalkD X.K te wi mk items) {α : Type} {run : List Key → List D → Env → Stx → Rs α} {g : α → D}
    (step : ∀ (F : Frm) (ι : Nat → Addr) (σ : L2.St) (env : Env) (ts t1 : List (V × RV)) (st : Stx) (H : Hp) (a : Addr) (od : Obj) (kvs : List (Key × V)) (ks : List Key) (ds : List D) (Q : VK), Ok X.K F ι σ env (t1 ++ ts) st H → IterOk X.K [(a, od, .dK kvs)] t1 (items ks ds) (mk a od kvs) → ks.length ≤ cap → ds.length = ks.length →
      (∀ b, H b = none → LkOk X.K (F.hold b) [(a, od, .dK kvs)] ∧ ∀ {ι σ env ts st H}, Ok X.K (F.hold b) ι σ env ts st H → LkOk X.K ((F.hold b).callee st ι H) [(a, od, .dK kvs)]) → H a = some (.frz od (.dK kvs)) → (∀ Q : VK, Q (.ref a) H → te σ H Q) →
      Post X.K W F σ env ts ((run ks ds env st).bind fun z st2 => .ok (.val (g z)) st2) (okE X.K F σ env ts Q) → t σ H Q) :
    PE X e (tE X.K W (lkE pm run g)) := by
  refine ⟨fun pins s σ H Q I ⟨F, env, ts, st, S, h⟩ => ?_⟩
  unfold lkE at h
  cases q : pm env st with
  | none => rw [q] at h; exact h.elim
  | some r =>
    rw [q] at h
    cases r with
    | ptr n =>
      simp only at h
      split at h
      · rename_i ks ds e
        obtain ⟨v, ⟨ι, O⟩, h1, h2⟩ := P.ev F σ env ts st H _ S q
        obtain ⟨hn, rfl⟩ := (show RVl X.K _ _ ι _ (.ptr n) v from O.tmp _ (List.mem_cons_self ..))
        have O := O.tmps (ts' := ts) fun t m => List.mem_cons_of_mem _ m
        obtain ⟨kvs, ha, e1, nd, l, hl, O1⟩ := O.lckN e
        refine (pe_lock base).run pins s σ H Q I ⟨ι n, .dK kvs, ha, trivial, fun od => ?_⟩
        refine step ((F.lkd (ι n) od kvs).callee (st.set n (.dct true ks ds)) ι (upd H (ι n) (.frz od (.dK kvs)))) ι σ env ts ((kvs.map (·.2)).zip (ds.map RV.val)) _ _ (ι n) od kvs ks ds _ (O1 od).sub (hw.itn (ι n) od kvs ks ds e1 (by rw [hl, ← e1, List.length_map])) l hl (fun b nb => lk_mem (List.mem_append_right _ (List.mem_append_left _ (List.mem_cons_self ..)))) upd_same (fun Q q => h2 (ι n) od kvs ha Q q) ?_
        exact Post.unlockN O e ha (O1 od) h
      · exact h.elim
    | val d =>
      cases d with
      | dct ks ds =>
        simp only at h
        obtain ⟨v, ⟨ι, O⟩, h1, h2⟩ := P.ev F σ env ts st H _ S q
        obtain ⟨a, kvs, rfl, ⟨nP, la⟩, e2, n, l, qv⟩ := O.tmp _ (List.mem_cons_self ..)
        have hlen : ds.length = ks.length := by rw [← qv.length, ← e2, List.length_map, List.length_map]
        rcases la with ha | ⟨od, ha⟩
        · refine (pe_lock base).run pins s σ H Q I ⟨a, .dK kvs, ha, trivial, fun od => ?_⟩
          have O1 : Ok X.K (F.lkd a od kvs) ι σ env _ st (upd H a (.frz od (.dK kvs))) := O.lck nP ha
          refine step ((F.lkd a od kvs).callee st ι (upd H a (.frz od (.dK kvs)))) ι σ env ts [(.ref a, .val (.dct ks ds))] st _ a od kvs ks ds _ O1.sub (hw.it a od kvs ks ds) l hlen (fun b nb => lk_mem (List.mem_append_right _ (List.mem_append_left _ (List.mem_cons_self ..)))) upd_same (fun Q q => h2 a od kvs ha Q q) ?_
          exact Post.unlock (O.tmps (ts' := ts) fun t m => List.mem_cons_of_mem _ m) nP ha h
        · refine base.run pins s σ H Q I ?_
          refine step (F.callee st ι H) ι σ env ts [(.ref a, .val (.dct ks ds))] st _ a od kvs ks ds _ O.sub (hw.it a od kvs ks ds) l hlen (fun b nb => lk_fr ha rfl fun q => nP (.inl (O.p0 a q))) ha h1 ?_
          exact Post.sub (O.tmps (ts' := ts) fun t m => List.mem_cons_of_mem _ m) h
      | _ => exact h.elim
def eCompD (vs : List Nat) (pm : Env → Stx → Option RV) (items : List Key → List D → List D) (f : GF) (c : CF) (fe : EF) : EF := lkE pm (fun ks ds => compM vs f c fe (items ks ds)) .lst
def eDCompD (vs : List Nat) (pm : Env → Stx → Option RV) (items : List Key → List D → List D) (f : GF) (c : CF) (fk fe : EF) : EF := lkE pm (fun ks ds => compDM vs f c fk fe (items ks ds) [] []) fun z => .dct z.1 z.2
theorem d_compD (hc : X.calm = true) (hN : X.N.Nodup) (hi : PI X tg iter wi) (P : Prd X.K te pm) (hw : WalkD X.K te wi mk items) (ok : BlkOk X.N X.env.scope scope own) (hus : ∀ i ∈ us, i ∈ own.map (·.2))
    (hg : ∀ (s : Shared) (H : Hp) (C : Addr) (cl : List (Str × Addr)) (fp : List Addr), PG (X.blk s H scope (compEnvC scope cl C X.env) fp) tg (tG X.K f us)) (ht : ∀ (s : Shared) (H : Hp) (C : Addr) (cl : List (Str × Addr)) (fp : List Addr), PTs (X.blk s H scope (compEnvC scope cl C X.env) fp) ifs (tT X.K W0 cf))
    (he : ∀ (s : Shared) (H : Hp) (C : Addr) (cl : List (Str × Addr)) (fp : List Addr), PE (X.blk s H scope (compEnvC scope cl C X.env) fp) elt (tE X.K W0 fe)) (hs : ∀ x, foldedSetIterable iter X.env x = pure x := by intro _; rfl) :
    PE X (.ListComp elt [⟨tg, iter, ifs, 0⟩] scope pos) (tE X.K W (eCompD (own.map (·.2)) pm items f cf fe)) :=
  lock_pe (K := X.K) (pe_lc hc hN hi ok hg ht he hs) P hw fun F ι σ env ts t1 st H a od kvs ks ds Q O it l hl lk hA ht h => by
    refine hw.rd σ H _ a od kvs ht hA fun D0 nD => ?_
    obtain ⟨l1, l2⟩ := lk D0 nD
    refine comp_run (m := false) hus l1 l2 O it ?_ nD h
    rcases hw.ln ks ds with q | q <;> omega
theorem d_dcompD (hc : X.calm = true) (hN : X.N.Nodup) (hi : PI X tg iter wi) (P : Prd X.K te pm) (hw : WalkD X.K te wi mk items) (ok : BlkOk X.N X.env.scope scope own) (hus : ∀ i ∈ us, i ∈ own.map (·.2))
    (hg : ∀ (s : Shared) (H : Hp) (C : Addr) (cl : List (Str × Addr)) (fp : List Addr), PG (X.blk s H scope (compEnvC scope cl C X.env) fp) tg (tG X.K f us)) (ht : ∀ (s : Shared) (H : Hp) (C : Addr) (cl : List (Str × Addr)) (fp : List Addr), PTs (X.blk s H scope (compEnvC scope cl C X.env) fp) ifs (tT X.K W0 cf))
    (hk : ∀ (s : Shared) (H : Hp) (C : Addr) (cl : List (Str × Addr)) (fp : List Addr), PE (X.blk s H scope (compEnvC scope cl C X.env) fp) kx (tE X.K W0 fk))
    (he : ∀ (s : Shared) (H : Hp) (C : Addr) (cl : List (Str × Addr)) (fp : List Addr), PE (X.blk s H scope (compEnvC scope cl C X.env) fp) elt (tE X.K W0 fe)) (hs : ∀ x, foldedSetIterable iter X.env x = pure x := by intro _; rfl) :
    PE X (.DictComp kx elt [⟨tg, iter, ifs, 0⟩] scope pos) (tE X.K W (eDCompD (own.map (·.2)) pm items f cf fk fe)) :=
  lock_pe (K := X.K) (pe_dc hc hN hi ok hg ht hk he hs) P hw fun F ι σ env ts t1 st H a od kvs ks ds Q O it l hl lk hA ht h => by
    refine hw.rd σ H _ a od kvs ht hA fun D0 nD => ?_
    obtain ⟨l1, l2⟩ := lk D0 nD
    refine compD_run hus l1 l2 O it ?_ nD h
    rcases hw.ln ks ds with q | q <;> omega
theorem d_dcomp (hc : X.calm = true) (hN : X.N.Nodup) (hi : PI X tg iter (tI X.K W fi)) (ok : BlkOk X.N X.env.scope scope own) (hus : ∀ i ∈ us, i ∈ own.map (·.2))
    (hg : ∀ (s : Shared) (H : Hp) (C : Addr) (cl : List (Str × Addr)) (fp : List Addr), PG (X.blk s H scope (compEnvC scope cl C X.env) fp) tg (tG X.K f us)) (ht : ∀ (s : Shared) (H : Hp) (C : Addr) (cl : List (Str × Addr)) (fp : List Addr), PTs (X.blk s H scope (compEnvC scope cl C X.env) fp) ifs (tT X.K W0 cf))
    (hk : ∀ (s : Shared) (H : Hp) (C : Addr) (cl : List (Str × Addr)) (fp : List Addr), PE (X.blk s H scope (compEnvC scope cl C X.env) fp) kx (tE X.K W0 fk))
    (he : ∀ (s : Shared) (H : Hp) (C : Addr) (cl : List (Str × Addr)) (fp : List Addr), PE (X.blk s H scope (compEnvC scope cl C X.env) fp) elt (tE X.K W0 fe)) (hs : ∀ x, foldedSetIterable iter X.env x = pure x := by intro _; rfl) :
    PE X (.DictComp kx elt [⟨tg, iter, ifs, 0⟩] scope pos) (tE X.K W (eDComp (own.map (·.2)) fi f cf fk fe)) :=
  pe_up (pe_dc hc hN hi ok hg ht hk he hs) fun σ H Q ⟨F, env, ts, st, S, h⟩ => ⟨F, env, ts, st, S, (Post.bind h).imp fun ds st1 _ h1 J t1 H1 S1 I D0 nD => by
    obtain ⟨ι, O⟩ := S1
    by_cases hd : ds.length ≤ cap
    · rw [if_pos hd] at h1
      exact compD_run hus lk_nil (fun _ => lk_nil) O I hd nD h1
    · rw [if_neg hd] at h1; exact h1.elim⟩
/-- name = [..] on one line -/
theorem ds_setComp (m : Bool) {i : Nat} {y : Str} {py spos : Pos} (hc : X.calm = true) (hN : X.N.Nodup) (hy : X.N[i]? = some y) (hyl : X.env.scope.names.lookup y = some .local) (hsw : swapsWith (.ListComp elt [⟨tg, iter, ifs, 0⟩] scope pos) (some (.Name y py)) spos.line X.env = pure true)
    (hi : PI X tg iter (tI X.K W fi)) (ok : BlkOk X.N X.env.scope scope own) (hus : ∀ i ∈ us, i ∈ own.map (·.2))
    (hg : ∀ (s : Shared) (H : Hp) (C : Addr) (cl : List (Str × Addr)) (fp : List Addr), PG (X.blk s H scope (compEnvC scope cl C X.env) fp) tg (tG X.K f us)) (ht : ∀ (s : Shared) (H : Hp) (C : Addr) (cl : List (Str × Addr)) (fp : List Addr), PTs (X.blk s H scope (compEnvC scope cl C X.env) fp) ifs (tT X.K W0 cf))
    (he : ∀ (s : Shared) (H : Hp) (C : Addr) (cl : List (Str × Addr)) (fp : List Addr), PE (X.blk s H scope (compEnvC scope cl C X.env) fp) elt (tE X.K W0 fe)) (hs : ∀ x, foldedSetIterable iter X.env x = pure x := by intro _; rfl) :
    PS X (.Assign [.Name y py] (.ListComp elt [⟨tg, iter, ifs, 0⟩] scope pos) spos) (tS X.K W (sAsg (eComp m (own.map (·.2)) fi f cf fe) (fName i))) :=
  ps_up (ps_setLc hc hN hy hyl hsw hi ok hg ht he hs) fun D σ H h => by
    have h2 := sAsg_of (t := gName i) (vs := [i]) (fun v σ H Q ⟨F, env, ts, st, r, S, h⟩ => h (σ.set i (some v)) (List.length_set ..) (fun j hj => List.getElem?_set_ne fun e => hj (by rw [← e]; exact List.mem_cons_self ..)) (S.set i)) D σ H h
    obtain ⟨F, env, ts, st, S, h3⟩ := h2
    refine ⟨F, env, ts, st, S, (Post.bind h3).imp fun ds st1 _ h1 J t1 H1 S1 I D0 nD => ?_⟩
    obtain ⟨ι, O⟩ := S1
    by_cases hd : ds.length ≤ cap
    · rw [if_pos hd] at h1
      exact comp_run hus lk_nil (fun _ => lk_nil) O I hd nD h1
    · rw [if_neg hd] at h1; exact h1.elim
end
end DM
namespace DM
open PySem PySem.Spec PyProof.Rows L2
mutual
def D.pd : D → Option PyData
  | .non => some .none
  | .bl b => some (.bool b)
  | .int i => some (.int i)
  | .str s => some (.str s)
  | .lst ds => (D.pds ds).map .list
  | .tup ds => (D.pds ds).map .tuple
  | _ => none
def D.pds : List D → Option (List PyData)
  | [] => some []
  | d :: ds => (D.pd d).bind fun p => (D.pds ds).map fun q => p :: q
end
def Stx.pd (st : Stx) : RV → Option PyData
  | .val d => d.pd
  | .ptr n => match st.at' n with
    | some (.lst ds) => (D.pds ds).map .list
    | _ => none
section
variable {K : PySem.W.Frag} {P : Addr → Prop} {H : Hp}
mutual
theorem dp_of : ∀ {d : D} {p : PyData} {v : V}, D.pd d = some p → Vl K P H d v → Dp K H v p
  | .non, p, v, e, h => by unfold D.pd at e; cases e; cases (show v = _ from h); exact .non
  | .bl b, p, v, e, h => by unfold D.pd at e; cases e; cases (show v = _ from h); exact .bl b
  | .int i, p, v, e, h => by unfold D.pd at e; cases e; cases (show v = _ from h); exact .int i
  | .str s, p, v, e, h => by unfold D.pd at e; cases e; cases (show v = _ from h); exact .str s
  | .lst ds, p, v, e, h => by
    unfold D.pd at e
    obtain ⟨ps, e1, e2⟩ := Option.map_eq_some_iff.mp e
    subst e2
    obtain ⟨a, vs, rfl, la, _, q⟩ := h
    exact .lst la.sq (dps_of e1 q)
  | .tup ds, p, v, e, h => by
    unfold D.pd at e
    obtain ⟨ps, e1, e2⟩ := Option.map_eq_some_iff.mp e
    subst e2
    obtain ⟨a, vs, rfl, la, _, q⟩ := h
    exact .tup la.sq (dps_of e1 q)
  | .ty n, p, v, e, h => by simp only [D.pd] at e; cases e
  | .glb n, p, v, e, h => by simp only [D.pd] at e; cases e
  | .dct _ _, p, v, e, h => by simp only [D.pd] at e; cases e
  | .obj _ _ _, p, v, e, h => by simp only [D.pd] at e; cases e
  | .lsk _, p, v, e, h => by simp only [D.pd] at e; cases e
theorem dps_of : ∀ {ds : List D} {ps : List PyData} {vs : List V}, D.pds ds = some ps → Vls K P H ds vs → DpAll K H vs ps
  | [], ps, vs, e, h => by unfold D.pds at e; cases e; rw [show vs = [] from h]; exact .nil
  | d :: ds, ps, vs, e, h => by
    unfold D.pds at e
    obtain ⟨p, e1, e2⟩ := Option.bind_eq_some_iff.mp e
    obtain ⟨q, e3, e4⟩ := Option.map_eq_some_iff.mp e2
    subst e4
    obtain ⟨v, r, rfl, h1, h2⟩ := h
    exact .cons (dp_of e1 h1) (dps_of e3 h2)
end
end
section
variable {K : PySem.W.Frag} {W : WX} {F : Frm} {ι : Nat → Addr} {σ : L2.St} {env : Env} {ts : List (V × RV)} {st : Stx} {H : Hp} {v : V} {r : RV} {p : PyData}
theorem Ok.dp (O : Ok K F ι σ env ts st H) (h : RVl K (Pf F ι st) H ι st.nx r v) (e : st.pd r = some p) : Dp K H v p := by
  cases r with
  | val d => exact dp_of e h
  | ptr n =>
    simp only [Stx.pd] at e
    cases q : st.at' n with
    | none => rw [q] at e; cases e
    | some nd =>
      rw [q] at e
      cases nd with
      | lst ds =>
        obtain ⟨ps, e1, e2⟩ := Option.map_eq_some_iff.mp e
        subst e2
        obtain ⟨⟨vs, h1, _, h3⟩, _⟩ := O.node n _ q
        obtain ⟨_, rfl⟩ := h
        exact .lst (.inl (.inl h1)) (dps_of e1 h3)
      | dct _ _ _ => cases e
      | obj _ _ _ => cases e
/-- two pieces of data, sound for == -/
def pd2 (st : Stx) (x y : RV) : Option (PyData × PyData) := match st.pd x, st.pd y with
  | some d, some e => if (SeqAt.shaped d && SeqAt.shaped e) = true then some (d, e) else none
  | _, _ => none
theorem pd2_of {x y : V} {rx ry : RV} {d e : PyData} (O : Ok K F ι σ env ((y, ry) :: (x, rx) :: ts) st H) (h : pd2 st rx ry = some (d, e)) : Dp K H x d ∧ Dp K H y e ∧ SeqAt.shaped d = true ∧ SeqAt.shaped e = true := by
  unfold pd2 at h
  split at h
  · rename_i d' e' q1 q2
    by_cases q : (SeqAt.shaped d' && SeqAt.shaped e') = true
    · rw [if_pos q] at h
      cases h
      rw [Bool.and_eq_true] at q
      exact ⟨O.dp (O.tmp _ (List.mem_cons_of_mem _ (List.mem_cons_self ..))) q1, O.dp (O.tmp _ (List.mem_cons_self ..)) q2, q.1, q.2⟩
    · rw [if_neg q] at h; cases h
  · cases h
/-- dicts -/
def dhitF (ls : List Key) (ws : List D) : List Key → List D → Option Bool
  | k :: ks, d :: ds => match lookK ls ws k with
    | none => some false
    | some e => match D.pd d, D.pd e with
      | some p, some q => if (SeqAt.shaped p && SeqAt.shaped q) = true then (if PyData.eqv p q = true then dhitF ls ws ks ds else some false) else none
      | _, _ => none
  | _, _ => some true
end
theorem or2 {X : Cx} {f : Value → Value → Sem Value} {r1 r2 : R2} (h1 : OpR X f r1) (h2 : OpR X f r2) : OpR X f fun x y H Q => r1 x y H Q ∨ r2 x y H Q :=
  fun pins s σ H x y v u Q I rx ry h => h.elim (h1 pins s σ H x y v u Q I rx ry) (h2 pins s σ H x y v u Q I rx ry)
end DM
namespace DM
open PySem PySem.Spec PyProof.Rows L2
/-- a new list: held where it will change -/
def okL (m : Bool) (ds : List D) (st : Stx) : Rs RV := if ds.length ≤ cap then (if m = true then .ok (.ptr st.nx) (st.push (.lst ds)) else .ok (.val (.lst ds)) st) else .no
def okD (m : Bool) (ks : List Key) (ds : List D) (st : Stx) : Rs RV := if ks.length ≤ cap then (if m = true then .ok (.ptr st.nx) (st.push (.dct false ks ds)) else .ok (.val (.dct ks ds)) st) else .no
section
variable {K : PySem.W.Frag} {W : WX} {F : Frm} {ι : Nat → Addr} {σ : L2.St} {env : Env} {ts ts' ts0 : List (V × RV)} {st : Stx} {H H' : Hp} {v : V} {r : RV} {p : Addr} {ds es : List D} {vs : List V} {ks : List Key} {Q : VK} {m : Bool}
theorem Post.mkL (O : Ok K F ι σ env ts' st H) (s : L2.Same H H') (hs : ∀ t ∈ ts, t ∈ ts') (np : H p = none) (hp : H' p = some (.lst vs)) (h : Vls K (Pf F ι st) H ds vs) (hq : Post K W F σ env ts0 (okL m ds st) (okE K F σ env ts Q)) : Q (.ref p) H' := by
  unfold okL at hq
  by_cases hl : ds.length ≤ cap
  · rw [if_pos hl] at hq
    cases m with
    | true =>
      obtain ⟨ι', O'⟩ := O.alloc (nd := .lst ds) s np fun ι' e1 e2 k => ⟨vs, hp, hl, Vls.keep k _ _ h⟩
      exact hq _ _ ⟨ι', O'.tmps fun t m => (List.mem_cons.mp m).elim (fun e => e ▸ List.mem_cons_self ..) fun m => List.mem_cons_of_mem _ (hs t m)⟩
    | false =>
      have O' : Ok K F ι σ env ((.ref p, .val (.lst ds)) :: ts') st H' := (O.same s).push ⟨p, vs, rfl, .inl ⟨O.pn np, .inl hp⟩, hl, Vls.keep (Kp.same s) _ _ h⟩
      exact hq _ _ ⟨ι, O'.tmps fun t m => (List.mem_cons.mp m).elim (fun e => e ▸ List.mem_cons_self ..) fun m => List.mem_cons_of_mem _ (hs t m)⟩
  · rw [if_neg hl] at hq; exact hq.elim
theorem Post.mkD {kvs : List (Key × V)} (O : Ok K F ι σ env ts' st H) (s : L2.Same H H') (hs : ∀ t ∈ ts, t ∈ ts') (np : H p = none) (hp : H' p = some (.dK kvs)) (h : Vls K (Pf F ι st) H ds (kvs.map (·.2))) (e : kvs.map (·.1) = ks) (hn : ks.Nodup) (hq : Post K W F σ env ts0 (okD m ks ds st) (okE K F σ env ts Q)) : Q (.ref p) H' := by
  unfold okD at hq
  by_cases hl : ks.length ≤ cap
  · rw [if_pos hl] at hq
    cases m with
    | true =>
      obtain ⟨ι', O'⟩ := O.alloc (nd := .dct false ks ds) s np fun ι' e1 e2 k => ⟨kvs, hp, e, hn, hl, Vls.keep k _ _ h⟩
      exact hq _ _ ⟨ι', O'.tmps fun t m => (List.mem_cons.mp m).elim (fun e => e ▸ List.mem_cons_self ..) fun m => List.mem_cons_of_mem _ (hs t m)⟩
    | false =>
      have O' : Ok K F ι σ env ((.ref p, .val (.dct ks ds)) :: ts') st H' := (O.same s).push ⟨p, kvs, rfl, ⟨O.pn np, .inl hp⟩, e, hn, hl, Vls.keep (Kp.same s) _ _ h⟩
      exact hq _ _ ⟨ι, O'.tmps fun t m => (List.mem_cons.mp m).elim (fun e => e ▸ List.mem_cons_self ..) fun m => List.mem_cons_of_mem _ (hs t m)⟩
  · rw [if_neg hl] at hq; exact hq.elim
theorem Post.mkT (O : Ok K F ι σ env ts' st H) (s : L2.Same H H') (hs : ∀ t ∈ ts, t ∈ ts') (np : H p = none) (hp : H' p = some (.tup vs)) (hl : ds.length ≤ cap) (h : Vls K (Pf F ι st) H ds vs) (hq : Post K W F σ env ts0 (.ok (.val (.tup ds)) st) (okE K F σ env ts Q)) : Q (.ref p) H' := by
  have O' : Ok K F ι σ env ((.ref p, .val (.tup ds)) :: ts') st H' := (O.same s).push ⟨p, vs, rfl, .inl ⟨O.pn np, .inl hp⟩, hl, Vls.keep (Kp.same s) _ _ h⟩
  exact hq _ _ ⟨ι, O'.tmps fun t m => (List.mem_cons.mp m).elim (fun e => e ▸ List.mem_cons_self ..) fun m => List.mem_cons_of_mem _ (hs t m)⟩
/-- what stands already is given -/
theorem Post.here (O : Ok K F ι σ env ts' st H) (hs : ∀ t ∈ ts, t ∈ ts') (h : RVl K (Pf F ι st) H ι st.nx r v) (hq : Post K W F σ env ts0 (Rs.ok r st) (okE K F σ env ts Q)) : Q v H :=
  hq _ _ ⟨ι, (O.push h).tmps fun t m => (List.mem_cons.mp m).elim (fun e => e ▸ List.mem_cons_self ..) fun m => List.mem_cons_of_mem _ (hs t m)⟩
def Stx.tpl : RV → Option (List D) := Stx.tp
theorem Ok.tp (O : Ok K F ι σ env ts st H) (h : RVl K (Pf F ι st) H ι st.nx r v) (e : Stx.tp r = some ds) : ∃ a vs, v = .ref a ∧ SqT K H a vs ∧ ds.length ≤ cap ∧ Vls K (Pf F ι st) H ds vs := by
  cases r with
  | ptr n => cases e
  | val d =>
    cases d <;> try (cases e; done)
    cases e
    obtain ⟨a, vs, e1, la, l, q⟩ := h
    exact ⟨a, vs, e1, la.sq, l, q⟩
theorem capS : cap ≤ sizeLine := by rw [sizeLine_eq]; decide
theorem Ok.x1 {x y : V} {rx ry : RV} (O : Ok K F ι σ env ((y, ry) :: (x, rx) :: ts) st H) : RVl K (Pf F ι st) H ι st.nx rx x := O.tmp (x, rx) (List.mem_cons_of_mem _ (List.mem_cons_self ..))
theorem Ok.x2 {x y : V} {rx ry : RV} (O : Ok K F ι σ env ((y, ry) :: (x, rx) :: ts) st H) : RVl K (Pf F ι st) H ι st.nx ry y := O.tmp (y, ry) (List.mem_cons_self ..)
def oAdd (m : Bool) : O2 := fun x y st => match x, y with
  | .val (.int i), .val (.int j) => .ok (.val (.int (i + j))) st
  | .val (.str a), .val (.str b) => if a.length + b.length ≤ cap then .ok (.val (.str (a ++ b))) st else .no
  | .val (.tup xs), .val (.tup ys) => if xs.isEmpty = false ∧ xs.length + ys.length ≤ cap then .ok (.val (.tup (xs ++ ys))) st else .no
  | x, y => match st.ls x, st.ls y with
    | some xs, some ys => okL m (xs ++ ys) st
    | _, _ => .no
def rAdd (K : PySem.W.Frag) : R2 := fun x y H Q => (rI0 (fun i j => .int (i + j)) x y H Q ∨ (∃ i j, x = .str i ∧ y = .str j ∧ i.length + j.length ≤ sizeLine ∧ Q (.str (i ++ j)) H)) ∨ (rCatT K x y H Q ∨ M.nCatS K x y H Q)
theorem op_addU {X : Cx} : OpR X (binaryOp .Add) (rAdd X.K) := or2 (or2 op_add op_add_str) (or2 op_catT M.op_catS0)
theorem sem_addU : Sem2 K W (rAdd K) (oAdd m) := fun F σ env ts st H x y rx ry Q S h => by
  obtain ⟨ι, O⟩ := id S
  have hx := O.x1
  have hy := O.x2
  unfold oAdd at h
  split at h
  · rename_i i j
    cases (show x = .int i from hx)
    cases (show y = .int j from hy)
    exact .inl (.inl ⟨i, j, rfl, rfl, Post.flat (d := .int (i + j)) S rfl (fun t m => two _ _ m) h⟩)
  · rename_i a b
    cases (show x = .str a from hx)
    cases (show y = .str b from hy)
    by_cases q : a.length + b.length ≤ cap
    · rw [if_pos q] at h
      exact .inl (.inr ⟨a, b, rfl, rfl, Nat.le_trans q capS, Post.flat (d := .str (a ++ b)) S rfl (fun t m => two _ _ m) h⟩)
    · rw [if_neg q] at h; exact h.elim
  · rename_i xs ys
    by_cases q : xs.isEmpty = false ∧ xs.length + ys.length ≤ cap
    · rw [if_pos q] at h
      obtain ⟨a, vs, rfl, la, l, q1⟩ := hx
      obtain ⟨b, us, rfl, lb, l2, q2⟩ := hy
      have hl : (xs ++ ys).length ≤ cap := by rw [List.length_append]; exact q.2
      have hv := Vls.append q1 q2
      refine .inr (.inl ⟨a, b, vs, us, rfl, rfl, la.sq, lb.sq, ?_, ?_, ?_, ?_⟩)
      · intro e
        subst e
        have := q1.length
        cases xs with
        | nil => simp at q
        | cons z zs => simp at this
      · rw [q1.length, q2.length]; exact Nat.le_trans q.2 capS
      · intro e
        subst e
        have e2 : ys = [] := by have := q2.length; simpa using this.symm
        subst e2
        refine Post.here O (fun t m => two _ _ m) (v := .ref a) ?_ h
        rw [List.append_nil]
        exact ⟨a, vs, rfl, la, l, q1⟩
      · intro _ p np
        exact Post.mkT O (M.same_new np) (fun t m => two _ _ m) np upd_same hl hv h
    · rw [if_neg q] at h; exact h.elim
  · cases e1 : st.ls rx with
    | none => rw [e1] at h; exact h.elim
    | some xs =>
      cases e2 : st.ls ry with
      | none => rw [e1, e2] at h; exact h.elim
      | some ys =>
        rw [e1, e2] at h
        obtain ⟨a, vs, rfl, la, l, q1⟩ := O.ls hx e1
        obtain ⟨b, us, rfl, lb, l2, q2⟩ := O.ls hy e2
        refine .inr (.inr ⟨a, b, vs, us, rfl, rfl, la, lb, ?_, ?_⟩)
        · rw [q1.length, q2.length, sizeLine_eq]
          have : (cap : Nat) = 1000000 := rfl
          omega
        · intro p H' np hp s
          exact Post.mkL O s (fun t m => two _ _ m) np hp (Vls.append q1 q2) h
abbrev oSub : O2 := oI (fun i j => .int (i - j)) fun _ _ => true
def cMul (i j : Int) : Bool := decide ((Builtin.Int.intBits i : Int) + (Builtin.Int.intBits j : Int) ≤ 134217728)
def cDiv (i j : Int) : Bool := decide (0 < j) && decide (j.natAbs.log2 < 9000)
def cPow (i j : Int) : Bool := decide (0 ≤ j) && decide ((Builtin.Int.intBits i : Int) * j ≤ 134217728)
abbrev oMul : O2 := oI (fun i j => .int (i * j)) cMul
abbrev oDiv : O2 := oI (fun i j => .int (i / j)) cDiv
abbrev oMod : O2 := oI (fun i j => .int (i.fmod j)) fun _ j => decide (j ≠ 0)
abbrev oPow : O2 := oI (fun i j => .int (i ^ j.toNat)) cPow
theorem sem_sub : Sem2 K W (rI0 fun i j => .int (i - j)) oSub := sem_I0 (g := fun i j => D.int (i - j)) fun _ _ => rfl
theorem sem_mul : Sem2 K W (rI CMulX fun i j => .int (i * j)) oMul := sem_I (g := fun i j => D.int (i * j)) (fun _ _ => rfl) fun i j h => by unfold cMul at h; unfold CMulX; exact of_decide_eq_true h
theorem sem_div : Sem2 K W (rI CDivW fun i j => .int (i / j)) oDiv := sem_I (g := fun i j => D.int (i / j)) (fun _ _ => rfl) fun i j h => by
  unfold cDiv at h
  rw [Bool.and_eq_true] at h
  exact ⟨of_decide_eq_true h.1, of_decide_eq_true h.2⟩
theorem sem_mod : Sem2 K W (rI (fun _ j => j ≠ 0) fun i j => .int (i.fmod j)) oMod := sem_I (g := fun i j => D.int (i.fmod j)) (fun _ _ => rfl) fun i j h => of_decide_eq_true h
theorem sem_pow : Sem2 K W (rI M.CPowX fun i j => .int (i ^ j.toNat)) oPow := sem_I (g := fun i j => D.int (i ^ j.toNat)) (fun _ _ => rfl) fun i j h => by
  unfold cPow at h
  rw [Bool.and_eq_true] at h
  exact ⟨of_decide_eq_true h.1, of_decide_eq_true h.2⟩
def oOrd (g : Int → Int → Bool) (s : Str → Str → Bool) : O2 := fun x y st => match x, y with
  | .val (.int i), .val (.int j) => .ok (.val (.bl (g i j))) st
  | .val (.str i), .val (.str j) => .ok (.val (.bl (s i j))) st
  | _, _ => .no
theorem sem_ord {g : Int → Int → Bool} {s : Str → Str → Bool} : Sem2 K W (fun x y H Q => rI0 (fun i j => .bl (g i j)) x y H Q ∨ ∃ i j, x = .str i ∧ y = .str j ∧ Q (.bl (s i j)) H) (oOrd g s) := fun F σ env ts st H x y rx ry Q S h => by
  obtain ⟨ι, O⟩ := id S
  have hx := O.x1
  have hy := O.x2
  unfold oOrd at h
  split at h
  · rename_i i j
    cases (show x = .int i from hx)
    cases (show y = .int j from hy)
    exact .inl ⟨i, j, rfl, rfl, Post.flat (d := .bl (g i j)) S rfl (fun t m => two _ _ m) h⟩
  · rename_i i j
    cases (show x = .str i from hx)
    cases (show y = .str j from hy)
    exact .inr ⟨i, j, rfl, rfl, Post.flat (d := .bl (s i j)) S rfl (fun t m => two _ _ m) h⟩
  · exact h.elim
theorem op_ltU {X : Cx} : OpR X (compareOp .Lt) (fun x y H Q => rI0 (fun i j => .bl (decide (i < j))) x y H Q ∨ ∃ i j, x = .str i ∧ y = .str j ∧ Q (.bl (decide (i.cps.toList < j.cps.toList))) H) := or2 op_lt op_lt_str
abbrev oLt : O2 := oOrd (fun i j => decide (i < j)) fun i j => decide (i.cps.toList < j.cps.toList)
abbrev oLe : O2 := oI (fun i j => .bl (decide (i ≤ j))) fun _ _ => true
abbrev oGt : O2 := oI (fun i j => .bl (decide (j < i))) fun _ _ => true
abbrev oGe : O2 := oI (fun i j => .bl (decide (j ≤ i))) fun _ _ => true
theorem sem_le : Sem2 K W (rI0 fun i j => .bl (decide (i ≤ j))) oLe := sem_I0 (g := fun i j => D.bl (decide (i ≤ j))) fun _ _ => rfl
theorem sem_gt : Sem2 K W (rI0 fun i j => .bl (decide (j < i))) oGt := sem_I0 (g := fun i j => D.bl (decide (j < i))) fun _ _ => rfl
theorem sem_ge : Sem2 K W (rI0 fun i j => .bl (decide (j ≤ i))) oGe := sem_I0 (g := fun i j => D.bl (decide (j ≤ i))) fun _ _ => rfl
def isNon : RV → Bool
  | .val .non => true
  | _ => false
def oIsN (neg : Bool) : O2 := fun x y st => match y with
  | .val .non => .ok (.val (.bl (if neg then !isNon x else isNon x))) st
  | _ => .no
theorem isNon_v {P : Addr → Prop} {ι : Nat → Addr} {nx : Nat} (h : RVl K P H ι nx r v) : decide (v = .non) = isNon r := by
  cases r with
  | ptr n => obtain ⟨_, rfl⟩ := h; rfl
  | val d =>
    cases d with
    | non => cases (show v = .non from h); rfl
    | bl b => cases (show v = _ from h); rfl
    | int b => cases (show v = _ from h); rfl
    | str b => cases (show v = _ from h); rfl
    | ty b => cases (show v = _ from h); rfl
    | glb b => cases (show v = _ from h); rfl
    | lst ds => obtain ⟨a, _, rfl, _⟩ := h; rfl
    | tup ds => obtain ⟨a, _, rfl, _⟩ := h; rfl
    | dct ks ds => obtain ⟨a, _, rfl, _⟩ := h; rfl
    | obj C ns ds => obtain ⟨a, _, _, rfl, _⟩ := h; rfl
    | lsk ds => obtain ⟨a, _, rfl, _⟩ := h; rfl
theorem sem_isN : Sem2 K W (fun x y H Q => y = .non ∧ Q (.bl (decide (x = .non))) H) (oIsN false) := fun F σ env ts st H x y rx ry Q S h => by
  obtain ⟨ι, O⟩ := id S
  unfold oIsN at h
  split at h
  · refine ⟨O.x2, ?_⟩
    rw [isNon_v O.x1]
    exact Post.flat (d := .bl (isNon rx)) S rfl (fun t m => two _ _ m) h
  · exact h.elim
theorem sem_notN : Sem2 K W (fun x y H Q => y = .non ∧ Q (.bl (!decide (x = .non))) H) (oIsN true) := fun F σ env ts st H x y rx ry Q S h => by
  obtain ⟨ι, O⟩ := id S
  unfold oIsN at h
  split at h
  · refine ⟨O.x2, ?_⟩
    rw [isNon_v O.x1]
    exact Post.flat (d := .bl (!isNon rx)) S rfl (fun t m => two _ _ m) h
  · exact h.elim
def oIsB : O2 := fun x y st => match x, y with
  | .val (.bl a), .val (.bl b) => .ok (.val (.bl (decide (a = b)))) st
  | _, _ => .no
theorem sem_isB : Sem2 K W rIsB oIsB := fun F σ env ts st H x y rx ry Q S h => by
  obtain ⟨ι, O⟩ := id S
  have hx := O.x1
  have hy := O.x2
  unfold oIsB at h
  split at h
  · rename_i i j
    cases (show x = .bl i from hx)
    cases (show y = .bl j from hy)
    exact ⟨i, j, rfl, rfl, Post.flat (d := .bl (decide (i = j))) S rfl (fun t m => two _ _ m) h⟩
  · exact h.elim
def dhitF' (ls : List Key) (ws : List D) : List Key → List D → Option Bool
  | k :: ks, d :: ds => match lookK ls ws k with
    | none => some false
    | some e => match D.pd d, D.pd e with
      | some p, some q => if (SeqAt.shaped p && SeqAt.shaped q) = true then (dhitF' ls ws ks ds).map fun b => PyData.eqv p q && b else none
      | _, _ => none
  | _, _ => some true
def oEq (neg : Bool) : O2 := fun x y st => match pd2 st x y with
  | some (d, e) => .ok (.val (.bl (if neg then !PyData.eqv d e else PyData.eqv d e))) st
  | none => match st.dc x, st.dc y with
    | some (ks, ds), some (ls, ws) => match dhitF' ls ws ks ds with
      | some b => .ok (.val (.bl (if neg then !(ks.length == ls.length && b) else (ks.length == ls.length && b)))) st
      | none => .no
    | _, _ => .no
theorem dhits_of {P : Addr → Prop} {ws : List D} {ls : List (Key × V)} (hw : Vls K P H ws (ls.map (·.2))) : ∀ {ks : List (Key × V)} {ds : List D} {b : Bool}, Vls K P H ds (ks.map (·.2)) → dhitF' (ls.map (·.1)) ws (ks.map (·.1)) ds = some b → M.DHits K H ls ks b
  | [], ds, b, h, e => by
    simp only [List.map_nil, dhitF'] at e
    cases e; exact .nil
  | (k, v) :: ks, [], b, h, e => by have := h.length; simp at this
  | (k, v) :: ks, d :: ds, b, h, e => by
    obtain ⟨v', r, q, h1, h2⟩ := h
    rw [List.map_cons] at q e
    injection q with e1 e2
    subst e1 e2
    unfold dhitF' at e
    rcases look_v (H := H) (kvs := ls) k hw with ⟨l1, l2⟩ | ⟨z, u, l1, l2, l3⟩
    · simp only [l1] at e
      cases e
      exact .miss l2
    · simp only [l1] at e
      cases q1 : D.pd d with
      | none => simp only [q1] at e; cases e
      | some p =>
        cases q2 : D.pd z with
        | none => simp only [q1, q2] at e; cases e
        | some q =>
          simp only [q1, q2] at e
          by_cases sq : (SeqAt.shaped p && SeqAt.shaped q) = true
          · rw [if_pos sq] at e
            obtain ⟨c, e3, e4⟩ := Option.map_eq_some_iff.mp e
            subst e4
            rw [Bool.and_eq_true] at sq
            exact .hit l2 (dp_of q1 h1) (dp_of q2 l3) sq.1 sq.2 (dhits_of hw h2 e3)
          · rw [if_neg sq] at e; cases e
def rEqU (K : PySem.W.Frag) : R2 := fun x y H Q => rEqD K x y H Q ∨ M.rEqDD K false x y H Q
def rNeU (K : PySem.W.Frag) : R2 := fun x y H Q => rNeD K x y H Q ∨ M.rEqDD K true x y H Q
theorem op_eqU {X : Cx} {k : Nat} (hr : Room k X.A) : OpR X (compareOp .Eq) (rEqU X.K) := or2 (op_eqD (by have := hr.un; omega)) (M.op_eqDD rfl (M.hu66 hr))
theorem op_neU {X : Cx} {k : Nat} (hr : Room k X.A) : OpR X (compareOp .NotEq) (rNeU X.K) := or2 (op_neD (by have := hr.un; omega)) (M.op_neDD rfl (M.hu66 hr))
theorem sem_eq : Sem2 K W (rEqU K) (oEq false) := fun F σ env ts st H x y rx ry Q S h => by
  obtain ⟨ι, O⟩ := id S
  unfold oEq at h
  cases q : pd2 st rx ry with
  | some de =>
    obtain ⟨d, e⟩ := de
    rw [q] at h
    obtain ⟨h1, h2, h3, h4⟩ := pd2_of O q
    exact .inl ⟨d, e, h1, h2, h3, h4, Post.flat (d := .bl (PyData.eqv d e)) S rfl (fun t m => two _ _ m) h⟩
  | none =>
    rw [q] at h
    simp only at h
    split at h
    · rename_i ks ds ls ws q1 q2
      obtain ⟨a, kvs, rfl, ra, e1, n1, l1, v1⟩ := O.dc O.x1 q1
      obtain ⟨b, lvs, rfl, rb, e2, n2, l2, v2⟩ := O.dc O.x2 q2
      split at h
      · rename_i c q3
        subst e1 e2
        refine .inr ⟨a, b, kvs, lvs, c, rfl, rfl, ra, rb, dhits_of v2 v1 q3, ?_⟩
        simp only [List.length_map] at h
        exact Post.flat (d := .bl (kvs.length == lvs.length && c)) S rfl (fun t m => two _ _ m) h
      · exact h.elim
    · exact h.elim
theorem sem_ne : Sem2 K W (rNeU K) (oEq true) := fun F σ env ts st H x y rx ry Q S h => by
  obtain ⟨ι, O⟩ := id S
  unfold oEq at h
  cases q : pd2 st rx ry with
  | some de =>
    obtain ⟨d, e⟩ := de
    rw [q] at h
    obtain ⟨h1, h2, h3, h4⟩ := pd2_of O q
    exact .inl ⟨d, e, h1, h2, h3, h4, Post.flat (d := .bl (!PyData.eqv d e)) S rfl (fun t m => two _ _ m) h⟩
  | none =>
    rw [q] at h
    simp only at h
    split at h
    · rename_i ks ds ls ws q1 q2
      obtain ⟨a, kvs, rfl, ra, e1, n1, l1, v1⟩ := O.dc O.x1 q1
      obtain ⟨b, lvs, rfl, rb, e2, n2, l2, v2⟩ := O.dc O.x2 q2
      split at h
      · rename_i c q3
        subst e1 e2
        refine .inr ⟨a, b, kvs, lvs, c, rfl, rfl, ra, rb, dhits_of v2 v1 q3, ?_⟩
        simp only [List.length_map] at h
        exact Post.flat (d := .bl (!(kvs.length == lvs.length && c))) S rfl (fun t m => two _ _ m) h
      · exact h.elim
    · exact h.elim
end
end DM
namespace DM
open PySem PySem.Spec PyProof.Rows L2
theorem hu1 {k : Nat} {A : Around} (hr : Room k A) : A.units + 1 < cLine := by have := hr.un; omega
theorem ix2 {X : Cx} {r1 r2 : R2} (h1 : IxR X r1) (h2 : IxR X r2) : IxR X fun x y H Q => r1 x y H Q ∨ r2 x y H Q :=
  fun va sl pins s σ H x y v u Q I rx ry h => h.elim (h1 va sl pins s σ H x y v u Q I rx ry) (h2 va sl pins s σ H x y v u Q I rx ry)
theorem ps2 {X : Cx} {r1 r2 : TSet} (h1 : PSet X r1) (h2 : PSet X r2) : PSet X fun x y v H Q => r1 x y v H Q ∨ r2 x y v H Q :=
  fun pins s σ H o i v ov iv u Q I ro ri rv h => h.elim (h1 pins s σ H o i v ov iv u Q I ro ri rv) (h2 pins s σ H o i v ov iv u Q I ro ri rv)
theorem sl2 {X : Cx} {r1 r2 : V → Option Int → Option Int → Hp → VK → Prop} (h1 : SlR X r1) (h2 : SlR X r2) : SlR X fun x lo hi H Q => r1 x lo hi H Q ∨ r2 x lo hi H Q :=
  fun pins s σ H x v vl vu lo hi sl Q I rx a b c h => h.elim (h1 pins s σ H x v vl vu lo hi sl Q I rx a b c) (h2 pins s σ H x v vl vu lo hi sl Q I rx a b c)
def rIxD : R2 := fun x y H Q => ∃ a v, x = .ref a ∧ DGet H a y (some v) ∧ Q v H
theorem ix_dict {X : Cx} {k : Nat} (hr : Room k X.A) : IxR X rIxD := fun va sl pins s σ H x y v u Q I rx ry h hs => by
  obtain ⟨a, w, rfl, g, q⟩ := h
  cases (show v = Value.ref a from rx)
  exact tail_any (dict_typeIs I g) PySem.F.slot_dict_getitem.lookup (d_getItem (hu1 hr) I g ry fun w' s' I' rw' => ⟨w, H, I', rw', q⟩) hs
def rInDc (neg : Bool) : R2 := fun y x H Q => ∃ a o, x = .ref a ∧ DGet H a y o ∧ Q (.bl (if neg then !o.isSome else o.isSome)) H
theorem op_inDc {X : Cx} {k : Nat} (hr : Room k X.A) : OpR X (compareOp .In) (rInDc false) := fun pins s σ H x y v u Q I rx ry h => by
  obtain ⟨a, o, rfl, g, q⟩ := h
  cases (show u = Value.ref a from ry)
  exact d_in (hu1 hr) I g rx fun s' I' => ⟨.bl o.isSome, H, I', rfl, q⟩
theorem op_ninDc {X : Cx} {k : Nat} (hr : Room k X.A) : OpR X (compareOp .NotIn) (rInDc true) := fun pins s σ H x y v u Q I rx ry h => by
  obtain ⟨a, o, rfl, g, q⟩ := h
  cases (show u = Value.ref a from ry)
  exact d_notIn (hu1 hr) I g rx fun s' I' => ⟨.bl (!o.isSome), H, I', rfl, q⟩
def rIxU (K : PySem.W.Frag) : R2 := fun x y H Q => (rIxL K x y H Q ∨ rIxT K x y H Q) ∨ (rIxS x y H Q ∨ rIxD x y H Q)
theorem ixU {X : Cx} {k : Nat} (hr : Room k X.A) : IxR X (rIxU X.K) := ix2 (ix2 ix_list (M.ixTK rfl)) (ix2 ix_str (ix_dict hr))
def oIx : O2 := fun x y st => match x, y with
  | .val (.tup ds), .val (.int i) => match atI ds i with | some d => .ok (.val d) st | none => .no
  | .val (.str z), .val (.int i) => if z.length ≤ cap then (match atI z.cps.toList i with | some c => .ok (.val (.str ⟨#[c]⟩)) st | none => .no) else .no
  | x, y => match st.ls x, y with
    | some ds, .val (.int i) => match atI ds i with | some d => .ok (.val d) st | none => .no
    | _, _ => match st.dc x, keyOf y with
      | some (ks, ds), some k => match lookK ks ds k with | some d => .ok (.val d) st | none => .no
      | _, _ => .no
section
variable {K : PySem.W.Frag} {W : WX} {F : Frm} {ι : Nat → Addr} {σ : L2.St} {env : Env} {ts ts' : List (V × RV)} {st : Stx} {H H' : Hp} {v : V} {r : RV} {p : Addr} {ds es : List D} {vs : List V} {ks : List Key} {Q : VK} {m : Bool} {P : Addr → Prop}
theorem Vls.atI {i : Int} {d : D} (h : Vls K P H ds vs) (e : L2.atI ds i = some d) : ∃ v, L2.atI vs i = some v ∧ Vl K P H d v := by
  unfold L2.atI at e ⊢
  rw [h.length]
  obtain ⟨j, h1, h2⟩ := Option.bind_eq_some_iff.mp e
  rw [h1]
  exact h.get h2
theorem Ok.dget {rk : RV} {k : Key} {x y : V} (O : Ok K F ι σ env ts st H) (hx : RVl K (Pf F ι st) H ι st.nx r x) (e : st.dc r = some (ks, ds)) (hk : keyOf rk = some k) (hy : RVl K (Pf F ι st) H ι st.nx rk y) :
    ∃ a, x = .ref a ∧ ((lookK ks ds k = none ∧ DGet H a y none) ∨ ∃ d v, lookK ks ds k = some d ∧ DGet H a y (some v) ∧ Vl K (Pf F ι st) H d v) := by
  obtain ⟨a, kvs, rfl, ra, e1, n1, l1, v1⟩ := O.dc hx e
  have ey : y = kV k := keyOf_v hk hy
  subst e1
  refine ⟨a, rfl, ?_⟩
  rcases look_v (H := H) (kvs := kvs) k v1 with ⟨a1, a2⟩ | ⟨d, v, a1, a2, a3⟩
  · exact .inl ⟨a1, .inl ⟨kvs, k, ra, ey, a2.symm⟩⟩
  · exact .inr ⟨d, v, a1, .inl ⟨kvs, k, ra, ey, a2.symm⟩, a3⟩
theorem sem_ix : Sem2 K W (rIxU K) oIx := fun F σ env ts st H x y rx ry Q S h => by
  obtain ⟨ι, O⟩ := id S
  have hx := O.x1
  have hy := O.x2
  unfold oIx at h
  split at h
  · rename_i ds i
    cases (show y = .int i from hy)
    obtain ⟨a, vs, rfl, la, l, q1⟩ := hx
    split at h
    · rename_i d hd
      obtain ⟨v, h1, h2⟩ := q1.atI hd
      exact .inl (.inr ⟨a, vs, i, v, rfl, rfl, la.sq, h1, Post.here O (fun t m => two _ _ m) (r := .val d) h2 h⟩)
    · exact h.elim
  · rename_i z i
    cases (show y = .int i from hy)
    cases (show x = .str z from hx)
    by_cases q : z.length ≤ cap
    · rw [if_pos q] at h
      split at h
      · rename_i c hc
        exact .inr (.inl ⟨z, i, c, rfl, rfl, Nat.le_trans q capS, hc, Post.flat (d := .str ⟨#[c]⟩) S rfl (fun t m => two _ _ m) h⟩)
      · exact h.elim
    · rw [if_neg q] at h; exact h.elim
  · split at h
    · rename_i ds i e1 _ _
      cases (show y = .int i from hy)
      obtain ⟨a, vs, rfl, la, l, q1⟩ := O.ls hx e1
      split at h
      · rename_i d hd
        obtain ⟨v, h1, h2⟩ := q1.atI hd
        exact .inl (.inl ⟨a, vs, i, v, rfl, rfl, la, h1, Post.here O (fun t m => two _ _ m) (r := .val d) h2 h⟩)
      · exact h.elim
    · split at h
      · rename_i ks ds k e2 e3
        obtain ⟨a, rfl, g⟩ := O.dget hx e2 e3 hy
        split at h
        · rename_i d hd
          rcases g with ⟨g1, _⟩ | ⟨d', v, g1, g2, g3⟩
          · rw [g1] at hd; cases hd
          · rw [g1] at hd
            cases hd
            exact .inr (.inr ⟨a, v, rfl, g2, Post.here O (fun t m => two _ _ m) (r := .val d) g3 h⟩)
        · exact h.elim
      · exact h.elim
def flatD : D → Bool
  | .non | .bl _ | .int _ | .str _ => true
  | _ => false
def eqD : D → D → Bool
  | .non, .non => true
  | .bl a, .bl b => a == b
  | .bl a, .int j => (if a then 1 else 0) == j
  | .int i, .bl b => i == (if b then 1 else 0)
  | .int i, .int j => i == j
  | .str a, .str b => a == b
  | _, _ => false
def oIn (neg : Bool) : O2 := fun x y st => match y with
  | .val (.str j) => match x with
    | .val (.str i) => .ok (.val (.bl (if neg then !(!(Builtin.Str.occurrences j i 0 j.length 1).isEmpty) else !(Builtin.Str.occurrences j i 0 j.length 1).isEmpty))) st
    | _ => .no
  | .val (.tup ds) => match x with
    | .val d => if flatD d = true ∧ ds.all flatD = true then .ok (.val (.bl (if neg then !(ds.any fun y => eqD y d) else ds.any fun y => eqD y d))) st else .no
    | _ => .no
  | y => match st.dc y, keyOf x with
    | some (ks, ds), some k => .ok (.val (.bl (if neg then !(lookK ks ds k).isSome else (lookK ks ds k).isSome))) st
    | _, _ => match st.ls y, x with
      | some ds, .val d => match D.pds ds, D.pd d with
        | some qs, some p => if (SeqAt.shaped p && SeqAt.shaped (.list qs)) = true then .ok (.val (.bl (if neg then !(qs.any fun z => PyData.eqv z p) else qs.any fun z => PyData.eqv z p))) st else .no
        | _, _ => .no
      | _, _ => .no
theorem flatD_v {d : D} {x : V} (hf : flatD d = true) (h : Vl K P H d x) : x = d.v ∧ flatV x = true := by
  cases d <;> try (simp [flatD] at hf; done)
  all_goals (cases (show x = _ from h); exact ⟨rfl, rfl⟩)
theorem flatD_vs : ∀ {ds : List D} {vs : List V}, ds.all flatD = true → Vls K P H ds vs → vs = ds.map D.v ∧ vs.all flatV = true
  | [], vs, _, h => by rw [show vs = [] from h]; exact ⟨rfl, rfl⟩
  | d :: ds, vs, hf, h => by
    obtain ⟨v, r, rfl, h1, h2⟩ := h
    rw [List.all_cons, Bool.and_eq_true] at hf
    obtain ⟨a1, a2⟩ := flatD_v hf.1 h1
    obtain ⟨b1, b2⟩ := flatD_vs hf.2 h2
    exact ⟨by rw [List.map_cons, ← a1, ← b1], by rw [List.all_cons, a2, b2]; rfl⟩
theorem eqD_v {d e : D} (hd : flatD d = true) (he : flatD e = true) : eqV e.v d.v = eqD e d := by
  cases d <;> try (simp [flatD] at hd; done)
  all_goals (cases e <;> first | (simp [flatD] at he; done) | rfl)
theorem inD_v {d : D} {ds : List D} (hd : flatD d = true) (hs : ds.all flatD = true) : inV d.v (ds.map D.v) = ds.any fun y => eqD y d := by
  unfold inV
  rw [List.any_map]
  rw [List.all_eq_true] at hs
  induction ds with
  | nil => rfl
  | cons e es ih =>
    rw [List.any_cons, List.any_cons, ih fun x m => hs x (List.mem_cons_of_mem _ m)]
    show (eqV e.v d.v || _) = _
    rw [eqD_v hd (hs e (List.mem_cons_self ..))]
def rStrIn (neg : Bool) : R2 := fun x y H Q => ∃ i j, x = .str i ∧ y = .str j ∧ Q (.bl (if neg then !(!(Builtin.Str.occurrences j i 0 j.length 1).isEmpty) else !(Builtin.Str.occurrences j i 0 j.length 1).isEmpty)) H
def rInDn (K : PySem.W.Frag) (neg : Bool) : R2 := fun x y H Q => ∃ d ds, Dp K H x d ∧ Dp K H y (PyData.list ds) ∧ SeqAt.shaped d = true ∧ SeqAt.shaped (PyData.list ds) = true ∧ Q (V.bl (if neg then !(ds.any fun z => z.eqv d) else ds.any fun z => z.eqv d)) H
def rInU (K : PySem.W.Frag) (neg : Bool) : R2 := fun x y H Q => (rStrIn neg x y H Q ∨ rIn K neg x y H Q) ∨ (rInDc neg x y H Q ∨ rInDn K neg x y H Q)
theorem op_inU {X : Cx} {k : Nat} (hr : Room k X.A) : OpR X (compareOp .In) (rInU X.K false) := or2 (or2 op_in_str op_in_seq) (or2 (op_inDc hr) (op_inD (by have := hr.un; omega)))
theorem op_ninU {X : Cx} {k : Nat} (hr : Room k X.A) : OpR X (compareOp .NotIn) (rInU X.K true) := or2 (or2 op_notin_str op_notIn_seq) (or2 (op_ninDc hr) (op_notInD (by have := hr.un; omega)))
theorem sem_in {neg : Bool} : Sem2 K W (rInU K neg) (oIn neg) := fun F σ env ts st H x y rx ry Q S h => by
  obtain ⟨ι, O⟩ := id S
  have hx := O.x1
  have hy := O.x2
  unfold oIn at h
  split at h
  · rename_i j
    split at h
    · rename_i i
      cases (show x = .str i from hx)
      cases (show y = .str j from hy)
      exact .inl (.inl ⟨i, j, rfl, rfl, Post.flat (d := .bl _) S rfl (fun t m => two _ _ m) h⟩)
    · exact h.elim
  · rename_i ds
    split at h
    · rename_i d
      by_cases q : flatD d = true ∧ ds.all flatD = true
      · rw [if_pos q] at h
        obtain ⟨a, vs, rfl, la, l, q1⟩ := hy
        obtain ⟨rfl, f1⟩ := flatD_v q.1 hx
        obtain ⟨rfl, f2⟩ := flatD_vs q.2 q1
        refine .inl (.inr ⟨a, _, rfl, .inr la.sq, f1, f2, ?_⟩)
        rw [inD_v q.1 q.2]
        exact Post.flat (d := .bl _) S rfl (fun t m => two _ _ m) h
      · rw [if_neg q] at h; exact h.elim
    · exact h.elim
  · split at h
    · rename_i ks ds k e2 e3
      obtain ⟨a, rfl, g⟩ := O.dget hy e2 e3 hx
      rcases g with ⟨g1, g2⟩ | ⟨d', v, g1, g2, g3⟩
      · refine .inr (.inl ⟨a, none, rfl, g2, ?_⟩)
        rw [g1] at h
        exact Post.flat (d := .bl _) S rfl (fun t m => two _ _ m) h
      · refine .inr (.inl ⟨a, some v, rfl, g2, ?_⟩)
        rw [g1] at h
        exact Post.flat (d := .bl _) S rfl (fun t m => two _ _ m) h
    · split at h
      · rename_i ds d e1 _
        split at h
        · rename_i qs p e4 e5
          by_cases q : (SeqAt.shaped p && SeqAt.shaped (.list qs)) = true
          · rw [if_pos q] at h
            rw [Bool.and_eq_true] at q
            obtain ⟨b, us, rfl, lb, l2, q2⟩ := O.ls hy e1
            exact .inr (.inr ⟨p, qs, dp_of e5 hx, .lst lb (dps_of e4 q2), q.1, q.2, Post.flat (d := .bl _) S rfl (fun t m => two _ _ m) h⟩)
          · rw [if_neg q] at h; exact h.elim
        · exact h.elim
      · exact h.elim
end
abbrev PF := Env → Stx → Rs (Option Int)
def tP (K : PySem.W.Frag) (W : WX) (f : PF) : TO := fun σ H Q => ∃ F env ts st, StOk K F σ env ts st H ∧ Post K W F σ env ts (f env st) fun o st' => ∀ H', StOk K F σ env ts st' H' → Q o H'
def pNo : PF := fun _ st => .ok none st
def pIn (fe : EF) : PF := fun env st => (fe env st).bind fun r st1 => match r with | .val (.int i) => .ok (some i) st1 | _ => .no
def cutD (ds : List D) (lo hi : Option Int) : List D := (ds.drop (HT.sIx ds.length 0 lo)).take (HT.sIx ds.length ds.length hi - HT.sIx ds.length 0 lo)
def oSl (m : Bool) (x : RV) (lo hi : Option Int) (st : Stx) : Rs RV := match x with
  | .val (.str z) => if z.length ≤ cap then .ok (.val (.str (cutS z lo hi))) st else .no
  | .val (.tup ds) => if ¬(HT.sIx ds.length 0 lo = 0 ∧ HT.sIx ds.length ds.length hi = ds.length) then .ok (.val (.tup (cutD ds lo hi))) st else .no
  | x => match st.ls x with
    | some ds => okL m (cutD ds lo hi) st
    | none => .no
def eSl (m : Bool) (fe : EF) (fl fh : PF) : EF := fun env st => (fe env st).bind fun x st1 => (fl env st1).bind fun l st2 => (fh env st2).bind fun u st3 => oSl m x l u st3
def rSlU (K : PySem.W.Frag) : V → Option Int → Option Int → Hp → VK → Prop := fun x lo hi H Q => (rSlS x lo hi H Q ∨ rSlT K x lo hi H Q) ∨ rSlL K x lo hi H Q
section
variable {K : PySem.W.Frag} {W : WX} {F : Frm} {ι : Nat → Addr} {σ : L2.St} {env : Env} {ts ts' : List (V × RV)} {st : Stx} {H H' : Hp} {v : V} {r : RV} {p : Addr} {ds es : List D} {vs : List V} {ks : List Key} {Q : VK} {m : Bool} {P : Addr → Prop} {X : Cx} {e : Expr} {fe : EF} {fl fh : PF}
theorem po_up {e : Option Expr} {t u : TO} (h : PO X e t) (i : ∀ σ H Q, u σ H Q → t σ H Q) : PO X e u := ⟨fun pins s σ H Q I hw => h.run pins s σ H Q I (i σ H Q hw)⟩
theorem dp_no : PO X none (tP X.K W pNo) := po_up po_none fun σ H Q ⟨F, env, ts, st, S, h⟩ => h H S
theorem dp_in (he : PE X e (tE X.K W fe)) : PO X (some e) (tP X.K W (pIn fe)) := po_up (po_some he) fun σ H Q ⟨F, env, ts, st, S, h⟩ => tE.go S h fun r st1 v H1 S1 h1 => by
  split at h1
  · rename_i i
    obtain ⟨ι, O⟩ := id S1
    exact ⟨i, O.tmp _ (List.mem_cons_self ..), h1 H1 S1.pop⟩
  · exact h1.elim
theorem cut_vls {lo hi : Option Int} (h : Vls K P H ds vs) : Vls K P H (cutD ds lo hi) (cutV vs lo hi) := by
  unfold cutD cutV
  rw [h.length]
  exact Vls.take _ (Vls.drop _ h)
theorem cut_len {lo hi : Option Int} : (cutD ds lo hi).length ≤ ds.length := by
  unfold cutD
  rw [List.length_take, List.length_drop]
  omega
theorem sem_sl {x : V} {rx : RV} {lo hi : Option Int} (O : Ok K F ι σ env ((x, rx) :: ts) st H) (h : Post K W F σ env ((x, rx) :: ts) (oSl m rx lo hi st) (okE K F σ env ts Q)) : rSlU K x lo hi H Q := by
  have hx := O.tmp (x, rx) (List.mem_cons_self ..)
  unfold oSl at h
  split at h
  · rename_i z
    cases (show x = .str z from hx)
    by_cases q : z.length ≤ cap
    · rw [if_pos q] at h
      exact .inl (.inl ⟨z, rfl, Nat.le_trans q capS, Post.flat (d := .str _) ⟨ι, O⟩ rfl (fun t m => List.mem_cons_of_mem _ m) h⟩)
    · rw [if_neg q] at h; exact h.elim
  · rename_i ds
    by_cases q : ¬(HT.sIx ds.length 0 lo = 0 ∧ HT.sIx ds.length ds.length hi = ds.length)
    · rw [if_pos q] at h
      obtain ⟨a, vs, rfl, la, l, q1⟩ := hx
      refine .inl (.inr ⟨a, vs, rfl, la.sq, by rw [q1.length]; exact q, fun p np => ?_⟩)
      exact Post.mkT O (M.same_new np) (fun t m => List.mem_cons_of_mem _ m) np upd_same (Nat.le_trans cut_len l) (cut_vls q1) h
    · rw [if_neg q] at h; exact h.elim
  · split at h
    · rename_i ds e1
      obtain ⟨a, vs, rfl, la, l, q1⟩ := O.ls hx e1
      refine .inr ⟨a, vs, rfl, la, fun p np => ?_⟩
      exact Post.mkL O (M.same_new np) (fun t m => List.mem_cons_of_mem _ m) np upd_same (cut_vls q1) h
    · exact h.elim
theorem d_slice {lo hi : Option Expr} {pos p2 : Pos} (m : Bool) (he : PE X e (tE X.K W fe)) (hl : PO X lo (tP X.K W fl)) (hh : PO X hi (tP X.K W fh)) : PE X (.Subscript e (.Slice lo hi none p2) pos) (tE X.K W (eSl m fe fl fh)) :=
  pe_up (pe_slice (sl2 (sl2 sl_str (M.slTK rfl)) (M.slLK rfl)) he hl hh) fun σ H Q ⟨F, env, ts, st, S, h⟩ => tE.go S h fun rx st1 x H1 S1 h1 => by
    refine ⟨F, env, _, st1, S1, (Post.bind h1).imp fun l st2 _ h2 H2 S2 => ?_⟩
    refine ⟨F, env, _, st2, S2, (Post.bind h2).imp fun u st3 _ h3 H3 S3 => ?_⟩
    obtain ⟨ι, O⟩ := S3
    exact sem_sl O h3
theorem d_ix {a b : Expr} {fa fb : EF} {pos : Pos} {k : Nat} (hr : Room k X.A) (ha : PE X a (tE X.K W fa)) (hb : PE X b (tE X.K W fb)) (hs : PlainIx b := by exact fun _ _ => rfl) : PE X (.Subscript a b pos) (tE X.K W (eOp oIx fa fb)) :=
  pe_up (pe_ix (ixU hr) ha hb hs) (tOp_of sem_ix)
end
end DM
namespace DM
open PySem PySem.Spec PyProof.Rows L2
section
variable {K : PySem.W.Frag} {W : WX} {F : Frm} {ι : Nat → Addr} {σ : L2.St} {env : Env} {ts ts' : List (V × RV)} {st : Stx} {H H' : Hp} {v : V} {r : RV} {p a : Addr} {ds es : List D} {vs : List V} {ks : List Key} {Q : VK} {m : Bool} {P : Addr → Prop} {nd : Nd}
/-- a dict that was held is given -/
theorem Post.mkDh {ts0 : List (V × RV)} {kvs : List (Key × V)} (O : Ok K (F.hold p) ι σ env ts' st H) (hx : ¬F.X p) (h0 : F.H0 p = none) (hs : ∀ t ∈ ts, t ∈ ts') (hp : H p = some (.dK kvs)) (h : Vls K (Pf (F.hold p) ι st) H ds (kvs.map (·.2))) (e : kvs.map (·.1) = ks) (hn : ks.Nodup) (hq : Post K W F σ env ts0 (okD m ks ds st) (okE K F σ env ts Q)) : Q (.ref p) H := by
  unfold okD at hq
  by_cases hl : ks.length ≤ cap
  · rw [if_pos hl] at hq
    cases m with
    | true =>
      obtain ⟨ι', O'⟩ := O.adopt (nd := .dct false ks ds) hx h0 fun ι' e1 e2 k => ⟨kvs, hp, e, hn, hl, Vls.keep k _ _ h⟩
      exact hq _ _ ⟨ι', O'.tmps fun t m => (List.mem_cons.mp m).elim (fun e => e ▸ List.mem_cons_self ..) fun m => List.mem_cons_of_mem _ (hs t m)⟩
    | false =>
      obtain ⟨U, nP, k⟩ := O.unhold hx
      have O' : Ok K F ι σ env ((.ref p, .val (.dct ks ds)) :: ts') st H := U.push ⟨p, kvs, rfl, ⟨nP, .inl hp⟩, e, hn, hl, Vls.keep k _ _ h⟩
      exact hq _ _ ⟨ι, O'.tmps fun t m => (List.mem_cons.mp m).elim (fun e => e ▸ List.mem_cons_self ..) fun m => List.mem_cons_of_mem _ (hs t m)⟩
  · rw [if_neg hl] at hq; exact hq.elim
end
section
variable {X : Cx} {W : WX} {es : List Expr} {pos : Pos} {a b c e d k v : Expr} {fa fb fc fe fd fk fv : EF} {ff : AF} {m : Bool}
def eLst (m : Bool) (ff : AF) : EF := fun env st => (ff env st).bind fun rs st1 => match allV rs with | some ds => okL m ds st1 | none => .no
def eTup (ff : AF) : EF := fun env st => (ff env st).bind fun rs st1 => match allV rs with | some ds => if ds.length ≤ cap then .ok (.val (.tup ds)) st1 else .no | none => .no
def eDnew (m : Bool) : EF := fun _ st => okD m [] [] st
theorem allV_len : ∀ {rs : List RV} {ds : List D}, allV rs = some ds → ds.length = rs.length := fun e => by rw [allV_map e, List.length_map]
theorem d_lst (m : Bool) (ha : PA X es (tA X.K W ff)) : PE X (.List es pos) (tE X.K W (eLst m ff)) := pe_up (pe_lst ha) fun σ H Q ⟨F, env, ts, st, S, h⟩ =>
  ⟨F, env, ts, st, S, (Post.bind h).imp fun rs st1 _ h1 vs H1 hl S1 => by
    cases q : allV rs with
    | none => rw [q] at h1; exact h1.elim
    | some ds =>
      rw [q] at h1
      obtain ⟨ι, O⟩ := S1
      have hv := StOk.vls O hl (fun t m => List.mem_append_left _ m) q
      have h1 := h1.more (ts' := vs.zip rs ++ ts) fun t m => List.mem_append_right _ m
      have hc : ds.length ≤ cap := by
        unfold okL at h1
        by_cases hl : ds.length ≤ cap
        · exact hl
        · simp only [if_neg hl] at h1; exact h1.elim
      exact ⟨by rw [hl, ← allV_len q]; exact Nat.le_trans hc capS, fun p np => Post.mkL O (M.same_new np) (fun t m => List.mem_append_right _ m) np upd_same hv h1⟩⟩
theorem d_tup {x1 : Nat} (ha : PA X es (tA X.K W ff)) : PE X (.Tuple es x1 pos) (tE X.K W (eTup ff)) := pe_up (pe_tup ha) fun σ H Q ⟨F, env, ts, st, S, h⟩ =>
  ⟨F, env, ts, st, S, (Post.bind h).imp fun rs st1 _ h1 vs H1 hl S1 => by
    cases q : allV rs with
    | none => rw [q] at h1; exact h1.elim
    | some ds =>
      rw [q] at h1
      obtain ⟨ι, O⟩ := S1
      have hv := StOk.vls O hl (fun t m => List.mem_append_left _ m) q
      by_cases hc : ds.length ≤ cap
      · simp only [if_pos hc] at h1
        have h1 := h1.more (ts' := vs.zip rs ++ ts) fun t m => List.mem_append_right _ m
        exact ⟨by rw [hl, ← allV_len q]; exact Nat.le_trans hc capS, fun p np => Post.mkT O (M.same_new np) (fun t m => List.mem_append_right _ m) np upd_same hc hv h1⟩
      · simp only [if_neg hc] at h1; exact h1.elim⟩
theorem d_dnew (m : Bool) : PE X (.Dict [] [] pos) (tE X.K W (eDnew m)) := pe_up pe_dnewK fun σ H Q ⟨F, env, ts, st, ⟨ι, O⟩, h⟩ p np =>
  Post.mkD (kvs := []) (ds := []) (ks := []) O (M.same_new np) (fun t m => m) np upd_same (show Vls _ _ _ [] [] from rfl) rfl List.nodup_nil h
theorem StOk.unhold {K : PySem.W.Frag} {F : Frm} {σ : L2.St} {env : Env} {ts : List (V × RV)} {st : Stx} {H : Hp} {p : Addr} (S : StOk K (F.hold p) σ env ts st H) (hx : ¬F.X p) : StOk K F σ env ts st H := let ⟨ι, O⟩ := S; ⟨ι, (O.unhold hx).1⟩
theorem Post.hold {K : PySem.W.Frag} {F : Frm} {σ : L2.St} {env : Env} {ts : List (V × RV)} {p : Addr} {α : Type} {x : Rs α} {oc oc' : α → Stx → Prop} (hx : ¬F.X p) (h : Post K W F σ env ts x oc) (i : ∀ a st', x = .ok a st' → oc a st' → oc' a st') : Post K W (F.hold p) σ env ts x oc' := by
  cases x with
  | ok a st' => exact i a st' rfl h
  | er e st' => exact fun cls d H' ⟨h1, vs, h2, S, h3⟩ => h cls d H' ⟨h1, vs, h2, S.unhold hx, h3⟩
  | no => exact h
def prsM : List (EF × EF) → Env → Stx → Rs (List (Key × D))
  | [], _, st => .ok [] st
  | (fk, fv) :: r, env, st => (fk env st).bind fun rk st1 => (fv env st1).bind fun rv st2 => match keyOf rk, rv with
    | some k, .val d => (prsM r env st2).bind fun ps st3 => .ok ((k, d) :: ps) st3
    | _, _ => .no
def mrg : List (Key × D) → List Key → List D → List Key × List D
  | [], ks, ds => (ks, ds)
  | (k, d) :: r, ks, ds => mrg r (putKs ks k) (putDs ks ds k d)
abbrev tr1 (K : PySem.W.Frag) (W : WX) (p : EF × EF) : TE × TE := (tE K W p.1, tE K W p.2)
theorem tPairs_of {K : PySem.W.Frag} {F : Frm} {σ : L2.St} {env : Env} : ∀ {prs : List (EF × EF)} {ts : List (V × RV)} {st : Stx} {H : Hp} {Q : List (V × V) → Hp → Prop}, StOk K F σ env ts st H →
    Post K W F σ env ts (prsM prs env st) (fun ps st' => ∀ vs H', vs.length = ps.length → StOk K F σ env (vs.zip (ps.map fun p => RV.val p.2) ++ ts) st' H' → Q ((ps.map fun p => kV p.1).zip vs) H') → tPairs (prs.map (tr1 K W)) σ H Q
  | [], ts, st, H, Q, S, h => h [] H rfl S
  | (fk, fv) :: r, ts, st, H, Q, S, h => by
    show tE K W fk σ H fun x H1 => tE K W fv σ H1 fun y H2 => tPairs (r.map (tr1 K W)) σ H2 fun ps H3 => Q ((x, y) :: ps) H3
    unfold prsM at h
    refine tE.go S h fun rk st1 x H1 S1 h1 => ?_
    refine tE.go S1 h1 fun rv st2 y H2 S2 h2 => ?_
    split at h2
    · rename_i k d hk
      obtain ⟨ι, O⟩ := id S2
      have ex : x = kV k := keyOf_v hk (O.tmp (x, rk) (List.mem_cons_of_mem _ (List.mem_cons_self ..)))
      refine tPairs_of S2 ((Post.bind h2).imp fun ps st3 _ h3 vs H3 hl S3 => ?_)
      have h3 := h3 (y :: vs) H3 (by rw [List.length_cons, List.length_cons, hl]) (S3.tmps fun t m => by
        rw [List.map_cons, List.zip_cons_cons] at m
        rcases List.mem_cons.mp m with rfl | m
        · exact List.mem_append_right _ (List.mem_cons_self ..)
        · rcases List.mem_append.mp m with m | m
          · exact List.mem_append_left _ m
          · exact List.mem_append_right _ (List.mem_cons_of_mem _ (List.mem_cons_of_mem _ m)))
      rw [List.map_cons, List.zip_cons_cons, ← ex] at h3
      exact h3
    · exact h2.elim
theorem mrg_v {K : PySem.W.Frag} {P : Addr → Prop} {H : Hp} : ∀ {ps : List (Key × D)} {vs : List V} {acc : List (Key × V)} {ks : List Key} {ds : List D}, vs.length = ps.length → (∀ t ∈ vs.zip (ps.map fun p => p.2), Vl K P H t.2 t.1) → acc.map (·.1) = ks → ks.Nodup → Vls K P H ds (acc.map (·.2)) →
    ((((ps.map fun p => p.1).zip vs).foldl (fun acc kv => putK acc kv.1 kv.2) acc).map (·.1) = (mrg ps ks ds).1) ∧ (mrg ps ks ds).1.Nodup ∧ Vls K P H (mrg ps ks ds).2 ((((ps.map fun p => p.1).zip vs).foldl (fun acc kv => putK acc kv.1 kv.2) acc).map (·.2))
  | [], [], acc, ks, ds, _, _, e, n, h => ⟨e, n, h⟩
  | [], _ :: _, _, _, _, hl, _, _, _, _ => by simp at hl
  | _ :: _, [], _, _, _, hl, _, _, _, _ => by simp at hl
  | (k, d) :: ps, v :: vs, acc, ks, ds, hl, hz, e, n, h => by
    subst e
    rw [List.map_cons, List.zip_cons_cons] at hz
    rw [List.map_cons, List.zip_cons_cons, List.foldl_cons]
    unfold mrg
    exact mrg_v (by simpa using hl) (fun t m => hz t (List.mem_cons_of_mem _ m)) put_keys (putKs_nodup n) (put_vals n h (hz (v, d) (List.mem_cons_self ..)))
theorem Post.subh {K : PySem.W.Frag} {F : Frm} {ι : Nat → Addr} {σ : L2.St} {env : Env} {ts : List (V × RV)} {st : Stx} {H : Hp} {α : Type} {x : Rs α} {oc oc' : α → Stx → Prop} (O : Ok K F ι σ env ts st H) (h : Post K W F σ env ts x oc) (i : ∀ a st', x = .ok a st' → oc a st' → oc' a st') : Post K W (F.callee st ι H) σ env ts x oc' := by
  cases x with
  | ok a st' => exact i a st' rfl h
  | er e st' => exact fun cls d H' ⟨h1, vs, h2, ⟨ι', O'⟩, h3⟩ => h cls d H' ⟨h1, vs, h2, ⟨ι', O.join O'⟩, h3⟩
  | no => exact h
theorem Ok.stay {K : PySem.W.Frag} {F : Frm} {ι ι' : Nat → Addr} {σ σ' : L2.St} {env env' : Env} {ts ts' : List (V × RV)} {st st' : Stx} {H H' : Hp} {p : Addr} {o : HO} (O : Ok K F ι σ env ts st H) (O' : Ok K (F.callee st ι H) ι' σ' env' ts' st' H') (hx : F.X p) (hp : H p = some o) : H' p = some o := by
  rcases O'.frame p o hp fun ⟨n, h1, h2, h3⟩ => by
    cases q : st.at' n with
    | none => exact h2 q
    | some nd => exact O.xn n nd q (by rw [show ι n = p from h3]; exact hx) with h | ⟨_, h⟩
  · exact h
  · cases h
def eDisp (m : Bool) (prs : List (EF × EF)) : EF := fun env st => (prsM prs env st).bind fun ps st1 => if ps.length ≤ 15 then okD m (mrg ps [] []).1 (mrg ps [] []).2 st1 else .no
theorem d_disp {keys : List (Option Expr)} {vals : List Expr} {prs : List (EF × EF)} (m : Bool) (h : PPs X pos keys vals (prs.map (tr1 X.K W))) (hall : keys.all (·.isSome) = true := by rfl) (hl : keys.length = vals.length := by rfl) (h0 : keys ≠ [] := by exact fun z => by cases z) (h15 : keys.length ≤ 15 := by decide) :
    PE X (.Dict keys vals pos) (tE X.K W (eDisp m prs)) := pe_up (pe_disp h hall hl h0 h15) fun σ H Q ⟨F, env, ts, st, ⟨ι, O⟩, h⟩ p np => by
  obtain ⟨h0, hx⟩ := O.hold0 np
  have Oh : Ok X.K (F.hold p) ι σ env ts st (upd H p (.dK [])) := O.hold np
  refine tPairs_of ⟨ι, Oh.sub⟩ (((Post.bind h).hold hx fun ps st1 _ h => h).subh Oh fun ps st1 _ h1 vs H2 hl S2 => ?_)
  obtain ⟨ι2, O2⟩ := S2
  by_cases hc : ps.length ≤ 15
  · rw [if_pos hc] at h1
    have hH : H2 p = some (.dK []) := Oh.stay O2 (.inr rfl) upd_same
    have O3 := Oh.join O2
    have hkl : vs.length = (ps.map fun p => p.1).length := by rw [List.length_map, hl]
    refine ⟨hH, (ps.map fun p => p.1).zip vs, ?_, ?_, ?_⟩
    · rw [show (ps.map fun p => kV p.1) = (ps.map fun p => p.1).map kV by rw [List.map_map]; rfl, List.zip_map_left]; rfl
    · rw [List.length_zip, List.length_map, hl]; omega
    · have O4 := O3.wrX (o' := .dK (mergeK [] ((ps.map fun p => p.1).zip vs))) (.inr rfl) h0 hH (fun od w z => by cases z)
      have hz : ∀ t ∈ vs.zip (ps.map fun p => p.2), Vl X.K (Pf (F.hold p) ι2 st1) (upd H2 p (.dK (mergeK [] ((ps.map fun p => p.1).zip vs)))) t.2 t.1 := fun t m => by
        refine O4.tmp (t.1, .val t.2) (List.mem_append_left _ ?_)
        rw [show (ps.map fun p => RV.val p.2) = (ps.map fun p => p.2).map RV.val by rw [List.map_map]; rfl, List.zip_map_right, List.mem_map]
        exact ⟨t, m, rfl⟩
      obtain ⟨m1, m2, m3⟩ := mrg_v (acc := []) (ks := []) (ds := []) hl hz rfl List.nodup_nil (show Vls _ _ _ [] [] from rfl)
      exact Post.mkDh O4 hx h0 (fun t m => List.mem_append_right _ m) upd_same m3 m1 m2 h1
  · rw [if_neg hc] at h1; exact h1.elim
theorem Ok.dcX {K : PySem.W.Frag} {F : Frm} {ι : Nat → Addr} {σ : L2.St} {env : Env} {ts : List (V × RV)} {st : Stx} {H : Hp} {r : RV} {v : V} {ks : List Key} {ds : List D} (O : Ok K F ι σ env ts st H) (h : RVl K (Pf F ι st) H ι st.nx r v) (e : st.dc r = some (ks, ds)) : ∃ a kvs, v = .ref a ∧ ¬F.X a ∧ Rd H a (.dK kvs) ∧ kvs.map (·.1) = ks ∧ ks.Nodup ∧ ks.length ≤ cap ∧ Vls K (Pf F ι st) H ds (kvs.map (·.2)) := by
  cases r with
  | val d =>
    cases d with
    | dct xs ys =>
      cases e
      obtain ⟨a, kvs, e1, la, e2, n, l, q⟩ := h
      exact ⟨a, kvs, e1, fun z => la.1 (.inr z), la.2, e2, n, l, q⟩
    | _ => cases e
  | ptr n =>
    obtain ⟨_, e1⟩ := h
    simp only [Stx.dc] at e
    cases q : st.at' n with
    | none => rw [q] at e; cases e
    | some nd =>
      rw [q] at e
      cases nd with
      | dct lk xs ys =>
        cases e
        obtain ⟨⟨kvs, h1, h2, h3, h4, h5⟩, _⟩ := O.node n _ q
        refine ⟨_, kvs, e1, O.xn n _ q, ?_, h2, h3, h4, h5⟩
        cases lk with
        | true => obtain ⟨od, h1⟩ := h1; exact .inr ⟨od, h1⟩
        | false => exact .inl h1
      | lst _ => cases e
      | obj _ _ _ => cases e
def eStar (m : Bool) (fd fk fv : EF) : EF := fun env st => (fd env st).bind fun rd st1 => match st1.dc rd with
  | some (ks, ds) => (fk env st1).bind fun rk st2 => (fv env st2).bind fun rv st3 => match keyOf rk, rv with
    | some k, .val z => okD m (putKs ks k) (putDs ks ds k z) st3
    | _, _ => .no
  | none => .no
theorem d_star (m : Bool) (hd : PE X d (tE X.K W fd)) (hk : PE X k (tE X.K W fk)) (hv : PE X v (tE X.K W fv)) : PE X (.Dict [none, some k] [d, v] pos) (tE X.K W (eStar m fd fk fv)) :=
  pe_up (M.pe_dstar hd hk hv) fun σ H Q ⟨F, env, ts, st, ⟨ι, O⟩, h⟩ p np => by
    obtain ⟨h0, hx⟩ := O.hold0 np
    have Oh : Ok X.K (F.hold p) ι σ env ts st (upd H p (.dK [])) := O.hold np
    refine ⟨_, env, ts, st, ⟨ι, Oh.sub⟩, ((Post.bind h).hold hx fun ps st1 _ h => h).subh Oh fun rd st1 _ h1 x H1 S1 => ?_⟩
    obtain ⟨ι1, O1⟩ := S1
    have hH : H1 p = some (.dK []) := Oh.stay O1 (.inr rfl) upd_same
    have O1 := Oh.join O1
    cases q : st1.dc rd with
    | none => simp only [q] at h1; exact h1.elim
    | some kd =>
      obtain ⟨ks, ds⟩ := kd
      simp only [q] at h1
      obtain ⟨a, kvs, rfl, na, ra, e1, nd, l, vv⟩ := O1.dcX (O1.tmp _ (List.mem_cons_self ..)) q
      refine ⟨a, kvs, rfl, fun z => na (.inr z), ra, hH, fun w nw => ?_⟩
      have ht : ∀ t ∈ (kvs.map (·.2)).zip (ds.map RV.val) ++ ts, RVl X.K (Pf (F.hold p) ι1 st1) H1 ι1 st1.nx t.2 t.1 := fun t m => by
        rcases List.mem_append.mp m with m | m
        · exact zip_vls vv t m
        · exact O1.tmp t (List.mem_cons_of_mem _ m)
      have O1 : Ok X.K (F.hold p) ι1 σ env ((kvs.map (·.2)).zip (ds.map RV.val) ++ ts) st1 H1 := { O1 with tmp := ht }
      have O3 := O1.wrX (o' := .dK kvs) (.inr rfl) h0 hH (fun od w z => by cases z)
      have nwp : p ≠ w := fun z => by rw [z] at hH; rw [hH] at nw; cases nw
      have nw' : upd H1 p (.dK kvs) w = none := by rw [upd_ne (Ne.symm nwp)]; exact nw
      obtain ⟨w0, wx⟩ := O3.hold0 nw'
      have O4 : Ok X.K ((F.hold p).hold w) ι1 σ env _ st1 (upd (upd H1 p (.dK kvs)) w (.dK [])) := O3.hold nw'
      have h1 := h1.more (ts' := (kvs.map (·.2)).zip (ds.map RV.val) ++ ts) fun t m => List.mem_append_right _ m
      refine ⟨_, env, _, st1, ⟨ι1, O4.sub⟩, (((Post.bind h1).hold hx fun ps st1 _ h => h).hold wx fun ps st1 _ h => h).subh O4 fun rk st2 _ h2 y H2 S2 => ?_⟩
      obtain ⟨ι2, O5⟩ := S2
      have O6 := O4.join O5
      have hp2 : H2 p = some (.dK kvs) := O4.stay O5 (.inl (.inr rfl)) (by rw [upd_ne nwp]; exact upd_same)
      have hw2 : H2 w = some (.dK []) := O4.stay O5 (.inr rfl) upd_same
      have h2 := h2.more (ts' := (y, rk) :: ((kvs.map (·.2)).zip (ds.map RV.val) ++ ts)) fun t m => List.mem_cons_of_mem _ m
      refine ⟨_, env, _, st2, ⟨ι2, O6.sub⟩, (((Post.bind h2).hold hx fun ps st1 _ h => h).hold wx fun ps st1 _ h => h).subh O6 fun rv st3 _ h3 z H3 S3 => ?_⟩
      obtain ⟨ι3, O7⟩ := S3
      have O8 := O6.join O7
      have hp3 : H3 p = some (.dK kvs) := O6.stay O7 (.inl (.inr rfl)) hp2
      have hw3 : H3 w = some (.dK []) := O6.stay O7 (.inr rfl) hw2
      split at h3
      · rename_i kk zd hk _
        have ey : y = kV kk := keyOf_v hk (O8.tmp (y, rk) (List.mem_cons_of_mem _ (List.mem_cons_self ..)))
        have hln : kvs.length ≤ cap := by rw [← e1, List.length_map] at l; exact l
        refine ⟨kk, ey, hp3, hw3, ?_, ?_⟩
        · have : cap < sizeLine := by rw [sizeLine_eq]; decide
          omega
        · have O9 := O8.wrX (o' := .dK [(kk, z)]) (.inr rfl) w0 hw3 (fun od w z => by cases z)
          have hp4 : upd H3 w (.dK [(kk, z)]) p = some (.dK kvs) := by rw [upd_ne nwp]; exact hp3
          have O10 := O9.wrX (o' := .dK (putK kvs kk z)) (.inl (.inr rfl)) h0 hp4 (fun od w z => by cases z)
          obtain ⟨O11, _, _⟩ := O10.unhold wx
          have vz : Vl X.K (Pf (F.hold p) ι3 st3) _ zd z := O11.tmp (z, .val zd) (List.mem_cons_self ..)
          have vk : Vls X.K (Pf (F.hold p) ι3 st3) _ ds (kvs.map (·.2)) := vls_of_zip (ι := ι3) (n := st3.nx) (by rw [vv.length]) fun t m => O11.tmp t (List.mem_cons_of_mem _ (List.mem_cons_of_mem _ (List.mem_append_left _ m)))
          subst e1
          exact Post.mkDh O11 hx h0 (fun t m => List.mem_cons_of_mem _ (List.mem_cons_of_mem _ (List.mem_append_right _ m))) upd_same (put_vals nd vk vz) put_keys (putKs_nodup nd) h3
      · exact h3.elim
end
end DM
namespace DM
open PySem PySem.Spec PyProof.Rows L2
def eFld (Cs : List Addr) (f : Str) (fe : EF) : EF := fun env st => (fe env st).bind fun r st1 => match st1.ob r with
  | some (C, ns, rs) => if Cs.contains C = true then (match getF f ns rs with | some x => .ok x st1 | none => .no) else .no
  | none => .no
def putNs (f : Str) : List Str → List Str
  | [] => [f]
  | n :: ns => if n = f then n :: ns else n :: putNs f ns
def putRs (f : Str) (r : RV) : List Str → List RV → List RV
  | [], _ => [r]
  | n :: ns, x :: rs => if n = f then r :: rs else x :: putRs f r ns rs
  | _ :: _, [] => []
def sSetF (Cs : List Addr) (f : Str) (fo fv : EF) : SF := fun env st => (fv env st).toRt env fun r st1 => (fo env st1).toRt env fun x st2 => match x with
  | .ptr n => match st2.at' n with
    | some (.obj C ns rs) => if Cs.contains C = true ∧ ns.length < 500 then (match r with
      | .val d => .go .nx env (st2.set n (.obj C (putNs f ns) (putRs f (.val d) ns rs)))
      | .ptr m => .go .nx env ((st2.up (m + 1)).set n (.obj C (putNs f ns) (putRs f (.ptr m) ns rs)))) else .no
    | _ => .no
  | _ => .no
section
variable {K : PySem.W.Frag} {W : WX} {F : Frm} {ι : Nat → Addr} {σ : L2.St} {env : Env} {ts ts' : List (V × RV)} {st : Stx} {H H' : Hp} {v : V} {r : RV} {p a : Addr} {ds es : List D} {vs : List V} {ks : List Key} {Q : VK} {m : Bool} {P : Addr → Prop} {nd : Nd}
theorem Ok.up (O : Ok K F ι σ env ts st H) {k : Nat} (h : k ≤ st.nx) : Ok K F ι σ env ts (st.up k) H := by
  have k0 : Kp (Pf F ι st) (Pf F ι st) H H := ⟨fun _ _ _ _ h => h, fun _ _ _ _ _ h => h, fun _ _ n _ => n⟩
  exact { len := O.len, slot := O.slot, tmp := O.tmp, node := fun n nd e => let ⟨q, l⟩ := O.node n nd e; ⟨q.keep k0 (Nat.le_max_left ..) (fun _ _ => rfl) rfl, l⟩, inj := O.inj, hi := Nat.max_le.mpr ⟨O.hi, h⟩, nx := O.nx, ag := O.ag, old := O.old, new := O.new, there := O.there, frame := O.frame, lock := O.lock, xs := O.xs, xn := O.xn }
theorem putNs_v : ∀ {fs : List (Str × V)} {f : Str} {y : V}, (putF f y fs).map (·.1) = putNs f (fs.map (·.1))
  | [], f, y => rfl
  | (g, x) :: r, f, y => by
    show ((if g = f then (g, y) :: r else (g, x) :: putF f y r).map (·.1)) = if g = f then _ else _
    by_cases q : g = f
    · rw [if_pos q, if_pos q]; rfl
    · rw [if_neg q, if_neg q, List.map_cons, putNs_v]
theorem putNs_len : ∀ {ns : List Str} {f : Str}, (putNs f ns).length ≤ ns.length + 1
  | [], f => by simp [putNs]
  | n :: ns, f => by
    unfold putNs
    split
    · simp
    · rw [List.length_cons, List.length_cons]
      have := putNs_len (ns := ns) (f := f)
      omega
theorem putRs_v {ι : Nat → Addr} {nx : Nat} {f : Str} {y : V} {r : RV} (hy : RVl K P H ι nx r y) : ∀ {fs : List (Str × V)} {rs : List RV}, RVls K P H ι nx rs (fs.map (·.2)) → RVls K P H ι nx (putRs f r (fs.map (·.1)) rs) ((putF f y fs).map (·.2))
  | [], rs, h => by
    cases h
    exact .cons hy .nil
  | (g, x) :: fs, [], h => by cases h
  | (g, x) :: fs, z :: rs, h => by
    cases h with
    | cons h1 h2 =>
      show RVls K P H ι nx (if g = f then _ else _) ((if g = f then (g, y) :: fs else (g, x) :: putF f y fs).map (·.2))
      by_cases q : g = f
      · rw [if_pos q, if_pos q]; exact .cons hy h2
      · rw [if_neg q, if_neg q]; exact .cons h1 (putRs_v hy h2)
theorem Ok.setF {n : Nat} {C : Addr} {ns : List Str} {rs : List RV} {f : Str} {y : V} {r : RV} (O : Ok K F ι σ env ts st H) (e : st.at' n = some (.obj C ns rs)) (hl : ns.length < 500) (hy : RVl K (Pf F ι st) H ι st.hi r y) :
    ∃ dx fs, H (ι n) = some (.ins C dx fs) ∧ fs.length < 1000 ∧ Ok K F ι σ env ts (st.set n (.obj C (putNs f ns) (putRs f r ns rs))) (upd H (ι n) (.ins C dx (putF f y fs))) := by
  obtain ⟨⟨dx, fs, h1, h2, h3, h4⟩, hn⟩ := O.node n _ e
  refine ⟨dx, fs, h1, by rw [← List.length_map (f := (·.1)), h2]; omega, O.write e h1 (fun od w z => by cases z) fun k => ?_⟩
  subst h2
  refine ⟨dx, _, upd_same, putNs_v, by have := putNs_len (ns := fs.map (·.1)) (f := f); omega, ?_⟩
  exact putRs_v (hy.keep k (Nat.le_refl _) fun _ _ => rfl) (h4.keep k (Nat.le_refl _) fun _ _ => rfl)
end
section
variable {X : Cx} {W : WX} {es : List Expr} {pos pos' : Pos} {a b c e d k v o : Expr} {fa fb fc fe fd fk fv fo : EF} {ff : AF} {m : Bool} {f : Str} {Cs : List Addr}
theorem d_fld (hC : ∀ C ∈ Cs, ClsF X.K C f) (he : PE X e (tE X.K W fe)) (hb : attributeBase e f X.env (eval e X.env) = eval e X.env := by rfl) : PE X (.Attribute e f pos) (tE X.K W (eFld Cs f fe)) :=
  pe_up (pe_fld he hb) fun σ H Q ⟨F, env, ts, st, S, h⟩ => tE.go S h fun r st1 v H1 S1 h1 => by
    obtain ⟨ι, O⟩ := id S1
    cases q : st1.ob r with
    | none => simp only [q] at h1; exact h1.elim
    | some o =>
      obtain ⟨C, ns, rs⟩ := o
      simp only [q] at h1
      by_cases hc : Cs.contains C = true
      · rw [if_pos hc] at h1
        cases q2 : getF f ns rs with
        | none => simp only [q2] at h1; exact h1.elim
        | some x =>
          simp only [q2] at h1
          obtain ⟨a, dx, fvs, rfl, h2, h3, h4⟩ := O.ob (O.tmp _ (List.mem_cons_self ..)) q
          obtain ⟨w, h5, h6⟩ := getF_at h3 h4 q2
          have cf := hC C (by simpa using hc)
          exact ⟨a, C, dx, fvs, w, rfl, h2, cf.cls, cf.no, h5, Post.here O (fun t m => List.mem_cons_of_mem _ m) h6 h1⟩
      · rw [if_neg hc] at h1; exact h1.elim
theorem ds_setF (hC : ∀ C ∈ Cs, ClsF X.K C f) (ho : PE X o (tE X.K W fo)) (hv : PE X v (tE X.K W fv)) (hs : swapsWith v (some (.Attribute o f pos')) pos.line X.env = pure false := by rfl) : PS X (.Assign [.Attribute o f pos'] v pos) (tS X.K W (sSetF Cs f fo fv)) :=
  ps_up (ps_fld ho hv hs) fun D σ H ⟨F, env, ts, st, S, h⟩ => by
    refine ⟨F, env, ts, st, S, (RtPost.bind S h).imp fun r st1 _ h1 y H1 S1 => ?_⟩
    have h1 := h1.more (ts' := (y, r) :: ts) fun t m => List.mem_cons_of_mem _ m
    refine ⟨F, env, _, st1, S1, (RtPost.bind S1 h1).imp fun x st2 _ h2 z H2 S2 => ?_⟩
    split at h2
    · rename_i n _
      split at h2
      · rename_i C ns rs e
        by_cases hc : Cs.contains C = true ∧ ns.length < 500
        · rw [if_pos hc] at h2
          have cf := hC C (by simpa using hc.1)
          obtain ⟨ι, O⟩ := S2
          obtain ⟨_, rfl⟩ := (show RVl X.K _ _ ι _ (.ptr n) z from O.tmp (z, .ptr n) (List.mem_cons_self ..))
          have hy : RVl X.K _ _ ι _ r y := O.tmp (y, r) (List.mem_cons_of_mem _ (List.mem_cons_self ..))
          cases r with
          | val dd =>
            obtain ⟨dx, fs, g1, g2, O'⟩ := O.setF (r := .val dd) e hc.2 hy
            exact ⟨_, C, dx, fs, rfl, g1, cf.cls, cf.no, g2, h2 _ _ ⟨ι, O'.tmps fun t m => List.mem_cons_of_mem _ m⟩⟩
          | ptr m =>
            have O1 := O.up (k := m + 1) hy.1
            obtain ⟨dx, fs, g1, g2, O'⟩ := O1.setF (r := .ptr m) e hc.2 ⟨Nat.lt_of_lt_of_le (Nat.lt_succ_self m) (Nat.le_max_right ..), hy.2⟩
            exact ⟨_, C, dx, fs, rfl, g1, cf.cls, cf.no, g2, h2 _ _ ⟨ι, O'.tmps fun t m => List.mem_cons_of_mem _ m⟩⟩
        · rw [if_neg hc] at h2; exact h2.elim
      · exact h2.elim
    · exact h2.elim
end
def rSetD : TSet := fun o i v H Q => ∃ a H4, o = .ref a ∧ DPut H a i v H4 ∧ Q H4
theorem set_dictU {X : Cx} {k : Nat} (hr : Room k X.A) : PSet X rSetD := fun pins s σ H o i v ov iv u Q I ro ri rv h => by
  obtain ⟨a, H4, rfl, g, q⟩ := h
  cases (show ov = Value.ref a from ro)
  exact d_setItem (hu1 hr) I g ri rv fun s' I' => ⟨H4, I', q⟩
def putM (x i r : RV) (st : Stx) : Option Stx := match x, r with
  | .ptr n, .val d => match st.at' n, i with
    | some (.lst ds), .val (.int j) => (ixN ds.length j).map fun k => st.set n (.lst (ds.set k d))
    | some (.dct false ks ds), i => match keyOf i with
      | some k => if ks.length < cap then some (st.set n (.dct false (putKs ks k) (putDs ks ds k d))) else none
      | none => none
    | _, _ => none
  | _, _ => none
def sPut (fo fi fv : EF) : SF := fun env st => (fv env st).toRt env fun r st1 => (fo env st1).toRt env fun x st2 => (fi env st2).toRt env fun i st3 => match putM x i r st3 with | some st4 => .go .nx env st4 | none => .no
section
variable {K : PySem.W.Frag} {W : WX} {F : Frm} {ι : Nat → Addr} {σ : L2.St} {env : Env} {ts ts' : List (V × RV)} {st st' : Stx} {H H' : Hp} {v : V} {r : RV} {p a : Addr} {ds es : List D} {vs : List V} {ks : List Key} {m : Bool} {P : Addr → Prop} {nd : Nd}
theorem Ok.wrL {n : Nat} (O : Ok K F ι σ env ts st H) (e : st.at' n = some (.lst ds)) (hl : es.length ≤ cap) (h : Vls K (Pf F ι st) H es vs) : Ok K F ι σ env ts (st.set n (.lst es)) (upd H (ι n) (.lst vs)) := by
  obtain ⟨⟨us, h1, h2, h3⟩, hn⟩ := O.node n _ e
  exact O.write e h1 (fun od w z => by cases z) fun k => ⟨vs, upd_same, hl, Vls.keep k _ _ h⟩
theorem Ok.putM_of {x y z : V} {rx ri r : RV} (O : Ok K F ι σ env ts st H) (hx : RVl K (Pf F ι st) H ι st.nx rx x) (hi : RVl K (Pf F ι st) H ι st.nx ri y) (hv : RVl K (Pf F ι st) H ι st.nx r z) (e : putM rx ri r st = some st') {Q : Hp → Prop} (q : ∀ H', Ok K F ι σ env ts st' H' → Q H') : rSetL x y z H Q ∨ rSetD x y z H Q := by
  unfold putM at e
  split at e
  · rename_i n d
    obtain ⟨_, rfl⟩ := hx
    split at e
    · rename_i ds j en
      obtain ⟨k, e1, e2⟩ := Option.map_eq_some_iff.mp e
      subst e2
      cases (show y = .int j from hi)
      obtain ⟨⟨us, h1, h2, h3⟩, hn⟩ := O.node n _ en
      refine .inl ⟨_, us, j, k, rfl, rfl, h1, by rw [h3.length]; exact e1, q _ ?_⟩
      exact O.wrL en (by rw [List.length_set]; exact h2) (Vls.set k h3 hv)
    · rename_i ks ds en
      split at e
      · rename_i k hk
        by_cases hl : ks.length < cap
        · rw [if_pos hl] at e
          cases e
          obtain ⟨⟨kvs, h1, h2, h3, h4, h5⟩, hn⟩ := O.node n _ en
          have h1 : H (ι n) = some (.dK kvs) := h1
          have ey := keyOf_v hk hi
          subst h2
          refine .inr ⟨_, _, rfl, .inl ⟨kvs, k, h1, ey, ?_, rfl⟩, q _ ?_⟩
          · rw [List.length_map] at hl
            exact Nat.lt_of_lt_of_le hl capS
          · refine O.write en h1 (fun od w z => by cases z) fun kk => ⟨_, by rw [if_neg (by decide)]; exact upd_same, put_keys, putKs_nodup h3, ?_, Vls.keep kk _ _ (put_vals h3 h5 hv)⟩
            have := putKs_len (ks := kvs.map (·.1)) (k := k)
            omega
        · rw [if_neg hl] at e; cases e
      · cases e
    · cases e
  · cases e
end
section
variable {X : Cx} {W : WX} {es : List Expr} {pos pos' : Pos} {a b c e d k v o i : Expr} {fa fb fc fe fd fk fv fo fi : EF} {ff : AF} {m : Bool} {f : Str} {Cs : List Addr}
theorem ds_put {n : Nat} (hr : Room n X.A) (ho : PE X o (tE X.K W fo)) (hi : PE X i (tE X.K W fi)) (hv : PE X v (tE X.K W fv)) (h1 : swapsWithSole [.Subscript o i pos'] v pos.line X.env = pure false := by rfl) (h2 : swappedStores [.Subscript o i pos'] v X.env = pure none := by rfl) (h3 : (assignEach [.Subscript o i pos'] X.env).map (·.2) = [assign (.Subscript o i pos') X.env] := by rfl)
    (hg : ∀ {to ti : TE} {t : TSet}, PE X o to → PE X i ti → PSet X t → PG X (.Subscript o i pos') (gSub to ti t) := by intro to ti t a b c; exact pg_sub a b c) :
    PS X (.Assign [.Subscript o i pos'] v pos) (tS X.K W (sPut fo fi fv)) :=
  ps_up (ps_asg hv (hg ho hi (ps2 set_list (set_dictU hr))) h1 h2 h3) fun D σ H ⟨F, env, ts, st, S, h⟩ => by
    refine ⟨F, env, ts, st, S, (RtPost.bind S h).imp fun r st1 _ h1 y H1 S1 => ?_⟩
    have h1 := h1.more (ts' := (y, r) :: ts) fun t m => List.mem_cons_of_mem _ m
    refine ⟨F, env, _, st1, S1, (RtPost.bind S1 h1).imp fun x st2 _ h2 z H2 S2 => ?_⟩
    have h2 := h2.more (ts' := (z, x) :: (y, r) :: ts) fun t m => List.mem_cons_of_mem _ m
    refine ⟨F, env, _, st2, S2, (RtPost.bind S2 h2).imp fun ri st3 _ h3 w H3 S3 => ?_⟩
    obtain ⟨ι, O⟩ := S3
    split at h3
    · rename_i st4 e
      exact O.putM_of (O.tmp (z, x) (List.mem_cons_of_mem _ (List.mem_cons_self ..))) (O.tmp (w, ri) (List.mem_cons_self ..)) (O.tmp (y, r) (List.mem_cons_of_mem _ (List.mem_cons_of_mem _ (List.mem_cons_self ..)))) e fun H' O' => h3 _ _ ⟨ι, O'.tmps fun t m => List.mem_cons_of_mem _ m⟩
    · exact h3.elim
end
theorem mt_extendS {X : Cx} : MtM X "list.extend" (fun x vs H Q => ∃ l b xs zs, x = .ref l ∧ vs = [.ref b] ∧ H l = some (.lst xs) ∧ (Rd H b (.lst zs) ∨ KL X.K b zs) ∧ xs.length + zs.length ≤ sizeLine ∧ Q .non (upd H l (.lst (xs ++ zs)))) := fun pins s σ H x vs v us Q I rx rv h => by
  obtain ⟨l, b, xs, zs, rfl, rfl, hH, hB, hz, q⟩ := h
  cases rx
  obtain ⟨u, rfl, ru⟩ := Vals.one rv
  cases ru
  obtain ⟨z, its, n, r, hl, e⟩ := I.lstM hH
  have hb : ∃ (its2 : List Value) (n2 : Nat), Vals zs its2 ∧ s.heap.get? b = some { cls := .type "list", data := .seq its2.toArray n2 } := by
    rcases hB with hB | ⟨its2, n2, h1, h2, h3⟩
    · obtain ⟨z2, its2, n2, r2, e2⟩ := hB.ok I.hok
      exact ⟨its2, n2, r2, e2⟩
    · exact ⟨its2.toList, n2, h3, I.kIn b _ h1⟩
  obtain ⟨its2, n2, r2, e2⟩ := hb
  have hl2 : zs.length = its2.length := r2.length
  have hsz : its.toArray.size + its2.toArray.size ≤ sizeLine := by rw [List.size_toArray, List.size_toArray, ← hl, ← hl2]; exact hz
  refine call_meets PySem.F.slot_list_extend ⟨_, e, rfl⟩ PySem.F.entry_list_extend (PySem.F.args_list_extend_2 (.ref l) (.ref b)) (AutoSeq1.list_extend_list_list_0 l its.toArray n b its2.toArray n2 (by rw [notLongL hsz, Bool.and_false]; exact Bool.false_ne_true) (by omega) (by omega)) ⟨e, e2, .non, upd H l (.lst (xs ++ zs)), I.lset hH e (by simp) (r.append r2) (by rw [List.length_append]; exact hz), rfl, q⟩
end DM
namespace DM
open PySem PySem.Spec PyProof.Rows L2
def SemB (K : PySem.W.Frag) (W : WX) (r : List V → Hp → VK → Prop) (g : List RV → Stx → Rs RV) : Prop := ∀ F ι σ env ts ts0 st H vs rs Q, vs.length = rs.length → Ok K F ι σ env (vs.zip rs ++ ts) st H → Post K W F σ env ts0 (g rs st) (okE K F σ env ts Q) → r vs H Q
def SemM (K : PySem.W.Frag) (W : WX) (r : V → List V → Hp → VK → Prop) (g : RV → List RV → Stx → Rs RV) : Prop := ∀ F ι σ env ts ts0 st H x rx vs rs Q, vs.length = rs.length → Ok K F ι σ env (vs.zip rs ++ (x, rx) :: ts) st H → Post K W F σ env ts0 (g rx rs st) (okE K F σ env ts Q) → r x vs H Q
def eB (g : List RV → Stx → Rs RV) (ff : AF) : EF := fun env st => (ff env st).bind fun rs st1 => g rs st1
def eMt (ok : Stx → RV → Bool) (g : RV → List RV → Stx → Rs RV) (fo : EF) (ff : AF) : EF := fun env st => (fo env st).bind fun x st1 => if ok st1 x = true then (ff env st1).bind fun rs st2 => g x rs st2 else .no
def Stx.lsA (st : Stx) : RV → Option (List D)
  | .val (.lsk _) => none
  | r => st.ls r
def isLs (st : Stx) (x : RV) : Bool := (st.ls x).isSome
section
variable {X : Cx} {W : WX} {es : List Expr} {pos p apos cpos : Pos} {a b c e d k v o : Expr} {fa fb fc fe fd fk fv fo : EF} {ff : AF} {m : Bool} {x : Str} {id T : String} {r : List V → Hp → VK → Prop} {g : List RV → Stx → Rs RV} {rm : V → List V → Hp → VK → Prop} {gm : RV → List RV → Stx → Rs RV}
theorem d_callB (hc : CallR X (.builtin id) r) (hs : SemB X.K W r g) (hg : Gl X x) (hm : X.mg x = none) (hv : bootBuiltins x = some (.builtin id)) (ha : PA X (e :: es) (tA X.K W ff)) (h1 : x ≠ "__name__" := by decide) (h2 : (x == ("__debug__" : Str)) = false := by decide)
    (h3 : starEach (e :: es) X.env = (false, eval e X.env) :: starEach es X.env := by rfl) (h4 : (backTo pos (starEach es X.env)).any (·.1) = false := by rfl) : PE X (.Call (.Name x p) (e :: es) [] pos) (tE X.K W (eB g ff)) :=
  pe_up (pe_callB hc hg hm hv ha h1 h2 h3 h4) fun σ H Q ⟨F, env, ts, st, S, h⟩ => ⟨F, env, ts, st, S, (Post.bind h).imp fun rs st1 _ h1 vs H1 hl ⟨ι, O⟩ => hs F ι σ env ts ts st1 H1 vs rs Q hl O h1⟩
theorem d_callTy (hc : CallR X (.type T) r) (hs : SemB X.K W r g) (hg : Gl X x) (hm : X.mg x = none) (hv : bootBuiltins x = some (.type T)) (ha : PA X (e :: es) (tA X.K W ff)) (h1 : x ≠ "__name__" := by decide) (h2 : (x == ("__debug__" : Str)) = false := by decide)
    (h3 : starEach (e :: es) X.env = (false, eval e X.env) :: starEach es X.env := by rfl) (h4 : (backTo pos (starEach es X.env)).any (·.1) = false := by rfl) : PE X (.Call (.Name x p) (e :: es) [] pos) (tE X.K W (eB g ff)) :=
  pe_up (pe_callTy hc hg hm hv ha h1 h2 h3 h4) fun σ H Q ⟨F, env, ts, st, S, h⟩ => ⟨F, env, ts, st, S, (Post.bind h).imp fun rs st1 _ h1 vs H1 hl ⟨ι, O⟩ => hs F ι σ env ts ts st1 H1 vs rs Q hl O h1⟩
theorem tyL {K : PySem.W.Frag} {F : Frm} {ι : Nat → Addr} {σ : L2.St} {env : Env} {ts : List (V × RV)} {st : Stx} {H : Hp} {r : RV} {v : V} (O : Ok K F ι σ env ts st H) (h : RVl K (Pf F ι st) H ι st.nx r v) (e : isLs st r = true) : tyV K "list" v H := by
  obtain ⟨ds, e⟩ := Option.isSome_iff_exists.mp e
  obtain ⟨a, vs, rfl, la, _, _⟩ := O.ls h e
  exact .inl ⟨rfl, vs, la⟩
theorem d_mtL (n : Str) (slot : Slot "list" n id) (hty : typeOf (.builtin id) = pure (.type "method_descriptor")) (hm : MtR X id rm) (hs : SemM X.K W rm gm) (ho : PE X o (tE X.K W fo)) (ha : PA X (e :: es) (tA X.K W ff)) (h1 : attributeBase o n X.env (eval o X.env) = eval o X.env := by rfl)
    (h2 : ((((backTo cpos (starEach (e :: es) X.env)).all fun x => !x.fst) && (backToKw cpos (keywordEach [] X.env)).all fun x => x.fst.isSome) && decide (((e :: es).length + ([] : List Expr).length + if ([] : List Expr).isEmpty = true then 0 else 1) < 30)) = true := by rfl) (h3 : (apos.endLine == cpos.line) = true := by rfl)
    (h4 : starEach (e :: es) X.env = (false, eval e X.env) :: starEach es X.env := by rfl) (h5 : (backTo cpos (starEach es X.env)).any (·.1) = false := by rfl) : PE X (.Call (.Attribute o n apos) (e :: es) [] cpos) (tE X.K W (eMt isLs gm fo ff)) :=
  pe_up (pe_bm PySem.F.plainAttrs_list slot hty hm ho ha h1 h2 h3 h4 h5) fun σ H Q ⟨F, env, ts, st, S, h⟩ => tE.go S h fun rx st1 x H1 S1 h1 => by
    by_cases q : isLs st1 rx = true
    · rw [if_pos q] at h1
      obtain ⟨ι, O⟩ := _root_.id S1
      exact ⟨tyL O (O.tmp _ (List.mem_cons_self ..)) q, F, env, _, st1, S1, (Post.bind h1).imp fun rs st2 _ h2 vs H2 hl ⟨ι2, O2⟩ => hs F ι2 σ env ts _ st2 H2 x rx vs rs Q hl O2 h2⟩
    · rw [if_neg q] at h1; exact h1.elim
theorem d_mtL0 (n : Str) (slot : Slot "list" n id) (hty : typeOf (.builtin id) = pure (.type "method_descriptor")) (hm : MtR X id rm) (hs : SemM X.K W rm gm) (ho : PE X o (tE X.K W fo)) (h1 : attributeBase o n X.env (eval o X.env) = eval o X.env := by rfl) (h3 : (apos.endLine == cpos.line) = true := by rfl) :
    PE X (.Call (.Attribute o n apos) [] [] cpos) (tE X.K W (eMt isLs gm fo aNil)) :=
  pe_up (pe_bm0 PySem.F.plainAttrs_list slot hty hm ho h1 h3) fun σ H Q ⟨F, env, ts, st, S, h⟩ => tE.go S h fun rx st1 x H1 S1 h1 => by
    by_cases q : isLs st1 rx = true
    · rw [if_pos q] at h1
      obtain ⟨ι, O⟩ := _root_.id S1
      exact ⟨tyL O (O.tmp _ (List.mem_cons_self ..)) q, hs F ι σ env ts _ st1 H1 x rx [] [] Q rfl O h1⟩
    · rw [if_neg q] at h1; exact h1.elim
end
def gAppend (x : RV) (rs : List RV) (st : Stx) : Rs RV := match x, rs with
  | .ptr n, [.val d] => match st.at' n with
    | some (.lst ds) => if ds.length < cap then .ok (.val .non) (st.set n (.lst (ds ++ [d]))) else .no
    | _ => .no
  | _, _ => .no
def gExtend (x : RV) (rs : List RV) (st : Stx) : Rs RV := match x, rs with
  | .ptr n, [r] => match st.at' n, st.lsA r with
    | some (.lst ds), some es => if ds.length + es.length ≤ cap then .ok (.val .non) (st.set n (.lst (ds ++ es))) else .no
    | _, _ => .no
  | _, _ => .no
def gPop (x : RV) (rs : List RV) (st : Stx) : Rs RV := match x, rs with
  | .ptr n, [] => match st.at' n with
    | some (.lst ds) => match ds[ds.length - 1]? with
      | some d => .ok (.val d) (st.set n (.lst ds.dropLast))
      | none => .no
    | _ => .no
  | _, _ => .no
def gInsert (x : RV) (rs : List RV) (st : Stx) : Rs RV := match x, rs with
  | .ptr n, [.val (.int i), .val d] => match st.at' n with
    | some (.lst ds) => if ds.length < cap ∧ 0 ≤ i ∧ i < 2 ^ 63 then .ok (.val .non) (st.set n (.lst (ds.take i.toNat ++ [d] ++ ds.drop i.toNat))) else .no
    | _ => .no
  | _, _ => .no
section
variable {K : PySem.W.Frag} {W : WX} {F : Frm} {ι : Nat → Addr} {σ : L2.St} {env : Env} {ts ts0 ts' : List (V × RV)} {st st' : Stx} {H H' : Hp} {v : V} {r : RV} {p a : Addr} {ds es : List D} {vs : List V} {rs : List RV} {ks : List Key} {m : Bool} {P : Addr → Prop} {nd : Nd} {Q : VK}
theorem zip1 {r : RV} (hl : vs.length = [r].length) : ∃ v, vs = [v] := by
  cases vs with
  | nil => simp at hl
  | cons v vs => cases vs with
    | nil => exact ⟨v, rfl⟩
    | cons _ _ => simp at hl
theorem zip2 {r r' : RV} (hl : vs.length = [r, r'].length) : ∃ v w, vs = [v, w] := by
  cases vs with
  | nil => simp at hl
  | cons v vs => cases vs with
    | nil => simp at hl
    | cons w vs => cases vs with
      | nil => exact ⟨v, w, rfl⟩
      | cons _ _ => simp at hl
theorem Ok.lsA (O : Ok K F ι σ env ts st H) (h : RVl K (Pf F ι st) H ι st.nx r v) (e : st.lsA r = some ds) : ∃ a vs, v = .ref a ∧ (Rd H a (.lst vs) ∨ KL K a vs) ∧ ds.length ≤ cap ∧ Vls K (Pf F ι st) H ds vs := by
  cases r with
  | val d =>
    cases d with
    | lst xs =>
      cases e
      obtain ⟨a, vs, e1, la, l, q⟩ := h
      exact ⟨a, vs, e1, la.elim (fun h => .inl h.2) .inr, l, q⟩
    | _ => cases e
  | ptr n =>
    obtain ⟨_, e1⟩ := h
    simp only [Stx.lsA, Stx.ls] at e
    cases q : st.at' n with
    | none => rw [q] at e; cases e
    | some nd =>
      rw [q] at e
      cases nd with
      | lst xs =>
        cases e
        obtain ⟨⟨vs, h1, h2, h3⟩, _⟩ := O.node n _ q
        exact ⟨_, vs, e1, .inl (.inl h1), h2, h3⟩
      | dct _ _ _ => cases e
      | obj _ _ _ => cases e
theorem sem_append : SemM K W rAppend gAppend := fun F ι σ env ts ts0 st H x rx vs rs Q hl O h => by
  unfold gAppend at h
  split at h
  · rename_i n d
    split at h
    · rename_i ds e
      by_cases q : ds.length < cap
      · rw [if_pos q] at h
        obtain ⟨y, rfl⟩ := zip1 hl
        obtain ⟨_, rfl⟩ := (show RVl K _ _ ι _ (.ptr n) x from O.tmp (x, .ptr n) (List.mem_cons_of_mem _ (List.mem_cons_self ..)))
        have hy : Vl K (Pf F ι st) H d y := O.tmp (y, .val d) (List.mem_cons_self ..)
        obtain ⟨⟨us, h1, h2, h3⟩, hn⟩ := O.node n _ e
        have O' := O.wrL e (es := ds ++ [d]) (by rw [List.length_append, List.length_singleton]; omega) (Vls.append h3 (Vls.one hy))
        refine ⟨_, us, y, rfl, rfl, h1, ?_, h .non _ ⟨ι, (O'.push (v := .non) (r := .val .non) rfl).tmps fun t m => ?_⟩⟩
        · rw [h3.length]; exact Nat.lt_of_lt_of_le q capS
        · exact (List.mem_cons.mp m).elim (fun e => e ▸ List.mem_cons_self ..) fun m => List.mem_cons_of_mem _ (List.mem_cons_of_mem _ (List.mem_cons_of_mem _ m))
      · rw [if_neg q] at h; exact h.elim
    · exact h.elim
  · exact h.elim
theorem sem_extend : SemM K W (fun x vs H Q => ∃ l b xs zs, x = .ref l ∧ vs = [.ref b] ∧ H l = some (.lst xs) ∧ (Rd H b (.lst zs) ∨ KL K b zs) ∧ xs.length + zs.length ≤ sizeLine ∧ Q .non (upd H l (.lst (xs ++ zs)))) gExtend := fun F ι σ env ts ts0 st H x rx vs rs Q hl O h => by
  unfold gExtend at h
  split at h
  · rename_i n r
    split at h
    · rename_i ds es e e2
      by_cases q : ds.length + es.length ≤ cap
      · rw [if_pos q] at h
        obtain ⟨y, rfl⟩ := zip1 hl
        obtain ⟨_, rfl⟩ := (show RVl K _ _ ι _ (.ptr n) x from O.tmp (x, .ptr n) (List.mem_cons_of_mem _ (List.mem_cons_self ..)))
        obtain ⟨b, zs, rfl, lb, l2, q2⟩ := O.lsA (O.tmp (y, r) (List.mem_cons_self ..)) e2
        obtain ⟨⟨us, h1, h2, h3⟩, hn⟩ := O.node n _ e
        have O' := O.wrL e (es := ds ++ es) (by rw [List.length_append]; omega) (Vls.append h3 q2)
        refine ⟨_, b, us, zs, rfl, rfl, h1, lb, ?_, h .non _ ⟨ι, (O'.push (v := .non) (r := .val .non) rfl).tmps fun t m => ?_⟩⟩
        · rw [h3.length, q2.length]; exact Nat.le_trans q capS
        · exact (List.mem_cons.mp m).elim (fun e => e ▸ List.mem_cons_self ..) fun m => List.mem_cons_of_mem _ (List.mem_cons_of_mem _ (List.mem_cons_of_mem _ m))
      · rw [if_neg q] at h; exact h.elim
    · exact h.elim
  · exact h.elim
theorem vls_dropLast {K : PySem.W.Frag} {P : Addr → Prop} {H : Hp} {ds : List D} {vs : List V} (h : Vls K P H ds vs) : Vls K P H ds.dropLast vs.dropLast := by
  rw [List.dropLast_eq_take, List.dropLast_eq_take, h.length]
  exact Vls.take _ h
theorem sem_pop : SemM K W rPop gPop := fun F ι σ env ts ts0 st H x rx vs rs Q hl O h => by
  unfold gPop at h
  split at h
  · rename_i n
    split at h
    · rename_i ds e
      split at h
      · rename_i d hd
        obtain rfl : vs = [] := by simpa using hl
        obtain ⟨_, rfl⟩ := (show RVl K _ _ ι _ (.ptr n) x from O.tmp (x, .ptr n) (List.mem_cons_self ..))
        obtain ⟨⟨us, h1, h2, h3⟩, hn⟩ := O.node n _ e
        obtain ⟨w, g1, g2⟩ := h3.get hd
        have O1 := O.push (v := w) (r := .val d) g2
        have O' := O1.wrL e (es := ds.dropLast) (by rw [List.length_dropLast]; omega) (vls_dropLast h3)
        refine ⟨_, us, w, rfl, rfl, h1, by rw [h3.length]; exact g1, h w _ ⟨ι, O'.tmps fun t m => ?_⟩⟩
        exact (List.mem_cons.mp m).elim (fun e => e ▸ List.mem_cons_self ..) fun m => List.mem_cons_of_mem _ (List.mem_cons_of_mem _ m)
      · exact h.elim
    · exact h.elim
  · exact h.elim
theorem sem_insert : SemM K W (fun x vs H Q => ∃ (l : Addr) (xs : List V) (i : Int) (y : V), x = .ref l ∧ vs = [.int i, y] ∧ H l = some (.lst xs) ∧ xs.length < sizeLine ∧ 0 ≤ i ∧ i < 2 ^ 63 ∧ Q .non (upd H l (.lst (xs.take i.toNat ++ [y] ++ xs.drop i.toNat)))) gInsert := fun F ι σ env ts ts0 st H x rx vs rs Q hl O h => by
  unfold gInsert at h
  split at h
  · rename_i n i d
    split at h
    · rename_i ds e
      by_cases q : ds.length < cap ∧ 0 ≤ i ∧ i < 2 ^ 63
      · rw [if_pos q] at h
        obtain ⟨z, y, rfl⟩ := zip2 hl
        obtain ⟨_, rfl⟩ := (show RVl K _ _ ι _ (.ptr n) x from O.tmp (x, .ptr n) (List.mem_cons_of_mem _ (List.mem_cons_of_mem _ (List.mem_cons_self ..))))
        cases (show z = .int i from O.tmp (z, .val (.int i)) (List.mem_cons_self ..))
        have hy : Vl K (Pf F ι st) H d y := O.tmp (y, .val d) (List.mem_cons_of_mem _ (List.mem_cons_self ..))
        obtain ⟨⟨us, h1, h2, h3⟩, hn⟩ := O.node n _ e
        have O' := O.wrL e (es := ds.take i.toNat ++ [d] ++ ds.drop i.toNat) (by simp only [List.length_append, List.length_take, List.length_drop, List.length_singleton]; omega) (Vls.append (Vls.append (Vls.take _ h3) (Vls.one hy)) (Vls.drop _ h3))
        refine ⟨_, us, i, y, rfl, rfl, h1, ?_, q.2.1, q.2.2, h .non _ ⟨ι, (O'.push (v := .non) (r := .val .non) rfl).tmps fun t m => ?_⟩⟩
        · rw [h3.length]; exact Nat.lt_of_lt_of_le q.1 capS
        · exact (List.mem_cons.mp m).elim (fun e => e ▸ List.mem_cons_self ..) fun m => List.mem_cons_of_mem _ (List.mem_cons_of_mem _ (List.mem_cons_of_mem _ (List.mem_cons_of_mem _ m)))
      · rw [if_neg q] at h; exact h.elim
    · exact h.elim
  · exact h.elim
end
end DM
namespace DM
open PySem PySem.Spec PyProof.Rows L2
theorem call2 {X : Cx} {f : Value} {r1 r2 : List V → Hp → VK → Prop} (h1 : CallR X f r1) (h2 : CallR X f r2) : CallR X f fun xs H Q => r1 xs H Q ∨ r2 xs H Q :=
  fun pins s σ H xs us Q I rx h => h.elim (h1 pins s σ H xs us Q I rx) (h2 pins s σ H xs us Q I rx)
def allI : List D → Option (List Int)
  | [] => some []
  | .int i :: r => (allI r).map (i :: ·)
  | _ :: _ => none
def allB : List D → Option (List Bool)
  | [] => some []
  | .bl i :: r => (allB r).map (i :: ·)
  | _ :: _ => none
def allS : List D → Option (List Str)
  | [] => some []
  | .str i :: r => (allS r).map (i :: ·)
  | _ :: _ => none
section
variable {K : PySem.W.Frag} {P : Addr → Prop} {H : Hp}
theorem allI_v : ∀ {ds : List D} {vs : List V} {is : List Int}, allI ds = some is → Vls K P H ds vs → vs = is.map V.int
  | [], vs, is, e, h => by unfold allI at e; cases e; exact h
  | d :: ds, vs, is, e, h => by
    obtain ⟨v, r, rfl, h1, h2⟩ := h
    cases d <;> try (unfold allI at e; cases e; done)
    simp only [allI] at e
    obtain ⟨js, e1, e2⟩ := Option.map_eq_some_iff.mp e
    subst e2
    cases (show v = _ from h1)
    rw [allI_v e1 h2, List.map_cons]
theorem allB_v : ∀ {ds : List D} {vs : List V} {is : List Bool}, allB ds = some is → Vls K P H ds vs → vs = is.map V.bl
  | [], vs, is, e, h => by unfold allB at e; cases e; exact h
  | d :: ds, vs, is, e, h => by
    obtain ⟨v, r, rfl, h1, h2⟩ := h
    cases d <;> try (unfold allB at e; cases e; done)
    simp only [allB] at e
    obtain ⟨js, e1, e2⟩ := Option.map_eq_some_iff.mp e
    subst e2
    cases (show v = _ from h1)
    rw [allB_v e1 h2, List.map_cons]
theorem allS_v : ∀ {ds : List D} {vs : List V} {is : List Str}, allS ds = some is → Vls K P H ds vs → vs = is.map V.str
  | [], vs, is, e, h => by unfold allS at e; cases e; exact h
  | d :: ds, vs, is, e, h => by
    obtain ⟨v, r, rfl, h1, h2⟩ := h
    cases d <;> try (unfold allS at e; cases e; done)
    simp only [allS] at e
    obtain ⟨js, e1, e2⟩ := Option.map_eq_some_iff.mp e
    subst e2
    cases (show v = _ from h1)
    rw [allS_v e1 h2, List.map_cons]
theorem strs_v : ∀ {is : List Str}, Vls K P H (is.map D.str) (is.map V.str)
  | [] => rfl
  | i :: is => ⟨_, _, rfl, rfl, strs_v⟩
theorem keys_v : ∀ {kvs : List (Key × V)}, Vls K P H ((kvs.map (·.1)).map keyD) (kvs.map fun kv => kV kv.1)
  | [] => rfl
  | (k, v) :: kvs => ⟨_, _, rfl, by cases k <;> rfl, keys_v⟩
end
def insS (x : Str) : List Str → List Str
  | [] => [x]
  | y :: r => if ltCps (M.cs x) (M.cs y) = true then x :: y :: r else y :: insS x r
def sortS : List Str → List Str
  | [] => []
  | x :: r => insS x (sortS r)
theorem insS_mem {x z : Str} : ∀ {l : List Str}, z ∈ insS x l ↔ z = x ∨ z ∈ l
  | [] => by simp [insS]
  | y :: r => by
    unfold insS
    split
    · simp
    · rw [List.mem_cons, insS_mem (l := r), List.mem_cons]
      constructor
      · rintro (h | h | h)
        · exact .inr (.inl h)
        · exact .inl h
        · exact .inr (.inr h)
      · rintro (h | h | h)
        · exact .inr (.inl h)
        · exact .inl h
        · exact .inr (.inr h)
theorem sortS_mem {z : Str} : ∀ {l : List Str}, z ∈ sortS l ↔ z ∈ l
  | [] => Iff.rfl
  | x :: r => by unfold sortS; rw [insS_mem, sortS_mem (l := r), List.mem_cons]
theorem insS_rise {x : Str} : ∀ {l : List Str}, M.Rise l → x ∉ l → M.Rise (insS x l)
  | [], _, _ => List.pairwise_singleton ..
  | y :: r, h, n => by
    unfold insS
    have h' := List.pairwise_cons.mp h
    by_cases q : ltCps (M.cs x) (M.cs y) = true
    · rw [if_pos q]
      refine List.pairwise_cons.mpr ⟨fun z m => ?_, h⟩
      rcases List.mem_cons.mp m with rfl | m
      · exact q
      · exact M.lt_tr q (h'.1 z m)
    · rw [if_neg q]
      simp only [List.mem_cons, not_or] at n
      refine List.pairwise_cons.mpr ⟨fun z m => ?_, insS_rise h'.2 n.2⟩
      rcases insS_mem.mp m with rfl | m
      · rcases M.lt_tri (M.cs z) (M.cs y) with h1 | h1 | h1
        · exact (q h1).elim
        · exact (n.1 (M.cs_inj h1)).elim
        · exact h1
      · exact h'.1 z m
theorem sortS_rise : ∀ {l : List Str}, l.Nodup → M.Rise (sortS l)
  | [], _ => List.Pairwise.nil
  | x :: r, h => by
    have h' := List.nodup_cons.mp h
    exact insS_rise (sortS_rise h'.2) fun m => h'.1 (sortS_mem.mp m)
theorem sortS_eq {l ys : List Str} (h : l.Nodup) (p : ys.Perm l) (s : sortedS ys = true) : ys = sortS l :=
  M.rise_eq (M.rise_of ys s (p.nodup_iff.mpr h)) (sortS_rise h) fun z => by rw [sortS_mem]; exact p.mem_iff
theorem insS_len {x : Str} : ∀ {l : List Str}, (insS x l).length = l.length + 1
  | [] => rfl
  | y :: r => by
    unfold insS
    split
    · rfl
    · rw [List.length_cons, List.length_cons, insS_len]
theorem sortS_len : ∀ {l : List Str}, (sortS l).length = l.length
  | [] => rfl
  | x :: r => by unfold sortS; rw [insS_len, List.length_cons, sortS_len]
def nodupS : List Str → Bool
  | [] => true
  | x :: r => !r.contains x && nodupS r
theorem nodupS_of : ∀ {l : List Str}, nodupS l = true → l.Nodup
  | [], _ => List.nodup_nil
  | x :: r, h => by
    unfold nodupS at h
    rw [Bool.and_eq_true] at h
    refine List.nodup_cons.mpr ⟨fun m => ?_, nodupS_of h.2⟩
    have := h.1
    simp [m] at this
def gLen (rs : List RV) (st : Stx) : Rs RV := match rs with
  | [.val (.str s)] => if s.length ≤ cap then .ok (.val (.int s.length)) st else .no
  | [.val (.tup ds)] => .ok (.val (.int ds.length)) st
  | [r] => match st.ls r with
    | some ds => .ok (.val (.int ds.length)) st
    | none => match st.dc r with
      | some (ks, _) => .ok (.val (.int ks.length)) st
      | none => .no
  | _ => .no
def gInt (rs : List RV) (st : Stx) : Rs RV := match rs with
  | [.val (.int i)] => .ok (.val (.int i)) st
  | [.val (.bl b)] => .ok (.val (.int (if b then 1 else 0))) st
  | _ => .no
def gStr (rs : List RV) (st : Stx) : Rs RV := match rs with
  | [.val (.str s)] => .ok (.val (.str s)) st
  | _ => .no
def gAbs (rs : List RV) (st : Stx) : Rs RV := match rs with
  | [.val (.int i)] => .ok (.val (.int (if i < 0 then -i else i))) st
  | _ => .no
def gOrd (rs : List RV) (st : Stx) : Rs RV := match rs with
  | [.val (.str s)] => if s.length = 1 then .ok (.val (.int (s.cps.getD 0 0 : Nat))) st else .no
  | _ => .no
def gMin2 (rs : List RV) (st : Stx) : Rs RV := match rs with
  | [.val (.int i), .val (.int j)] => .ok (.val (.int (if j < i then j else i))) st
  | _ => .no
def gSum (rs : List RV) (st : Stx) : Rs RV := match rs with
  | [r] => match (st.ls r).bind allI with
    | some is => .ok (.val (.int is.sum)) st
    | none => .no
  | _ => .no
def gAll (rs : List RV) (st : Stx) : Rs RV := match rs with
  | [r] => match (st.ls r).bind allB with
    | some bs => .ok (.val (.bl (bs.all _root_.id))) st
    | none => .no
  | _ => .no
def gAny (rs : List RV) (st : Stx) : Rs RV := match rs with
  | [r] => match (st.ls r).bind allB with
    | some bs => .ok (.val (.bl (bs.any _root_.id))) st
    | none => .no
  | _ => .no
def gSorted (m : Bool) (rs : List RV) (st : Stx) : Rs RV := match rs with
  | [r] => match (st.ls r).bind allS with
    | some xs => if nodupS xs = true ∧ xs.length < 64 then okL m ((sortS xs).map .str) st else .no
    | none => .no
  | _ => .no
def gList (m : Bool) (rs : List RV) (st : Stx) : Rs RV := match rs with
  | [.val (.tup ds)] => okL m ds st
  | [r] => match st.ls r with
    | some ds => okL m ds st
    | none => match st.dc r with
      | some (ks, _) => okL m (ks.map keyD) st
      | none => .no
  | _ => .no
def gTuple (rs : List RV) (st : Stx) : Rs RV := match rs with
  | [.val (.tup ds)] => .ok (.val (.tup ds)) st
  | [r] => match st.ls r with
    | some ds => .ok (.val (.tup ds)) st
    | none => .no
  | _ => .no
def gDict (m : Bool) (rs : List RV) (st : Stx) : Rs RV := match rs with
  | [r] => match st.dc r with
    | some (ks, ds) => okD m ks ds st
    | none => .no
  | _ => .no
section
variable {K : PySem.W.Frag} {W : WX} {F : Frm} {ι : Nat → Addr} {σ : L2.St} {env : Env} {ts ts0 ts' : List (V × RV)} {st st' : Stx} {H H' : Hp} {v : V} {r : RV} {p a : Addr} {ds es : List D} {vs : List V} {rs : List RV} {ks : List Key} {m : Bool} {P : Addr → Prop} {nd : Nd} {Q : VK} {X : Cx}
theorem Post.fl {d : D} (O : Ok K F ι σ env ts' st H) (hd : d.flat = true) (hs : ∀ t ∈ ts, t ∈ ts') (h : Post K W F σ env ts0 (Rs.ok (.val d) st) (okE K F σ env ts Q)) : Q d.v H :=
  h _ H ((StOk.tmps ⟨ι, O⟩ hs).flat d hd)
theorem inApp {α : Type} {xs ts : List α} : ∀ t ∈ ts, t ∈ xs ++ ts := fun t m => List.mem_append_right _ m
theorem Ok.arg1 {v : V} {r : RV} (O : Ok K F ι σ env (([v] : List V).zip [r] ++ ts) st H) : RVl K (Pf F ι st) H ι st.nx r v := O.tmp (v, r) (List.mem_cons_self ..)
theorem call_lenDR : CallR X (.builtin "len") (fun xs H Q => ∃ a kvs, xs = [V.ref a] ∧ Rd H a (.dK kvs) ∧ Q (.int kvs.length) H) := fun pins s σ H xs us Q I r h => by
  obtain ⟨a, kvs, rfl, ha, q⟩ := h
  obtain ⟨u, rfl, ru⟩ := Vals.one r
  cases (show u = Value.ref a from ru)
  exact d_len I ha fun t s' I' => ⟨.int kvs.length, H, I', ⟨t, rfl⟩, q⟩
def rLenU (K : PySem.W.Frag) : List V → Hp → VK → Prop := fun xs H Q => ((∃ x n, xs = [x] ∧ LenV K x H n ∧ Q (.int n) H)) ∨ (∃ a kvs, xs = [V.ref a] ∧ Rd H a (.dK kvs) ∧ Q (.int kvs.length) H)
theorem call_lenU : CallR X (.builtin "len") (rLenU X.K) := call2 call_len call_lenDR
theorem sem_len : SemB K W (rLenU K) gLen := fun F ι σ env ts ts0 st H vs rs Q hl O h => by
  unfold gLen at h
  split at h
  · rename_i s
    obtain ⟨v, rfl⟩ := zip1 hl
    cases (show v = .str s from O.arg1)
    by_cases q : s.length ≤ cap
    · rw [if_pos q] at h
      exact .inl ⟨_, s.length, rfl, ⟨Nat.le_trans q capS, rfl⟩, Post.fl (d := .int s.length) O rfl inApp h⟩
    · rw [if_neg q] at h; exact h.elim
  · rename_i ds
    obtain ⟨v, rfl⟩ := zip1 hl
    obtain ⟨a, us, rfl, la, l, q⟩ := (show Vl K _ H (.tup ds) v from O.arg1)
    exact .inl ⟨_, ds.length, rfl, .inr ⟨us, la.sq, q.length.symm⟩, Post.fl (d := .int ds.length) O rfl inApp h⟩
  · rename_i r _ _
    obtain ⟨v, rfl⟩ := zip1 hl
    split at h
    · rename_i ds e
      obtain ⟨a, us, rfl, la, l, q⟩ := O.ls O.arg1 e
      exact .inl ⟨_, ds.length, rfl, .inl ⟨us, la, q.length.symm⟩, Post.fl (d := .int ds.length) O rfl inApp h⟩
    · split at h
      · rename_i ks ds e
        obtain ⟨a, kvs, rfl, ra, e1, _, _, _⟩ := O.dc O.arg1 e
        refine .inr ⟨a, kvs, rfl, ra, ?_⟩
        rw [show kvs.length = ks.length by rw [← e1, List.length_map]]
        exact Post.fl (d := .int ks.length) O rfl inApp h
      · exact h.elim
  · exact h.elim
theorem sem_int : SemB K W (fun xs H Q => (∃ i, xs = [.int i] ∧ Q (.int i) H) ∨ ∃ k, xs = [.bl k] ∧ Q (.int (if k then 1 else 0)) H) gInt := fun F ι σ env ts ts0 st H vs rs Q hl O h => by
  unfold gInt at h
  split at h
  · rename_i i
    obtain ⟨v, rfl⟩ := zip1 hl
    cases (show v = .int i from O.arg1)
    exact .inl ⟨i, rfl, Post.fl (d := .int i) O rfl inApp h⟩
  · rename_i i
    obtain ⟨v, rfl⟩ := zip1 hl
    cases (show v = .bl i from O.arg1)
    exact .inr ⟨i, rfl, Post.fl (d := .int _) O rfl inApp h⟩
  · exact h.elim
theorem sem_str : SemB K W (fun xs H Q => ∃ a, xs = [V.str a] ∧ Q (V.str a) H) gStr := fun F ι σ env ts ts0 st H vs rs Q hl O h => by
  unfold gStr at h
  split at h
  · rename_i i
    obtain ⟨v, rfl⟩ := zip1 hl
    cases (show v = .str i from O.arg1)
    exact ⟨i, rfl, Post.fl (d := .str i) O rfl inApp h⟩
  · exact h.elim
theorem sem_abs : SemB K W (fun xs H Q => ∃ i, xs = [.int i] ∧ Q (.int (if i < 0 then -i else i)) H) gAbs := fun F ι σ env ts ts0 st H vs rs Q hl O h => by
  unfold gAbs at h
  split at h
  · rename_i i
    obtain ⟨v, rfl⟩ := zip1 hl
    cases (show v = .int i from O.arg1)
    exact ⟨i, rfl, Post.fl (d := .int _) O rfl inApp h⟩
  · exact h.elim
theorem sem_ord1 : SemB K W (fun xs H Q => ∃ x, xs = [V.str x] ∧ x.length = 1 ∧ Q (V.int ((x.cps.getD 0 0 : Nat) : Int)) H) gOrd := fun F ι σ env ts ts0 st H vs rs Q hl O h => by
  unfold gOrd at h
  split at h
  · rename_i i
    obtain ⟨v, rfl⟩ := zip1 hl
    cases (show v = .str i from O.arg1)
    by_cases q : i.length = 1
    · rw [if_pos q] at h
      exact ⟨i, rfl, q, Post.fl (d := .int _) O rfl inApp h⟩
    · rw [if_neg q] at h; exact h.elim
  · exact h.elim
theorem sem_sum : SemB K W (rSum K) gSum := fun F ι σ env ts ts0 st H vs rs Q hl O h => by
  unfold gSum at h
  split at h
  · rename_i r
    obtain ⟨v, rfl⟩ := zip1 hl
    split at h
    · rename_i is e
      obtain ⟨ds, e1, e2⟩ := Option.bind_eq_some_iff.mp e
      obtain ⟨a, us, rfl, la, l, q⟩ := O.ls O.arg1 e1
      rw [allI_v e2 q] at la
      exact ⟨a, is, rfl, la, Post.fl (d := .int _) O rfl inApp h⟩
    · exact h.elim
  · exact h.elim
theorem sem_all : SemB K W (rAll K) gAll := fun F ι σ env ts ts0 st H vs rs Q hl O h => by
  unfold gAll at h
  split at h
  · rename_i r
    obtain ⟨v, rfl⟩ := zip1 hl
    split at h
    · rename_i is e
      obtain ⟨ds, e1, e2⟩ := Option.bind_eq_some_iff.mp e
      obtain ⟨a, us, rfl, la, l, q⟩ := O.ls O.arg1 e1
      rw [allB_v e2 q] at la
      exact ⟨a, is, rfl, la, Post.fl (d := .bl _) O rfl inApp h⟩
    · exact h.elim
  · exact h.elim
theorem sem_any : SemB K W (rAny K) gAny := fun F ι σ env ts ts0 st H vs rs Q hl O h => by
  unfold gAny at h
  split at h
  · rename_i r
    obtain ⟨v, rfl⟩ := zip1 hl
    split at h
    · rename_i is e
      obtain ⟨ds, e1, e2⟩ := Option.bind_eq_some_iff.mp e
      obtain ⟨a, us, rfl, la, l, q⟩ := O.ls O.arg1 e1
      rw [allB_v e2 q] at la
      exact ⟨a, is, rfl, la, Post.fl (d := .bl _) O rfl inApp h⟩
    · exact h.elim
  · exact h.elim
theorem sem_sorted : SemB K W (rSortedS K) (gSorted m) := fun F ι σ env ts ts0 st H vs rs Q hl O h => by
  unfold gSorted at h
  split at h
  · rename_i r
    obtain ⟨v, rfl⟩ := zip1 hl
    split at h
    · rename_i xs e
      by_cases q : nodupS xs = true ∧ xs.length < 64
      · rw [if_pos q] at h
        obtain ⟨ds, e1, e2⟩ := Option.bind_eq_some_iff.mp e
        obtain ⟨a, us, rfl, la, l, q1⟩ := O.ls O.arg1 e1
        rw [allS_v e2 q1] at la
        refine ⟨a, xs, rfl, la, q.2, fun ys p hp hs np => ?_⟩
        rw [sortS_eq (nodupS_of q.1) hp hs]
        exact Post.mkL O (M.same_new np) inApp np upd_same strs_v h
      · rw [if_neg q] at h; exact h.elim
    · exact h.elim
  · exact h.elim
end
end DM
namespace DM
open PySem PySem.Spec PyProof.Rows L2
/-- a type: a builtin's, an own class -/
inductive Tg where
  | b (n : String) | c (C : Addr)
  deriving DecidableEq
def Tg.v : Tg → Value
  | .b n => .type n | .c C => .ref C
def tgD : D → Option Tg
  | .non => some (.b "NoneType") | .bl _ => some (.b "bool") | .int _ => some (.b "int") | .str _ => some (.b "str") | .lst _ => some (.b "list") | .tup _ => some (.b "tuple") | .dct _ _ => some (.b "dict") | .obj C _ _ => some (.c C) | _ => none
def Stx.tg (st : Stx) : RV → Option Tg
  | .val d => tgD d
  | .ptr n => match st.at' n with
    | some (.lst _) => some (.b "list") | some (.dct _ _ _) => some (.b "dict") | some (.obj C _ _) => some (.c C) | none => none
def clsTg : RV → Option Tg
  | .val (.ty n) => some (.b n)
  | .val (.glb C) => some (.c C)
  | _ => none
/-- what isinstance says, class by class -/
def isiT : List (Tg × Tg × Bool) → Tg → Tg → Option Bool
  | [], _, _ => none
  | (a, b, r) :: t, x, y => if a = x ∧ b = y then some r else isiT t x y
def gIsi (tab : List (Tg × Tg × Bool)) (rs : List RV) (st : Stx) : Rs RV := match rs with
  | [x, c] => match st.tg x, clsTg c with
    | some t, some u => match isiT tab t u with
      | some b => .ok (.val (.bl b)) st
      | none => .no
    | _, _ => .no
  | _ => .no
structure ClsT (K : PySem.W.Frag) (C : Addr) : Prop where
  c : Cls K C
  f : PySem.W.findIn K (.ref C) "__class__" = some (some (.builtin "object.__class__"))
  s : PySem.W.specialIn K (.builtin "object.__class__") "__get__" = some (some (.builtin "getset_descriptor.__get__"))
  t : PySem.W.takesIn K (.builtin "object.__class__") = some true
  m : PySem.W.mroIn K C (.type "object") = some true
structure IsiOk (K : PySem.W.Frag) (tab : List (Tg × Tg × Bool)) : Prop where
  ok : ∀ e ∈ tab, PySem.W.kitOne K e.1.v e.2.1.v = some e.2.2
  cls : ∀ C u b, ((Tg.c C, u, b) : Tg × Tg × Bool) ∈ tab → ClsT K C
theorem isiT_mem : ∀ {tab : List (Tg × Tg × Bool)} {t u : Tg} {b : Bool}, isiT tab t u = some b → (t, u, b) ∈ tab
  | [], _, _, _, h => by cases h
  | (x, y, r) :: tab, t, u, b, h => by
    unfold isiT at h
    split at h
    · rename_i q
      cases h
      rw [← q.1, ← q.2]
      exact List.mem_cons_self ..
    · exact List.mem_cons_of_mem _ (isiT_mem h)
section
variable {K : PySem.W.Frag} {W : WX} {F : Frm} {ι : Nat → Addr} {σ : L2.St} {env : Env} {ts ts0 ts' : List (V × RV)} {st st' : Stx} {H H' : Hp} {v : V} {r : RV} {p a : Addr} {ds es : List D} {vs : List V} {rs : List RV} {ks : List Key} {m : Bool} {P : Addr → Prop} {nd : Nd} {Q : VK} {X : Cx}
theorem tyx_d {d : D} {t : Tg} (h : Vl K P H d v) (e : tgD d = some t) (c : ∀ C, t = .c C → ClsT K C) : TyX K H v t.v := by
  cases d <;> try (cases e; done)
  · cases e; cases (show v = _ from h); exact .base .non
  · cases e; cases (show v = _ from h); exact .base (.bl _)
  · cases e; cases (show v = _ from h); exact .base (.int _)
  · cases e; cases (show v = _ from h); exact .base (.str _)
  · cases e
    obtain ⟨a, vs, rfl, (⟨_, h1 | ⟨od, h1⟩⟩ | ⟨its, n, h1, _⟩), _⟩ := h
    · exact .base (.lst h1)
    · exact .base (.frz h1)
    · exact .kList h1 rfl
  · cases e
    obtain ⟨a, vs, rfl, (⟨_, h1 | ⟨od, h1⟩⟩ | ⟨o, its, n, h1, h2, _⟩), _⟩ := h
    · exact .base (.tup h1)
    · exact .fTuple h1
    · exact .kTuple h1 h2
  · cases e
    obtain ⟨a, vs, rfl, ⟨_, h1 | ⟨od, h1⟩⟩, _⟩ := h
    · exact .base (.dK h1)
    · exact .fDict h1
  · cases e
    obtain ⟨a, dx, fvs, rfl, _, h1, _⟩ := h
    have q := c _ rfl
    exact .base (.ins h1 q.c q.f q.s q.t q.m)
theorem Ok.tyx {t : Tg} (O : Ok K F ι σ env ts st H) (h : RVl K (Pf F ι st) H ι st.nx r v) (e : st.tg r = some t) (c : ∀ C, t = .c C → ClsT K C) : TyX K H v t.v := by
  cases r with
  | val d => exact tyx_d h e c
  | ptr n =>
    obtain ⟨_, rfl⟩ := h
    simp only [Stx.tg] at e
    cases q : st.at' n with
    | none => rw [q] at e; cases e
    | some nd =>
      rw [q] at e
      obtain ⟨nn, _⟩ := O.node n nd q
      cases nd with
      | lst ds =>
        cases e
        obtain ⟨vs, h1, _⟩ := nn
        exact .base (.lst h1)
      | dct lk ks ds =>
        cases e
        obtain ⟨kvs, h1, _⟩ := nn
        cases lk with
        | true => obtain ⟨od, h1⟩ := h1; exact .fDict h1
        | false => exact .base (.dK h1)
      | obj C ns rs =>
        cases e
        obtain ⟨dx, fvs, h1, _⟩ := nn
        have q := c _ rfl
        exact .base (.ins h1 q.c q.f q.s q.t q.m)
theorem clsv' {n : Nat} {t : Tg} (h : RVl K P H ι n r v) (e : clsTg r = some t) : ClsV v t.v := by
  cases r with
  | ptr n => cases e
  | val d =>
    cases d <;> try (cases e; done)
    · cases e; cases (show v = _ from h); exact .ty _
    · cases e; cases (show v = _ from h); exact .own _
theorem sem_isi {tab : List (Tg × Tg × Bool)} (T : IsiOk K tab) : SemB K W (rIsi K) (gIsi tab) := fun F ι σ env ts ts0 st H vs rs Q hl O h => by
  unfold gIsi at h
  split at h
  · rename_i x c
    obtain ⟨v, w, rfl⟩ := zip2 hl
    split at h
    · rename_i t u e1 e2
      split at h
      · rename_i b e3
        have m := isiT_mem e3
        have hc : ∀ C, t = .c C → ClsT K C := fun C e => by subst e; exact T.cls C u b m
        exact ⟨v, w, t.v, u.v, b, rfl, clsv' (O.tmp (w, c) (List.mem_cons_of_mem _ (List.mem_cons_self ..))) e2, O.tyx (O.tmp (v, x) (List.mem_cons_self ..)) e1 hc, T.ok _ m, Post.fl (d := .bl b) O rfl inApp h⟩
      · exact h.elim
    · exact h.elim
  · exact h.elim
theorem sem_min2 : SemB K W (fun xs H Q => ∃ i j, xs = [.int i, .int j] ∧ Q (.int (if j < i then j else i)) H) gMin2 := fun F ι σ env ts ts0 st H vs rs Q hl O h => by
  unfold gMin2 at h
  split at h
  · rename_i i j
    obtain ⟨v, w, rfl⟩ := zip2 hl
    cases (show v = .int i from O.tmp (v, .val (.int i)) (List.mem_cons_self ..))
    cases (show w = .int j from O.tmp (w, .val (.int j)) (List.mem_cons_of_mem _ (List.mem_cons_self ..)))
    exact ⟨i, j, rfl, Post.fl (d := .int _) O rfl inApp h⟩
  · exact h.elim
def rListU (K : PySem.W.Frag) : List V → Hp → VK → Prop := fun xs H Q => (∃ p ys, xs = [.ref p] ∧ (SqL K H p ys ∨ SqT K H p ys) ∧ ∀ l, H l = none → Q (.ref l) (upd H l (.lst ys))) ∨
  ∃ (a : Addr) (kvs : List (Key × V)), xs = [.ref a] ∧ Rd H a (.dK kvs) ∧ ∀ p, H p = none → Q (.ref p) (upd H p (.lst (kvs.map fun kv => kV kv.1)))
theorem call_listU (hc : X.calm = true) : CallR X (.type "list") (rListU X.K) := call2 call_list_of (call_listD hc)
theorem sem_list : SemB K W (rListU K) (gList m) := fun F ι σ env ts ts0 st H vs rs Q hl O h => by
  unfold gList at h
  split at h
  · rename_i ds
    obtain ⟨v, rfl⟩ := zip1 hl
    obtain ⟨a, us, rfl, la, l, q⟩ := (show Vl K _ H (.tup ds) v from O.arg1)
    exact .inl ⟨a, us, rfl, .inr la.sq, fun p np => Post.mkL O (M.same_new np) inApp np upd_same q h⟩
  · rename_i r _
    obtain ⟨v, rfl⟩ := zip1 hl
    split at h
    · rename_i ds e
      obtain ⟨a, us, rfl, la, l, q⟩ := O.ls O.arg1 e
      exact .inl ⟨a, us, rfl, .inl la, fun p np => Post.mkL O (M.same_new np) inApp np upd_same q h⟩
    · split at h
      · rename_i ks ds e
        obtain ⟨a, kvs, rfl, ra, e1, _, _, _⟩ := O.dc O.arg1 e
        subst e1
        exact .inr ⟨a, kvs, rfl, ra, fun p np => Post.mkL O (M.same_new np) inApp np upd_same keys_v h⟩
      · exact h.elim
  · exact h.elim
theorem sem_dict : SemB K W (fun xs H Q => ∃ (a : Addr) (kvs : List (Key × V)), xs = [.ref a] ∧ Rd H a (.dK kvs) ∧ ∀ p, H p = none → Q (.ref p) (upd H p (.dK kvs))) (gDict m) := fun F ι σ env ts ts0 st H vs rs Q hl O h => by
  unfold gDict at h
  split at h
  · rename_i r
    obtain ⟨v, rfl⟩ := zip1 hl
    split at h
    · rename_i ks ds e
      obtain ⟨a, kvs, rfl, ra, e1, n1, l1, v1⟩ := O.dc O.arg1 e
      exact ⟨a, kvs, rfl, ra, fun p np => Post.mkD O (M.same_new np) inApp np upd_same v1 e1 n1 h⟩
    · exact h.elim
  · exact h.elim
theorem sem_tuple : SemB K W (fun xs H Q => ∃ p ys, xs = [.ref p] ∧ ((SqL K H p ys ∧ ∀ l, H l = none → Q (.ref l) (upd H l (.tup ys))) ∨ (SqT K H p ys ∧ Q (.ref p) H))) gTuple := fun F ι σ env ts ts0 st H vs rs Q hl O h => by
  unfold gTuple at h
  split at h
  · rename_i ds
    obtain ⟨v, rfl⟩ := zip1 hl
    obtain ⟨a, us, rfl, la, l, q⟩ := (show Vl K _ H (.tup ds) v from O.arg1)
    refine ⟨a, us, rfl, .inr ⟨la.sq, h _ _ ⟨ι, O.tmps fun t m => ?_⟩⟩⟩
    exact (List.mem_cons.mp m).elim (fun e => e ▸ List.mem_cons_self ..) fun m => List.mem_cons_of_mem _ m
  · rename_i r _
    obtain ⟨v, rfl⟩ := zip1 hl
    split at h
    · rename_i ds e
      obtain ⟨a, us, rfl, la, l, q⟩ := O.ls O.arg1 e
      exact ⟨a, us, rfl, .inl ⟨la, fun p np => Post.mkT O (M.same_new np) inApp np upd_same l q h⟩⟩
    · exact h.elim
  · exact h.elim
end
def eJoin (fo fe : EF) : EF := fun env st => (fo env st).bind fun x st1 => match x with
  | .val (.str a) => (fe env st1).bind fun y st2 => match (match y with | .val (.tup ds) => some ds | y => st2.ls y).bind allS with
    | some ys => if (ys.map (·.length)).sum + ys.length * a.length ≤ 16777216 then .ok (.val (.str (Txt.join a ys))) st2 else .no
    | none => .no
  | _ => .no
def eGet (fo fe fd : EF) : EF := fun env st => (fo env st).bind fun x st1 => match st1.dc x with
  | some _ => (fe env st1).bind fun k st2 => (fd env st2).bind fun z st3 => match st3.dc x, keyOf k with
    | some (ks, ds), some k => match lookK ks ds k with
      | some d => .ok (.val d) st3
      | none => .ok z st3
    | _, _ => .no
  | none => .no
def eNeg (f : EF) : EF := fun env st => (f env st).bind fun x st1 => match x with
  | .val (.int i) => .ok (.val (.int (-i))) st1
  | _ => .no
section
variable {X : Cx} {W : WX} {es : List Expr} {pos apos cpos : Pos} {a b c e d k v o f : Expr} {fa fb fc fe fd fk fv fo : EF} {ff : AF} {m : Bool}
theorem d_neg (h : PE X a (tE X.K W fa)) : PE X (.UnaryOp .USub a pos) (tE X.K W (eNeg fa)) := pe_up (pe_un un_neg h) fun σ H Q ⟨F, env, ts, st, S, h⟩ => tE.go S h fun r st1 v H1 S1 h1 => by
  split at h1
  · rename_i i
    obtain ⟨ι, O⟩ := id S1
    exact ⟨i, O.tmp (v, .val (.int i)) (List.mem_cons_self ..), Post.flat (d := .int (-i)) S1 rfl (fun t m => List.mem_cons_of_mem _ m) h1⟩
  · exact h1.elim
theorem d_join (ho : PE X o (tE X.K W fo)) (he : PE X e (tE X.K W fe)) (h1 : starEach [e] X.env = [(false, eval e X.env)] := by rfl) (h2 : attributeBase o "join" X.env (eval o X.env) = eval o X.env := by rfl) (h3 : (apos.endLine == cpos.line) = true := by rfl) : PE X (.Call (.Attribute o "join" apos) [e] [] cpos) (tE X.K W (eJoin fo fe)) :=
  pe_up (pe_join ho he h1 h2 h3) fun σ H Q ⟨F, env, ts, st, S, h⟩ => tE.go S h fun r st1 v H1 S1 h1 => by
    split at h1
    · rename_i a
      have ev : v = .str a := by obtain ⟨ι, O⟩ := S1; exact O.tmp (v, .val (.str a)) (List.mem_cons_self ..)
      refine ⟨⟨a, ev⟩, tE.go S1 h1 fun y st2 w H2 S2 h2 => ?_⟩
      obtain ⟨ι, O⟩ := id S2
      split at h2
      · rename_i ys e1
        obtain ⟨ds, e2, e3⟩ := Option.bind_eq_some_iff.mp e1
        by_cases q : (ys.map (·.length)).sum + ys.length * a.length ≤ 16777216
        · rw [if_pos q] at h2
          have hy := O.tmp (w, y) (List.mem_cons_self ..)
          have hs : ∃ p, w = .ref p ∧ (SqL X.K H2 p (ys.map V.str) ∨ SqT X.K H2 p (ys.map V.str)) := by
            split at e2
            · cases e2
              obtain ⟨p, us, rfl, la, l, q1⟩ := hy
              rw [allS_v e3 q1] at la
              exact ⟨p, rfl, .inr la.sq⟩
            · obtain ⟨p, us, rfl, la, l, q1⟩ := O.ls hy e2
              rw [allS_v e3 q1] at la
              exact ⟨p, rfl, .inl la⟩
          obtain ⟨p, rfl, hs⟩ := hs
          exact ⟨a, p, ys, ev, rfl, hs, q, Post.flat (d := .str _) S2 rfl (fun t m => two _ _ m) h2⟩
        · rw [if_neg q] at h2; exact h2.elim
      · exact h2.elim
    · exact h1.elim
theorem d_get {n : Nat} (hr : Room n X.A) (ho : PE X o (tE X.K W fo)) (he : PE X e (tE X.K W fe)) (hf : PE X f (tE X.K W fd)) (hm : M2 X o "get" apos e f cpos := by exact ⟨by rfl, by rfl, by rfl, by rfl⟩) : PE X (.Call (.Attribute o "get" apos) [e, f] [] cpos) (tE X.K W (eGet fo fe fd)) :=
  pe_up (pe_dget2 (hu1 hr) ho he hf hm) fun σ H Q ⟨F, env, ts, st, S, h⟩ => tE.go S h fun x st1 v H1 S1 h1 => by
    split at h1
    · rename_i kd e1
      obtain ⟨ks, ds⟩ := kd
      have hd : ∃ a kvs, v = .ref a ∧ Rd H1 a (.dK kvs) := by
        obtain ⟨ι, O⟩ := S1
        obtain ⟨a, kvs, e2, ra, _⟩ := O.dc (O.tmp (v, x) (List.mem_cons_self ..)) e1
        exact ⟨a, kvs, e2, ra⟩
      obtain ⟨a, kvs, rfl, ra⟩ := hd
      refine ⟨a, rfl, .inl ⟨kvs, ra⟩, tE.go S1 h1 fun rk st2 y H2 S2 h2 => ?_⟩
      refine tE.go S2 h2 fun rz st3 z H3 S3 h3 => ?_
      obtain ⟨ι, O⟩ := id S3
      split at h3
      · rename_i ks2 ds2 k e3 e4
        obtain ⟨a', ea, g⟩ := O.dget (O.tmp (.ref a, x) (List.mem_cons_of_mem _ (List.mem_cons_of_mem _ (List.mem_cons_self ..)))) e3 e4 (O.tmp (y, rk) (List.mem_cons_of_mem _ (List.mem_cons_self ..)))
        cases ea
        rcases g with ⟨g1, g2⟩ | ⟨dd, w, g1, g2, g3⟩
        · rw [g1] at h3
          exact ⟨none, g2, h3 _ _ ⟨ι, O.tmps fun t m => (List.mem_cons.mp m).elim (fun e => e ▸ List.mem_cons_self ..) fun m => List.mem_cons_of_mem _ (two _ _ m)⟩⟩
        · rw [g1] at h3
          exact ⟨some w, g2, Post.here O (fun t m => List.mem_cons_of_mem _ (two _ _ m)) (r := .val dd) g3 h3⟩
      · exact h3.elim
    · exact h1.elim
end
end DM
namespace DM
open PySem PySem.Spec PyProof.Rows L2
structure MO (P : Program) (w : World) (K : PySem.W.Frag) (mg : Str → Option Value) (base : Heap) (C : Addr) (k : Nat) (m : Str) (ps : List Str) (sp : Sp) : Prop where
  ex : ∃ f fd, FnOk P w K mg base (L2.CX P w) k f fd ps sp ∧ PySem.W.findIn K (.ref C) m = some (some (.ref f)) ∧ PySem.W.isFn K (.ref f) = true ∧ PySem.W.keepIn K (.ref f) = true ∧ PySem.W.fnIn K f = true ∧ Binds K fd ps []
theorem MethX.mo {P : Program} {w : World} {K : PySem.W.Frag} {mg : Str → Option Value} {base : Heap} {C : Addr} {k : Nat} {m : Str} {ps : List Str} {Fm : MF} (D : MethX P w K mg base C k m ps Fm) : MO P w K mg base C k m ps (spM K Fm) := ⟨D.ex⟩
section
theorem fnok_raw {P : Program} {w : World} {K : PySem.W.Frag} {mg : Str → Option Value} {base : Heap} {k : Nat} {ps : List Str} {sp : Sp} {f : Addr} {fd : FuncData} (F : FnOk P w K mg base (L2.CX P w) k f fd ps sp) (b : Binds K fd ps []) : FnR P w K mg base (L2.CX P w) k f sp := by
  refine (F.raw b .nil).imp fun vs H Q E h => ?_
  rw [List.append_nil]
  exact h
end
section
open M (inst_at cmpback)
variable {X : Cx} {k : Nat} {C : Addr} {x m : Str} {ps : List Str} {sp : Sp} {p pos apos : Pos} {e o : Expr} {es : List Expr} {ta tb : TE} {t : TA}
/-- a callee runs within a builtin -/
theorem run_in1 {pins : List (Addr × Obj)} {σ : L2.St} {H : Hp} {s : Shared} {f : Addr} {Q : VK} {us : List Value} {vs : List V} (F : FnR X.prog X.w X.K X.mg X.base (L2.CX X.prog X.w) k f sp) (hr : Room (k + 1) X.A) (I : Inv X pins σ H s) (r : Vals vs us) (h : sp vs H Q E0) :
    wpAny (model X.prog X.w) X.A.in1 (call (.ref f) us) (EP X pins σ Q) X.xe s := by
  refine wpAny_call (codeAny_mono (F X.A.in1 X.stack s H us vs Q E0 hr.in1 I.env0.in1 r h) fun r s' hq => ?_)
  cases r with
  | error e => exact passL _ _ _ _ _ _ I hq
  | ok fl =>
    cases fl with
    | ret u => exact I.after hq
    | next => exact False.elim hq
    | brk => exact False.elim hq
    | cont => exact False.elim hq
theorem run_at {pins : List (Addr × Obj)} {σ : L2.St} {H : Hp} {s : Shared} {f : Addr} {Q : VK} {us : List Value} {vs : List V} (F : FnR X.prog X.w X.K X.mg X.base (L2.CX X.prog X.w) k f sp) (hr : Room k X.A) (I : Inv X pins σ H s) (r : Vals vs us) (h : sp vs H Q E0) :
    wpAny (model X.prog X.w) X.A (call (.ref f) us) (EP X pins σ Q) X.xe s := wpAny_call (run_fnR F hr passL I r h)
theorem inst_at {pins : List (Addr × Obj)} {σ : L2.St} {H : Hp} {s : Shared} {a dx : Addr} {fs : List (Str × V)} (I : Inv X pins σ H s) (h : H a = some (.ins C dx fs)) : ∃ ox od, PySem.W.InstAt s.heap a ox C od ∧ ox.data = .plain := by
  obtain ⟨mA, O, _⟩ := ins_get I.hok h
  obtain ⟨od, J, _⟩ := O.look
  exact ⟨_, _, J, rfl⟩
theorem cmpback {Q : Value → Shared → Prop} {u : Value} {s : Shared} {v : V} (r : RelV v u) (q : Q u s) : PySem.W.CmpBack Q u s := by
  cases v with
  | non => cases (show u = Value.none from r); exact q
  | bl b => cases (show u = Value.bool b from r); exact q
  | int i => obtain ⟨t, e⟩ := (show ∃ t, u = Value.int i t from r); cases e; exact q
  | str x => obtain ⟨t, e⟩ := (show ∃ t, u = Value.str x t from r); cases e; exact q
  | byt b => obtain ⟨t, e⟩ := (show ∃ t, u = Value.bytes b t from r); cases e; exact q
  | flt b => obtain ⟨t, e⟩ := (show ∃ t, u = Value.float b t from r); cases e; exact q
  | ref a => cases (show u = Value.ref a from r); exact q
  | ty n => cases (show u = Value.type n from r); exact q

/-- a[b], a of an own class -/
def rOwn (C : Addr) (sp : Sp) : R2 := fun x y H Q => ∃ a dx fs, x = .ref a ∧ H a = some (.ins C dx fs) ∧ sp [x, y] H Q E0
theorem pe_ixO {a b : Expr} (ha : PE X a ta) (hb : PE X b tb) (D : MO X.prog X.w X.K X.mg X.base C k "__getitem__" ps sp) (hr : Room (k + 1) X.A)
    (hs : ∀ o i, subscripted b true o i = runValue (.builtin "lifetime.subscript" ⟨[o, i], []⟩) := by intro _ _; rfl) : PE X (.Subscript a b pos) (tOp (rOwn C sp) ta tb) := by
  refine ⟨fun pins s σ H Q I h => ?_⟩
  obtain ⟨f, fd, F, hf, hi, kp, fi, bd⟩ := D.ex
  refine Subscript_ (binT ha hb I h fun v u s2 x y H2 I2 rx ry q => ?_)
  obtain ⟨a', dx, fs, rfl, hh, q⟩ := q
  cases (show v = Value.ref a' from rx)
  obtain ⟨ox, od, J, _⟩ := inst_at I2 hh
  obtain ⟨m, hF⟩ := I2.fr
  exact PySem.W.sub_K hF I2.ok.mod.kin J hf fi hi (run_in1 (us := [.ref a', u]) (vs := [.ref a', y]) (fnok_raw F bd) hr I2 (.cons rfl (.cons ry .nil)) q) (hs _ _)
/-- a[b] = v -/
def rOwnSet (C : Addr) (sp : Sp) : TSet := fun o i v H Q => ∃ a dx fs, o = .ref a ∧ H a = some (.ins C dx fs) ∧ sp [o, i, v] H (fun _ H' => Q H') E0
theorem set_own (D : MO X.prog X.w X.K X.mg X.base C k "__setitem__" ps sp) (hq : PySem.W.noSeq X.K C = true) (hr : Room k X.A) : PSet X (rOwnSet C sp) := by
  intro pins s σ H o i v ov iv u Q I ro ri rv h
  obtain ⟨f, fd, F, hf, hi, kp, fi, bd⟩ := D.ex
  obtain ⟨a', dx, fs, rfl, hh, q⟩ := h
  cases (show ov = Value.ref a' from ro)
  obtain ⟨ox, od, J, _⟩ := inst_at I hh
  obtain ⟨m, hF⟩ := I.fr
  refine PySem.W.ksp_setItem hF I.ok.mod.kin J hq hf hi ?_
  exact thn (run_at (us := [.ref a', iv, u]) (vs := [.ref a', i, v]) (fnok_raw F bd) hr I (.cons rfl (.cons ri (.cons rv .nil))) q) fun _ s' ⟨_, H', I', _, q'⟩ => ⟨H', I', q'⟩
/-- x in a -/
def rOwnIn (C : Addr) (sp : Sp) (neg : Bool) : R2 := fun x y H Q => ∃ a dx fs, y = .ref a ∧ H a = some (.ins C dx fs) ∧ sp [y, x] H (fun r H' => ∃ b, r = .bl b ∧ Q (.bl (if neg then !b else b)) H') E0
theorem op_inO (D : MO X.prog X.w X.K X.mg X.base C k "__contains__" ps sp) (hr : Room k X.A) : OpR X (compareOp .In) (rOwnIn C sp false) := by
  intro pins s σ H x y v u Q I rx ry h
  obtain ⟨f, fd, F, hf, hi, kp, fi, bd⟩ := D.ex
  obtain ⟨a', dx, fs, rfl, hh, q⟩ := h
  cases (show u = Value.ref a' from ry)
  obtain ⟨ox, od, J, _⟩ := inst_at I hh
  obtain ⟨m, hF⟩ := I.fr
  refine PySem.W.in_K hF I.ok.mod.kin J hf hi ?_
  refine thn (run_at (us := [.ref a', v]) (vs := [.ref a', x]) (fnok_raw F bd) hr I (.cons rfl (.cons rx .nil)) q) fun r s' ⟨z, H', I', rz, b, e, q'⟩ => ?_
  subst e
  cases (show r = Value.bool b from rz)
  exact wpAny_truthy_bool ⟨.bl b, H', I', rfl, q'⟩
theorem op_ninO (D : MO X.prog X.w X.K X.mg X.base C k "__contains__" ps sp) (hr : Room k X.A) : OpR X (compareOp .NotIn) (rOwnIn C sp true) := by
  intro pins s σ H x y v u Q I rx ry h
  obtain ⟨f, fd, F, hf, hi, kp, fi, bd⟩ := D.ex
  obtain ⟨a', dx, fs, rfl, hh, q⟩ := h
  cases (show u = Value.ref a' from ry)
  obtain ⟨ox, od, J, _⟩ := inst_at I hh
  obtain ⟨m, hF⟩ := I.fr
  refine PySem.W.notIn_K hF I.ok.mod.kin J hf hi ?_
  refine thn (run_at (us := [.ref a', v]) (vs := [.ref a', x]) (fnok_raw F bd) hr I (.cons rfl (.cons rx .nil)) q) fun r s' ⟨z, H', I', rz, b, e, q'⟩ => ?_
  subst e
  cases (show r = Value.bool b from rz)
  exact wpAny_truthy_bool ⟨.bl (!b), H', I', rfl, q'⟩
/-- len(a) -/
def rOwnLen (C : Addr) (sp : Sp) : List V → Hp → VK → Prop := fun xs H Q => ∃ a dx fs, xs = [.ref a] ∧ H a = some (.ins C dx fs) ∧ sp xs H (fun r H' => ∃ n : Int, r = .int n ∧ (0 ≤ n ∧ n < 2 ^ 63) ∧ Q (.int n) H') E0
theorem call_lenO (D : MO X.prog X.w X.K X.mg X.base C k "__len__" ps sp) (hr : Room (k + 1) X.A) : CallR X (.builtin "len") (rOwnLen C sp) := by
  intro pins s σ H xs us Q I r h
  obtain ⟨f, fd, F, hf, hi, kp, fi, bd⟩ := D.ex
  obtain ⟨a', dx, fs, rfl, hh, q⟩ := h
  obtain ⟨u, rfl, ru⟩ := vals1 r
  cases (show u = Value.ref a' from ru)
  obtain ⟨ox, od, J, _⟩ := inst_at I hh
  obtain ⟨m, hF⟩ := I.fr
  refine PySem.W.len_K hF I.ok.mod.kin J hf hi ?_
  refine thn (run_in1 (us := [.ref a']) (vs := [.ref a']) (fnok_raw F bd) hr I (.cons rfl .nil) q) fun r s' ⟨z, H', I', rz, n, e, hn, q'⟩ => ?_
  subst e
  obtain ⟨t, e⟩ := (show ∃ t, r = Value.int n t from rz)
  subst e
  exact ⟨hn, .int n, H', I'.tok _, ⟨_, rfl⟩, q'⟩
/-- a comparison, both of own classes -/
def rOwnC (K : PySem.W.Frag) (C : Addr) (sp : Sp) : R2 := fun x y H Q => ∃ a dx fs b C' dy gs, x = .ref a ∧ y = .ref b ∧ H a = some (.ins C dx fs) ∧ H b = some (.ins C' dy gs) ∧ PySem.W.notFirst K C (.ref C') = true ∧ sp [x, y] H Q E0
theorem op_cmpO {op : CmpOp} {nm : Str} (D : MO X.prog X.w X.K X.mg X.base C k nm ps sp) (hr : Room k X.A) (hnm : (cmpInfo op).2.1 = nm := by rfl) (hop : ∀ a b, compareOp op a b = richCompare op a b := by intro _ _; rfl) : OpR X (compareOp op) (rOwnC X.K C sp) := by
  intro pins s σ H x y v u Q I rx ry h
  obtain ⟨f, fd, F, hf, hi, kp, fi, bd⟩ := D.ex
  obtain ⟨a, dx, fs, b, C', dy, gs, rfl, rfl, ha, hb, hn, q⟩ := h
  cases (show v = Value.ref a from rx)
  cases (show u = Value.ref b from ry)
  obtain ⟨ox, od, J, _⟩ := inst_at I ha
  obtain ⟨ox', od', J', _⟩ := inst_at I hb
  obtain ⟨m, hF⟩ := I.fr
  rw [hop]
  refine PySem.W.cmp_K (op := op) (tb := .ref C') hr.units0 hF I.ok.mod.kin J J'.type hn (by rw [hnm]; exact hf) hi ?_
  refine thn (run_at (us := [.ref a, .ref b]) (vs := [.ref a, .ref b]) (fnok_raw F bd) hr I (.cons rfl (.cons rfl .nil)) q) fun w s' z => ?_
  obtain ⟨z', H', I', rz, qz⟩ := z
  exact cmpback rz ⟨z', H', I', rz, qz⟩
/-- an operator of two of one own class -/
def rOwnB (C : Addr) (sp : Sp) : R2 := fun x y H Q => ∃ a dx fs b dy gs, x = .ref a ∧ y = .ref b ∧ H a = some (.ins C dx fs) ∧ H b = some (.ins C dy gs) ∧ sp [x, y] H Q E0
theorem op_binO {op : Operator} {nm : Str} (D : MO X.prog X.w X.K X.mg X.base C k nm ps sp) (hc : PySem.W.selfFirst X.K C = true) (hr : Room k X.A) (hnm : PySem.dunder op.info.2 = nm := by rfl) : OpR X (binaryOp op) (rOwnB C sp) := by
  intro pins s σ H x y v u Q I rx ry h
  obtain ⟨f, fd, F, hf, hi, kp, fi, bd⟩ := D.ex
  obtain ⟨a, dx, fs, b, dy, gs, rfl, rfl, ha, hb, q⟩ := h
  cases (show v = Value.ref a from rx)
  cases (show u = Value.ref b from ry)
  obtain ⟨ox, od, J, _⟩ := inst_at I ha
  obtain ⟨ox', od', J', _⟩ := inst_at I hb
  obtain ⟨m, hF⟩ := I.fr
  refine PySem.W.binop_K hF I.ok.mod.kin J J'.type hc (by rw [hnm]; exact hf) hi ?_
  refine thn (run_at (us := [.ref a, .ref b]) (vs := [.ref a, .ref b]) (fnok_raw F bd) hr I (.cons rfl (.cons rfl .nil)) q) fun w s' z => ?_
  obtain ⟨z', H', I', rz, qz⟩ := z
  exact cmpback rz ⟨z', H', I', rz, qz⟩
/-- a op= b, a of an own class with the in-place def -/
theorem ip_own {op : Operator} {nm : Str} (D : MO X.prog X.w X.K X.mg X.base C k nm ps sp) (hc : PySem.W.selfFirst X.K C = true) (hr : Room k X.A) (hnm : dunderI op.info.2 = nm := by rfl) : PIp X op (rOwn C sp) := by
  intro pins s σ H x y v u Q I rx ry h
  obtain ⟨f, fd, F, hf, hi, kp, fi, bd⟩ := D.ex
  obtain ⟨a, dx, fs, rfl, ha, q⟩ := h
  cases (show v = Value.ref a from rx)
  obtain ⟨ox, od, J, _⟩ := inst_at I ha
  obtain ⟨m, hF⟩ := I.fr
  refine PySem.W.ksp_inplace hF I.ok.mod.kin J hc (by rw [hnm]; exact hf) hi ?_
  refine thn (run_at (us := [.ref a, u]) (vs := [.ref a, y]) (fnok_raw F bd) hr I (.cons rfl (.cons ry .nil)) q) fun w s' z => ?_
  obtain ⟨z', H', I', rz, qz⟩ := z
  exact cmpback rz ⟨z', H', I', rz, qz⟩
end

section
open M (inst_at cmpback NoOp)
variable {X : Cx} {k : Nat} {C C' : Addr} {ps : List Str} {sp : Sp} {rn : Str} {fe e : Expr} {es : List Expr} {pos : Pos} {tf : TE} {t : TA}
def rOwn2 (C C' : Addr) (sp : Sp) : R2 := fun x y H Q => ∃ a dx fs b dy gs, x = .ref a ∧ y = .ref b ∧ H a = some (.ins C dx fs) ∧ H b = some (.ins C' dy gs) ∧ sp [x, y] H Q E0
theorem op_bin2 {op : Operator} {nm : Str} (D : MO X.prog X.w X.K X.mg X.base C k nm ps sp) (hc : PySem.W.selfFirst X.K C = true) (N : NoOp X.K C' nm rn) (hn : C ≠ C') (hr : Room k X.A) (hnm : PySem.dunder op.info.2 = nm := by rfl) (hrn : dunderR op.info.2 = rn := by rfl) : OpR X (binaryOp op) (rOwn2 C C' sp) := by
  intro pins s σ H x y v u Q I rx ry h
  obtain ⟨f, fd, F, hf, hi, kp, fi, bd⟩ := D.ex
  obtain ⟨a, dx, fs, b, dy, gs, rfl, rfl, ha, hb, q⟩ := h
  cases (show v = Value.ref a from rx)
  cases (show u = Value.ref b from ry)
  obtain ⟨ox, od, J, _⟩ := inst_at I ha
  obtain ⟨ox', od', J', _⟩ := inst_at I hb
  obtain ⟨m, hF⟩ := I.fr
  obtain ⟨cd, hcl, hmr⟩ := N.cl
  refine PySem.W.my_binO hF I.ok.mod.kin J J'.type hn hc (by rw [hnm]; exact hf) hi (by rw [hnm]; exact N.h1) (by rw [hrn]; exact N.h2) hcl hmr (by rw [hnm]; exact N.h3) (by rw [hrn]; exact N.h4) ?_
  refine thn (run_at (us := [.ref a, .ref b]) (vs := [.ref a, .ref b]) (fnok_raw F bd) hr I (.cons rfl (.cons rfl .nil)) q) fun w s' z => ?_
  obtain ⟨z', H', I', rz, qz⟩ := z
  exact cmpback rz ⟨z', H', I', rz, qz⟩
theorem pe_callI (hf : PE X fe tf) (D : MO X.prog X.w X.K X.mg X.base C k "__call__" ps sp) (hr : Room k X.A) (ha : PA X (e :: es) t)
    (ht : eval (.Call fe (e :: es) [] pos) X.env = (do callWith pos (← eval fe X.env) [] (backTo pos (starEach (e :: es) X.env)) (backToKw pos (keywordEach [] X.env))) := by rfl)
    (hst : starEach (e :: es) X.env = (false, eval e X.env) :: starEach es X.env := by rfl) (hpl : (backTo pos (starEach es X.env)).any (·.1) = false := by rfl) : PE X (.Call fe (e :: es) [] pos) (StX.tCallO X C sp E0 tf t) := by
  obtain ⟨f, fd, F, hf', hi, kp, fi, b⟩ := D.ex
  exact StX.pe_callO hf ⟨hf', hi, fi⟩ (fnok_raw F b) hr passL ha (ht := ht) (he := hst) (hpl := hpl)
end
end DM
namespace DM
open PySem PySem.Spec PyProof.Rows L2
section
variable {K : PySem.W.Frag} {W : WX} {F : Frm} {ι : Nat → Addr} {σ : L2.St} {env : Env} {ts ts0 ts1 : List (V × RV)} {st st' : Stx} {H H' : Hp} {v : V} {r : RV} {rs : List RV} {vs : List V} {Q : VK} {Fm : MF} {C : Addr}
theorem callee0 (O : Ok K F ι σ env ts1 st H) (hm : ∀ t ∈ vs.zip rs ++ ts, t ∈ ts1) (hl : vs.length = rs.length) (h : Post K W F σ env ts0 ((Fm rs st).noEr) (okE K F σ env ts Q)) : spM K Fm vs H Q E0 := by
  have := callee_of (W := fun _ _ _ _ => False) (Fm := Fm) (Q := Q) (ts := ts) (σ := σ) (env := env) ⟨ι, O.tmps hm⟩ hl (by
    cases e : Fm rs st with
    | ok r st' => rw [e] at h; exact h
    | er x st' => rw [e] at h; exact h.elim
    | no => rw [e] at h; exact h.elim)
  exact this
/-- the class of a thing -/
def isOb (C : Addr) (st : Stx) (x : RV) : Bool := match st.ob x with
  | some (C', _, _) => decide (C' = C)
  | none => false
theorem Ok.isOb (O : Ok K F ι σ env ts st H) (h : RVl K (Pf F ι st) H ι st.nx r v) (e : DM.isOb C st r = true) : ∃ a dx fs, v = .ref a ∧ H a = some (.ins C dx fs) := by
  unfold DM.isOb at e
  split at e
  · rename_i C' ns rs q
    have e := of_decide_eq_true e
    subst e
    obtain ⟨a, dx, fvs, rfl, h2, _⟩ := O.ob h q
    exact ⟨a, dx, fvs, rfl, h2⟩
  · cases e
def oOwn (C : Addr) (Fm : MF) : O2 := fun x y st => if isOb C st x = true then (Fm [x, y] st).noEr else .no
theorem sem_own : Sem2 K W (rOwn C (spM K Fm)) (oOwn C Fm) := fun F σ env ts st H x y rx ry Q S h => by
  obtain ⟨ι, O⟩ := id S
  unfold oOwn at h
  split at h
  · rename_i q
    obtain ⟨a, dx, fs, rfl, ha⟩ := O.isOb O.x1 q
    refine ⟨a, dx, fs, rfl, ha, callee0 (rs := [rx, ry]) O (fun t m => ?_) rfl h⟩
    rcases List.mem_cons.mp m with rfl | m
    · exact List.mem_cons_of_mem _ (List.mem_cons_self ..)
    · rcases List.mem_cons.mp m with rfl | m
      · exact List.mem_cons_self ..
      · exact two _ _ m
  · exact h.elim
theorem mem_xy {x y : V} {rx ry : RV} {ts : List (V × RV)} : ∀ t ∈ ([x, y] : List V).zip [rx, ry] ++ ts, t ∈ (y, ry) :: (x, rx) :: ts := fun t m => by
  rcases List.mem_cons.mp m with rfl | m
  · exact List.mem_cons_of_mem _ (List.mem_cons_self ..)
  · rcases List.mem_cons.mp m with rfl | m
    · exact List.mem_cons_self ..
    · exact two _ _ m
theorem mem_yx {x y : V} {rx ry : RV} {ts : List (V × RV)} : ∀ t ∈ ([y, x] : List V).zip [ry, rx] ++ ts, t ∈ (y, ry) :: (x, rx) :: ts := fun t m => m
def oOwnIn (C : Addr) (Fm : MF) (neg : Bool) : O2 := fun x y st => if isOb C st y = true then ((Fm [y, x] st).noEr).bind fun r st1 => match r with | .val (.bl b) => .ok (.val (.bl (if neg then !b else b))) st1 | _ => .no else .no
theorem sem_ownIn {neg : Bool} : Sem2 K W (rOwnIn C (spM K Fm) neg) (oOwnIn C Fm neg) := fun F σ env ts st H x y rx ry Q S h => by
  obtain ⟨ι, O⟩ := id S
  unfold oOwnIn at h
  split at h
  · rename_i q
    obtain ⟨a, dx, fs, rfl, ha⟩ := O.isOb O.x2 q
    refine ⟨a, dx, fs, rfl, ha, callee0 (rs := [ry, rx]) (W := W) (ts0 := (V.ref a, ry) :: (x, rx) :: ts) O mem_yx rfl ((Post.bind h).imp fun r st1 _ h1 v H1 S1 => ?_)⟩
    split at h1
    · rename_i b _
      obtain ⟨ι1, O1⟩ := id S1
      refine ⟨b, O1.tmp (v, .val (.bl b)) (List.mem_cons_self ..), Post.fl (d := .bl (if neg then !b else b)) O1 rfl (fun t m => List.mem_cons_of_mem _ m) h1⟩
    · exact h1.elim
  · exact h.elim
def gOwnLen (C : Addr) (Fm : MF) (rs : List RV) (st : Stx) : Rs RV := match rs with
  | [x] => if isOb C st x = true then ((Fm [x] st).noEr).bind fun r st1 => match r with | .val (.int n) => if 0 ≤ n ∧ n < 2 ^ 63 then .ok (.val (.int n)) st1 else .no | _ => .no else .no
  | _ => .no
theorem sem_ownLen : SemB K W (rOwnLen C (spM K Fm)) (gOwnLen C Fm) := fun F ι σ env ts ts0 st H vs rs Q hl O h => by
  unfold gOwnLen at h
  split at h
  · rename_i x
    obtain ⟨v, rfl⟩ := zip1 hl
    split at h
    · rename_i q
      obtain ⟨a, dx, fs, rfl, ha⟩ := O.isOb O.arg1 q
      refine ⟨a, dx, fs, rfl, ha, callee0 (rs := [x]) (W := W) (ts0 := ts0) O (fun t m => m) rfl ((Post.bind h).imp fun r st1 _ h1 v H1 S1 => ?_)⟩
      split at h1
      · rename_i n _
        obtain ⟨ι1, O1⟩ := id S1
        by_cases hn : 0 ≤ n ∧ n < 2 ^ 63
        · rw [if_pos hn] at h1
          exact ⟨n, O1.tmp (v, .val (.int n)) (List.mem_cons_self ..), hn, Post.fl (d := .int n) O1 rfl (fun t m => List.mem_cons_of_mem _ m) h1⟩
        · rw [if_neg hn] at h1; exact h1.elim
      · exact h1.elim
    · exact h.elim
  · exact h.elim
/-- comparisons, operators of two own ones -/
def oOwn2 (C C' : Addr) (Fm : MF) : O2 := fun x y st => if isOb C st x = true ∧ isOb C' st y = true then (Fm [x, y] st).noEr else .no
theorem sem_ownC {C' : Addr} (hn : PySem.W.notFirst K C (.ref C') = true) : Sem2 K W (rOwnC K C (spM K Fm)) (oOwn2 C C' Fm) := fun F σ env ts st H x y rx ry Q S h => by
  obtain ⟨ι, O⟩ := id S
  unfold oOwn2 at h
  split at h
  · rename_i q
    obtain ⟨a, dx, fs, rfl, ha⟩ := O.isOb O.x1 q.1
    obtain ⟨b, dy, gs, rfl, hb⟩ := O.isOb O.x2 q.2
    exact ⟨a, dx, fs, b, C', dy, gs, rfl, rfl, ha, hb, hn, callee0 (rs := [rx, ry]) O mem_xy rfl h⟩
  · exact h.elim
theorem sem_ownB : Sem2 K W (rOwnB C (spM K Fm)) (oOwn2 C C Fm) := fun F σ env ts st H x y rx ry Q S h => by
  obtain ⟨ι, O⟩ := id S
  unfold oOwn2 at h
  split at h
  · rename_i q
    obtain ⟨a, dx, fs, rfl, ha⟩ := O.isOb O.x1 q.1
    obtain ⟨b, dy, gs, rfl, hb⟩ := O.isOb O.x2 q.2
    exact ⟨a, dx, fs, b, dy, gs, rfl, rfl, ha, hb, callee0 (rs := [rx, ry]) O mem_xy rfl h⟩
  · exact h.elim
theorem sem_own2 {C' : Addr} : Sem2 K W (rOwn2 C C' (spM K Fm)) (oOwn2 C C' Fm) := fun F σ env ts st H x y rx ry Q S h => by
  obtain ⟨ι, O⟩ := id S
  unfold oOwn2 at h
  split at h
  · rename_i q
    obtain ⟨a, dx, fs, rfl, ha⟩ := O.isOb O.x1 q.1
    obtain ⟨b, dy, gs, rfl, hb⟩ := O.isOb O.x2 q.2
    exact ⟨a, dx, fs, b, dy, gs, rfl, rfl, ha, hb, callee0 (rs := [rx, ry]) O mem_xy rfl h⟩
  · exact h.elim
end
section
variable {X : Cx} {W : WX} {es : List Expr} {pos pos' apos cpos p : Pos} {a b c e d v o i : Expr} {fa fb fc fe fd fv fo fi ff' : EF} {ff : AF} {m : Bool} {k : Nat} {C : Addr} {x nm : Str} {ps : List Str} {Fm : MF} {ds : List Value}
theorem d_ixO (ha : PE X a (tE X.K W fa)) (hb : PE X b (tE X.K W fb)) (D : MethX X.prog X.w X.K X.mg X.base C k "__getitem__" ps Fm) (hr : Room (k + 1) X.A)
    (hs : ∀ o i, subscripted b true o i = runValue (.builtin "lifetime.subscript" ⟨[o, i], []⟩) := by intro _ _; rfl) : PE X (.Subscript a b pos) (tE X.K W (eOp (oOwn C Fm) fa fb)) :=
  pe_up (pe_ixO ha hb D.mo hr hs) (tOp_of sem_own)
/-- o[i] = v by o's own def -/
def sPutO (C : Addr) (Fm : MF) (fo fi fv : EF) : SF := fun env st => (fv env st).toRt env fun r st1 => (fo env st1).toRt env fun x st2 => (fi env st2).toRt env fun i st3 => if isOb C st3 x = true then ((Fm [x, i, r] st3).noEr).toRt env fun _ st4 => .go .nx env st4 else .no
theorem ds_putO (D : MethX X.prog X.w X.K X.mg X.base C k "__setitem__" ps Fm) (hq : PySem.W.noSeq X.K C = true) (hr : Room k X.A) (ho : PE X o (tE X.K W fo)) (hi : PE X i (tE X.K W fi)) (hv : PE X v (tE X.K W fv)) (h1 : swapsWithSole [.Subscript o i pos'] v pos.line X.env = pure false := by rfl) (h2 : swappedStores [.Subscript o i pos'] v X.env = pure none := by rfl) (h3 : (assignEach [.Subscript o i pos'] X.env).map (·.2) = [assign (.Subscript o i pos') X.env] := by rfl)
    (hg : ∀ {to ti : TE} {t : TSet}, PE X o to → PE X i ti → PSet X t → PG X (.Subscript o i pos') (gSub to ti t) := by intro to ti t a b c; exact pg_sub a b c) :
    PS X (.Assign [.Subscript o i pos'] v pos) (tS X.K W (sPutO C Fm fo fi fv)) :=
  ps_up (ps_asg hv (hg ho hi (set_own D.mo hq hr)) h1 h2 h3) fun D σ H ⟨F, env, ts, st, S, h⟩ => by
    refine ⟨F, env, ts, st, S, (RtPost.bind S h).imp fun r st1 _ h1 y H1 S1 => ?_⟩
    have h1 := h1.more (ts' := (y, r) :: ts) fun t m => List.mem_cons_of_mem _ m
    refine ⟨F, env, _, st1, S1, (RtPost.bind S1 h1).imp fun x st2 _ h2 z H2 S2 => ?_⟩
    have h2 := h2.more (ts' := (z, x) :: (y, r) :: ts) fun t m => List.mem_cons_of_mem _ m
    refine ⟨F, env, _, st2, S2, (RtPost.bind S2 h2).imp fun ri st3 _ h3 w H3 S3 => ?_⟩
    obtain ⟨ι, O⟩ := id S3
    by_cases q : isOb C st3 x = true
    · rw [if_pos q] at h3
      obtain ⟨a, dx, fs, rfl, ha⟩ := O.isOb (O.tmp (z, x) (List.mem_cons_of_mem _ (List.mem_cons_self ..))) q
      have h3 := h3.more (ts' := (w, ri) :: (V.ref a, x) :: (y, r) :: ts) fun t m => List.mem_cons_of_mem _ m
      refine ⟨a, dx, fs, rfl, ha, callee0 (rs := [x, ri, r]) (ts := (w, ri) :: (V.ref a, x) :: (y, r) :: ts) (W := W) (F := F) (σ := σ) (env := env) (ts0 := (w, ri) :: (V.ref a, x) :: (y, r) :: ts) O (fun t m => ?_) rfl ((RtPost.bind S3 h3).imp fun _ st4 _ h4 u H4 S4 => h4 σ H4 S4.pop)⟩
      rcases List.mem_append.mp m with m | m
      · simp only [List.zip_cons_cons, List.zip_nil_right, List.mem_cons, List.not_mem_nil, or_false] at m
        rcases m with rfl | rfl | rfl
        · exact List.mem_cons_of_mem _ (List.mem_cons_self ..)
        · exact List.mem_cons_self ..
        · exact List.mem_cons_of_mem _ (List.mem_cons_of_mem _ (List.mem_cons_self ..))
      · exact m
    · rw [if_neg q] at h3; exact h3.elim
end
section
variable {X : Cx} {σ : L2.St}
theorem run_makeAt {CX : CXT} {k : Nat} {f C : Addr} {fd : FuncData} {ps : List Str} {sp : Sp} {dvs : List V} {ds : List Value} {E : XK} {pins : List (Addr × Obj)} {H : Hp} {s : Shared} {Q : VK} {us : List Value} {vs : List V}
    (M : Mk X.K C f) (F : FnOk X.prog X.w X.K X.mg X.base CX k f fd ps sp) (hr : Room (k + 1) X.A) (hb : Binds X.K fd ps ds) (hd : Vals dvs ds) (hx : PassesAt CX X σ E) (I : Inv X pins σ H s) (r : Vals vs us)
    (h : ∀ x dx, H x = none → H dx = none → dx ≠ x → sp (.ref x :: (vs ++ dvs)) (upd (upd H dx (.own x)) x (.ins C dx [])) (fun v H2 => v = .non ∧ Q (.ref x) H2) E) : wpAny (model X.prog X.w) X.A (call (.ref C) us) (EP X pins σ Q) X.xe s := by
  have hq := h (s.heap.objs.size + 1) s.heap.objs.size (I.hok.fresh (Nat.le_succ _)) (I.hok.fresh (Nat.le_refl _)) (Nat.ne_of_lt (Nat.lt_succ_self _))
  have I2 := I.made (C := C)
  have r2 : Vals (V.ref (s.heap.objs.size + 1) :: (vs ++ dvs)) (Value.ref (s.heap.objs.size + 1) :: (us ++ ds)) := .cons rfl (r.append hd)
  have hl : (Value.ref (s.heap.objs.size + 1) :: (us ++ ds)).length = ps.length := r2.length.symm.trans (F.len _ _ _ _ hq)
  refine wpAny_call (make_map I.kIn M.makes M.init (beq_iff_eq.mp M.fn) (codeAny_mono (F.run _ X.stack _ _ ⟨Value.ref (s.heap.objs.size + 1) :: us, []⟩ _ _ _ E (hr.make C us []) (I2.env0.make C us []) (hb _ _ I2.kIn hl) r2 hq) fun r s' hq' => ?_))
  cases r with
  | error e => exact hx pins _ _ e s' I2 hq'
  | ok fl =>
    cases fl with
    | ret u =>
      obtain ⟨v, H', I3, rv, ev, q3⟩ := I2.after hq'
      subst ev
      exact ⟨rv, .ref _, H', I3, rfl, q3⟩
    | next => exact False.elim hq'
    | brk => exact False.elim hq'
    | cont => exact False.elim hq'
end
end DM
namespace DM
open PySem PySem.Spec PyProof.Rows L2
/-- what is made stays a thing of the store, or becomes data -/
def mkFin (m : Bool) (n : Nat) (st : Stx) : Rs RV := if m = true then .ok (.ptr n) st else match st.at' n with
  | some nd => match nd.data with
    | some d => .ok (.val d) (st.del n)
    | none => .no
  | none => .no
def eMake (C : Addr) (Fm : MF) (m : Bool) (dfl : List D) (ff : AF) : EF := fun env st => (ff env st).bind fun rs st1 => (Fm (.ptr st1.nx :: (rs ++ dfl.map RV.val)) (st1.push (.obj C [] []))).bind fun r st2 => match r with
  | .val .non => mkFin m st1.nx st2
  | _ => .no
def eMeth (C : Addr) (m : Str) (Fm : MF) (dfl : List D) (fo : EF) (ff : AF) : EF := fun env st => (fo env st).bind fun x st1 => match st1.ob x with
  | some (C', ns, _) => if C' = C ∧ ns.contains m = false then (ff env st1).bind fun rs st2 => Fm (x :: (rs ++ dfl.map RV.val)) st2 else .no
  | none => .no
section
variable {K : PySem.W.Frag} {W : WX} {F : Frm} {ι : Nat → Addr} {σ : L2.St} {env : Env} {ts ts0 ts1 : List (V × RV)} {st st' : Stx} {H H' : Hp} {v : V} {r : RV} {rs : List RV} {vs : List V} {Q : VK} {Fm : MF} {C : Addr}
theorem dfl_mem {dfl : List D} {P : Addr → Prop} {n : Nat} (hf : dfl.all D.flat = true) : ∀ t ∈ (dfl.map D.v).zip (dfl.map RV.val), RVl K P H ι n t.2 t.1 := by
  induction dfl with
  | nil => intro t m; cases m
  | cons d ds ih =>
    rw [List.all_cons, Bool.and_eq_true] at hf
    intro t m
    rw [List.map_cons, List.map_cons, List.zip_cons_cons] at m
    rcases List.mem_cons.mp m with rfl | m
    · have hd := hf.1
      cases d <;> first | rfl | cases hd
    · exact ih hf.2 t m
theorem lookup_none {ns : List Str} {m : Str} : ∀ {fs : List (Str × V)}, fs.map (·.1) = ns → ns.contains m = false → fs.lookup m = none
  | [], _, _ => rfl
  | (g, x) :: fs, e, h => by
    subst e
    rw [List.map_cons] at h
    have h1 : (m == g) = false ∧ (fs.map (·.1)).contains m = false := by
      simp only [List.contains_cons, Bool.or_eq_false_iff] at h
      exact h
    rw [List.lookup_cons, h1.1]
    exact lookup_none rfl h1.2
theorem make_of {dfl : List D} {m : Bool} (hf : dfl.all D.flat = true) (hl : vs.length = rs.length) (O : Ok K F ι σ env (vs.zip rs ++ ts) st H)
    (h : Post K W F σ env ts ((Fm (.ptr st.nx :: (rs ++ dfl.map RV.val)) (st.push (.obj C [] []))).bind fun r st2 => match r with | .val .non => mkFin m st.nx st2 | _ => .no) (okE K F σ env ts Q))
    (x dx : Addr) (nx : H x = none) (nd : H dx = none) (ne : dx ≠ x) : spM K Fm (.ref x :: (vs ++ dfl.map D.v)) (upd (upd H dx (.own x)) x (.ins C dx [])) (fun v H2 => v = .non ∧ Q (.ref x) H2) (WE W σ) := by
  have s : L2.Same H (upd (upd H dx (.own x)) x (.ins C dx [])) := fun b o e => by rw [upd_ne (ne_of_none e nx), upd_ne (ne_of_none e nd)]; exact e
  obtain ⟨ι', O'⟩ := O.alloc (nd := .obj C [] []) s nx fun ι' e1 e2 k => ⟨dx, [], upd_same, rfl, by decide, .nil⟩
  have h := h.more (ts' := (.ref x, .ptr st.nx) :: ts) fun t m => List.mem_cons_of_mem _ m
  have ht : ∀ t ∈ (V.ref x :: (vs ++ dfl.map D.v)).zip (RV.ptr st.nx :: (rs ++ dfl.map RV.val)) ++ (.ref x, .ptr st.nx) :: ts, RVl K (Pf F ι' (st.push (.obj C [] []))) (upd (upd H dx (.own x)) x (.ins C dx [])) ι' (st.push (.obj C [] [])).nx t.2 t.1 := fun t m => by
    rw [List.zip_cons_cons, List.zip_append hl] at m
    rcases List.mem_append.mp m with m | m
    · rcases List.mem_cons.mp m with rfl | m
      · exact O'.tmp _ (List.mem_cons_self ..)
      · rcases List.mem_append.mp m with m | m
        · exact O'.tmp t (List.mem_cons_of_mem _ (List.mem_append_left _ m))
        · exact dfl_mem hf t m
    · rcases List.mem_cons.mp m with rfl | m
      · exact O'.tmp _ (List.mem_cons_self ..)
      · exact O'.tmp t (List.mem_cons_of_mem _ (List.mem_append_right _ m))
  refine callee_of (ts := (.ref x, .ptr st.nx) :: ts) (σ := σ) (env := env) ⟨ι', { O' with tmp := ht }⟩ (by simp [hl]) ((Post.bind h).imp fun r st2 _ h2 v H3 S3 => ?_)
  obtain ⟨ι3, O3⟩ := S3
  split at h2
  · refine ⟨O3.tmp (v, .val .non) (List.mem_cons_self ..), ?_⟩
    obtain ⟨hn, ex⟩ := (show RVl K _ _ ι3 _ (.ptr st.nx) (.ref x) from O3.tmp (.ref x, .ptr st.nx) (List.mem_cons_of_mem _ (List.mem_cons_self ..)))
    unfold mkFin at h2
    cases m with
    | true => exact h2 _ _ ⟨ι3, O3.tmps fun t m => List.mem_cons_of_mem _ m⟩
    | false =>
      rw [if_neg (by decide)] at h2
      cases q : st2.at' st.nx with
      | none => simp only [q] at h2; exact h2.elim
      | some nd =>
        simp only [q] at h2
        cases q2 : nd.data with
        | none => simp only [q2] at h2; exact h2.elim
        | some d =>
          simp only [q2] at h2
          have O4 := O3.frz q q2 hn
          rw [← ex] at O4
          exact h2 _ _ ⟨ι3, O4.tmps fun t m => (List.mem_cons.mp m).elim (fun e => e ▸ List.mem_cons_self ..) fun m => List.mem_cons_of_mem _ (two _ _ m)⟩
  · exact h2.elim
end
section
variable {X : Cx} {W : WX} {es : List Expr} {pos apos p : Pos} {e o : Expr} {fo : EF} {ff : AF} {k : Nat} {C : Addr} {x nm : Str} {ps : List Str} {Fm : MF} {ds : List Value} {dfl : List D}
theorem d_make (m : Bool) (J : InitX X.prog X.w X.K X.mg X.base x C k ps Fm ds) (hr : Room (k + 1) X.A) (tk : Takes X W) (hg : Gl X x) (ha : PA X (e :: es) (tA X.K W ff)) (hf : dfl.all D.flat = true := by rfl) (hd : Vals (dfl.map D.v) ds := by first | exact .nil | exact .cons rfl .nil | exact .cons rfl (.cons rfl .nil) | exact .cons ⟨_, rfl⟩ .nil)
    (hdb : (x == ("__debug__" : Str)) = false := by decide) (he : starEach (e :: es) X.env = (false, eval e X.env) :: starEach es X.env := by rfl) (hpl : (backTo pos (starEach es X.env)).any (·.1) = false := by rfl) : PE X (.Call (.Name x p) (e :: es) [] pos) (tE X.K W (eMake C Fm m dfl ff)) := by
  obtain ⟨f, fd, F, hfi, hi, b⟩ := J.ex
  refine ⟨fun pins s σ H Q I ⟨Fr, env, ts, st, S, h⟩ => ?_⟩
  refine wpAny_Call_Name_kw (ld_glob I hg J.gl (PySem.W.callWith_K I.ok.mod.kin J.kp (thn (ha.run pos pins s σ H (fun vs H1 => ∀ (x dx : Addr), H1 x = none → H1 dx = none → dx ≠ x → spM X.K Fm (V.ref x :: (vs ++ dfl.map D.v)) (upd (upd H1 dx (.own x)) x (.ins C dx [])) (fun v H2 => v = .non ∧ Q (.ref x) H2) (WE W σ)) I ?_)
    fun us s1 ⟨vs, H1, I1, r, q⟩ => ⟨I1.kIn, run_makeAt (E := WE W σ) ⟨J.mks, hfi, hi, J.kp⟩ F hr b hd (passAt tk σ) I1 r q⟩) he hpl) hdb)
  refine ⟨Fr, env, ts, st, S, (Post.bind h).imp fun rs st1 _ h1 vs H1 hl ⟨ι, O⟩ => ?_⟩
  exact fun x dx a b c => make_of hf hl O h1 x dx a b c
theorem d_make0 (m : Bool) (J : InitX X.prog X.w X.K X.mg X.base x C k ps Fm ds) (hr : Room (k + 1) X.A) (tk : Takes X W) (hg : Gl X x) (hf : dfl.all D.flat = true := by rfl) (hd : Vals (dfl.map D.v) ds := by first | exact .nil | exact .cons rfl .nil | exact .cons rfl (.cons rfl .nil) | exact .cons ⟨_, rfl⟩ .nil)
    (hdb : (x == ("__debug__" : Str)) = false := by decide) : PE X (.Call (.Name x p) [] [] pos) (tE X.K W (eMake C Fm m dfl aNil)) := by
  obtain ⟨f, fd, F, hfi, hi, b⟩ := J.ex
  refine ⟨fun pins s σ H Q I ⟨Fr, env, ts, st, ⟨ι, O⟩, h⟩ => ?_⟩
  exact wpAny_Call_Name_kw (ld_glob I hg J.gl (PySem.W.callWith_K0 I.kIn J.kp (run_makeAt (E := WE W σ) (us := []) (vs := []) ⟨J.mks, hfi, hi, J.kp⟩ F hr b hd (passAt tk σ) I .nil fun x dx a b c => make_of (vs := []) (rs := []) hf rfl O h x dx a b c)) hdb)
theorem d_meth {pl : Sem Bool} (D : MethX X.prog X.w X.K X.mg X.base C k nm ps Fm) (c : Cls X.K C) (hr : Room k X.A) (tk : Takes X W) (ho : PE X o (tE X.K W fo)) (ha : PA X (e :: es) (tA X.K W ff))
    (hst : starEach (e :: es) X.env = (false, eval e X.env) :: starEach es X.env := by rfl) (hpl : (backTo pos (starEach es X.env)).any (·.1) = false := by rfl)
    (ht : eval (.Call (.Attribute o nm apos) (e :: es) [] pos) X.env = (do
      let ov ← eval o X.env
      standAt apos.atName
      let (f, first) ← holding [ov] (getMethod ov nm pl)
      callWith pos f first (backTo pos (starEach (e :: es) X.env)) (backToKw pos (keywordEach [] X.env))) := by rfl) :
    PE X (.Call (.Attribute o nm apos) (e :: es) [] pos) (tE X.K W (eMeth C nm Fm [] fo ff)) := by
  obtain ⟨f, fd, F, hfi, hi, kp, fi, b⟩ := D.ex
  refine ⟨fun pins s σ H Q I ⟨Fr, env, ts, st, S, h⟩ => ?_⟩
  refine PySem.W.methodCall_KW (thn (ho.run pins s σ H (fun x H1 => ∃ a dx fs, x = V.ref a ∧ H1 a = some (.ins C dx fs) ∧ fs.lookup nm = none ∧ tA X.K W ff σ H1 fun vs H2 => spM X.K Fm (x :: vs) H2 Q (WE W σ)) I ?_) fun u s1 ⟨x, H1, I1, rx, a, dx, fs, ex, ea, l, q⟩ => ?_) ht
  · refine tE.go S h fun x st1 v H1 S1 h1 => ?_
    split at h1
    · rename_i C' ns rs q
      by_cases hc : C' = C ∧ ns.contains nm = false
      · rw [if_pos hc] at h1
        obtain ⟨ι, O⟩ := id S1
        obtain ⟨a, dx, fvs, rfl, h2, h3, h4⟩ := O.ob (O.tmp (v, x) (List.mem_cons_self ..)) q
        refine ⟨a, dx, fvs, rfl, by rw [h2, hc.1], lookup_none h3 hc.2, Fr, env, _, st1, S1, (Post.bind h1).imp fun rs2 st2 _ h5 vs H2 hl S2 => ?_⟩
        rw [List.map_nil, List.append_nil] at h5
        refine callee_of (ts := (.ref a, x) :: ts) (σ := σ) (env := env) (rs := x :: rs2) (S2.tmps fun t m => ?_) (by rw [List.length_cons, List.length_cons, hl]) (h5.imp fun r st3 _ h6 v3 H3 S3 => h6 v3 H3 (S3.tmps fun t m => ?_))
        · rw [List.zip_cons_cons] at m
          rcases List.mem_append.mp m with m | m
          · rcases List.mem_cons.mp m with rfl | m
            · exact List.mem_append_right _ (List.mem_cons_self ..)
            · exact List.mem_append_left _ m
          · exact List.mem_append_right _ m
        · rcases List.mem_cons.mp m with rfl | m
          · exact List.mem_cons_self ..
          · exact List.mem_cons_of_mem _ (List.mem_cons_of_mem _ m)
      · rw [if_neg hc] at h1; exact h1.elim
    · exact h1.elim
  · subst ex
    cases (show u = Value.ref a from rx)
    refine getmeth_ok I1 ea c ⟨hfi, hi, kp⟩ l (PySem.W.callWith_K I1.ok.mod.kin kp (thn (ha.run pos pins s1 σ H1 (fun vs H2 => spM X.K Fm (V.ref a :: vs) H2 Q (WE W σ)) I1 q) fun us s2 ⟨vs, H2, I2, r, q2⟩ => ⟨I2.kIn, ?_⟩) hst hpl)
    exact run_fnSD (E := fun σ => WE W σ) (vs := V.ref a :: vs) F hr b .nil (passAt tk σ) I2 (.cons rfl r) (by rw [List.append_nil]; exact q2)
theorem d_meth0 {pl : Sem Bool} (D : MethX X.prog X.w X.K X.mg X.base C k nm ps Fm) (c : Cls X.K C) (hr : Room k X.A) (tk : Takes X W) (ho : PE X o (tE X.K W fo))
    (ht : eval (.Call (.Attribute o nm apos) [] [] pos) X.env = (do
      let ov ← eval o X.env
      standAt apos.atName
      let (f, first) ← holding [ov] (getMethod ov nm pl)
      callWith pos f first (backTo pos (starEach [] X.env)) (backToKw pos (keywordEach [] X.env))) := by rfl) :
    PE X (.Call (.Attribute o nm apos) [] [] pos) (tE X.K W (eMeth C nm Fm [] fo aNil)) := by
  obtain ⟨f, fd, F, hfi, hi, kp, fi, b⟩ := D.ex
  refine ⟨fun pins s σ H Q I ⟨Fr, env, ts, st, S, h⟩ => ?_⟩
  refine PySem.W.methodCall_KW (thn (ho.run pins s σ H (fun x H1 => ∃ a dx fs, x = V.ref a ∧ H1 a = some (.ins C dx fs) ∧ fs.lookup nm = none ∧ spM X.K Fm [x] H1 Q (WE W σ)) I ?_) fun u s1 ⟨x, H1, I1, rx, a, dx, fs, ex, ea, l, q⟩ => ?_) ht
  · refine tE.go S h fun x st1 v H1 S1 h1 => ?_
    split at h1
    · rename_i C' ns rs q
      by_cases hc : C' = C ∧ ns.contains nm = false
      · rw [if_pos hc] at h1
        obtain ⟨ι, O⟩ := id S1
        obtain ⟨a, dx, fvs, rfl, h2, h3, h4⟩ := O.ob (O.tmp (v, x) (List.mem_cons_self ..)) q
        refine ⟨a, dx, fvs, rfl, by rw [h2, hc.1], lookup_none h3 hc.2, ?_⟩
        rw [show aNil env st1 = Rs.ok [] st1 from rfl] at h1
        refine callee_of (ts := (.ref a, x) :: ts) (σ := σ) (env := env) (rs := [x]) (S1.tmps fun t m => ?_) rfl (Post.imp (x := Fm [x] st1) h1 fun r st3 _ h6 v3 H3 S3 => h6 v3 H3 (S3.tmps fun t m => ?_))
        · rcases List.mem_cons.mp m with rfl | m
          · exact List.mem_cons_self ..
          · exact m
        · rcases List.mem_cons.mp m with rfl | m
          · exact List.mem_cons_self ..
          · exact List.mem_cons_of_mem _ (List.mem_cons_of_mem _ m)
      · rw [if_neg hc] at h1; exact h1.elim
    · exact h1.elim
  · subst ex
    cases (show u = Value.ref a from rx)
    refine getmeth_ok I1 ea c ⟨hfi, hi, kp⟩ l (PySem.W.callWith_K0 I1.kIn kp ?_)
    exact run_fnSD (E := fun σ => WE W σ) (us := [Value.ref a]) (vs := [V.ref a]) F hr b .nil (passAt tk σ) I1 (.cons rfl .nil) q
end
end DM
namespace DM
open PySem PySem.Spec PyProof.Rows L2
section
variable {X : Cx} {W : WX} {pos pos' : Pos} {e a b c : Expr} {fe fa fb fc : EF} {u v : V} {d : D} {x : Str} {i : Nat}
/-- what stands in the kit -/
theorem d_k (d : D) {v : V} (hd : ∀ P H, Vl X.K P H d v) (he : PE X e (tC v)) : PE X e (tE X.K W (eC d)) := pe_up he fun σ H Q ⟨F, env, ts, st, ⟨ι, O⟩, h⟩ => h _ H ⟨ι, O.push (hd _ _)⟩
theorem d_glob (d : D) {v : V} {u : Value} (hd : ∀ P H, Vl X.K P H d v) (hg : Gl X x) (hm : X.mg x = some u) (r : RelV v u) (h : (x == ("__debug__" : Str)) = false := by rfl) : PE X (.Name x pos) (tE X.K W (eC d)) := d_k d hd (pe_glob hg hm r h)
theorem d_bltn (n : String) (hg : Gl X x) (hm : X.mg x = none) (hv : bootBuiltins x = some (.type n)) (h1 : x ≠ "__name__" := by decide) (h2 : (x == ("__debug__" : Str)) = false := by rfl) : PE X (.Name x pos) (tE X.K W (eC (.ty n))) := d_k (.ty n) (fun _ _ => rfl) (pe_bltn (v := .ty n) hg hm hv rfl h1 h2)
def sAug (i : Nat) (o : O2) (fe : EF) : SF := fun env st => match env[i]? with
  | some (some x) => (fe env st).toRt env fun y st1 => (o x y st1).toRt env fun z st2 => .go .nx (env.set i (some z)) st2
  | _ => .no
def SemP (K : PySem.W.Frag) (W : WX) (r : R2) (o : O2) : Prop := Sem2 K W r o
theorem ds_aug {op : Operator} {r : R2} {o : O2} (hp : PIp X op r) (hs : Sem2 X.K W r o) (hN : X.N.Nodup) (hi : X.N[i]? = some x) (hx : Loc X.env.scope x) (he : PE X e (tE X.K W fe)) (hf : X.fn x = true ∨ X.env.scope.names.lookup x = some .local := by first | exact .inl rfl | exact .inr rfl | assumption) : PS X (.AugAssign (.Name x pos') op e pos) (tS X.K W (sAug i o fe)) :=
  ps_up (ps_aug hN hi hx he hp hf) fun D σ H ⟨F, env, ts, st, S, h⟩ => by
    unfold sAug at h
    split at h
    · rename_i rx e1
      obtain ⟨ι, O⟩ := id S
      obtain ⟨x, h1, O1⟩ := O.get e1
      have S1 : StOk X.K F σ env ((x, rx) :: ts) st H := ⟨ι, O1⟩
      refine ⟨x, h1, F, env, _, st, S1, ((RtPost.bind S h).more (ts' := (x, rx) :: ts) fun t m => List.mem_cons_of_mem _ m).imp fun ry st1 _ h2 y H1 S2 => ?_⟩
      have hpo : Post X.K W F σ env ((y, ry) :: (x, rx) :: ts) (o rx ry st1) (okE X.K F σ env ts (fun z H2 => D.nx (σ.set i (some z)) H2)) := by
        cases q : o rx ry st1 with
        | ok rz st2 => rw [q] at h2; exact fun z H2 S3 => h2 _ _ (S3.set i)
        | er e st2 => rw [q] at h2; exact fun cls d H' xx => h2 cls d σ H' (xx.tmps fun t m => two _ _ m)
        | no => rw [q] at h2; exact h2.elim
      exact hs F σ env ts st1 H1 x y rx ry _ S2 hpo
    · exact h.elim
theorem pip2 {op : Operator} {r1 r2 : R2} (h1 : PIp X op r1) (h2 : PIp X op r2) : PIp X op fun x y H Q => r1 x y H Q ∨ r2 x y H Q :=
  fun pins s σ H x y v u Q I rx ry h => h.elim (h1 pins s σ H x y v u Q I rx ry) (h2 pins s σ H x y v u Q I rx ry)
theorem sem_ipI {g : Int → Int → Int} : Sem2 X.K W (ipI g) (oI (fun i j => .int (g i j)) fun _ _ => true) := sem_I0 (g := fun i j => D.int (g i j)) fun _ _ => rfl
def eChain (o o' : O2) (fa fb fc : EF) : EF := fun env st => (fa env st).bind fun x st1 => (fb env st1).bind fun y st2 => (o x y st2).bind fun z st3 => match z with
  | .val (.bl k) => if k = true then (fc env st3).bind fun w st4 => o' y w st4 else .ok (.val (.bl false)) st3
  | _ => .no
theorem tChain_of {r r' : R2} {o o' : O2} (hs : Sem2 X.K W r o) (hs' : Sem2 X.K W r' o') : ∀ σ H Q, tE X.K W (eChain o o' fa fb fc) σ H Q → tChain r r' (tE X.K W fa) (tE X.K W fb) (tE X.K W fc) σ H Q := fun σ H Q ⟨F, env, ts, st, S, h⟩ => by
  refine ⟨F, env, ts, st, S, (Post.bind h).imp fun rx st1 _ h1 x H1 S1 => ⟨F, env, (x, rx) :: ts, st1, S1, ((Post.bind h1).more fun t m => List.mem_cons_of_mem _ m).imp fun ry st2 _ h2 y H2 S2 => ?_⟩⟩
  refine hs F σ env ((y, ry) :: ts) st2 H2 x y rx ry _ (S2.tmps fun t m => ?_) (((Post.bind h2).more fun t m => two _ _ (List.mem_cons_of_mem _ m)).imp fun rz st3 _ h3 z H3 S3 => ?_)
  · rcases List.mem_cons.mp m with rfl | m
    · exact List.mem_cons_self ..
    · rcases List.mem_cons.mp m with rfl | m
      · exact List.mem_cons_of_mem _ (List.mem_cons_self ..)
      · rcases List.mem_cons.mp m with rfl | m
        · exact List.mem_cons_self ..
        · exact two _ _ m
  · split at h3
    · rename_i k _
      have ez : z = .bl k := by obtain ⟨ι, O⟩ := S3; exact O.tmp (z, .val (.bl k)) (List.mem_cons_self ..)
      refine ⟨k, ez, ?_⟩
      cases k with
      | true =>
        rw [if_pos rfl] at h3 ⊢
        exact ⟨F, env, (y, ry) :: ts, st3, S3.pop, ((Post.bind h3).more fun t m => List.mem_cons_of_mem _ m).imp fun rw st4 _ h4 w H4 S4 => hs' F σ env ts st4 H4 y w ry rw Q S4 (h4.more fun t m => two _ _ m)⟩
      | false =>
        rw [if_neg (by decide)] at h3 ⊢
        exact h3 (.bl false) H3 (S3.tmps fun t m => by
          rw [ez] at *
          exact (List.mem_cons.mp m).elim (fun e => e ▸ List.mem_cons_self ..) fun m => two _ _ m)
    · exact h3.elim
theorem d_chain {op op' : CmpOp} {r r' : R2} {o o' : O2} (ho : OpR X (compareOp op) r) (ho' : OpR X (compareOp op') r') (hs : Sem2 X.K W r o) (hs' : Sem2 X.K W r' o') (ha : PE X a (tE X.K W fa)) (hb : PE X b (tE X.K W fb)) (hc : PE X c (tE X.K W fc)) (hm : lastMarks [op, op'] [b, c] = false := by rfl) : PE X (.Compare a [op, op'] [b, c] pos) (tE X.K W (eChain o o' fa fb fc)) :=
  pe_up (pe_chain ho ho' ha hb hc hm) (tChain_of hs hs')
theorem d_tchain {op op' : CmpOp} {r r' : R2} {o o' : O2} (ho : OpR X (compareOp op) r) (ho' : OpR X (compareOp op') r') (hs : Sem2 X.K W r o) (hs' : Sem2 X.K W r' o') (ha : PE X a (tE X.K W fa)) (hb : PE X b (tE X.K W fb)) (hc : PE X c (tE X.K W fc)) (hm : lastMarks [op, op'] [b, c] = false := by rfl) : PT X (.Compare a [op, op'] [b, c] pos) (tT X.K W (cB (eChain o o' fa fb fc))) :=
  pt_up (pt_chain ho ho' ha hb hc hm) (tB_of (tChain_of hs hs'))
end
end DM
namespace DM
open PySem PySem.Spec PyProof.Rows L2
theorem cs_nil {K : PySem.W.Frag} {f : Str} : ∀ C ∈ ([] : List Addr), ClsF K C f := fun _ m => nomatch m
theorem cs_cons {K : PySem.W.Frag} {f : Str} {C : Addr} {Cs : List Addr} (h : ClsF K C f) (t : ∀ C ∈ Cs, ClsF K C f) : ∀ D ∈ C :: Cs, ClsF K D f := fun D m => by
  rcases List.mem_cons.mp m with rfl | m
  · exact h
  · exact t D m
theorem takes0' {X : Cx} : Takes X W0 := fun u s' ⟨a, B, sI, pins, σ, H, cls, d, e1, I, h1, h2, h3, h4, h5, h6, h7⟩ => h7.elim
/-- an empty store -/
def Stx.z : Stx := ⟨0, 0, fun _ => none⟩
/-- the law's end: from the mirror's answer -/
theorem sp_law {K : PySem.W.Frag} {Fm : MF} {a : Addr} {ns : List Int} {H : Hp} {E : XK} {Q : VK} (hS : SqL K H a (ns.map V.int)) (hl : ns.length ≤ 63) (hm : ∀ d, (d = D.lst (ns.map .int) ∨ d = D.lsk (ns.map .int)) → ∃ st', Fm [.val d] Stx.z = .ok (.val (.bl true)) st') (q : ∀ H', Q (.bl true) H') : spM K Fm [.ref a] H Q E := by
  have ints_v : ∀ (is : List Int) (P : Addr → Prop), Vls K P H (is.map D.int) (is.map V.int) := fun is P => by
    induction is with
    | nil => rfl
    | cons i is ih => exact ⟨_, _, rfl, rfl, ih⟩
  have nP : ∀ b, ¬Pf (mkF H Stx.z (fun _ => 0) [] fun _ => False) (fun _ => 0) Stx.z b := fun b q => by
    rcases q with ⟨n, nd, e, _⟩ | q
    · cases e
    · exact q
  have hc : (ns.map D.int).length ≤ cap := by rw [List.length_map]; exact Nat.le_trans hl (by decide)
  obtain ⟨d, hd, hv⟩ : ∃ d, (d = D.lst (ns.map .int) ∨ d = D.lsk (ns.map .int)) ∧ Vl K (Pf (mkF H Stx.z (fun _ => 0) [] fun _ => False) (fun _ => 0) Stx.z) H d (.ref a) := by
    rcases hS with hS | hS
    · exact ⟨_, .inl rfl, a, ns.map V.int, rfl, .inl ⟨nP a, hS⟩, hc, ints_v _ _⟩
    · exact ⟨_, .inr rfl, a, ns.map V.int, rfl, hS, hc, ints_v _ _⟩
  obtain ⟨st', hm⟩ := hm d hd
  refine ⟨[], fun _ => False, fun _ => 0, [.val d], Stx.z, rfl, ⟨rfl, fun i r e => (by simp at e), fun t m => ?_, fun n nd e => (by cases e), fun n m nd nd' e => (by cases e), Nat.le_refl _, Nat.le_refl _, fun _ _ => rfl, fun n nd e => (by cases e), fun n nd e => (by cases e), fun b o h => ⟨o, h⟩, fun b o h _ => .inl h, fun b od u m => (by cases m), fun b h => h.elim, fun n nd e => (by cases e)⟩, ?_⟩
  · rw [List.mem_singleton.mp (show t ∈ [(V.ref a, RV.val d)] from m)]
    exact hv
  · rw [hm]
    intro v H' ⟨ι', O'⟩
    cases (show v = .bl true from O'.tmp (v, .val (.bl true)) (List.mem_cons_self ..))
    exact q H'
theorem cx_false {P : Program} {w : World} {o : List PySem.Env} {H : Hp} {s : Shared} {e : Value} {s' : Shared} (h : L2.CX P w o H s (fun _ _ _ => False) e s') : False := let ⟨_, _, _, _, _, _, _, _, _, _, _, _, z⟩ := h; z
end DM
namespace DM
open PySem PySem.Spec PyProof.Rows L2
theorem Stx.ext {s t : Stx} (h1 : s.nx = t.nx) (h2 : s.hi = t.hi) (h3 : ∀ n, s.at' n = t.at' n) : s = t := by
  cases s; cases t
  simp only at h1 h2
  subst h1 h2
  congr
  exact funext h3
/-- below nx alone the state was changed -/
def Stx.low (st st' : Stx) : Prop := st'.nx = st.nx ∧ st'.hi = st.hi ∧ ∀ n, st.nx ≤ n → st'.at' n = st.at' n
theorem Stx.low.refl (st : Stx) : st.low st := ⟨rfl, rfl, fun _ _ => rfl⟩
theorem Stx.low.set {st st' : Stx} {n : Nat} {nd : Nd} (h : st.low st') (hn : n < st.nx) : st.low (st'.set n nd) := ⟨h.1, h.2.1, fun m hm => by
  show (if m = n then some nd else st'.at' m) = _
  rw [if_neg (by omega)]
  exact h.2.2 m hm⟩
theorem Stx.low.clean {st st' : Stx} (h : st.low st') : st.clean st' = st' := Stx.ext h.1.symm h.2.1.symm fun n => by
  show (if n < st.nx then st'.at' n else st.at' n) = _
  split
  · rfl
  · exact (h.2.2 n (by omega)).symm
theorem fin_low {st st' : Stx} {d : D} (h : st.low st') : fin st st' (.val d) = (.val d, st') := by
  unfold fin
  rw [if_pos h.2.1, h.clean]
/-- what stands above nx in the end goes -/
theorem fin_val {st st' : Stx} {d : D} (h : st'.hi = st.hi) : fin st st' (.val d) = (.val d, st.clean st') := by
  unfold fin
  rw [if_pos h]
theorem set_at {st : Stx} {n : Nat} {nd : Nd} : (st.set n nd).at' n = some nd := if_pos rfl
theorem set_ne {st : Stx} {n m : Nat} {nd : Nd} (h : m ≠ n) : (st.set n nd).at' m = st.at' m := if_neg h
theorem set_set {st : Stx} {n : Nat} {a b : Nd} : (st.set n a).set n b = st.set n b := Stx.ext rfl rfl fun m => by
  show (if m = n then some b else if m = n then some a else st.at' m) = if m = n then some b else st.at' m
  split <;> rfl
theorem push_at {st : Stx} {nd : Nd} : (st.push nd).at' st.nx = some nd := if_pos rfl
theorem push_ne {st : Stx} {nd : Nd} {n : Nat} (h : n ≠ st.nx) : (st.push nd).at' n = st.at' n := if_neg h
theorem oI_ok {g : Int → Int → D} {c : Int → Int → Bool} {i j : Int} {st : Stx} (h : c i j = true) : oI g c (.val (.int i)) (.val (.int j)) st = .ok (.val (g i j)) st := by
  unfold oI
  exact if_pos h
theorem o_ge {i j : Int} {st : Stx} : oGe (.val (.int i)) (.val (.int j)) st = .ok (.val (.bl (decide (j ≤ i)))) st := oI_ok rfl
theorem o_le {i j : Int} {st : Stx} : oLe (.val (.int i)) (.val (.int j)) st = .ok (.val (.bl (decide (i ≤ j)))) st := oI_ok rfl
theorem o_gt {i j : Int} {st : Stx} : oGt (.val (.int i)) (.val (.int j)) st = .ok (.val (.bl (decide (j < i)))) st := oI_ok rfl
theorem o_lt {i j : Int} {st : Stx} : oLt (.val (.int i)) (.val (.int j)) st = .ok (.val (.bl (decide (i < j)))) st := rfl
theorem o_sub {i j : Int} {st : Stx} : oSub (.val (.int i)) (.val (.int j)) st = .ok (.val (.int (i - j))) st := oI_ok rfl
theorem o_add {i j : Int} {m : Bool} {st : Stx} : oAdd m (.val (.int i)) (.val (.int j)) st = .ok (.val (.int (i + j))) st := rfl
theorem o_mod {i j : Int} {st : Stx} (h : j ≠ 0) : oMod (.val (.int i)) (.val (.int j)) st = .ok (.val (.int (i.fmod j))) st := oI_ok (decide_eq_true h)
theorem o_mul {i j : Int} {st : Stx} (h : cMul i j = true) : oMul (.val (.int i)) (.val (.int j)) st = .ok (.val (.int (i * j))) st := oI_ok h
theorem o_pow {i j : Int} {st : Stx} (h : cPow i j = true) : oPow (.val (.int i)) (.val (.int j)) st = .ok (.val (.int (i ^ j.toNat))) st := oI_ok h
theorem o_div {i j : Int} {st : Stx} (h : cDiv i j = true) : oDiv (.val (.int i)) (.val (.int j)) st = .ok (.val (.int (i / j))) st := oI_ok h
theorem ok_bind {α β : Type} {a : α} {st : Stx} {k : α → Stx → Rs β} : (Rs.ok a st).bind k = k a st := rfl
/-- nothing above nx -/
def Wf (st : Stx) : Prop := ∀ n, st.nx ≤ n → st.at' n = none
theorem Wf.push {st : Stx} {nd : Nd} (h : Wf st) : Wf (st.push nd) := fun n hn => by
  have hn : st.nx + 1 ≤ n := hn
  rw [push_ne (by omega)]
  exact h n (by omega)
theorem Wf.set {st : Stx} {n : Nat} {nd : Nd} (h : Wf st) (hn : n < st.nx) : Wf (st.set n nd) := fun m hm => by
  have hm : st.nx ≤ m := hm
  rw [set_ne (by omega)]
  exact h m hm
theorem fin_ptr {st : Stx} {nd : Nd} (h : Wf st) : fin st (st.push nd) (.ptr st.nx) = (.ptr st.nx, st.push nd) := by
  unfold fin
  rw [if_pos (show (st.push nd).hi = st.hi from rfl)]
  simp only [Nat.lt_irrefl, if_false, push_at]
  congr 1
  refine Stx.ext rfl rfl fun n => ?_
  show (if n = st.nx then some nd else (if n < st.nx then (st.push nd).at' n else st.at' n)) = (st.push nd).at' n
  by_cases hn : n = st.nx
  · rw [if_pos hn, hn, push_at]
  · rw [if_neg hn, push_ne hn]
    split
    · rfl
    · rfl
open M (Nb)
theorem mul_nb {i j : Int} {a b : Nat} (h1 : Nb a i) (h2 : Nb b j) (h : a + b ≤ 134217728 := by decide) : cMul i j = true := decide_eq_true (h1.cmul h2 h)
theorem sq_nb {i : Int} {a : Nat} (h1 : Nb a i) (h : a ≤ 1000000 := by decide) : cPow i 2 = true := by
  have q := h1.cpow h
  unfold cPow
  rw [Bool.and_eq_true]
  exact ⟨decide_eq_true q.1, decide_eq_true q.2⟩
theorem div_nb {i j : Int} {b : Nat} (h0 : 0 < j) (h : Nb b j) (hb : b ≤ 9000 := by decide) : cDiv i j = true := by
  have hn : j.natAbs ≠ 0 := by omega
  have q : j.natAbs.log2 < b := (Nat.log2_lt hn).mpr h
  unfold cDiv
  rw [Bool.and_eq_true]
  exact ⟨decide_eq_true h0, decide_eq_true (by omega)⟩
end DM
namespace DM
open PySem PySem.Spec PyProof.Rows L2
section
variable {env e1 : Env} {st s1 s2 s3 : Stx} {fa fb fc fe fo fi fv : EF} {ff : AF} {a b : SF} {c ca cb : CF} {r v x y z : RV} {rs : List RV} {i N n : Nat} {d : D} {o : O2} {R : Rs RV} {T : Rt} {t u m : Bool} {g : SF} {Fm : MF} {gB : List RV → Stx → Rs RV} {ds : List D}
theorem seq_ok (h : a env st = .go .nx e1 s1) (h2 : b e1 s1 = T) : sSeq a b env st = T := by unfold sSeq; rw [h]; exact h2
theorem seq_rt (h : a env st = .go (.rt v) e1 s1) : sSeq a b env st = .go (.rt v) e1 s1 := by unfold sSeq; rw [h]
theorem next_ok : sNext env st = .go .nx env st := rfl
theorem asg_ok (h : fe env st = .ok r s1) : sAsg fe (fName i) env st = .go .nx (env.set i (some r)) s1 := by unfold sAsg; rw [h]; rfl
theorem ret_ok (h : fe env st = .ok r s1) : sRet fe env st = .go (.rt r) env s1 := by unfold sRet; rw [h]; rfl
theorem expr_ok (h : fe env st = .ok r s1) : sExpr fe env st = .go .nx env s1 := by unfold sExpr; rw [h]; rfl
theorem if_ok (h : c env st = .ok t s1) (h2 : (if t = true then a env s1 else b env s1) = T) : sIf c a b env st = T := by unfold sIf; rw [h]; exact h2
theorem cB_ok (h : fe env st = .ok (.val (.bl t)) s1) : cB fe env st = .ok t s1 := by unfold cB; rw [h]; rfl
theorem not_ok (h : c env st = .ok t s1) : cNot c env st = .ok (!t) s1 := by unfold cNot; rw [h]; rfl
theorem and_ok (h : ca env st = .ok t s1) (h2 : (if t = true then cb env s1 else .ok false s1) = .ok u s2) : cAnd ca cb env st = .ok u s2 := by unfold cAnd; rw [h]; exact h2
theorem or_ok (h : ca env st = .ok t s1) (h2 : (if t = true then .ok true s1 else cb env s1) = .ok u s2) : cOr ca cb env st = .ok u s2 := by unfold cOr; rw [h]; exact h2
theorem tru_ok (h : fe env st = .ok r s1) (h2 : truth s1 r = some t) : cTruth fe env st = .ok t s1 := by unfold cTruth; rw [h]; show (match truth s1 r with | some b => Rs.ok b s1 | none => .no) = _; rw [h2]
theorem var_ok (h : env[i]? = some (some r)) : eVar i env st = .ok r st := by unfold eVar; rw [h]
theorem c_ok : eC d env st = .ok (.val d) st := rfl
theorem op_ok (h : fa env st = .ok x s1) (h2 : fb env s1 = .ok y s2) (h3 : o x y s2 = R) : eOp o fa fb env st = R := by unfold eOp; rw [h]; show (fb env s1).bind _ = _; rw [h2]; exact h3
theorem nil_ok : aNil env st = .ok [] st := rfl
theorem cons_ok (h : fe env st = .ok r s1) (h2 : ff env s1 = .ok rs s2) : aCons fe ff env st = .ok (r :: rs) s2 := by unfold aCons; rw [h]; show (ff env s1).bind _ = _; rw [h2]; rfl
theorem call_ok (h : ff env st = .ok rs s1) (h2 : Fm rs s1 = R) : eCall Fm ff env st = R := by unfold eCall; rw [h]; exact h2
theorem B_ok (h : ff env st = .ok rs s1) (h2 : gB rs s1 = R) : eB gB ff env st = R := by unfold eB; rw [h]; exact h2
theorem lst_ok (h : ff env st = .ok rs s1) (h2 : allV rs = some ds) (h3 : okL m ds s1 = R) : eLst m ff env st = R := by unfold eLst; rw [h]; show (match allV rs with | some ds => okL m ds s1 | none => .no) = _; rw [h2]; exact h3
theorem tup_ok (h : ff env st = .ok rs s1) (h2 : allV rs = some ds) (h3 : ds.length ≤ cap) : eTup ff env st = .ok (.val (.tup ds)) s1 := by unfold eTup; rw [h]; show (match allV rs with | some ds => if ds.length ≤ cap then Rs.ok (RV.val (.tup ds)) s1 else .no | none => .no) = _; rw [h2]; exact if_pos h3
theorem ife_ok (h : c env st = .ok t s1) (h2 : (if t = true then fa env s1 else fb env s1) = R) : eIf c fa fb env st = R := by unfold eIf; rw [h]; exact h2
theorem put_ok (h : fv env st = .ok r s1) (h2 : fo env s1 = .ok x s2) (h3 : fi env s2 = .ok y s3) {s4 : Stx} (h4 : putM x y r s3 = some s4) : sPut fo fi fv env st = .go .nx env s4 := by
  unfold sPut
  rw [h]; show (fo env s1).toRt env _ = _
  rw [h2]; show (fi env s2).toRt env _ = _
  rw [h3]; show (match putM x y r s3 with | some st4 => Rt.go .nx env st4 | none => .no) = _
  rw [h4]
theorem run_rt {v' : RV} {s' : Stx} (hl : rs.length = n) (h : g (rs.map some ++ List.replicate (N - n) none) st = .go (.rt v) e1 s1) (hf : fin st s1 v = (v', s')) : runDef N n g rs st = .ok v' s' := by
  unfold runDef
  rw [if_pos hl, h]
  show Rs.ok (fin st s1 v).1 (fin st s1 v).2 = _
  rw [hf]
theorem run_nx {v' : RV} {s' : Stx} (hl : rs.length = n) (h : g (rs.map some ++ List.replicate (N - n) none) st = .go .nx e1 s1) (hf : fin st s1 (.val .non) = (v', s')) : runDef N n g rs st = .ok v' s' := by
  unfold runDef
  rw [if_pos hl, h]
  show Rs.ok (fin st s1 (.val .non)).1 (fin st s1 (.val .non)).2 = _
  rw [hf]
theorem okL_t (h : ds.length ≤ cap) : okL true ds st = .ok (.ptr st.nx) (st.push (.lst ds)) := by unfold okL; rw [if_pos h, if_pos rfl]
theorem okL_f (h : ds.length ≤ cap) : okL false ds st = .ok (.val (.lst ds)) st := by unfold okL; rw [if_pos h]; rfl
end
theorem loop_inv {f : GF} {body : SF} (P : Nat → Env → Stx → Prop) : ∀ (ds : List D) (i : Nat) {env : Env} {st : Stx}, (∀ (j : Nat) (d : D) (env : Env) (st : Stx), ds[j]? = some d → P (i + j) env st → ∃ env1 env2 st2, f (.val d) env st = some env1 ∧ body env1 st = .go .nx env2 st2 ∧ P (i + j + 1) env2 st2) → P i env st →
    ∃ env' st', loopM f body ds env st = .go .nx env' st' ∧ P (i + ds.length) env' st'
  | [], i, env, st, _, h => ⟨env, st, rfl, h⟩
  | d :: ds, i, env, st, hs, h => by
    obtain ⟨env1, env2, st2, h1, h2, h3⟩ := hs 0 d env st rfl h
    obtain ⟨env', st', h4, h5⟩ := loop_inv P ds (i + 1) (fun j d env st e p => by
      obtain ⟨a, b, c, x, y, z⟩ := hs (j + 1) d env st (by simpa using e) (by rw [show i + (j + 1) = i + 1 + j by omega]; exact p)
      exact ⟨a, b, c, x, y, by rw [show i + 1 + j + 1 = i + (j + 1) + 1 by omega]; exact z⟩) h3
    refine ⟨env', st', ?_, by rw [List.length_cons, show i + (ds.length + 1) = i + 1 + ds.length by omega]; exact h5⟩
    unfold loopM
    simp only [h1, h2]
    exact h4
theorem comp_inv {f : GF} {fe : EF} {vs : List Nat} {env : Env} (P : Nat → List D → Stx → Prop) : ∀ (ds : List D) (i : Nat) {st : Stx} {acc : List D}, (∀ (j : Nat) (d : D) (st : Stx) (acc : List D), ds[j]? = some d → P (i + j) acc st → ∃ env1 x st2, f (.val d) (wipeE env vs) st = some env1 ∧ fe env1 st = .ok (.val x) st2 ∧ P (i + j + 1) (acc ++ [x]) st2) → P i acc st →
    ∃ xs st', compM vs f cYes fe ds env st = .ok xs st' ∧ P (i + ds.length) (acc ++ xs) st'
  | [], i, st, acc, _, h => ⟨[], st, rfl, by rw [List.append_nil]; exact h⟩
  | d :: ds, i, st, acc, hs, h => by
    obtain ⟨env1, x, st2, h1, h2, h3⟩ := hs 0 d st acc rfl h
    obtain ⟨xs, st', h4, h5⟩ := comp_inv P ds (i + 1) (fun j d st acc e p => by
      obtain ⟨a, b, c, x, y, z⟩ := hs (j + 1) d st acc (by simpa using e) (by rw [show i + (j + 1) = i + 1 + j by omega]; exact p)
      exact ⟨a, b, c, x, y, by rw [show i + 1 + j + 1 = i + (j + 1) + 1 by omega]; exact z⟩) h3
    refine ⟨x :: xs, st', ?_, by rw [List.length_cons, show i + (ds.length + 1) = i + 1 + ds.length by omega, show acc ++ x :: xs = (acc ++ [x]) ++ xs by simp]; exact h5⟩
    unfold compM
    simp only [h1, cYes, Rs.noEr, Rs.bind, h2, h4, if_true]
section
variable {env e1 : Env} {st s1 s2 s3 : Stx} {fa fb fc fe fo fi fv : EF} {ff : AF} {R : Rs RV} {T : Rt} {ds xs : List D} {it : ItF} {f : GF} {body : SF} {c : CF} {vs : List Nat} {m : Bool} {pl ph : PF} {x : RV} {i : Nat} {nd : Nd} {d : D} {n : Nat} {lo hi : Option Int} {rs : List RV} {okm : Stx → RV → Bool} {gm : RV → List RV → Stx → Rs RV}
theorem join_ok {a : Str} {ys : List Str} (h : fo env st = .ok (.val (.str a)) s1) (h2 : fe env s1 = .ok (.val (.lst ds)) s2) (h3 : allS ds = some ys) (h4 : (ys.map (·.length)).sum + ys.length * a.length ≤ 16777216) : eJoin fo fe env st = .ok (.val (.str (Txt.join a ys))) s2 := by
  unfold eJoin
  simp only [h, h2, Rs.bind, Stx.ls, Option.bind_some, h3, if_pos h4]
theorem comp_ok (h : it env st = .ok ds s1) (hl : ds.length ≤ cap) (h2 : compM vs f c fe ds env s1 = .ok xs s2) : eComp false vs it f c fe env st = .ok (.val (.lst xs)) s2 := by
  unfold eComp
  simp only [h, Rs.bind, if_pos hl, h2]
  rfl
theorem range_ok {j : Int} (h : ff env st = .ok [.val (.int j)] s1) (h0 : 0 ≤ j) (h1 : j ≤ cap) : iRange ff env st = .ok (irng 0 j.toNat) s1 := by
  unfold iRange
  rw [h]
  show (if _ then _ else _) = _
  exact if_pos ⟨by omega, h1⟩
theorem for_ok (h : it env st = .ok ds s1) (h2 : loopM f body ds env s1 = T) : sFor it f body env st = T := by unfold sFor; rw [h]; exact h2
theorem sl_ok (h : fe env st = .ok x s1) (h2 : pl env s1 = .ok lo s2) (h3 : ph env s2 = .ok hi s3) (h4 : oSl m x lo hi s3 = R) : eSl m fe pl ph env st = R := by
  unfold eSl
  simp only [h, h2, h3, Rs.bind]
  exact h4
theorem pNo_ok : pNo env st = .ok none st := rfl
theorem pIn_ok {i : Int} (h : fe env st = .ok (.val (.int i)) s1) : pIn fe env st = .ok (some i) s1 := by unfold pIn; simp only [h, Rs.bind]
theorem sl_str_ok {z : Str} (h : z.length ≤ cap) : oSl m (.val (.str z)) lo hi st = .ok (.val (.str (cutS z lo hi))) st := if_pos h
theorem add_str_ok {a b : Str} (h : a.length + b.length ≤ cap) : oAdd m (.val (.str a)) (.val (.str b)) st = .ok (.val (.str (a ++ b))) st := if_pos h
theorem neg_ok {i : Int} (h : fe env st = .ok (.val (.int i)) s1) : eNeg fe env st = .ok (.val (.int (-i))) s1 := by unfold eNeg; simp only [h, Rs.bind]
theorem frz_ok (h : env[i]? = some (some (.ptr n))) (h2 : st.at' n = some nd) (h3 : nd.data = some d) : sFrz i env st = .go .nx (env.set i (some (.val d))) (st.del n) := by
  unfold sFrz
  simp only [h, h2, h3]
theorem mt_ok (h : fo env st = .ok x s1) (h2 : okm s1 x = true) (h3 : ff env s1 = .ok rs s2) (h4 : gm x rs s2 = R) : eMt okm gm fo ff env st = R := by
  unfold eMt
  simp only [h, h2, h3, Rs.bind, if_true]
  exact h4
end
section
variable {env : Env} {st s1 s2 s3 : Stx} {fo fv fe : EF} {ff : AF} {Cs : List Addr} {C : Addr} {f : Str} {ns : List Str} {rs args : List RV} {n : Nat} {d : D} {x r : RV} {Fm : MF} {dfl : List D}
theorem setF_ok (h : fv env st = .ok (.val d) s1) (h2 : fo env s1 = .ok (.ptr n) s2) (h3 : s2.at' n = some (.obj C ns rs)) (h4 : Cs.contains C = true) (h5 : ns.length < 500) : sSetF Cs f fo fv env st = .go .nx env (s2.set n (.obj C (putNs f ns) (putRs f (.val d) ns rs))) := by
  unfold sSetF
  simp only [h, h2, Rs.toRt, h3]
  rw [if_pos ⟨h4, h5⟩]
theorem fld_ok {rsv : List RV} (h : fe env st = .ok x s1) (h2 : s1.ob x = some (C, ns, rsv)) (h3 : Cs.contains C = true) (h4 : getF f ns rsv = some r) : eFld Cs f fe env st = .ok r s1 := by
  unfold eFld
  simp only [h, Rs.bind, h2, if_pos h3, h4]
theorem make_t (h : ff env st = .ok args s1) (h2 : Fm (.ptr s1.nx :: (args ++ dfl.map RV.val)) (s1.push (.obj C [] [])) = .ok (.val .non) s2) : eMake C Fm true dfl ff env st = .ok (.ptr s1.nx) s2 := by
  unfold eMake
  simp only [h, Rs.bind, h2]
  rfl
theorem isN_ok : oIsN false x (.val .non) st = .ok (.val (.bl (isNon x))) st := rfl
end
section
variable {env : Env} {st s1 s2 s3 : Stx} {fd fk fv fo fe : EF} {rd rk r x z : RV} {ks : List Key} {ds : List D} {k : Key} {d : D} {m : Bool} {R : Rs RV}
theorem star_ok (h : fd env st = .ok rd s1) (h2 : s1.dc rd = some (ks, ds)) (h3 : fk env s1 = .ok rk s2) (h4 : fv env s2 = .ok (.val d) s3) (h5 : keyOf rk = some k) (h6 : okD m (putKs ks k) (putDs ks ds k d) s3 = R) : eStar m fd fk fv env st = R := by
  unfold eStar
  simp only [h, Rs.bind, h2, h3, h4, h5]
  exact h6
theorem okD_f (h : ks.length ≤ cap) : okD false ks ds st = .ok (.val (.dct ks ds)) st := by unfold okD; rw [if_pos h]; rfl
theorem okD_t (h : ks.length ≤ cap) : okD true ks ds st = .ok (.ptr st.nx) (st.push (.dct false ks ds)) := by unfold okD; rw [if_pos h, if_pos rfl]
theorem get_ok {kd : List Key × List D} (h : fo env st = .ok x s1) (h2 : s1.dc x = some kd) (h3 : fe env s1 = .ok rk s2) (h4 : fd env s2 = .ok z s3) (h5 : s3.dc x = some (ks, ds)) (h6 : keyOf rk = some k) : eGet fo fe fd env st = .ok (match lookK ks ds k with | some d => .val d | none => z) s3 := by
  unfold eGet
  simp only [h, Rs.bind, h2, h3, h4, h5, h6]
  cases lookK ks ds k <;> rfl
end
end DM
namespace DM
open PySem PySem.Spec PyProof.Rows L2
abbrev XR := Ex → Stx → Prop
abbrev XS := Ex → Env → Stx → Prop
@[irreducible] def wE {α : Type} (x : Rs α) (Q : α → Stx → Prop) (X : XR) : Prop := match x with
  | .ok a st => Q a st
  | .er e st => X e st
  | .no => False
@[irreducible] def wS (x : Rt) (Q : Fl → Env → Stx → Prop) (X : XS) : Prop := match x with
  | .go f env st => Q f env st
  | .er e env st => X e env st
  | .no => False
section
variable {α β : Type} {x : Rs α} {Q Q' : α → Stx → Prop} {X X' : XR} {Z Z' : XS} {R R' : Fl → Env → Stx → Prop} {env e1 : Env} {st s1 : Stx}
theorem wE_bind {k : α → Stx → Rs β} {Q : β → Stx → Prop} : wE (x.bind k) Q X = wE x (fun a s => wE (k a s) Q X) X := by with_unfolding_all cases x <;> rfl
theorem wE_toRt {k : α → Stx → Rt} : wS (x.toRt env k) R Z = wE x (fun a s => wS (k a s) R Z) (fun e s => Z e env s) := by with_unfolding_all cases x <;> rfl
theorem wE_imp (h : wE x Q X) (hq : ∀ a s, Q a s → Q' a s) (hx : ∀ e s, X e s → X' e s) : wE x Q' X' := by with_unfolding_all
  cases x with
  | ok a s => exact hq a s h
  | er e s => exact hx e s h
  | no => exact h
theorem wS_imp {x : Rt} (h : wS x R Z) (hq : ∀ f e s, R f e s → R' f e s) (hx : ∀ e n s, Z e n s → Z' e n s) : wS x R' Z' := by with_unfolding_all
  cases x with
  | go f e s => exact hq f e s h
  | er e n s => exact hx e n s h
  | no => exact h
theorem w_eq {a : α} (h : x = .ok a s1) (q : Q a s1) : wE x Q X := by with_unfolding_all rw [h]; exact q
theorem w_ok {a : α} (q : Q a st) : wE (.ok a st) Q X := by with_unfolding_all exact q
theorem w_er {e : Ex} (q : X e st) : wE (.er e st : Rs α) Q X := by with_unfolding_all exact q
theorem wS_eq {x : Rt} {f : Fl} (h : x = .go f e1 s1) (q : R f e1 s1) : wS x R Z := by with_unfolding_all rw [h]; exact q
/-- the answer, out of a run -/
theorem w_out {a : α} (h : wE x (fun b s => b = a ∧ s = s1) fun _ _ => False) : x = .ok a s1 := by with_unfolding_all
  cases x with
  | ok b s => unfold wE at h; obtain ⟨rfl, rfl⟩ := h; rfl
  | er e s => exact (show False from h).elim
  | no => exact (show False from h).elim
theorem w_ex (h : wE x Q fun _ _ => False) : ∃ a s, x = .ok a s ∧ Q a s := by with_unfolding_all
  cases x with
  | ok b s => exact ⟨b, s, rfl, h⟩
  | er e s => exact (show False from h).elim
  | no => exact (show False from h).elim
theorem w_noEr (h : wE x Q fun _ _ => False) : wE x.noEr Q X := by with_unfolding_all
  cases x with
  | ok b s => exact h
  | er e s => exact h
  | no => exact h
theorem wS_noEr {x : Rt} (h : wS x R fun _ _ _ => False) : wS x.noEr R Z := by with_unfolding_all
  cases x with
  | go f e s => exact h
  | er e n s => exact h
  | no => exact h
end
section
variable {Q : RV → Stx → Prop} {QA : List RV → Stx → Prop} {QC : Bool → Stx → Prop} {QI : List D → Stx → Prop} {QP : Option Int → Stx → Prop} {X : XR} {Z : XS} {R : Fl → Env → Stx → Prop} {env : Env} {st : Stx} {fa fb fc fe fo fi fv fk fd : EF} {ff : AF} {c ca cb : CF} {a b body : SF} {r x y z : RV} {i n N : Nat} {d : D} {o o' : O2} {Fm : MF} {rs : List RV} {m t : Bool} {pl ph : PF} {it : ItF} {f : GF} {vs : List Nat} {ds : List D}
theorem w_var (h : env[i]? = some (some r)) (q : Q r st) : wE (eVar i env st) Q X := by with_unfolding_all unfold eVar; rw [h]; exact q
theorem w_c (q : Q (.val d) st) : wE (eC d env st) Q X := by with_unfolding_all exact q
theorem w_op (q : wE (fa env st) (fun x s => wE (fb env s) (fun y s => wE (o x y s) Q X) X) X) : wE (eOp o fa fb env st) Q X := by with_unfolding_all unfold eOp; simp only [wE_bind]; exact q
theorem w_chain (q : wE (fa env st) (fun x s => wE (fb env s) (fun y s => wE (o x y s) (fun z s => ∃ k, z = .val (.bl k) ∧ (k = true → wE (fc env s) (fun w s => wE (o' y w s) Q X) X) ∧ (k = false → Q (.val (.bl false)) s)) X) X) X) : wE (eChain o o' fa fb fc env st) Q X := by with_unfolding_all
  unfold eChain; simp only [wE_bind]
  refine wE_imp q (fun x s h => wE_imp h (fun y s h => wE_imp h (fun z s h => ?_) fun _ _ h => h) fun _ _ h => h) fun _ _ h => h
  obtain ⟨k, rfl, h1, h2⟩ := h
  cases k with
  | true => simp only [if_true, wE_bind]; exact h1 rfl
  | false => exact h2 rfl
theorem w_nil (q : QA [] st) : wE (aNil env st) QA X := by with_unfolding_all exact q
theorem w_cons (q : wE (fe env st) (fun r s => wE (ff env s) (fun rs s => QA (r :: rs) s) X) X) : wE (aCons fe ff env st) QA X := by with_unfolding_all unfold aCons; simp only [wE_bind]; exact q
theorem w_call (q : wE (ff env st) (fun rs s => wE (Fm rs s) Q X) X) : wE (eCall Fm ff env st) Q X := by with_unfolding_all unfold eCall; simp only [wE_bind]; exact q
theorem w_B {g : List RV → Stx → Rs RV} (q : wE (ff env st) (fun rs s => wE (g rs s) Q X) X) : wE (eB g ff env st) Q X := by with_unfolding_all unfold eB; simp only [wE_bind]; exact q
def lstK (m : Bool) (rs : List RV) (s : Stx) (Q : RV → Stx → Prop) : Prop := ∃ ds, allV rs = some ds ∧ ds.length ≤ cap ∧ (if m = true then Q (.ptr s.nx) (s.push (.lst ds)) else Q (.val (.lst ds)) s)
theorem w_lst (q : wE (ff env st) (fun rs s => lstK m rs s Q) X) : wE (eLst m ff env st) Q X := by with_unfolding_all
  unfold eLst; rw [wE_bind]
  refine wE_imp q (fun rs s h => ?_) fun _ _ h => h
  obtain ⟨ds, h1, h2, h3⟩ := h
  simp only [h1, okL, if_pos h2]
  cases m <;> exact h3
theorem w_lst_t (h : allV rs = some ds) (hl : ds.length ≤ cap) (q : Q (.ptr st.nx) (st.push (.lst ds))) : lstK true rs st Q := by with_unfolding_all exact ⟨ds, h, hl, q⟩
theorem w_lst_f (h : allV rs = some ds) (hl : ds.length ≤ cap) (q : Q (.val (.lst ds)) st) : lstK false rs st Q := by with_unfolding_all exact ⟨ds, h, hl, q⟩
def tupK (rs : List RV) (s : Stx) (Q : RV → Stx → Prop) : Prop := ∃ ds, allV rs = some ds ∧ ds.length ≤ cap ∧ Q (.val (.tup ds)) s
theorem w_tup (q : wE (ff env st) (fun rs s => tupK rs s Q) X) : wE (eTup ff env st) Q X := by with_unfolding_all
  unfold eTup; rw [wE_bind]
  refine wE_imp q (fun rs s h => ?_) fun _ _ h => h
  obtain ⟨ds, h1, h2, h3⟩ := h
  simp only [h1, if_pos h2]
  exact h3
theorem w_tupK (h : allV rs = some ds) (hl : ds.length ≤ cap) (q : Q (.val (.tup ds)) st) : tupK rs st Q := by with_unfolding_all exact ⟨ds, h, hl, q⟩
theorem w_dnew_t (q : Q (.ptr st.nx) (st.push (.dct false [] []))) : wE (eDnew true env st) Q X := by with_unfolding_all exact q
theorem w_dnew_f (q : Q (.val (.dct [] [])) st) : wE (eDnew false env st) Q X := by with_unfolding_all exact q
def okDK (m : Bool) (ks : List Key) (ds : List D) (s : Stx) (Q : RV → Stx → Prop) : Prop := ks.length ≤ cap ∧ (if m = true then Q (.ptr s.nx) (s.push (.dct false ks ds)) else Q (.val (.dct ks ds)) s)
theorem okDK_of {ks : List Key} (h : okDK m ks ds st Q) : wE (okD m ks ds st) Q X := by with_unfolding_all
  obtain ⟨h1, h2⟩ := h
  unfold okD
  rw [if_pos h1]
  cases m <;> exact h2
theorem w_okD_t {ks : List Key} (h : ks.length ≤ cap) (q : Q (.ptr st.nx) (st.push (.dct false ks ds))) : okDK true ks ds st Q := by with_unfolding_all exact ⟨h, q⟩
theorem w_okD_f {ks : List Key} (h : ks.length ≤ cap) (q : Q (.val (.dct ks ds)) st) : okDK false ks ds st Q := by with_unfolding_all exact ⟨h, q⟩
theorem w_star (q : wE (fd env st) (fun rd s => ∃ ks ds, s.dc rd = some (ks, ds) ∧ wE (fk env s) (fun rk s => wE (fv env s) (fun rv s => ∃ k d, keyOf rk = some k ∧ rv = .val d ∧ okDK m (putKs ks k) (putDs ks ds k d) s Q) X) X) X) : wE (eStar m fd fk fv env st) Q X := by with_unfolding_all
  unfold eStar; rw [wE_bind]
  refine wE_imp q (fun rd s h => ?_) fun _ _ h => h
  obtain ⟨ks, ds, h1, h⟩ := h
  simp only [h1, wE_bind]
  refine wE_imp h (fun rk s h => wE_imp h (fun rv s h => ?_) fun _ _ h => h) fun _ _ h => h
  obtain ⟨k, d, h2, rfl, h⟩ := h
  simp only [h2]
  exact okDK_of h
theorem w_prs_nil {QP : List (Key × D) → Stx → Prop} (q : QP [] st) : wE (prsM [] env st) QP X := by with_unfolding_all exact q
theorem w_prs_cons {QP : List (Key × D) → Stx → Prop} {pr : List (EF × EF)} (q : wE (fk env st) (fun rk s => wE (fv env s) (fun rv s => ∃ k d, keyOf rk = some k ∧ rv = .val d ∧ wE (prsM pr env s) (fun ps s => QP ((k, d) :: ps) s) X) X) X) : wE (prsM ((fk, fv) :: pr) env st) QP X := by with_unfolding_all
  unfold prsM; simp only [wE_bind]
  refine wE_imp q (fun rk s h => wE_imp h (fun rv s h => ?_) fun _ _ h => h) fun _ _ h => h
  obtain ⟨k, d, h2, rfl, h⟩ := h
  simp only [h2, wE_bind]
  exact h
theorem w_disp {pr : List (EF × EF)} (q : wE (prsM pr env st) (fun ps s => ps.length ≤ 15 ∧ okDK m (mrg ps [] []).1 (mrg ps [] []).2 s Q) X) : wE (eDisp m pr env st) Q X := by with_unfolding_all
  unfold eDisp; rw [wE_bind]
  refine wE_imp q (fun ps s h => ?_) fun _ _ h => h
  simp only [if_pos h.1]
  exact okDK_of h.2
theorem w_ife (q : wE (c env st) (fun t s => wE (if t = true then fa env s else fb env s) Q X) X) : wE (eIf c fa fb env st) Q X := by with_unfolding_all unfold eIf; simp only [wE_bind]; exact q
theorem w_neg (q : wE (fe env st) (fun r s => ∃ i, r = .val (.int i) ∧ Q (.val (.int (-i))) s) X) : wE (eNeg fe env st) Q X := by with_unfolding_all
  unfold eNeg; rw [wE_bind]
  refine wE_imp q (fun r s h => ?_) fun _ _ h => h
  obtain ⟨i, rfl, h⟩ := h
  exact h
def blK (r : RV) (Q : Bool → Prop) : Prop := ∃ b, r = .val (.bl b) ∧ Q b
theorem w_blK {b : Bool} {Q : Bool → Prop} (q : Q b) : blK (.val (.bl b)) Q := by with_unfolding_all exact ⟨b, rfl, q⟩
theorem w_eand (q : wE (fa env st) (fun r s => blK r fun b => wE (if b = true then fb env s else .ok (.val (.bl false)) s) Q X) X) : wE (eAnd fa fb env st) Q X := by with_unfolding_all
  unfold eAnd; rw [wE_bind]
  refine wE_imp q (fun r s h => ?_) fun _ _ h => h
  obtain ⟨b, rfl, h⟩ := h
  exact h
theorem w_eor (q : wE (fa env st) (fun r s => blK r fun b => wE (if b = true then .ok (.val (.bl true)) s else fb env s) Q X) X) : wE (eOr fa fb env st) Q X := by with_unfolding_all
  unfold eOr; rw [wE_bind]
  refine wE_imp q (fun r s h => ?_) fun _ _ h => h
  obtain ⟨b, rfl, h⟩ := h
  exact h
theorem w_enot (q : wE (fa env st) (fun r s => blK r fun b => Q (.val (.bl (!b))) s) X) : wE (eNot fa env st) Q X := by with_unfolding_all
  unfold eNot; rw [wE_bind]
  refine wE_imp q (fun r s h => ?_) fun _ _ h => h
  obtain ⟨b, rfl, h⟩ := h
  exact h
theorem w_fld {Cs : List Addr} {fn : Str} (q : wE (fe env st) (fun r s => ∃ C ns rs v, s.ob r = some (C, ns, rs) ∧ Cs.contains C = true ∧ getF fn ns rs = some v ∧ Q v s) X) : wE (eFld Cs fn fe env st) Q X := by with_unfolding_all
  unfold eFld; rw [wE_bind]
  refine wE_imp q (fun r s h => ?_) fun _ _ h => h
  obtain ⟨C, ns, rs, v, h1, h2, h3, h4⟩ := h
  simp only [h1, if_pos h2, h3]
  exact h4
def getR (ks : List Key) (ds : List D) (k : Key) (z : RV) : RV := match lookK ks ds k with | some d => .val d | none => z
theorem w_get (q : wE (fo env st) (fun x s => ∃ kd, s.dc x = some kd ∧ wE (fe env s) (fun k s => wE (fd env s) (fun z s => ∃ ks ds kk, s.dc x = some (ks, ds) ∧ keyOf k = some kk ∧ Q (getR ks ds kk z) s) X) X) X) : wE (eGet fo fe fd env st) Q X := by with_unfolding_all
  unfold eGet; rw [wE_bind]
  refine wE_imp q (fun x s h => ?_) fun _ _ h => h
  obtain ⟨kd, h1, h⟩ := h
  simp only [h1, wE_bind]
  refine wE_imp h (fun k s h => wE_imp h (fun z s h => ?_) fun _ _ h => h) fun _ _ h => h
  obtain ⟨ks, ds, kk, h2, h3, h4⟩ := h
  simp only [h2, h3]
  unfold getR at h4
  cases e : lookK ks ds kk <;> simp only [e] at h4 ⊢ <;> exact h4
theorem w_sl (q : wE (fe env st) (fun x s => wE (pl env s) (fun l s => wE (ph env s) (fun u s => wE (oSl m x l u s) Q X) X) X) X) : wE (eSl m fe pl ph env st) Q X := by with_unfolding_all unfold eSl; simp only [wE_bind]; exact q
theorem w_pNo (q : QP none st) : wE (pNo env st) QP X := by with_unfolding_all exact q
theorem w_pIn (q : wE (fe env st) (fun r s => ∃ i, r = .val (.int i) ∧ QP (some i) s) X) : wE (pIn fe env st) QP X := by with_unfolding_all
  unfold pIn; rw [wE_bind]
  refine wE_imp q (fun r s h => ?_) fun _ _ h => h
  obtain ⟨i, rfl, h⟩ := h
  exact h
theorem w_mt {okm : Stx → RV → Bool} {g : RV → List RV → Stx → Rs RV} (q : wE (fo env st) (fun x s => okm s x = true ∧ wE (ff env s) (fun rs s => wE (g x rs s) Q X) X) X) : wE (eMt okm g fo ff env st) Q X := by with_unfolding_all
  unfold eMt; rw [wE_bind]
  refine wE_imp q (fun x s h => ?_) fun _ _ h => h
  simp only [if_pos h.1, wE_bind]
  exact h.2
theorem w_meth {C : Addr} {mn : Str} {dfl : List D} (q : wE (fo env st) (fun x s => ∃ C' ns rs, s.ob x = some (C', ns, rs) ∧ C' = C ∧ ns.contains mn = false ∧ wE (ff env s) (fun rs s => wE (Fm (x :: (rs ++ dfl.map RV.val)) s) Q X) X) X) : wE (eMeth C mn Fm dfl fo ff env st) Q X := by with_unfolding_all
  unfold eMeth; rw [wE_bind]
  refine wE_imp q (fun x s h => ?_) fun _ _ h => h
  obtain ⟨C', ns, rs, h1, h2, h3, h⟩ := h
  simp only [h1, if_pos (And.intro h2 h3), wE_bind]
  exact h
theorem w_make {C : Addr} {dfl : List D} (q : wE (ff env st) (fun rs s => wE (Fm (.ptr s.nx :: (rs ++ dfl.map RV.val)) (s.push (.obj C [] []))) (fun r s2 => r = .val .non ∧ wE (mkFin m s.nx s2) Q X) X) X) : wE (eMake C Fm m dfl ff env st) Q X := by with_unfolding_all
  unfold eMake; rw [wE_bind]
  refine wE_imp q (fun rs s h => ?_) fun _ _ h => h
  rw [wE_bind]
  refine wE_imp h (fun r s h => ?_) fun _ _ h => h
  obtain ⟨rfl, h⟩ := h
  exact h
theorem w_mkFin_t (q : Q (.ptr n) st) : wE (mkFin true n st) Q X := by with_unfolding_all exact q
theorem w_mkFin_f {nd : Nd} (h : st.at' n = some nd) (h2 : nd.data = some d) (q : Q (.val d) (st.del n)) : wE (mkFin false n st) Q X := by with_unfolding_all
  unfold mkFin
  simp only [Bool.false_eq_true, if_false, h, h2]
  exact q
theorem w_join (q : wE (fo env st) (fun x s => ∃ a, x = .val (.str a) ∧ wE (fe env s) (fun y s => ∃ ds ys, (y = .val (.lst ds) ∨ y = .val (.tup ds)) ∧ allS ds = some ys ∧ (ys.map (·.length)).sum + ys.length * a.length ≤ 16777216 ∧ Q (.val (.str (Txt.join a ys))) s) X) X) : wE (eJoin fo fe env st) Q X := by with_unfolding_all
  unfold eJoin; rw [wE_bind]
  refine wE_imp q (fun x s h => ?_) fun _ _ h => h
  obtain ⟨a, rfl, h⟩ := h
  show wE ((fe env s).bind _) Q X
  rw [wE_bind]
  refine wE_imp h (fun y s h => ?_) fun _ _ h => h
  obtain ⟨ds, ys, h1, h2, h3, h4⟩ := h
  rcases h1 with rfl | rfl
  · simp only [Stx.ls, Option.bind_some, h2, if_pos h3]
    exact h4
  · simp only [Option.bind_some, h2, if_pos h3]
    exact h4
theorem w_own {C : Addr} (h : isOb C st x = true) (q : wE (Fm [x, y] st) Q fun _ _ => False) : wE (oOwn C Fm x y st) Q X := by with_unfolding_all unfold oOwn; rw [if_pos h]; exact w_noEr q
theorem w_own2 {C C' : Addr} (h : isOb C st x = true) (h' : isOb C' st y = true) (q : wE (Fm [x, y] st) Q fun _ _ => False) : wE (oOwn2 C C' Fm x y st) Q X := by with_unfolding_all unfold oOwn2; rw [if_pos ⟨h, h'⟩]; exact w_noEr q
theorem w_ownIn {C : Addr} {neg : Bool} (h : isOb C st y = true) (q : wE (Fm [y, x] st) (fun r s => blK r fun b => Q (.val (.bl (if neg then !b else b))) s) fun _ _ => False) : wE (oOwnIn C Fm neg x y st) Q X := by with_unfolding_all
  unfold oOwnIn
  rw [if_pos h, wE_bind]
  refine w_noEr (wE_imp q (fun r s h => ?_) fun _ _ h => h)
  obtain ⟨b, rfl, h⟩ := h
  exact h
theorem w_ownLen {C : Addr} (h : isOb C st x = true) (q : wE (Fm [x] st) (fun r s => ∃ n : Int, r = .val (.int n) ∧ 0 ≤ n ∧ n < 2 ^ 63 ∧ Q (.val (.int n)) s) fun _ _ => False) : wE (gOwnLen C Fm [x] st) Q X := by with_unfolding_all
  unfold gOwnLen
  show wE (if isOb C st x = true then _ else _) Q X
  rw [if_pos h, wE_bind]
  refine w_noEr (wE_imp q (fun r s h => ?_) fun _ _ h => h)
  obtain ⟨n, rfl, h1, h2, h⟩ := h
  show wE (if _ then _ else _) Q X
  rw [if_pos (And.intro h1 h2)]
  exact h
theorem w_cB (q : wE (fe env st) (fun r s => blK r fun b => QC b s) X) : wE (cB fe env st) QC X := by with_unfolding_all
  unfold cB; rw [wE_bind]
  refine wE_imp q (fun r s h => ?_) fun _ _ h => h
  obtain ⟨b, rfl, h⟩ := h
  exact h
theorem w_not (q : wE (c env st) (fun b s => QC (!b) s) X) : wE (cNot c env st) QC X := by with_unfolding_all unfold cNot; rw [wE_bind]; exact q
theorem w_and (q : wE (ca env st) (fun b s => wE (if b = true then cb env s else .ok false s) QC X) X) : wE (cAnd ca cb env st) QC X := by with_unfolding_all unfold cAnd; rw [wE_bind]; exact q
theorem w_or (q : wE (ca env st) (fun b s => wE (if b = true then .ok true s else cb env s) QC X) X) : wE (cOr ca cb env st) QC X := by with_unfolding_all unfold cOr; rw [wE_bind]; exact q
theorem w_tru (q : wE (fe env st) (fun r s => ∃ b, truth s r = some b ∧ QC b s) X) : wE (cTruth fe env st) QC X := by with_unfolding_all
  unfold cTruth; rw [wE_bind]
  refine wE_imp q (fun r s h => ?_) fun _ _ h => h
  obtain ⟨b, h1, h⟩ := h
  simp only [h1]
  exact h
theorem w_yes (q : QC true st) : wE (cYes env st) QC X := by with_unfolding_all exact q
theorem w_ite {α : Type} {xa xb : Rs α} {Q : α → Stx → Prop} (h1 : t = true → wE xa Q X) (h2 : t = false → wE xb Q X) : wE (if t = true then xa else xb) Q X := by with_unfolding_all
  cases t with
  | true => exact h1 rfl
  | false => exact h2 rfl
theorem wS_ite {xa xb : Rt} (h1 : t = true → wS xa R Z) (h2 : t = false → wS xb R Z) : wS (if t = true then xa else xb) R Z := by with_unfolding_all
  cases t with
  | true => exact h1 rfl
  | false => exact h2 rfl
def sqK (b : SF) (R : Fl → Env → Stx → Prop) (Z : XS) : Fl → Env → Stx → Prop
  | .nx, env, st => wS (b env st) R Z
  | f, env, st => R f env st
theorem w_seq (q : wS (a env st) (sqK b R Z) Z) : wS (sSeq a b env st) R Z := by with_unfolding_all
  unfold sSeq
  cases e : a env st with
  | go f e1 s1 =>
    rw [e] at q
    cases f <;> exact q
  | er x e1 s1 => rw [e] at q; exact q
  | no => rw [e] at q; exact q
theorem w_seq_nx (q : wS (b env st) R Z) : sqK b R Z .nx env st := by with_unfolding_all exact q
theorem w_seq_rt (q : R (.rt r) env st) : sqK b R Z (.rt r) env st := by with_unfolding_all exact q
theorem w_seq_bk (q : R .bk env st) : sqK b R Z .bk env st := by with_unfolding_all exact q
theorem w_seq_ct (q : R .ct env st) : sqK b R Z .ct env st := by with_unfolding_all exact q
/-- cut: what holds between two statements -/
theorem w_cut (P : Env → Stx → Prop) (h : wS (a env st) (fun f e s => match f with | .nx => P e s | f => R f e s) Z) (q : ∀ e s, P e s → wS (b e s) R Z) : wS (sSeq a b env st) R Z := by with_unfolding_all
  refine w_seq (wS_imp h (fun f e s h => ?_) fun _ _ _ h => h)
  cases f with
  | nx => exact q e s h
  | rt r => exact h
  | bk => exact h
  | ct => exact h
theorem w_next (q : R .nx env st) : wS (sNext env st) R Z := by with_unfolding_all exact q
theorem w_asgN (q : wE (fe env st) (fun r s => R .nx (env.set i (some r)) s) (fun e s => Z e env s)) : wS (sAsg fe (fName i) env st) R Z := by with_unfolding_all unfold sAsg; rw [wE_toRt]; exact q
theorem w_asg (q : wE (fe env st) (fun r s => ∃ env', f r env s = some env' ∧ R .nx env' s) (fun e s => Z e env s)) : wS (sAsg fe f env st) R Z := by with_unfolding_all
  unfold sAsg; rw [wE_toRt]
  refine wE_imp q (fun r s h => ?_) fun _ _ h => h
  obtain ⟨env', h1, h⟩ := h
  simp only [h1]
  exact h
theorem w_expr (q : wE (fe env st) (fun r s => R .nx env s) (fun e s => Z e env s)) : wS (sExpr fe env st) R Z := by with_unfolding_all unfold sExpr; rw [wE_toRt]; exact q
theorem w_ret (q : wE (fe env st) (fun r s => R (.rt r) env s) (fun e s => Z e env s)) : wS (sRet fe env st) R Z := by with_unfolding_all unfold sRet; rw [wE_toRt]; exact q
theorem w_retN (q : R (.rt (.val .non)) env st) : wS (sRetN env st) R Z := by with_unfolding_all exact q
theorem w_if (q : wE (c env st) (fun t s => wS (if t = true then a env s else b env s) R Z) (fun e s => Z e env s)) : wS (sIf c a b env st) R Z := by with_unfolding_all unfold sIf; rw [wE_toRt]; exact q
theorem w_brk (q : R .bk env st) : wS (sBreak env st) R Z := by with_unfolding_all exact q
theorem w_cont (q : R .ct env st) : wS (sCont env st) R Z := by with_unfolding_all exact q
theorem w_frz {nd : Nd} (h : env[i]? = some (some (.ptr n))) (h2 : st.at' n = some nd) (h3 : nd.data = some d) (q : R .nx (env.set i (some (.val d))) (st.del n)) : wS (sFrz i env st) R Z := by with_unfolding_all
  unfold sFrz
  simp only [h, h2, h3]
  exact q
theorem w_frz_v {d : D} (h : env[i]? = some (some (.val d))) (q : R .nx env st) : wS (sFrz i env st) R Z := by with_unfolding_all
  unfold sFrz
  simp only [h]
  exact q
theorem w_frz_n (h : env[i]? = some none) (q : R .nx env st) : wS (sFrz i env st) R Z := by with_unfolding_all
  unfold sFrz
  simp only [h]
  exact q
theorem w_put (q : wE (fv env st) (fun r s => wE (fo env s) (fun x s => wE (fi env s) (fun i s => ∃ s', putM x i r s = some s' ∧ R .nx env s') (fun e s => Z e env s)) (fun e s => Z e env s)) (fun e s => Z e env s)) : wS (sPut fo fi fv env st) R Z := by with_unfolding_all
  unfold sPut; simp only [wE_toRt]
  refine wE_imp q (fun r s h => wE_imp h (fun x s h => wE_imp h (fun i s h => ?_) fun _ _ h => h) fun _ _ h => h) fun _ _ h => h
  obtain ⟨s', h1, h⟩ := h
  simp only [h1]
  exact h
theorem w_setF {Cs : List Addr} {fn : Str} (q : wE (fv env st) (fun r s => ∃ d, r = .val d ∧ wE (fo env s) (fun x s => ∃ n C ns rs, x = .ptr n ∧ s.at' n = some (.obj C ns rs) ∧ Cs.contains C = true ∧ ns.length < 500 ∧ R .nx env (s.set n (.obj C (putNs fn ns) (putRs fn (.val d) ns rs)))) (fun e s => Z e env s)) (fun e s => Z e env s)) : wS (sSetF Cs fn fo fv env st) R Z := by with_unfolding_all
  unfold sSetF; simp only [wE_toRt]
  refine wE_imp q (fun r s h => ?_) fun _ _ h => h
  obtain ⟨d, rfl, h⟩ := h
  refine wE_imp h (fun x s h => ?_) fun _ _ h => h
  obtain ⟨n, C, ns, rs, rfl, h1, h2, h3, h⟩ := h
  simp only [h1, if_pos (And.intro h2 h3)]
  exact h
theorem w_putO {C : Addr} (q : wE (fv env st) (fun r s => wE (fo env s) (fun x s => wE (fi env s) (fun i s => isOb C s x = true ∧ wE (Fm [x, i, r] s) (fun _ s => R .nx env s) fun _ _ => False) (fun e s => Z e env s)) (fun e s => Z e env s)) (fun e s => Z e env s)) : wS (sPutO C Fm fo fi fv env st) R Z := by with_unfolding_all
  unfold sPutO; simp only [wE_toRt]
  refine wE_imp q (fun r s h => wE_imp h (fun x s h => wE_imp h (fun i s h => ?_) fun _ _ h => h) fun _ _ h => h) fun _ _ h => h
  simp only [if_pos h.1, wE_toRt]
  exact w_noEr h.2
theorem w_aug (h : env[i]? = some (some x)) (q : wE (fe env st) (fun y s => wE (o x y s) (fun z s => R .nx (env.set i (some z)) s) (fun e s => Z e env s)) (fun e s => Z e env s)) : wS (sAug i o fe env st) R Z := by with_unfolding_all
  unfold sAug
  simp only [h, wE_toRt]
  exact q
theorem w_iSeq (q : wE (fe env st) (fun r s => ∃ ds, seqK r s = .ok ds s ∧ QI ds s) X) : wE (iSeq fe env st) QI X := by with_unfolding_all
  unfold iSeq; rw [wE_bind]
  refine wE_imp q (fun r s h => ?_) fun _ _ h => h
  obtain ⟨ds, h1, h⟩ := h
  rw [h1]
  exact h
end
end DM
namespace DM
open PySem PySem.Spec PyProof.Rows L2
section
variable {Q : RV → Stx → Prop} {QI : List D → Stx → Prop} {X : XR} {Z : XS} {R : Fl → Env → Stx → Prop} {env : Env} {st s s' : Stx} {fe fk : EF} {ff : AF} {c : CF} {body : SF} {r r' : RV} {i n N : Nat} {d : D} {rs : List RV} {m : Bool} {it : ItF} {f : GF} {vs : List Nat} {ds es : List D} {ks : List Key} {g : SF} {pm : Env → Stx → Option RV} {items : List Key → List D → List D}
theorem w_iRange (q : wE (ff env st) (fun rs s => ∃ ds, rangeK rs s = .ok ds s ∧ QI ds s) X) : wE (iRange ff env st) QI X := by with_unfolding_all
  unfold iRange; rw [wE_bind]
  refine wE_imp q (fun r s h => ?_) fun _ _ h => h
  obtain ⟨ds, h1, h⟩ := h
  rw [h1]
  exact h
theorem range1 {j : Int} (h0 : -(2 ^ 60) ≤ j) (h1 : j ≤ cap) {s : Stx} : rangeK [.val (.int j)] s = .ok (irng 0 j.toNat) s := if_pos ⟨h0, h1⟩
theorem w_iArgs {k : List RV → Stx → Rs (List D)} (q : wE (ff env st) (fun rs s => wE (k rs s) QI X) X) : wE (iArgs k ff env st) QI X := by with_unfolding_all unfold iArgs; rw [wE_bind]; exact q
theorem w_for (q : wE (it env st) (fun ds s => wS (loopM f body ds env s) R Z) (fun e s => Z e env s)) : wS (sFor it f body env st) R Z := by with_unfolding_all unfold sFor; rw [wE_toRt]; exact q
/-- the end of a loop's turn -/
def turnK (P : Env → Stx → Prop) (R : Fl → Env → Stx → Prop) : Fl → Env → Stx → Prop
  | .nx, env, st => P env st
  | .ct, env, st => P env st
  | .bk, env, st => R .nx env st
  | .rt r, env, st => R (.rt r) env st
theorem w_turn_nx {P : Env → Stx → Prop} (q : P env st) : turnK P R .nx env st := by with_unfolding_all exact q
theorem w_turn_ct {P : Env → Stx → Prop} (q : P env st) : turnK P R .ct env st := by with_unfolding_all exact q
theorem w_turn_bk {P : Env → Stx → Prop} (q : R .nx env st) : turnK P R .bk env st := by with_unfolding_all exact q
theorem w_turn_rt {P : Env → Stx → Prop} (q : R (.rt r) env st) : turnK P R (.rt r) env st := by with_unfolding_all exact q
theorem w_loop0 (P : Nat → Env → Stx → Prop) : ∀ (ds : List D) (i : Nat) {env : Env} {st : Stx}, (∀ (j : Nat) (d : D) (env : Env) (st : Stx), ds[j]? = some d → P (i + j) env st → ∃ env1, f (.val d) env st = some env1 ∧ wS (body env1 st) (turnK (P (i + j + 1)) R) Z) → P i env st →
    (∀ env st, P (i + ds.length) env st → R .nx env st) → wS (loopM f body ds env st) R Z
  | [], i, env, st, _, h, q => by with_unfolding_all exact q env st h
  | d :: ds, i, env, st, hs, h, q => by
    obtain ⟨env1, h1, h2⟩ := by with_unfolding_all exact hs 0 d env st rfl h
    have ih : ∀ e s, P (i + 1) e s → wS (loopM f body ds e s) R Z := fun e s h => w_loop0 P ds (i + 1) (fun j d env st e p => by
      obtain ⟨a, x, y⟩ := hs (j + 1) d env st (by simpa using e) (by rw [show i + (j + 1) = i + 1 + j by omega]; exact p)
      exact ⟨a, x, by rw [show i + 1 + j + 1 = i + (j + 1) + 1 by omega]; exact y⟩) h fun e s h => q e s (by rw [List.length_cons, show i + (ds.length + 1) = i + 1 + ds.length by omega]; exact h)
    unfold loopM
    simp only [h1]
    cases e : body env1 st with
    | go fl e2 s2 => rw [e] at h2; cases fl with
      | nx => exact ih e2 s2 (by with_unfolding_all exact h2)
      | ct => exact ih e2 s2 (by with_unfolding_all exact h2)
      | bk => with_unfolding_all exact h2
      | rt r => with_unfolding_all exact h2
    | er x e2 s2 => rw [e] at h2; with_unfolding_all exact h2
    | no => rw [e] at h2; with_unfolding_all exact h2
/-- a loop by its invariant -/
theorem w_loop (P : Nat → Env → Stx → Prop) (h0 : P 0 env st) (hs : ∀ (j : Nat) (d : D) (env : Env) (st : Stx), ds[j]? = some d → P j env st → ∃ env1, f (.val d) env st = some env1 ∧ wS (body env1 st) (turnK (P (j + 1)) R) Z) (q : ∀ env st, P ds.length env st → R .nx env st) : wS (loopM f body ds env st) R Z := 
  w_loop0 P ds 0 (fun j d env st e p => by rw [Nat.zero_add] at *; exact hs j d env st e p) h0 fun e s h => q e s (by rw [Nat.zero_add] at h; exact h)
def cYM (o : Option D) (b : Bool) : Prop := b = o.isSome
theorem w_comp0 (P : Nat → List D → Stx → Prop) : ∀ (ds : List D) (i : Nat) {st : Stx} {acc : List D} {Q : List D → Stx → Prop}, (∀ (j : Nat) (d : D) (st : Stx) (acc : List D), ds[j]? = some d → P (i + j) acc st → ∃ env1, f (.val d) (wipeE env vs) st = some env1 ∧ wE (c env1 st) (fun b s => if b = true then wE (fe env1 s) (fun r s => ∃ x, r = .val x ∧ P (i + j + 1) (acc ++ [x]) s) fun _ _ => False else P (i + j + 1) acc s) fun _ _ => False) → P i acc st →
    (∀ xs st, P (i + ds.length) (acc ++ xs) st → Q xs st) → wE (compM vs f c fe ds env st) Q X
  | [], i, st, acc, Q, _, h, q => by with_unfolding_all exact q [] st (by rw [List.append_nil]; exact h)
  | d :: ds, i, st, acc, Q, hs, h, q => by
    obtain ⟨env1, h1, h2⟩ := by with_unfolding_all exact hs 0 d st acc rfl h
    have ih : ∀ (acc : List D) (s : Stx) (Q : List D → Stx → Prop), P (i + 1) acc s → (∀ xs st, P (i + 1 + ds.length) (acc ++ xs) st → Q xs st) → wE (compM vs f c fe ds env s) Q X := fun acc s Q h q => w_comp0 P ds (i + 1) (fun j d st acc e p => by
      obtain ⟨a, x, y⟩ := hs (j + 1) d st acc (by simpa using e) (by rw [show i + (j + 1) = i + 1 + j by omega]; exact p)
      exact ⟨a, x, by rw [show i + 1 + j + 1 = i + (j + 1) + 1 by omega]; exact y⟩) h q
    have e1 : i + (d :: ds).length = i + 1 + ds.length := by rw [List.length_cons]; omega
    rw [e1] at q
    unfold compM
    simp only [h1, wE_bind]
    refine w_noEr (wE_imp h2 (fun b s h => ?_) fun _ _ h => h)
    cases b with
    | false => exact ih acc s Q h q
    | true =>
      simp only [if_true, wE_bind] at h ⊢
      refine w_noEr (wE_imp h (fun r s h => ?_) fun _ _ h => h)
      obtain ⟨x, rfl, h⟩ := h
      simp only [wE_bind]
      refine ih (acc ++ [x]) s _ h fun xs st h => ?_
      with_unfolding_all exact q (x :: xs) st (by rw [List.append_assoc] at h; exact h)
theorem w_compI (P : Nat → List D → Stx → Prop) {Q : List D → Stx → Prop} (h0 : P 0 [] st) (hs : ∀ (j : Nat) (d : D) (st : Stx) (acc : List D), ds[j]? = some d → P j acc st → ∃ env1, f (.val d) (wipeE env vs) st = some env1 ∧ wE (c env1 st) (fun b s => if b = true then wE (fe env1 s) (fun r s => ∃ x, r = .val x ∧ P (j + 1) (acc ++ [x]) s) fun _ _ => False else P (j + 1) acc s) fun _ _ => False) (q : ∀ xs st, P ds.length xs st → Q xs st) : wE (compM vs f c fe ds env st) Q X := 
  w_comp0 P ds 0 (fun j d st acc e p => by rw [Nat.zero_add] at *; exact hs j d st acc e p) h0 fun xs st h => q xs st (by rw [Nat.zero_add, List.nil_append] at h; exact h)
/-- a comprehension that changes nothing: what it lists is known -/
theorem w_compG (h : D → Option D) {Q : List D → Stx → Prop} (hs : ∀ d ∈ ds, ∃ env1, f (.val d) (wipeE env vs) st = some env1 ∧ wE (c env1 st) (fun b s => s = st ∧ b = (h d).isSome ∧ ∀ x, h d = some x → wE (fe env1 st) (fun r s => r = .val x ∧ s = st) fun _ _ => False) fun _ _ => False) (q : Q (ds.filterMap h) st) : wE (compM vs f c fe ds env st) Q X := by with_unfolding_all
  refine w_compI (fun j acc s => acc = (ds.take j).filterMap h ∧ s = st) ⟨by simp, rfl⟩ (fun j d s acc e ⟨h1, h2⟩ => ?_) fun xs s ⟨h1, h2⟩ => by rw [h1, h2, List.take_length]; exact q
  subst h2
  obtain ⟨env1, h3, h4⟩ := hs d (List.mem_of_getElem? e)
  refine ⟨env1, h3, wE_imp h4 (fun b s2 h5 => ?_) fun _ _ h => h⟩
  obtain ⟨rfl, h5, h6⟩ := h5
  have hl := (List.getElem?_eq_some_iff.mp e).1
  have hd : ds[j] = d := (List.getElem?_eq_some_iff.mp e).2
  have tk : ds.take (j + 1) = ds.take j ++ [d] := by rw [List.take_succ_eq_append_getElem hl, hd]
  cases ho : h d with
  | none =>
    rw [ho] at h5
    subst h5
    refine ⟨?_, rfl⟩
    rw [h1, tk, List.filterMap_append]
    simp [ho]
  | some x =>
    rw [ho] at h5
    subst h5
    simp only [Option.isSome_some, if_true]
    refine wE_imp (h6 x ho) (fun r s3 h7 => ?_) fun _ _ h => h
    obtain ⟨rfl, rfl⟩ := h7
    refine ⟨x, rfl, ?_, rfl⟩
    rw [h1, tk, List.filterMap_append]
    simp [ho]
/-- without a test -/
theorem w_compM (h : D → D) {Q : List D → Stx → Prop} (hs : ∀ d ∈ ds, ∃ env1, f (.val d) (wipeE env vs) st = some env1 ∧ wE (fe env1 st) (fun r s => r = .val (h d) ∧ s = st) fun _ _ => False) (q : Q (ds.map h) st) : wE (compM vs f cYes fe ds env st) Q X := by with_unfolding_all
  refine w_compG (fun d => some (h d)) (fun d m => ?_) (by rw [List.filterMap_eq_map']; exact q)
  obtain ⟨env1, h1, h2⟩ := hs d m
  exact ⟨env1, h1, rfl, rfl, fun x e => by cases e; exact h2⟩
def okLcK (m : Bool) (xs : List D) (s : Stx) (Q : RV → Stx → Prop) : Prop := if m = true then Q (.ptr s.nx) (s.push (.lst xs)) else Q (.val (.lst xs)) s
theorem w_comp (q : wE (it env st) (fun ds s => ds.length ≤ cap ∧ wE (compM vs f c fe ds env s) (fun xs s => okLcK m xs s Q) X) X) : wE (eComp m vs it f c fe env st) Q X := by with_unfolding_all
  unfold eComp; rw [wE_bind]
  refine wE_imp q (fun ds s h => ?_) fun _ _ h => h
  simp only [if_pos h.1, wE_bind]
  refine wE_imp h.2 (fun xs s h => ?_) fun _ _ h => h
  cases m <;> exact h
theorem w_compD_v (h : pm env st = some (.val (.dct ks ds))) (q : wE (compM vs f c fe (items ks ds) env st) (fun xs s => Q (.val (.lst xs)) s) fun _ _ => False) : wE (eCompD vs pm items f c fe env st) Q X := by with_unfolding_all
  unfold eCompD lkE
  simp only [h, wE_bind]
  exact w_noEr q
theorem w_compD_p (h : pm env st = some (.ptr n)) (h2 : st.at' n = some (.dct false ks ds)) (q : wE (compM vs f c fe (items ks ds) env (st.set n (.dct true ks ds))) (fun xs s => ∃ ks ds, s.at' n = some (.dct true ks ds) ∧ Q (.val (.lst xs)) (s.set n (.dct false ks ds))) fun _ _ => False) : wE (eCompD vs pm items f c fe env st) Q X := by with_unfolding_all
  unfold eCompD lkE
  simp only [h, h2]
  cases e : compM vs f c fe (items ks ds) env (st.set n (.dct true ks ds)) with
  | ok xs s => rw [e] at q; unfold wE at q; obtain ⟨ks, ds, h3, h4⟩ := q; simp only [Rs.bind, unlE, h3]; exact h4
  | er x s => rw [e] at q; exact (show False from q).elim
  | no => rw [e] at q; exact (show False from q).elim
theorem w_compDM0 (P : Nat → List Key → List D → Stx → Prop) : ∀ (ds : List D) (i : Nat) {st : Stx} {ks : List Key} {es : List D} {Q : List Key × List D → Stx → Prop}, (∀ (j : Nat) (d : D) (st : Stx) (ks : List Key) (es : List D), ds[j]? = some d → P (i + j) ks es st → ∃ env1, f (.val d) (wipeE env vs) st = some env1 ∧ wE (c env1 st) (fun b s => if b = true then wE (fk env1 s) (fun rk s => wE (fe env1 s) (fun r s => ∃ k x, keyOf rk = some k ∧ r = .val x ∧ P (i + j + 1) (putKs ks k) (putDs ks es k x) s) fun _ _ => False) fun _ _ => False else P (i + j + 1) ks es s) fun _ _ => False) → P i ks es st →
    (∀ ks es st, P (i + ds.length) ks es st → Q (ks, es) st) → wE (compDM vs f c fk fe ds ks es env st) Q X
  | [], i, st, ks, es, Q, _, h, q => by with_unfolding_all exact q ks es st h
  | d :: ds, i, st, ks, es, Q, hs, h, q => by
    obtain ⟨env1, h1, h2⟩ := by with_unfolding_all exact hs 0 d st ks es rfl h
    have ih : ∀ (ks : List Key) (es : List D) (s : Stx), P (i + 1) ks es s → wE (compDM vs f c fk fe ds ks es env s) Q X := fun ks es s h => w_compDM0 P ds (i + 1) (fun j d st ks es e p => by
      obtain ⟨a, x, y⟩ := hs (j + 1) d st ks es (by simpa using e) (by rw [show i + (j + 1) = i + 1 + j by omega]; exact p)
      exact ⟨a, x, by rw [show i + 1 + j + 1 = i + (j + 1) + 1 by omega]; exact y⟩) h fun ks es s h => q ks es s (by rw [List.length_cons, show i + (ds.length + 1) = i + 1 + ds.length by omega]; exact h)
    unfold compDM
    simp only [h1, wE_bind]
    refine w_noEr (wE_imp h2 (fun b s h => ?_) fun _ _ h => h)
    cases b with
    | false => exact ih ks es s h
    | true =>
      simp only [if_true, wE_bind] at h ⊢
      refine w_noEr (wE_imp h (fun rk s h => ?_) fun _ _ h => h)
      refine w_noEr (wE_imp h (fun r s h => ?_) fun _ _ h => h)
      obtain ⟨k, x, h3, rfl, h⟩ := h
      simp only [h3]
      exact ih _ _ s h
theorem w_compDM (P : Nat → List Key → List D → Stx → Prop) {Q : List Key × List D → Stx → Prop} (h0 : P 0 ks es st) (hs : ∀ (j : Nat) (d : D) (st : Stx) (ks : List Key) (es : List D), ds[j]? = some d → P j ks es st → ∃ env1, f (.val d) (wipeE env vs) st = some env1 ∧ wE (c env1 st) (fun b s => if b = true then wE (fk env1 s) (fun rk s => wE (fe env1 s) (fun r s => ∃ k x, keyOf rk = some k ∧ r = .val x ∧ P (j + 1) (putKs ks k) (putDs ks es k x) s) fun _ _ => False) fun _ _ => False else P (j + 1) ks es s) fun _ _ => False) (q : ∀ ks es st, P ds.length ks es st → Q (ks, es) st) : wE (compDM vs f c fk fe ds ks es env st) Q X := 
  w_compDM0 P ds 0 (fun j d st ks es e p => by rw [Nat.zero_add] at *; exact hs j d st ks es e p) h0 fun ks es st h => q ks es st (by rw [Nat.zero_add] at h; exact h)
theorem w_dcompD_v (h : pm env st = some (.val (.dct ks ds))) (q : wE (compDM vs f c fk fe (items ks ds) [] [] env st) (fun z s => Q (.val (.dct z.1 z.2)) s) fun _ _ => False) : wE (eDCompD vs pm items f c fk fe env st) Q X := by with_unfolding_all
  unfold eDCompD lkE
  simp only [h, wE_bind]
  exact w_noEr q
theorem w_dcompD_p (h : pm env st = some (.ptr n)) (h2 : st.at' n = some (.dct false ks ds)) (q : wE (compDM vs f c fk fe (items ks ds) [] [] env (st.set n (.dct true ks ds))) (fun z s => ∃ ks ds, s.at' n = some (.dct true ks ds) ∧ Q (.val (.dct z.1 z.2)) (s.set n (.dct false ks ds))) fun _ _ => False) : wE (eDCompD vs pm items f c fk fe env st) Q X := by with_unfolding_all
  unfold eDCompD lkE
  simp only [h, h2]
  cases e : compDM vs f c fk fe (items ks ds) [] [] env (st.set n (.dct true ks ds)) with
  | ok xs s => rw [e] at q; unfold wE at q; obtain ⟨ks, ds, h3, h4⟩ := q; simp only [Rs.bind, unlE, h3]; exact h4
  | er x s => rw [e] at q; exact (show False from q).elim
  | no => rw [e] at q; exact (show False from q).elim
theorem w_dcomp {vs : List Nat} (q : wE (it env st) (fun ds s => ds.length ≤ cap ∧ wE (compDM vs f c fk fe ds [] [] env s) (fun z s => Q (.val (.dct z.1 z.2)) s) X) X) : wE (eDComp vs it f c fk fe env st) Q X := by with_unfolding_all
  unfold eDComp; rw [wE_bind]
  refine wE_imp q (fun ds s h => ?_) fun _ _ h => h
  simp only [if_pos h.1, wE_bind]
  exact h.2
theorem w_forD_v (h : pm env st = some (.val (.dct ks ds))) (q : wS (loopM f body (items ks ds) env st) R fun _ _ _ => False) : wS (sForD pm items f body env st) R Z := by with_unfolding_all
  unfold sForD
  simp only [h]
  exact wS_noEr q
theorem w_forD_p (h : pm env st = some (.ptr n)) (h2 : st.at' n = some (.dct false ks ds)) (q : wS (loopM f body (items ks ds) env (st.set n (.dct true ks ds))) (fun fl e s => ∃ ks ds, s.at' n = some (.dct true ks ds) ∧ R fl e (s.set n (.dct false ks ds))) fun _ _ _ => False) : wS (sForD pm items f body env st) R Z := by with_unfolding_all
  unfold sForD
  simp only [h, h2]
  cases e : loopM f body (items ks ds) env (st.set n (.dct true ks ds)) with
  | go fl e2 s => rw [e] at q; unfold wS at q; obtain ⟨ks, ds, h3, h4⟩ := q; simp only [unlT, h3]; exact h4
  | er x e2 s => rw [e] at q; exact (show False from q).elim
  | no => rw [e] at q; exact (show False from q).elim
def finK (st : Stx) (Q : RV → Stx → Prop) : Fl → Env → Stx → Prop
  | .rt r, _, s => Q (fin st s r).1 (fin st s r).2
  | .nx, _, s => Q (fin st s (.val .non)).1 (fin st s (.val .non)).2
  | _, _, _ => False
theorem w_run (hl : rs.length = n) (q : wS (g (rs.map some ++ List.replicate (N - n) none) st) (finK st Q) (fun e _ s => X e s)) : wE (runDef N n g rs st) Q X := by with_unfolding_all
  unfold runDef
  rw [if_pos hl]
  cases e : g (rs.map some ++ List.replicate (N - n) none) st with
  | go f e1 s1 =>
    rw [e] at q
    cases f with
    | nx => exact q
    | rt r => exact q
    | bk => exact (show False from q).elim
    | ct => exact (show False from q).elim
  | er x e1 s1 => rw [e] at q; exact q
  | no => rw [e] at q; exact q
theorem w_fin (h : fin st s r = (r', s')) (q : Q r' s') : finK st Q (.rt r) env s := by
  show Q (fin st s r).1 (fin st s r).2
  rw [h]; exact q
theorem w_fin_nx (h : fin st s (.val .non) = (r', s')) (q : Q r' s') : finK st Q .nx env s := by
  show Q (fin st s (.val .non)).1 (fin st s (.val .non)).2
  rw [h]; exact q
/-- a value, at the end: what is new goes -/
theorem w_fin_v (hh : s.hi = st.hi) (h : st.clean s = s') (q : Q (.val d) s') : finK st Q (.rt (.val d)) env s := w_fin ((fin_val hh).trans (by rw [h])) q
theorem w_fin_n (hh : s.hi = st.hi) (h : st.clean s = s') (q : Q (.val .non) s') : finK st Q .nx env s := w_fin_nx ((fin_val hh).trans (by rw [h])) q
/-- a new thing, at the end -/
theorem w_fin_p {nd : Nd} (hh : s.hi = st.hi) (hn : st.nx ≤ n) (e : s.at' n = some nd) (h : st.clean s = s') (q : Q (.ptr st.nx) (s'.push nd)) : finK st Q (.rt (.ptr n)) env s := w_fin (r' := .ptr st.nx) (s' := s'.push nd) (by
  unfold fin
  rw [if_pos hh]
  simp only [if_neg (Nat.not_lt.mpr hn), e, h]) q
/-- an old thing, at the end -/
theorem w_fin_o (hh : s.hi = st.hi) (hn : n < st.nx) (h : st.clean s = s') (q : Q (.ptr n) s') : finK st Q (.rt (.ptr n)) env s := w_fin (r' := .ptr n) (s' := s') (by
  unfold fin
  rw [if_pos hh]
  simp only [if_pos hn, h]) q
end
section
variable {st s b : Stx} {n m : Nat} {nd nd' : Nd}
theorem nx_set : (st.set n nd).nx = st.nx := rfl
theorem nx_push : (st.push nd).nx = st.nx + 1 := rfl
theorem nx_del : (st.del n).nx = st.nx := rfl
theorem hi_set : (st.set n nd).hi = st.hi := rfl
theorem hi_push : (st.push nd).hi = st.hi := rfl
theorem hi_del : (st.del n).hi = st.hi := rfl
theorem del_ne (h : m ≠ n) : (st.del n).at' m = st.at' m := if_neg h
theorem push_setN (h : n ≠ s.nx) : (s.push nd').set n nd = (s.set n nd).push nd' := Stx.ext rfl rfl fun m => by
  show (if m = n then some nd else if m = s.nx then some nd' else s.at' m) = if m = s.nx then some nd' else if m = n then some nd else s.at' m
  by_cases h1 : m = n
  · rw [if_pos h1, if_neg (by omega), if_pos h1]
  · rw [if_neg h1, if_neg h1]
theorem push_setE : (s.push nd').set s.nx nd = s.push nd := Stx.ext rfl rfl fun m => by
  show (if m = s.nx then some nd else if m = s.nx then some nd' else s.at' m) = if m = s.nx then some nd else s.at' m
  split <;> rfl
theorem set_self' (h : s.at' n = some nd) : s.set n nd = s := Stx.ext rfl rfl fun m => by
  show (if m = n then some nd else s.at' m) = s.at' m
  by_cases h1 : m = n
  · rw [if_pos h1, h1, h]
  · rw [if_neg h1]
theorem clean_self : st.clean st = st := Stx.ext rfl rfl fun m => by show (if m < st.nx then st.at' m else st.at' m) = st.at' m; split <;> rfl
theorem clean_set (h : n < st.nx) : st.clean (s.set n nd) = (st.clean s).set n nd := Stx.ext rfl rfl fun m => by
  show (if m < st.nx then (if m = n then some nd else s.at' m) else st.at' m) = if m = n then some nd else if m < st.nx then s.at' m else st.at' m
  by_cases h1 : m = n
  · rw [if_pos (by omega), if_pos h1, if_pos h1]
  · rw [if_neg h1, if_neg h1]
theorem clean_setN (h : st.nx ≤ n) : st.clean (s.set n nd) = st.clean s := Stx.ext rfl rfl fun m => by
  show (if m < st.nx then (if m = n then some nd else s.at' m) else st.at' m) = if m < st.nx then s.at' m else st.at' m
  by_cases h1 : m < st.nx
  · rw [if_pos h1, if_pos h1, if_neg (by omega)]
  · rw [if_neg h1, if_neg h1]
theorem clean_push (h : st.nx ≤ s.nx) : st.clean (s.push nd) = st.clean s := Stx.ext rfl rfl fun m => by
  show (if m < st.nx then (if m = s.nx then some nd else s.at' m) else st.at' m) = if m < st.nx then s.at' m else st.at' m
  by_cases h1 : m < st.nx
  · rw [if_pos h1, if_pos h1, if_neg (by omega)]
  · rw [if_neg h1, if_neg h1]
theorem clean_del (h : st.nx ≤ n) : st.clean (s.del n) = st.clean s := Stx.ext rfl rfl fun m => by
  show (if m < st.nx then (if m = n then none else s.at' m) else st.at' m) = if m < st.nx then s.at' m else st.at' m
  by_cases h1 : m < st.nx
  · rw [if_pos h1, if_pos h1, if_neg (by omega)]
  · rw [if_neg h1, if_neg h1]
end
end DM
namespace DM
open PySem PySem.Spec PyProof.Rows L2
theorem sgn_shaped {z : Str} (h : M.Sgn z) : SeqAt.shaped (.str z) = true := by
  have := SeqAt.canLay_of_shaped (M.shaped_pair h 0)
  simp only [PyData.canLay0, PyData.canLayAll0, Bool.and_eq_true] at this
  unfold SeqAt.shaped
  simp [PyData.canLay0, PyData.depth, this.1]
section
variable {Q : RV → Stx → Prop} {X : XR} {st : Stx} {i j : Int} {a b : Str} {x y z : RV} {m neg : Bool} {p q : Bool} {d e : D} {ds : List D} {ks : List Key} {n k : Nat} {key : Key} {rs : List RV} {P P' : PyData}
theorem l_lt (h : Q (.val (.bl (decide (i < j)))) st) : wE (oLt (.val (.int i)) (.val (.int j)) st) Q X := by with_unfolding_all exact h
theorem l_ltS (h : Q (.val (.bl (decide (a.cps.toList < b.cps.toList)))) st) : wE (oLt (.val (.str a)) (.val (.str b)) st) Q X := by with_unfolding_all exact h
theorem l_le (h : Q (.val (.bl (decide (i ≤ j)))) st) : wE (oLe (.val (.int i)) (.val (.int j)) st) Q X := by with_unfolding_all exact h
theorem l_gt (h : Q (.val (.bl (decide (j < i)))) st) : wE (oGt (.val (.int i)) (.val (.int j)) st) Q X := by with_unfolding_all exact h
theorem l_ge (h : Q (.val (.bl (decide (j ≤ i)))) st) : wE (oGe (.val (.int i)) (.val (.int j)) st) Q X := by with_unfolding_all exact h
theorem l_sub (h : Q (.val (.int (i - j))) st) : wE (oSub (.val (.int i)) (.val (.int j)) st) Q X := by with_unfolding_all exact h
theorem l_add (h : Q (.val (.int (i + j))) st) : wE (oAdd m (.val (.int i)) (.val (.int j)) st) Q X := by with_unfolding_all exact h
theorem l_addS (hl : a.length + b.length ≤ cap) (h : Q (.val (.str (a ++ b))) st) : wE (oAdd m (.val (.str a)) (.val (.str b)) st) Q X := by with_unfolding_all exact w_eq (add_str_ok hl) h
theorem l_addL {xs ys : List D} (hx : st.ls x = some xs) (hy : st.ls y = some ys) (hl : xs.length + ys.length ≤ cap) (h : if m = true then Q (.ptr st.nx) (st.push (.lst (xs ++ ys))) else Q (.val (.lst (xs ++ ys))) st) : wE (oAdd m x y st) Q X := by with_unfolding_all
  have e : oAdd m x y st = okL m (xs ++ ys) st := by
    cases x with
    | ptr n => cases y <;> simp only [oAdd, hx, hy]
    | val d =>
      cases d <;> simp only [Stx.ls] at hx <;> (try cases hx) <;> (cases y with | ptr n => (simp only [Stx.ls] at hy; simp only [oAdd, Stx.ls, hy]) | val e => (cases e <;> simp only [Stx.ls] at hy <;> (try cases hy) <;> simp only [oAdd, Stx.ls]))
  rw [e]
  unfold okL
  rw [if_pos (by rw [List.length_append]; exact hl)]
  cases m <;> exact h
theorem l_mul (hc : cMul i j = true) (h : Q (.val (.int (i * j))) st) : wE (oMul (.val (.int i)) (.val (.int j)) st) Q X := by with_unfolding_all exact w_eq (o_mul hc) h
theorem l_mod (hc : j ≠ 0) (h : Q (.val (.int (i.fmod j))) st) : wE (oMod (.val (.int i)) (.val (.int j)) st) Q X := by with_unfolding_all exact w_eq (o_mod hc) h
theorem l_div (hc : cDiv i j = true) (h : Q (.val (.int (i / j))) st) : wE (oDiv (.val (.int i)) (.val (.int j)) st) Q X := by with_unfolding_all exact w_eq (o_div hc) h
theorem l_eqP (hx : st.pd x = some P) (hy : st.pd y = some P') (sx : SeqAt.shaped P = true) (sy : SeqAt.shaped P' = true) (h : Q (.val (.bl (if neg then !PyData.eqv P P' else PyData.eqv P P'))) st) : wE (oEq neg x y st) Q X := by with_unfolding_all
  have e : pd2 st x y = some (P, P') := by unfold pd2; simp only [hx, hy, sx, sy, Bool.and_self, if_true]
  unfold oEq
  simp only [e]
  exact h
theorem l_eqI (h : Q (.val (.bl (i == j))) st) : wE (oEq false (.val (.int i)) (.val (.int j)) st) Q X := by with_unfolding_all exact l_eqP rfl rfl rfl rfl (by simpa [PyData.eqv] using h)
theorem l_neI (h : Q (.val (.bl (!(i == j)))) st) : wE (oEq true (.val (.int i)) (.val (.int j)) st) Q X := by with_unfolding_all exact l_eqP rfl rfl rfl rfl (by simpa [PyData.eqv] using h)
theorem l_eqB (h : Q (.val (.bl (p == q))) st) : wE (oEq false (.val (.bl p)) (.val (.bl q)) st) Q X := by with_unfolding_all exact l_eqP rfl rfl rfl rfl (by simpa [PyData.eqv] using h)
theorem l_neB (h : Q (.val (.bl (!(p == q)))) st) : wE (oEq true (.val (.bl p)) (.val (.bl q)) st) Q X := by with_unfolding_all exact l_eqP rfl rfl rfl rfl (by simpa [PyData.eqv] using h)
theorem l_eqS (ha : M.Sgn a) (hb : M.Sgn b) (h : Q (.val (.bl (a == b))) st) : wE (oEq false (.val (.str a)) (.val (.str b)) st) Q X := by with_unfolding_all exact l_eqP rfl rfl (sgn_shaped ha) (sgn_shaped hb) (by simpa [PyData.eqv] using h)
theorem l_neS (ha : M.Sgn a) (hb : M.Sgn b) (h : Q (.val (.bl (!(a == b)))) st) : wE (oEq true (.val (.str a)) (.val (.str b)) st) Q X := by with_unfolding_all exact l_eqP rfl rfl (sgn_shaped ha) (sgn_shaped hb) (by simpa [PyData.eqv] using h)
theorem l_isN (h : Q (.val (.bl (isNon x))) st) : wE (oIsN false x (.val .non) st) Q X := by with_unfolding_all exact h
theorem l_notN (h : Q (.val (.bl (!isNon x))) st) : wE (oIsN true x (.val .non) st) Q X := by with_unfolding_all exact h
theorem l_isB (h : Q (.val (.bl (decide (p = q)))) st) : wE (oIsB (.val (.bl p)) (.val (.bl q)) st) Q X := by with_unfolding_all exact h
theorem l_ixL (hx : st.ls x = some ds) (hi : atI ds i = some d) (h : Q (.val d) st) : wE (oIx x (.val (.int i)) st) Q X := by with_unfolding_all
  have e : oIx x (.val (.int i)) st = .ok (.val d) st := by
    cases x with
    | ptr n => simp only [oIx, hx, hi]
    | val d => cases d <;> simp only [Stx.ls] at hx <;> (try cases hx) <;> simp only [oIx, Stx.ls, hi]
  exact w_eq e h
theorem l_ixT (hi : atI ds i = some d) (h : Q (.val d) st) : wE (oIx (.val (.tup ds)) (.val (.int i)) st) Q X := by with_unfolding_all
  have e : oIx (.val (.tup ds)) (.val (.int i)) st = .ok (.val d) st := by simp only [oIx, hi]
  exact w_eq e h
theorem dc_ls (h : st.dc x = some (ks, ds)) : st.ls x = none := by
  cases x with
  | ptr n =>
    simp only [Stx.dc] at h
    simp only [Stx.ls]
    cases e : st.at' n with
    | none => rfl
    | some nd => rw [e] at h; cases nd <;> first | rfl | cases h
  | val d => cases d <;> first | rfl | cases h
theorem l_ixD (hx : st.dc x = some (ks, ds)) (hk : keyOf y = some key) (hi : lookK ks ds key = some d) (h : Q (.val d) st) : wE (oIx x y st) Q X := by with_unfolding_all
  have hl := dc_ls hx
  have e : oIx x y st = .ok (.val d) st := by
    cases x with
    | ptr n => simp only [oIx, hl, hx, hk, hi]
    | val d' => cases d' <;> simp only [Stx.dc] at hx <;> (try cases hx) <;> simp only [oIx, Stx.ls, Stx.dc, hk, hi]
  exact w_eq e h
theorem l_inD (hy : st.dc y = some (ks, ds)) (hk : keyOf x = some key) (h : Q (.val (.bl (if neg then !(lookK ks ds key).isSome else (lookK ks ds key).isSome))) st) : wE (oIn neg x y st) Q X := by with_unfolding_all
  have e : oIn neg x y st = .ok (.val (.bl (if neg then !(lookK ks ds key).isSome else (lookK ks ds key).isSome))) st := by
    cases y with
    | ptr n => simp only [oIn, hy, hk]
    | val d' => cases d' <;> simp only [Stx.dc] at hy <;> (try cases hy) <;> simp only [oIn, Stx.dc, hk]
  exact w_eq e h
theorem l_lenL (hx : st.ls x = some ds) (h : Q (.val (.int ds.length)) st) : wE (gLen [x] st) Q X := by with_unfolding_all
  have e : gLen [x] st = .ok (.val (.int ds.length)) st := by
    cases x with
    | ptr n => simp only [gLen, hx]
    | val d => cases d <;> simp only [Stx.ls] at hx <;> (try cases hx) <;> simp only [gLen, Stx.ls]
  exact w_eq e h
theorem l_lenT (h : Q (.val (.int ds.length)) st) : wE (gLen [.val (.tup ds)] st) Q X := by with_unfolding_all exact h
theorem l_lenS (hl : a.length ≤ cap) (h : Q (.val (.int a.length)) st) : wE (gLen [.val (.str a)] st) Q X := by with_unfolding_all
  unfold gLen
  simp only [if_pos hl]
  exact h
theorem l_lenD (hx : st.dc x = some (ks, ds)) (h : Q (.val (.int ks.length)) st) : wE (gLen [x] st) Q X := by with_unfolding_all
  have hl := dc_ls hx
  have e : gLen [x] st = .ok (.val (.int ks.length)) st := by
    cases x with
    | ptr n => simp only [gLen, hl, hx]
    | val d => cases d <;> simp only [Stx.dc] at hx <;> (try cases hx) <;> simp only [gLen, Stx.ls, Stx.dc]
  exact w_eq e h
theorem l_int (h : Q (.val (.int i)) st) : wE (gInt [.val (.int i)] st) Q X := by with_unfolding_all exact h
theorem l_intB (h : Q (.val (.int (if p then 1 else 0))) st) : wE (gInt [.val (.bl p)] st) Q X := by with_unfolding_all exact h
theorem l_str (h : Q (.val (.str a)) st) : wE (gStr [.val (.str a)] st) Q X := by with_unfolding_all exact h
theorem l_abs (h : Q (.val (.int (if i < 0 then -i else i))) st) : wE (gAbs [.val (.int i)] st) Q X := by with_unfolding_all exact h
theorem l_min2 (h : Q (.val (.int (if j < i then j else i))) st) : wE (gMin2 [.val (.int i), .val (.int j)] st) Q X := by with_unfolding_all exact h
theorem l_listL (hx : st.ls x = some ds) (hl : ds.length ≤ cap) (h : if m = true then Q (.ptr st.nx) (st.push (.lst ds)) else Q (.val (.lst ds)) st) : wE (gList m [x] st) Q X := by with_unfolding_all
  have e : gList m [x] st = okL m ds st := by
    cases x with
    | ptr n => simp only [gList, hx]
    | val d => cases d <;> simp only [Stx.ls] at hx <;> (try cases hx) <;> simp only [gList, Stx.ls]
  rw [e]
  unfold okL
  rw [if_pos hl]
  cases m <;> exact h
theorem l_listD (hx : st.dc x = some (ks, ds)) (hl : ks.length ≤ cap) (h : if m = true then Q (.ptr st.nx) (st.push (.lst (ks.map keyD))) else Q (.val (.lst (ks.map keyD))) st) : wE (gList m [x] st) Q X := by with_unfolding_all
  have hn := dc_ls hx
  have e : gList m [x] st = okL m (ks.map keyD) st := by
    cases x with
    | ptr n => simp only [gList, hn, hx]
    | val d => cases d <;> simp only [Stx.dc] at hx <;> (try cases hx) <;> simp only [gList, Stx.ls, Stx.dc]
  rw [e]
  unfold okL
  rw [if_pos (by rw [List.length_map]; exact hl)]
  cases m <;> exact h
theorem l_sorted {xs : List Str} (hx : st.ls x = some (xs.map .str)) (hn : xs.Nodup) (hl : xs.length < 64) (h : if m = true then Q (.ptr st.nx) (st.push (.lst ((sortS xs).map .str))) else Q (.val (.lst ((sortS xs).map .str))) st) : wE (gSorted m [x] st) Q X := by with_unfolding_all
  have hs : allS (xs.map D.str) = some xs := by
    clear hx hn hl h
    induction xs with
    | nil => rfl
    | cons s r ih => rw [List.map_cons]; unfold allS; rw [ih]; rfl
  have hn' : nodupS xs = true := by
    clear hx hl h hs
    induction xs with
    | nil => rfl
    | cons s r ih =>
      have h' := List.nodup_cons.mp hn
      unfold nodupS
      rw [ih h'.2, Bool.and_true]
      simp [h'.1]
  unfold gSorted
  simp only [hx, Option.bind_some, hs]
  rw [if_pos ⟨hn', hl⟩]
  unfold okL
  rw [if_pos (by rw [List.length_map, sortS_len]; have : (cap : Nat) = 1000000 := rfl; omega)]
  cases m <;> exact h
theorem l_dict (hx : st.dc x = some (ks, ds)) (hl : ks.length ≤ cap) (h : if m = true then Q (.ptr st.nx) (st.push (.dct false ks ds)) else Q (.val (.dct ks ds)) st) : wE (gDict m [x] st) Q X := by with_unfolding_all
  unfold gDict okD
  simp only [hx, if_pos hl]
  cases m <;> exact h
theorem l_isi {tab : List (Tg × Tg × Bool)} {t u : Tg} (hx : st.tg x = some t) (hy : clsTg y = some u) (hb : isiT tab t u = some p) (h : Q (.val (.bl p)) st) : wE (gIsi tab [x, y] st) Q X := by with_unfolding_all
  unfold gIsi
  simp only [hx, hy, hb]
  exact h
theorem l_append (hx : st.at' n = some (.lst ds)) (hl : ds.length < cap) (h : Q (.val .non) (st.set n (.lst (ds ++ [d])))) : wE (gAppend (.ptr n) [.val d] st) Q X := by with_unfolding_all
  unfold gAppend
  simp only [hx, if_pos hl]
  exact h
theorem l_extend {es : List D} (hx : st.at' n = some (.lst ds)) (hy : st.lsA y = some es) (hl : ds.length + es.length ≤ cap) (h : Q (.val .non) (st.set n (.lst (ds ++ es)))) : wE (gExtend (.ptr n) [y] st) Q X := by with_unfolding_all
  unfold gExtend
  simp only [hx, hy, if_pos hl]
  exact h
theorem l_all {bs : List Bool} (hx : (st.ls x).bind allB = some bs) (h : Q (.val (.bl (bs.all _root_.id))) st) : wE (gAll [x] st) Q X := by with_unfolding_all
  unfold gAll
  simp only [hx]
  exact h
theorem l_any {bs : List Bool} (hx : (st.ls x).bind allB = some bs) (h : Q (.val (.bl (bs.any _root_.id))) st) : wE (gAny [x] st) Q X := by with_unfolding_all
  unfold gAny
  simp only [hx]
  exact h
theorem l_slS {lo hi : Option Int} (hl : a.length ≤ cap) (h : Q (.val (.str (cutS a lo hi))) st) : wE (oSl m (.val (.str a)) lo hi st) Q X := by with_unfolding_all exact w_eq (sl_str_ok hl) h
theorem l_slL {lo hi : Option Int} (hx : st.ls x = some ds) (hl : ds.length ≤ cap) (h : if m = true then Q (.ptr st.nx) (st.push (.lst (cutD ds lo hi))) else Q (.val (.lst (cutD ds lo hi))) st) : wE (oSl m x lo hi st) Q X := by with_unfolding_all
  have hc : (cutD ds lo hi).length ≤ cap := by
    unfold cutD
    rw [List.length_take, List.length_drop]
    omega
  have e : oSl m x lo hi st = okL m (cutD ds lo hi) st := by
    cases x with
    | ptr n => simp only [oSl, hx]
    | val d => cases d <;> simp only [Stx.ls] at hx <;> (try cases hx) <;> simp only [oSl, Stx.ls]
  rw [e]
  unfold okL
  rw [if_pos hc]
  cases m <;> exact h
theorem ls_p (h : st.at' n = some (.lst ds)) : st.ls (.ptr n) = some ds := by simp only [Stx.ls, h]
theorem ls_v : st.ls (.val (.lst ds)) = some ds := rfl
theorem dc_p {lk : Bool} (h : st.at' n = some (.dct lk ks ds)) : st.dc (.ptr n) = some (ks, ds) := by simp only [Stx.dc, h]
theorem dc_v : st.dc (.val (.dct ks ds)) = some (ks, ds) := rfl
theorem ob_p {C : Addr} {ns : List Str} {rs : List RV} (h : st.at' n = some (.obj C ns rs)) : st.ob (.ptr n) = some (C, ns, rs) := by simp only [Stx.ob, h]
theorem ob_v {C : Addr} {ns : List Str} {ds : List D} : st.ob (.val (.obj C ns ds)) = some (C, ns, ds.map .val) := rfl
theorem isOb_of {C : Addr} {ns : List Str} {rs : List RV} (h : st.ob x = some (C, ns, rs)) : isOb C st x = true := by
  unfold isOb
  rw [h]
  simp
theorem isLs_of (h : st.ls x = some ds) : isLs st x = true := by unfold isLs; rw [h]; rfl
theorem con_self {C : Addr} : [C].contains C = true := by simp
theorem seqK_v : seqK (.val (.lst ds)) st = .ok ds st := rfl
theorem seqK_t : seqK (.val (.tup ds)) st = .ok ds st := rfl
theorem put_l {ix : Int} {kk : Nat} (hx : st.at' n = some (.lst ds)) (hi : ixN ds.length ix = some kk) : putM (.ptr n) (.val (.int ix)) (.val d) st = some (st.set n (.lst (ds.set kk d))) := by
  unfold putM
  simp only [hx, hi, Option.map_some]
theorem put_d (hx : st.at' n = some (.dct false ks ds)) (hk : keyOf y = some key) (hl : ks.length < cap) : putM (.ptr n) y (.val d) st = some (st.set n (.dct false (putKs ks key) (putDs ks ds key d))) := by
  unfold putM
  simp only [hx, hk, if_pos hl]
end
end DM
namespace DM
open PySem PySem.Spec PyProof.Rows L2
section
variable {α : Type} {Q : α → Stx → Prop} {X : XR} {Z : XS} {R : Fl → Env → Stx → Prop} {st : Stx} {t : Bool} {xa xb : Rs α} {ra rb : Rt} {ds : List D} {r : RV} {QI : List D → Stx → Prop} {C : Addr} {f : Str} {ns : List Str} {rs : List RV} {v : RV} {QV : RV → Stx → Prop} {i : Int} {ks : List Key} {key : Key} {y z k : RV}
theorem w_iteT (h : t = true) (q : wE xa Q X) : wE (if t = true then xa else xb) Q X := by with_unfolding_all rw [if_pos h]; exact q
theorem w_iteF (h : t = false) (q : wE xb Q X) : wE (if t = true then xa else xb) Q X := by with_unfolding_all rw [if_neg (by rw [h]; decide)]; exact q
theorem wS_iteT (h : t = true) (q : wS ra R Z) : wS (if t = true then ra else rb) R Z := by with_unfolding_all rw [if_pos h]; exact q
theorem wS_iteF (h : t = false) (q : wS rb R Z) : wS (if t = true then ra else rb) R Z := by with_unfolding_all rw [if_neg (by rw [h]; decide)]; exact q
theorem w_seqv {W : List D → Prop} (q : W ds) : ∃ es, seqK (.val (.lst ds)) st = .ok es st ∧ W es := ⟨ds, rfl, q⟩
theorem w_seqt {W : List D → Prop} (q : W ds) : ∃ es, seqK (.val (.tup ds)) st = .ok es st ∧ W es := ⟨ds, rfl, q⟩
theorem w_rng1 {W : List D → Prop} (h0 : -(2 ^ 60) ≤ i) (h1 : i ≤ cap) (q : W (irng 0 i.toNat)) : ∃ es, rangeK [.val (.int i)] st = .ok es st ∧ W es := ⟨_, range1 h0 h1, q⟩
theorem w_fldK {W : RV → Prop} (h : st.ob r = some (C, ns, rs)) (hg : getF f ns rs = some v) (q : W v) : ∃ C' ns' rs' v', st.ob r = some (C', ns', rs') ∧ [C].contains C' = true ∧ getF f ns' rs' = some v' ∧ W v' := ⟨C, ns, rs, v, h, con_self, hg, q⟩
theorem w_methK {m : Str} {W : Prop} (h : st.ob r = some (C, ns, rs)) (hm : ns.contains m = false) (q : W) : ∃ C' ns' rs', st.ob r = some (C', ns', rs') ∧ C' = C ∧ ns'.contains m = false ∧ W := ⟨C, ns, rs, h, rfl, hm, q⟩
theorem w_getK0 {W : Prop} (h : st.dc r = some (ks, ds)) (q : W) : ∃ kd, st.dc r = some kd ∧ W := ⟨_, h, q⟩
theorem w_getK {W : List Key → List D → Key → Prop} (h : st.dc r = some (ks, ds)) (hk : keyOf k = some key) (q : W ks ds key) : ∃ ks' ds' kk, st.dc r = some (ks', ds') ∧ keyOf k = some kk ∧ W ks' ds' kk := ⟨_, _, _, h, hk, q⟩
theorem w_starK0 {W : List Key → List D → Prop} (h : st.dc r = some (ks, ds)) (q : W ks ds) : ∃ ks' ds', st.dc r = some (ks', ds') ∧ W ks' ds' := ⟨_, _, h, q⟩
theorem w_starK {d : D} {W : Key → D → Prop} (hk : keyOf k = some key) (q : W key d) : ∃ k' d', keyOf k = some k' ∧ (RV.val d) = .val d' ∧ W k' d' := ⟨_, _, hk, rfl, q⟩
theorem w_putl {n : Nat} {d : D} {kk : Nat} {W : Stx → Prop} (hx : st.at' n = some (.lst ds)) (hi : ixN ds.length i = some kk) (q : W (st.set n (.lst (ds.set kk d)))) : ∃ s', putM (.ptr n) (.val (.int i)) (.val d) st = some s' ∧ W s' := ⟨_, put_l hx hi, q⟩
theorem w_putd {n : Nat} {d : D} {W : Stx → Prop} (hx : st.at' n = some (.dct false ks ds)) (hk : keyOf y = some key) (hl : ks.length < cap) (q : W (st.set n (.dct false (putKs ks key) (putDs ks ds key d)))) : ∃ s', putM (.ptr n) y (.val d) st = some s' ∧ W s' := ⟨_, put_d hx hk hl, q⟩
theorem w_setK0 {d : D} {W : D → Prop} (q : W d) : ∃ d', RV.val d = .val d' ∧ W d' := ⟨_, rfl, q⟩
theorem w_setK {n : Nat} {W : Nat → Addr → List Str → List RV → Prop} (h : st.at' n = some (.obj C ns rs)) (hl : ns.length < 500) (q : W n C ns rs) : ∃ n' C' ns' rs', RV.ptr n = .ptr n' ∧ st.at' n' = some (.obj C' ns' rs') ∧ [C].contains C' = true ∧ ns'.length < 500 ∧ W n' C' ns' rs' := ⟨_, _, _, _, rfl, h, con_self, hl, q⟩
theorem irng_at {n j : Nat} {d : D} (h : (irng 0 n)[j]? = some d) : j < n ∧ d = .int (j : Int) := by
  have hj := (List.getElem?_eq_some_iff.mp h).1
  rw [irng_len] at hj
  unfold irng at h
  rw [List.getElem?_map, List.getElem?_range hj] at h
  cases h
  exact ⟨hj, by simp⟩
end
end DM
namespace DM
open PySem PySem.Spec PyProof.Rows L2
theorem allV_nil : allV [] = some [] := rfl
theorem allV_cons {d : D} {rs : List RV} {ds : List D} (h : allV rs = some ds) : allV (.val d :: rs) = some (d :: ds) := by unfold allV; rw [h]; rfl
end DM
namespace DM
open PySem PySem.Spec PyProof.Rows L2
section
variable {Q : RV → Stx → Prop} {X : XR} {st : Stx} {x y : RV} {ds xs ys : List D} {ks : List Key} {zs : List Str} {lo hi : Option Int}
theorem l_addL_t (hx : st.ls x = some xs) (hy : st.ls y = some ys) (hl : xs.length + ys.length ≤ cap) (h : Q (.ptr st.nx) (st.push (.lst (xs ++ ys)))) : wE (oAdd true x y st) Q X := by with_unfolding_all exact l_addL hx hy hl h
theorem l_addL_f (hx : st.ls x = some xs) (hy : st.ls y = some ys) (hl : xs.length + ys.length ≤ cap) (h : Q (.val (.lst (xs ++ ys))) st) : wE (oAdd false x y st) Q X := by with_unfolding_all exact l_addL hx hy hl h
theorem l_listL_t (hx : st.ls x = some ds) (hl : ds.length ≤ cap) (h : Q (.ptr st.nx) (st.push (.lst ds))) : wE (gList true [x] st) Q X := by with_unfolding_all exact l_listL hx hl h
theorem l_listL_f (hx : st.ls x = some ds) (hl : ds.length ≤ cap) (h : Q (.val (.lst ds)) st) : wE (gList false [x] st) Q X := by with_unfolding_all exact l_listL hx hl h
theorem l_listD_t (hx : st.dc x = some (ks, ds)) (hl : ks.length ≤ cap) (h : Q (.ptr st.nx) (st.push (.lst (ks.map keyD)))) : wE (gList true [x] st) Q X := by with_unfolding_all exact l_listD hx hl h
theorem l_listD_f (hx : st.dc x = some (ks, ds)) (hl : ks.length ≤ cap) (h : Q (.val (.lst (ks.map keyD))) st) : wE (gList false [x] st) Q X := by with_unfolding_all exact l_listD hx hl h
theorem l_sorted_t (hx : st.ls x = some (zs.map .str)) (hn : zs.Nodup) (hl : zs.length < 64) (h : Q (.ptr st.nx) (st.push (.lst ((sortS zs).map .str)))) : wE (gSorted true [x] st) Q X := by with_unfolding_all exact l_sorted hx hn hl h
theorem l_sorted_f (hx : st.ls x = some (zs.map .str)) (hn : zs.Nodup) (hl : zs.length < 64) (h : Q (.val (.lst ((sortS zs).map .str))) st) : wE (gSorted false [x] st) Q X := by with_unfolding_all exact l_sorted hx hn hl h
theorem l_dict_t (hx : st.dc x = some (ks, ds)) (hl : ks.length ≤ cap) (h : Q (.ptr st.nx) (st.push (.dct false ks ds))) : wE (gDict true [x] st) Q X := by with_unfolding_all exact l_dict hx hl h
theorem l_dict_f (hx : st.dc x = some (ks, ds)) (hl : ks.length ≤ cap) (h : Q (.val (.dct ks ds)) st) : wE (gDict false [x] st) Q X := by with_unfolding_all exact l_dict hx hl h
theorem l_slL_t (hx : st.ls x = some ds) (hl : ds.length ≤ cap) (h : Q (.ptr st.nx) (st.push (.lst (cutD ds lo hi)))) : wE (oSl true x lo hi st) Q X := by with_unfolding_all exact l_slL hx hl h
theorem l_slL_f (hx : st.ls x = some ds) (hl : ds.length ≤ cap) (h : Q (.val (.lst (cutD ds lo hi))) st) : wE (oSl false x lo hi st) Q X := by with_unfolding_all exact l_slL hx hl h
theorem w_okLc_t (h : Q (.ptr st.nx) (st.push (.lst xs))) : okLcK true xs st Q := by with_unfolding_all exact h
theorem w_okLc_f (h : Q (.val (.lst xs)) st) : okLcK false xs st Q := by with_unfolding_all exact h
end
end DM
namespace DM
open PySem PySem.Spec PyProof.Rows L2
def cutK (P : Env → Stx → Prop) (R : Fl → Env → Stx → Prop) : Fl → Env → Stx → Prop
  | .nx, env, st => P env st
  | f, env, st => R f env st
section
variable {P : Env → Stx → Prop} {R : Fl → Env → Stx → Prop} {Z : XS} {x : Rt} {b : SF} {env : Env} {st : Stx} {r : RV}
/-- cut: what holds between two statements -/
theorem w_cutK (P : Env → Stx → Prop) (h : wS x (cutK P R) Z) (q : ∀ e s, P e s → wS (b e s) R Z) : wS x (sqK b R Z) Z := wS_imp h (fun f e s h => by
  cases f with
  | nx => exact q e s h
  | rt r => exact h
  | bk => exact h
  | ct => exact h) fun _ _ _ h => h
theorem w_cut_nx (q : P env st) : cutK P R .nx env st := q
theorem w_cut_rt (q : R (.rt r) env st) : cutK P R (.rt r) env st := q
theorem w_cut_bk (q : R .bk env st) : cutK P R .bk env st := q
theorem w_cut_ct (q : R .ct env st) : cutK P R .ct env st := q
end
end DM
namespace DM
open PySem PySem.Spec PyProof.Rows L2
open M (aput al_mem al_of al_none aput_look aput_keys aput_nodup aput_mem)
abbrev AL (α : Type) := List (Str × α)
section
variable {α : Type} {f : α → D} {l : AL α} {z y : Str} {n : α}
def aK (l : AL α) : List Key := l.map fun p => (Sum.inr p.1 : Key)
def aD (f : α → D) (l : AL α) : List D := l.map fun p => f p.2
abbrev aDct (f : α → D) (l : AL α) : D := .dct (aK l) (aD f l)
abbrev ANd (l : AL α) : Prop := (l.map (·.1)).Nodup
theorem aK_len : (aK l).length = l.length := List.length_map ..
theorem aD_len : (aD f l).length = l.length := List.length_map ..
theorem inr_iff {y z : Str} : ((Sum.inr y : Key) = Sum.inr z) ↔ y = z := ⟨fun h => by cases h; rfl, fun h => by rw [h]⟩
theorem look_a : ∀ (l : AL α) (z : Str), lookK (aK l) (aD f l) (.inr z) = (l.lookup z).map f
  | [], z => rfl
  | p :: r, z => by
    show (if (Sum.inr p.1 : Key) = Sum.inr z then some (f p.2) else lookK (aK r) (aD f r) (.inr z)) = _
    rw [List.lookup_cons, look_a r z]
    by_cases h : p.1 = z
    · rw [if_pos (inr_iff.mpr h), h, beq_self_eq_true]; rfl
    · rw [if_neg fun q => h (inr_iff.mp q), beq_eq_false_iff_ne.mpr (Ne.symm h)]
theorem has_a (l : AL α) (z : Str) : hasK (aK l) (.inr z) = (l.lookup z).isSome := by
  induction l with
  | nil => rfl
  | cons p r ih =>
    show (decide ((Sum.inr p.1 : Key) = Sum.inr z) || hasK (aK r) (.inr z)) = _
    rw [List.lookup_cons, ih]
    by_cases h : p.1 = z
    · rw [decide_eq_true (inr_iff.mpr h), h, beq_self_eq_true]; rfl
    · rw [decide_eq_false fun q => h (inr_iff.mp q), beq_eq_false_iff_ne.mpr (Ne.symm h)]; rfl
theorem map_no : ∀ (l : AL α) (z : Str) (n : α), z ∉ l.map (·.1) → l.map (fun p => if p.1 = z then (p.1, n) else p) = l
  | [], _, _, _ => rfl
  | p :: r, z, n, h => by
    rw [List.map_cons, List.mem_cons, not_or] at h
    rw [List.map_cons, if_neg (Ne.symm h.1), map_no r z n h.2]
theorem setK_a : ∀ (l : AL α) (z : Str) (n : α), ANd l → setK (aK l) (aD f l) (.inr z) (f n) = aD f (l.map fun p => if p.1 = z then (p.1, n) else p)
  | [], z, n, _ => rfl
  | p :: r, z, n, h => by
    have h' := List.nodup_cons.mp h
    show (if (Sum.inr p.1 : Key) = Sum.inr z then f n :: aD f r else f p.2 :: setK (aK r) (aD f r) (.inr z) (f n)) = _
    rw [List.map_cons]
    by_cases hz : p.1 = z
    · rw [if_pos (inr_iff.mpr hz), if_pos hz, map_no r z n (by rw [← hz]; exact h'.1)]; rfl
    · rw [if_neg fun q => hz (inr_iff.mp q), if_neg hz, setK_a r z n h'.2]; rfl
theorem put_aK (l : AL α) (z : Str) (n : α) : putKs (aK l) (.inr z) = aK (aput l z n) := by
  have e := aput_keys l z n
  unfold putKs
  rw [has_a]
  have k : ∀ m : AL α, aK m = (m.map (·.1)).map fun x => (Sum.inr x : Key) := fun m => by unfold aK; rw [List.map_map]; rfl
  rw [k (aput l z n), e, k l]
  by_cases h : (l.lookup z).isSome = true
  · rw [if_pos h, if_pos h]
  · rw [if_neg h, if_neg h, List.map_append]; rfl
theorem put_aD (l : AL α) (z : Str) (n : α) (h : ANd l) : putDs (aK l) (aD f l) (.inr z) (f n) = aD f (aput l z n) := by
  unfold putDs aput
  rw [has_a]
  by_cases q : (l.lookup z).isSome = true
  · rw [if_pos q, if_pos q]; exact setK_a l z n h
  · rw [if_neg q, if_neg q]; unfold aD; rw [List.map_append]; rfl
theorem keys_a : ∀ (l : AL α), (aK l).map keyD = (l.map (·.1)).map D.str
  | [] => rfl
  | p :: r => by
    show keyD (.inr p.1) :: (aK r).map keyD = _
    rw [keys_a r]; rfl
theorem items_a : ∀ (l : AL α), itemsD (aK l) (aD f l) = l.map fun p => .tup [.str p.1, f p.2]
  | [] => rfl
  | p :: r => by
    show D.tup [keyD (.inr p.1), f p.2] :: itemsD (aK r) (aD f r) = _
    rw [items_a r]; rfl
theorem getR_a {d : α} : getR (aK l) (aD f l) (.inr z) (.val (f d)) = .val (f ((l.lookup z).getD d)) := by
  unfold getR
  rw [look_a]
  cases l.lookup z <;> rfl
theorem a_some : (l.lookup z).isSome = true ↔ z ∈ l.map (·.1) := by
  cases h : l.lookup z with
  | none => simp only [Option.isSome_none, Bool.false_eq_true, false_iff]; exact al_none.mp h
  | some x => simp only [Option.isSome_some, true_iff]; exact List.mem_map.mpr ⟨_, al_mem h, rfl⟩
/-- without what is not wanted -/
theorem filter_look (c : α → Bool) : ∀ (l : AL α) (z : Str), ANd l → (l.filter fun p => c p.2).lookup z = (l.lookup z).filter c
  | [], z, _ => rfl
  | p :: r, z, h => by
    have h' := List.nodup_cons.mp h
    have ih := filter_look c r z h'.2
    rw [List.filter_cons, List.lookup_cons]
    cases hz : z == p.1 with
    | true =>
      by_cases hc : c p.2 = true
      · rw [if_pos hc, List.lookup_cons, hz]
        show some p.2 = (some p.2).filter c
        simp [Option.filter, hc]
      · rw [if_neg hc, ih, al_none.mpr (by rw [eq_of_beq hz]; exact h'.1)]
        show _ = (some p.2).filter c
        simp [Option.filter, hc]
    | false =>
      by_cases hc : c p.2 = true
      · rw [if_pos hc, List.lookup_cons, hz]; exact ih
      · rw [if_neg hc]; exact ih
theorem filter_nd (c : α → Bool) (h : ANd l) : ANd (l.filter fun p => c p.2) := h.sublist (List.Sublist.map _ List.filter_sublist)
theorem sub_len : ∀ {a b : List Str}, a.Nodup → (∀ x ∈ a, x ∈ b) → a.length ≤ b.length
  | [], b, _, _ => Nat.zero_le _
  | x :: r, b, h, m => by
    have h' := List.nodup_cons.mp h
    have hx := m x (List.mem_cons_self ..)
    have ih := sub_len (a := r) (b := b.erase x) h'.2 fun y hy => (List.mem_erase_of_ne (fun e : y = x => h'.1 (by rw [← e]; exact hy))).mpr (m y (List.mem_cons_of_mem _ hy))
    have := List.length_erase_of_mem hx
    have := List.length_pos_of_mem hx
    rw [List.length_cons]
    omega
/-- two dicts with the same content have the same length -/
theorem a_len_le {m : AL α} (hl : ANd l) (h : ∀ z, (l.lookup z).isSome = true → (m.lookup z).isSome = true) : l.length ≤ m.length := by
  have := sub_len (b := m.map (·.1)) hl fun x hx => a_some.mp (h x (a_some.mpr hx))
  rw [List.length_map, List.length_map] at this
  exact this
end
section
variable {α : Type} {f : α → D} {pf : α → PyData}
theorem dhit_a (hp : ∀ x, D.pd (f x) = some (pf x)) (hs : ∀ x, SeqAt.shaped (pf x) = true) (m : AL α) : ∀ (l : AL α), (∀ p ∈ l, (m.lookup p.1).isSome = true) → dhitF' (aK m) (aD f m) (aK l) (aD f l) = some (l.all fun p => match m.lookup p.1 with | some y => PyData.eqv (pf p.2) (pf y) | none => false)
  | [], _ => rfl
  | p :: r, h => by
    obtain ⟨y, hy⟩ := Option.isSome_iff_exists.mp (h p (List.mem_cons_self ..))
    have h1 : lookK (aK m) (aD f m) (.inr p.1) = some (f y) := by rw [look_a, hy]; rfl
    have ih := dhit_a hp hs m r fun q m => h q (List.mem_cons_of_mem _ m)
    show dhitF' (aK m) (aD f m) (.inr p.1 :: aK r) (f p.2 :: aD f r) = _
    unfold dhitF'
    simp only [h1, hp, hs, Bool.and_self, if_true, ih, Option.map_some, List.all_cons, hy]
theorem dhit_no (hp : ∀ x, D.pd (f x) = some (pf x)) (hs : ∀ x, SeqAt.shaped (pf x) = true) (m : AL α) : ∀ (l : AL α), (∃ p ∈ l, m.lookup p.1 = none) → dhitF' (aK m) (aD f m) (aK l) (aD f l) = some false
  | [], h => by obtain ⟨p, hp, _⟩ := h; cases hp
  | p :: r, h => by
    show dhitF' (aK m) (aD f m) (.inr p.1 :: aK r) (f p.2 :: aD f r) = _
    unfold dhitF'
    cases hy : m.lookup p.1 with
    | none =>
      have h1 : lookK (aK m) (aD f m) (.inr p.1) = none := by rw [look_a, hy]; rfl
      simp only [h1]
    | some y =>
      have h1 : lookK (aK m) (aD f m) (.inr p.1) = some (f y) := by rw [look_a, hy]; rfl
      obtain ⟨q, hq, hn⟩ := h
      rcases List.mem_cons.mp hq with rfl | hq
      · rw [hy] at hn; cases hn
      · have ih := dhit_no hp hs m r ⟨q, hq, hn⟩
        simp only [h1, hp, hs, Bool.and_self, if_true, ih, Option.map_some, Bool.and_false]
/-- == of two dicts tells whether they hold the same -/
theorem eq_dcts (hp : ∀ x, D.pd (f x) = some (pf x)) (hs : ∀ x, SeqAt.shaped (pf x) = true) (he : ∀ x y, PyData.eqv (pf x) (pf y) = true ↔ x = y) {l m : AL α} (hl : ANd l) (hm : ANd m) {s : Stx} {x y : RV} (hx : s.dc x = some (aK l, aD f l)) (hy : s.dc y = some (aK m, aD f m)) (px : s.pd x = none) (neg : Bool) :
    ∃ b, oEq neg x y s = .ok (.val (.bl (if neg then !b else b))) s ∧ (b = true ↔ ∀ z, l.lookup z = m.lookup z) := by
  have pp : pd2 s x y = none := by unfold pd2; simp only [px]
  by_cases hall : ∀ p ∈ l, (m.lookup p.1).isSome = true
  · have e := dhit_a hp hs m l hall
    refine ⟨(aK l).length == (aK m).length && l.all fun p => match m.lookup p.1 with | some y => PyData.eqv (pf p.2) (pf y) | none => false, ?_, ?_⟩
    · unfold oEq
      simp only [pp, hx, hy, e]
    · rw [Bool.and_eq_true, beq_iff_eq, aK_len, aK_len, List.all_eq_true]
      constructor
      · rintro ⟨h1, h2⟩ z
        have key : ∀ p ∈ l, m.lookup p.1 = some p.2 := fun p hpm => by
          have := h2 p hpm
          cases e : m.lookup p.1 with
          | none => rw [e] at this; cases this
          | some y => rw [e] at this; rw [(he _ _).mp this]
        cases hz : l.lookup z with
        | some v => exact (key _ (al_mem hz)).symm
        | none =>
          cases hz2 : m.lookup z with
          | none => rfl
          | some v =>
            exfalso
            have hn := al_none.mp hz
            have hlt : (z :: l.map (·.1)).length ≤ (m.map (·.1)).length := sub_len (List.nodup_cons.mpr ⟨hn, hl⟩) fun x hx => by
              rcases List.mem_cons.mp hx with rfl | hx
              · exact a_some.mp (by rw [hz2]; rfl)
              · obtain ⟨p, hpm, rfl⟩ := List.mem_map.mp hx
                exact a_some.mp (hall p hpm)
            rw [List.length_cons, List.length_map, List.length_map] at hlt
            omega
      · intro h
        refine ⟨Nat.le_antisymm (a_len_le hl fun z hz => by rw [← h z]; exact hz) (a_len_le hm fun z hz => by rw [h z]; exact hz), fun p hpm => ?_⟩
        have : m.lookup p.1 = some p.2 := by rw [← h p.1]; exact al_of hl hpm
        rw [this]
        exact (he _ _).mpr rfl
  · have ⟨p, hpm, hn⟩ : ∃ p ∈ l, m.lookup p.1 = none := by
      apply Classical.byContradiction
      intro hc
      refine hall fun p hpm => ?_
      cases e : m.lookup p.1 with
      | some y => rfl
      | none => exact (hc ⟨p, hpm, e⟩).elim
    have e := dhit_no hp hs m l ⟨p, hpm, hn⟩
    refine ⟨false, ?_, ?_⟩
    · unfold oEq
      simp only [pp, hx, hy, e, Bool.and_false]
    · constructor
      · intro h; cases h
      · intro h
        have := h p.1
        rw [hn, al_of hl hpm] at this
        cases this
end
def Stx.bump (s : Stx) : Stx := { s with nx := s.nx + 1 }
section
variable {s st : Stx} {n : Nat} {nd : Nd}
theorem nx_bump : s.bump.nx = s.nx + 1 := rfl
theorem hi_bump : s.bump.hi = s.hi := rfl
theorem at_bump : s.bump.at' n = s.at' n := rfl
theorem push_del (hw : Wf s) : (s.push nd).del s.nx = s.bump := Stx.ext rfl rfl fun m => by
  show (if m = s.nx then none else if m = s.nx then some nd else s.at' m) = s.at' m
  by_cases h : m = s.nx
  · rw [if_pos h, h, hw s.nx (Nat.le_refl _)]
  · rw [if_neg h, if_neg h]
theorem Wf.bump (h : Wf s) : Wf s.bump := fun m hm => h m (Nat.le_of_succ_le hm)
theorem Wf.del (h : Wf s) : Wf (s.del n) := fun m hm => by
  show (if m = n then none else s.at' m) = none
  split
  · rfl
  · exact h m hm
theorem clean_bump : st.clean s.bump = st.clean s := rfl
theorem set_bump : s.bump.set n nd = (s.set n nd).bump := rfl
end
end DM
namespace DM
open PySem PySem.Spec PyProof.Rows L2
def oD : Option Int → D
  | none => .non
  | some i => .int i
abbrev Lim := Option Int × Option Int
def lD (p : Lim) : D := .tup [oD p.1, oD p.2]
def oP : Option Int → PyData
  | none => .none
  | some i => .int i
def lP (p : Lim) : PyData := .tuple [oP p.1, oP p.2]
theorem oD_pd (o : Option Int) : D.pd (oD o) = some (oP o) := by cases o <;> rfl
theorem lD_pd (p : Lim) : D.pd (lD p) = some (lP p) := by
  unfold lD lP
  simp only [D.pd, D.pds, oD_pd, Option.bind_some, Option.map_some]
theorem oP_shaped (o : Option Int) : SeqAt.shaped (oP o) = true := by cases o <;> rfl
theorem lP_shaped (p : Lim) : SeqAt.shaped (lP p) = true := by
  obtain ⟨a, b⟩ := p
  cases a <;> cases b <;> rfl
theorem oP_eqv (a b : Option Int) : PyData.eqv (oP a) (oP b) = decide (a = b) := by
  cases a <;> cases b <;> simp [oP, PyData.eqv]
  exact Bool.beq_eq_decide_eq ..
theorem lP_eqv (p q : Lim) : PyData.eqv (lP p) (lP q) = decide (p = q) := by
  unfold lP
  simp only [PyData.eqv, PyData.eqvAll, oP_eqv, Bool.and_true]
  obtain ⟨a, b⟩ := p
  obtain ⟨c, d⟩ := q
  simp only [Prod.mk.injEq, Bool.decide_and]
theorem isN_oD (o : Option Int) : isNon (.val (oD o)) = o.isNone := by cases o <;> rfl
/-- limits that leave something, of bounded size -/
def Lim.ok (p : Lim) : Prop := ∀ a b, p.1 = some a → p.2 = some b → a ≤ b
def noL : Lim := (none, none)
def LZ (l : AL Lim) : AL Lim := l.filter fun p => decide (p.2 ≠ noL)
def higher (a b : Option Int) : Option Int := match a, b with
  | none, b => b
  | some a, none => some a
  | some a, some b => if a < b then some b else some a
def lower (a b : Option Int) : Option Int := match a, b with
  | none, b => b
  | some a, none => some a
  | some a, some b => if b < a then some b else some a
def cmn (p q : Lim) : Option Lim := match higher p.1 q.1, lower p.2 q.2 with
  | some a, some b => if b < a then none else some (some a, some b)
  | a, b => some (a, b)
def cD : Option Lim → D
  | none => .non
  | some p => lD p
def below (p q : Lim) : List Lim := match q.1 with
  | none => []
  | some a => (cmn p (none, some (a - 1))).toList
def above (p q : Lim) : List Lim := match q.2 with
  | none => []
  | some b => (cmn p (some (b + 1), none)).toList
def bsd (p q : Lim) : List Lim := below p q ++ above p q
def wthn (k : Int) (p : Lim) : Bool := (match p.1 with | none => true | some a => decide (a ≤ k)) && (match p.2 with | none => true | some b => decide (k ≤ b))
/-- each limit of q is kept by those of p -/
def kept (p q : Lim) : Bool := (match q.1, p.1 with | none, _ => true | some _, none => false | some b, some a => decide (b ≤ a)) && (match q.2, p.2 with | none, _ => true | some _, none => false | some b, some a => decide (a ≤ b))
theorem below_nil {p q : Lim} (h : p.ok) : (below p q).isEmpty = (match q.1, p.1 with | none, _ => true | some _, none => false | some b, some a => decide (b ≤ a)) := by
  obtain ⟨a, b⟩ := p
  obtain ⟨c, d⟩ := q
  cases c with
  | none => rfl
  | some c => cases a with
    | none => cases b <;> simp [below, cmn, higher, lower]
    | some a => cases b with
      | none =>
        by_cases e : c ≤ a
        · simp [below, cmn, higher, lower, e, show c - 1 < a by omega]
        · simp [below, cmn, higher, lower, e, show ¬ c - 1 < a by omega]
      | some b =>
        have := h a b rfl rfl
        by_cases e : c ≤ a
        · by_cases e2 : c - 1 < b
          · simp [below, cmn, higher, lower, e, e2, show c - 1 < a by omega]
          · exact absurd e (by omega)
        · by_cases e2 : c - 1 < b
          · simp [below, cmn, higher, lower, e, e2, show ¬ c - 1 < a by omega]
          · simp [below, cmn, higher, lower, e, e2, show ¬ b < a by omega]
theorem above_nil {p q : Lim} (h : p.ok) : (above p q).isEmpty = (match q.2, p.2 with | none, _ => true | some _, none => false | some b, some a => decide (a ≤ b)) := by
  obtain ⟨a, b⟩ := p
  obtain ⟨c, d⟩ := q
  cases d with
  | none => rfl
  | some d => cases b with
    | none => cases a <;> simp [above, cmn, higher, lower]
    | some b => cases a with
      | none =>
        by_cases e : b ≤ d
        · simp [above, cmn, higher, lower, e, show b < d + 1 by omega]
        · simp [above, cmn, higher, lower, e, show ¬ b < d + 1 by omega]
      | some a =>
        have := h a b rfl rfl
        by_cases e : b ≤ d
        · by_cases e2 : a < d + 1
          · simp [above, cmn, higher, lower, e, e2, show b < d + 1 by omega]
          · exact absurd e (by omega)
        · by_cases e2 : a < d + 1
          · simp [above, cmn, higher, lower, e, e2, show ¬ b < d + 1 by omega]
          · simp [above, cmn, higher, lower, e, e2, show ¬ b < a by omega]
theorem bsd_nil {p q : Lim} (h : p.ok) : (bsd p q).isEmpty = kept p q := by
  unfold bsd kept
  rw [← below_nil h, ← above_nil h]
  cases below p q <;> simp
theorem kept_anti {p q : Lim} (h1 : kept p q = true) (h2 : kept q p = true) : p = q := by
  obtain ⟨a, b⟩ := p
  obtain ⟨c, d⟩ := q
  cases a <;> cases b <;> cases c <;> cases d <;> simp [kept] at h1 h2 ⊢ <;> omega
theorem kept_self (p : Lim) : kept p p = true := by
  obtain ⟨a, b⟩ := p
  cases a <;> cases b <;> simp [kept]
theorem kept_no (p : Lim) : kept p noL = true := rfl
structure Fr (st : Stx) (n : Nat) (s : Stx) (q : Int) : Prop where
  hi : s.hi = st.hi
  nx : st.nx ≤ s.nx
  pool : s.at' n = some (.lst [.int q])
  old : ∀ m, m ≠ n → m < st.nx → s.at' m = st.at' m
section
variable {st s : Stx} {n m : Nat} {q q' : Int} {nd : Nd}
theorem Fr.start (h : st.at' n = some (.lst [.int q])) : Fr st n st q := ⟨rfl, Nat.le_refl _, h, fun _ _ _ => rfl⟩
theorem Fr.draw (h : Fr st n s q) : Fr st n (s.set n (.lst [.int q'])) q' := ⟨h.hi, h.nx, set_at, fun m h1 h2 => (set_ne h1).trans (h.old m h1 h2)⟩
theorem Fr.set (h : Fr st n s q) (hn : n < st.nx) (hm : st.nx ≤ m) : Fr st n (s.set m nd) q := ⟨h.hi, h.nx, (set_ne (by omega)).trans h.pool, fun k h1 h2 => (set_ne (by omega)).trans (h.old k h1 h2)⟩
theorem Fr.push (h : Fr st n s q) (hn : n < st.nx) : Fr st n (s.push nd) q := ⟨h.hi, Nat.le_succ_of_le h.nx, (push_ne (by have := h.nx; omega)).trans h.pool, fun k h1 h2 => (push_ne (by have := h.nx; omega)).trans (h.old k h1 h2)⟩
theorem Fr.del (h : Fr st n s q) (hn : n < st.nx) (hm : st.nx ≤ m) : Fr st n (s.del m) q := ⟨h.hi, h.nx, (del_ne (by omega)).trans h.pool, fun k h1 h2 => (del_ne (by omega)).trans (h.old k h1 h2)⟩
theorem Fr.bump (h : Fr st n s q) : Fr st n s.bump q := ⟨h.hi, Nat.le_succ_of_le h.nx, h.pool, h.old⟩
theorem Fr.clean (h : Fr st n s q) (hn : n < st.nx) : st.clean s = st.set n (.lst [.int q]) := Stx.ext rfl rfl fun m => by
  show (if m < st.nx then s.at' m else st.at' m) = if m = n then some (Nd.lst [D.int q]) else st.at' m
  by_cases h1 : m = n
  · rw [if_pos h1, h1, if_pos hn, h.pool]
  · rw [if_neg h1]
    split
    · rename_i h2; exact h.old m h1 h2
    · rfl
end
section
variable {α : Type} {f : α → D} {s : Stx} {m : Nat} {l : AL α} {z : Str} {d : D} {W : Stx → Prop}
theorem a_put (v : α) (hx : s.at' m = some (.dct false (aK l) (aD f l))) (hl : l.length < cap) (hn : ANd l) (hd : d = f v) (q : W (s.set m (.dct false (aK (M.aput l z v)) (aD f (M.aput l z v))))) : ∃ s', putM (.ptr m) (.val (.str z)) (.val d) s = some s' ∧ W s' := by
  refine ⟨_, put_d hx rfl (by rw [aK_len]; exact hl), ?_⟩
  rw [put_aK l z v, hd, put_aD l z v hn]
  exact q
end
theorem cutD_map {α : Type} (g : α → D) (zs : List α) (lo hi : Option Int) : ∃ a b, cutD (zs.map g) lo hi = ((zs.drop a).take b).map g := by
  unfold cutD
  exact ⟨_, _, by rw [← List.map_drop, ← List.map_take]⟩
end DM
namespace DM
open PySem PySem.Spec PyProof.Rows L2
theorem w_intK {j : Int} {W : Int → Prop} (q : W j) : ∃ i, RV.val (.int j) = .val (.int i) ∧ W i := ⟨_, rfl, q⟩
theorem w_strK {j : Str} {W : Str → Prop} (q : W j) : ∃ i, RV.val (.str j) = .val (.str i) ∧ W i := ⟨_, rfl, q⟩
theorem w_mtK {s : Stx} {x : RV} {ds : List D} {W : Prop} (h : s.ls x = some ds) (q : W) : isLs s x = true ∧ W := ⟨isLs_of h, q⟩
end DM
namespace DM
open PySem PySem.Spec PyProof.Rows L2
open M (aput al_mem al_of al_none aput_look aput_keys aput_nodup aput_mem)
section
variable {α β : Type}
def fm (h : Str × α → Option β) (l : AL α) : AL β := l.filterMap fun p => (h p).map fun x => (p.1, x)
theorem fm_keys (h : Str × α → Option β) : ∀ (l : AL α) (z : Str), z ∈ (fm h l).map (·.1) → z ∈ l.map (·.1)
  | [], z, m => m
  | p :: r, z, m => by
    unfold fm at m
    rw [List.filterMap_cons] at m
    cases e : h p with
    | none => rw [e] at m; exact List.mem_cons_of_mem _ (fm_keys h r z m)
    | some x =>
      rw [e] at m
      rcases List.mem_cons.mp m with e2 | m
      · rw [e2]; exact List.mem_cons_self ..
      · exact List.mem_cons_of_mem _ (fm_keys h r z m)
theorem fm_nd (h : Str × α → Option β) : ∀ {l : AL α}, ANd l → ANd (fm h l)
  | [], _ => List.nodup_nil
  | p :: r, hn => by
    have h' := List.nodup_cons.mp hn
    unfold fm
    rw [List.filterMap_cons]
    cases e : h p with
    | none => exact fm_nd h h'.2
    | some x => exact List.nodup_cons.mpr ⟨fun m => h'.1 (fm_keys h r _ m), fm_nd h h'.2⟩
theorem fm_look (h : Str × α → Option β) : ∀ {l : AL α} (z : Str), ANd l → (fm h l).lookup z = (l.lookup z).bind fun v => h (z, v)
  | [], z, _ => rfl
  | p :: r, z, hn => by
    have h' := List.nodup_cons.mp hn
    have ih := fm_look h (l := r) z h'.2
    unfold fm at ih ⊢
    rw [List.filterMap_cons, List.lookup_cons]
    cases hz : z == p.1 with
    | true =>
      have e := eq_of_beq hz
      cases q : h p with
      | none =>
        simp only [Option.map_none, ih, al_none.mpr (show z ∉ r.map (·.1) by rw [e]; exact h'.1), Option.bind_some, Option.bind_none]
        rw [e]; exact q.symm
      | some x =>
        simp only [Option.map_some, List.lookup_cons, hz, Option.bind_some]
        rw [e]; exact q.symm
    | false =>
      cases q : h p with
      | none => simp only [Option.map_none, ih]
      | some x => simp only [Option.map_some, List.lookup_cons, hz, ih]
theorem fm_len (h : Str × α → Option β) (l : AL α) : (fm h l).length ≤ l.length := List.length_filterMap_le ..
theorem fm_mem (h : Str × α → Option β) {l : AL α} {q : Str × β} (m : q ∈ fm h l) : ∃ v, (q.1, v) ∈ l ∧ h (q.1, v) = some q.2 := by
  unfold fm at m
  obtain ⟨p, hp, e⟩ := List.mem_filterMap.mp m
  obtain ⟨x, hx, e⟩ := Option.map_eq_some_iff.mp e
  cases e
  exact ⟨p.2, hp, hx⟩
theorem aput_new {l : AL α} {z : Str} {n : α} (h : z ∉ l.map (·.1)) : aput l z n = l ++ [(z, n)] := by
  unfold aput
  rw [al_none.mpr h]
  rfl
theorem take_snoc {γ : Type} {l : List γ} {j : Nat} {x : γ} (h : l[j]? = some x) : l.take (j + 1) = l.take j ++ [x] := by
  have hl := (List.getElem?_eq_some_iff.mp h).1
  rw [List.take_succ_eq_append_getElem hl, (List.getElem?_eq_some_iff.mp h).2]
end
section
variable {α β : Type} {X : XR} {env : Env} {st : Stx} {fk fe : EF} {c : CF} {fg : GF} {vs : List Nat} {Q : List Key × List D → Stx → Prop}
theorem w_dfm (h : Str × α → Option β) (f' : β → D) (g : Str × α → D) (l : AL α) (hn : ANd l) (hs : ∀ p ∈ l, ∃ env1, fg (.val (g p)) (wipeE env vs) st = some env1 ∧ wE (c env1 st) (fun b s => s = st ∧ b = (h p).isSome ∧ ∀ x, h p = some x → wE (fk env1 st) (fun r s => r = .val (.str p.1) ∧ s = st ∧ wE (fe env1 st) (fun r s => r = .val (f' x) ∧ s = st) fun _ _ => False) fun _ _ => False) fun _ _ => False) (q : Q (aK (fm h l), aD f' (fm h l)) st) : wE (compDM vs fg c fk fe (l.map g) [] [] env st) Q X := by
  refine w_compDM (fun j ks es s => s = st ∧ ks = aK (fm h (l.take j)) ∧ es = aD f' (fm h (l.take j))) ⟨rfl, rfl, rfl⟩ (fun j d s ks es hj ⟨e1, e2, e3⟩ => ?_) fun ks es s ⟨e1, e2, e3⟩ => by
    rw [List.length_map, List.take_length] at e2 e3
    rw [e1, e2, e3]; exact q
  subst e1 e2 e3
  rw [List.getElem?_map] at hj
  obtain ⟨p, hp, rfl⟩ := Option.map_eq_some_iff.mp hj
  obtain ⟨env1, h1, h2⟩ := hs p (List.mem_of_getElem? hp)
  refine ⟨env1, h1, wE_imp h2 (fun b s2 h5 => ?_) fun _ _ h => h⟩
  obtain ⟨rfl, h5, h6⟩ := h5
  have tk := take_snoc hp
  have fx : fm h (l.take (j + 1)) = fm h (l.take j) ++ fm h [p] := by rw [tk]; unfold fm; exact List.filterMap_append ..
  cases ho : h p with
  | none =>
    rw [ho] at h5
    subst h5
    have : fm h [p] = [] := by unfold fm; simp [ho]
    rw [fx, this, List.append_nil]
    exact ⟨rfl, rfl, rfl⟩
  | some x =>
    rw [ho] at h5
    subst h5
    simp only [Option.isSome_some, if_true]
    have hx : fm h [p] = [(p.1, x)] := by unfold fm; simp [ho]
    have nd1 : ANd (l.take j) := hn.sublist (List.Sublist.map _ (List.take_sublist ..))
    have nw : p.1 ∉ (fm h (l.take j)).map (·.1) := fun m => by
      have m2 := fm_keys h _ _ m
      have nd2 : ANd (l.take (j + 1)) := hn.sublist (List.Sublist.map _ (List.take_sublist ..))
      rw [tk] at nd2
      have nd3 : ((l.take j).map (·.1) ++ [p.1]).Nodup := by rw [show [p.1] = [p].map (·.1) from rfl, ← List.map_append]; exact nd2
      exact (List.nodup_append.mp nd3).2.2 _ m2 _ (List.mem_singleton.mpr rfl) rfl
    refine wE_imp (h6 x ho) (fun rk s3 h7 => ?_) fun _ _ h => h
    obtain ⟨rfl, rfl, h7⟩ := h7
    refine wE_imp h7 (fun r s4 h8 => ?_) fun _ _ h => h
    obtain ⟨rfl, rfl⟩ := h8
    refine ⟨.inr p.1, f' x, rfl, rfl, rfl, ?_, ?_⟩
    · rw [put_aK _ p.1 x, aput_new nw, fx, hx]
    · rw [put_aD _ p.1 x (fm_nd h nd1), aput_new nw, fx, hx]
end
theorem sort_same {l m : List Str} (hl : l.Nodup) (hm : m.Nodup) (h : ∀ z, z ∈ l ↔ z ∈ m) : sortS l = sortS m := M.rise_eq (sortS_rise hl) (sortS_rise hm) fun z => by rw [sortS_mem, sortS_mem]; exact h z
theorem sort_filter {l m : List Str} (c : Str → Bool) (hl : l.Nodup) (hm : m.Nodup) (h : ∀ z, z ∈ l ↔ z ∈ m ∧ c z = true) : sortS l = (sortS m).filter c := M.rise_eq (sortS_rise hl) ((sortS_rise hm).filter _) fun z => by
  rw [sortS_mem, List.mem_filter, sortS_mem]; exact h z
theorem allB_map {α : Type} (g : α → Bool) : ∀ (l : List α), allB (l.map fun x => D.bl (g x)) = some (l.map g)
  | [] => rfl
  | x :: r => by rw [List.map_cons]; unfold allB; rw [allB_map g r]; rfl
theorem allS_str : ∀ (l : List Str), allS (l.map D.str) = some l
  | [] => rfl
  | x :: r => by rw [List.map_cons]; unfold allS; rw [allS_str r]; rfl
end DM
namespace DM
open PySem PySem.Spec PyProof.Rows L2
open M (aput al_mem al_of al_none aput_look aput_keys aput_nodup aput_mem)
def hz (p : Str × Lim) : Option Lim := if p.2 = noL then none else some p.2
abbrev lz (l : AL Lim) : AL Lim := fm hz l
abbrev lat (l : AL Lim) (z : Str) : Lim := (l.lookup z).getD noL
def lT (l : AL Lim) (z : Str) : D := .tup [.str z, oD (lat l z).1, oD (lat l z).2]
def lL (l : AL Lim) : List D := (sortS (l.map (·.1))).map (lT l)
def lS (l : AL Lim) : List D := ((sortS (l.map (·.1))).filter fun z => decide (lat l z ≠ noL)).map (lT l)
section
variable {l : AL Lim}
theorem lz_get (h : ANd l) (z : Str) : lat (lz l) z = lat l z := by
  unfold lat
  rw [fm_look hz z h]
  cases l.lookup z with
  | none => rfl
  | some v =>
    show (hz (z, v)).getD noL = v
    unfold hz
    by_cases e : v = noL
    · rw [if_pos e]; exact e.symm
    · rw [if_neg e]; rfl
theorem lz_has (h : ANd l) (z : Str) : z ∈ (lz l).map (·.1) ↔ z ∈ l.map (·.1) ∧ decide (lat l z ≠ noL) = true := by
  rw [← a_some, ← a_some, fm_look hz z h]
  unfold lat
  cases l.lookup z with
  | none => simp
  | some v =>
    show (hz (z, v)).isSome = true ↔ _
    unfold hz
    by_cases e : v = noL
    · rw [if_pos e]; simp [e]
    · rw [if_neg e]; simp [e]
theorem lz_listed (h : ANd l) : lL (lz l) = lS l := by
  unfold lL lS
  rw [sort_filter (fun z => decide (lat l z ≠ noL)) (fm_nd hz h) h fun z => lz_has h z]
  refine List.map_congr_left fun z _ => ?_
  unfold lT
  rw [lz_get h]
theorem lz_ok (h : ∀ p ∈ l, Lim.ok p.2) : ∀ p ∈ lz l, Lim.ok p.2 := fun p m => by
  obtain ⟨v, hv, e⟩ := fm_mem hz m
  unfold hz at e
  by_cases q : v = noL
  · rw [if_pos q] at e; cases e
  · rw [if_neg q] at e; cases e; exact h _ hv
theorem noL_ok : Lim.ok noL := fun _ _ h => nomatch h
theorem lat_ok (h : ∀ p ∈ l, Lim.ok p.2) (z : Str) : (lat l z).ok := by
  unfold lat
  cases e : l.lookup z with
  | none => exact noL_ok
  | some v => exact h _ (al_mem e)
end
end DM
namespace DM
open PySem PySem.Spec PyProof.Rows L2
theorem w_asgK {f : GF} {r : RV} {env env' : Env} {s : Stx} {W : Env → Prop} (h : f r env s = some env') (q : W env') : ∃ e, f r env s = some e ∧ W e := ⟨_, h, q⟩
end DM
namespace DM
open PySem PySem.Spec PyProof.Rows L2
theorem tg_l {s : Stx} {n : Nat} {ds : List D} (h : s.at' n = some (.lst ds)) : s.tg (.ptr n) = some (.b "list") := by simp only [Stx.tg, h]
theorem tg_o {s : Stx} {n : Nat} {C : Addr} {ns : List Str} {rs : List RV} (h : s.at' n = some (.obj C ns rs)) : s.tg (.ptr n) = some (.c C) := by simp only [Stx.tg, h]
theorem lat_mem {l : AL Lim} {z : Str} (h : z ∈ l.map (·.1)) : lookK (aK l) (aD lD l) (.inr z) = some (lD (lat l z)) := by
  rw [look_a]
  unfold lat
  cases e : l.lookup z with
  | none => exact (M.al_none.mp e h).elim
  | some v => rfl
theorem sgn_of_eq (a : Str) (h : a.cps.toList.all (fun c => decide (c < 1114112)) = true) : M.Sgn a := fun c hc => of_decide_eq_true (List.all_eq_true.mp h c hc)
end DM
namespace DM
open PySem PySem.Spec PyProof.Rows L2
theorem pFld_v {pm : Env → Stx → Option RV} {env : Env} {st : Stx} {C : Addr} {f : Str} {d : D} (h : pm env st = some (.val (.obj C [f] [d]))) : pFld pm C f env st = some (.val d) := by
  unfold pFld
  rw [h]
  show (if C = C then getF f [f] [RV.val d] else none) = _
  rw [if_pos rfl]
  show (if f = f then some (RV.val d) else none) = _
  rw [if_pos rfl]
/-- each limit of m is kept by those of l -/
def leB (l m : AL Lim) : Bool := (m.map (·.1)).all fun z => kept (lat l z) (lat m z)
theorem lat_no {l : AL Lim} {z : Str} (h : z ∉ l.map (·.1)) : lat l z = noL := by unfold lat; rw [M.al_none.mpr h]; rfl
theorem leB_iff {l m : AL Lim} : leB l m = true ↔ ∀ z, kept (lat l z) (lat m z) = true := by
  unfold leB
  rw [List.all_eq_true]
  constructor
  · intro h z
    by_cases hz : z ∈ m.map (·.1)
    · exact h z hz
    · rw [lat_no hz]; exact kept_no _
  · intro h z _; exact h z
theorem leB_lz {l m : AL Lim} (hl : ANd l) (hm : ANd m) : leB (lz l) (lz m) = leB l m := by
  rw [Bool.eq_iff_iff, leB_iff, leB_iff]
  constructor <;> intro h z <;> have := h z
  · rwa [lz_get hl, lz_get hm] at this
  · rwa [lz_get hl, lz_get hm]
theorem lz_of_lat {l : AL Lim} (hl : ANd l) (z : Str) : (lz l).lookup z = if lat l z = noL then none else some (lat l z) := by
  rw [fm_look hz z hl]
  unfold lat
  cases l.lookup z with
  | none => exact (if_pos rfl).symm
  | some v => rfl
theorem leB_both {l m : AL Lim} (hl : ANd l) (hm : ANd m) : ((leB l m && leB m l) = true) ↔ ∀ z, (lz l).lookup z = (lz m).lookup z := by
  rw [Bool.and_eq_true, leB_iff, leB_iff]
  constructor
  · rintro ⟨h1, h2⟩ z
    rw [lz_of_lat hl, lz_of_lat hm, kept_anti (h1 z) (h2 z)]
  · intro h
    have e : ∀ z, lat l z = lat m z := fun z => by
      rw [← lz_get hl, ← lz_get hm]
      unfold lat
      rw [h z]
    exact ⟨fun z => by rw [e z]; exact kept_self _, fun z => by rw [e z]; exact kept_self _⟩
end DM
namespace DM
open PySem PySem.Spec PyProof.Rows L2
section
variable {α : Type} {Q : α → Stx → Prop} {X : XR} {Z : XS} {R : Fl → Env → Stx → Prop} {xa xb : Rs α} {ra rb : Rt} {t : Bool} {i j : Int} {a b : Str}
theorem w_iteD {p : Prop} [Decidable p] (h1 : p → wE xa Q X) (h2 : ¬p → wE xb Q X) : wE (if decide p = true then xa else xb) Q X := w_ite (fun h => h1 (of_decide_eq_true h)) fun h => h2 (of_decide_eq_false h)
theorem wS_iteD {p : Prop} [Decidable p] (h1 : p → wS ra R Z) (h2 : ¬p → wS rb R Z) : wS (if decide p = true then ra else rb) R Z := wS_ite (fun h => h1 (of_decide_eq_true h)) fun h => h2 (of_decide_eq_false h)
theorem w_iteE (h1 : i = j → wE xa Q X) (h2 : i ≠ j → wE xb Q X) : wE (if (i == j) = true then xa else xb) Q X := w_ite (fun h => h1 (eq_of_beq h)) fun h => h2 (beq_eq_false_iff_ne.mp h)
theorem wS_iteE (h1 : i = j → wS ra R Z) (h2 : i ≠ j → wS rb R Z) : wS (if (i == j) = true then ra else rb) R Z := wS_ite (fun h => h1 (eq_of_beq h)) fun h => h2 (beq_eq_false_iff_ne.mp h)
theorem w_iteN (h1 : t = false → wE xa Q X) (h2 : t = true → wE xb Q X) : wE (if (!t) = true then xa else xb) Q X := w_ite (fun h => h1 (by simpa using h)) fun h => h2 (by simpa using h)
theorem wS_iteN (h1 : t = false → wS ra R Z) (h2 : t = true → wS rb R Z) : wS (if (!t) = true then ra else rb) R Z := wS_ite (fun h => h1 (by simpa using h)) fun h => h2 (by simpa using h)
end
end DM
namespace DM
open PySem PySem.Spec PyProof.Rows L2
section
variable {Q : RV → Stx → Prop} {X : XR} {st : Stx} {x y : RV} {tab : List (Tg × Tg × Bool)} {t u : Tg}
theorem l_isiT (hx : st.tg x = some t) (hy : clsTg y = some u) (hb : isiT tab t u = some true) (h : Q (.val (.bl true)) st) : wE (gIsi tab [x, y] st) Q X := l_isi hx hy hb h
theorem l_isiF (hx : st.tg x = some t) (hy : clsTg y = some u) (hb : isiT tab t u = some false) (h : Q (.val (.bl false)) st) : wE (gIsi tab [x, y] st) Q X := l_isi hx hy hb h
end
end DM
namespace DM
theorem w_pifT {t : Bool} {P R : Prop} (h : t = true) (q : P) : if t = true then P else R := by rw [if_pos h]; exact q
theorem w_pifF {t : Bool} {P R : Prop} (h : t = false) (q : R) : if t = true then P else R := by rw [if_neg (by rw [h]; decide)]; exact q
end DM
namespace DM
open PySem PySem.Spec PyProof.Rows L2
open M (inst_at cmpback)
structure NfOk (K : PySem.W.Frag) (C : Addr) (tab : List Tg) : Prop where
  ok : ∀ t ∈ tab, PySem.W.notFirst K C t.v = true
  cls : ∀ C', Tg.c C' ∈ tab → ClsT K C'
def rOwnE (K : PySem.W.Frag) (C : Addr) (sp : Sp) : R2 := fun x y H Q => ∃ a dx fs t, x = .ref a ∧ H a = some (.ins C dx fs) ∧ TyX K H y t ∧ PySem.W.notFirst K C t = true ∧ sp [x, y] H Q E0
section
variable {X : Cx} {k : Nat} {C : Addr} {ps : List Str} {sp : Sp}
theorem op_cmpE {op : CmpOp} {nm : Str} (D : MO X.prog X.w X.K X.mg X.base C k nm ps sp) (hr : Room k X.A) (hnm : (cmpInfo op).2.1 = nm := by rfl) (hop : ∀ a b, compareOp op a b = richCompare op a b := by intro _ _; rfl) : OpR X (compareOp op) (rOwnE X.K C sp) := by
  intro pins s σ H x y v u Q I rx ry h
  obtain ⟨f, fd, F, hf, hi, kp, fi, bd⟩ := D.ex
  obtain ⟨a, dx, fs, t, rfl, ha, hty, hn, q⟩ := h
  cases (show v = Value.ref a from rx)
  obtain ⟨ox, od, J, _⟩ := inst_at I ha
  obtain ⟨P, Z, hp, _⟩ := kit_of I ry hty
  obtain ⟨m, hF⟩ := I.fr
  rw [hop]
  refine PySem.W.cmp_K (op := op) (tb := t) hr.units0 hF I.ok.mod.kin J (Z.ty _ _ I.kIn hp) hn (by rw [hnm]; exact hf) hi ?_
  refine thn (run_at (us := [.ref a, u]) (vs := [.ref a, y]) (fnok_raw F bd) hr I (.cons rfl (.cons ry .nil)) q) fun w s' z => ?_
  obtain ⟨z', H', I', rz, qz⟩ := z
  exact cmpback rz ⟨z', H', I', rz, qz⟩
theorem op_alt {f : Value → Value → Sem Value} {r1 r2 : R2} (h1 : OpR X f r1) (h2 : OpR X f r2) : OpR X f fun x y H Q => r1 x y H Q ∨ r2 x y H Q :=
  fun pins s σ H x y v u Q I rx ry h => h.elim (h1 pins s σ H x y v u Q I rx ry) (h2 pins s σ H x y v u Q I rx ry)
end
def oOwnE (C : Addr) (tab : List Tg) (Fm : MF) : O2 := fun x y st => if isOb C st x = true then (match st.tg y with | some t => if tab.contains t = true then (Fm [x, y] st).noEr else .no | none => .no) else .no
def oAlt (C : Addr) (o1 o2 : O2) : O2 := fun x y st => if isOb C st x = true then o1 x y st else o2 x y st
section
variable {K : PySem.W.Frag} {W : WX} {C : Addr} {Fm : MF} {tab : List Tg}
theorem sem_ownE (N : NfOk K C tab) : Sem2 K W (rOwnE K C (spM K Fm)) (oOwnE C tab Fm) := fun F σ env ts st H x y rx ry Q S h => by
  obtain ⟨ι, O⟩ := id S
  unfold oOwnE at h
  split at h
  · rename_i q
    split at h
    · rename_i t e
      split at h
      · rename_i m
        have m' : t ∈ tab := List.contains_iff_mem.mp m
        obtain ⟨a, dx, fs, rfl, ha⟩ := O.isOb O.x1 q
        exact ⟨a, dx, fs, t.v, rfl, ha, O.tyx O.x2 e (fun C' e => by subst e; exact N.cls C' m'), N.ok t m', callee0 (rs := [rx, ry]) O mem_xy rfl h⟩
      · exact h.elim
    · exact h.elim
  · exact h.elim
theorem sem_alt {r1 r2 : R2} {o1 o2 : O2} (h1 : Sem2 K W r1 o1) (h2 : Sem2 K W r2 o2) : Sem2 K W (fun x y H Q => r1 x y H Q ∨ r2 x y H Q) (oAlt C o1 o2) := fun F σ env ts st H x y rx ry Q S h => by
  unfold oAlt at h
  split at h
  · exact .inl (h1 F σ env ts st H x y rx ry Q S h)
  · exact .inr (h2 F σ env ts st H x y rx ry Q S h)
end
section
variable {Q : RV → Stx → Prop} {X : XR} {st : Stx} {x y : RV} {C : Addr} {Fm : MF} {tab : List Tg} {t : Tg} {o1 o2 : O2}
theorem w_ownE (h : isOb C st x = true) (ht : st.tg y = some t) (hm : tab.contains t = true) (q : wE (Fm [x, y] st) Q fun _ _ => False) : wE (oOwnE C tab Fm x y st) Q X := by
  unfold oOwnE
  simp only [if_pos h, ht, if_pos hm]
  exact w_noEr q
theorem w_alt1 (h : isOb C st x = true) (q : wE (o1 x y st) Q X) : wE (oAlt C o1 o2 x y st) Q X := by unfold oAlt; rw [if_pos h]; exact q
theorem w_alt2 (h : isOb C st x = false) (q : wE (o2 x y st) Q X) : wE (oAlt C o1 o2 x y st) Q X := by unfold oAlt; rw [if_neg (by rw [h]; decide)]; exact q
end
end DM
namespace DM
open PySem PySem.Spec PyProof.Rows L2
open M (aput al_mem al_of al_none aput_look aput_keys aput_nodup aput_mem)
section
variable {α : Type} [DecidableEq α] (n0 : α)
def gz (p : Str × α) : Option α := if p.2 = n0 then none else some p.2
abbrev gl (l : AL α) : AL α := fm (gz n0) l
abbrev gat (l : AL α) (z : Str) : α := (l.lookup z).getD n0
variable {n0} {l m : AL α} {z : Str}
theorem gl_get (h : ANd l) (z : Str) : gat n0 (gl n0 l) z = gat n0 l z := by
  unfold gat
  rw [fm_look (gz n0) z h]
  cases l.lookup z with
  | none => rfl
  | some v =>
    show (gz n0 (z, v)).getD n0 = v
    unfold gz
    by_cases e : v = n0
    · rw [if_pos e]; exact e.symm
    · rw [if_neg e]; rfl
theorem gl_of (hl : ANd l) (z : Str) : (gl n0 l).lookup z = if gat n0 l z = n0 then none else some (gat n0 l z) := by
  rw [fm_look (gz n0) z hl]
  unfold gat
  cases l.lookup z with
  | none => exact (if_pos rfl).symm
  | some v => rfl
theorem gl_has (h : ANd l) (z : Str) : z ∈ (gl n0 l).map (·.1) ↔ z ∈ l.map (·.1) ∧ decide (gat n0 l z ≠ n0) = true := by
  rw [← a_some, ← a_some, gl_of h]
  unfold gat
  cases l.lookup z with
  | none => simp
  | some v =>
    show (if v = n0 then none else some v).isSome = true ↔ _
    by_cases e : v = n0
    · rw [if_pos e]; simp [e]
    · rw [if_neg e]; simp [e]
theorem gl_eq (hl : ANd l) (hm : ANd m) : (∀ z, (gl n0 l).lookup z = (gl n0 m).lookup z) ↔ ∀ z, gat n0 l z = gat n0 m z := by
  constructor
  · intro h z
    rw [← gl_get hl, ← gl_get hm]
    unfold gat
    rw [h z]
  · intro h z
    rw [gl_of hl, gl_of hm, h z]
theorem gat_no (h : z ∉ l.map (·.1)) : gat n0 l z = n0 := by unfold gat; rw [al_none.mpr h]; rfl
theorem gat_mem (f : α → D) (h : z ∈ l.map (·.1)) : lookK (aK l) (aD f l) (.inr z) = some (f (gat n0 l z)) := by
  rw [look_a]
  unfold gat
  cases e : l.lookup z with
  | none => exact (al_none.mp e h).elim
  | some v => rfl
theorem gat_put (l : AL α) (z y : Str) (v : α) : gat n0 (aput l z v) y = if y = z then v else gat n0 l y := by
  unfold gat
  rw [aput_look]
  split <;> rfl
/-- listed in alphabetical order: all, and those that say something -/
def gL (n0 : α) (t : Str → α → D) (l : AL α) : List D := (sortS (l.map (·.1))).map fun z => t z (gat n0 l z)
def gks (n0 : α) (l : AL α) : List Str := (sortS (l.map (·.1))).filter fun z => decide (gat n0 l z ≠ n0)
def gS (n0 : α) (t : Str → α → D) (l : AL α) : List D := (gks n0 l).map fun z => t z (gat n0 l z)
theorem gl_listed (t : Str → α → D) (h : ANd l) : gL n0 t (gl n0 l) = gS n0 t l := by
  unfold gL gS gks
  rw [sort_filter (fun z => decide (gat n0 l z ≠ n0)) (fm_nd (gz n0) h) h fun z => gl_has h z]
  exact List.map_congr_left fun z _ => by rw [gl_get h]
theorem gks_eq (hl : ANd l) (hm : ANd m) (h : ∀ z, gat n0 l z = gat n0 m z) : gks n0 l = gks n0 m := by
  refine M.rise_eq ((sortS_rise hl).filter _) ((sortS_rise hm).filter _) fun z => ?_
  unfold gks
  rw [List.mem_filter, List.mem_filter, sortS_mem, sortS_mem, h z]
  constructor
  · rintro ⟨_, q⟩
    refine ⟨?_, q⟩
    apply Classical.byContradiction
    intro hc
    rw [gat_no hc] at q
    simp at q
  · rintro ⟨_, q⟩
    refine ⟨?_, q⟩
    apply Classical.byContradiction
    intro hc
    have e := gat_no (n0 := n0) hc
    rw [h z] at e
    rw [e] at q
    simp at q
theorem gks_mem (hl : ANd l) (z : Str) : z ∈ gks n0 l ↔ gat n0 l z ≠ n0 := by
  unfold gks
  rw [List.mem_filter, sortS_mem, decide_eq_true_eq]
  constructor
  · exact fun h => h.2
  · intro h
    refine ⟨?_, h⟩
    apply Classical.byContradiction
    intro hc
    exact h (gat_no hc)
end
theorem eqvAll_map {α : Type} (f : α → PyData) (he : ∀ x y, PyData.eqv (f x) (f y) = true ↔ x = y) : ∀ (l m : List α), PyData.eqvAll (l.map f) (m.map f) = true ↔ l = m
  | [], [] => by simp [PyData.eqvAll]
  | [], _ :: _ => by simp [PyData.eqvAll]
  | _ :: _, [] => by simp [PyData.eqvAll]
  | x :: l, y :: m => by
    simp only [List.map_cons, PyData.eqvAll, Bool.and_eq_true, he, eqvAll_map f he l m, List.cons.injEq]
theorem lay_all {α : Type} (f : α → PyData) : ∀ (l : List α), (∀ x ∈ l, (f x).canLay0 = true) → PyData.canLayAll0 (l.map f) = true
  | [], _ => rfl
  | x :: l, h => by
    simp only [List.map_cons, PyData.canLayAll0, Bool.and_eq_true]
    exact ⟨h x (List.mem_cons_self ..), lay_all f l fun y m => h y (List.mem_cons_of_mem _ m)⟩
theorem depth_all {α : Type} (f : α → PyData) (k : Nat) : ∀ (l : List α), (∀ x ∈ l, (f x).depth ≤ k) → PyData.depthAll (l.map f) ≤ k
  | [], _ => Nat.zero_le _
  | x :: l, h => by
    simp only [List.map_cons, PyData.depthAll]
    have h1 := h x (List.mem_cons_self ..)
    have h2 := depth_all f k l fun y m => h y (List.mem_cons_of_mem _ m)
    omega
theorem shaped_list {α : Type} (f : α → PyData) (l : List α) (h : ∀ x ∈ l, SeqAt.shaped (f x) = true) (hd : ∀ x ∈ l, (f x).depth ≤ 10) : SeqAt.shaped (.list (l.map f)) = true := by
  unfold SeqAt.shaped
  rw [Bool.and_eq_true, decide_eq_true_eq]
  refine ⟨?_, ?_⟩
  · show PyData.canLayAll0 (l.map f) = true
    exact lay_all f l fun x m => SeqAt.canLay_of_shaped (h x m)
  · show PyData.depthAll (l.map f) + 1 ≤ 64
    have := depth_all f 10 l hd
    omega
theorem pds_map {α : Type} (g : α → D) (f : α → PyData) (h : ∀ x, D.pd (g x) = some (f x)) : ∀ l : List α, D.pds (l.map g) = some (l.map f)
  | [] => rfl
  | x :: l => by
    simp only [List.map_cons, D.pds, h, pds_map g f h l, Option.bind_some, Option.map_some]
/-- == of two lists of data tells whether they are the same -/
theorem eq_lists {α : Type} (g : α → D) (f : α → PyData) (h : ∀ x, D.pd (g x) = some (f x)) (he : ∀ x y, PyData.eqv (f x) (f y) = true ↔ x = y) {l m : List α} (hs : ∀ x ∈ l ++ m, SeqAt.shaped (f x) = true ∧ (f x).depth ≤ 10) {s : Stx} {x y : RV} (hx : s.pd x = (D.pds (l.map g)).map .list) (hy : s.pd y = (D.pds (m.map g)).map .list) {neg : Bool} {Q : RV → Stx → Prop} {X : XR} (q : ∀ b : Bool, (b = true ↔ l = m) → Q (.val (.bl (if neg then !b else b))) s) : wE (oEq neg x y s) Q X := by
  rw [pds_map g f h, Option.map_some] at hx hy
  have s1 := shaped_list f l (fun x hx => (hs x (List.mem_append.mpr (.inl hx))).1) fun x hx => (hs x (List.mem_append.mpr (.inl hx))).2
  have s2 := shaped_list f m (fun x hx => (hs x (List.mem_append.mpr (.inr hx))).1) fun x hx => (hs x (List.mem_append.mpr (.inr hx))).2
  exact l_eqP hx hy s1 s2 (q _ (by simp only [PyData.eqv]; exact eqvAll_map f he l m))
open M (Part kd pd pd_eqv pd_shaped kd_sgn kd_inj)
def ptD (p : Part) : D := .tup [.str (kd p.1), .int p.2]
abbrev noP : Part := (false, 0)
theorem ptD_pd (p : Part) : D.pd (ptD p) = some (pd p) := rfl
def tpD (z : Str) (p : Part) : D := .tup [.str z, .str (kd p.1), .int p.2]
def tPd (q : Str × Part) : PyData := .tuple [.str q.1, .str (kd q.2.1), .int q.2.2]
theorem tpD_pd (q : Str × Part) : D.pd (tpD q.1 q.2) = some (tPd q) := rfl
theorem tPd_eqv (x y : Str × Part) : PyData.eqv (tPd x) (tPd y) = true ↔ x = y := by
  unfold tPd
  simp only [PyData.eqv, PyData.eqvAll, Bool.and_eq_true, beq_iff_eq, Bool.and_true]
  constructor
  · rintro ⟨h1, h2, h3⟩
    exact Prod.ext h1 (Prod.ext (kd_inj h2) h3)
  · rintro rfl; exact ⟨rfl, rfl, rfl⟩
theorem tPd_shaped {q : Str × Part} (h : M.Sgn q.1) : SeqAt.shaped (tPd q) = true ∧ (tPd q).depth ≤ 10 := by
  have h1 := SeqAt.canLay_of_shaped (sgn_shaped h)
  have h2 := SeqAt.canLay_of_shaped (sgn_shaped (kd_sgn q.2.1))
  refine ⟨?_, ?_⟩
  · unfold SeqAt.shaped
    rw [Bool.and_eq_true, decide_eq_true_eq]
    refine ⟨?_, ?_⟩
    · show (PyData.canLay0 (.str q.1) && (PyData.canLay0 (.str (kd q.2.1)) && (true && true))) = true
      rw [h1, h2]; rfl
    · show max 0 (max 0 (max 0 0)) + 1 ≤ 64
      decide
  · show max 0 (max 0 (max 0 0)) + 1 ≤ 10
    decide
theorem kd_eq (b : Bool) : (kd b == ("set" : Str)) = b := by cases b <;> decide +kernel
end DM
namespace DM
open PySem PySem.Spec PyProof.Rows L2
section
variable {α : Type} [DecidableEq α] {n0 : α} {l m : AL α}
def gP (n0 : α) (l : AL α) : List (Str × α) := (gks n0 l).map fun z => (z, gat n0 l z)
theorem gS_P (t : Str → α → D) (l : AL α) : gS n0 t l = (gP n0 l).map fun q => t q.1 q.2 := by unfold gS gP; rw [List.map_map]; rfl
theorem gP_iff (hl : ANd l) (hm : ANd m) : gP n0 l = gP n0 m ↔ ∀ z, gat n0 l z = gat n0 m z := by
  have key : ∀ {l m : AL α}, ANd l → ANd m → gP n0 l = gP n0 m → ∀ z, gat n0 l z ≠ n0 → gat n0 l z = gat n0 m z := fun {l m} hl hm h z hz => by
    have m1 : (z, gat n0 l z) ∈ gP n0 l := List.mem_map.mpr ⟨z, (gks_mem hl z).mpr hz, rfl⟩
    rw [h] at m1
    obtain ⟨y, _, e⟩ := List.mem_map.mp m1
    cases (Prod.mk.inj e).1
    exact (Prod.mk.inj e).2.symm
  constructor
  · intro h z
    by_cases hz : gat n0 l z = n0
    · by_cases hz2 : gat n0 m z = n0
      · rw [hz, hz2]
      · exact (key hm hl h.symm z hz2).symm
    · exact key hl hm h z hz
  · intro h
    unfold gP
    rw [gks_eq hl hm h]
    exact List.map_congr_left fun z _ => by rw [h z]
end
theorem l_rev {Q : List D → Stx → Prop} {X : XR} {s : Stx} {ds : List D} (q : Q ds.reverse s) : wE (revK [.val (.lst ds)] s) Q X := w_ok q
theorem atI_neg {α : Type} {xs : List α} {v : Int} (h0 : -(xs.length : Int) ≤ v) (h1 : v < xs.length) : ∃ c, c ∈ xs ∧ atI xs v = some c := by
  unfold atI ixN
  by_cases h : 0 ≤ v
  · rw [if_pos h, if_pos h1]
    have hv : v.toNat < xs.length := by omega
    exact ⟨xs[v.toNat], List.getElem_mem hv, by simp [List.getElem?_eq_getElem hv]⟩
  · rw [if_neg h]
    have hv : (v + xs.length).toNat < xs.length := by omega
    refine ⟨xs[(v + xs.length).toNat], List.getElem_mem hv, ?_⟩
    first
      | (rw [if_pos (by omega)]; simp [List.getElem?_eq_getElem hv])
      | (simp [List.getElem?_eq_getElem hv]; omega)
end DM
namespace DM
open PySem PySem.Spec PyProof.Rows L2
theorem clean_old {s S : Stx} (h : ∀ m, m < s.nx → S.at' m = s.at' m) : s.clean S = s := Stx.ext rfl rfl fun m => by
  show (if m < s.nx then S.at' m else s.at' m) = s.at' m
  by_cases h1 : m < s.nx
  · rw [if_pos h1, h m h1]
  · rw [if_neg h1]
/-- one new dict beside what stood before -/
structure NewD {α : Type} (f : α → D) (s S : Stx) (l : AL α) : Prop where
  hi : S.hi = s.hi
  nx : S.nx = s.nx + 1
  old : ∀ m, m < s.nx → S.at' m = s.at' m
  dct : S.at' s.nx = some (.dct false (aK l) (aD f l))
section
variable {α : Type} {f : α → D} {s S : Stx} {l l' : AL α}
theorem NewD.start : NewD f s (s.push (.dct false [] [])) [] := ⟨rfl, rfl, fun m hm => push_ne (by omega), push_at⟩
theorem NewD.start' : NewD f s (s.push (.dct false (aK l) (aD f l))) l := ⟨rfl, rfl, fun m hm => push_ne (by omega), push_at⟩
theorem NewD.set (h : NewD f s S l) : NewD f s (S.set s.nx (.dct false (aK l') (aD f l'))) l' := ⟨h.hi, h.nx, fun m hm => (set_ne (by omega)).trans (h.old m hm), set_at⟩
theorem NewD.fin (h : NewD f s S l) : s.clean (S.del s.nx) = s := clean_old fun m hm => (del_ne (by omega)).trans (h.old m hm)
end
end DM
namespace DM
open PySem PySem.Spec PyProof.Rows L2
theorem w_dispK {ps : List (Key × D)} {m : Bool} {s : Stx} {Q : RV → Stx → Prop} (h : ps.length ≤ 15) (q : okDK m (mrg ps [] []).1 (mrg ps [] []).2 s Q) : ps.length ≤ 15 ∧ okDK m (mrg ps [] []).1 (mrg ps [] []).2 s Q := ⟨h, q⟩
end DM
namespace DM
theorem kit_ownF {K : PySem.W.Frag} {t : PySem.Value} {C : PySem.Addr} (h0 : t ≠ .ref C) (h1 : PySem.W.isClsIn K C = true) (h2 : PySem.W.typeIn K (.ref C) = some (.type "type")) (h3 : PySem.W.subIn K t (.ref C) = some false) : PySem.W.kitOne K t (.ref C) = some false := by
  unfold PySem.W.kitOne
  rw [if_neg (fun e => h0 (eq_of_beq e))]
  unfold PySem.W.kitCls
  unfold PySem.W.isClsIn at h1
  simp only [h1, h2, beq_self_eq_true, Bool.and_self, if_true, h3]
theorem ref_ne {C C' : PySem.Addr} (h : C ≠ C') : PySem.Value.ref C ≠ .ref C' := fun e => h (by cases e; rfl)
end DM
namespace DM
open PySem PySem.Spec PyProof.Rows L2
def tL (z : Str) (p : Lim) : D := .tup [.str z, oD p.1, oD p.2]
def tLd (q : Str × Lim) : PyData := .tuple [.str q.1, oP q.2.1, oP q.2.2]
theorem tL_pd (q : Str × Lim) : D.pd (tL q.1 q.2) = some (tLd q) := by
  unfold tL tLd
  simp only [D.pd, D.pds, oD_pd, Option.bind_some, Option.map_some]
theorem tLd_eqv (x y : Str × Lim) : PyData.eqv (tLd x) (tLd y) = true ↔ x = y := by
  unfold tLd
  simp only [PyData.eqv, PyData.eqvAll, Bool.and_eq_true, beq_iff_eq, Bool.and_true, oP_eqv, decide_eq_true_eq]
  constructor
  · rintro ⟨h1, h2, h3⟩
    exact Prod.ext h1 (Prod.ext h2 h3)
  · rintro rfl; exact ⟨rfl, rfl, rfl⟩
theorem tLd_shaped {q : Str × Lim} (h : M.Sgn q.1) : SeqAt.shaped (tLd q) = true ∧ (tLd q).depth ≤ 10 := by
  have h1 := SeqAt.canLay_of_shaped (sgn_shaped h)
  obtain ⟨z, a, b⟩ := q
  have hc : ∀ o : Option Int, (oP o).canLay0 = true ∧ (oP o).depth = 0 := fun o => by cases o <;> exact ⟨rfl, rfl⟩
  refine ⟨?_, ?_⟩
  · unfold SeqAt.shaped
    rw [Bool.and_eq_true, decide_eq_true_eq]
    refine ⟨?_, ?_⟩
    · show (PyData.canLay0 (.str z) && (PyData.canLay0 (oP a) && (PyData.canLay0 (oP b) && true))) = true
      rw [h1, (hc a).1, (hc b).1]; rfl
    · show max 0 (max (oP a).depth (max (oP b).depth 0)) + 1 ≤ 64
      rw [(hc a).2, (hc b).2]; decide
  · show max 0 (max (oP a).depth (max (oP b).depth 0)) + 1 ≤ 10
    rw [(hc a).2, (hc b).2]; decide
theorem lS_gS (l : AL Lim) : lS l = gS noL tL l := rfl
theorem hz_gz : hz = gz noL := rfl
end DM
namespace DM
open PySem PySem.Spec PyProof.Rows L2
/-- an own exception class over ValueError, without an own __init__ -/
structure ExcOk (K : PySem.W.Frag) (C : Addr) : Prop where
  ex : PySem.W.excIn K C [.type "ValueError", .type "Exception", .type "BaseException", .type "object"] "ValueError.__new__" = true
  keep : PySem.W.keepIn K (.ref C) = true
  sub : PySem.W.subIn K (.ref C) (.type "BaseException") = some true
  ty : PySem.W.typeIn K (.ref C) = some (.type "type")
/-- raise C("..") -/
def sRaiseC (C : Addr) : SF := fun env st => .er ⟨.ref C, []⟩ env st
def lookA : List (Addr × Bool) → Addr → Option Bool
  | [], _ => none
  | (a, b) :: r, c => if a = c then some b else lookA r c
def tstA (tab : List (Addr × Bool)) (e : Ex) : Option Bool := match e.C with
  | .ref a => lookA tab a
  | _ => none
/-- which classes an except clause catches -/
def XmOk (K : PySem.W.Frag) (C : Addr) (tab : List (Addr × Bool)) : Prop := ∀ p ∈ tab, PySem.W.exmOne K (.ref p.1) (.ref C) = some p.2
theorem lookA_mem : ∀ {tab : List (Addr × Bool)} {a : Addr} {b : Bool}, lookA tab a = some b → (a, b) ∈ tab
  | (x, y) :: r, a, b, h => by
    unfold lookA at h
    split at h
    · rename_i e
      cases h
      rw [← e]; exact List.mem_cons_self ..
    · exact List.mem_cons_of_mem _ (lookA_mem h)
/-- what comes of a suite: no exception leaves it -/
def sTry (tst : Ex → Option Bool) (gb gs : SF) : SF := fun env st => match gb env st with
  | .er e env' st' => match tst e with
    | some true => (gs env' st').noEr
    | some false => .er e env' st'
    | none => .no
  | x => x
section
variable {X : Cx} {W : WX} {C : Addr} {x m : Str} {j : Nat} {p p2 np pos pos' : Pos} {body suite : List Stmt} {b₀ : Stmt} {gb gs : SF} {tab : List (Addr × Bool)}
theorem ds_raiseC (hc : X.calm = true) (tk : Takes X W) (h : ExcOk X.K C) (gC : X.mg x = some (.ref C)) (hg : Gl X x) (hdb : (x == ("__debug__" : Str)) = false := by decide) : PS X (.Raise (some (.Call (.Name x p) [.Constant (.str m) j p2] [] pos)) none pos') (tS X.K W (sRaiseC C)) :=
  ps_up (ps_raise hc tk (pmk_own PySem.F.excBase_ValueError h.ex gC h.keep (raises_own h.sub h.ty) hg hdb)) fun D σ H ⟨F, env, ts, st, S, h⟩ => h (.ref C) none σ H ⟨rfl, [], rfl, S, .inl ⟨rfl, rfl⟩⟩
theorem ds_try (hs : X.stack = X.env :: X.outer) (hf : X.env.frame = some X.env.locals) (hc : Names X x (.ref C)) (tk : Takes X W) (hx : XmOk X.K C tab)
    (hb : ∀ (W : WX) (pn : List (Addr × Obj)) (xe : Value → Shared → Prop), Takes (X.tr pn xe) W → PassesOwn (model X.prog X.w) X.A X.env xe → PSs (X.tr pn xe) body (tS X.K W gb))
    (hsu : ∀ (a : Addr) (oe : Obj) (pn : List (Addr × Obj)), PSs (X.suite a ((a, oe) :: pn)) (b₀ :: suite) (tS X.K W0 gs)) :
    PS X (.Try body [.ExceptHandler (some (.Name x np)) none (b₀ :: suite) pos'] [] [] pos) (tS X.K W (sTry (tstA tab) gb gs)) :=
  ps_up (ps_try_only hs hf hc tk hb (fun a oe _ _ pn _ _ => hsu a oe pn)) fun D σ H ⟨F, env, ts, st, S, h⟩ => by
    refine ⟨F, env, ts, st, S, ?_⟩
    unfold sTry at h
    cases e : gb env st with
    | go fl env' st' => rw [e] at h; cases fl <;> exact h
    | no => rw [e] at h; exact h
    | er x' env' st' =>
      rw [e] at h
      dsimp only at h
      intro cls d σ' H' hx'
      obtain ⟨hcls, vs, hl, S', hd⟩ := hx'
      cases ht : tstA tab x' with
      | none => rw [ht] at h; exact h.elim
      | some b =>
        rw [ht] at h
        unfold tstA at ht
        split at ht
        · rename_i a ha
          have hm := hx _ (lookA_mem ht)
          refine ⟨b, by rw [hcls, ha]; exact hm, fun hb1 a' _ => ?_, fun hb1 => ?_⟩
          · subst hb1
            refine ⟨F, env', ts, st', ?_, ?_⟩
            · obtain ⟨ι, O⟩ := S'
              exact ⟨ι, O.tmps fun t m => List.mem_append_right _ m⟩
            · dsimp only at h
              cases q : gs env' st' with
              | go fl env2 st2 => rw [q] at h; cases fl <;> exact h
              | er x2 env2 st2 => rw [q] at h; exact h.elim
              | no => rw [q] at h; exact h.elim
          · subst hb1
            exact h cls d σ' H' ⟨hcls, vs, hl, S', hd⟩
        · cases ht
theorem w_raiseC {env : Env} {st : Stx} {R : Fl → Env → Stx → Prop} {Z : XS} (q : Z ⟨.ref C, []⟩ env st) : wS (sRaiseC C env st) R Z := by with_unfolding_all exact q
/-- what is due behind a try: where it is caught -/
theorem w_try {env : Env} {st : Stx} {tst : Ex → Option Bool} {R : Fl → Env → Stx → Prop} {Z : XS} (q : wS (gb env st) R (fun e env' st' => ∃ b, tst e = some b ∧ (b = true → wS (gs env' st') R fun _ _ _ => False) ∧ (b = false → Z e env' st'))) : wS (sTry tst gb gs env st) R Z := by
  unfold sTry
  cases e : gb env st with
  | go fl env' st' => rw [e] at q; with_unfolding_all exact q
  | no => rw [e] at q; with_unfolding_all exact q
  | er x' env' st' =>
    rw [e] at q
    unfold wS at q
    obtain ⟨b, h1, h2, h3⟩ := q
    simp only [h1]
    cases b with
    | true => exact wS_noEr (show wS (gs env' st') R fun _ _ _ => False by with_unfolding_all exact h2 rfl)
    | false => with_unfolding_all exact h3 rfl
end
theorem exm_own {K : PySem.W.Frag} {C D : PySem.Addr} {b : Bool} (h0 : PySem.W.subIn K (.ref C) (.type "BaseException") = some true) (h1 : PySem.W.isClsIn K C = true) (h2 : PySem.W.typeIn K (.ref C) = some (.type "type")) (h3 : PySem.W.subIn K (.ref D) (.ref C) = some b) : PySem.W.exmOne K (.ref D) (.ref C) = some b := by
  unfold PySem.W.exmOne
  rw [if_pos (by rw [h0]; exact beq_self_eq_true _)]
  unfold PySem.W.kitCls
  unfold PySem.W.isClsIn at h1
  simp only [h1, h2, beq_self_eq_true, Bool.and_self, if_true, h3]
end DM
namespace DM
open PySem PySem.Spec PyProof.Rows L2
open M (inst_at cmpback)
def eOpR (C : Addr) (Fm : MF) (fa fb : EF) : EF := fun env st => (fa env st).bind fun x st1 => (fb env st1).bind fun y st2 => if isOb C st2 x = true ∧ isOb C st2 y = true then Fm [x, y] st2 else .no
section
variable {X : Cx} {W : WX} {a b : Expr} {fa fb : EF} {k : Nat} {C : Addr} {ps : List Str} {Fm : MF} {pos : Pos} {Q : RV → Stx → Prop} {Z : XR} {env : Env} {st : Stx}
theorem d_opR {op : Operator} {nm : Str} (D : MethX X.prog X.w X.K X.mg X.base C k nm ps Fm) (hc : PySem.W.selfFirst X.K C = true) (hr : Room k X.A) (tk : Takes X W) (ha : PE X a (tE X.K W fa)) (hb : PE X b (tE X.K W fb)) (hnm : PySem.dunder op.info.2 = nm := by rfl) :
    PE X (.BinOp a op b pos) (tE X.K W (eOpR C Fm fa fb)) := by
  obtain ⟨f, fd, F, hfi, hi, kp, fi, bd⟩ := D.ex
  refine ⟨fun pins s σ H Q I ⟨Fr, env, ts, st, S, h⟩ => ?_⟩
  refine wpAny_BinOp (binT ha hb I (R := fun x y H2 => ∃ a dx fs b dy gs, x = V.ref a ∧ y = V.ref b ∧ H2 a = some (.ins C dx fs) ∧ H2 b = some (.ins C dy gs) ∧ spM X.K Fm [x, y] H2 Q (WE W σ)) ?_ fun v u s2 x y H2 I2 rx ry q => ?_)
  · refine tE.go S h fun rx st1 x H1 S1 h1 => ?_
    refine tE.go S1 h1 fun ry st2 y H2 S2 h2 => ?_
    split at h2
    · rename_i q
      obtain ⟨ι, O⟩ := id S2
      obtain ⟨a, dx, fs, rfl, ha⟩ := O.isOb O.x1 q.1
      obtain ⟨b, dy, gs, rfl, hb⟩ := O.isOb O.x2 q.2
      refine ⟨a, dx, fs, b, dy, gs, rfl, rfl, ha, hb, ?_⟩
      refine callee_of (ts := (.ref b, ry) :: (.ref a, rx) :: ts) (σ := σ) (env := env) (rs := [rx, ry]) (S2.tmps fun t m => ?_) rfl (Post.imp (x := Fm [rx, ry] st2) h2 fun r st3 _ h6 v3 H3 S3 => h6 v3 H3 (S3.tmps fun t m => ?_))
      · rcases List.mem_append.mp m with m | m
        · exact mem_xy (ts := ts) t (List.mem_append_left _ m)
        · exact m
      · rcases List.mem_cons.mp m with rfl | m
        · exact List.mem_cons_self ..
        · exact List.mem_cons_of_mem _ (two _ _ m)
    · exact h2.elim
  · obtain ⟨a, dx, fs, b, dy, gs, rfl, rfl, ha, hb, q⟩ := q
    cases (show v = Value.ref a from rx)
    cases (show u = Value.ref b from ry)
    obtain ⟨ox, od, J, _⟩ := inst_at I2 ha
    obtain ⟨ox', od', J', _⟩ := inst_at I2 hb
    obtain ⟨m, hF⟩ := I2.fr
    refine PySem.W.binop_K hF I2.ok.mod.kin J J'.type hc (by rw [hnm]; exact hfi) hi ?_
    refine thn (run_fnSD (E := fun σ => WE W σ) (us := [.ref a, .ref b]) (vs := [V.ref a, .ref b]) F hr bd .nil (passAt tk σ) I2 (.cons rfl (.cons rfl .nil)) (by rw [List.append_nil]; exact q)) fun w s' z => ?_
    obtain ⟨z', H', I', rz, qz⟩ := z
    exact cmpback rz ⟨z', H', I', rz, qz⟩
theorem w_opR (q : wE (fa env st) (fun x s => wE (fb env s) (fun y s => isOb C s x = true ∧ isOb C s y = true ∧ wE (Fm [x, y] s) Q Z) Z) Z) : wE (eOpR C Fm fa fb env st) Q Z := by with_unfolding_all
  unfold eOpR
  simp only [wE_bind]
  refine wE_imp q (fun x s h => wE_imp h (fun y s h => ?_) fun _ _ h => h) fun _ _ h => h
  rw [if_pos ⟨h.1, h.2.1⟩]; exact h.2.2
end
end DM
namespace DM
open PySem PySem.Spec PyProof.Rows L2
def isNoneD : PyData → Bool
  | .none => true
  | _ => false
def rOrdD (K : PySem.W.Frag) (g : PyData → PyData → Bool) : R2 := fun x y H Q => ∃ d e, Dp K H x d ∧ Dp K H y e ∧ SeqAt.shaped d = true ∧ PySem.W.alike d e = true ∧ isNoneD d = false ∧ Q (.bl (g d e)) H
theorem notNoneD {d : PyData} (h : isNoneD d = false) : d ≠ .none := fun e => by subst e; cases h
abbrev gLtD (d e : PyData) : Bool := PySem.W.dataLt d e
abbrev gGtD (d e : PyData) : Bool := PySem.W.dataLt e d
abbrev gLeD (d e : PyData) : Bool := !PySem.W.dataLt e d
abbrev gGeD (d e : PyData) : Bool := !PySem.W.dataLt d e
section
variable {X : Cx} {k : Nat}
theorem op_ltD (hr : Room k X.A) : OpR X (compareOp .Lt) (rOrdD X.K gLtD) := by
  intro pins s σ H x y v u Q I rx ry ⟨d, e, hd, he, sd, al, nn, q⟩
  obtain ⟨as, r1⟩ := Dp.reads I d x v hd rx
  obtain ⟨bs, r2⟩ := Dp.reads I e y u he ry
  exact PySem.W.lt_data r1 r2 al (notNoneD nn) (SeqAt.room_of_shaped sd (by have := hr.un; omega)) ⟨.bl _, H, I, rfl, q⟩
theorem op_gtD (hr : Room k X.A) : OpR X (compareOp .Gt) (rOrdD X.K gGtD) := by
  intro pins s σ H x y v u Q I rx ry ⟨d, e, hd, he, sd, al, nn, q⟩
  obtain ⟨as, r1⟩ := Dp.reads I d x v hd rx
  obtain ⟨bs, r2⟩ := Dp.reads I e y u he ry
  exact PySem.W.gt_data r1 r2 al (notNoneD nn) (SeqAt.room_of_shaped sd (by have := hr.un; omega)) ⟨.bl _, H, I, rfl, q⟩
theorem op_leD (hr : Room k X.A) : OpR X (compareOp .LtE) (rOrdD X.K gLeD) := by
  intro pins s σ H x y v u Q I rx ry ⟨d, e, hd, he, sd, al, nn, q⟩
  obtain ⟨as, r1⟩ := Dp.reads I d x v hd rx
  obtain ⟨bs, r2⟩ := Dp.reads I e y u he ry
  exact PySem.W.le_data r1 r2 al (notNoneD nn) (SeqAt.room_of_shaped sd (by have := hr.un; omega)) ⟨.bl _, H, I, rfl, q⟩
theorem op_geD (hr : Room k X.A) : OpR X (compareOp .GtE) (rOrdD X.K gGeD) := by
  intro pins s σ H x y v u Q I rx ry ⟨d, e, hd, he, sd, al, nn, q⟩
  obtain ⟨as, r1⟩ := Dp.reads I d x v hd rx
  obtain ⟨bs, r2⟩ := Dp.reads I e y u he ry
  exact PySem.W.ge_data r1 r2 al (notNoneD nn) (SeqAt.room_of_shaped sd (by have := hr.un; omega)) ⟨.bl _, H, I, rfl, q⟩
end
def oOrdL (g : PyData → PyData → Bool) : O2 := fun x y st => match pd2 st x y with
  | some (d, e) => if (PySem.W.alike d e && !isNoneD d) = true then .ok (.val (.bl (g d e))) st else .no
  | none => .no
theorem sem_ordD {K : PySem.W.Frag} {W : WX} {g : PyData → PyData → Bool} : Sem2 K W (rOrdD K g) (oOrdL g) := fun F σ env ts st H x y rx ry Q S h => by
  obtain ⟨ι, O⟩ := id S
  unfold oOrdL at h
  split at h
  · rename_i d e q
    obtain ⟨h1, h2, h3, h4⟩ := pd2_of O q
    split at h
    · rename_i c
      rw [Bool.and_eq_true, Bool.not_eq_true'] at c
      exact ⟨d, e, h1, h2, h3, c.1, c.2, Post.flat (d := .bl (g d e)) S rfl (fun t m => two _ _ m) h⟩
    · exact h.elim
  · exact h.elim
theorem alikeAll_ints : ∀ (xs ys : List Int), PySem.W.alikeAll (xs.map PyData.int) (ys.map PyData.int) = true
  | [], _ => by rw [List.map_nil, PySem.W.alikeAll]
  | x :: xs, [] => by rw [List.map_nil, List.map_cons, PySem.W.alikeAll]
  | x :: xs, y :: ys => by rw [List.map_cons, List.map_cons, PySem.W.alikeAll, PySem.W.alike, alikeAll_ints xs ys]; rfl
theorem alike_ints (xs ys : List Int) : PySem.W.alike (.list (xs.map PyData.int)) (.list (ys.map PyData.int)) = true := by
  rw [PySem.W.alike]; exact alikeAll_ints xs ys
theorem lt_ints (xs ys : List Int) : PySem.W.dataLt (.list (xs.map PyData.int)) (.list (ys.map PyData.int)) = decide (xs < ys) := by
  rw [PySem.W.dataLt_list]; exact PySem.W.dataLt_ints xs ys
section
variable {x y : RV} {st : Stx} {Q : RV → Stx → Prop} {Z : XR} {xs ys : List Int} {g : PyData → PyData → Bool}
theorem l_ordL (hx : st.pd x = some (.list (xs.map PyData.int))) (hy : st.pd y = some (.list (ys.map PyData.int))) (h : Q (.val (.bl (g (.list (xs.map PyData.int)) (.list (ys.map PyData.int))))) st) : wE (oOrdL g x y st) Q Z := by with_unfolding_all
  have e : pd2 st x y = some (.list (xs.map PyData.int), .list (ys.map PyData.int)) := by unfold pd2; simp only [hx, hy, PySem.W.shaped_ints, Bool.and_self, if_true]
  unfold oOrdL
  simp only [e, alike_ints, isNoneD, Bool.not_false, Bool.and_self, if_true]
  exact h
theorem l_ltL (hx : st.pd x = some (.list (xs.map PyData.int))) (hy : st.pd y = some (.list (ys.map PyData.int))) (h : Q (.val (.bl (decide (xs < ys)))) st) : wE (oOrdL gLtD x y st) Q Z := l_ordL hx hy (by unfold gLtD; rw [lt_ints]; exact h)
theorem l_gtL (hx : st.pd x = some (.list (xs.map PyData.int))) (hy : st.pd y = some (.list (ys.map PyData.int))) (h : Q (.val (.bl (decide (ys < xs)))) st) : wE (oOrdL gGtD x y st) Q Z := l_ordL hx hy (by unfold gGtD; rw [lt_ints]; exact h)
theorem l_leL (hx : st.pd x = some (.list (xs.map PyData.int))) (hy : st.pd y = some (.list (ys.map PyData.int))) (h : Q (.val (.bl (!decide (ys < xs)))) st) : wE (oOrdL gLeD x y st) Q Z := l_ordL hx hy (by unfold gLeD; rw [lt_ints]; exact h)
theorem l_geL (hx : st.pd x = some (.list (xs.map PyData.int))) (hy : st.pd y = some (.list (ys.map PyData.int))) (h : Q (.val (.bl (!decide (xs < ys)))) st) : wE (oOrdL gGeD x y st) Q Z := l_ordL hx hy (by unfold gGeD; rw [lt_ints]; exact h)
end
/-- f(e, ..), f a name or more that gives a thing of an own class with __call__ -/
def eCallI (C : Addr) (Fm : MF) (ff : EF) (fa : AF) : EF := fun env st => (ff env st).bind fun x st1 => if isOb C st1 x = true then (fa env st1).bind fun rs st2 => if isOb C st2 x = true then (Fm (x :: rs) st2).noEr else .no else .no
section
variable {X : Cx} {W : WX} {es : List Expr} {fe e : Expr} {pos : Pos} {ff : EF} {fa : AF} {k : Nat} {C : Addr} {ps : List Str} {Fm : MF}
theorem d_callI (D : MethX X.prog X.w X.K X.mg X.base C k "__call__" ps Fm) (hr : Room k X.A) (hf : PE X fe (tE X.K W ff)) (ha : PA X (e :: es) (tA X.K W fa))
    (ht : eval (.Call fe (e :: es) [] pos) X.env = (do callWith pos (← eval fe X.env) [] (backTo pos (starEach (e :: es) X.env)) (backToKw pos (keywordEach [] X.env))) := by rfl)
    (hst : starEach (e :: es) X.env = (false, eval e X.env) :: starEach es X.env := by rfl) (hpl : (backTo pos (starEach es X.env)).any (·.1) = false := by rfl) : PE X (.Call fe (e :: es) [] pos) (tE X.K W (eCallI C Fm ff fa)) :=
  pe_up (DM.pe_callI hf D.mo hr ha ht hst hpl) fun σ H Q ⟨Fr, env, ts, st, S, h⟩ => by
    refine tE.go S h fun x st1 v H1 S1 h1 => ?_
    split at h1
    · rename_i q
      obtain ⟨ι, O⟩ := id S1
      obtain ⟨a, dx, fs, rfl, _⟩ := O.isOb (O.tmp (v, x) (List.mem_cons_self ..)) q
      refine ⟨a, rfl, Fr, env, _, st1, S1, (Post.bind h1).imp fun rs2 st2 _ h5 vs H2 hl S2 => ?_⟩
      split at h5
      · rename_i q2
        obtain ⟨ι2, O2⟩ := id S2
        obtain ⟨a', dx', fs', e', hh⟩ := O2.isOb (O2.tmp (.ref a, x) (List.mem_append_right _ (List.mem_cons_self ..))) q2
        cases e'
        refine ⟨.inr ⟨dx', fs', hh⟩, callee0 (vs := .ref a :: vs) (rs := x :: rs2) (ts := ts) O2 (fun t m => ?_) (by rw [List.length_cons, List.length_cons, hl]) h5⟩
        rw [List.zip_cons_cons] at m
        rcases List.mem_append.mp m with m | m
        · rcases List.mem_cons.mp m with rfl | m
          · exact List.mem_append_right _ (List.mem_cons_self ..)
          · exact List.mem_append_left _ m
        · exact List.mem_append_right _ (List.mem_cons_of_mem _ m)
      · exact h5.elim
    · exact h1.elim
variable {Q : RV → Stx → Prop} {Z : XR} {env : Env} {st : Stx}
theorem w_callI (q : wE (ff env st) (fun x s => isOb C s x = true ∧ wE (fa env s) (fun rs s => isOb C s x = true ∧ wE (Fm (x :: rs) s) Q fun _ _ => False) Z) Z) : wE (eCallI C Fm ff fa env st) Q Z := by with_unfolding_all
  unfold eCallI
  simp only [wE_bind]
  refine wE_imp q (fun x s h => ?_) fun _ _ h => h
  rw [if_pos h.1, wE_bind]
  refine wE_imp h.2 (fun rs s h => ?_) fun _ _ h => h
  rw [if_pos h.1]
  exact w_noEr h.2
end
end DM
namespace DM
open PySem PySem.Spec PyProof.Rows L2
section
variable {st : Stx} {r r' : RV} {C C' : Addr} {ns ns' : List Str} {rs rs' : List RV} {W : Prop}
theorem isOb_ob (h : st.ob r = some (C, ns, rs)) : isOb C st r = true := by unfold isOb; rw [h]; exact decide_eq_true rfl
theorem w_obK (h : st.ob r = some (C, ns, rs)) (q : W) : isOb C st r = true ∧ W := ⟨isOb_ob h, q⟩
/-- what is due at a handler: the exception's class is in the table -/
theorem w_tstK {tab : List (Addr × Bool)} {C : Addr} {b : Bool} {l : List Value} {P R : Prop} (h : lookA tab C = some b) (q : if b = true then P else R) : ∃ b', tstA tab ⟨.ref C, []⟩ = some b' ∧ (b' = true → P) ∧ (b' = false → R) := by
  refine ⟨b, h, fun e => ?_, fun e => ?_⟩
  · rw [if_pos e] at q; exact q
  · rw [if_neg (by rw [e]; decide)] at q; exact q
theorem lookA_self {C : Addr} {b : Bool} {l : List (Addr × Bool)} : lookA ((C, b) :: l) C = some b := by unfold lookA; exact if_pos rfl
end
end DM
namespace DM
open PySem PySem.Spec PyProof.Rows L2
abbrev LeS (a b : Str) : Prop := ltCps (M.cs b) (M.cs a) = false
theorem lt_asym {a b : List Nat} (h : ltCps a b = true) : ltCps b a = false := by
  cases e : ltCps b a with
  | false => rfl
  | true => have := M.lt_tr h e; rw [M.lt_irr] at this; cases this
theorem leS_anti {a b : Str} (h : LeS a b) (k : LeS b a) : a = b := by
  rcases M.lt_tri (M.cs a) (M.cs b) with q | q | q
  · unfold LeS at k; rw [k] at q; cases q
  · exact M.cs_inj q
  · unfold LeS at h; rw [h] at q; cases q
theorem leS_tr {a b c : Str} (h : LeS a b) (k : LeS b c) : LeS a c := by
  unfold LeS at *
  cases e : ltCps (M.cs c) (M.cs a) with
  | false => rfl
  | true =>
    rcases M.lt_tri (M.cs b) (M.cs c) with q | q | q
    · have := M.lt_tr q e; rw [h] at this; cases this
    · rw [← q, h] at e; cases e
    · rw [k] at q; cases q
theorem sorted_pw : ∀ (l : List Str), sortedS l = true → l.Pairwise LeS
  | [], _ => .nil
  | x :: r, h => .cons (fun y m => M.rising_of r x h y m) (sorted_pw r (by
      cases r with
      | nil => rfl
      | cons y r => have h : (!ltCps _ _ && risingS y r) = true := h; rw [Bool.and_eq_true] at h; exact h.2))
theorem insS_perm {x : Str} : ∀ {l : List Str}, (insS x l).Perm (x :: l)
  | [] => .refl _
  | y :: r => by
    unfold insS
    split
    · exact .refl _
    · exact (List.Perm.cons y insS_perm).trans (.swap ..)
theorem sortS_perm : ∀ {l : List Str}, (sortS l).Perm l
  | [] => .refl _
  | x :: r => by unfold sortS; exact insS_perm.trans (.cons x sortS_perm)
theorem insS_pw {x : Str} : ∀ {l : List Str}, l.Pairwise LeS → (insS x l).Pairwise LeS
  | [], _ => List.pairwise_singleton ..
  | y :: r, h => by
    have h' := List.pairwise_cons.mp h
    unfold insS
    split
    · rename_i q
      refine .cons (fun z m => ?_) h
      rcases List.mem_cons.mp m with rfl | m
      · exact lt_asym q
      · exact leS_tr (lt_asym q) (h'.1 z m)
    · rename_i q
      refine .cons (fun z m => ?_) (insS_pw h'.2)
      rcases insS_mem.mp m with e | m
      · rw [e]; exact Bool.eq_false_iff.mpr q
      · exact h'.1 z m
theorem sortS_pw : ∀ {l : List Str}, (sortS l).Pairwise LeS
  | [] => .nil
  | x :: r => by unfold sortS; exact insS_pw sortS_pw
theorem sortS_eq2 {l ys : List Str} (p : ys.Perm l) (s : sortedS ys = true) : ys = sortS l :=
  List.Perm.eq_of_pairwise (le := LeS) (fun _ _ _ _ h k => leS_anti h k) (sorted_pw ys s) sortS_pw (p.trans sortS_perm.symm)
def gSortedA (m : Bool) (rs : List RV) (st : Stx) : Rs RV := match rs with
  | [r] => match (st.ls r).bind allS with
    | some xs => if xs.length < 64 then okL m ((sortS xs).map .str) st else .no
    | none => .no
  | _ => .no
theorem sem_sortedA {K : PySem.W.Frag} {W : WX} {m : Bool} : SemB K W (rSortedS K) (gSortedA m) := fun F ι σ env ts ts0 st H vs rs Q hl O h => by
  unfold gSortedA at h
  split at h
  · rename_i r
    obtain ⟨v, rfl⟩ := zip1 hl
    split at h
    · rename_i xs e
      by_cases q : xs.length < 64
      · rw [if_pos q] at h
        obtain ⟨ds, e1, e2⟩ := Option.bind_eq_some_iff.mp e
        obtain ⟨a, us, rfl, la, l, q1⟩ := O.ls O.arg1 e1
        rw [allS_v e2 q1] at la
        refine ⟨a, xs, rfl, la, q, fun ys p hp hs np => ?_⟩
        rw [sortS_eq2 hp hs]
        exact Post.mkL O (M.same_new np) inApp np upd_same strs_v h
      · rw [if_neg q] at h; exact h.elim
    · exact h.elim
  · exact h.elim
theorem l_sortedA {m : Bool} {x : RV} {st : Stx} {Q : RV → Stx → Prop} {Z : XR} {xs : List Str} (hx : st.ls x = some (xs.map .str)) (hl : xs.length < 64) (h : if m = true then Q (.ptr st.nx) (st.push (.lst ((sortS xs).map .str))) else Q (.val (.lst ((sortS xs).map .str))) st) : wE (gSortedA m [x] st) Q Z := by with_unfolding_all
  have hs : allS (xs.map D.str) = some xs := by
    clear hx hl h
    induction xs with
    | nil => rfl
    | cons s r ih => rw [List.map_cons]; unfold allS; rw [ih]; rfl
  unfold gSortedA
  simp only [hx, Option.bind_some, hs]
  rw [if_pos hl]
  unfold okL
  rw [if_pos (by rw [List.length_map, sortS_len]; have : (cap : Nat) = 1000000 := rfl; omega)]
  cases m <;> exact h
end DM
namespace DM
open PySem PySem.Spec PyProof.Rows L2
variable {X : Cx} {W : WX} {fe : EF} {e tg : Expr}
theorem it_lsk {K : PySem.W.Frag} {a : Addr} {ds : List D} : IterOk K [] [(.ref a, .val (.lsk ds))] ds (Itl K a) where
  goes := fun F σ env ts st H i _ m S hi => by
    obtain ⟨P, a', vs, ea, la, _, q⟩ := S.at (m _ (List.mem_cons_self ..))
    cases ea
    obtain ⟨v, h1, _⟩ := q.get (List.getElem?_eq_getElem hi)
    exact ⟨vs, v, .inr la, h1⟩
  stops := fun F σ env ts st H _ m S => by
    obtain ⟨P, a', vs, ea, la, _, q⟩ := S.at (m _ (List.mem_cons_self ..))
    cases ea
    exact ⟨vs, .inr la, Nat.le_of_eq q.length⟩
  yields := fun F σ env ts st H H' i x d _ m S e y => by
    obtain ⟨rfl, y⟩ := y
    obtain ⟨ι, O⟩ := S
    obtain ⟨a', vs, ea, la, _, q⟩ := O.tmp _ (m _ (List.mem_cons_self ..))
    cases ea
    obtain ⟨v, h1, h2⟩ := q.get e
    rw [y vs (.inr la)] at h1
    cases h1
    exact ⟨⟨ι, O.push h2⟩, Same.refl _⟩
/-- a script's items: made here, or the world's -/
def seqL : RV → Stx → Rs (List D) := fun r st1 => match r with
  | .val (.lst ds) => .ok ds st1
  | .val (.lsk ds) => .ok ds st1
  | _ => .no
def iSeqL (fe : EF) : ItF := fun env st => (fe env st).bind seqL
theorem di_seqL (he : PE X e (tE X.K W fe)) : PI X tg e (tI X.K W (iSeqL fe)) :=
  pi_up (pi_list he) fun σ H R ⟨F, env, ts, st, S, h⟩ => by
    have h' := Post.bind (k := seqL) h
    cases q : fe env st with
    | no => rw [q] at h'; exact h'.elim
    | er ex st1 =>
      rw [q] at h'
      exact ⟨F, env, ts, st, S, by rw [q]; exact h'⟩
    | ok r st1 =>
      rw [q] at h'
      cases r with
      | ptr n => exact h'.elim
      | val d =>
        cases d with
        | lst ds =>
          refine ⟨F, env, ts, st, S, ?_⟩
          rw [q]
          intro v H1 S1
          obtain ⟨P, a, vs, rfl, la, _, qq⟩ := S1.at (List.mem_cons_self ..)
          exact ⟨a, rfl, ⟨vs, la.sq⟩, h' _ [(.ref a, .val (.lst ds))] H1 S1 it_list⟩
        | lsk ds =>
          refine ⟨F, env, ts, st, S, ?_⟩
          rw [q]
          intro v H1 S1
          obtain ⟨P, a, vs, rfl, la, _, qq⟩ := S1.at (List.mem_cons_self ..)
          exact ⟨a, rfl, ⟨vs, .inr la⟩, h' _ [(.ref a, .val (.lsk ds))] H1 S1 it_lsk⟩
        | _ => exact h'.elim
theorem w_iSeqL {env : Env} {st : Stx} {QI : List D → Stx → Prop} {X : XR} (q : wE (fe env st) (fun r s => ∃ ds, seqL r s = .ok ds s ∧ QI ds s) X) : wE (iSeqL fe env st) QI X := by
  unfold iSeqL
  rw [wE_bind]
  refine wE_imp q (fun r s h => ?_) fun _ _ h => h
  obtain ⟨ds, h1, h2⟩ := h
  rw [h1]
  with_unfolding_all exact h2
theorem w_seqL {ds : List D} {d : D} {st : Stx} {W : List D → Prop} (h : d = .lst ds ∨ d = .lsk ds) (q : W ds) : ∃ es, seqL (.val d) st = .ok es st ∧ W es := by
  rcases h with rfl | rfl
  · exact ⟨ds, rfl, q⟩
  · exact ⟨ds, rfl, q⟩
theorem l_insert {n i : Nat} {ds : List D} {d : D} {st : Stx} {Q : RV → Stx → Prop} {X : XR} (hx : st.at' n = some (.lst ds)) (hl : ds.length < cap) (hi : i ≤ cap) (h : Q (.val .non) (st.set n (.lst (ds.take i ++ [d] ++ ds.drop i)))) : wE (gInsert (.ptr n) [.val (.int (i : Int)), .val d] st) Q X := by with_unfolding_all
  have hcap : (cap : Nat) = 1000000 := rfl
  unfold gInsert
  simp only [hx]
  rw [if_pos ⟨hl, by omega, by omega⟩]
  exact h
/-- while, by a count -/
theorem w_while0 (P : Nat → Env → Stx → Prop) {c : CF} {body : SF} {R : Fl → Env → Stx → Prop} {Z : XS} (N : Nat) (hs : ∀ (j : Nat) (env : Env) (st : Stx), P j env st → wE (c env st) (fun b s => if b = true then j < N ∧ wS (body env s) (turnK (P (j + 1)) R) Z else R .nx env s) (fun e s => Z e env s)) : ∀ (n j : Nat) {env : Env} {st : Stx}, N < n + j → P j env st → j ≤ N → wS (whileM c body n env st) R Z
  | 0, j, env, st, h, _, hj => by omega
  | n + 1, j, env, st, h, hp, hj => by
    have h1 := hs j env st hp
    unfold whileM
    rw [wE_toRt]
    refine wE_imp h1 (fun b s h2 => ?_) fun _ _ h => h
    by_cases hb : b = true
    · rw [if_pos hb] at h2
      rw [if_pos hb]
      obtain ⟨hj2, h2⟩ := h2
      have ih : ∀ e s, P (j + 1) e s → wS (whileM c body n e s) R Z := fun e s h3 => w_while0 P N hs n (j + 1) (by omega) h3 hj2
      cases e : body env s with
      | go fl e2 s2 => rw [e] at h2; cases fl with
        | nx => exact ih e2 s2 (by with_unfolding_all exact h2)
        | ct => exact ih e2 s2 (by with_unfolding_all exact h2)
        | bk => with_unfolding_all exact h2
        | rt r => with_unfolding_all exact h2
      | er x e2 s2 => rw [e] at h2; with_unfolding_all exact h2
      | no => rw [e] at h2; with_unfolding_all exact h2
    · rw [if_neg hb] at h2
      rw [if_neg hb]
      with_unfolding_all exact h2
theorem w_while (P : Nat → Env → Stx → Prop) {c : CF} {body : SF} {R : Fl → Env → Stx → Prop} {Z : XS} {env : Env} {st : Stx} {n : Nat} (N : Nat) (hn : N < n) (h0 : P 0 env st) (hs : ∀ (j : Nat) (env : Env) (st : Stx), P j env st → wE (c env st) (fun b s => if b = true then j < N ∧ wS (body env s) (turnK (P (j + 1)) R) Z else R .nx env s) (fun e s => Z e env s)) : wS (sWhile n c body env st) R Z :=
  w_while0 P N hs n 0 (by omega) h0 (Nat.zero_le _)
end DM
namespace DM
open PySem PySem.Spec PyProof.Rows L2
theorem tup_get {X : Cx} {pins : List (Addr × Obj)} {σ : L2.St} {H : Hp} {s : Shared} {tp : Addr} {cs : List V} (I : Inv X pins σ H s) (h : SqT X.K H tp cs) : ∃ (its : List Value) (od : Option Addr) (n : Nat) (sl : Array (Option Value)), Vals cs its ∧ s.heap.get? tp = some ⟨.type "tuple", od, .seq its.toArray n, sl⟩ := by
  have key : ∀ its : List Value, IsTup s.heap tp its.toArray → ∃ (od : Option Addr) (n : Nat) (sl : Array (Option Value)), s.heap.get? tp = some ⟨.type "tuple", od, .seq its.toArray n, sl⟩ := fun its h => by
    obtain ⟨o, h1, h2, n, h3⟩ := h
    obtain ⟨oc, od, dt, sl⟩ := o
    simp only at h2 h3
    subst h2 h3
    exact ⟨od, n, sl, h1⟩
  rcases h with (h | ⟨o, h⟩) | ⟨o, its, n, h1, h2, h3, _, h4⟩
  · obtain ⟨_, its, rv, t⟩ := (show ObjOk X.prog X.w H s.heap tp (.tup cs) from I.hok tp _ h)
    obtain ⟨od, n, sl, e⟩ := key its t
    exact ⟨its, od, n, sl, rv, e⟩
  · obtain ⟨_, _, its, rv, t⟩ := (show ObjOk X.prog X.w H s.heap tp (.frz o (.tup cs)) from I.hok tp _ h)
    obtain ⟨od, n, sl, e⟩ := key its t
    exact ⟨its, od, n, sl, rv, e⟩
  · have e := I.kIn _ _ h1
    obtain ⟨oc, od, dt, sl⟩ := o
    simp only at h2 h3
    subst h2 h3
    exact ⟨its.toList, od, n, sl, h4, by rw [e, Array.toArray_toList]⟩
/-- isinstance(x, (c1, c2, ..)), wherever the tuple stands -/
def rIsiU (K : PySem.W.Frag) : List V → Hp → VK → Prop := fun xs H Q => ∃ (x : V) (tp : Addr) (cs : List V) (t : Value) (us : List Value) (b : Bool), xs = [x, .ref tp] ∧ SqT K H tp cs ∧ Paired ClsV cs us ∧ TyX K H x t ∧ PySem.W.kitAny K t us = some b ∧ Q (.bl b) H
theorem call_isiU {X : Cx} : CallR X (.builtin "isinstance") (rIsiU X.K) := by
  intro pins s σ H xs us Q I r h
  obtain ⟨x, tp, cs, t, ws, b, rfl, hT, k, ty, e, q⟩ := h
  obtain ⟨u1, u2, rfl, r1, r2⟩ := vals2 r
  cases (show u2 = Value.ref tp from r2)
  obtain ⟨P, Z, p, hx⟩ := kit_of I r1 ty
  obtain ⟨its, od, n, sl, rv, h1⟩ := tup_get I hT
  have e3 := ClsV.all k rv
  subst e3
  exact PySem.W.kia_tup Z I.kIn p h1 e hx fun tk => ⟨.bl b, H, I.tok tk, rfl, q⟩
/-- the classes of a written tuple, all asked -/
def anyT (f : Tg → Option Bool) : List D → Option Bool
  | [] => some false
  | d :: r => match clsTg (.val d), anyT f r with
    | some u, some b' => match f u with
      | some b => some (b || b')
      | none => none
    | _, _ => none
theorem anyT_ok {K : PySem.W.Frag} {P : Addr → Prop} {H : Hp} {t : Value} {f : Tg → Option Bool} (hf : ∀ u b, f u = some b → PySem.W.kitOne K t u.v = some b) : ∀ {ds : List D} {vs : List V} {b : Bool}, Vls K P H ds vs → anyT f ds = some b → ∃ us, Paired ClsV vs us ∧ PySem.W.kitAny K t us = some b
  | [], vs, b, h, e => by
    rw [show vs = [] from h]
    cases e
    exact ⟨[], .nil, rfl⟩
  | d :: ds, vs, b, h, e => by
    obtain ⟨v, r, rfl, h1, h2⟩ := h
    unfold anyT at e
    split at e
    · rename_i u b' e1 e2
      split at e
      · rename_i b1 e3
        cases e
        obtain ⟨us, p1, p2⟩ := anyT_ok hf h2 e2
        refine ⟨u.v :: us, .cons (clsv' (P := P) (H := H) (ι := fun _ => 0) (n := 0) (r := .val d) h1 e1) p1, ?_⟩
        unfold PySem.W.kitAny
        rw [hf u b1 e3]
        cases b1 with
        | true => rfl
        | false => exact p2
      · cases e
    · cases e
def gIsiM (tab : List (Tg × Tg × Bool)) (rs : List RV) (st : Stx) : Rs RV := match rs with
  | [x, .val (.tup (d0 :: ds))] => match st.tg x with
    | some t => match anyT (isiT tab t) (d0 :: ds) with
      | some b => .ok (.val (.bl b)) st
      | none => .no
    | none => .no
  | _ => .no
theorem anyT_mem {f : Tg → Option Bool} : ∀ {ds : List D} {b : Bool}, anyT f ds = some b → ds ≠ [] → ∃ u b', f u = some b'
  | [], _, _, h => (h rfl).elim
  | d :: ds, b, e, _ => by
    unfold anyT at e
    split at e
    · rename_i u b' e1 e2
      split at e
      · rename_i b1 e3
        exact ⟨u, b1, e3⟩
      · cases e
    · cases e
theorem sem_isiM {K : PySem.W.Frag} {W : WX} {tab : List (Tg × Tg × Bool)} (T : IsiOk K tab) : SemB K W (rIsiU K) (gIsiM tab) := fun F ι σ env ts ts0 st H vs rs Q hl O h => by
  unfold gIsiM at h
  split at h
  · rename_i x d0 ds
    obtain ⟨v, w, rfl⟩ := zip2 hl
    split at h
    · rename_i t e1
      split at h
      · rename_i b e3
        obtain ⟨a, ws, rfl, la, _, q⟩ := O.tmp (w, .val (.tup (d0 :: ds))) (List.mem_cons_of_mem _ (List.mem_cons_self ..))
        obtain ⟨u0, b0, e0⟩ := anyT_mem e3 (fun z => nomatch z)
        have hc : ∀ C, t = .c C → ClsT K C := fun C e => by subst e; exact T.cls C u0 b0 (isiT_mem e0)
        obtain ⟨us, p1, p2⟩ := anyT_ok (K := K) (t := t.v) (fun u b e => T.ok _ (isiT_mem e)) q e3
        exact ⟨v, a, ws, t.v, us, b, rfl, la.sq, p1, O.tyx (O.tmp (v, x) (List.mem_cons_self ..)) e1 hc, p2, Post.fl (d := .bl b) O rfl inApp h⟩
      · exact h.elim
    · exact h.elim
  · exact h.elim
def rIsET (K : PySem.W.Frag) (D a : Addr) : List V → Hp → VK → Prop := fun xs H Q => ∃ (tp : Addr) (cs : List V) (us : List Value) (b : Bool), xs = [.ref a, .ref tp] ∧ SqT K H tp cs ∧ Paired ClsV cs us ∧ PySem.W.kitAny K (.ref D) us = some b ∧ Q (.bl b) H
theorem call_isET {X : Cx} {a D : Addr} {oe : Obj} {pn : List (Addr × Obj)} (C : ExcC X.K D) (hz : Zc (.ref D) none oe) (hf : ∃ vs, oe.data = .fields vs) : CallR (X.suite a ((a, oe) :: pn)) (.builtin "isinstance") (rIsET X.K D a) := by
  intro pins s σ H xs us Q I r h
  obtain ⟨tp, cs, ws, b, rfl, hT, k, e, q⟩ := h
  obtain ⟨u1, u2, rfl, r1, r2⟩ := vals2 r
  cases (show u2 = Value.ref tp from r2)
  cases (show u1 = Value.ref a from r1)
  obtain ⟨its, od, n, sl, rv, h1⟩ := tup_get I hT
  have e3 := ClsV.all k rv
  subst e3
  obtain ⟨hget, _⟩ := I.pin (a, oe) (List.mem_append.mpr (.inl List.mem_cons_self))
  obtain ⟨vs, hv⟩ := hf
  have J : PySem.W.InstAt s.heap a oe D none := by
    obtain ⟨oc, od, oda, osl⟩ := oe
    obtain ⟨h1, h2⟩ := hz
    dsimp only at h1 h2 hv
    subst h1 h2 hv
    exact ⟨hget, rfl, rfl, trivial⟩
  exact PySem.W.kia_tup (PySem.W.handS_kitx_exc C.hg C.hk C.hs C.hd C.ha C.hn C.ht C.hm) I.kIn J h1 e (fun z => nomatch z) fun tk => ⟨.bl b, H, I.kept (t' := tk) fun _ _ z => z, rfl, q⟩
/-- a class asked of the exception held at a -/
def gIsE (a : Addr) (u : Tg) (b : Bool) (rs : List RV) (st : Stx) : Rs RV := match rs with
  | [.val (.glb a'), c] => if a' = a ∧ clsTg c = some u then .ok (.val (.bl b)) st else .no
  | _ => .no
def clsL : List D → Option (List Tg)
  | [] => some []
  | d :: r => match clsTg (.val d), clsL r with
    | some u, some us => some (u :: us)
    | _, _ => none
def gIsEM (a : Addr) (us : List (Tg × Bool)) (rs : List RV) (st : Stx) : Rs RV := match rs with
  | [.val (.glb a'), .val (.tup ds)] => if a' = a ∧ clsL ds = some (us.map (·.1)) then .ok (.val (.bl (us.any (·.2)))) st else .no
  | _ => .no
theorem clsL_ok {K : PySem.W.Frag} {P : Addr → Prop} {H : Hp} : ∀ {ds : List D} {vs : List V} {us : List Tg}, Vls K P H ds vs → clsL ds = some us → Paired ClsV vs (us.map Tg.v)
  | [], vs, us, h, e => by
    rw [show vs = [] from h]
    cases e
    exact .nil
  | d :: ds, vs, us, h, e => by
    obtain ⟨v, r, rfl, h1, h2⟩ := h
    unfold clsL at e
    split at e
    · rename_i u us' e1 e2
      cases e
      exact .cons (clsv' (P := P) (H := H) (ι := fun _ => 0) (n := 0) (r := .val d) h1 e1) (clsL_ok h2 e2)
    · cases e
theorem any_is {K : PySem.W.Frag} {t : Value} : ∀ {us : List (Tg × Bool)}, (∀ p ∈ us, PySem.W.kitOne K t p.1.v = some p.2) → PySem.W.kitAny K t ((us.map (·.1)).map Tg.v) = some (us.any (·.2))
  | [], _ => rfl
  | (u, b) :: us, h => by
    rw [List.map_cons, List.map_cons, List.any_cons]
    unfold PySem.W.kitAny
    rw [h (u, b) (List.mem_cons_self ..)]
    cases b with
    | true => rfl
    | false => exact any_is fun p m => h p (List.mem_cons_of_mem _ m)
theorem ke_cons {K : PySem.W.Frag} {t : Value} {u : Tg} {b : Bool} {us : List (Tg × Bool)} (h : PySem.W.kitOne K t u.v = some b) (r : ∀ p ∈ us, PySem.W.kitOne K t p.1.v = some p.2) : ∀ p ∈ (u, b) :: us, PySem.W.kitOne K t p.1.v = some p.2 := fun p m => by
  rcases List.mem_cons.mp m with rfl | m
  · exact h
  · exact r p m
theorem sem_isE {K : PySem.W.Frag} {W : WX} {a D : Addr} {u : Tg} {b : Bool} (T : PySem.W.kitOne K (.ref D) u.v = some b) : SemB K W (rIsE K D a) (gIsE a u b) := fun F ι σ env ts ts0 st H vs rs Q hl O h => by
  unfold gIsE at h
  split at h
  · rename_i a' c
    obtain ⟨v, w, rfl⟩ := zip2 hl
    split at h
    · rename_i ea
      obtain ⟨rfl, e2⟩ := ea
      have k := clsv' (O.tmp (w, c) (List.mem_cons_of_mem _ (List.mem_cons_self ..))) e2
      cases (show v = V.ref a' from O.tmp (v, .val (.glb a')) (List.mem_cons_self ..))
      exact ⟨w, u.v, b, rfl, fun _ r => k.eq r, T, Post.fl (d := .bl b) O rfl inApp h⟩
    · exact h.elim
  · exact h.elim
theorem sem_isEM {K : PySem.W.Frag} {W : WX} {a D : Addr} {us : List (Tg × Bool)} (T : ∀ p ∈ us, PySem.W.kitOne K (.ref D) p.1.v = some p.2) : SemB K W (rIsET K D a) (gIsEM a us) := fun F ι σ env ts ts0 st H vs rs Q hl O h => by
  unfold gIsEM at h
  split at h
  · rename_i a' ds
    obtain ⟨v, w, rfl⟩ := zip2 hl
    split at h
    · rename_i ea
      obtain ⟨rfl, e2⟩ := ea
      cases (show v = V.ref a' from O.tmp (v, .val (.glb a')) (List.mem_cons_self ..))
      obtain ⟨tp, ws, rfl, la, _, q⟩ := O.tmp (w, .val (.tup ds)) (List.mem_cons_of_mem _ (List.mem_cons_self ..))
      exact ⟨tp, ws, _, _, rfl, la.sq, clsL_ok q e2, any_is T, Post.fl (d := .bl _) O rfl inApp h⟩
    · exact h.elim
  · exact h.elim
/-- try: .. except T as e: x = (what isinstance says of e) -/
def sTryAs (i j : Nat) (tst res : Ex → Option Bool) (gb : SF) : SF := fun env st => match gb env st with
  | .er e env' st' => match tst e with
    | some true => match res e with
      | some b => if i < env'.length then .go .nx ((env'.set j (some (.val (.bl b)))).set i none) st' else .no
      | none => .no
    | some false => .er e env' st'
    | none => .no
  | x => x
/-- by the exception's class; one without fields -/
def resA (tab : List (Addr × Bool)) (e : Ex) : Option Bool := match e with
  | ⟨.ref a, []⟩ => lookA tab a
  | _ => none
section
variable {X : Cx} {W : WX} {C : Addr} {x n m : Str} {i j : Nat} {p p2 np pos pos' : Pos} {body suite : List Stmt} {b₀ : Stmt} {gb gs : SF} {tab rtab : List (Addr × Bool)}
theorem ds_tryAs (hs : X.stack = X.env :: X.outer) (hf : X.env.frame = some X.env.locals) (hN : X.N.Nodup) (hi : X.N[i]? = some n) (hln : X.env.kindOf n = some .local) (hc : Names X x (.ref C)) (tk : Takes X W) (hx : XmOk X.K C tab)
    (hb : ∀ (W : WX) (pn : List (Addr × Obj)) (xe : Value → Shared → Prop), Takes (X.tr pn xe) W → PassesOwn (model X.prog X.w) X.A X.env xe → PSs (X.tr pn xe) body (tS X.K W gb)) (hij : i ≠ j)
    (hsu : ∀ (a : Addr) (oe : Obj) (D : Addr) (b : Bool) (pn : List (Addr × Obj)), Zc (.ref D) none oe → (∃ vs, oe.data = .fields vs) → (D, b) ∈ rtab → ∃ G : SF, PSs (X.suite a ((a, oe) :: pn)) (b₀ :: suite) (tS X.K W0 G) ∧ ∀ env st, env[i]? = some (some (.val (.glb a))) → G env st = .go .nx (env.set j (some (.val (.bl b)))) st) :
    PS X (.Try body [.ExceptHandler (some (.Name x np)) (some n) (b₀ :: suite) pos'] [] [] pos) (tS X.K W (sTryAs i j (tstA tab) (resA rtab) gb)) :=
  ps_up (ps_try_as (ts := fun a cls d Dn σ H => ∃ (D0 : Addr) (b : Bool) (F : Frm) (env : Env) (ts : List (V × RV)) (st : Stx), cls = .ref D0 ∧ d = none ∧ (D0, b) ∈ rtab ∧ StOk X.K F σ env ts st H ∧ env[i]? = some (some (.val (.glb a))) ∧ ∀ σ' H', StOk X.K F σ' (env.set j (some (.val (.bl b)))) ts st H' → Dn.nx σ' H') hs hf hN hi hln hc tk hb (fun a oe cls d pn hz hfd => ⟨fun pins s σ H Dn I h => by
    obtain ⟨D0, b, F, env, ts, st, rfl, rfl, hr, S, he, h⟩ := h
    obtain ⟨G, p, g⟩ := hsu a oe D0 b pn hz hfd hr
    exact p.run pins s σ H Dn I ⟨F, env, ts, st, S, by rw [g env st he]; exact h⟩⟩)) fun D σ H ⟨F, env, ts, st, S, h⟩ => by
    refine ⟨F, env, ts, st, S, ?_⟩
    unfold sTryAs at h
    cases e : gb env st with
    | go fl env' st' => rw [e] at h; cases fl <;> exact h
    | no => rw [e] at h; exact h
    | er x' env' st' =>
      rw [e] at h
      dsimp only at h
      intro cls d σ' H' hx'
      obtain ⟨hcls, vs, hl, S', hd⟩ := hx'
      cases ht : tstA tab x' with
      | none => rw [ht] at h; exact h.elim
      | some b =>
        rw [ht] at h
        unfold tstA at ht
        split at ht
        · rename_i a ha
          have hm := hx _ (lookA_mem ht)
          refine ⟨b, by rw [hcls, ha]; exact hm, fun hb1 a' na => ?_, fun hb1 => ?_⟩
          · subst hb1
            dsimp only at h
            cases hr : resA rtab x' with
            | none => rw [hr] at h; exact h.elim
            | some b' =>
              rw [hr] at h
              dsimp only at h
              by_cases hlen : i < env'.length
              · rw [if_pos hlen] at h
                unfold resA at hr
                split at hr
                · rename_i D0
                  have hd0 : d = none := by
                    rcases hd with ⟨_, hd⟩ | ⟨hne, _⟩
                    · exact hd
                    · exact (hne rfl).elim
                  subst hd0
                  obtain ⟨ι, O⟩ := S'
                  have O1 : Ok X.K F ι σ' env' ((V.ref a', .val (.glb a')) :: ts) st' H' := ⟨O.len, O.slot, fun t m => by
                    rcases List.mem_cons.mp m with rfl | m
                    · exact (rfl : V.ref a' = V.ref a')
                    · exact O.tmp t (List.mem_append_right _ m), O.node, O.inj, O.hi, O.nx, O.ag, O.old, O.new, O.there, O.frame, O.lock, O.xs, O.xn⟩
                  refine ⟨D0, b', F, env'.set i (some (.val (.glb a'))), ts, st', hcls, rfl, lookA_mem hr, ⟨ι, O1.set i⟩, by rw [List.getElem?_set_self hlen], fun σ2 H2 S2 => ?_⟩
                  refine h _ _ ?_
                  obtain ⟨ι2, O2⟩ := S2
                  refine ⟨ι2, O2.unset (by rw [List.length_set, O2.len]; simp only [List.length_set]) fun k r e => ?_⟩
                  by_cases hk : k = i
                  · subst hk
                    rw [List.getElem?_set_self (by rw [List.length_set]; exact hlen)] at e
                    cases e
                  · rw [List.getElem?_set_ne (Ne.symm hk)] at e
                    refine ⟨?_, List.getElem?_set_ne (Ne.symm hk)⟩
                    by_cases hkj : k = j
                    · subst hkj
                      by_cases hl : k < env'.length
                      · rw [List.getElem?_set_self hl] at e
                        rw [List.getElem?_set_self (by rw [List.length_set]; exact hl)]
                        exact e
                      · rw [List.getElem?_eq_none (by rw [List.length_set]; omega)] at e; cases e
                    · rw [List.getElem?_set_ne (Ne.symm hkj)] at e
                      rw [List.getElem?_set_ne (Ne.symm hkj), List.getElem?_set_ne (Ne.symm hk)]
                      exact e
                · cases hr
              · rw [if_neg hlen] at h; exact h.elim
          · subst hb1
            exact h cls d σ' H' ⟨hcls, vs, hl, S', hd⟩
        · cases ht
/-- what is due behind it -/
theorem w_tryAs {env : Env} {st : Stx} {tst res : Ex → Option Bool} {R : Fl → Env → Stx → Prop} {Z : XS} (q : wS (gb env st) R (fun e env' st' => ∃ b, tst e = some b ∧ (b = true → ∃ b', res e = some b' ∧ i < env'.length ∧ R .nx ((env'.set j (some (.val (.bl b')))).set i none) st') ∧ (b = false → Z e env' st'))) : wS (sTryAs i j tst res gb env st) R Z := by
  unfold sTryAs
  cases e : gb env st with
  | go fl env' st' => rw [e] at q; with_unfolding_all exact q
  | no => rw [e] at q; with_unfolding_all exact q
  | er x' env' st' =>
    rw [e] at q
    unfold wS at q
    obtain ⟨b, h1, h2, h3⟩ := q
    simp only [h1]
    cases b with
    | true =>
      obtain ⟨b', h4, h5, h6⟩ := h2 rfl
      simp only [h4, if_pos h5]
      with_unfolding_all exact h6
    | false => with_unfolding_all exact h3 rfl
end
section
variable {env : Env} {st : Stx} {i j : Nat} {a : Addr} {u : Tg} {b b' : Bool} {c : D} {fa fb : EF} {ff : AF} {us : List (Tg × Bool)} {ds : List D}
theorem ev_isE (he : env[i]? = some (some (.val (.glb a)))) (hc : clsTg (.val c) = some u) : eB (gIsE a u b) (aCons (eVar i) (aCons (eC c) aNil)) env st = .ok (.val (.bl b)) st := by
  simp only [eB, aCons, eVar, eC, aNil, he, Rs.bind, gIsE]
  rw [if_pos ⟨trivial, hc⟩]
theorem ev_isEM (he : env[i]? = some (some (.val (.glb a)))) (hf : ff env st = .ok (ds.map .val) st) (hl : ds.length ≤ 100) (hc : clsL ds = some (us.map (·.1))) : eB (gIsEM a us) (aCons (eVar i) (aCons (eTup ff) aNil)) env st = .ok (.val (.bl (us.any (·.2)))) st := by
  have hcap : (cap : Nat) = 1000000 := rfl
  have hv : ∀ ds : List D, allV (ds.map RV.val) = some ds := fun ds => by
    induction ds with
    | nil => rfl
    | cons d r ih => rw [List.map_cons]; unfold allV; rw [ih]; rfl
  simp only [eB, aCons, eVar, eTup, aNil, he, hf, Rs.bind, hv]
  rw [if_pos (by omega)]
  simp only [Rs.bind, gIsEM]
  rw [if_pos ⟨trivial, hc⟩]
theorem ev_c {rs : List RV} (h : ff env st = .ok rs st) : aCons (eC c) ff env st = .ok (.val c :: rs) st := by simp only [aCons, eC, Rs.bind, h]
theorem ev_nil : aNil env st = .ok [] st := rfl
theorem ev_and (h1 : fa env st = .ok (.val (.bl b)) st) (h2 : fb env st = .ok (.val (.bl b')) st) : eAnd fa fb env st = .ok (.val (.bl (b && b'))) st := by
  simp only [eAnd, h1, Rs.bind]
  cases b with
  | true => simp only [if_true]; rw [h2]; rfl
  | false => rfl
theorem ev_or (h1 : fa env st = .ok (.val (.bl b)) st) (h2 : fb env st = .ok (.val (.bl b')) st) : eOr fa fb env st = .ok (.val (.bl (b || b'))) st := by
  simp only [eOr, h1, Rs.bind]
  cases b with
  | true => rfl
  | false => rw [if_neg (by decide), h2]; rfl
theorem ev_not (h1 : fa env st = .ok (.val (.bl b)) st) : eNot fa env st = .ok (.val (.bl (!b))) st := by
  simp only [eNot, h1, Rs.bind]
theorem ev_asg (h1 : fa env st = .ok (.val (.bl b)) st) : sAsg fa (fName j) env st = .go .nx (env.set j (some (.val (.bl b)))) st := by
  simp only [sAsg, h1, Rs.toRt, fName]
end
theorem kit_ownB {K : PySem.W.Frag} {t : PySem.Value} {C : PySem.Addr} {b : Bool} (h0 : t ≠ .ref C) (h1 : PySem.W.isClsIn K C = true) (h2 : PySem.W.typeIn K (.ref C) = some (.type "type")) (h3 : PySem.W.subIn K t (.ref C) = some b) : PySem.W.kitOne K t (.ref C) = some b := by
  unfold PySem.W.kitOne
  rw [if_neg (fun e => h0 (eq_of_beq e))]
  unfold PySem.W.kitCls
  unfold PySem.W.isClsIn at h1
  simp only [h1, h2, beq_self_eq_true, Bool.and_self, if_true, h3]
theorem kit_tyE {K : PySem.W.Frag} {D : PySem.Addr} {T : String} {b : Bool} (hm : PySem.W.kitMeta T = true) (h : PySem.W.subIn K (.ref D) (.type T) = some b) : PySem.W.kitOne K (.ref D) (.type T) = some b := by
  unfold PySem.W.kitOne
  rw [if_neg (show ¬ (Value.ref D == Value.type T) = true from fun e => by cases (eq_of_beq e))]
  unfold PySem.W.kitCls
  simp only [hm, if_true, h]
end DM
namespace DM
open PySem PySem.Spec PyProof.Rows L2
/-- a wish of an exception, the lock of d gone -/
def WL (d : Addr) (u : HO) (W : WX) : WX := fun cls dd σ H => (∃ od, H d = some (.frz od u)) ∧ W cls dd σ (upd H d u)
theorem takes_lock {X : Cx} {W : WX} {d : Addr} {u : HO} (tk : Takes X W) (hn : ∀ o' u', X.H_0 d ≠ some (.frz o' u')) : Takes X (WL d u W) := fun v s' ⟨a, B, sI, pins, σ, H, cls, dd, e, I, nb, up, sky, na, os, ag, ⟨od, w1⟩, w2⟩ =>
  tk v s' ⟨a, B, sI, pins, σ, upd H d u, cls, dd, e, I.unlock w1 hn, nb, up, sky, by
    rw [upd_ne (fun z => by rw [z, w1] at na; cases na)]; exact na, os, ag, w2⟩
section
variable {K : PySem.W.Frag} {W W' : WX} {F : Frm} {ι ι' : Nat → Addr} {σ σ' : L2.St} {env env' : Env} {ts ts' : List (V × RV)} {st st' : Stx} {H H' : Hp} {a : Addr} {od : Obj} {kvs : List (Key × V)}
theorem RtPost.unlockX {x : Rt} {D : Ends} (O : Ok K F ι σ env ts st H) (hn : ¬Pf F ι st a) (ha : H a = some (.dK kvs)) (h : RtPost K W F ts x D) :
    RtPost K (WL a (.dK kvs) W) ((F.lkd a od kvs).callee st ι (upd H a (.frz od (.dK kvs)))) ts x ⟨fun σ' H' => H' a = some (.frz od (.dK kvs)) ∧ D.nx σ' (upd H' a (.dK kvs)), fun v H' => H' a = some (.frz od (.dK kvs)) ∧ D.rt v (upd H' a (.dK kvs)), fun σ' H' => H' a = some (.frz od (.dK kvs)) ∧ D.bk σ' (upd H' a (.dK kvs)), fun σ' H' => H' a = some (.frz od (.dK kvs)) ∧ D.ct σ' (upd H' a (.dK kvs))⟩ := by
  cases x with
  | go fl env2 st2 =>
    cases fl with
    | nx => exact fun σ' H' S => let ⟨h1, h2⟩ := unlock_ok O hn ha S; ⟨h1, h σ' _ h2⟩
    | rt r => exact fun v σ' H' S => let ⟨h1, h2⟩ := unlock_ok O hn ha S; ⟨h1, h v σ' _ h2⟩
    | bk => exact fun σ' H' S => let ⟨h1, h2⟩ := unlock_ok O hn ha S; ⟨h1, h σ' _ h2⟩
    | ct => exact fun σ' H' S => let ⟨h1, h2⟩ := unlock_ok O hn ha S; ⟨h1, h σ' _ h2⟩
  | er e env2 st2 =>
    intro cls d σ' H' ⟨hcls, vs, hl, S', hd⟩
    obtain ⟨h1, h2⟩ := unlock_ok O hn ha S'
    refine ⟨⟨od, h1⟩, h cls d σ' _ ⟨hcls, vs, hl, h2, hd.imp (fun z => z) fun ⟨hne, dx, e1, e2⟩ => ⟨hne, dx, e1, ?_⟩⟩⟩
    rw [upd_ne (fun z => by rw [z, h1] at e2; cases e2)]
    exact e2
  | no => exact h.elim
theorem RtPost.subX {x : Rt} {D : Ends} (O : Ok K F ι σ env ts st H) (h : RtPost K W F ts x D) : RtPost K W (F.callee st ι H) ts x D := by
  have jn : ∀ {σ' env' ts' st' H'}, StOk K (F.callee st ι H) σ' env' ts' st' H' → StOk K F σ' env' ts' st' H' := fun ⟨ι', O'⟩ => ⟨ι', O.join O'⟩
  cases x with
  | go fl env2 st2 =>
    cases fl with
    | nx => exact fun σ' H' S => h σ' _ (jn S)
    | rt r => exact fun v σ' H' S => h v σ' _ (jn S)
    | bk => exact fun σ' H' S => h σ' _ (jn S)
    | ct => exact fun σ' H' S => h σ' _ (jn S)
  | er e env2 st2 => exact fun cls d σ' H' ⟨hcls, vs, hl, S', hd⟩ => h cls d σ' H' ⟨hcls, vs, hl, jn S', hd⟩
  | no => exact h.elim
end
section
variable {X : Cx} {W : WX} {pos : Pos} {tg e c iter elt : Expr} {f : GF} {vs : List Nat} {body : List Stmt} {g : SF} {pm : Env → Stx → Option RV} {items : List Key → List D → List D} {te : TE} {wi : TI} {mk : Addr → Obj → List (Key × V) → It}
/-- for over a dict that is data, where the body may raise -/
def sForDX (pm : Env → Stx → Option RV) (items : List Key → List D → List D) (f : GF) (body : SF) : SF := fun env st => match pm env st with
  | some (.val (.dct ks ds)) => loopM f body (items ks ds) env st
  | _ => .no
theorem ds_forDX (hp : PassesOwn (model X.prog X.w) X.A X.env X.xe) (hc : X.calm = true) (hi : PI X tg iter wi) (P : Prd X.K te pm) (hw : WalkD X.K te wi mk items) (hg : PG X tg (tG X.K f vs)) (tk : Takes X W) (hb : ∀ W, Takes X W → PSs X body (tS X.K W g)) (hs : ∀ x, foldedSetIterable iter X.env x = pure x := by intro _; rfl) :
    PS X (.For tg iter body [] pos) (tS X.K W (sForDX pm items f g)) := by
  refine ⟨fun pins s σ H D I ⟨F, env, ts, st, S, h⟩ => ?_⟩
  unfold sForDX at h
  cases q : pm env st with
  | none => rw [q] at h; exact h.elim
  | some r =>
    rw [q] at h
    cases r with
    | ptr n => exact h.elim
    | val d =>
      cases d with
      | dct ks ds =>
        simp only at h
        obtain ⟨v, ⟨ι, O⟩, h1, h2⟩ := P.ev F σ env ts st H _ S q
        obtain ⟨a, kvs, rfl, ⟨nP, la⟩, e2, n, l, qv⟩ := O.tmp _ (List.mem_cons_self ..)
        rcases la with ha | ⟨od, ha⟩
        · have tk' := takes_lock (u := .dK kvs) tk (I.nofrz ha trivial)
          have base := ps_for hp hc hi hg (hb _ tk') hs (pos := pos)
          refine (ps_lock base).run pins s σ H D I ⟨a, .dK kvs, ha, trivial, fun od => ?_⟩
          have O1 : Ok X.K (F.lkd a od kvs) ι σ env _ st (upd H a (.frz od (.dK kvs))) := O.lck nP ha
          refine hw.rd σ _ _ a od kvs (fun Q q => h2 a od kvs ha Q q) upd_same ?_
          refine for_run (F := (F.lkd a od kvs).callee st ι (upd H a (.frz od (.dK kvs)))) (Lk := [(a, od, .dK kvs)]) (t1 := [(.ref a, .val (.dct ks ds))]) (ts := ts) (lk_of (List.mem_append_right _ (List.mem_append_left _ (List.mem_cons_self ..)))) ⟨ι, O1.sub⟩ (hw.it a od kvs ks ds) ?_
          exact RtPost.unlockX (O.tmps (ts' := ts) fun t m => List.mem_cons_of_mem _ m) nP ha h
        · have base := ps_for hp hc hi hg (hb _ tk) hs (pos := pos)
          refine base.run pins s σ H D I (hw.rd σ H _ a od kvs h1 ha ?_)
          refine for_run (F := F.callee st ι H) (Lk := [(a, od, .dK kvs)]) (t1 := [(.ref a, .val (.dct ks ds))]) (ts := ts) (lk_frame ha fun q => nP (O.p0 a q |> .inl)) ⟨ι, O.sub⟩ (hw.it a od kvs ks ds) ?_
          exact RtPost.subX (O.tmps (ts' := ts) fun t m => List.mem_cons_of_mem _ m) h
      | _ => exact h.elim
theorem w_forDX {env : Env} {st : Stx} {ks : List Key} {ds : List D} {R : Fl → Env → Stx → Prop} {Z : XS} (h : pm env st = some (.val (.dct ks ds))) (q : wS (loopM f g (items ks ds) env st) R Z) : wS (sForDX pm items f g env st) R Z := by
  unfold sForDX
  simp only [h]
  exact q
end
theorem pfld_ob {pm : Env → Stx → Option RV} {env : Env} {st : Stx} {C : Addr} {f : Str} {ns : List Str} {rs : List RV} {r0 r : RV} (h : pm env st = some r0) (ho : st.ob r0 = some (C, ns, rs)) (hg : getF f ns rs = some r) : pFld pm C f env st = some r := by
  unfold pFld
  rw [h]
  show (st.ob r0).bind _ = _
  rw [ho]
  exact (if_pos rfl).trans hg
end DM
namespace G
open PySem PySem.Spec PyProof.Rows L2 DM
def topS (i : Nat) : Stmt := PySem.Challenge.pw_sceneskips_k09_common_notes.main.body.getD i (.Pass ⟨0, 0, 0, 0⟩)
abbrev s__law_pool : Stmt := topS 26
theorem sc__law_pool : FnScope ["cell", "seed", "one", "two", "three", "four"] ["cell"] (defScope s__law_pool) := ⟨rfl, rfl, rfl, by decide +kernel, rfl, by decide +kernel, by decide +kernel⟩
abbrev s__law_draw : Stmt := topS 27
theorem sc__law_draw : FnScope ["pool", "many", "drawn"] ["pool", "many"] (defScope s__law_draw) := ⟨rfl, rfl, rfl, by decide +kernel, rfl, by decide +kernel, by decide +kernel⟩
abbrev s__law_far : Stmt := topS 30
theorem sc__law_far : FnScope ["pool"] ["pool"] (defScope s__law_far) := ⟨rfl, rfl, rfl, by decide +kernel, rfl, by decide +kernel, by decide +kernel⟩
abbrev s__law_names : Stmt := topS 28
theorem sc__law_names : FnScope ["pool", "many", "names", "k", "way", "size", "name", "j"] ["pool", "many"] (defScope s__law_names) := ⟨rfl, rfl, rfl, by decide +kernel, rfl, by decide +kernel, by decide +kernel⟩
abbrev s__law_limits : Stmt := topS 31
theorem sc__law_limits : FnScope ["pool", "names", "far", "limits", "name", "way", "low", "wide"] ["pool", "names", "far"] (defScope s__law_limits) := ⟨rfl, rfl, rfl, by decide +kernel, rfl, by decide +kernel, by decide +kernel⟩
abbrev s__law_behind : Stmt := topS 36
theorem sc__law_behind : FnScope ["pool", "one", "two", "turned", "name", "way", "low", "high"] ["pool", "one", "two"] (defScope s__law_behind) := ⟨rfl, rfl, rfl, by decide +kernel, rfl, by decide +kernel, by decide +kernel⟩
abbrev s_Pattern___init__ : Stmt := inClass (topS 24) 0
theorem sc_Pattern___init__ : FnScope ["self", "limits", "given", "name"] ["self", "limits"] (defScope s_Pattern___init__) := ⟨rfl, rfl, rfl, by decide +kernel, rfl, by decide +kernel, by decide +kernel⟩
abbrev s__law_common : Stmt := topS 32
theorem sc__law_common : FnScope ["one", "two", "low", "high"] ["one", "two"] (defScope s__law_common) := ⟨rfl, rfl, rfl, by decide +kernel, rfl, by decide +kernel, by decide +kernel⟩
abbrev s__law_both : Stmt := topS 37
theorem sc__law_both : FnScope ["one", "two", "both", "name", "limits"] ["one", "two"] (defScope s__law_both) := ⟨rfl, rfl, rfl, by decide +kernel, rfl, by decide +kernel, by decide +kernel⟩
abbrev s__higher : Stmt := topS 13
theorem sc__higher : FnScope ["one", "other"] ["one", "other"] (defScope s__higher) := ⟨rfl, rfl, rfl, by decide +kernel, rfl, by decide +kernel, by decide +kernel⟩
abbrev s__lower : Stmt := topS 14
theorem sc__lower : FnScope ["one", "other"] ["one", "other"] (defScope s__lower) := ⟨rfl, rfl, rfl, by decide +kernel, rfl, by decide +kernel, by decide +kernel⟩
abbrev s_common : Stmt := topS 15
theorem sc_common : FnScope ["one", "other", "low", "high"] ["one", "other"] (defScope s_common) := ⟨rfl, rfl, rfl, by decide +kernel, rfl, by decide +kernel, by decide +kernel⟩
abbrev s_Pattern_limit : Stmt := inClass (topS 24) 2
theorem sc_Pattern_limit : FnScope ["self", "name"] ["self", "name"] (defScope s_Pattern_limit) := ⟨rfl, rfl, rfl, by decide +kernel, rfl, by decide +kernel, by decide +kernel⟩
abbrev s_Pattern___and__ : Stmt := inClass (topS 24) 4
theorem sc_Pattern___and__ : FnScope ["self", "other", "limits", "name", "both"] ["self", "other"] (defScope s_Pattern___and__) := ⟨rfl, rfl, rfl, by decide +kernel, rfl, by decide +kernel, by decide +kernel⟩
abbrev s_in_order : Stmt := topS 3
theorem sc_in_order : FnScope ["names", "name"] ["names"] (defScope s_in_order) := ⟨rfl, rfl, rfl, by decide +kernel, rfl, by decide +kernel, by decide +kernel⟩
abbrev s_Pattern_limits : Stmt := inClass (topS 24) 1
theorem sc_Pattern_limits : FnScope ["self", "name"] ["self"] (defScope s_Pattern_limits) := ⟨rfl, rfl, rfl, by decide +kernel, rfl, by decide +kernel, by decide +kernel⟩
abbrev s__law_told : Stmt := topS 38
theorem sc__law_told : FnScope ["one", "two", "found"] ["one", "two"] (defScope s__law_told) := ⟨rfl, rfl, rfl, by decide +kernel, rfl, by decide +kernel, by decide +kernel⟩
abbrev s__law_kind : Stmt := topS 39
theorem sc__law_kind : FnScope ["one", "two", "right", "found", "e"] ["one", "two"] (defScope s__law_kind) := ⟨rfl, rfl, rfl, by decide +kernel, rfl, by decide +kernel, by decide +kernel⟩
abbrev s__law_is_integer : Stmt := topS 29
theorem sc__law_is_integer : FnScope ["found"] ["found"] (defScope s__law_is_integer) := ⟨rfl, rfl, rfl, by decide +kernel, rfl, by decide +kernel, by decide +kernel⟩
abbrev s__law_is_limit : Stmt := topS 34
theorem sc__law_is_limit : FnScope ["found", "due"] ["found", "due"] (defScope s__law_is_limit) := ⟨rfl, rfl, rfl, by decide +kernel, rfl, by decide +kernel, by decide +kernel⟩
abbrev s__law_same_limits : Stmt := topS 35
theorem sc__law_same_limits : FnScope ["found", "due", "k", "limit"] ["found", "due"] (defScope s__law_same_limits) := ⟨rfl, rfl, rfl, by decide +kernel, rfl, by decide +kernel, by decide +kernel⟩
abbrev s__law_listed : Stmt := topS 33
theorem sc__law_listed : FnScope ["limits", "listed", "name", "limit", "n"] ["limits"] (defScope s__law_listed) := ⟨rfl, rfl, rfl, by decide +kernel, rfl, by decide +kernel, by decide +kernel⟩
abbrev s_Pattern___eq__ : Stmt := inClass (topS 24) 7
theorem sc_Pattern___eq__ : FnScope ["self", "other"] ["self", "other"] (defScope s_Pattern___eq__) := ⟨rfl, rfl, rfl, by decide +kernel, rfl, by decide +kernel, by decide +kernel⟩
abbrev s_law : Stmt := topS 40
theorem sc_law : FnScope ["script", "cell", "pool", "behind", "sizes", "far", "names", "one", "two", "first", "second", "due", "a", "b", "found"] ["script"] (defScope s_law) := ⟨rfl, rfl, rfl, by decide +kernel, rfl, by decide +kernel, by decide +kernel⟩
structure Ad where
  (C_Notes : Addr) (C_Change : Addr) (C_SceneError : Addr) (C_NoCommon : Addr) (C_InvalidScene : Addr) (C_TooMany : Addr) (C_Pattern : Addr) (a_NO_LIMITS : Addr)
abbrev k_NO_LIMITS : D := .tup [.non, .non]
def isiTab (A : Ad) : List (Tg × Tg × Bool) := [(.c A.C_Pattern, .c A.C_Pattern, true), (.c A.C_Pattern, .c A.C_SceneError, false), (.b "int", .b "int", true), (.b "NoneType", .b "int", false), (.b "int", .b "bool", false), (.b "NoneType", .b "bool", false), (.b "list", .b "list", true), (.b "NoneType", .b "list", false), (.b "tuple", .b "tuple", true), (.b "str", .b "str", true)]
def xmTab_NoCommon (A : Ad) : List (Addr × Bool) := [(A.C_NoCommon, true)]
def xmTab_SceneError (A : Ad) : List (Addr × Bool) := [(A.C_NoCommon, true)]
structure Txt (K : PySem.W.Frag) (mg : Str → Option Value) (A : Ad) : Prop where
  z_ValueError : mg "ValueError" = none
  z_bool : mg "bool" = none
  z_dict : mg "dict" = none
  z_int : mg "int" = none
  z_isinstance : mg "isinstance" = none
  z_len : mg "len" = none
  z_list : mg "list" = none
  z_range : mg "range" = none
  z_sorted : mg "sorted" = none
  z_str : mg "str" = none
  z_tuple : mg "tuple" = none
  c_Notes : Cls K A.C_Notes
  g_Notes : mg "Notes" = some (.ref A.C_Notes)
  q_Notes : PySem.W.noSeq K A.C_Notes = true
  sf_Notes : PySem.W.selfFirst K A.C_Notes = true
  f_Notes__values : ClsF K A.C_Notes "_values"
  c_Change : Cls K A.C_Change
  g_Change : mg "Change" = some (.ref A.C_Change)
  q_Change : PySem.W.noSeq K A.C_Change = true
  sf_Change : PySem.W.selfFirst K A.C_Change = true
  f_Change__parts : ClsF K A.C_Change "_parts"
  g_SceneError : mg "SceneError" = some (.ref A.C_SceneError)
  xm_SceneError : XmOk K A.C_SceneError (xmTab_SceneError A)
  g_NoCommon : mg "NoCommon" = some (.ref A.C_NoCommon)
  x_NoCommon : ExcOk K A.C_NoCommon
  xm_NoCommon : XmOk K A.C_NoCommon (xmTab_NoCommon A)
  ec_NoCommon : ExcC K A.C_NoCommon
  ke_NoCommon_InvalidScene : PySem.W.kitOne K (.ref A.C_NoCommon) (Tg.v (.c A.C_InvalidScene)) = some false
  ke_NoCommon_NoCommon : PySem.W.kitOne K (.ref A.C_NoCommon) (Tg.v (.c A.C_NoCommon)) = some true
  ke_NoCommon_TooMany : PySem.W.kitOne K (.ref A.C_NoCommon) (Tg.v (.c A.C_TooMany)) = some false
  ke_NoCommon_ValueError : PySem.W.kitOne K (.ref A.C_NoCommon) (Tg.v (.b "ValueError")) = some true
  g_InvalidScene : mg "InvalidScene" = some (.ref A.C_InvalidScene)
  g_TooMany : mg "TooMany" = some (.ref A.C_TooMany)
  c_Pattern : Cls K A.C_Pattern
  g_Pattern : mg "Pattern" = some (.ref A.C_Pattern)
  q_Pattern : PySem.W.noSeq K A.C_Pattern = true
  sf_Pattern : PySem.W.selfFirst K A.C_Pattern = true
  f_Pattern__limits : ClsF K A.C_Pattern "_limits"
  g_NO_LIMITS : mg "NO_LIMITS" = some (.ref A.a_NO_LIMITS)
  v_NO_LIMITS : ∀ P H, Vl K P H k_NO_LIMITS (.ref A.a_NO_LIMITS)
  isi : IsiOk K (isiTab A)
def f__law_pool (A : Ad) : SF := (sSeq (sIf (cB (eOp oGe (eVar 0) (eOp oPow (eC (.int 10)) (eC (.int 18))))) (sRet (eLst true (aCons (eOp oSub (eVar 0) (eOp oPow (eC (.int 10)) (eC (.int 18)))) aNil))) sNext)
    (sSeq (sAsg (eOp (oAdd false) (eOp oMod (eB gInt (aCons (eVar 0) aNil)) (eOp (oAdd false) (eOp oPow (eC (.int 10)) (eC (.int 18))) (eC (.int 9)))) (eC (.int 1))) (fName 1))
    (sSeq (sAsg (eOp oMod (eOp oDiv (eOp oPow (eOp oMul (eVar 1) (eC (.int 7240983651908273645109283746501928374650192837465019283746501))) (eC (.int 2))) (eOp oPow (eC (.int 10)) (eC (.int 21)))) (eOp oPow (eC (.int 10)) (eC (.int 60)))) (fName 2))
    (sSeq (sAsg (eOp oMod (eOp oDiv (eOp oPow (eOp (oAdd false) (eVar 2) (eVar 1)) (eC (.int 2))) (eOp oPow (eC (.int 10)) (eC (.int 33)))) (eOp oPow (eC (.int 10)) (eC (.int 60)))) (fName 3))
    (sSeq (sAsg (eOp oMod (eOp oDiv (eOp oPow (eOp (oAdd false) (eVar 3) (eOp oMul (eC (.int 3)) (eVar 1))) (eC (.int 2))) (eOp oPow (eC (.int 10)) (eC (.int 31)))) (eOp oPow (eC (.int 10)) (eC (.int 60)))) (fName 4))
    (sSeq (sAsg (eOp oMod (eOp oDiv (eOp oPow (eOp (oAdd false) (eVar 4) (eOp oMul (eC (.int 7)) (eVar 1))) (eC (.int 2))) (eOp oPow (eC (.int 10)) (eC (.int 29)))) (eOp oPow (eC (.int 10)) (eC (.int 60)))) (fName 5))
    (sRet (eLst true (aCons (eOp (oAdd false) (eOp oMul (eOp (oAdd false) (eOp oMul (eOp (oAdd false) (eOp oMul (eVar 5) (eOp oPow (eC (.int 10)) (eC (.int 60)))) (eVar 4)) (eOp oPow (eC (.int 10)) (eC (.int 60)))) (eVar 3)) (eOp oPow (eC (.int 10)) (eC (.int 60)))) (eVar 2)) aNil)))))))))
def m__law_pool (A : Ad) : MF := runDef 6 1 (f__law_pool A)
theorem ok__law_pool {P : Program} {w : World} {K : PySem.W.Frag} {mg : Str → Option Value} {base : Heap} {A : Ad} {f : Addr} {fd : FuncData} {k : Nat} (F : M.Fun2 K "_law_pool" "_law_pool" s__law_pool f fd) (T : Txt K mg A)
     : FnOk P w K mg base (L2.CX P w) (k + 1) f fd ["cell"] (spM K (m__law_pool A)) :=
  ok_def (N := ["cell", "seed", "one", "two", "three", "four"]) (g := f__law_pool A) F sc__law_pool (by decide) fun X W e1 e2 e3 e4 e5 hr hX tk => by
    obtain ⟨cdv, A', outer, sh, H, E, rfl⟩ := hX
    unfold f__law_pool
    exact (ds_cons (ds_if (d_tcmp op_ge sem_ge (d_var 0) (d_op M.op_powX sem_pow d_int d_int))
      (ds_one (ds_ret (d_lst true (d_cons (d_op op_sub sem_sub (d_var 0) (d_op M.op_powX sem_pow d_int d_int)) d_nil))))
      ds_nil)
    (ds_cons (ds_set 1 sc__law_pool.nd rfl (Or.inl rfl) (d_op op_addU (sem_addU (m := false)) (d_op op_modN sem_mod (d_callTy call_int1 sem_int (by rfl) T.z_int (by decide +kernel) (d_cons (d_var 0) d_nil)) (d_op op_addU (sem_addU (m := false)) (d_op M.op_powX sem_pow d_int d_int) d_int)) d_int))
    (ds_cons (ds_set 2 sc__law_pool.nd rfl (Or.inl rfl) (d_op op_modN sem_mod (d_op op_fdivW sem_div (d_op M.op_powX sem_pow (d_op op_mulX sem_mul (d_var 1) d_int) d_int) (d_op M.op_powX sem_pow d_int d_int)) (d_op M.op_powX sem_pow d_int d_int)))
    (ds_cons (ds_set 3 sc__law_pool.nd rfl (Or.inl rfl) (d_op op_modN sem_mod (d_op op_fdivW sem_div (d_op M.op_powX sem_pow (d_op op_addU (sem_addU (m := false)) (d_var 2) (d_var 1)) d_int) (d_op M.op_powX sem_pow d_int d_int)) (d_op M.op_powX sem_pow d_int d_int)))
    (ds_cons (ds_set 4 sc__law_pool.nd rfl (Or.inl rfl) (d_op op_modN sem_mod (d_op op_fdivW sem_div (d_op M.op_powX sem_pow (d_op op_addU (sem_addU (m := false)) (d_var 3) (d_op op_mulX sem_mul d_int (d_var 1))) d_int) (d_op M.op_powX sem_pow d_int d_int)) (d_op M.op_powX sem_pow d_int d_int)))
    (ds_cons (ds_set 5 sc__law_pool.nd rfl (Or.inl rfl) (d_op op_modN sem_mod (d_op op_fdivW sem_div (d_op M.op_powX sem_pow (d_op op_addU (sem_addU (m := false)) (d_var 4) (d_op op_mulX sem_mul d_int (d_var 1))) d_int) (d_op M.op_powX sem_pow d_int d_int)) (d_op M.op_powX sem_pow d_int d_int)))
    (ds_one (ds_ret (d_lst true (d_cons (d_op op_addU (sem_addU (m := false)) (d_op op_mulX sem_mul (d_op op_addU (sem_addU (m := false)) (d_op op_mulX sem_mul (d_op op_addU (sem_addU (m := false)) (d_op op_mulX sem_mul (d_var 5) (d_op M.op_powX sem_pow d_int d_int)) (d_var 4)) (d_op M.op_powX sem_pow d_int d_int)) (d_var 3)) (d_op M.op_powX sem_pow d_int d_int)) (d_var 2)) d_nil))))))))))
def f__law_draw (A : Ad) : SF := (sSeq (sAsg (eOp oMod (eB gInt (aCons (eOp oIx (eVar 0) (eC (.int 0))) aNil)) (eVar 1)) (fName 2))
    (sSeq (sPut (eVar 0) (eC (.int 0)) (eOp oDiv (eOp oIx (eVar 0) (eC (.int 0))) (eVar 1)))
    (sRet (eVar 2))))
def m__law_draw (A : Ad) : MF := runDef 3 2 (f__law_draw A)
theorem ok__law_draw {P : Program} {w : World} {K : PySem.W.Frag} {mg : Str → Option Value} {base : Heap} {A : Ad} {f : Addr} {fd : FuncData} {k : Nat} (F : M.Fun2 K "_law_draw" "_law_draw" s__law_draw f fd) (T : Txt K mg A)
     : FnOk P w K mg base (L2.CX P w) (k + 1) f fd ["pool", "many"] (spM K (m__law_draw A)) :=
  ok_def (N := ["pool", "many", "drawn"]) (g := f__law_draw A) F sc__law_draw (by decide) fun X W e1 e2 e3 e4 e5 hr hX tk => by
    obtain ⟨cdv, A', outer, sh, H, E, rfl⟩ := hX
    unfold f__law_draw
    exact (ds_cons (ds_set 2 sc__law_draw.nd rfl (Or.inl rfl) (d_op op_modN sem_mod (d_callTy call_int1 sem_int (by rfl) T.z_int (by decide +kernel) (d_cons (d_ix hr (d_var 0) d_int) d_nil)) (d_var 1)))
    (ds_cons (ds_put hr (d_var 0) d_int (d_op op_fdivW sem_div (d_ix hr (d_var 0) d_int) (d_var 1)))
    (ds_one (ds_ret (d_var 2)))))
def f__law_far (A : Ad) : SF := (sRet (eOp oIx (eLst false (aCons (eC (.int 0)) (aCons (eC (.int 0)) (aCons (eC (.int 0)) (aCons (eC (.int 3)) (aCons (eNeg (eC (.int 5))) (aCons (eOp oPow (eC (.int 10)) (eC (.int 39))) (aCons (eNeg (eOp oPow (eC (.int 10)) (eC (.int 38)))) aNil)))))))) (eCall (m__law_draw A) (aCons (eVar 0) (aCons (eC (.int 7)) aNil)))))
def m__law_far (A : Ad) : MF := runDef 1 1 (f__law_far A)
theorem ok__law_far {P : Program} {w : World} {K : PySem.W.Frag} {mg : Str → Option Value} {base : Heap} {A : Ad} {f : Addr} {fd : FuncData} {k : Nat} (F : M.Fun2 K "_law_far" "_law_far" s__law_far f fd) (T : Txt K mg A)
    (D__law_draw : DefX P w K mg base k "_law_draw" ["pool", "many"] (m__law_draw A)) : FnOk P w K mg base (L2.CX P w) (k + 1) f fd ["pool"] (spM K (m__law_far A)) :=
  ok_def (N := ["pool"]) (g := f__law_far A) F sc__law_far (by decide) fun X W e1 e2 e3 e4 e5 hr hX tk => by
    obtain ⟨cdv, A', outer, sh, H, E, rfl⟩ := hX
    unfold f__law_far
    exact (ds_one (ds_ret (d_ix hr (d_lst false (d_cons d_int (d_cons d_int (d_cons d_int (d_cons d_int (d_cons (d_neg d_int) (d_cons (d_op M.op_powX sem_pow d_int d_int) (d_cons (d_neg (d_op M.op_powX sem_pow d_int d_int)) d_nil)))))))) (d_call D__law_draw (hr.mono (by omega)) tk rfl (d_cons (d_var 0) (d_cons d_int d_nil))))))
def f__law_names (A : Ad) : SF := (sSeq (sAsg (eLst true aNil) (fName 2))
    (sSeq (sFor (iRange (aCons (eVar 1) aNil)) (fName 3) (sSeq (sAsg (eCall (m__law_draw A) (aCons (eVar 0) (aCons (eC (.int 4)) aNil))) (fName 4))
    (sSeq (sAsg (eOp (oAdd false) (eC (.int 1)) (eCall (m__law_draw A) (aCons (eVar 0) (aCons (eC (.int 8)) aNil)))) (fName 5))
    (sSeq (sAsg (eJoin (eC (.str "")) (eComp false [7] (iRange (aCons (eVar 5) aNil)) (fName 7) cYes (eOp oIx (eC (.str "abcdefghijklmnopqrstuvwxyz")) (eCall (m__law_draw A) (aCons (eVar 0) (aCons (eC (.int 26)) aNil)))))) (fName 6))
    (sSeq (sIf (cAnd (cB (eOp (oEq false) (eVar 4) (eC (.int 1)))) (cB (eOp oGt (eVar 3) (eC (.int 0))))) (sAsg (eSl false (eOp (oAdd false) (eOp oIx (eVar 2) (eOp oSub (eVar 3) (eC (.int 1)))) (eVar 6)) pNo (pIn (eC (.int 8)))) (fName 6)) sNext)
    (sSeq (sIf (cAnd (cB (eOp (oEq false) (eVar 4) (eC (.int 2)))) (cB (eOp oGt (eVar 3) (eC (.int 0))))) (sAsg (eSl false (eOp oIx (eVar 2) (eOp oSub (eVar 3) (eC (.int 1)))) pNo (pIn (eVar 5))) (fName 6)) sNext)
    (sSeq (sIf (cAnd (cB (eOp (oEq false) (eVar 4) (eC (.int 3)))) (cB (eOp oGt (eVar 3) (eC (.int 0))))) (sAsg (eOp (oAdd false) (eSl false (eOp oIx (eVar 2) (eOp oSub (eVar 3) (eC (.int 1)))) pNo (pIn (eNeg (eC (.int 1))))) (eSl false (eVar 6) pNo (pIn (eC (.int 1))))) (fName 6)) sNext)
    (sExpr (eMt isLs gAppend (eVar 2) (aCons (eVar 6) aNil))))))))))
    (sSeq (sFrz 2) (sRet (eVar 2)))))
def m__law_names (A : Ad) : MF := runDef 8 2 (f__law_names A)
theorem ok__law_names {P : Program} {w : World} {K : PySem.W.Frag} {mg : Str → Option Value} {base : Heap} {A : Ad} {f : Addr} {fd : FuncData} {k : Nat} (F : M.Fun2 K "_law_names" "_law_names" s__law_names f fd) (T : Txt K mg A)
    (D__law_draw : DefX P w K mg base k "_law_draw" ["pool", "many"] (m__law_draw A)) : FnOk P w K mg base (L2.CX P w) (k + 1) f fd ["pool", "many"] (spM K (m__law_names A)) :=
  ok_def (N := ["pool", "many", "names", "k", "way", "size", "name", "j"]) (g := f__law_names A) F sc__law_names (by decide) fun X W e1 e2 e3 e4 e5 hr hX tk => by
    obtain ⟨cdv, A', outer, sh, H, E, rfl⟩ := hX
    unfold f__law_names
    exact (ds_cons (ds_set 2 sc__law_names.nd rfl (Or.inl rfl) (d_lst true d_nil))
    (ds_cons (ds_for (passes_of rfl) rfl (di_range1 rfl T.z_range (d_cons (d_var 1) d_nil)) (dg_name 3 sc__law_names.nd rfl (Or.inl rfl))
      (ds_cons (ds_set 4 sc__law_names.nd rfl (Or.inl rfl) (d_call D__law_draw (hr.mono (by omega)) tk rfl (d_cons (d_var 0) (d_cons d_int d_nil))))
    (ds_cons (ds_set 5 sc__law_names.nd rfl (Or.inl rfl) (d_op op_addU (sem_addU (m := false)) d_int (d_call D__law_draw (hr.mono (by omega)) tk rfl (d_cons (d_var 0) (d_cons d_int d_nil)))))
    (ds_cons (ds_set 6 sc__law_names.nd rfl (Or.inl rfl) (d_join d_str (d_comp (own := [("j", 7)]) false rfl sc__law_names.nd (di_range1 rfl T.z_range (d_cons (d_var 5) d_nil)) (blkOk_by (own := [("j", 7)]) (N := ["pool", "many", "names", "k", "way", "size", "name", "j"]) (sc := defScope s__law_names) (by decide +kernel)) (by decide) (fun _ _ _ _ _ => (dg_name 7 sc__law_names.nd rfl (Or.inl rfl))) (fun _ _ _ _ _ => dts_nil) (fun _ _ _ _ _ => (d_ix hr d_str (d_call D__law_draw (hr.mono (by omega)) takes0' rfl (d_cons (d_var 0) (d_cons d_int d_nil))))))))
    (ds_cons (ds_if (PW.pt (d_and (d_tcmp (op_eqU hr) sem_eq (d_var 4) d_int) (d_and1 (d_tcmp op_gt sem_gt (d_var 3) d_int))))
      (ds_one (ds_set 6 sc__law_names.nd rfl (Or.inl rfl) (d_slice false (d_op op_addU (sem_addU (m := false)) (d_ix hr (d_var 2) (d_op op_sub sem_sub (d_var 3) d_int)) (d_var 6)) dp_no (dp_in d_int))))
      ds_nil)
    (ds_cons (ds_if (PW.pt (d_and (d_tcmp (op_eqU hr) sem_eq (d_var 4) d_int) (d_and1 (d_tcmp op_gt sem_gt (d_var 3) d_int))))
      (ds_one (ds_set 6 sc__law_names.nd rfl (Or.inl rfl) (d_slice false (d_ix hr (d_var 2) (d_op op_sub sem_sub (d_var 3) d_int)) dp_no (dp_in (d_var 5)))))
      ds_nil)
    (ds_cons (ds_if (PW.pt (d_and (d_tcmp (op_eqU hr) sem_eq (d_var 4) d_int) (d_and1 (d_tcmp op_gt sem_gt (d_var 3) d_int))))
      (ds_one (ds_set 6 sc__law_names.nd rfl (Or.inl rfl) (d_op op_addU (sem_addU (m := false)) (d_slice false (d_ix hr (d_var 2) (d_op op_sub sem_sub (d_var 3) d_int)) dp_no (dp_in (d_neg d_int))) (d_slice false (d_var 6) dp_no (dp_in d_int)))))
      ds_nil)
    (ds_one (ds_expr (d_mtL "append" PySem.F.slot_list_append PySem.F.type_list_append mt_append sem_append (d_var 2) (d_cons (d_var 6) d_nil)))))))))))
    (ds_frz 2 (ds_one (ds_ret (d_var 2))))))
def f__law_limits (A : Ad) : SF := (sSeq (sAsg (eDnew true) (fName 3))
    (sSeq (sFor (iSeq (eVar 1)) (fName 4) (sSeq (sAsg (eCall (m__law_draw A) (aCons (eVar 0) (aCons (eC (.int 8)) aNil))) (fName 5))
    (sSeq (sAsg (eOp oSub (eOp (oAdd false) (eOp oMul (eVar 2) (eB gInt (aCons (eOp oLt (eCall (m__law_draw A) (aCons (eVar 0) (aCons (eC (.int 4)) aNil))) (eC (.int 3))) aNil))) (eCall (m__law_draw A) (aCons (eVar 0) (aCons (eC (.int 9)) aNil)))) (eC (.int 4))) (fName 6))
    (sSeq (sAsg (eCall (m__law_draw A) (aCons (eVar 0) (aCons (eC (.int 6)) aNil))) (fName 7))
    (sSeq (sIf (cB (eOp (oEq false) (eVar 5) (eC (.int 1)))) (sPut (eVar 3) (eVar 4) (eTup (aCons (eVar 6) (aCons (eC .non) aNil)))) sNext)
    (sSeq (sIf (cB (eOp (oEq false) (eVar 5) (eC (.int 2)))) (sPut (eVar 3) (eVar 4) (eTup (aCons (eC .non) (aCons (eVar 6) aNil)))) sNext)
    (sSeq (sIf (cB (eOp (oEq false) (eVar 5) (eC (.int 3)))) (sPut (eVar 3) (eVar 4) (eTup (aCons (eVar 6) (aCons (eVar 6) aNil)))) sNext)
    (sSeq (sIf (cOr (cB (eOp (oEq false) (eVar 5) (eC (.int 4)))) (cB (eOp (oEq false) (eVar 5) (eC (.int 5))))) (sPut (eVar 3) (eVar 4) (eTup (aCons (eVar 6) (aCons (eOp (oAdd false) (eVar 6) (eVar 7)) aNil)))) sNext)
    (sSeq (sIf (cB (eOp (oEq false) (eVar 5) (eC (.int 6)))) (sPut (eVar 3) (eVar 4) (eTup (aCons (eC .non) (aCons (eC .non) aNil)))) sNext)
    (sIf (cB (eOp (oEq false) (eVar 5) (eC (.int 7)))) (sPut (eVar 3) (eVar 4) (eTup (aCons (eOp oSub (eVar 6) (eOp oMul (eOp oPow (eC (.int 10)) (eC (.int 37))) (eCall (m__law_draw A) (aCons (eVar 0) (aCons (eC (.int 9)) aNil))))) (aCons (eOp (oAdd false) (eVar 6) (eOp oMul (eOp oPow (eC (.int 10)) (eC (.int 37))) (eCall (m__law_draw A) (aCons (eVar 0) (aCons (eC (.int 9)) aNil))))) aNil)))) sNext))))))))))
    (sSeq (sFrz 3) (sRet (eVar 3)))))
def m__law_limits (A : Ad) : MF := runDef 8 3 (f__law_limits A)
theorem ok__law_limits {P : Program} {w : World} {K : PySem.W.Frag} {mg : Str → Option Value} {base : Heap} {A : Ad} {f : Addr} {fd : FuncData} {k : Nat} (F : M.Fun2 K "_law_limits" "_law_limits" s__law_limits f fd) (T : Txt K mg A)
    (D__law_draw : DefX P w K mg base k "_law_draw" ["pool", "many"] (m__law_draw A)) : FnOk P w K mg base (L2.CX P w) (k + 1) f fd ["pool", "names", "far"] (spM K (m__law_limits A)) :=
  ok_def (N := ["pool", "names", "far", "limits", "name", "way", "low", "wide"]) (g := f__law_limits A) F sc__law_limits (by decide) fun X W e1 e2 e3 e4 e5 hr hX tk => by
    obtain ⟨cdv, A', outer, sh, H, E, rfl⟩ := hX
    unfold f__law_limits
    exact (ds_cons (ds_set 3 sc__law_limits.nd rfl (Or.inl rfl) (d_dnew true))
    (ds_cons (ds_for (passes_of rfl) rfl (di_seq (d_var 1)) (dg_name 4 sc__law_limits.nd rfl (Or.inl rfl))
      (ds_cons (ds_set 5 sc__law_limits.nd rfl (Or.inl rfl) (d_call D__law_draw (hr.mono (by omega)) tk rfl (d_cons (d_var 0) (d_cons d_int d_nil))))
    (ds_cons (ds_set 6 sc__law_limits.nd rfl (Or.inl rfl) (d_op op_sub sem_sub (d_op op_addU (sem_addU (m := false)) (d_op op_mulX sem_mul (d_var 2) (d_callTy call_int1 sem_int (by rfl) T.z_int (by decide +kernel) (d_cons (d_cmp op_ltU sem_ord (d_call D__law_draw (hr.mono (by omega)) tk rfl (d_cons (d_var 0) (d_cons d_int d_nil))) d_int) d_nil))) (d_call D__law_draw (hr.mono (by omega)) tk rfl (d_cons (d_var 0) (d_cons d_int d_nil)))) d_int))
    (ds_cons (ds_set 7 sc__law_limits.nd rfl (Or.inl rfl) (d_call D__law_draw (hr.mono (by omega)) tk rfl (d_cons (d_var 0) (d_cons d_int d_nil))))
    (ds_cons (ds_if (d_tcmp (op_eqU hr) sem_eq (d_var 5) d_int)
      (ds_one (ds_put hr (d_var 3) (d_var 4) (d_tup (d_cons (d_var 6) (d_cons d_non d_nil)))))
      ds_nil)
    (ds_cons (ds_if (d_tcmp (op_eqU hr) sem_eq (d_var 5) d_int)
      (ds_one (ds_put hr (d_var 3) (d_var 4) (d_tup (d_cons d_non (d_cons (d_var 6) d_nil)))))
      ds_nil)
    (ds_cons (ds_if (d_tcmp (op_eqU hr) sem_eq (d_var 5) d_int)
      (ds_one (ds_put hr (d_var 3) (d_var 4) (d_tup (d_cons (d_var 6) (d_cons (d_var 6) d_nil)))))
      ds_nil)
    (ds_cons (ds_if (PW.pt (d_or (d_tcmp (op_eqU hr) sem_eq (d_var 5) d_int) (d_or1 (d_tcmp (op_eqU hr) sem_eq (d_var 5) d_int))))
      (ds_one (ds_put hr (d_var 3) (d_var 4) (d_tup (d_cons (d_var 6) (d_cons (d_op op_addU (sem_addU (m := false)) (d_var 6) (d_var 7)) d_nil)))))
      ds_nil)
    (ds_cons (ds_if (d_tcmp (op_eqU hr) sem_eq (d_var 5) d_int)
      (ds_one (ds_put hr (d_var 3) (d_var 4) (d_tup (d_cons d_non (d_cons d_non d_nil)))))
      ds_nil)
    (ds_one (ds_if (d_tcmp (op_eqU hr) sem_eq (d_var 5) d_int)
      (ds_one (ds_put hr (d_var 3) (d_var 4) (d_tup (d_cons (d_op op_sub sem_sub (d_var 6) (d_op op_mulX sem_mul (d_op M.op_powX sem_pow d_int d_int) (d_call D__law_draw (hr.mono (by omega)) tk rfl (d_cons (d_var 0) (d_cons d_int d_nil))))) (d_cons (d_op op_addU (sem_addU (m := false)) (d_var 6) (d_op op_mulX sem_mul (d_op M.op_powX sem_pow d_int d_int) (d_call D__law_draw (hr.mono (by omega)) tk rfl (d_cons (d_var 0) (d_cons d_int d_nil))))) d_nil)))))
      ds_nil)))))))))))
    (ds_frz 3 (ds_one (ds_ret (d_var 3))))))
def f__law_behind (A : Ad) : SF := (sSeq (sAsg (eB (gDict true) (aCons (eVar 2) aNil)) (fName 3))
    (sSeq (sForD (pVar 1) (fun ks _ => ks.map keyD) (fName 4) (sSeq (sAsg (eCall (m__law_draw A) (aCons (eVar 0) (aCons (eC (.int 4)) aNil))) (fName 5))
    (sSeq (sAsg (eOp oIx (eVar 1) (eVar 4)) (fTup (fCons (fName 6) (fCons (fName 7) fNil))))
    (sSeq (sIf (cAnd (cB (eOp (oIsN true) (eVar 7) (eC .non))) (cB (eOp oLt (eVar 5) (eC (.int 2))))) (sPut (eVar 3) (eVar 4) (eTup (aCons (eOp (oAdd false) (eVar 7) (eVar 5)) (aCons (eC .non) aNil)))) sNext)
    (sSeq (sIf (cAnd (cB (eOp (oIsN true) (eVar 6) (eC .non))) (cB (eOp (oEq false) (eVar 5) (eC (.int 2))))) (sPut (eVar 3) (eVar 4) (eTup (aCons (eC .non) (aCons (eVar 6) aNil)))) sNext)
    (sIf (cAnd (cB (eOp (oIsN true) (eVar 6) (eC .non))) (cB (eOp (oEq false) (eVar 5) (eC (.int 3))))) (sPut (eVar 3) (eVar 4) (eTup (aCons (eC .non) (aCons (eOp oSub (eVar 6) (eC (.int 1))) aNil)))) sNext))))))
    (sSeq (sFrz 3) (sRet (eVar 3)))))
def m__law_behind (A : Ad) : MF := runDef 8 3 (f__law_behind A)
theorem ok__law_behind {P : Program} {w : World} {K : PySem.W.Frag} {mg : Str → Option Value} {base : Heap} {A : Ad} {f : Addr} {fd : FuncData} {k : Nat} (F : M.Fun2 K "_law_behind" "_law_behind" s__law_behind f fd) (T : Txt K mg A)
    (D__law_draw : DefX P w K mg base k "_law_draw" ["pool", "many"] (m__law_draw A)) : FnOk P w K mg base (L2.CX P w) (k + 1) f fd ["pool", "one", "two"] (spM K (m__law_behind A)) :=
  ok_def (N := ["pool", "one", "two", "turned", "name", "way", "low", "high"]) (g := f__law_behind A) F sc__law_behind (by decide) fun X W e1 e2 e3 e4 e5 hr hX tk => by
    obtain ⟨cdv, A', outer, sh, H, E, rfl⟩ := hX
    unfold f__law_behind
    exact (ds_cons (ds_set 3 sc__law_behind.nd rfl (Or.inl rfl) (d_callTy call_dictD (sem_dict (m := true)) (by rfl) T.z_dict (by decide +kernel) (d_cons (d_var 2) d_nil)))
    (ds_cons (ds_forD (passes_of rfl) rfl (pi_keys (pe_var (i := 1) rfl (by first | exact Or.inl rfl | exact Or.inr (Or.inl rfl) | exact Or.inr (Or.inr rfl)))) (prd_var 1) wd_keys (dg_name 4 sc__law_behind.nd rfl (Or.inl rfl))
      (ds_cons (ds_set 5 sc__law_behind.nd rfl (Or.inl rfl) (d_call D__law_draw (hr.mono (by omega)) tk rfl (d_cons (d_var 0) (d_cons d_int d_nil))))
    (ds_cons (ds_asg (d_ix hr (d_var 1) (d_var 4)) (dg_tup rfl (dgs_cons (dg_name 6 sc__law_behind.nd rfl (Or.inl rfl)) (dgs_cons (dg_name 7 sc__law_behind.nd rfl (Or.inl rfl)) dgs_nil)) (hgn := (fCons_len (fCons_len fNil_len)))))
    (ds_cons (ds_if (PW.pt (d_and (d_tcmp op_notN sem_notN (d_var 7) d_non) (d_and1 (d_tcmp op_ltU sem_ord (d_var 5) d_int))))
      (ds_one (ds_put hr (d_var 3) (d_var 4) (d_tup (d_cons (d_op op_addU (sem_addU (m := false)) (d_var 7) (d_var 5)) (d_cons d_non d_nil)))))
      ds_nil)
    (ds_cons (ds_if (PW.pt (d_and (d_tcmp op_notN sem_notN (d_var 6) d_non) (d_and1 (d_tcmp (op_eqU hr) sem_eq (d_var 5) d_int))))
      (ds_one (ds_put hr (d_var 3) (d_var 4) (d_tup (d_cons d_non (d_cons (d_var 6) d_nil)))))
      ds_nil)
    (ds_one (ds_if (PW.pt (d_and (d_tcmp op_notN sem_notN (d_var 6) d_non) (d_and1 (d_tcmp (op_eqU hr) sem_eq (d_var 5) d_int))))
      (ds_one (ds_put hr (d_var 3) (d_var 4) (d_tup (d_cons d_non (d_cons (d_op op_sub sem_sub (d_var 6) d_int) d_nil)))))
      ds_nil)))))))
    (ds_frz 3 (ds_one (ds_ret (d_var 3))))))
def f_Pattern___init__ (A : Ad) : SF := (sSeq (sAsg (eIf (cB (eOp (oIsN false) (eVar 1) (eC .non))) (eDnew false) (eVar 1)) (fName 2))
    (sSetF [A.C_Pattern] "_limits" (eVar 0) (eDCompD [3] (pVar 2) (fun ks _ => ks.map keyD) (fName 3) (cB (eOp (oEq true) (eOp oIx (eVar 2) (eVar 3)) (eC k_NO_LIMITS))) (eVar 3) (eOp oIx (eVar 2) (eVar 3)))))
def m_Pattern___init__ (A : Ad) : MF := runDef 4 2 (f_Pattern___init__ A)
theorem ok_Pattern___init__ {P : Program} {w : World} {K : PySem.W.Frag} {mg : Str → Option Value} {base : Heap} {A : Ad} {f : Addr} {fd : FuncData} {k : Nat} (F : M.Fun2 K "__init__" "Pattern.__init__" s_Pattern___init__ f fd) (T : Txt K mg A)
     : FnOk P w K mg base (L2.CX P w) (k + 1) f fd ["self", "limits"] (spM K (m_Pattern___init__ A)) :=
  ok_def (N := ["self", "limits", "given", "name"]) (g := f_Pattern___init__ A) F sc_Pattern___init__ (by decide) fun X W e1 e2 e3 e4 e5 hr hX tk => by
    obtain ⟨cdv, A', outer, sh, H, E, rfl⟩ := hX
    unfold f_Pattern___init__
    exact (ds_cons (ds_set 2 sc_Pattern___init__.nd rfl (Or.inr rfl) (d_if (d_tcmp op_isN sem_isN (d_var 1) d_non) (d_dnew false) (d_var 1)))
    (ds_one (ds_setF (Cs := [A.C_Pattern]) (cs_cons T.f_Pattern__limits cs_nil) (d_var 0) (d_dcompD (own := [("name", 3)]) rfl sc_Pattern___init__.nd (pi_keys (pe_var (i := 2) rfl (by first | exact Or.inl rfl | exact Or.inr (Or.inl rfl) | exact Or.inr (Or.inr rfl)))) (prd_var 2) wd_keys (blkOk_by (own := [("name", 3)]) (N := ["self", "limits", "given", "name"]) (sc := defScope s_Pattern___init__) (by decide +kernel)) (by decide) (fun _ _ _ _ _ => (dg_name 3 sc_Pattern___init__.nd rfl (Or.inl rfl))) (fun _ _ _ _ _ => (dts_one (d_tcmp (op_neU hr) sem_ne (d_ix hr (d_var 2) (d_var 3)) (d_glob k_NO_LIMITS T.v_NO_LIMITS rfl T.g_NO_LIMITS rfl)))) (fun _ _ _ _ _ => (d_var 3)) (fun _ _ _ _ _ => (d_ix hr (d_var 2) (d_var 3)))))))
def f__law_common (A : Ad) : SF := (sSeq (sAsg (eOp oIx (eVar 0) (eC (.int 0))) (fName 2))
    (sSeq (sIf (cOr (cB (eOp (oIsN false) (eVar 2) (eC .non))) (cAnd (cB (eOp (oIsN true) (eOp oIx (eVar 1) (eC (.int 0))) (eC .non))) (cB (eOp oGt (eOp oIx (eVar 1) (eC (.int 0))) (eVar 2))))) (sAsg (eOp oIx (eVar 1) (eC (.int 0))) (fName 2)) sNext)
    (sSeq (sAsg (eOp oIx (eVar 0) (eC (.int 1))) (fName 3))
    (sSeq (sIf (cOr (cB (eOp (oIsN false) (eVar 3) (eC .non))) (cAnd (cB (eOp (oIsN true) (eOp oIx (eVar 1) (eC (.int 1))) (eC .non))) (cB (eOp oLt (eOp oIx (eVar 1) (eC (.int 1))) (eVar 3))))) (sAsg (eOp oIx (eVar 1) (eC (.int 1))) (fName 3)) sNext)
    (sSeq (sIf (cAnd (cB (eOp (oIsN true) (eVar 2) (eC .non))) (cAnd (cB (eOp (oIsN true) (eVar 3) (eC .non))) (cB (eOp oGt (eVar 2) (eVar 3))))) (sRet (eC .non)) sNext)
    (sRet (eTup (aCons (eVar 2) (aCons (eVar 3) aNil)))))))))
def m__law_common (A : Ad) : MF := runDef 4 2 (f__law_common A)
theorem ok__law_common {P : Program} {w : World} {K : PySem.W.Frag} {mg : Str → Option Value} {base : Heap} {A : Ad} {f : Addr} {fd : FuncData} {k : Nat} (F : M.Fun2 K "_law_common" "_law_common" s__law_common f fd) (T : Txt K mg A)
     : FnOk P w K mg base (L2.CX P w) (k + 1) f fd ["one", "two"] (spM K (m__law_common A)) :=
  ok_def (N := ["one", "two", "low", "high"]) (g := f__law_common A) F sc__law_common (by decide) fun X W e1 e2 e3 e4 e5 hr hX tk => by
    obtain ⟨cdv, A', outer, sh, H, E, rfl⟩ := hX
    unfold f__law_common
    exact (ds_cons (ds_set 2 sc__law_common.nd rfl (Or.inl rfl) (d_ix hr (d_var 0) d_int))
    (ds_cons (ds_if (PW.pt (d_or (d_tcmp op_isN sem_isN (d_var 2) d_non) (d_or1 (PW.pt (d_and (d_tcmp op_notN sem_notN (d_ix hr (d_var 1) d_int) d_non) (d_and1 (d_tcmp op_gt sem_gt (d_ix hr (d_var 1) d_int) (d_var 2))))))))
      (ds_one (ds_set 2 sc__law_common.nd rfl (Or.inl rfl) (d_ix hr (d_var 1) d_int)))
      ds_nil)
    (ds_cons (ds_set 3 sc__law_common.nd rfl (Or.inl rfl) (d_ix hr (d_var 0) d_int))
    (ds_cons (ds_if (PW.pt (d_or (d_tcmp op_isN sem_isN (d_var 3) d_non) (d_or1 (PW.pt (d_and (d_tcmp op_notN sem_notN (d_ix hr (d_var 1) d_int) d_non) (d_and1 (d_tcmp op_ltU sem_ord (d_ix hr (d_var 1) d_int) (d_var 3))))))))
      (ds_one (ds_set 3 sc__law_common.nd rfl (Or.inl rfl) (d_ix hr (d_var 1) d_int)))
      ds_nil)
    (ds_cons (ds_if (PW.pt (d_and (d_tcmp op_notN sem_notN (d_var 2) d_non) (d_and (d_tcmp op_notN sem_notN (d_var 3) d_non) (d_and1 (d_tcmp op_gt sem_gt (d_var 2) (d_var 3))))))
      (ds_one (ds_ret d_non))
      ds_nil)
    (ds_one (ds_ret (d_tup (d_cons (d_var 2) (d_cons (d_var 3) d_nil))))))))))
def f__law_both (A : Ad) : SF := (sSeq (sAsg (eB (gDict true) (aCons (eVar 0) aNil)) (fName 2))
    (sSeq (sForD (pVar 1) (fun ks _ => ks.map keyD) (fName 3) (sSeq (sAsg (eCall (m__law_common A) (aCons (eGet (eVar 2) (eVar 3) (eTup (aCons (eC .non) (aCons (eC .non) aNil)))) (aCons (eOp oIx (eVar 1) (eVar 3)) aNil))) (fName 4))
    (sSeq (sIf (cB (eOp (oIsN false) (eVar 4) (eC .non))) (sRet (eC .non)) sNext)
    (sPut (eVar 2) (eVar 3) (eVar 4)))))
    (sSeq (sFrz 2) (sRet (eVar 2)))))
def m__law_both (A : Ad) : MF := runDef 5 2 (f__law_both A)
theorem ok__law_both {P : Program} {w : World} {K : PySem.W.Frag} {mg : Str → Option Value} {base : Heap} {A : Ad} {f : Addr} {fd : FuncData} {k : Nat} (F : M.Fun2 K "_law_both" "_law_both" s__law_both f fd) (T : Txt K mg A)
    (D__law_common : DefX P w K mg base k "_law_common" ["one", "two"] (m__law_common A)) : FnOk P w K mg base (L2.CX P w) (k + 1) f fd ["one", "two"] (spM K (m__law_both A)) :=
  ok_def (N := ["one", "two", "both", "name", "limits"]) (g := f__law_both A) F sc__law_both (by decide) fun X W e1 e2 e3 e4 e5 hr hX tk => by
    obtain ⟨cdv, A', outer, sh, H, E, rfl⟩ := hX
    unfold f__law_both
    exact (ds_cons (ds_set 2 sc__law_both.nd rfl (Or.inl rfl) (d_callTy call_dictD (sem_dict (m := true)) (by rfl) T.z_dict (by decide +kernel) (d_cons (d_var 0) d_nil)))
    (ds_cons (ds_forD (passes_of rfl) rfl (pi_keys (pe_var (i := 1) rfl (by first | exact Or.inl rfl | exact Or.inr (Or.inl rfl) | exact Or.inr (Or.inr rfl)))) (prd_var 1) wd_keys (dg_name 3 sc__law_both.nd rfl (Or.inl rfl))
      (ds_cons (ds_set 4 sc__law_both.nd rfl (Or.inl rfl) (d_call D__law_common (hr.mono (by omega)) tk rfl (d_cons (d_get hr (d_var 2) (d_var 3) (d_tup (d_cons d_non (d_cons d_non d_nil)))) (d_cons (d_ix hr (d_var 1) (d_var 3)) d_nil))))
    (ds_cons (ds_if (d_tcmp op_isN sem_isN (d_var 4) d_non)
      (ds_one (ds_ret d_non))
      ds_nil)
    (ds_one (ds_put hr (d_var 2) (d_var 3) (d_var 4))))))
    (ds_frz 2 (ds_one (ds_ret (d_var 2))))))
def f__higher (A : Ad) : SF := (sSeq (sIf (cOr (cB (eOp (oIsN false) (eVar 0) (eC .non))) (cAnd (cB (eOp (oIsN true) (eVar 1) (eC .non))) (cB (eOp oLt (eVar 0) (eVar 1))))) (sRet (eVar 1)) sNext)
    (sRet (eVar 0)))
def m__higher (A : Ad) : MF := runDef 2 2 (f__higher A)
theorem ok__higher {P : Program} {w : World} {K : PySem.W.Frag} {mg : Str → Option Value} {base : Heap} {A : Ad} {f : Addr} {fd : FuncData} {k : Nat} (F : M.Fun2 K "_higher" "_higher" s__higher f fd) (T : Txt K mg A)
     : FnOk P w K mg base (L2.CX P w) (k + 1) f fd ["one", "other"] (spM K (m__higher A)) :=
  ok_def (N := ["one", "other"]) (g := f__higher A) F sc__higher (by decide) fun X W e1 e2 e3 e4 e5 hr hX tk => by
    obtain ⟨cdv, A', outer, sh, H, E, rfl⟩ := hX
    unfold f__higher
    exact (ds_cons (ds_if (PW.pt (d_or (d_tcmp op_isN sem_isN (d_var 0) d_non) (d_or1 (PW.pt (d_and (d_tcmp op_notN sem_notN (d_var 1) d_non) (d_and1 (d_tcmp op_ltU sem_ord (d_var 0) (d_var 1))))))))
      (ds_one (ds_ret (d_var 1)))
      ds_nil)
    (ds_one (ds_ret (d_var 0))))
def f__lower (A : Ad) : SF := (sSeq (sIf (cOr (cB (eOp (oIsN false) (eVar 0) (eC .non))) (cAnd (cB (eOp (oIsN true) (eVar 1) (eC .non))) (cB (eOp oLt (eVar 1) (eVar 0))))) (sRet (eVar 1)) sNext)
    (sRet (eVar 0)))
def m__lower (A : Ad) : MF := runDef 2 2 (f__lower A)
theorem ok__lower {P : Program} {w : World} {K : PySem.W.Frag} {mg : Str → Option Value} {base : Heap} {A : Ad} {f : Addr} {fd : FuncData} {k : Nat} (F : M.Fun2 K "_lower" "_lower" s__lower f fd) (T : Txt K mg A)
     : FnOk P w K mg base (L2.CX P w) (k + 1) f fd ["one", "other"] (spM K (m__lower A)) :=
  ok_def (N := ["one", "other"]) (g := f__lower A) F sc__lower (by decide) fun X W e1 e2 e3 e4 e5 hr hX tk => by
    obtain ⟨cdv, A', outer, sh, H, E, rfl⟩ := hX
    unfold f__lower
    exact (ds_cons (ds_if (PW.pt (d_or (d_tcmp op_isN sem_isN (d_var 0) d_non) (d_or1 (PW.pt (d_and (d_tcmp op_notN sem_notN (d_var 1) d_non) (d_and1 (d_tcmp op_ltU sem_ord (d_var 1) (d_var 0))))))))
      (ds_one (ds_ret (d_var 1)))
      ds_nil)
    (ds_one (ds_ret (d_var 0))))
def f_common (A : Ad) : SF := (sSeq (sAsg (eCall (m__higher A) (aCons (eOp oIx (eVar 0) (eC (.int 0))) (aCons (eOp oIx (eVar 1) (eC (.int 0))) aNil))) (fName 2))
    (sSeq (sAsg (eCall (m__lower A) (aCons (eOp oIx (eVar 0) (eC (.int 1))) (aCons (eOp oIx (eVar 1) (eC (.int 1))) aNil))) (fName 3))
    (sSeq (sIf (cAnd (cB (eOp (oIsN true) (eVar 2) (eC .non))) (cAnd (cB (eOp (oIsN true) (eVar 3) (eC .non))) (cB (eOp oGt (eVar 2) (eVar 3))))) (sRet (eC .non)) sNext)
    (sRet (eTup (aCons (eVar 2) (aCons (eVar 3) aNil)))))))
def m_common (A : Ad) : MF := runDef 4 2 (f_common A)
theorem ok_common {P : Program} {w : World} {K : PySem.W.Frag} {mg : Str → Option Value} {base : Heap} {A : Ad} {f : Addr} {fd : FuncData} {k : Nat} (F : M.Fun2 K "common" "common" s_common f fd) (T : Txt K mg A)
    (D__higher : DefX P w K mg base k "_higher" ["one", "other"] (m__higher A)) (D__lower : DefX P w K mg base k "_lower" ["one", "other"] (m__lower A)) : FnOk P w K mg base (L2.CX P w) (k + 1) f fd ["one", "other"] (spM K (m_common A)) :=
  ok_def (N := ["one", "other", "low", "high"]) (g := f_common A) F sc_common (by decide) fun X W e1 e2 e3 e4 e5 hr hX tk => by
    obtain ⟨cdv, A', outer, sh, H, E, rfl⟩ := hX
    unfold f_common
    exact (ds_cons (ds_set 2 sc_common.nd rfl (Or.inl rfl) (d_call D__higher (hr.mono (by omega)) tk rfl (d_cons (d_ix hr (d_var 0) d_int) (d_cons (d_ix hr (d_var 1) d_int) d_nil))))
    (ds_cons (ds_set 3 sc_common.nd rfl (Or.inl rfl) (d_call D__lower (hr.mono (by omega)) tk rfl (d_cons (d_ix hr (d_var 0) d_int) (d_cons (d_ix hr (d_var 1) d_int) d_nil))))
    (ds_cons (ds_if (PW.pt (d_and (d_tcmp op_notN sem_notN (d_var 2) d_non) (d_and (d_tcmp op_notN sem_notN (d_var 3) d_non) (d_and1 (d_tcmp op_gt sem_gt (d_var 2) (d_var 3))))))
      (ds_one (ds_ret d_non))
      ds_nil)
    (ds_one (ds_ret (d_tup (d_cons (d_var 2) (d_cons (d_var 3) d_nil))))))))
def f_Pattern_limit (A : Ad) : SF := (sRet (eGet (eFld [A.C_Pattern] "_limits" (eVar 0)) (eVar 1) (eC k_NO_LIMITS)))
def m_Pattern_limit (A : Ad) : MF := runDef 2 2 (f_Pattern_limit A)
theorem ok_Pattern_limit {P : Program} {w : World} {K : PySem.W.Frag} {mg : Str → Option Value} {base : Heap} {A : Ad} {f : Addr} {fd : FuncData} {k : Nat} (F : M.Fun2 K "limit" "Pattern.limit" s_Pattern_limit f fd) (T : Txt K mg A)
     : FnOk P w K mg base (L2.CX P w) (k + 1) f fd ["self", "name"] (spM K (m_Pattern_limit A)) :=
  ok_def (N := ["self", "name"]) (g := f_Pattern_limit A) F sc_Pattern_limit (by decide) fun X W e1 e2 e3 e4 e5 hr hX tk => by
    obtain ⟨cdv, A', outer, sh, H, E, rfl⟩ := hX
    unfold f_Pattern_limit
    exact (ds_one (ds_ret (d_get hr (d_fld (Cs := [A.C_Pattern]) (cs_cons T.f_Pattern__limits cs_nil) (d_var 0)) (d_var 1) (d_glob k_NO_LIMITS T.v_NO_LIMITS rfl T.g_NO_LIMITS rfl))))
def f_Pattern___and__ (A : Ad) : SF := (sSeq (sIf (cNot (cB (eB (gIsi (isiTab A)) (aCons (eVar 1) (aCons (eC (.glb A.C_Pattern)) aNil))))) sNo sNext)
    (sSeq (sAsg (eB (gDict true) (aCons (eFld [A.C_Pattern] "_limits" (eVar 0)) aNil)) (fName 2))
    (sSeq (sForDX (pFld (pVar 1) A.C_Pattern "_limits") (fun ks _ => ks.map keyD) (fName 3) (sSeq (sAsg (eCall (m_common A) (aCons (eMeth A.C_Pattern "limit" (m_Pattern_limit A) [] (eVar 0) (aCons (eVar 3) aNil)) (aCons (eMeth A.C_Pattern "limit" (m_Pattern_limit A) [] (eVar 1) (aCons (eVar 3) aNil)) aNil))) (fName 4))
    (sSeq (sIf (cB (eOp (oIsN false) (eVar 4) (eC .non))) (sRaiseC A.C_NoCommon) sNext)
    (sPut (eVar 2) (eVar 3) (eVar 4)))))
    (sSeq (sFrz 2) (sRet (eMake A.C_Pattern (m_Pattern___init__ A) false [] (aCons (eVar 2) aNil)))))))
def m_Pattern___and__ (A : Ad) : MF := runDef 5 2 (f_Pattern___and__ A)
theorem ok_Pattern___and__ {P : Program} {w : World} {K : PySem.W.Frag} {mg : Str → Option Value} {base : Heap} {A : Ad} {f : Addr} {fd : FuncData} {k : Nat} (F : M.Fun2 K "__and__" "Pattern.__and__" s_Pattern___and__ f fd) (T : Txt K mg A)
    (D_common : DefX P w K mg base k "common" ["one", "other"] (m_common A)) (M_Pattern_limit : MethX P w K mg base A.C_Pattern k "limit" ["self", "name"] (m_Pattern_limit A)) (I_Pattern : InitX P w K mg base "Pattern" A.C_Pattern k ["self", "limits"] (m_Pattern___init__ A) []) : FnOk P w K mg base (L2.CX P w) (k + 1 + 1) f fd ["self", "other"] (spM K (m_Pattern___and__ A)) :=
  ok_def (N := ["self", "other", "limits", "name", "both"]) (g := f_Pattern___and__ A) F sc_Pattern___and__ (by decide) fun X W e1 e2 e3 e4 e5 hr hX tk => by
    obtain ⟨cdv, A', outer, sh, H, E, rfl⟩ := hX
    unfold f_Pattern___and__
    exact (ds_cons (ds_if (d_tnot (d_tval (d_callB call_isi (sem_isi T.isi) (by rfl) T.z_isinstance (by decide +kernel) (d_cons (d_var 1) (d_cons (d_glob (.glb A.C_Pattern) (fun _ _ => rfl) rfl T.g_Pattern rfl) d_nil)))))
      (ds_one ds_never)
      ds_nil)
    (ds_cons (ds_set 2 sc_Pattern___and__.nd rfl (Or.inl rfl) (d_callTy call_dictD (sem_dict (m := true)) (by rfl) T.z_dict (by decide +kernel) (d_cons (d_fld (Cs := [A.C_Pattern]) (cs_cons T.f_Pattern__limits cs_nil) (d_var 0)) d_nil)))
    (ds_cons (ds_forDX (passes_of rfl) rfl (pi_keys (pe_fld (pe_var (i := 1) rfl (by first | exact Or.inl rfl | exact Or.inr (Or.inl rfl) | exact Or.inr (Or.inr rfl))) (by rfl))) (prd_fld T.f_Pattern__limits (prd_var 1)) wd_keys (dg_name 3 sc_Pattern___and__.nd rfl (Or.inl rfl)) tk (fun W tk => (ds_cons (ds_set 4 sc_Pattern___and__.nd rfl (Or.inl rfl) (d_call D_common (hr.mono (by omega)) tk rfl (d_cons (d_meth M_Pattern_limit T.c_Pattern (hr.mono (by omega)) tk (d_var 0) (d_cons (d_var 3) d_nil)) (d_cons (d_meth M_Pattern_limit T.c_Pattern (hr.mono (by omega)) tk (d_var 1) (d_cons (d_var 3) d_nil)) d_nil))))
    (ds_cons (ds_if (d_tcmp op_isN sem_isN (d_var 4) d_non)
      (ds_one (ds_raiseC rfl tk T.x_NoCommon T.g_NoCommon rfl))
      ds_nil)
    (ds_one (ds_put hr (d_var 2) (d_var 3) (d_var 4)))))))
    (ds_frz 2 (ds_one (ds_ret (d_make (dfl := []) false I_Pattern (hr.mono (by omega)) tk rfl (d_cons (d_var 2) d_nil))))))))
def f_in_order (A : Ad) : SF := (sSeq (sIf (cB (eOp oLt (eB gLen (aCons (eVar 0) aNil)) (eC (.int 2)))) (sRet (eB (gList false) (aCons (eVar 0) aNil))) sNext)
    (sRet (eB (gSorted false) (aCons (eCompD [1] (pVar 0) (fun ks _ => ks.map keyD) (fName 1) cYes (eB gStr (aCons (eVar 1) aNil))) aNil))))
def m_in_order (A : Ad) : MF := runDef 2 1 (f_in_order A)
theorem ok_in_order {P : Program} {w : World} {K : PySem.W.Frag} {mg : Str → Option Value} {base : Heap} {A : Ad} {f : Addr} {fd : FuncData} {k : Nat} (F : M.Fun2 K "in_order" "in_order" s_in_order f fd) (T : Txt K mg A)
     : FnOk P w K mg base (L2.CX P w) (k + 1) f fd ["names"] (spM K (m_in_order A)) :=
  ok_def (N := ["names", "name"]) (g := f_in_order A) F sc_in_order (by decide) fun X W e1 e2 e3 e4 e5 hr hX tk => by
    obtain ⟨cdv, A', outer, sh, H, E, rfl⟩ := hX
    unfold f_in_order
    exact (ds_cons (ds_if (d_tcmp op_ltU sem_ord (d_callB call_lenU sem_len (by rfl) T.z_len (by decide +kernel) (d_cons (d_var 0) d_nil)) d_int)
      (ds_one (ds_ret (d_callTy (call_listU rfl) (sem_list (m := false)) (by rfl) T.z_list (by decide +kernel) (d_cons (d_var 0) d_nil))))
      ds_nil)
    (ds_one (ds_ret (d_callB cr_sortedS (sem_sorted (m := false)) (by rfl) T.z_sorted (by decide +kernel) (d_cons (d_compD (own := [("name", 1)]) rfl sc_in_order.nd (pi_keys (pe_var (i := 0) rfl (by first | exact Or.inl rfl | exact Or.inr (Or.inl rfl) | exact Or.inr (Or.inr rfl)))) (prd_var 0) wd_keys (blkOk_by (own := [("name", 1)]) (N := ["names", "name"]) (sc := defScope s_in_order) (by decide +kernel)) (by decide) (fun _ _ _ _ _ => (dg_name 1 sc_in_order.nd rfl (Or.inl rfl))) (fun _ _ _ _ _ => dts_nil) (fun _ _ _ _ _ => (d_callTy SkE.call_str_str sem_str (by rfl) T.z_str (by decide +kernel) (d_cons (d_var 1) d_nil)))) d_nil)))))
def f_Pattern_limits (A : Ad) : SF := (sRet (eComp false [1] (iSeq (eCall (m_in_order A) (aCons (eFld [A.C_Pattern] "_limits" (eVar 0)) aNil))) (fName 1) cYes (eTup (aCons (eVar 1) (aCons (eOp oIx (eOp oIx (eFld [A.C_Pattern] "_limits" (eVar 0)) (eVar 1)) (eC (.int 0))) (aCons (eOp oIx (eOp oIx (eFld [A.C_Pattern] "_limits" (eVar 0)) (eVar 1)) (eC (.int 1))) aNil))))))
def m_Pattern_limits (A : Ad) : MF := runDef 2 1 (f_Pattern_limits A)
theorem ok_Pattern_limits {P : Program} {w : World} {K : PySem.W.Frag} {mg : Str → Option Value} {base : Heap} {A : Ad} {f : Addr} {fd : FuncData} {k : Nat} (F : M.Fun2 K "limits" "Pattern.limits" s_Pattern_limits f fd) (T : Txt K mg A)
    (D_in_order : DefX P w K mg base k "in_order" ["names"] (m_in_order A)) : FnOk P w K mg base (L2.CX P w) (k + 1) f fd ["self"] (spM K (m_Pattern_limits A)) :=
  ok_def (N := ["self", "name"]) (g := f_Pattern_limits A) F sc_Pattern_limits (by decide) fun X W e1 e2 e3 e4 e5 hr hX tk => by
    obtain ⟨cdv, A', outer, sh, H, E, rfl⟩ := hX
    unfold f_Pattern_limits
    exact (ds_one (ds_ret (d_comp (own := [("name", 1)]) false rfl sc_Pattern_limits.nd (di_seq (d_call D_in_order (hr.mono (by omega)) tk rfl (d_cons (d_fld (Cs := [A.C_Pattern]) (cs_cons T.f_Pattern__limits cs_nil) (d_var 0)) d_nil))) (blkOk_by (own := [("name", 1)]) (N := ["self", "name"]) (sc := defScope s_Pattern_limits) (by decide +kernel)) (by decide) (fun _ _ _ _ _ => (dg_name 1 sc_Pattern_limits.nd rfl (Or.inl rfl))) (fun _ _ _ _ _ => dts_nil) (fun _ _ _ _ _ => (d_tup (d_cons (d_var 1) (d_cons (d_ix hr (d_ix hr (d_fld (Cs := [A.C_Pattern]) (cs_cons T.f_Pattern__limits cs_nil) (d_var 0)) (d_var 1)) d_int) (d_cons (d_ix hr (d_ix hr (d_fld (Cs := [A.C_Pattern]) (cs_cons T.f_Pattern__limits cs_nil) (d_var 0)) (d_var 1)) d_int) d_nil))))))))
def f__law_told (A : Ad) : SF := (sSeq (sAsg (eC .non) (fName 2))
    (sSeq (sTry (tstA (xmTab_NoCommon A)) (sAsg (eMeth A.C_Pattern "limits" (m_Pattern_limits A) [] (eOpR A.C_Pattern (m_Pattern___and__ A) (eVar 0) (eVar 1)) aNil) (fName 2)) (sAsg (eC .non) (fName 2)))
    (sRet (eVar 2))))
def m__law_told (A : Ad) : MF := runDef 3 2 (f__law_told A)
theorem ok__law_told {P : Program} {w : World} {K : PySem.W.Frag} {mg : Str → Option Value} {base : Heap} {A : Ad} {f : Addr} {fd : FuncData} {k : Nat} (F : M.Fun2 K "_law_told" "_law_told" s__law_told f fd) (T : Txt K mg A)
    (M_Pattern___and__ : MethX P w K mg base A.C_Pattern k "__and__" ["self", "other"] (m_Pattern___and__ A)) (M_Pattern_limits : MethX P w K mg base A.C_Pattern k "limits" ["self"] (m_Pattern_limits A)) : FnOk P w K mg base (L2.CX P w) (k + 1) f fd ["one", "two"] (spM K (m__law_told A)) :=
  ok_def (N := ["one", "two", "found"]) (g := f__law_told A) F sc__law_told (by decide) fun X W e1 e2 e3 e4 e5 hr hX tk => by
    obtain ⟨cdv, A', outer, sh, H, E, rfl⟩ := hX
    unfold f__law_told
    exact (ds_cons (ds_set 2 sc__law_told.nd rfl (Or.inl rfl) d_non)
    (ds_cons (ds_try rfl rfl ⟨rfl, by decide, .inl T.g_NoCommon⟩ tk T.xm_NoCommon (fun W pn xe tk _ => (ds_one (ds_set 2 sc__law_told.nd rfl (Or.inl rfl) (d_meth0 M_Pattern_limits T.c_Pattern (hr.mono (by omega)) tk (d_opR M_Pattern___and__ T.sf_Pattern (hr.mono (by omega)) tk (d_var 0) (d_var 1)))))) (fun a oe pn => (ds_one (ds_set 2 sc__law_told.nd rfl (Or.inl rfl) d_non))))
    (ds_one (ds_ret (d_var 2)))))
def f__law_kind (A : Ad) : SF := (sSeq (sAsg (eC (.bl false)) (fName 2))
    (sSeq (sTryAs 4 2 (tstA (xmTab_SceneError A)) (resA [(A.C_NoCommon, true)]) (sSeq (sAsg (eOpR A.C_Pattern (m_Pattern___and__ A) (eVar 0) (eVar 1)) (fName 3))
    (sAsg (eB (gIsi (isiTab A)) (aCons (eVar 3) (aCons (eC (.glb A.C_SceneError)) aNil))) (fName 2))))
    (sRet (eVar 2))))
def m__law_kind (A : Ad) : MF := runDef 5 2 (f__law_kind A)
theorem ok__law_kind {P : Program} {w : World} {K : PySem.W.Frag} {mg : Str → Option Value} {base : Heap} {A : Ad} {f : Addr} {fd : FuncData} {k : Nat} (F : M.Fun2 K "_law_kind" "_law_kind" s__law_kind f fd) (T : Txt K mg A)
    (M_Pattern___and__ : MethX P w K mg base A.C_Pattern k "__and__" ["self", "other"] (m_Pattern___and__ A)) : FnOk P w K mg base (L2.CX P w) (k + 1) f fd ["one", "two"] (spM K (m__law_kind A)) :=
  ok_def (N := ["one", "two", "right", "found", "e"]) (g := f__law_kind A) F sc__law_kind (by decide) fun X W e1 e2 e3 e4 e5 hr hX tk => by
    obtain ⟨cdv, A', outer, sh, H, E, rfl⟩ := hX
    unfold f__law_kind
    exact (ds_cons (ds_set 2 sc__law_kind.nd rfl (Or.inl rfl) d_bl)
    (ds_cons (ds_tryAs rfl rfl sc__law_kind.nd rfl rfl ⟨rfl, by decide, .inl T.g_SceneError⟩ tk T.xm_SceneError (fun W pn xe tk _ => (ds_cons (ds_set 3 sc__law_kind.nd rfl (Or.inl rfl) (d_opR M_Pattern___and__ T.sf_Pattern (hr.mono (by omega)) tk (d_var 0) (d_var 1)))
    (ds_one (ds_set 2 sc__law_kind.nd rfl (Or.inl rfl) (d_callB call_isi (sem_isi T.isi) (by rfl) T.z_isinstance (by decide +kernel) (d_cons (d_var 3) (d_cons (d_glob (.glb A.C_SceneError) (fun _ _ => rfl) rfl T.g_SceneError rfl) d_nil))))))) (by decide) (fun a oe D b pn hz hf hm => by
    rcases List.mem_cons.mp hm with hm | hm
    · cases hm
      exact ⟨_, (ds_one (ds_set 2 sc__law_kind.nd rfl (Or.inl rfl) (d_eand (d_callB (call_isE T.ec_NoCommon hz hf) (sem_isE T.ke_NoCommon_NoCommon) (by rfl) T.z_isinstance (by decide +kernel) (d_cons (d_var 4) (d_cons (d_glob (.glb A.C_NoCommon) (fun _ _ => rfl) rfl T.g_NoCommon rfl) d_nil))) (d_eand (d_callB (call_isE T.ec_NoCommon hz hf) (sem_isE T.ke_NoCommon_ValueError) (by rfl) T.z_isinstance (by decide +kernel) (d_cons (d_var 4) (d_cons (d_bltn "ValueError" (by rfl) T.z_ValueError (by decide +kernel)) d_nil))) (d_one (d_enot (d_callB (call_isET T.ec_NoCommon hz hf) (sem_isEM (us := [((.c A.C_TooMany), false), ((.c A.C_InvalidScene), false)]) (DM.ke_cons T.ke_NoCommon_TooMany (DM.ke_cons T.ke_NoCommon_InvalidScene (fun _ m => nomatch m)))) (by rfl) T.z_isinstance (by decide +kernel) (d_cons (d_var 4) (d_cons (d_tup (d_cons (d_glob (.glb A.C_TooMany) (fun _ _ => rfl) rfl T.g_TooMany rfl) (d_cons (d_glob (.glb A.C_InvalidScene) (fun _ _ => rfl) rfl T.g_InvalidScene rfl) d_nil))) d_nil))))))))), fun env st he => DM.ev_asg (DM.ev_and (DM.ev_isE he rfl) (DM.ev_and (DM.ev_isE he rfl) (DM.ev_not (DM.ev_isEM (ds := [.glb A.C_TooMany, .glb A.C_InvalidScene]) he (DM.ev_c (DM.ev_c DM.ev_nil)) (Nat.le_of_ble_eq_true rfl) rfl))))⟩
    exact absurd hm List.not_mem_nil))
    (ds_one (ds_ret (d_var 2)))))
def f__law_is_integer (A : Ad) : SF := (sRet (eAnd (eB (gIsi (isiTab A)) (aCons (eVar 0) (aCons (eC (.ty "int")) aNil))) (eNot (eB (gIsi (isiTab A)) (aCons (eVar 0) (aCons (eC (.ty "bool")) aNil))))))
def m__law_is_integer (A : Ad) : MF := runDef 1 1 (f__law_is_integer A)
theorem ok__law_is_integer {P : Program} {w : World} {K : PySem.W.Frag} {mg : Str → Option Value} {base : Heap} {A : Ad} {f : Addr} {fd : FuncData} {k : Nat} (F : M.Fun2 K "_law_is_integer" "_law_is_integer" s__law_is_integer f fd) (T : Txt K mg A)
     : FnOk P w K mg base (L2.CX P w) (k + 1) f fd ["found"] (spM K (m__law_is_integer A)) :=
  ok_def (N := ["found"]) (g := f__law_is_integer A) F sc__law_is_integer (by decide) fun X W e1 e2 e3 e4 e5 hr hX tk => by
    obtain ⟨cdv, A', outer, sh, H, E, rfl⟩ := hX
    unfold f__law_is_integer
    exact (ds_one (ds_ret (d_eand (d_callB call_isi (sem_isi T.isi) (by rfl) T.z_isinstance (by decide +kernel) (d_cons (d_var 0) (d_cons (d_bltn "int" (by rfl) T.z_int (by decide +kernel)) d_nil))) (d_one (d_enot (d_callB call_isi (sem_isi T.isi) (by rfl) T.z_isinstance (by decide +kernel) (d_cons (d_var 0) (d_cons (d_bltn "bool" (by rfl) T.z_bool (by decide +kernel)) d_nil))))))))
def f__law_is_limit (A : Ad) : SF := (sRet (eOr (eAnd (eOp (oIsN false) (eVar 0) (eC .non)) (eOp (oIsN false) (eVar 1) (eC .non))) (eAnd (eOp (oIsN true) (eVar 1) (eC .non)) (eAnd (eCall (m__law_is_integer A) (aCons (eVar 0) aNil)) (eOp (oEq false) (eVar 0) (eVar 1))))))
def m__law_is_limit (A : Ad) : MF := runDef 2 2 (f__law_is_limit A)
theorem ok__law_is_limit {P : Program} {w : World} {K : PySem.W.Frag} {mg : Str → Option Value} {base : Heap} {A : Ad} {f : Addr} {fd : FuncData} {k : Nat} (F : M.Fun2 K "_law_is_limit" "_law_is_limit" s__law_is_limit f fd) (T : Txt K mg A)
    (D__law_is_integer : DefX P w K mg base k "_law_is_integer" ["found"] (m__law_is_integer A)) : FnOk P w K mg base (L2.CX P w) (k + 1) f fd ["found", "due"] (spM K (m__law_is_limit A)) :=
  ok_def (N := ["found", "due"]) (g := f__law_is_limit A) F sc__law_is_limit (by decide) fun X W e1 e2 e3 e4 e5 hr hX tk => by
    obtain ⟨cdv, A', outer, sh, H, E, rfl⟩ := hX
    unfold f__law_is_limit
    exact (ds_one (ds_ret (d_eor (d_eand (d_cmp op_isN sem_isN (d_var 0) d_non) (d_one (d_cmp op_isN sem_isN (d_var 1) d_non))) (d_one (d_eand (d_cmp op_notN sem_notN (d_var 1) d_non) (d_eand (d_call D__law_is_integer (hr.mono (by omega)) tk rfl (d_cons (d_var 0) d_nil)) (d_one (d_cmp (op_eqU hr) sem_eq (d_var 0) (d_var 1)))))))))
def f__law_same_limits (A : Ad) : SF := (sSeq (sIf (cOr (cNot (cB (eB (gIsi (isiTab A)) (aCons (eVar 0) (aCons (eC (.ty "list")) aNil))))) (cB (eOp (oEq true) (eB gLen (aCons (eVar 0) aNil)) (eB gLen (aCons (eVar 1) aNil))))) (sRet (eC (.bl false))) sNext)
    (sSeq (sFor (iRange (aCons (eB gLen (aCons (eVar 1) aNil)) aNil)) (fName 2) (sSeq (sAsg (eOp oIx (eVar 0) (eVar 2)) (fName 3))
    (sSeq (sIf (cOr (cNot (cB (eB (gIsi (isiTab A)) (aCons (eVar 3) (aCons (eC (.ty "tuple")) aNil))))) (cOr (cB (eOp (oEq true) (eB gLen (aCons (eVar 3) aNil)) (eC (.int 3)))) (cNot (cB (eB (gIsi (isiTab A)) (aCons (eOp oIx (eVar 3) (eC (.int 0))) (aCons (eC (.ty "str")) aNil))))))) (sRet (eC (.bl false))) sNext)
    (sIf (cOr (cB (eOp (oEq true) (eOp oIx (eVar 3) (eC (.int 0))) (eOp oIx (eOp oIx (eVar 1) (eVar 2)) (eC (.int 0))))) (cOr (cNot (cB (eCall (m__law_is_limit A) (aCons (eOp oIx (eVar 3) (eC (.int 1))) (aCons (eOp oIx (eOp oIx (eVar 1) (eVar 2)) (eC (.int 1))) aNil))))) (cNot (cB (eCall (m__law_is_limit A) (aCons (eOp oIx (eVar 3) (eC (.int 2))) (aCons (eOp oIx (eOp oIx (eVar 1) (eVar 2)) (eC (.int 2))) aNil))))))) (sRet (eC (.bl false))) sNext))))
    (sRet (eC (.bl true)))))
def m__law_same_limits (A : Ad) : MF := runDef 4 2 (f__law_same_limits A)
theorem ok__law_same_limits {P : Program} {w : World} {K : PySem.W.Frag} {mg : Str → Option Value} {base : Heap} {A : Ad} {f : Addr} {fd : FuncData} {k : Nat} (F : M.Fun2 K "_law_same_limits" "_law_same_limits" s__law_same_limits f fd) (T : Txt K mg A)
    (D__law_is_limit : DefX P w K mg base k "_law_is_limit" ["found", "due"] (m__law_is_limit A)) : FnOk P w K mg base (L2.CX P w) (k + 1) f fd ["found", "due"] (spM K (m__law_same_limits A)) :=
  ok_def (N := ["found", "due", "k", "limit"]) (g := f__law_same_limits A) F sc__law_same_limits (by decide) fun X W e1 e2 e3 e4 e5 hr hX tk => by
    obtain ⟨cdv, A', outer, sh, H, E, rfl⟩ := hX
    unfold f__law_same_limits
    exact (ds_cons (ds_if (PW.pt (d_or (d_tnot (d_tval (d_callB call_isi (sem_isi T.isi) (by rfl) T.z_isinstance (by decide +kernel) (d_cons (d_var 0) (d_cons (d_bltn "list" (by rfl) T.z_list (by decide +kernel)) d_nil))))) (d_or1 (d_tcmp (op_neU hr) sem_ne (d_callB call_lenU sem_len (by rfl) T.z_len (by decide +kernel) (d_cons (d_var 0) d_nil)) (d_callB call_lenU sem_len (by rfl) T.z_len (by decide +kernel) (d_cons (d_var 1) d_nil))))))
      (ds_one (ds_ret d_bl))
      ds_nil)
    (ds_cons (ds_for (passes_of rfl) rfl (di_range1 rfl T.z_range (d_cons (d_callB call_lenU sem_len (by rfl) T.z_len (by decide +kernel) (d_cons (d_var 1) d_nil)) d_nil)) (dg_name 2 sc__law_same_limits.nd rfl (Or.inl rfl))
      (ds_cons (ds_set 3 sc__law_same_limits.nd rfl (Or.inl rfl) (d_ix hr (d_var 0) (d_var 2)))
    (ds_cons (ds_if (PW.pt (d_or (d_tnot (d_tval (d_callB call_isi (sem_isi T.isi) (by rfl) T.z_isinstance (by decide +kernel) (d_cons (d_var 3) (d_cons (d_bltn "tuple" (by rfl) T.z_tuple (by decide +kernel)) d_nil))))) (d_or (d_tcmp (op_neU hr) sem_ne (d_callB call_lenU sem_len (by rfl) T.z_len (by decide +kernel) (d_cons (d_var 3) d_nil)) d_int) (d_or1 (d_tnot (d_tval (d_callB call_isi (sem_isi T.isi) (by rfl) T.z_isinstance (by decide +kernel) (d_cons (d_ix hr (d_var 3) d_int) (d_cons (d_bltn "str" (by rfl) T.z_str (by decide +kernel)) d_nil)))))))))
      (ds_one (ds_ret d_bl))
      ds_nil)
    (ds_one (ds_if (PW.pt (d_or (d_tcmp (op_neU hr) sem_ne (d_ix hr (d_var 3) d_int) (d_ix hr (d_ix hr (d_var 1) (d_var 2)) d_int)) (d_or (d_tnot (d_tval (d_call D__law_is_limit (hr.mono (by omega)) tk rfl (d_cons (d_ix hr (d_var 3) d_int) (d_cons (d_ix hr (d_ix hr (d_var 1) (d_var 2)) d_int) d_nil))))) (d_or1 (d_tnot (d_tval (d_call D__law_is_limit (hr.mono (by omega)) tk rfl (d_cons (d_ix hr (d_var 3) d_int) (d_cons (d_ix hr (d_ix hr (d_var 1) (d_var 2)) d_int) d_nil)))))))))
      (ds_one (ds_ret d_bl))
      ds_nil)))))
    (ds_one (ds_ret d_bl))))
def f__law_listed (A : Ad) : SF := (sSeq (sAsg (eComp false [2] (iSeq (eB (gSorted false) (aCons (eCompD [4] (pVar 0) (fun ks _ => ks.map keyD) (fName 4) cYes (eB gStr (aCons (eVar 4) aNil))) aNil))) (fName 2) cYes (eTup (aCons (eVar 2) (aCons (eOp oIx (eOp oIx (eVar 0) (eVar 2)) (eC (.int 0))) (aCons (eOp oIx (eOp oIx (eVar 0) (eVar 2)) (eC (.int 1))) aNil))))) (fName 1))
    (sRet (eComp false [3] (iSeq (eVar 1)) (fName 3) (cOr (cB (eOp (oIsN true) (eOp oIx (eVar 3) (eC (.int 1))) (eC .non))) (cB (eOp (oIsN true) (eOp oIx (eVar 3) (eC (.int 2))) (eC .non)))) (eVar 3))))
def m__law_listed (A : Ad) : MF := runDef 5 1 (f__law_listed A)
theorem ok__law_listed {P : Program} {w : World} {K : PySem.W.Frag} {mg : Str → Option Value} {base : Heap} {A : Ad} {f : Addr} {fd : FuncData} {k : Nat} (F : M.Fun2 K "_law_listed" "_law_listed" s__law_listed f fd) (T : Txt K mg A)
     : FnOk P w K mg base (L2.CX P w) (k + 1) f fd ["limits"] (spM K (m__law_listed A)) :=
  ok_def (N := ["limits", "listed", "name", "limit", "n"]) (g := f__law_listed A) F sc__law_listed (by decide) fun X W e1 e2 e3 e4 e5 hr hX tk => by
    obtain ⟨cdv, A', outer, sh, H, E, rfl⟩ := hX
    unfold f__law_listed
    exact (ds_cons (ds_setComp (i := 1) (own := [("name", 2)]) false rfl sc__law_listed.nd rfl rfl (sw_true rfl rfl rfl (by decide +kernel)) (di_seq (d_callB cr_sortedS (sem_sorted (m := false)) (by rfl) T.z_sorted (by decide +kernel) (d_cons (d_compD (own := [("n", 4)]) rfl sc__law_listed.nd (pi_keys (pe_var (i := 0) rfl (by first | exact Or.inl rfl | exact Or.inr (Or.inl rfl) | exact Or.inr (Or.inr rfl)))) (prd_var 0) wd_keys (blkOk_by (own := [("n", 4)]) (N := ["limits", "listed", "name", "limit", "n"]) (sc := defScope s__law_listed) (by decide +kernel)) (by decide) (fun _ _ _ _ _ => (dg_name 4 sc__law_listed.nd rfl (Or.inl rfl))) (fun _ _ _ _ _ => dts_nil) (fun _ _ _ _ _ => (d_callTy SkE.call_str_str sem_str (by rfl) T.z_str (by decide +kernel) (d_cons (d_var 4) d_nil)))) d_nil))) (blkOk_by (own := [("name", 2)]) (N := ["limits", "listed", "name", "limit", "n"]) (sc := defScope s__law_listed) (by decide +kernel)) (by decide) (fun _ _ _ _ _ => (dg_name 2 sc__law_listed.nd rfl (Or.inl rfl))) (fun _ _ _ _ _ => dts_nil) (fun _ _ _ _ _ => (d_tup (d_cons (d_var 2) (d_cons (d_ix hr (d_ix hr (d_var 0) (d_var 2)) d_int) (d_cons (d_ix hr (d_ix hr (d_var 0) (d_var 2)) d_int) d_nil))))))
    (ds_one (ds_ret (d_comp (own := [("limit", 3)]) false rfl sc__law_listed.nd (di_seq (d_var 1)) (blkOk_by (own := [("limit", 3)]) (N := ["limits", "listed", "name", "limit", "n"]) (sc := defScope s__law_listed) (by decide +kernel)) (by decide) (fun _ _ _ _ _ => (dg_name 3 sc__law_listed.nd rfl (Or.inl rfl))) (fun _ _ _ _ _ => (dts_one (PW.pt (d_or (d_tcmp op_notN sem_notN (d_ix hr (d_var 3) d_int) d_non) (d_or1 (d_tcmp op_notN sem_notN (d_ix hr (d_var 3) d_int) d_non)))))) (fun _ _ _ _ _ => (d_var 3))))))
def f_Pattern___eq__ (A : Ad) : SF := (sRet (eAnd (eB (gIsi (isiTab A)) (aCons (eVar 1) (aCons (eC (.glb A.C_Pattern)) aNil))) (eOp (oEq false) (eFld [A.C_Pattern] "_limits" (eVar 0)) (eFld [A.C_Pattern] "_limits" (eVar 1)))))
def m_Pattern___eq__ (A : Ad) : MF := runDef 2 2 (f_Pattern___eq__ A)
theorem ok_Pattern___eq__ {P : Program} {w : World} {K : PySem.W.Frag} {mg : Str → Option Value} {base : Heap} {A : Ad} {f : Addr} {fd : FuncData} {k : Nat} (F : M.Fun2 K "__eq__" "Pattern.__eq__" s_Pattern___eq__ f fd) (T : Txt K mg A)
     : FnOk P w K mg base (L2.CX P w) (k + 1) f fd ["self", "other"] (spM K (m_Pattern___eq__ A)) :=
  ok_def (N := ["self", "other"]) (g := f_Pattern___eq__ A) F sc_Pattern___eq__ (by decide) fun X W e1 e2 e3 e4 e5 hr hX tk => by
    obtain ⟨cdv, A', outer, sh, H, E, rfl⟩ := hX
    unfold f_Pattern___eq__
    exact (ds_one (ds_ret (d_eand (d_callB call_isi (sem_isi T.isi) (by rfl) T.z_isinstance (by decide +kernel) (d_cons (d_var 1) (d_cons (d_glob (.glb A.C_Pattern) (fun _ _ => rfl) rfl T.g_Pattern rfl) d_nil))) (d_one (d_cmp (op_eqU hr) sem_eq (d_fld (Cs := [A.C_Pattern]) (cs_cons T.f_Pattern__limits cs_nil) (d_var 0)) (d_fld (Cs := [A.C_Pattern]) (cs_cons T.f_Pattern__limits cs_nil) (d_var 1)))))))
def f_law (A : Ad) : SF := (sSeq (sFor (iSeq (eOp (oAdd false) (eLst false (aCons (eC (.int 0)) aNil)) (eVar 0))) (fName 1) (sSeq (sAsg (eCall (m__law_pool A) (aCons (eVar 1) aNil)) (fName 2))
    (sSeq (sAsg (eOp (oEq false) (eCall (m__law_draw A) (aCons (eVar 2) (aCons (eC (.int 3)) aNil))) (eC (.int 2))) (fName 3))
    (sSeq (sAsg (eLst false (aCons (eCall (m__law_draw A) (aCons (eVar 2) (aCons (eC (.int 7)) aNil))) (aCons (eCall (m__law_draw A) (aCons (eVar 2) (aCons (eC (.int 7)) aNil))) aNil))) (fName 4))
    (sSeq (sAsg (eCall (m__law_far A) (aCons (eVar 2) aNil)) (fName 5))
    (sSeq (sAsg (eCall (m__law_names A) (aCons (eVar 2) (aCons (eC (.int 6)) aNil))) (fName 6))
    (sSeq (sAsg (eCall (m__law_limits A) (aCons (eVar 2) (aCons (eSl false (eVar 6) pNo (pIn (eOp oIx (eVar 4) (eC (.int 0))))) (aCons (eVar 5) aNil)))) (fName 7))
    (sSeq (sAsg (eCall (m__law_limits A) (aCons (eVar 2) (aCons (eSl false (eVar 6) (pIn (eOp oSub (eC (.int 6)) (eOp oIx (eVar 4) (eC (.int 1))))) pNo) (aCons (eVar 5) aNil)))) (fName 8))
    (sSeq (sIf (cB (eVar 3)) (sAsg (eCall (m__law_behind A) (aCons (eVar 2) (aCons (eVar 7) (aCons (eVar 8) aNil)))) (fName 8)) sNext)
    (sSeq (sFrz 2) (sSeq (sAsg (eMake A.C_Pattern (m_Pattern___init__ A) false [] (aCons (eB (gDict false) (aCons (eVar 7) aNil)) aNil)) (fName 9))
    (sSeq (sAsg (eMake A.C_Pattern (m_Pattern___init__ A) false [] (aCons (eB (gDict false) (aCons (eVar 8) aNil)) aNil)) (fName 10))
    (sSeq (sAsg (eCall (m__law_both A) (aCons (eVar 7) (aCons (eVar 8) aNil))) (fName 11))
    (sSeq (sFor (iSeq (eLst false (aCons (eTup (aCons (eVar 9) (aCons (eVar 10) aNil))) (aCons (eTup (aCons (eVar 10) (aCons (eVar 9) aNil))) aNil)))) (fTup (fCons (fName 12) (fCons (fName 13) fNil))) (sSeq (sAsg (eCall (m__law_told A) (aCons (eVar 12) (aCons (eVar 13) aNil))) (fName 14))
    (sSeq (sIf (cAnd (cB (eOp (oIsN false) (eVar 11) (eC .non))) (cOr (cB (eOp (oIsN true) (eVar 14) (eC .non))) (cNot (cB (eCall (m__law_kind A) (aCons (eVar 12) (aCons (eVar 13) aNil))))))) (sRet (eC (.bl false))) sNext)
    (sIf (cAnd (cB (eOp (oIsN true) (eVar 11) (eC .non))) (cNot (cB (eCall (m__law_same_limits A) (aCons (eVar 14) (aCons (eCall (m__law_listed A) (aCons (eVar 11) aNil)) aNil)))))) (sRet (eC (.bl false))) sNext))))
    (sSeq (sIf (cAnd (cB (eOp (oIsN true) (eVar 11) (eC .non))) (cNot (cB (eOp (oOwn2 A.C_Pattern A.C_Pattern (m_Pattern___eq__ A)) (eOpR A.C_Pattern (m_Pattern___and__ A) (eVar 9) (eVar 10)) (eOpR A.C_Pattern (m_Pattern___and__ A) (eVar 10) (eVar 9)))))) (sRet (eC (.bl false))) sNext)
    (sSeq (sIf (cNot (cB (eCall (m__law_same_limits A) (aCons (eMeth A.C_Pattern "limits" (m_Pattern_limits A) [] (eVar 9) aNil) (aCons (eCall (m__law_listed A) (aCons (eVar 7) aNil)) aNil))))) (sRet (eC (.bl false))) sNext)
    (sIf (cNot (cB (eCall (m__law_same_limits A) (aCons (eMeth A.C_Pattern "limits" (m_Pattern_limits A) [] (eVar 10) aNil) (aCons (eCall (m__law_listed A) (aCons (eVar 8) aNil)) aNil))))) (sRet (eC (.bl false))) sNext)))))))))))))))))
    (sSeq (sFrz 2) (sRet (eC (.bl true)))))
def m_law (A : Ad) : MF := runDef 15 1 (f_law A)
theorem ok_law {P : Program} {w : World} {K : PySem.W.Frag} {mg : Str → Option Value} {base : Heap} {A : Ad} {f : Addr} {fd : FuncData} {k : Nat} (F : M.Fun2 K "law" "law" s_law f fd) (T : Txt K mg A)
    (D__law_pool : DefX P w K mg base k "_law_pool" ["cell"] (m__law_pool A)) (D__law_draw : DefX P w K mg base k "_law_draw" ["pool", "many"] (m__law_draw A)) (D__law_far : DefX P w K mg base k "_law_far" ["pool"] (m__law_far A)) (D__law_names : DefX P w K mg base k "_law_names" ["pool", "many"] (m__law_names A)) (D__law_limits : DefX P w K mg base k "_law_limits" ["pool", "names", "far"] (m__law_limits A)) (D__law_behind : DefX P w K mg base k "_law_behind" ["pool", "one", "two"] (m__law_behind A)) (I_Pattern : InitX P w K mg base "Pattern" A.C_Pattern k ["self", "limits"] (m_Pattern___init__ A) []) (D__law_both : DefX P w K mg base k "_law_both" ["one", "two"] (m__law_both A)) (D__law_told : DefX P w K mg base k "_law_told" ["one", "two"] (m__law_told A)) (D__law_kind : DefX P w K mg base k "_law_kind" ["one", "two"] (m__law_kind A)) (D__law_same_limits : DefX P w K mg base k "_law_same_limits" ["found", "due"] (m__law_same_limits A)) (D__law_listed : DefX P w K mg base k "_law_listed" ["limits"] (m__law_listed A)) (M_Pattern___eq__ : MethX P w K mg base A.C_Pattern k "__eq__" ["self", "other"] (m_Pattern___eq__ A)) (M_Pattern___and__ : MethX P w K mg base A.C_Pattern k "__and__" ["self", "other"] (m_Pattern___and__ A)) (M_Pattern_limits : MethX P w K mg base A.C_Pattern k "limits" ["self"] (m_Pattern_limits A)) : FnOk P w K mg base (L2.CX P w) (k + 1 + 1) f fd ["script"] (spM K (m_law A)) :=
  ok_def (N := ["script", "cell", "pool", "behind", "sizes", "far", "names", "one", "two", "first", "second", "due", "a", "b", "found"]) (g := f_law A) F sc_law (by decide) fun X W e1 e2 e3 e4 e5 hr hX tk => by
    obtain ⟨cdv, A', outer, sh, H, E, rfl⟩ := hX
    unfold f_law
    exact (ds_cons (ds_for (passes_of rfl) rfl (di_seq (d_op op_addU (sem_addU (m := false)) (d_lst false (d_cons d_int d_nil)) (d_var 0))) (dg_name 1 sc_law.nd rfl (Or.inl rfl))
      (ds_cons (ds_set 2 sc_law.nd rfl (Or.inl rfl) (d_call D__law_pool (hr.mono (by omega)) tk rfl (d_cons (d_var 1) d_nil)))
    (ds_cons (ds_set 3 sc_law.nd rfl (Or.inl rfl) (d_cmp (op_eqU hr) sem_eq (d_call D__law_draw (hr.mono (by omega)) tk rfl (d_cons (d_var 2) (d_cons d_int d_nil))) d_int))
    (ds_cons (ds_set 4 sc_law.nd rfl (Or.inl rfl) (d_lst false (d_cons (d_call D__law_draw (hr.mono (by omega)) tk rfl (d_cons (d_var 2) (d_cons d_int d_nil))) (d_cons (d_call D__law_draw (hr.mono (by omega)) tk rfl (d_cons (d_var 2) (d_cons d_int d_nil))) d_nil))))
    (ds_cons (ds_set 5 sc_law.nd rfl (Or.inl rfl) (d_call D__law_far (hr.mono (by omega)) tk rfl (d_cons (d_var 2) d_nil)))
    (ds_cons (ds_set 6 sc_law.nd rfl (Or.inl rfl) (d_call D__law_names (hr.mono (by omega)) tk rfl (d_cons (d_var 2) (d_cons d_int d_nil))))
    (ds_cons (ds_set 7 sc_law.nd rfl (Or.inl rfl) (d_call D__law_limits (hr.mono (by omega)) tk rfl (d_cons (d_var 2) (d_cons (d_slice false (d_var 6) dp_no (dp_in (d_ix hr (d_var 4) d_int))) (d_cons (d_var 5) d_nil)))))
    (ds_cons (ds_set 8 sc_law.nd rfl (Or.inl rfl) (d_call D__law_limits (hr.mono (by omega)) tk rfl (d_cons (d_var 2) (d_cons (d_slice false (d_var 6) (dp_in (d_op op_sub sem_sub d_int (d_ix hr (d_var 4) d_int))) dp_no) (d_cons (d_var 5) d_nil)))))
    (ds_cons (ds_if (d_tval (d_var 3))
      (ds_one (ds_set 8 sc_law.nd rfl (Or.inl rfl) (d_call D__law_behind (hr.mono (by omega)) tk rfl (d_cons (d_var 2) (d_cons (d_var 7) (d_cons (d_var 8) d_nil))))))
      ds_nil)
    (ds_frz 2 (ds_cons (ds_set 9 sc_law.nd rfl (Or.inl rfl) (d_make (dfl := []) false I_Pattern (hr.mono (by omega)) tk rfl (d_cons (d_callTy call_dictD (sem_dict (m := false)) (by rfl) T.z_dict (by decide +kernel) (d_cons (d_var 7) d_nil)) d_nil)))
    (ds_cons (ds_set 10 sc_law.nd rfl (Or.inl rfl) (d_make (dfl := []) false I_Pattern (hr.mono (by omega)) tk rfl (d_cons (d_callTy call_dictD (sem_dict (m := false)) (by rfl) T.z_dict (by decide +kernel) (d_cons (d_var 8) d_nil)) d_nil)))
    (ds_cons (ds_set 11 sc_law.nd rfl (Or.inl rfl) (d_call D__law_both (hr.mono (by omega)) tk rfl (d_cons (d_var 7) (d_cons (d_var 8) d_nil))))
    (ds_cons (ds_for (passes_of rfl) rfl (di_seq (d_lst false (d_cons (d_tup (d_cons (d_var 9) (d_cons (d_var 10) d_nil))) (d_cons (d_tup (d_cons (d_var 10) (d_cons (d_var 9) d_nil))) d_nil)))) (dg_tup rfl (dgs_cons (dg_name 12 sc_law.nd rfl (Or.inl rfl)) (dgs_cons (dg_name 13 sc_law.nd rfl (Or.inl rfl)) dgs_nil)) (hgn := (fCons_len (fCons_len fNil_len))))
      (ds_cons (ds_set 14 sc_law.nd rfl (Or.inl rfl) (d_call D__law_told (hr.mono (by omega)) tk rfl (d_cons (d_var 12) (d_cons (d_var 13) d_nil))))
    (ds_cons (ds_if (PW.pt (d_and (d_tcmp op_isN sem_isN (d_var 11) d_non) (d_and1 (PW.pt (d_or (d_tcmp op_notN sem_notN (d_var 14) d_non) (d_or1 (d_tnot (d_tval (d_call D__law_kind (hr.mono (by omega)) tk rfl (d_cons (d_var 12) (d_cons (d_var 13) d_nil)))))))))))
      (ds_one (ds_ret d_bl))
      ds_nil)
    (ds_one (ds_if (PW.pt (d_and (d_tcmp op_notN sem_notN (d_var 11) d_non) (d_and1 (d_tnot (d_tval (d_call D__law_same_limits (hr.mono (by omega)) tk rfl (d_cons (d_var 14) (d_cons (d_call D__law_listed (hr.mono (by omega)) tk rfl (d_cons (d_var 11) d_nil)) d_nil))))))))
      (ds_one (ds_ret d_bl))
      ds_nil)))))
    (ds_cons (ds_if (PW.pt (d_and (d_tcmp op_notN sem_notN (d_var 11) d_non) (d_and1 (d_tnot (d_tcmp (op_cmpO (op := .Eq) M_Pattern___eq__.mo (hr.mono (by omega))) (sem_ownC M.nf_self) (d_opR M_Pattern___and__ T.sf_Pattern (hr.mono (by omega)) tk (d_var 9) (d_var 10)) (d_opR M_Pattern___and__ T.sf_Pattern (hr.mono (by omega)) tk (d_var 10) (d_var 9)))))))
      (ds_one (ds_ret d_bl))
      ds_nil)
    (ds_cons (ds_if (d_tnot (d_tval (d_call D__law_same_limits (hr.mono (by omega)) tk rfl (d_cons (d_meth0 M_Pattern_limits T.c_Pattern (hr.mono (by omega)) tk (d_var 9)) (d_cons (d_call D__law_listed (hr.mono (by omega)) tk rfl (d_cons (d_var 7) d_nil)) d_nil)))))
      (ds_one (ds_ret d_bl))
      ds_nil)
    (ds_one (ds_if (d_tnot (d_tval (d_call D__law_same_limits (hr.mono (by omega)) tk rfl (d_cons (d_meth0 M_Pattern_limits T.c_Pattern (hr.mono (by omega)) tk (d_var 10)) (d_cons (d_call D__law_listed (hr.mono (by omega)) tk rfl (d_cons (d_var 8) d_nil)) d_nil)))))
      (ds_one (ds_ret d_bl))
      ds_nil))))))))))))))))))
    (ds_frz 2 (ds_one (ds_ret d_bl))))
end G
local macro_rules | `(tactic| walk_at "ne") => `(tactic| first
  | assumption
  | omega
  | (simp only [DM.nx_set, DM.nx_push, DM.nx_del, DM.nx_bump, ne_eq]; omega)
  | (refine Ne.symm ?_; assumption)
  | (unfold DM.Stx.push DM.Stx.set DM.Stx.del; dsimp only; omega))
local macro_rules | `(tactic| walk_at "lt") => `(tactic| first
  | assumption
  | omega
  | (simp only [DM.nx_set, DM.nx_push, DM.nx_del, DM.nx_bump]; omega)
  | decide)
local macro_rules | `(tactic| walk_at "at") => `(tactic| first
  | assumption
  | with_reducible exact DM.set_at
  | with_reducible exact DM.push_at
  | ((with_reducible refine (DM.push_ne ?_).trans ?_); walk_at "ne"; walk_at "at")
  | ((with_reducible refine (DM.set_ne ?_).trans ?_); walk_at "ne"; walk_at "at")
  | ((with_reducible refine (DM.del_ne ?_).trans ?_); walk_at "ne"; walk_at "at")
  | ((with_reducible refine (DM.at_bump).trans ?_); walk_at "at")
  | exact DM.push_at)
local macro_rules | `(tactic| walk_at "ls") => `(tactic| first
  | assumption
  | with_reducible exact DM.ls_v
  | ((with_reducible apply DM.ls_p); walk_at "at")
  | exact rfl)
local macro_rules | `(tactic| walk_at "dc") => `(tactic| first
  | assumption
  | with_reducible exact DM.dc_v
  | ((with_reducible apply DM.dc_p); walk_at "at"))
local macro_rules | `(tactic| walk_at "ob") => `(tactic| first
  | assumption
  | with_reducible exact DM.ob_v
  | ((with_reducible apply DM.ob_p); walk_at "at"))
local macro_rules | `(tactic| walk_at "tg") => `(tactic| first
  | ((with_reducible apply DM.tg_l); walk_at "at")
  | ((with_reducible apply DM.tg_o); walk_at "at")
  | exact rfl
  | assumption)
local macro_rules | `(tactic| walk_at "cp") => `(tactic| first
  | assumption
  | decide
  | (simp only [DM.cap, List.length_map, List.length_cons, List.length_nil, List.length_append, DM.sortS_len, DM.irng_len]; omega))
local macro_rules | `(tactic| walk_at "tv") => `(tactic| focus (first
  | with_reducible rfl
  | assumption
  | decide
  | exact rfl
  | (simp only [decide_eq_true_eq, decide_eq_false_iff_not, beq_iff_eq, beq_eq_false_iff_ne, ne_eq, Bool.not_eq_true', Bool.not_eq_false', Bool.not_not, Bool.not_true, Bool.not_false, beq_self_eq_true, Bool.false_eq_true, Bool.true_eq_false, not_true, not_false_eq_true, reduceCtorEq]; done)
  | (simp only [decide_eq_true_eq, decide_eq_false_iff_not, beq_iff_eq, beq_eq_false_iff_ne, ne_eq, Bool.not_eq_true', Bool.not_eq_false']; first | assumption | omega)))
local macro_rules | `(tactic| walk_at "av") => `(tactic| first
  | with_reducible exact DM.allV_nil
  | ((with_reducible apply DM.allV_cons); walk_at "av"))
local macro_rules | `(tactic| walk_at "key") => `(tactic| first | exact rfl | assumption)
local macro_rules | `(tactic| walk_at "f1") => `(tactic| first
  | (with_reducible apply DM.w_seq)
  | (with_reducible apply DM.w_seq_rt)
  | (with_reducible apply DM.w_cut_nx)
  | (with_reducible apply DM.w_cut_rt)
  | (with_reducible apply DM.w_cut_bk)
  | (with_reducible apply DM.w_cut_ct)
  | (with_reducible apply DM.w_seq_bk)
  | (with_reducible apply DM.w_seq_ct)
  | (with_reducible apply DM.w_asgN)
  | (with_reducible apply DM.w_asg)
  | ((with_reducible apply DM.w_asgK); exact rfl)
  | (with_reducible apply DM.w_if)
  | ((with_reducible apply DM.w_var); with_unfolding_all exact rfl)
  | (with_reducible apply DM.w_c)
  | (with_reducible apply DM.w_op)
  | (with_reducible apply DM.w_nil)
  | (with_reducible apply DM.w_cons)
  | (with_reducible apply DM.w_cB)
  | (with_reducible apply DM.w_blK)
  | (with_reducible apply DM.w_call)
  | (with_reducible apply DM.w_B)
  | (with_reducible apply DM.w_lst)
  | ((with_reducible apply DM.w_lst_t); walk_at "av"; walk_at "cp")
  | ((with_reducible apply DM.w_lst_f); walk_at "av"; walk_at "cp")
  | (with_reducible apply DM.w_tup)
  | ((with_reducible apply DM.w_tupK); walk_at "av"; walk_at "cp")
  | (with_reducible apply DM.w_dnew_t)
  | (with_reducible apply DM.w_dnew_f)
  | (with_reducible apply DM.w_ret)
  | (with_reducible apply DM.w_retN)
  | (with_reducible apply DM.w_next)
  | (with_reducible apply DM.w_expr)
  | (with_reducible apply DM.w_not)
  | (with_reducible apply DM.w_and)
  | (with_reducible apply DM.w_or)
  | (with_reducible apply DM.w_ok)
  | (with_reducible apply DM.w_eand)
  | (with_reducible apply DM.w_eor)
  | (with_reducible apply DM.w_enot)
  | (with_reducible apply DM.w_ife)
  | (with_reducible apply DM.w_pNo)
  | (with_reducible apply DM.w_pIn)
  | (with_reducible apply DM.w_intK)
  | (with_reducible apply DM.w_strK)
  | (with_reducible apply DM.w_neg)
  | (with_reducible apply DM.w_sl)
  | (with_reducible apply DM.l_lt)
  | (with_reducible apply DM.l_le)
  | (with_reducible apply DM.l_gt)
  | (with_reducible apply DM.l_ge)
  | (with_reducible apply DM.l_sub)
  | (with_reducible apply DM.l_add)
  | (with_reducible apply DM.l_eqI)
  | (with_reducible apply DM.l_neI)
  | (with_reducible apply DM.l_eqB)
  | (with_reducible apply DM.l_neB)
  | (with_reducible apply DM.l_isN)
  | (with_reducible apply DM.l_notN)
  | (with_reducible apply DM.l_isB)
  | ((with_reducible apply DM.l_isi); walk_at "tg"; exact rfl; exact rfl)
  | ((with_reducible apply DM.l_isiT); walk_at "tg"; exact rfl; (focus (simp [G.isiTab, DM.isiT, *]; done)))
  | ((with_reducible apply DM.l_isiF); walk_at "tg"; exact rfl; (focus (simp [G.isiTab, DM.isiT, *]; done)))
  | (with_reducible apply DM.l_int)
  | (with_reducible apply DM.l_intB)
  | (with_reducible apply DM.l_str)
  | (with_reducible apply DM.l_abs)
  | (with_reducible apply DM.l_min2)
  | (with_reducible apply DM.l_lenT)
  | ((with_reducible apply DM.l_lenL); walk_at "ls")
  | ((with_reducible apply DM.l_lenD); walk_at "dc")
  | ((with_reducible apply DM.l_ixT); exact rfl)
  | ((with_reducible apply DM.l_ixL); walk_at "ls"; first | assumption | exact rfl)
  | ((with_reducible apply DM.l_ixD); walk_at "dc"; exact rfl; first | assumption | exact rfl)
  | ((with_reducible apply DM.l_inD); walk_at "dc"; exact rfl)
  | ((with_reducible apply DM.l_addL_t); walk_at "ls"; walk_at "ls"; walk_at "cp")
  | ((with_reducible apply DM.l_addL_f); walk_at "ls"; walk_at "ls"; walk_at "cp")
  | ((with_reducible apply DM.l_listL_t); walk_at "ls"; walk_at "cp")
  | ((with_reducible apply DM.l_listL_f); walk_at "ls"; walk_at "cp")
  | ((with_reducible apply DM.l_listD_t); walk_at "dc"; walk_at "cp")
  | ((with_reducible apply DM.l_listD_f); walk_at "dc"; walk_at "cp")
  | ((with_reducible apply DM.l_dict_t); walk_at "dc"; walk_at "cp")
  | ((with_reducible apply DM.l_dict_f); walk_at "dc"; walk_at "cp")
  | ((with_reducible apply DM.l_slL_t); walk_at "ls"; walk_at "cp")
  | ((with_reducible apply DM.l_slL_f); walk_at "ls"; walk_at "cp")
  | (with_reducible apply DM.w_okLc_t)
  | (with_reducible apply DM.w_okLc_f)
  | ((with_reducible apply DM.w_okD_f); (first | walk_at "cp" | exact Nat.le_of_ble_eq_true rfl))
  | ((with_reducible apply DM.w_okD_t); walk_at "cp")
  | ((with_reducible apply DM.l_append); walk_at "at"; walk_at "cp")
  | ((with_reducible apply DM.w_iteT); (walk_at "tv"))
  | ((with_reducible apply DM.w_iteF); (walk_at "tv"))
  | ((with_reducible apply DM.wS_iteT); (walk_at "tv"))
  | ((with_reducible apply DM.wS_iteF); (walk_at "tv"))
  | ((with_reducible apply DM.w_pifT); (walk_at "tv"))
  | ((with_reducible apply DM.w_pifF); (walk_at "tv"))
  | (with_reducible apply DM.w_for)
  | (with_reducible apply DM.w_iSeq)
  | (with_reducible apply DM.w_iSeqL)
  | ((with_reducible apply DM.w_seqL); assumption)
  | ((with_reducible apply DM.l_insert); walk_at "at"; walk_at "cp"; walk_at "cp")
  | (with_reducible apply DM.w_iRange)
  | (with_reducible apply DM.w_iArgs)
  | (with_reducible apply DM.l_rev)
  | (with_reducible apply DM.w_comp)
  | (with_reducible apply DM.w_seqv)
  | (with_reducible apply DM.w_seqt)
  | ((with_reducible apply DM.w_rng1); (first | decide | omega); (first | decide | (simp only [DM.cap]; omega)))
  | ((with_reducible apply DM.w_fldK); walk_at "ob"; exact rfl)
  | ((with_reducible apply DM.w_methK); walk_at "ob"; decide)
  | ((with_reducible apply DM.w_getK0); walk_at "dc")
  | ((with_reducible apply DM.w_getK); walk_at "dc"; exact rfl)
  | ((with_reducible apply DM.w_starK0); walk_at "dc")
  | ((with_reducible apply DM.w_starK); exact rfl)
  | (with_reducible apply DM.w_setK0)
  | ((with_reducible apply DM.w_setK); walk_at "at"; decide)
  | (with_reducible apply DM.w_brk)
  | (with_reducible apply DM.w_cont)
  | (with_reducible apply DM.w_turn_nx)
  | (with_reducible apply DM.w_turn_ct)
  | (with_reducible apply DM.w_turn_bk)
  | (with_reducible apply DM.w_turn_rt)
  | (with_reducible apply DM.w_put)
  | (with_reducible apply DM.w_putO)
  | (with_reducible apply DM.w_mt)
  | ((with_reducible apply DM.w_mtK); walk_at "ls")
  | (with_reducible apply DM.w_get)
  | (with_reducible apply DM.w_disp)
  | (with_reducible apply DM.w_prs_cons)
  | (with_reducible apply DM.w_prs_nil)
  | ((with_reducible apply DM.w_dispK); (first | decide | exact Nat.le_of_ble_eq_true rfl))
  | (with_reducible apply DM.w_join)
  | (with_reducible apply DM.w_star)
  | (with_reducible apply DM.w_fld)
  | (with_reducible apply DM.w_meth)
  | (with_reducible apply DM.w_mkFin_t)
  | (with_reducible apply DM.w_setF)
  | (with_reducible apply DM.w_yes)
  | (with_reducible apply DM.w_raiseC)
  | (with_reducible apply DM.w_try)
  | (with_reducible apply DM.w_tryAs)
  | (with_reducible apply DM.w_opR)
  | (with_reducible apply DM.w_callI)
  | ((with_reducible apply DM.w_obK); walk_at "ob")
  | ((with_reducible apply DM.l_ltL); with_unfolding_all exact rfl; with_unfolding_all exact rfl)
  | ((with_reducible apply DM.w_frz_v); with_unfolding_all exact rfl)
  | ((with_reducible apply DM.w_frz); with_unfolding_all exact rfl; walk_at "at"; exact rfl))
local macro_rules | `(tactic| walk_at "nx") => `(tactic| ((with_reducible apply DM.w_seq_nx); try dsimp only [List.set_cons_succ, List.set_cons_zero]))
local macro_rules | `(tactic| walk_at "e1") => `(tactic| first
  | ((with_reducible apply DM.w_seq_nx); try dsimp only [List.set_cons_succ, List.set_cons_zero])
  | walk_at "f1")
local macro_rules | `(tactic| walk_at "fs") => `(tactic| (try show _; repeat (walk_at "f1"; try show _)))
local macro_rules | `(tactic| walk_at "ev") => `(tactic| repeat walk_at "e1")
local macro_rules | `(tactic| walk_at "run") => `(tactic| (refine DM.w_run rfl ?_; dsimp only [List.map, Nat.reduceSub, List.replicate, HAppend.hAppend, Append.append, List.append]))
local macro_rules | `(tactic| walk_at "sq") => `(tactic| repeat (first | (with_reducible apply DM.w_seq) | (with_reducible apply DM.w_mkFin_t) | ((with_reducible apply DM.w_seq_nx); try dsimp only [List.set_cons_succ, List.set_cons_zero])))
namespace G
open PySem PySem.Spec PyProof.Rows L2 DM
theorem draw_ok (A : Ad) {n : Nat} {p many : Int} {st : Stx} (hn : n < st.nx) (e : st.at' n = some (.lst [.int p])) (hm : 0 < many) (hb : many.natAbs.log2 < 9000) :
    m__law_draw A [.ptr n, .val (.int many)] st = .ok (.val (.int (p.fmod many))) (st.set n (.lst [.int (p / many)])) := by
  have h0 : many ≠ 0 := by omega
  have hl : (st.low (st.set n (.lst [.int (p / many)]))) := (Stx.low.refl st).set hn
  unfold m__law_draw runDef f__law_draw
  simp [sSeq, sAsg, eOp, oIx, oMod, oI, eB, aCons, aNil, gInt, eVar, eC, Rs.bind, Rs.toRt, fName, sPut, putM, oDiv, cDiv, sRet, Stx.ls, e, atI, ixN, hm, h0, hb, fin_low hl]
end G
namespace G
open PySem PySem.Spec PyProof.Rows L2 DM
open M (Nb)
/-- a power of ten, by its size alone -/
theorem pw (k : Nat) (hk : cPow 10 k = true) (b : Nat) (hb : Nb b ((10 : Int) ^ k)) : ∃ x : Int, Nb b x ∧ 0 < x ∧ ∀ st : Stx, oPow (.val (.int 10)) (.val (.int k)) st = .ok (.val (.int x)) st :=
  ⟨10 ^ k, hb, Int.pow_pos (by decide), fun st => o_pow hk⟩
theorem q18 : ∃ x : Int, Nb 200 x ∧ 0 < x ∧ ∀ st : Stx, oPow (.val (.int 10)) (.val (.int 18)) st = .ok (.val (.int x)) st := pw 18 (by decide +kernel) 200 (by unfold Nb; decide +kernel)
theorem q21 : ∃ x : Int, Nb 200 x ∧ 0 < x ∧ ∀ st : Stx, oPow (.val (.int 10)) (.val (.int 21)) st = .ok (.val (.int x)) st := pw 21 (by decide +kernel) 200 (by unfold Nb; decide +kernel)
theorem q29 : ∃ x : Int, Nb 200 x ∧ 0 < x ∧ ∀ st : Stx, oPow (.val (.int 10)) (.val (.int 29)) st = .ok (.val (.int x)) st := pw 29 (by decide +kernel) 200 (by unfold Nb; decide +kernel)
theorem q31 : ∃ x : Int, Nb 200 x ∧ 0 < x ∧ ∀ st : Stx, oPow (.val (.int 10)) (.val (.int 31)) st = .ok (.val (.int x)) st := pw 31 (by decide +kernel) 200 (by unfold Nb; decide +kernel)
theorem q33 : ∃ x : Int, Nb 200 x ∧ 0 < x ∧ ∀ st : Stx, oPow (.val (.int 10)) (.val (.int 33)) st = .ok (.val (.int x)) st := pw 33 (by decide +kernel) 200 (by unfold Nb; decide +kernel)
theorem q60 : ∃ x : Int, Nb 200 x ∧ 0 < x ∧ ∀ st : Stx, oPow (.val (.int 10)) (.val (.int 60)) st = .ok (.val (.int x)) st := pw 60 (by decide +kernel) 200 (by unfold Nb; decide +kernel)
theorem o_sq {i : Int} {st : Stx} (h : cPow i 2 = true) : oPow (.val (.int i)) (.val (.int 2)) st = .ok (.val (.int (i ^ (2 : Int).toNat))) st := o_pow h
theorem pool_ok (A : Ad) (c : Int) {st : Stx} (hw : Wf st) : ∃ q, m__law_pool A [.val (.int c)] st = .ok (.ptr st.nx) (st.push (.lst [.int q])) := by
  obtain ⟨x18, a18, z18, e18⟩ := q18
  obtain ⟨x21, a21, z21, e21⟩ := q21
  obtain ⟨x29, a29, z29, e29⟩ := q29
  obtain ⟨x31, a31, z31, e31⟩ := q31
  obtain ⟨x33, a33, z33, e33⟩ := q33
  obtain ⟨x60, a60, z60, e60⟩ := q60
  have ne18 : x18 + 9 ≠ 0 := by omega
  have ne60 : x60 ≠ 0 := by omega
  have r60 : ∀ i : Int, Nb 200 (i.fmod x60) := fun i => (Nb.mod z60 a60).1
  have nK : Nb 203 7240983651908273645109283746501928374650192837465019283746501 := by unfold Nb; decide +kernel
  have n3 : Nb 2 3 := by unfold Nb; decide
  have n7 : Nb 3 7 := by unfold Nb; decide
  have hs := (Nb.mod (x := c) (j := x18 + 9) (b := 201) (by omega) (a18.add (show Nb 4 9 by unfold Nb; decide))).1
  have d : ∀ {i x : Int}, 0 < x → Nb 200 x → cDiv i x = true := fun h1 h2 => div_nb h1 h2
  by_cases hc : x18 ≤ c
  · refine ⟨c - x18, ?_⟩
    refine run_rt (e1 := [some (.val (.int c)), none, none, none, none, none]) rfl (seq_rt (if_ok (t := decide (x18 ≤ c)) (s1 := st) (cB_ok (op_ok (var_ok rfl) (op_ok c_ok c_ok (e18 _)) o_ge)) ?_)) (fin_ptr hw)
    rw [if_pos (decide_eq_true hc)]
    exact ret_ok (lst_ok (cons_ok (op_ok (var_ok rfl) (op_ok c_ok c_ok (e18 _)) o_sub) nil_ok) rfl (okL_t (show 1 ≤ cap by decide)))
  · have g1 : Nb 202 (c.fmod (x18 + 9) + 1) := hs.add (show Nb 1 1 by unfold Nb; decide)
    generalize hsd : c.fmod (x18 + 9) + 1 = seed at g1
    obtain ⟨one, ho, b0⟩ : ∃ one, ((seed * 7240983651908273645109283746501928374650192837465019283746501) ^ (2 : Int).toNat / x21).fmod x60 = one ∧ Nb 200 one := ⟨_, rfl, r60 _⟩
    obtain ⟨two, ht, c0⟩ : ∃ two, ((one + seed) ^ (2 : Int).toNat / x33).fmod x60 = two ∧ Nb 200 two := ⟨_, rfl, r60 _⟩
    obtain ⟨three, hth, e0⟩ : ∃ three, ((two + 3 * seed) ^ (2 : Int).toNat / x31).fmod x60 = three ∧ Nb 200 three := ⟨_, rfl, r60 _⟩
    obtain ⟨four, hf, f0⟩ : ∃ four, ((three + 7 * seed) ^ (2 : Int).toNat / x29).fmod x60 = four ∧ Nb 200 four := ⟨_, rfl, r60 _⟩
    have w1 := (f0.mul a60).add e0
    have w2 := (w1.mul a60).add c0
    refine ⟨((four * x60 + three) * x60 + two) * x60 + one, ?_⟩
    refine run_rt (e1 := [some (.val (.int c)), some (.val (.int seed)), some (.val (.int one)), some (.val (.int two)), some (.val (.int three)), some (.val (.int four))]) rfl (seq_ok (s1 := st) (if_ok (t := decide (x18 ≤ c)) (s1 := st) (cB_ok (op_ok (var_ok rfl) (op_ok c_ok c_ok (e18 _)) o_ge)) (by rw [if_neg (by simpa using hc)]; exact next_ok)) ?_) (fin_ptr hw)
    refine seq_ok (asg_ok (r := .val (.int seed)) (s1 := st) ?_) ?_
    · rw [← hsd]
      refine op_ok (op_ok (B_ok (cons_ok (var_ok rfl) nil_ok) rfl) (op_ok (op_ok c_ok c_ok (e18 _)) c_ok o_add) (o_mod ne18)) c_ok o_add
    refine seq_ok (asg_ok (r := .val (.int one)) (s1 := st) ?_) ?_
    · rw [← ho]
      exact op_ok (op_ok (op_ok (op_ok (var_ok rfl) c_ok (o_mul (mul_nb g1 nK))) c_ok (o_sq (sq_nb (g1.mul nK)))) (op_ok c_ok c_ok (e21 _)) (o_div (d z21 a21))) (op_ok c_ok c_ok (e60 _)) (o_mod ne60)
    refine seq_ok (asg_ok (r := .val (.int two)) (s1 := st) ?_) ?_
    · rw [← ht]
      exact op_ok (op_ok (op_ok (op_ok (var_ok rfl) (var_ok rfl) o_add) c_ok (o_sq (sq_nb (b0.add g1)))) (op_ok c_ok c_ok (e33 _)) (o_div (d z33 a33))) (op_ok c_ok c_ok (e60 _)) (o_mod ne60)
    refine seq_ok (asg_ok (r := .val (.int three)) (s1 := st) ?_) ?_
    · rw [← hth]
      exact op_ok (op_ok (op_ok (op_ok (var_ok rfl) (op_ok c_ok (var_ok rfl) (o_mul (mul_nb n3 g1))) o_add) c_ok (o_sq (sq_nb (c0.add (n3.mul g1))))) (op_ok c_ok c_ok (e31 _)) (o_div (d z31 a31))) (op_ok c_ok c_ok (e60 _)) (o_mod ne60)
    refine seq_ok (asg_ok (r := .val (.int four)) (s1 := st) ?_) ?_
    · rw [← hf]
      exact op_ok (op_ok (op_ok (op_ok (var_ok rfl) (op_ok c_ok (var_ok rfl) (o_mul (mul_nb n7 g1))) o_add) c_ok (o_sq (sq_nb (e0.add (n7.mul g1))))) (op_ok c_ok c_ok (e29 _)) (o_div (d z29 a29))) (op_ok c_ok c_ok (e60 _)) (o_mod ne60)
    refine ret_ok (lst_ok (cons_ok (op_ok (op_ok (op_ok (op_ok (op_ok (op_ok (var_ok rfl) (op_ok c_ok c_ok (e60 _)) (o_mul (mul_nb f0 a60))) (var_ok rfl) o_add) (op_ok c_ok c_ok (e60 _)) (o_mul (mul_nb w1 a60))) (var_ok rfl) o_add) (op_ok c_ok c_ok (e60 _)) (o_mul (mul_nb w2 a60))) (var_ok rfl) o_add) nil_ok) rfl (okL_t (show 1 ≤ cap by decide)))
end G
namespace G
open PySem PySem.Spec PyProof.Rows L2 DM
open M (Nb)
theorem fin_same {st : Stx} {d : D} : fin st st (.val d) = (.val d, st) := fin_low (Stx.low.refl st)
/-- a drawn number is within its bounds -/
theorem draw_ok' (A : Ad) {n : Nat} {p : Int} {st : Stx} (hn : n < st.nx) (e : st.at' n = some (.lst [.int p])) (many : Int) (hm : 0 < many) (hb : Nb 200 many) :
    ∃ v q, 0 ≤ v ∧ v < many ∧ m__law_draw A [.ptr n, .val (.int many)] st = .ok (.val (.int v)) (st.set n (.lst [.int q])) := by
  have q : many.natAbs.log2 < 200 := (Nat.log2_lt (by omega)).mpr hb
  exact ⟨_, _, Int.fmod_nonneg_of_pos p hm, Int.fmod_lt_of_pos p hm, draw_ok A hn e hm (by omega)⟩
theorem nb_small {v : Int} {b : Nat} (h0 : 0 ≤ v) {m : Int} (h : v < m) (hm : Nb b m) : Nb b v := by
  unfold Nb at *
  omega
theorem draw_w (A : Ad) {n : Nat} {p many : Int} {s : Stx} {Q : RV → Stx → Prop} {X : XR} (hm : 0 < many) (hb : Nb 200 many) (hn : n < s.nx) (e : s.at' n = some (.lst [.int p])) (q : ∀ v p', 0 ≤ v → v < many → Q (.val (.int v)) (s.set n (.lst [.int p']))) : DM.wE (m__law_draw A [.ptr n, .val (.int many)] s) Q X := by
  obtain ⟨v, p', h0, h1, h⟩ := draw_ok' A hn e many hm hb
  exact w_eq h (q v p' h0 h1)
theorem pool_w (A : Ad) {c : Int} {s : Stx} {Q : RV → Stx → Prop} {X : XR} (hw : Wf s) (q : ∀ p, Q (.ptr s.nx) (s.push (.lst [.int p]))) : DM.wE (m__law_pool A [.val (.int c)] s) Q X := by
  obtain ⟨p, h⟩ := pool_ok A c hw
  exact w_eq h (q p)
theorem o_eqI {i j : Int} {st : Stx} : oEq false (.val (.int i)) (.val (.int j)) st = .ok (.val (.bl (i == j))) st := by
  simp [oEq, pd2, Stx.pd, D.pd, SeqAt.shaped, PyData.canLay0, PyData.depth, PyData.eqv]
theorem o_neI {i j : Int} {st : Stx} : oEq true (.val (.int i)) (.val (.int j)) st = .ok (.val (.bl (!(i == j)))) st := by
  simp [oEq, pd2, Stx.pd, D.pd, SeqAt.shaped, PyData.canLay0, PyData.depth, PyData.eqv]
end G
namespace G
open PySem PySem.Spec PyProof.Rows L2 DM
open M (Nb)
theorem push_set {st : Stx} {n : Nat} {a b c : Nd} (h : n < st.nx) : ((st.set n a).push c).set n b = (st.set n b).push c := Stx.ext rfl rfl fun m => by
  show (if m = n then some b else if m = st.nx then some c else if m = n then some a else st.at' m) = if m = st.nx then some c else if m = n then some b else st.at' m
  by_cases h1 : m = n
  · subst h1
    rw [if_pos rfl, if_neg (by omega), if_pos rfl]
  · rw [if_neg h1, if_neg h1, if_neg h1]
theorem push_set2 {st : Stx} {a b : Nd} : (st.push a).set st.nx b = st.push b := Stx.ext rfl rfl fun m => by
  show (if m = st.nx then some b else if m = st.nx then some a else st.at' m) = if m = st.nx then some b else st.at' m
  by_cases h1 : m = st.nx
  · rw [if_pos h1, if_pos h1]
  · rw [if_neg h1, if_neg h1, if_neg h1]
theorem set_self {st : Stx} {n : Nat} {a : Nd} (h : st.at' n = some a) : st.set n a = st := Stx.ext rfl rfl fun m => by
  show (if m = n then some a else st.at' m) = st.at' m
  by_cases h1 : m = n
  · rw [if_pos h1, h1, h]
  · rw [if_neg h1]
/-- the state in the loop over names -/
abbrev SN (st : Stx) (n : Nat) (q : Int) (zs : List Str) : Stx := (st.set n (.lst [.int q])).push (.lst (zs.map .str))
theorem drawS (A : Ad) {n : Nat} {q : Int} {st : Stx} {X : Nd} (hn : n < st.nx) (many : Int) (hm : 0 < many) (hb : Nb 200 many) :
    ∃ v q', 0 ≤ v ∧ v < many ∧ m__law_draw A [.ptr n, .val (.int many)] ((st.set n (.lst [.int q])).push X) = .ok (.val (.int v)) ((st.set n (.lst [.int q'])).push X) := by
  have e : ((st.set n (.lst [.int q])).push X).at' n = some (.lst [.int q]) := by
    rw [push_ne (by show n ≠ st.nx; omega)]; exact set_at
  obtain ⟨v, q', h0, h1, h2⟩ := draw_ok' A (st := (st.set n (.lst [.int q])).push X) (by show n < st.nx + 1; omega) e many hm hb
  rw [push_set hn] at h2
  exact ⟨v, q', h0, h1, h2⟩
theorem atI_lt {α : Type} {xs : List α} {v : Int} (h0 : 0 ≤ v) (h1 : v < xs.length) : ∃ c, atI xs v = some c := by
  unfold atI ixN
  rw [if_pos h0, if_pos h1]
  have : v.toNat < xs.length := by omega
  exact ⟨xs[v.toNat], by simp [List.getElem?_eq_getElem this]⟩
abbrev abc : Str := "abcdefghijklmnopqrstuvwxyz"
theorem abc_len : abc.cps.toList.length = 26 := by decide
theorem abc_all : ∀ c ∈ abc.cps.toList, 97 ≤ c ∧ c ≤ 122 := by decide
theorem atI_mem {α : Type} {xs : List α} {v : Int} {c : α} (h : atI xs v = some c) : c ∈ xs := by
  unfold atI at h
  obtain ⟨j, _, h⟩ := Option.bind_eq_some_iff.mp h
  exact List.mem_of_getElem? h
abbrev IsLet (s : Str) : Prop := ∃ c, s = ⟨#[c]⟩ ∧ 97 ≤ c ∧ c ≤ 122
theorem one_len (c : Nat) : (⟨#[c]⟩ : Str).length = 1 := rfl
theorem letters_ok (A : Ad) {n : Nat} {st : Stx} {X : Nd} (hn : n < st.nx) {env : DM.Env} (he : ∀ r, ((wipeE env [7]).set 7 r)[0]? = some (some (.ptr n))) (ds : List D) (q : Int) :
    ∃ (ss : List Str) (q' : Int), ss.length = ds.length ∧ (∀ s ∈ ss, IsLet s) ∧ compM [7] (fName 7) cYes (eOp oIx (eC (.str abc)) (eCall (m__law_draw A) (aCons (eVar 0) (aCons (eC (.int 26)) aNil)))) ds env ((st.set n (.lst [.int q])).push X) = .ok (ss.map .str) ((st.set n (.lst [.int q'])).push X) := by
  obtain ⟨xs, st', h1, ss, q', h2, h3, h4, h5⟩ := comp_inv (f := fName 7) (vs := [7]) (env := env) (fe := eOp oIx (eC (.str abc)) (eCall (m__law_draw A) (aCons (eVar 0) (aCons (eC (.int 26)) aNil))))
    (fun j acc S => ∃ (ss : List Str) (q' : Int), acc = ss.map D.str ∧ ss.length = j ∧ (∀ s ∈ ss, IsLet s) ∧ S = (st.set n (.lst [.int q'])).push X) ds 0 (acc := []) (fun j d S acc _ ⟨ss, q1, e1, e2, e3, e4⟩ => by
      obtain ⟨v, q2, v0, v1, dr⟩ := drawS A (q := q1) (X := X) hn 26 (by decide) (by unfold Nb; decide)
      obtain ⟨c, hc⟩ := atI_lt (xs := abc.cps.toList) v0 (by rw [abc_len]; exact v1)
      refine ⟨(wipeE env [7]).set 7 (some (.val d)), .str ⟨#[c]⟩, (st.set n (.lst [.int q2])).push X, rfl, ?_, ss ++ [⟨#[c]⟩], q2, by rw [e1, List.map_append]; rfl, by rw [List.length_append, e2]; rfl, fun s m => ?_, rfl⟩
      · rw [e4]
        refine op_ok c_ok (call_ok (cons_ok (var_ok (he _)) (cons_ok c_ok nil_ok)) dr) ?_
        show (if abc.length ≤ cap then (match atI abc.cps.toList v with | some c => Rs.ok (RV.val (.str ⟨#[c]⟩)) _ | none => .no) else .no) = _
        rw [if_pos (by decide), hc]
      · rcases List.mem_append.mp m with m | m
        · exact e3 s m
        · rw [List.mem_singleton.mp m]; exact ⟨c, rfl, abc_all c (atI_mem hc)⟩) ⟨[], q, rfl, rfl, (fun s m => nomatch m), rfl⟩
  rw [List.nil_append] at h2
  subst h2 h5
  exact ⟨ss, q', by rw [h3]; omega, h4, h1⟩
end G
namespace G
open PySem PySem.Spec PyProof.Rows L2 DM
open M (Nb IsName)
theorem name_cap {z : Str} (h : IsName z) : z.length ≤ cap := Nat.le_trans h.2.1 (by decide)
theorem allS_map : ∀ (ss : List Str), allS (ss.map D.str) = some ss
  | [] => rfl
  | s :: r => by rw [List.map_cons]; unfold allS; rw [allS_map r]; rfl
/-- the slots in the loop over names -/
abbrev EN (n m : Nat) (k way size : RV) (b : Str) : DM.Env := [some (.ptr n), some (.val (.int 6)), some (.ptr m), some k, some way, some size, some (.val (.str b)), none]
theorem last_ok {st : Stx} {n : Nat} {q : Int} {zs : List Str} {i : Nat} (hi : zs.length = i) (h0 : 0 < i) {way size : RV} {b : Str} : ∃ z, z ∈ zs ∧ eOp oIx (eVar 2) (eOp oSub (eVar 3) (eC (.int 1))) (EN n st.nx (.val (.int (i : Int))) way size b) (SN st n q zs) = .ok (.val (.str z)) (SN st n q zs) := by
  have hlt : i - 1 < zs.length := by omega
  refine ⟨zs[i - 1], List.getElem_mem hlt, op_ok (var_ok rfl) (op_ok (var_ok rfl) c_ok o_sub) ?_⟩
  have e : atI (zs.map D.str) ((i : Int) - 1) = some (.str zs[i - 1]) := by
    unfold atI ixN
    rw [if_pos (by omega), List.length_map, if_pos (by omega)]
    have : ((i : Int) - 1).toNat = i - 1 := by omega
    simp [this, List.getElem?_eq_getElem hlt]
  have hat : (SN st n q zs).at' st.nx = some (.lst (zs.map .str)) := push_at
  show oIx (.ptr st.nx) (.val (.int ((i : Int) - 1))) (SN st n q zs) = _
  simp only [oIx, Stx.ls, hat, e]
theorem if_name {st : Stx} {n : Nat} {q : Int} {zs : List Str} {i : Nat} {way size : Int} {b : Str} (j : Int) (alt : SF) (hb : IsName b)
    (h : 0 < i → ∃ b', IsName b' ∧ alt (EN n st.nx (.val (.int (i : Int))) (.val (.int way)) (.val (.int size)) b) (SN st n q zs) = .go .nx (EN n st.nx (.val (.int (i : Int))) (.val (.int way)) (.val (.int size)) b') (SN st n q zs)) :
    ∃ b', IsName b' ∧ sIf (cAnd (cB (eOp (oEq false) (eVar 4) (eC (.int j)))) (cB (eOp oGt (eVar 3) (eC (.int 0))))) alt sNext (EN n st.nx (.val (.int (i : Int))) (.val (.int way)) (.val (.int size)) b) (SN st n q zs) = .go .nx (EN n st.nx (.val (.int (i : Int))) (.val (.int way)) (.val (.int size)) b') (SN st n q zs) := by
  have c1 : cB (eOp (oEq false) (eVar 4) (eC (.int j))) (EN n st.nx (.val (.int (i : Int))) (.val (.int way)) (.val (.int size)) b) (SN st n q zs) = .ok (way == j) (SN st n q zs) := cB_ok (op_ok (var_ok rfl) c_ok o_eqI)
  have c2 : cB (eOp oGt (eVar 3) (eC (.int 0))) (EN n st.nx (.val (.int (i : Int))) (.val (.int way)) (.val (.int size)) b) (SN st n q zs) = .ok (decide ((0 : Int) < i)) (SN st n q zs) := cB_ok (op_ok (var_ok rfl) c_ok o_gt)
  by_cases hw : (way == j) = true
  · by_cases h0 : 0 < i
    · obtain ⟨b', h1, h2⟩ := h h0
      refine ⟨b', h1, if_ok (t := true) (s1 := SN st n q zs) (and_ok c1 (by rw [if_pos hw, c2, decide_eq_true (by omega)])) ?_⟩
      rw [if_pos rfl]; exact h2
    · refine ⟨b, hb, if_ok (t := false) (s1 := SN st n q zs) (and_ok c1 (by rw [if_pos hw, c2, decide_eq_false (by omega)])) ?_⟩
      rw [if_neg (by decide)]; rfl
  · refine ⟨b, hb, if_ok (t := false) (s1 := SN st n q zs) (and_ok c1 (by rw [if_neg hw])) ?_⟩
    rw [if_neg (by decide)]; rfl
def nBody (A : Ad) : SF := (sSeq (sAsg (eCall (m__law_draw A) (aCons (eVar 0) (aCons (eC (.int 4)) aNil))) (fName 4))
    (sSeq (sAsg (eOp (oAdd false) (eC (.int 1)) (eCall (m__law_draw A) (aCons (eVar 0) (aCons (eC (.int 8)) aNil)))) (fName 5))
    (sSeq (sAsg (eJoin (eC (.str "")) (eComp false [7] (iRange (aCons (eVar 5) aNil)) (fName 7) cYes (eOp oIx (eC (.str "abcdefghijklmnopqrstuvwxyz")) (eCall (m__law_draw A) (aCons (eVar 0) (aCons (eC (.int 26)) aNil)))))) (fName 6))
    (sSeq (sIf (cAnd (cB (eOp (oEq false) (eVar 4) (eC (.int 1)))) (cB (eOp oGt (eVar 3) (eC (.int 0))))) (sAsg (eSl false (eOp (oAdd false) (eOp oIx (eVar 2) (eOp oSub (eVar 3) (eC (.int 1)))) (eVar 6)) pNo (pIn (eC (.int 8)))) (fName 6)) sNext)
    (sSeq (sIf (cAnd (cB (eOp (oEq false) (eVar 4) (eC (.int 2)))) (cB (eOp oGt (eVar 3) (eC (.int 0))))) (sAsg (eSl false (eOp oIx (eVar 2) (eOp oSub (eVar 3) (eC (.int 1)))) pNo (pIn (eVar 5))) (fName 6)) sNext)
    (sSeq (sIf (cAnd (cB (eOp (oEq false) (eVar 4) (eC (.int 3)))) (cB (eOp oGt (eVar 3) (eC (.int 0))))) (sAsg (eOp (oAdd false) (eSl false (eOp oIx (eVar 2) (eOp oSub (eVar 3) (eC (.int 1)))) pNo (pIn (eNeg (eC (.int 1))))) (eSl false (eVar 6) pNo (pIn (eC (.int 1))))) (fName 6)) sNext)
    (sExpr (eMt isLs gAppend (eVar 2) (aCons (eVar 6) aNil)))))))))
theorem turn_ok (A : Ad) {n : Nat} {q : Int} {zs : List Str} {st : Stx} (hn : n < st.nx) (hz : ∀ z ∈ zs, IsName z) (hl : zs.length ≤ 6) {o1 o2 nm : Option RV} :
    ∃ (q' : Int) (way size : Int) (b : Str), IsName b ∧ nBody A [some (.ptr n), some (.val (.int 6)), some (.ptr st.nx), some (.val (.int (zs.length : Int))), o1, o2, nm, none] (SN st n q zs) = .go .nx (EN n st.nx (.val (.int (zs.length : Int))) (.val (.int way)) (.val (.int size)) b) (SN st n q' (zs ++ [b])) := by
  obtain ⟨way, q1, w0, w1, d1⟩ := drawS A (q := q) (X := .lst (zs.map .str)) hn 4 (by decide) (by unfold Nb; decide)
  obtain ⟨v, q2, v0, v1, d2⟩ := drawS A (q := q1) (X := .lst (zs.map .str)) hn 8 (by decide) (by unfold Nb; decide)
  obtain ⟨ss, q3, l1, l2, l3⟩ := letters_ok A (n := n) (st := st) (X := .lst (zs.map .str)) hn (env := [some (.ptr n), some (.val (.int 6)), some (.ptr st.nx), some (.val (.int (zs.length : Int))), some (.val (.int way)), some (.val (.int (1 + v))), nm, none]) (fun r => rfl) (irng 0 (1 + v).toNat) q2
  rw [irng_len] at l1
  have hb : IsName (Txt.join Str.empty ss) := IsName.join (by omega) (by omega) l2
  have hsum : (ss.map (·.length)).sum = ss.length := by
    clear l3 hb l1
    induction ss with
    | nil => rfl
    | cons s r ih =>
      obtain ⟨c, rfl, _⟩ := l2 s (List.mem_cons_self ..)
      rw [List.map_cons, List.sum_cons, ih fun y m => l2 y (List.mem_cons_of_mem _ m), List.length_cons]
      show 1 + _ = _
      omega
  obtain ⟨b1, n1, h1⟩ := if_name (st := st) (n := n) (q := q3) (zs := zs) (i := zs.length) (way := way) (size := 1 + v) 1 (sAsg (eSl false (eOp (oAdd false) (eOp oIx (eVar 2) (eOp oSub (eVar 3) (eC (.int 1)))) (eVar 6)) pNo (pIn (eC (.int 8)))) (fName 6)) hb fun h0 => by
    obtain ⟨z, hm, hz1⟩ := last_ok (st := st) (n := n) (q := q3) rfl h0 (way := .val (.int way)) (size := .val (.int (1 + v))) (b := Txt.join Str.empty ss)
    refine ⟨_, (hz z hm).way1 hb, asg_ok (sl_ok (op_ok hz1 (var_ok rfl) (add_str_ok ?_)) pNo_ok (pIn_ok c_ok) (sl_str_ok ?_))⟩
    · have := (hz z hm).2.1; have := hb.2.1; have : (cap : Nat) = 1000000 := rfl; omega
    · rw [M.str_len_app]; have := (hz z hm).2.1; have := hb.2.1; have : (cap : Nat) = 1000000 := rfl; omega
  obtain ⟨b2, n2, h2⟩ := if_name (st := st) (n := n) (q := q3) (zs := zs) (i := zs.length) (way := way) (size := 1 + v) 2 (sAsg (eSl false (eOp oIx (eVar 2) (eOp oSub (eVar 3) (eC (.int 1)))) pNo (pIn (eVar 5))) (fName 6)) n1 fun h0 => by
    obtain ⟨z, hm, hz1⟩ := last_ok (st := st) (n := n) (q := q3) rfl h0 (way := .val (.int way)) (size := .val (.int (1 + v))) (b := b1)
    refine ⟨cutS z none (some (1 + v)), ?_, asg_ok (sl_ok hz1 pNo_ok (pIn_ok (var_ok rfl)) (sl_str_ok (name_cap (hz z hm))))⟩
    have := (hz z hm).way2 (k := (1 + v).toNat) (by omega)
    rw [show (((1 + v).toNat : Nat) : Int) = 1 + v by omega] at this
    exact this
  obtain ⟨b3, n3, h3⟩ := if_name (st := st) (n := n) (q := q3) (zs := zs) (i := zs.length) (way := way) (size := 1 + v) 3 (sAsg (eOp (oAdd false) (eSl false (eOp oIx (eVar 2) (eOp oSub (eVar 3) (eC (.int 1)))) pNo (pIn (eNeg (eC (.int 1))))) (eSl false (eVar 6) pNo (pIn (eC (.int 1))))) (fName 6)) n2 fun h0 => by
    obtain ⟨z, hm, hz1⟩ := last_ok (st := st) (n := n) (q := q3) rfl h0 (way := .val (.int way)) (size := .val (.int (1 + v))) (b := b2)
    have hn3 := (hz z hm).way3 n2
    have hcap : (cutS z none (some (-1))).length + (cutS b2 none (some 1)).length ≤ cap := by rw [← M.str_len_app]; exact name_cap hn3
    exact ⟨_, hn3, asg_ok (op_ok (sl_ok hz1 pNo_ok (pIn_ok (neg_ok c_ok)) (sl_str_ok (name_cap (hz z hm)))) (sl_ok (var_ok rfl) pNo_ok (pIn_ok c_ok) (sl_str_ok (name_cap n2))) (add_str_ok hcap))⟩
  have hat : (SN st n q3 zs).at' st.nx = some (.lst (zs.map .str)) := push_at
  have happ : gAppend (.ptr st.nx) [.val (.str b3)] (SN st n q3 zs) = .ok (.val .non) (SN st n q3 (zs ++ [b3])) := by
    show (match (SN st n q3 zs).at' st.nx with | some (.lst ds) => if ds.length < cap then Rs.ok (RV.val .non) ((SN st n q3 zs).set st.nx (.lst (ds ++ [D.str b3]))) else .no | _ => .no) = _
    rw [hat]
    show (if (zs.map D.str).length < cap then _ else _) = _
    rw [if_pos (by rw [List.length_map]; have : (cap : Nat) = 1000000 := rfl; omega)]
    have : ((st.set n (.lst [.int q3])).push (.lst (zs.map .str))).set st.nx (.lst (zs.map D.str ++ [D.str b3])) = (st.set n (.lst [.int q3])).push (.lst ((zs ++ [b3]).map .str)) := by
      rw [List.map_append]
      exact push_set2 (st := st.set n (.lst [.int q3]))
    rw [this]
  refine ⟨q3, way, 1 + v, b3, n3, ?_⟩
  unfold nBody
  refine seq_ok (asg_ok (call_ok (cons_ok (var_ok rfl) (cons_ok c_ok nil_ok)) d1)) (seq_ok (asg_ok (op_ok c_ok (call_ok (cons_ok (var_ok rfl) (cons_ok c_ok nil_ok)) d2) o_add)) (seq_ok (asg_ok (join_ok c_ok (comp_ok (range_ok (cons_ok (var_ok rfl) nil_ok) (by omega) (by have : (cap : Nat) = 1000000 := rfl; omega)) ?_ l3) (allS_map ss) ?_)) (seq_ok h1 (seq_ok h2 (seq_ok h3 (expr_ok (mt_ok (var_ok rfl) ?_ (cons_ok (var_ok rfl) nil_ok) happ)))))))
  · rw [irng_len]; have : (cap : Nat) = 1000000 := rfl; omega
  · rw [hsum]; show _ + ss.length * 0 ≤ _; omega
  · show ((SN st n q3 zs).ls (.ptr st.nx)).isSome = true
    simp only [Stx.ls, hat]
    rfl
theorem names_ok (A : Ad) {n : Nat} {p : Int} {st : Stx} (hw : Wf st) (hn : n < st.nx) (e : st.at' n = some (.lst [.int p])) :
    ∃ (zs : List Str) (q : Int), zs.length = 6 ∧ (∀ z ∈ zs, IsName z) ∧ m__law_names A [.ptr n, .val (.int 6)] st = .ok (.val (.lst (zs.map .str))) (st.set n (.lst [.int q])) := by
  have start : st.push (.lst []) = SN st n p [] := by
    show _ = (st.set n _).push _
    rw [set_self e]; rfl
  obtain ⟨env', S', h1, q, zs, k, o1, o2, nm, e1, e2, e3, e4⟩ := loop_inv (f := fName 3) (body := nBody A) (fun i env S => ∃ (q : Int) (zs : List Str) (k o1 o2 nm : Option RV), env = [some (.ptr n), some (.val (.int 6)), some (.ptr st.nx), k, o1, o2, nm, none] ∧ zs.length = i ∧ (∀ z ∈ zs, IsName z) ∧ S = SN st n q zs) (irng 0 6) 0
    (env := [some (.ptr n), some (.val (.int 6)), some (.ptr st.nx), none, none, none, none, none]) (st := SN st n p []) (fun j d env S hj ⟨q, zs, k, o1, o2, nm, f1, f2, f3, f4⟩ => by
      have hj6 : j < 6 := by
        have := (List.getElem?_eq_some_iff.mp hj).1
        rw [irng_len] at this; exact this
      have hd : d = .int (zs.length : Int) := by
        unfold irng at hj
        rw [List.getElem?_map, List.getElem?_range hj6] at hj
        cases hj
        rw [f2]
        simp
      obtain ⟨q', way, size, b, g1, g2⟩ := turn_ok A (q := q) (zs := zs) (st := st) hn f3 (by omega) (o1 := o1) (o2 := o2) (nm := nm)
      refine ⟨_, _, _, rfl, by rw [f1, f4, hd]; exact g2, q', zs ++ [b], _, _, _, _, rfl, by rw [List.length_append, f2]; rfl, fun z m => ?_, rfl⟩
      rcases List.mem_append.mp m with m | m
      · exact f3 z m
      · rw [List.mem_singleton.mp m]; exact g1) ⟨p, [], none, none, none, none, rfl, rfl, (fun z m => nomatch m), rfl⟩
  rw [irng_len] at e2
  subst e1 e4
  refine ⟨zs, q, by omega, e3, ?_⟩
  have hat : (SN st n q zs).at' st.nx = some (.lst (zs.map .str)) := push_at
  have hend : st.clean ((SN st n q zs).del st.nx) = st.set n (.lst [.int q]) := Stx.ext rfl rfl fun m => by
    show (if m < st.nx then (if m = st.nx then none else if m = st.nx then some _ else if m = n then some _ else st.at' m) else st.at' m) = if m = n then some _ else st.at' m
    by_cases hm : m < st.nx
    · rw [if_pos hm, if_neg (by omega), if_neg (by omega)]
    · rw [if_neg hm, if_neg (by omega)]
  have hbody : f__law_names A = sSeq (sAsg (eLst true aNil) (fName 2)) (sSeq (sFor (iRange (aCons (eVar 1) aNil)) (fName 3) (nBody A)) (sSeq (sFrz 2) (sRet (eVar 2)))) := rfl
  refine run_rt (e1 := [some (.ptr n), some (.val (.int 6)), some (.val (.lst (zs.map .str))), k, o1, o2, nm, none]) (s1 := (SN st n q zs).del st.nx) rfl ?_ ((fin_val (d := .lst (zs.map .str)) (show ((SN st n q zs).del st.nx).hi = st.hi from rfl)).trans (by rw [hend]))
  rw [hbody]
  refine seq_ok (asg_ok (lst_ok nil_ok rfl (okL_t (show 0 ≤ cap by decide)))) (seq_ok (for_ok (range_ok (cons_ok (var_ok rfl) nil_ok) (by decide) (by decide)) ?_) (seq_ok (frz_ok (env := [some (.ptr n), some (.val (.int 6)), some (.ptr st.nx), k, o1, o2, nm, none]) rfl hat rfl) (ret_ok (var_ok rfl))))
  rw [start]
  exact h1
theorem names_w (A : Ad) {n : Nat} {p : Int} {s : Stx} {Q : RV → Stx → Prop} {X : XR} (hw : Wf s) (hn : n < s.nx) (e : s.at' n = some (.lst [.int p])) (q : ∀ (zs : List Str) (p' : Int), zs.length = 6 → (∀ z ∈ zs, IsName z) → Q (.val (.lst (zs.map .str))) (s.set n (.lst [.int p']))) : DM.wE (m__law_names A [.ptr n, .val (.int 6)] s) Q X := by
  obtain ⟨zs, p', h1, h2, h⟩ := names_ok A hw hn e
  exact w_eq h (q zs p' h1 h2)
theorem ixz {zs : List Str} {v : Int} (h0 : 0 ≤ v) (h1 : v < zs.length) : ∃ z, z ∈ zs ∧ atI (zs.map D.str) v = some (.str z) := by
  have h : v.toNat < zs.length := by omega
  refine ⟨zs[v.toNat], List.getElem_mem h, ?_⟩
  unfold atI ixN
  rw [if_pos h0, List.length_map, if_pos h1]
  simp [List.getElem?_eq_getElem h]
end G
namespace G
open PySem PySem.Spec PyProof.Rows L2 DM
open M (Nb IsName)
theorem p39 : ∃ x : Int, Nb 130 x ∧ ∀ st : Stx, oPow (.val (.int 10)) (.val (.int 39)) st = .ok (.val (.int x)) st := ⟨10 ^ 39, by unfold Nb; decide +kernel, fun st => o_pow (by decide +kernel)⟩
theorem p38 : ∃ x : Int, Nb 130 x ∧ ∀ st : Stx, oPow (.val (.int 10)) (.val (.int 38)) st = .ok (.val (.int x)) st := ⟨10 ^ 38, by unfold Nb; decide +kernel, fun st => o_pow (by decide +kernel)⟩
theorem p37 : ∃ x : Int, Nb 130 x ∧ 0 < x ∧ ∀ st : Stx, oPow (.val (.int 10)) (.val (.int 37)) st = .ok (.val (.int x)) st := ⟨10 ^ 37, by unfold Nb; decide +kernel, by decide +kernel, fun st => o_pow (by decide +kernel)⟩
theorem nb_neg {b : Nat} {x : Int} (h : Nb b x) : Nb b (-x) := by unfold Nb at *; omega
theorem far_w (A : Ad) {n : Nat} {p : Int} {s : Stx} {Q : RV → Stx → Prop} {X : XR} (hn : n < s.nx) (e : s.at' n = some (.lst [.int p])) (q : ∀ k p', Nb 130 k → Q (.val (.int k)) (s.set n (.lst [.int p']))) : DM.wE (m__law_far A [.ptr n] s) Q X := by
  obtain ⟨x39, n39, e39⟩ := p39
  obtain ⟨x38, n38, e38⟩ := p38
  walk_at "run"
  unfold f__law_far
  walk_at "ev"
  refine w_eq (e39 _) ?_
  walk_at "ev"
  refine w_eq (e38 _) ?_
  walk_at "ev"
  refine draw_w A (by decide) (by unfold Nb; decide) hn e fun v p' h0 h1 => ?_
  have hk : ∃ k, Nb 130 k ∧ atI [D.int 0, D.int 0, D.int 0, D.int 3, D.int (-5), D.int x39, D.int (-x38)] v = some (.int k) := by
    have hv : v = 0 ∨ v = 1 ∨ v = 2 ∨ v = 3 ∨ v = 4 ∨ v = 5 ∨ v = 6 := by omega
    rcases hv with rfl | rfl | rfl | rfl | rfl | rfl | rfl
    · exact ⟨0, by unfold Nb; decide, rfl⟩
    · exact ⟨0, by unfold Nb; decide, rfl⟩
    · exact ⟨0, by unfold Nb; decide, rfl⟩
    · exact ⟨3, by unfold Nb; decide, rfl⟩
    · exact ⟨-5, by unfold Nb; decide, rfl⟩
    · exact ⟨x39, n39, rfl⟩
    · exact ⟨-x38, nb_neg n38, rfl⟩
  obtain ⟨k, nk, hk⟩ := hk
  walk_at "ev"
  exact w_fin_v rfl ((Fr.start e).draw.clean hn) (q k p' nk)
/-- limits of a law's dict -/
structure LOk (ws : List Str) (l : AL Lim) : Prop where
  nd : ANd l
  ks : ∀ p ∈ l, p.1 ∈ ws
  ok : ∀ p ∈ l, Lim.ok p.2
theorem LOk.nil (ws : List Str) : LOk ws [] := ⟨List.nodup_nil, (fun _ m => nomatch m), (fun _ m => nomatch m)⟩
theorem LOk.put {ws : List Str} {l : AL Lim} (h : LOk ws l) {z : Str} (hz : z ∈ ws) {v : Lim} (hv : v.ok) : LOk ws (M.aput l z v) :=
  ⟨M.aput_nodup z v h.nd, fun p m => (M.aput_mem m).elim (h.ks p) fun e => by rw [e]; exact hz, fun p m => (M.aput_mem m).elim (h.ok p) fun e => by rw [e]; exact hv⟩
theorem LOk.len {ws : List Str} {l : AL Lim} (h : LOk ws l) : l.length ≤ ws.length := by
  have := sub_len h.nd fun x m => by
    obtain ⟨p, hp, rfl⟩ := List.mem_map.mp m
    exact h.ks p hp
  rw [List.length_map] at this
  exact this
theorem LOk.mono {ws ws' : List Str} {l : AL Lim} (h : LOk ws l) (hw : ∀ z ∈ ws, z ∈ ws') : LOk ws' l := ⟨h.nd, (fun p m => hw _ (h.ks p m)), h.ok⟩
theorem limits_w (A : Ad) {n : Nat} {p far : Int} {ws : List Str} {st : Stx} {Q : RV → Stx → Prop} {X : XR} (hw : Wf st) (hn : n < st.nx) (e : st.at' n = some (.lst [.int p])) (hl : ws.length ≤ 1000) (hf : Nb 130 far) (q : ∀ l p', LOk ws l → Q (.val (aDct lD l)) (st.set n (.lst [.int p']))) : DM.wE (m__law_limits A [.ptr n, .val (.lst (ws.map .str)), .val (.int far)] st) Q X := by
  obtain ⟨x37, n37, z37, e37⟩ := p37
  have hcap : (cap : Nat) = 1000000 := rfl
  walk_at "run"
  unfold f__law_limits
  walk_at "ev"
  refine w_loop (fun j env s => ∃ (o4 o5 o6 o7 : Option RV) (l : AL Lim) (q : Int), env = [some (.ptr n), some (.val (.lst (ws.map .str))), some (.val (.int far)), some (.ptr st.nx), o4, o5, o6, o7] ∧ Fr st n s q ∧ s.nx = st.nx + 1 ∧ s.at' st.nx = some (.dct false (aK l) (aD lD l)) ∧ LOk ws l) ?_ (fun j d env s hj h => ?_) (fun env s h => ?_)
  · exact ⟨_, _, _, _, [], p, rfl, (Fr.start e).push hn, rfl, push_at, LOk.nil ws⟩
  · obtain ⟨o4, o5, o6, o7, l, q, rfl, fr, nx, ad, ok⟩ := h
    obtain ⟨z, hz, rfl⟩ := List.mem_map.mp (List.mem_of_getElem? hj)
    have hln : l.length < cap := by have := ok.len; omega
    refine ⟨_, rfl, ?_⟩
    walk_at "ev"
    refine draw_w A (by decide) (by unfold Nb; decide) (by omega) fr.pool fun way p1 w0 w1 => ?_
    walk_at "ev"
    refine draw_w A (by decide) (by unfold Nb; decide) (by walk_at "lt") set_at fun k p2 k0 k1 => ?_
    walk_at "ev"
    have hite : Nb 2 (if decide (k < 3) = true then (1 : Int) else 0) := by split <;> (unfold Nb; decide)
    refine l_mul (mul_nb hf hite) ?_
    walk_at "ev"
    refine draw_w A (by decide) (by unfold Nb; decide) (by walk_at "lt") set_at fun v p3 v0 v1 => ?_
    walk_at "ev"
    refine draw_w A (by decide) (by unfold Nb; decide) (by walk_at "lt") set_at fun wide p4 d0 d1 => ?_
    generalize far * (if decide (k < 3) = true then (1 : Int) else 0) + v - 4 = low
    have fr4 : Fr st n ((((s.set n (.lst [.int p1])).set n (.lst [.int p2])).set n (.lst [.int p3])).set n (.lst [.int p4])) p4 := fr.draw.draw.draw.draw
    have ad4 : ((((s.set n (.lst [.int p1])).set n (.lst [.int p2])).set n (.lst [.int p3])).set n (.lst [.int p4])).at' st.nx = some (.dct false (aK l) (aD lD l)) := by walk_at "at"
    have nx4 : ((((s.set n (.lst [.int p1])).set n (.lst [.int p2])).set n (.lst [.int p3])).set n (.lst [.int p4])).nx = st.nx + 1 := nx
    generalize (((s.set n (.lst [.int p1])).set n (.lst [.int p2])).set n (.lst [.int p3])).set n (.lst [.int p4]) = T at *
    have hway : way = 0 ∨ way = 1 ∨ way = 2 ∨ way = 3 ∨ way = 4 ∨ way = 5 ∨ way = 6 ∨ way = 7 := by omega
    rcases hway with rfl | rfl | rfl | rfl | rfl | rfl | rfl | rfl
    · walk_at "ev"
      exact ⟨_, _, _, _, l, p4, rfl, fr4, nx4, ad4, ok⟩
    · walk_at "ev"
      refine a_put (some low, none) ad4 hln ok.nd rfl ?_
      walk_at "ev"
      exact ⟨_, _, _, _, _, p4, rfl, fr4.set hn (Nat.le_refl _), nx4, set_at, ok.put hz (fun a b h1 h2 => nomatch h2)⟩
    · walk_at "ev"
      refine a_put (none, some low) ad4 hln ok.nd rfl ?_
      walk_at "ev"
      exact ⟨_, _, _, _, _, p4, rfl, fr4.set hn (Nat.le_refl _), nx4, set_at, ok.put hz (fun a b h1 h2 => nomatch h1)⟩
    · walk_at "ev"
      refine a_put (some low, some low) ad4 hln ok.nd rfl ?_
      walk_at "ev"
      exact ⟨_, _, _, _, _, p4, rfl, fr4.set hn (Nat.le_refl _), nx4, set_at, ok.put hz (fun a b h1 h2 => by cases h1; cases h2; omega)⟩
    · walk_at "ev"
      refine a_put (some low, some (low + wide)) ad4 hln ok.nd rfl ?_
      walk_at "ev"
      exact ⟨_, _, _, _, _, p4, rfl, fr4.set hn (Nat.le_refl _), nx4, set_at, ok.put hz (fun a b h1 h2 => by cases h1; cases h2; omega)⟩
    · walk_at "ev"
      refine a_put (some low, some (low + wide)) ad4 hln ok.nd rfl ?_
      walk_at "ev"
      exact ⟨_, _, _, _, _, p4, rfl, fr4.set hn (Nat.le_refl _), nx4, set_at, ok.put hz (fun a b h1 h2 => by cases h1; cases h2; omega)⟩
    · walk_at "ev"
      refine a_put (none, none) ad4 hln ok.nd rfl ?_
      walk_at "ev"
      exact ⟨_, _, _, _, _, p4, rfl, fr4.set hn (Nat.le_refl _), nx4, set_at, ok.put hz (fun a b h1 h2 => nomatch h1)⟩
    · walk_at "ev"
      refine w_eq (e37 _) ?_
      walk_at "ev"
      refine draw_w A (by decide) (by unfold Nb; decide) (by omega) fr4.pool fun u p5 u0 u1 => ?_
      refine l_mul (mul_nb n37 (nb_small u0 u1 (show Nb 4 9 by unfold Nb; decide))) ?_
      walk_at "ev"
      refine w_eq (e37 _) ?_
      walk_at "ev"
      refine draw_w A (by decide) (by unfold Nb; decide) (by walk_at "lt") set_at fun u' p6 u0' u1' => ?_
      refine l_mul (mul_nb n37 (nb_small u0' u1' (show Nb 4 9 by unfold Nb; decide))) ?_
      walk_at "ev"
      refine a_put (some (low - x37 * u), some (low + x37 * u')) (by walk_at "at") hln ok.nd rfl ?_
      walk_at "ev"
      have i1 : 0 ≤ x37 * u := Int.mul_nonneg (by omega) u0
      have i2 : 0 ≤ x37 * u' := Int.mul_nonneg (by omega) u0'
      exact ⟨_, _, _, _, _, p6, rfl, fr4.draw.draw.set hn (Nat.le_refl _), nx4, set_at, ok.put hz (fun a b h1 h2 => by cases h1; cases h2; omega)⟩
  · obtain ⟨o4, o5, o6, o7, l, q', rfl, fr, nx, ad, ok⟩ := h
    walk_at "ev"
    exact w_fin_v fr.hi ((fr.del hn (Nat.le_refl _)).clean hn) (q l q' ok)
end G
namespace G
open PySem PySem.Spec PyProof.Rows L2 DM
open M (Nb IsName)
theorem in_order_w (A : Ad) {α : Type} {f : α → D} {l : AL α} {st : Stx} {Q : RV → Stx → Prop} {X : XR} (hn : ANd l) (hl : l.length < 64) (q : Q (.val (.lst ((sortS (l.map (·.1))).map .str))) st) : DM.wE (m_in_order A [.val (aDct f l)] st) Q X := by
  have hcap : (cap : Nat) = 1000000 := rfl
  have hk : (aK l).length ≤ cap := by rw [aK_len]; omega
  walk_at "run"
  unfold f_in_order
  walk_at "ev"
  rw [aK_len]
  refine wS_ite (fun h => ?_) fun h => ?_
  · have h2 : l.length < 2 := by have := of_decide_eq_true h; omega
    walk_at "ev"
    have hs : sortS (l.map (·.1)) = l.map (·.1) := by
      match l, h2 with
      | [], _ => rfl
      | [p], _ => rfl
      | _ :: _ :: _, h => simp at h; omega
    rw [keys_a]
    rw [hs] at q
    exact w_fin_v rfl clean_self q
  · walk_at "ev"
    refine w_compD_v rfl ?_
    rw [keys_a]
    refine w_compM _root_.id (fun d m => ?_) ?_
    · obtain ⟨z, _, rfl⟩ := List.mem_map.mp m
      refine ⟨_, rfl, ?_⟩
      walk_at "ev"
      exact ⟨rfl, rfl⟩
    · rw [List.map_id]
      walk_at "ev"
      refine l_sorted_f ls_v hn (by rw [List.length_map]; exact hl) ?_
      walk_at "ev"
      exact w_fin_v rfl clean_self q
end G
namespace G
open PySem PySem.Spec PyProof.Rows L2 DM
open M (Nb IsName)
/-- a pattern that holds l -/
abbrev pO (A : Ad) (l : AL Lim) : D := .obj A.C_Pattern ["_limits"] [aDct lD l]
abbrev pN (A : Ad) (l : AL Lim) : DM.Nd := .obj A.C_Pattern ["_limits"] [.val (aDct lD l)]
theorem ne_lim {p q : Lim} {s : Stx} {Q : RV → Stx → Prop} {X : XR} (h : Q (.val (.bl (!decide (p = q)))) s) : DM.wE (oEq true (.val (lD p)) (.val (lD q)) s) Q X :=
  l_eqP (lD_pd p) (lD_pd q) (lP_shaped p) (lP_shaped q) (by rw [lP_eqv]; exact h)
theorem pinit_w (A : Ad) {l : AL Lim} {s : Stx} {m : Nat} {r0 : RV} {Q : RV → Stx → Prop} {X : XR} (hm : m < s.nx) (hat : s.at' m = some (.obj A.C_Pattern [] [])) (hn : ANd l) (h : (r0 = .val .non ∧ l = []) ∨ r0 = .val (aDct lD l)) (q : Q (.val .non) (s.set m (pN A (lz l)))) : DM.wE (m_Pattern___init__ A [.ptr m, r0] s) Q X := by
  have key : ∀ (env : DM.Env) (x : Option RV), env = [some (.ptr m), some r0, some (.val (aDct lD l)), x] → DM.wS (sSetF [A.C_Pattern] "_limits" (eVar 0) (eDCompD [3] (pVar 2) (fun ks _ => ks.map keyD) (fName 3) (cB (eOp (oEq true) (eOp oIx (eVar 2) (eVar 3)) (eC k_NO_LIMITS))) (eVar 3) (eOp oIx (eVar 2) (eVar 3))) env s) (finK s Q) (fun e _ s => X e s) := fun env x e => by
    subst e
    walk_at "ev"
    refine w_dcompD_v rfl ?_
    rw [keys_a, List.map_map]
    refine w_dfm hz lD _ l hn (fun p hp => ?_) ?_
    · have hl : lookK (aK l) (aD lD l) (.inr p.1) = some (lD p.2) := by rw [look_a, M.al_of hn hp]; rfl
      refine ⟨_, rfl, ?_⟩
      walk_at "ev"
      refine ne_lim (q := noL) ?_
      walk_at "ev"
      refine ⟨rfl, ?_, fun x hx => ?_⟩
      · unfold hz
        by_cases e : p.2 = noL
        · rw [if_pos e, decide_eq_true e]; rfl
        · rw [if_neg e, decide_eq_false e]; rfl
      · have hx2 : x = p.2 := by
          unfold hz at hx
          by_cases e : p.2 = noL
          · rw [if_pos e] at hx; cases hx
          · rw [if_neg e] at hx; cases hx; rfl
        subst hx2
        walk_at "ev"
        refine ⟨rfl, rfl, ?_⟩
        walk_at "ev"
        exact ⟨rfl, rfl⟩
    · walk_at "ev"
      exact w_fin_n rfl (by rw [clean_set hm, clean_self]; rfl) q
  walk_at "run"
  unfold f_Pattern___init__
  rcases h with ⟨rfl, rfl⟩ | rfl
  · walk_at "fs"
    walk_at "nx"
    exact key _ _ rfl
  · walk_at "fs"
    walk_at "nx"
    exact key _ _ rfl
end G
namespace G
open PySem PySem.Spec PyProof.Rows L2 DM
open M (Nb IsName)
theorem pmake_w (A : Ad) {st : Stx} {env : DM.Env} {ff : AF} {Q : RV → Stx → Prop} {X : XR} (q : DM.wE (ff env st) (fun rs s => ∃ l, rs = [.val (aDct lD l)] ∧ ANd l ∧ Wf s ∧ Q (.val (pO A (lz l))) s.bump) X) : DM.wE (eMake A.C_Pattern (m_Pattern___init__ A) false [] ff env st) Q X := by
  refine w_make (wE_imp q (fun rs s h => ?_) fun _ _ h => h)
  obtain ⟨l, rfl, hn, hw, q⟩ := h
  refine pinit_w A (m := s.nx) (l := l) (Nat.lt_succ_self _) push_at hn (.inr rfl) ⟨rfl, ?_⟩
  rw [push_setE]
  refine w_mkFin_f (d := pO A (lz l)) push_at rfl ?_
  rw [push_del hw]
  exact q
theorem pmake0_w (A : Ad) {st : Stx} {env : DM.Env} {Q : RV → Stx → Prop} {X : XR} (hw : Wf st) (q : Q (.val (pO A [])) st.bump) : DM.wE (eMake A.C_Pattern (m_Pattern___init__ A) false [.non] aNil env st) Q X := by
  refine w_make ?_
  walk_at "ev"
  refine pinit_w A (m := st.nx) (l := []) (Nat.lt_succ_self _) push_at List.nodup_nil (.inl ⟨rfl, rfl⟩) ⟨rfl, ?_⟩
  rw [push_setE]
  refine w_mkFin_f (d := pO A []) push_at rfl ?_
  rw [push_del hw]
  exact q
end G
namespace G
open PySem PySem.Spec PyProof.Rows L2 DM
open M (Nb IsName)
theorem higher_w (A : Ad) {a b : Option Int} {s : Stx} {Q : RV → Stx → Prop} {X : XR} (q : Q (.val (oD (higher a b))) s) : DM.wE (m__higher A [.val (oD a), .val (oD b)] s) Q X := by
  walk_at "run"
  unfold f__higher
  cases a with
  | none => cases b <;> (simp only [oD, higher] at q ⊢; walk_at "ev"; exact w_fin_v rfl clean_self q)
  | some a => cases b with
    | none => simp only [oD, higher] at q ⊢; walk_at "ev"; exact w_fin_v rfl clean_self q
    | some b =>
      by_cases h : a < b
      · simp only [oD, higher, if_pos h] at q ⊢; walk_at "ev"; exact w_fin_v rfl clean_self q
      · simp only [oD, higher, if_neg h] at q ⊢; walk_at "ev"; exact w_fin_v rfl clean_self q
theorem lower_w (A : Ad) {a b : Option Int} {s : Stx} {Q : RV → Stx → Prop} {X : XR} (q : Q (.val (oD (lower a b))) s) : DM.wE (m__lower A [.val (oD a), .val (oD b)] s) Q X := by
  walk_at "run"
  unfold f__lower
  cases a with
  | none => cases b <;> (simp only [oD, lower] at q ⊢; walk_at "ev"; exact w_fin_v rfl clean_self q)
  | some a => cases b with
    | none => simp only [oD, lower] at q ⊢; walk_at "ev"; exact w_fin_v rfl clean_self q
    | some b =>
      by_cases h : b < a
      · simp only [oD, lower, if_pos h] at q ⊢; walk_at "ev"; exact w_fin_v rfl clean_self q
      · simp only [oD, lower, if_neg h] at q ⊢; walk_at "ev"; exact w_fin_v rfl clean_self q
theorem common_w (A : Ad) {p r : Lim} {s : Stx} {Q : RV → Stx → Prop} {X : XR} (q : Q (.val (cD (cmn p r))) s) : DM.wE (m_common A [.val (lD p), .val (lD r)] s) Q X := by
  walk_at "run"
  unfold f_common
  unfold lD
  walk_at "ev"
  refine higher_w A ?_
  walk_at "ev"
  refine lower_w A ?_
  unfold cmn at q
  cases ha : higher p.1 r.1 with
  | none =>
    simp only [ha] at q
    simp only [oD]
    walk_at "ev"
    exact w_fin_v rfl clean_self q
  | some a => cases hb : lower p.2 r.2 with
    | none =>
      simp only [ha, hb] at q
      simp only [oD]
      walk_at "ev"
      exact w_fin_v rfl clean_self q
    | some b =>
      simp only [ha, hb] at q
      simp only [oD]
      by_cases h : b < a
      · rw [if_pos h] at q
        walk_at "ev"
        exact w_fin_v rfl clean_self q
      · rw [if_neg h] at q
        walk_at "ev"
        exact w_fin_v rfl clean_self q
theorem limit_w (A : Ad) {l : AL Lim} {z : Str} {s : Stx} {Q : RV → Stx → Prop} {X : XR} (q : Q (.val (lD (lat l z))) s) : DM.wE (m_Pattern_limit A [.val (pO A l), .val (.str z)] s) Q X := by
  walk_at "run"
  unfold f_Pattern_limit
  walk_at "ev"
  rw [show k_NO_LIMITS = lD noL from rfl, getR_a]
  exact w_fin_v rfl clean_self q
end G
namespace G
open PySem PySem.Spec PyProof.Rows L2 DM
open M (Nb IsName)
theorem isint_w (A : Ad) {i : Int} {s : Stx} {Q : RV → Stx → Prop} {X : XR} (q : Q (.val (.bl true)) s) : DM.wE (m__law_is_integer A [.val (.int i)] s) Q X := by
  walk_at "run"
  unfold f__law_is_integer
  walk_at "ev"
  exact w_fin_v rfl clean_self q
theorem limits_of_w (A : Ad) {l : AL Lim} {s : Stx} {Q : RV → Stx → Prop} {X : XR} (hn : ANd l) (hl : l.length < 64) (q : Q (.val (.lst (lL l))) s) : DM.wE (m_Pattern_limits A [.val (pO A l)] s) Q X := by
  have hcap : (cap : Nat) = 1000000 := rfl
  walk_at "run"
  unfold f_Pattern_limits
  walk_at "ev"
  refine in_order_w A hn hl ?_
  walk_at "ev"
  refine ⟨by rw [List.length_map, sortS_len, List.length_map]; omega, ?_⟩
  refine w_compM (fun d => match d with | .str z => lT l z | _ => .non) (fun d m => ?_) ?_
  · obtain ⟨z, hz, rfl⟩ := List.mem_map.mp m
    have hk := lat_mem (sortS_mem.mp hz)
    unfold lD at hk
    refine ⟨_, rfl, ?_⟩
    walk_at "ev"
    exact ⟨rfl, rfl⟩
  · rw [List.map_map]
    walk_at "ev"
    exact w_fin_v rfl clean_self q
def pk (l : AL Lim) : D → Option D
  | .tup [.str z, a, b] => if decide (lat l z ≠ noL) = true then some (.tup [.str z, a, b]) else none
  | _ => none
theorem pk_lT (l : AL Lim) (z : Str) : pk l (lT l z) = if decide (lat l z ≠ noL) = true then some (lT l z) else none := rfl
theorem pk_map (l : AL Lim) : ∀ zs : List Str, (zs.map (lT l)).filterMap (pk l) = (zs.filter fun z => decide (lat l z ≠ noL)).map (lT l)
  | [] => rfl
  | z :: r => by
    rw [List.map_cons, List.filterMap_cons, List.filter_cons, pk_map l r, pk_lT]
    cases decide (lat l z ≠ noL) <;> rfl
theorem listed_w (A : Ad) {l : AL Lim} {s : Stx} {Q : RV → Stx → Prop} {X : XR} (hn : ANd l) (hl : l.length < 64) (q : Q (.val (.lst (lS l))) s) : DM.wE (m__law_listed A [.val (aDct lD l)] s) Q X := by
  have hcap : (cap : Nat) = 1000000 := rfl
  walk_at "run"
  unfold f__law_listed
  walk_at "ev"
  refine w_compD_v rfl ?_
  rw [keys_a]
  refine w_compM _root_.id (fun d m => ?_) ?_
  · obtain ⟨z, _, rfl⟩ := List.mem_map.mp m
    refine ⟨_, rfl, ?_⟩
    walk_at "ev"
    exact ⟨rfl, rfl⟩
  rw [List.map_id]
  walk_at "ev"
  refine l_sorted_f ls_v hn (by rw [List.length_map]; exact hl) ?_
  walk_at "ev"
  refine ⟨by rw [List.length_map, sortS_len, List.length_map]; omega, ?_⟩
  refine w_compM (fun d => match d with | .str z => lT l z | _ => .non) (fun d m => ?_) ?_
  · obtain ⟨z, hz, rfl⟩ := List.mem_map.mp m
    have hk := lat_mem (sortS_mem.mp hz)
    unfold lD at hk
    refine ⟨_, rfl, ?_⟩
    walk_at "ev"
    exact ⟨rfl, rfl⟩
  rw [List.map_map]
  walk_at "ev"
  refine ⟨by rw [List.length_map, sortS_len, List.length_map]; omega, ?_⟩
  refine w_compG (pk l) (fun d m => ?_) ?_
  · obtain ⟨z, hz, rfl⟩ := List.mem_map.mp m
    show ∃ env1, fName 3 (.val (lT l z)) _ s = some env1 ∧ DM.wE _ (fun b s' => s' = s ∧ b = (pk l (lT l z)).isSome ∧ ∀ x, pk l (lT l z) = some x → _) _
    rw [pk_lT]
    obtain ⟨⟨a, b⟩, hv⟩ : ∃ p : Lim, lat l z = p := ⟨_, rfl⟩
    rw [hv]
    have e1 : lT l z = .tup [.str z, oD a, oD b] := by unfold lT; rw [hv]
    rw [e1]
    refine ⟨_, rfl, ?_⟩
    cases a with
    | none => cases b with
      | none =>
        have hd : decide (((none, none) : Lim) ≠ noL) = false := rfl
        rw [hd]
        walk_at "ev"
        exact ⟨rfl, rfl, fun x hx => nomatch hx⟩
      | some b =>
        have hd : decide (((none, some b) : Lim) ≠ noL) = true := decide_eq_true (by unfold noL; intro h; cases h)
        rw [hd]
        walk_at "ev"
        refine ⟨rfl, rfl, fun x hx => ?_⟩
        cases hx
        walk_at "ev"
        exact ⟨rfl, rfl⟩
    | some a =>
      have hd : decide (((some a, b) : Lim) ≠ noL) = true := decide_eq_true (by unfold noL; intro h; cases h)
      rw [hd]
      walk_at "ev"
      refine ⟨rfl, rfl, fun x hx => ?_⟩
      cases hx
      walk_at "ev"
      exact ⟨rfl, rfl⟩
  · have e2 : (sortS (l.map (·.1))).map ((fun d => match d with | .str z => lT l z | _ => .non) ∘ D.str) = (sortS (l.map (·.1))).map (lT l) := rfl
    rw [e2, pk_map]
    walk_at "ev"
    exact w_fin_v rfl clean_self q
theorem is_limit_w (A : Ad) {o : Option Int} {s : Stx} {Q : RV → Stx → Prop} {X : XR} (q : Q (.val (.bl true)) s) : DM.wE (m__law_is_limit A [.val (oD o), .val (oD o)] s) Q X := by
  walk_at "run"
  unfold f__law_is_limit
  cases o with
  | none =>
    simp only [oD]
    walk_at "ev"
    exact w_fin_v rfl clean_self q
  | some i =>
    simp only [oD]
    walk_at "ev"
    refine isint_w A ?_
    walk_at "ev"
    rw [beq_self_eq_true]
    exact w_fin_v rfl clean_self q
theorem same_w (A : Ad) {l : AL Lim} {zs : List Str} {s : Stx} {Q : RV → Stx → Prop} {X : XR} (hz : ∀ z ∈ zs, IsName z) (hl : zs.length < 1000) (q : Q (.val (.bl true)) s) : DM.wE (m__law_same_limits A [.val (.lst (zs.map (lT l))), .val (.lst (zs.map (lT l)))] s) Q X := by
  have hcap : (cap : Nat) = 1000000 := rfl
  walk_at "run"
  unfold f__law_same_limits
  walk_at "ev"
  refine w_rng1 (i := ((zs.map (lT l)).length : Int)) (by omega) (by rw [List.length_map]; omega) ?_
  refine w_loop (fun j env s' => s' = s ∧ ∃ (o2 o3 : Option RV), env = [some (.val (.lst (zs.map (lT l)))), some (.val (.lst (zs.map (lT l)))), o2, o3]) ⟨rfl, _, _, rfl⟩ (fun j d env s' hj h => ?_) (fun env s' h => ?_)
  · obtain ⟨rfl, o2, o3, rfl⟩ := h
    obtain ⟨h1, rfl⟩ := irng_at hj
    rw [Int.toNat_natCast, List.length_map] at h1
    have hi : atI (zs.map (lT l)) (j : Int) = some (lT l zs[j]) := by
      unfold atI ixN
      rw [if_pos (by omega), List.length_map, if_pos (by omega)]
      simp [List.getElem?_eq_getElem h1]
    have nm := (hz zs[j] (List.getElem_mem h1)).sgn
    generalize zs[j] = z at *
    unfold lT at hi
    refine ⟨_, rfl, ?_⟩
    walk_at "ev"
    refine l_neS nm nm ?_
    walk_at "ev"
    refine is_limit_w A ?_
    walk_at "ev"
    refine is_limit_w A ?_
    walk_at "ev"
    exact ⟨rfl, _, _, rfl⟩
  · obtain ⟨rfl, o2, o3, rfl⟩ := h
    walk_at "ev"
    exact w_fin_v rfl clean_self q
end G
namespace G
open PySem PySem.Spec PyProof.Rows L2 DM
open M (Nb IsName)
theorem higher_c (a b : Option Int) : higher a b = higher b a := by
  cases a with
  | none => cases b <;> rfl
  | some a => cases b with
    | none => rfl
    | some b =>
      unfold higher
      dsimp only
      split <;> split <;> first | rfl | (congr 1; omega) | omega
theorem lower_c (a b : Option Int) : lower a b = lower b a := by
  cases a with
  | none => cases b <;> rfl
  | some a => cases b with
    | none => rfl
    | some b =>
      unfold lower
      dsimp only
      split <;> split <;> first | rfl | (congr 1; omega) | omega
theorem cmn_c (p q : Lim) : cmn p q = cmn q p := by unfold cmn; rw [higher_c, lower_c]
theorem cmn_no {p : Lim} (h : p.ok) : cmn p noL = some p := by
  obtain ⟨a, b⟩ := p
  unfold cmn noL
  cases a with
  | none => cases b <;> rfl
  | some a => cases b with
    | none => rfl
    | some b =>
      have := h a b rfl rfl
      simp only [higher, lower]
      rw [if_neg (by omega)]
/-- what is in both -/
structure Both (l m r : AL Lim) : Prop where
  nd : ANd r
  ks : ∀ z ∈ r.map (·.1), z ∈ l.map (·.1) ∨ z ∈ m.map (·.1)
  eq : ∀ z, cmn (lat l z) (lat m z) = some (lat r z)
theorem lat_put (l : AL Lim) (z y : Str) (v : Lim) : lat (M.aput l z v) y = if y = z then v else lat l y := gat_put (n0 := noL) l z y v
theorem take_no {α : Type} {l : List α} {z : α} {j : Nat} (hn : l.Nodup) (hz : l[j]? = some z) : z ∉ l.take j := fun hm => by
  obtain ⟨hlt, e⟩ := List.getElem?_eq_some_iff.mp hz
  obtain ⟨i, hi, e2⟩ := List.mem_take_iff_getElem.mp hm
  exact List.pairwise_iff_getElem.mp hn i j (by omega) hlt (by omega) (e2.trans e.symm)
theorem take_is {α : Type} {l : List α} {z : α} {j : Nat} (hz : l[j]? = some z) : l.take (j + 1) = l.take j ++ [z] := by rw [List.take_add_one, hz]; rfl
theorem and_w (A : Ad) {l m : AL Lim} {s : Stx} {Q : RV → Stx → Prop} {X : XR} (hw : Wf s) (hl : ANd l) (hm : ANd m) (kl : ∀ p ∈ l, Lim.ok p.2) (h1 : l.length < 1000) (h2 : m.length < 1000) (no : (∃ z, cmn (lat l z) (lat m z) = none) → ∀ S, Wf S → S.hi = s.hi → s.nx ≤ S.nx → (∀ k, k < s.nx → S.at' k = s.at' k) → X ⟨.ref A.C_NoCommon, []⟩ S) (yes : ∀ r, Both l m r → Q (.val (pO A (lz r))) s) : DM.wE (m_Pattern___and__ A [.val (pO A l), .val (pO A m)] s) Q X := by
  have hcap : (cap : Nat) = 1000000 := rfl
  have hk : (aK l).length ≤ cap := by rw [aK_len]; omega
  walk_at "run"
  unfold f_Pattern___and__
  walk_at "ev"
  refine w_forDX (ks := aK m) (ds := aD lD m) (pfld_ob rfl ob_v rfl) ?_
  rw [keys_a]
  refine w_loop (fun j env S => ∃ (r : AL Lim) (o3 o4 : Option RV), env = [some (.val (pO A l)), some (.val (pO A m)), some (.ptr s.nx), o3, o4] ∧ Wf S ∧ NewD lD s S r ∧ ANd r ∧ r.length ≤ l.length + j ∧ (∀ z ∈ r.map (·.1), z ∈ l.map (·.1) ∨ z ∈ m.map (·.1)) ∧ ∀ z, if z ∈ (m.map (·.1)).take j then cmn (lat l z) (lat m z) = some (lat r z) else lat r z = lat l z) ⟨l, _, _, rfl, hw.push, NewD.start', hl, by omega, (fun _ h => .inl h), fun z => by simp⟩ (fun j d env S hj h => ?_) (fun env S h => ?_)
  · obtain ⟨r, o3, o4, rfl, wS, I, nd, len, ks, hall⟩ := h
    rw [List.getElem?_map] at hj
    obtain ⟨z, hz, rfl⟩ := Option.map_eq_some_iff.mp hj
    have hzm := List.mem_of_getElem? hz
    have hd := I.dct
    have hjl : j < m.length := by
      have := (List.getElem?_eq_some_iff.mp hz).1
      rw [List.length_map] at this; exact this
    refine ⟨_, rfl, ?_⟩
    walk_at "ev"
    refine limit_w A ?_
    walk_at "ev"
    refine limit_w A ?_
    walk_at "ev"
    refine common_w A ?_
    cases hc : cmn (lat l z) (lat m z) with
    | none =>
      unfold cD
      walk_at "ev"
      exact no ⟨z, hc⟩ S wS I.hi (by have := I.nx; omega) I.old
    | some p =>
      unfold cD
      walk_at "ev"
      refine a_put p hd (by omega) nd rfl ?_
      refine ⟨_, _, _, rfl, wS.set (by have := I.nx; omega), I.set, M.aput_nodup z p nd, by have := M.aput_len r z p; omega, fun x hx => ?_, fun x => ?_⟩
      · obtain ⟨y, hy, rfl⟩ := List.mem_map.mp hx
        rcases M.aput_mem hy with h | h
        · exact ks _ (List.mem_map.mpr ⟨y, h, rfl⟩)
        · rw [h]; exact .inr hzm
      · rw [lat_put, take_is hz]
        have hx := hall x
        by_cases e : x = z
        · rw [if_pos (List.mem_append.mpr (.inr (List.mem_singleton.mpr e))), if_pos e, e]; exact hc
        · have : x ∈ (m.map (·.1)).take j ++ [z] ↔ x ∈ (m.map (·.1)).take j := by
            rw [List.mem_append, List.mem_singleton]
            exact ⟨fun h => h.resolve_right e, .inl⟩
          rw [if_neg e]
          simp only [this]
          exact hx
  · obtain ⟨r, o3, o4, rfl, wS, I, nd, len, ks, hall⟩ := h
    rw [List.length_map, List.take_length] at hall
    have hd := I.dct
    have hf : s.clean (S.del s.nx) = s := I.fin
    have hi := I.hi
    have wD : Wf (S.del s.nx) := wS.del
    have both : Both l m r := ⟨nd, ks, fun z => by
      have h := hall z
      by_cases e : z ∈ m.map (·.1)
      · rw [if_pos e] at h; exact h
      · rw [if_neg e] at h
        rw [lat_no e, h]
        exact cmn_no (lat_ok kl z)⟩
    walk_at "ev"
    refine pmake_w A ?_
    walk_at "ev"
    refine ⟨r, rfl, nd, wD, ?_⟩
    walk_at "ev"
    refine w_fin_v hi (by rw [clean_bump]; exact hf) (yes r both)
end G
namespace G
open PySem PySem.Spec PyProof.Rows L2 DM
open M (Nb IsName)
theorem lS_congr {l m : AL Lim} (hl : ANd l) (hm : ANd m) (h : ∀ z, lat l z = lat m z) : lS l = lS m := by
  have e : (sortS (l.map (·.1))).filter (fun z => decide (lat l z ≠ noL)) = (sortS (m.map (·.1))).filter (fun z => decide (lat m z ≠ noL)) := by
    refine M.rise_eq ((sortS_rise hl).filter _) ((sortS_rise hm).filter _) fun z => ?_
    rw [List.mem_filter, List.mem_filter, sortS_mem, sortS_mem, h z]
    have key : ∀ {l : AL Lim}, decide (lat l z ≠ noL) = true → z ∈ l.map (·.1) := fun {l} q => Classical.byContradiction fun hc => by
      rw [lat_no hc] at q; simp at q
    constructor
    · rintro ⟨_, q⟩
      exact ⟨key q, q⟩
    · rintro ⟨_, q⟩
      exact ⟨key (by rw [h z]; exact q), q⟩
  unfold lS
  rw [e]
  exact List.map_congr_left fun z _ => by unfold lT; rw [h z]
theorem lcommon_w (A : Ad) {p r : Lim} {s : Stx} {Q : RV → Stx → Prop} {X : XR} (q : Q (.val (cD (cmn p r))) s) : DM.wE (m__law_common A [.val (lD p), .val (lD r)] s) Q X := by
  obtain ⟨a, b⟩ := p
  obtain ⟨c, d⟩ := r
  walk_at "run"
  unfold f__law_common
  unfold lD
  walk_at "fs"
  walk_at "nx"
  walk_at "sq"
  refine w_cutK (fun env S => S = s ∧ env = [some (.val (.tup [oD a, oD b])), some (.val (.tup [oD c, oD d])), some (.val (oD (higher a c))), none]) ?_ (fun env S h => ?_)
  · cases a with
    | none =>
      cases c with
      | none => simp only [oD, higher]; walk_at "ev"; exact ⟨rfl, rfl⟩
      | some c => simp only [oD, higher]; walk_at "ev"; exact ⟨rfl, rfl⟩
    | some a =>
      cases c with
      | none => simp only [oD, higher]; walk_at "ev"; exact ⟨rfl, rfl⟩
      | some c =>
        by_cases h : a < c
        · simp only [oD, higher, if_pos h]; walk_at "ev"; exact ⟨rfl, rfl⟩
        · simp only [oD, higher, if_neg h]; walk_at "ev"; exact ⟨rfl, rfl⟩
  obtain ⟨rfl, rfl⟩ := h
  walk_at "fs"
  walk_at "nx"
  walk_at "sq"
  refine w_cutK (fun env S' => S' = S ∧ env = [some (.val (.tup [oD a, oD b])), some (.val (.tup [oD c, oD d])), some (.val (oD (higher a c))), some (.val (oD (lower b d)))]) ?_ (fun env S' h => ?_)
  · cases b with
    | none =>
      cases d with
      | none => simp only [oD, lower]; walk_at "ev"; exact ⟨rfl, rfl⟩
      | some c => simp only [oD, lower]; walk_at "ev"; exact ⟨rfl, rfl⟩
    | some a =>
      cases d with
      | none => simp only [oD, lower]; walk_at "ev"; exact ⟨rfl, rfl⟩
      | some c =>
        by_cases h : c < a
        · simp only [oD, lower, if_pos h]; walk_at "ev"; exact ⟨rfl, rfl⟩
        · simp only [oD, lower, if_neg h]; walk_at "ev"; exact ⟨rfl, rfl⟩
  obtain ⟨rfl, rfl⟩ := h
  unfold cmn at q
  dsimp only at q
  cases ha : higher a c with
  | none =>
    simp only [ha] at q
    simp only [oD]
    walk_at "ev"
    exact w_fin_v rfl clean_self q
  | some x => cases hb : lower b d with
    | none =>
      simp only [ha, hb] at q
      simp only [oD]
      walk_at "ev"
      exact w_fin_v rfl clean_self q
    | some y =>
      simp only [ha, hb] at q
      simp only [oD]
      by_cases h : y < x
      · rw [if_pos h] at q
        walk_at "ev"
        exact w_fin_v rfl clean_self q
      · rw [if_neg h] at q
        walk_at "ev"
        exact w_fin_v rfl clean_self q
theorem both_w (A : Ad) {l m : AL Lim} {s : Stx} {Q : RV → Stx → Prop} {X : XR} (hl : ANd l) (hm : ANd m) (kl : ∀ p ∈ l, Lim.ok p.2) (h1 : l.length < 1000) (h2 : m.length < 1000) (no : (∃ z, cmn (lat l z) (lat m z) = none) → Q (.val .non) s) (yes : ∀ r, Both l m r → Q (.val (aDct lD r)) s) : DM.wE (m__law_both A [.val (aDct lD l), .val (aDct lD m)] s) Q X := by
  have hcap : (cap : Nat) = 1000000 := rfl
  have hk : (aK l).length ≤ cap := by rw [aK_len]; omega
  walk_at "run"
  unfold f__law_both
  walk_at "fs"
  walk_at "nx"
  walk_at "sq"
  refine w_forD_v rfl ?_
  rw [keys_a]
  refine w_loop (fun j env S => ∃ (r : AL Lim) (o3 o4 : Option RV), env = [some (.val (aDct lD l)), some (.val (aDct lD m)), some (.ptr s.nx), o3, o4] ∧ NewD lD s S r ∧ ANd r ∧ r.length ≤ l.length + j ∧ (∀ z ∈ r.map (·.1), z ∈ l.map (·.1) ∨ z ∈ m.map (·.1)) ∧ ∀ z, if z ∈ (m.map (·.1)).take j then cmn (lat l z) (lat m z) = some (lat r z) else lat r z = lat l z) ⟨l, _, _, rfl, NewD.start', hl, by omega, (fun _ h => .inl h), fun z => by simp⟩ (fun j d env S hj h => ?_) (fun env S h => ?_)
  · obtain ⟨r, o3, o4, rfl, I, nd, len, ks, hall⟩ := h
    rw [List.getElem?_map] at hj
    obtain ⟨z, hz, rfl⟩ := Option.map_eq_some_iff.mp hj
    have hzm := List.mem_of_getElem? hz
    have hd := I.dct
    have hk2 := lat_mem hzm
    have hjl : j < m.length := by
      have := (List.getElem?_eq_some_iff.mp hz).1
      rw [List.length_map] at this; exact this
    have hrz : lat r z = lat l z := by
      have h := hall z
      rw [if_neg (take_no hm hz)] at h
      exact h
    refine ⟨_, rfl, ?_⟩
    walk_at "ev"
    rw [show (D.tup [.non, .non]) = lD noL from rfl, getR_a]
    walk_at "ev"
    refine lcommon_w A ?_
    rw [show (r.lookup z).getD noL = lat l z from hrz]
    walk_at "ev"
    cases hc : cmn (lat l z) (lat m z) with
    | none =>
      unfold cD
      walk_at "ev"
      exact w_fin_v I.hi (by exact clean_old I.old) (no ⟨z, hc⟩)
    | some p =>
      unfold cD
      walk_at "ev"
      refine a_put p hd (by omega) nd rfl ?_
      refine ⟨_, _, _, rfl, I.set, M.aput_nodup z p nd, by have := M.aput_len r z p; omega, fun x hx => ?_, fun x => ?_⟩
      · obtain ⟨y, hy, rfl⟩ := List.mem_map.mp hx
        rcases M.aput_mem hy with h | h
        · exact ks _ (List.mem_map.mpr ⟨y, h, rfl⟩)
        · rw [h]; exact .inr hzm
      · rw [lat_put, take_is hz]
        have hx := hall x
        by_cases e : x = z
        · rw [if_pos (List.mem_append.mpr (.inr (List.mem_singleton.mpr e))), if_pos e, e]; exact hc
        · have : x ∈ (m.map (·.1)).take j ++ [z] ↔ x ∈ (m.map (·.1)).take j := by
            rw [List.mem_append, List.mem_singleton]
            exact ⟨fun h => h.resolve_right e, .inl⟩
          rw [if_neg e]
          simp only [this]
          exact hx
  · obtain ⟨r, o3, o4, rfl, I, nd, len, ks, hall⟩ := h
    rw [List.length_map, List.take_length] at hall
    have hd := I.dct
    have both : Both l m r := ⟨nd, ks, fun z => by
      have h := hall z
      by_cases e : z ∈ m.map (·.1)
      · rw [if_pos e] at h; exact h
      · rw [if_neg e] at h
        rw [lat_no e, h]
        exact cmn_no (lat_ok kl z)⟩
    walk_at "ev"
    exact w_fin_v I.hi I.fin (yes r both)
end G
namespace G
open PySem PySem.Spec PyProof.Rows L2 DM
open M (Nb IsName)
theorem Both.len {l m r : AL Lim} (h : Both l m r) (h1 : l.length ≤ 6) (h2 : m.length ≤ 6) : r.length ≤ 12 := by
  have := sub_len h.nd (b := l.map (·.1) ++ m.map (·.1)) fun x hx => List.mem_append.mpr (h.ks x hx)
  rw [List.length_append, List.length_map, List.length_map, List.length_map] at this
  omega
theorem told9_w (A : Ad) {l m : AL Lim} {s : Stx} {Q : RV → Stx → Prop} {X : XR} (hw : Wf s) (hl : ANd l) (hm : ANd m) (kl : ∀ p ∈ l, Lim.ok p.2) (h1 : l.length ≤ 6) (h2 : m.length ≤ 6) (no : (∃ z, cmn (lat l z) (lat m z) = none) → Q (.val .non) s) (yes : ∀ r, Both l m r → Q (.val (.lst (lS r))) s) : DM.wE (m__law_told A [.val (pO A l), .val (pO A m)] s) Q X := by
  walk_at "run"
  unfold f__law_told
  walk_at "ev"
  refine and_w A hw hl hm kl (by omega) (by omega) (fun h S wS hS nS oS => ?_) fun r hr => ?_
  · refine w_tstK (l := []) lookA_self ?_
    rw [if_pos rfl]
    walk_at "ev"
    exact w_fin_v hS (clean_old oS) (no h)
  · walk_at "ev"
    refine limits_of_w A (fm_nd DM.hz hr.nd) (by have := hr.len h1 h2; have : (lz r).length ≤ r.length := fm_len DM.hz r; omega) ?_
    rw [lz_listed hr.nd]
    walk_at "ev"
    exact w_fin_v rfl clean_self (yes r hr)
theorem kind_w (A : Ad) {l m : AL Lim} {s : Stx} {Q : RV → Stx → Prop} {X : XR} (hw : Wf s) (hl : ANd l) (hm : ANd m) (kl : ∀ p ∈ l, Lim.ok p.2) (h1 : l.length ≤ 6) (h2 : m.length ≤ 6) (no : ∃ z, cmn (lat l z) (lat m z) = none) (q : Q (.val (.bl true)) s) : DM.wE (m__law_kind A [.val (pO A l), .val (pO A m)] s) Q X := by
  walk_at "run"
  unfold f__law_kind
  walk_at "ev"
  refine and_w A hw hl hm kl (by omega) (by omega) (fun h S wS hS nS oS => ?_) fun r hr => ?_
  · refine ⟨true, ?_, fun _ => ⟨true, ?_, Nat.le_of_ble_eq_true rfl, ?_⟩, fun h => nomatch h⟩
    · exact lookA_self
    · exact lookA_self
    · walk_at "ev"
      exact w_fin_v hS (clean_old oS) q
  · obtain ⟨z, hz⟩ := no
    rw [hr.eq z] at hz
    cases hz
/-- a law's second limits, turned behind the first -/
theorem behind_w (A : Ad) {n : Nat} {p : Int} {zs : List Str} {l m : AL Lim} {st : Stx} {Q : RV → Stx → Prop} {X : XR} (hn : n < st.nx) (e : st.at' n = some (.lst [.int p])) (h6 : zs.length = 6) (okl : LOk zs l) (okm : LOk zs m) (q : ∀ m' p', LOk zs m' → Q (.val (aDct lD m')) (st.set n (.lst [.int p']))) : DM.wE (m__law_behind A [.ptr n, .val (aDct lD l), .val (aDct lD m)] st) Q X := by
  have hcap : (cap : Nat) = 1000000 := rfl
  have hk : (aK m).length ≤ cap := by rw [aK_len]; have := okm.len; omega
  walk_at "run"
  unfold f__law_behind
  walk_at "fs"
  walk_at "nx"
  walk_at "sq"
  refine w_forD_v rfl ?_
  rw [keys_a]
  refine w_loop (fun j env s => ∃ (o4 o5 o6 o7 : Option RV) (r : AL Lim) (q : Int), env = [some (.ptr n), some (.val (aDct lD l)), some (.val (aDct lD m)), some (.ptr st.nx), o4, o5, o6, o7] ∧ Fr st n s q ∧ s.nx = st.nx + 1 ∧ s.at' st.nx = some (.dct false (aK r) (aD lD r)) ∧ LOk zs r) ?_ (fun j d env s hj h => ?_) (fun env s h => ?_)
  · exact ⟨_, _, _, _, m, p, rfl, (Fr.start e).push hn, rfl, push_at, okm⟩
  · obtain ⟨o4, o5, o6, o7, r, q, rfl, fr, nx, ad, ok⟩ := h
    rw [List.getElem?_map] at hj
    obtain ⟨z, hz, rfl⟩ := Option.map_eq_some_iff.mp hj
    have hzl := List.mem_of_getElem? hz
    have hzz : z ∈ zs := by
      obtain ⟨p, hp, rfl⟩ := List.mem_map.mp hzl
      exact okl.ks p hp
    have hln : r.length < cap := by have := ok.len; omega
    have hk2 := lat_mem hzl
    obtain ⟨⟨a, b⟩, hu⟩ : ∃ p : Lim, lat l z = p := ⟨_, rfl⟩
    rw [hu] at hk2
    unfold lD at hk2
    refine ⟨_, rfl, ?_⟩
    walk_at "ev"
    refine draw_w A (by decide) (by unfold Nb; decide) (by omega) fr.pool fun way p1 w0 w1 => ?_
    have fr := fr.draw (q' := p1)
    have ad : (s.set n (.lst [.int p1])).at' st.nx = some (.dct false (aK r) (aD lD r)) := (set_ne (by omega)).trans ad
    have nx : (s.set n (.lst [.int p1])).nx = st.nx + 1 := nx
    generalize s.set n (.lst [.int p1]) = T at fr ad nx ⊢
    have fin : ∀ (T : Stx) (r : AL Lim), Fr st n T p1 → T.nx = st.nx + 1 → T.at' st.nx = some (.dct false (aK r) (aD lD r)) → LOk zs r → ∀ v, v.ok → ∃ s', putM (.ptr st.nx) (.val (.str z)) (.val (lD v)) T = some s' ∧ (∃ (o4 o5 o6 o7 : Option RV) (r : AL Lim) (q : Int), [some (.ptr n), some (.val (aDct lD l)), some (.val (aDct lD m)), some (.ptr st.nx), some (.val (.str z)), some (.val (.int way)), some (.val (oD a)), some (.val (oD b))] = [some (.ptr n), some (.val (aDct lD l)), some (.val (aDct lD m)), some (.ptr st.nx), o4, o5, o6, o7] ∧ Fr st n s' q ∧ s'.nx = st.nx + 1 ∧ s'.at' st.nx = some (.dct false (aK r) (aD lD r)) ∧ LOk zs r) := fun T r fr nx ad ok v hv => by
      refine a_put v ad (by have := ok.len; omega) ok.nd rfl ?_
      exact ⟨_, _, _, _, _, p1, rfl, fr.set hn (Nat.le_refl _), nx, set_at, ok.put hzz hv⟩
    have hway : way = 0 ∨ way = 1 ∨ way = 2 ∨ way = 3 := by omega
    cases a with
    | none =>
      cases b with
      | none =>
        simp only [oD] at hk2 ⊢
        walk_at "ev"
        exact ⟨_, _, _, _, r, p1, rfl, fr, nx, ad, ok⟩
      | some b =>
        simp only [oD] at hk2 fin ⊢
        walk_at "ev"
        rcases hway with rfl | rfl | rfl | rfl
        · walk_at "ev"
          refine a_put (some (b + 0), none) ad hln ok.nd rfl ?_
          walk_at "ev"
          exact ⟨_, _, _, _, _, p1, rfl, fr.set hn (Nat.le_refl _), nx, set_at, ok.put hzz (fun a b h1 h2 => nomatch h2)⟩
        · walk_at "ev"
          refine a_put (some (b + 1), none) ad hln ok.nd rfl ?_
          walk_at "ev"
          exact ⟨_, _, _, _, _, p1, rfl, fr.set hn (Nat.le_refl _), nx, set_at, ok.put hzz (fun a b h1 h2 => nomatch h2)⟩
        · walk_at "ev"
          exact ⟨_, _, _, _, r, p1, rfl, fr, nx, ad, ok⟩
        · walk_at "ev"
          exact ⟨_, _, _, _, r, p1, rfl, fr, nx, ad, ok⟩
    | some a =>
      have rest : ∀ (env : DM.Env) (b : Option Int), env = [some (.ptr n), some (.val (aDct lD l)), some (.val (aDct lD m)), some (.ptr st.nx), some (.val (.str z)), some (.val (.int way)), some (.val (.int a)), some (.val (oD b))] → True := fun _ _ _ => trivial
      cases b with
      | none =>
        simp only [oD] at hk2 fin ⊢
        walk_at "ev"
        rcases hway with rfl | rfl | rfl | rfl
        · walk_at "ev"
          exact ⟨_, _, _, _, r, p1, rfl, fr, nx, ad, ok⟩
        · walk_at "ev"
          exact ⟨_, _, _, _, r, p1, rfl, fr, nx, ad, ok⟩
        · walk_at "ev"
          refine a_put (none, some a) ad hln ok.nd rfl ?_
          walk_at "ev"
          exact ⟨_, _, _, _, _, p1, rfl, fr.set hn (Nat.le_refl _), nx, set_at, ok.put hzz (fun a b h1 h2 => nomatch h1)⟩
        · walk_at "ev"
          refine a_put (none, some (a - 1)) ad hln ok.nd rfl ?_
          exact ⟨_, _, _, _, _, p1, rfl, fr.set hn (Nat.le_refl _), nx, set_at, ok.put hzz (fun a b h1 h2 => nomatch h1)⟩
      | some b =>
        simp only [oD] at hk2 fin ⊢
        walk_at "ev"
        rcases hway with rfl | rfl | rfl | rfl
        · walk_at "ev"
          refine a_put (some (b + 0), none) ad hln ok.nd rfl ?_
          walk_at "ev"
          exact ⟨_, _, _, _, _, p1, rfl, fr.set hn (Nat.le_refl _), nx, set_at, ok.put hzz (fun a b h1 h2 => nomatch h2)⟩
        · walk_at "ev"
          refine a_put (some (b + 1), none) ad hln ok.nd rfl ?_
          walk_at "ev"
          exact ⟨_, _, _, _, _, p1, rfl, fr.set hn (Nat.le_refl _), nx, set_at, ok.put hzz (fun a b h1 h2 => nomatch h2)⟩
        · walk_at "ev"
          refine a_put (none, some a) ad hln ok.nd rfl ?_
          walk_at "ev"
          exact ⟨_, _, _, _, _, p1, rfl, fr.set hn (Nat.le_refl _), nx, set_at, ok.put hzz (fun a b h1 h2 => nomatch h1)⟩
        · walk_at "ev"
          refine a_put (none, some (a - 1)) ad hln ok.nd rfl ?_
          exact ⟨_, _, _, _, _, p1, rfl, fr.set hn (Nat.le_refl _), nx, set_at, ok.put hzz (fun a b h1 h2 => nomatch h1)⟩
  · obtain ⟨o4, o5, o6, o7, r, q', rfl, fr, nx, ad, ok⟩ := h
    walk_at "ev"
    exact w_fin_v fr.hi ((fr.del hn (Nat.le_refl _)).clean hn) (q r q' ok)
end G
namespace G
open PySem PySem.Spec PyProof.Rows L2 DM
open M (Nb IsName)
/-- what stands in both, told the other way round -/
theorem Both.swap {l m r r' : AL Lim} (h : Both l m r) (h' : Both m l r') : ∀ z, lat r z = lat r' z := fun z => by
  have e := h'.eq z
  rw [cmn_c, h.eq z] at e
  exact Option.some.inj e
theorem Both.same {l m r r' : AL Lim} (h : Both l m r) (h' : Both l m r') : ∀ z, lat r z = lat r' z := fun z => by
  have e := h'.eq z
  rw [h.eq z] at e
  exact Option.some.inj e
theorem peq_w (A : Ad) {l m : AL Lim} {s : Stx} {Q : RV → Stx → Prop} {X : XR} (hl : ANd l) (hm : ANd m) (h : ∀ z, l.lookup z = m.lookup z) (q : Q (.val (.bl true)) s) : DM.wE (m_Pattern___eq__ A [.val (pO A l), .val (pO A m)] s) Q X := by
  obtain ⟨b, h1, h2⟩ := eq_dcts (f := lD) lD_pd lP_shaped (fun x y => by rw [lP_eqv, decide_eq_true_eq]) hl hm (s := s) (x := .val (aDct lD l)) (y := .val (aDct lD m)) rfl rfl rfl false
  have e : b = true := h2.mpr h
  subst e
  walk_at "run"
  unfold f_Pattern___eq__
  walk_at "ev"
  refine w_eq h1 ?_
  exact w_fin_v rfl clean_self q
theorem lS_len {l : AL Lim} : (lS l).length ≤ l.length := by
  unfold lS
  rw [List.length_map]
  exact Nat.le_trans (List.length_filter_le ..) (by rw [sortS_len, List.length_map]; exact Nat.le_refl _)
theorem same9_w (A : Ad) {l : AL Lim} {ws : List Str} {s : Stx} {Q : RV → Stx → Prop} {X : XR} (hN : ∀ z ∈ ws, IsName z) (ks : ∀ z ∈ l.map (·.1), z ∈ ws) (hl : l.length < 500) (q : Q (.val (.bl true)) s) : DM.wE (m__law_same_limits A [.val (.lst (lS l)), .val (.lst (lS l))] s) Q X := by
  obtain ⟨zf, hzf, nml, lnl⟩ : ∃ zf : List Str, lS l = zf.map (lT l) ∧ (∀ z ∈ zf, IsName z) ∧ zf.length < 1000 :=
    ⟨(sortS (l.map (·.1))).filter (fun z => decide (lat l z ≠ noL)), rfl, fun z hz => hN _ (ks _ (sortS_mem.mp (List.mem_filter.mp hz).1)), Nat.lt_of_le_of_lt (List.length_filter_le ..) (by rw [sortS_len, List.length_map]; omega)⟩
  rw [hzf]
  exact same_w A nml lnl q
theorem law_ok (A : Ad) (hA : A.C_Notes ≠ A.C_Change ∧ A.C_Notes ≠ A.C_SceneError ∧ A.C_Notes ≠ A.C_NoCommon ∧ A.C_Notes ≠ A.C_InvalidScene ∧ A.C_Notes ≠ A.C_TooMany ∧ A.C_Notes ≠ A.C_Pattern ∧ A.C_Change ≠ A.C_SceneError ∧ A.C_Change ≠ A.C_NoCommon ∧ A.C_Change ≠ A.C_InvalidScene ∧ A.C_Change ≠ A.C_TooMany ∧ A.C_Change ≠ A.C_Pattern ∧ A.C_SceneError ≠ A.C_NoCommon ∧ A.C_SceneError ≠ A.C_InvalidScene ∧ A.C_SceneError ≠ A.C_TooMany ∧ A.C_SceneError ≠ A.C_Pattern ∧ A.C_NoCommon ≠ A.C_InvalidScene ∧ A.C_NoCommon ≠ A.C_TooMany ∧ A.C_NoCommon ≠ A.C_Pattern ∧ A.C_InvalidScene ≠ A.C_TooMany ∧ A.C_InvalidScene ≠ A.C_Pattern ∧ A.C_TooMany ≠ A.C_Pattern) (ns : List Int) (hl : ns.length ≤ 63) (d : D) (hd : d = D.lst (ns.map .int) ∨ d = D.lsk (ns.map .int)) : ∃ st', m_law A [.val d] Stx.z = .ok (.val (.bl true)) st' := by
  have hcap : (cap : Nat) = 1000000 := rfl
  have hz : Wf Stx.z := fun n _ => rfl
  have hls : ∀ s : Stx, s.ls (.val d) = some (ns.map .int) := fun s => by rcases hd with rfl | rfl <;> rfl
  have key : DM.wE (m_law A [.val d] Stx.z) (fun r _ => r = .val (.bl true)) fun _ _ => False := by
    walk_at "run"
    unfold f_law
    walk_at "ev"
    refine l_addL_f ls_v (hls _) (by rw [List.length_map]; simp; omega) ?_
    walk_at "ev"
    refine w_loop (fun j env s => ∃ (o1 o2 o3 o4 o5 o6 o7 o8 o9 o10 o11 o12 o13 o14 : Option RV), env = [some (.val d), o1, o2, o3, o4, o5, o6, o7, o8, o9, o10, o11, o12, o13, o14] ∧ Wf s ∧ s.hi = 0 ∧ (o2 = none ∨ ∃ d, o2 = some (.val d))) ?_ (fun j x env s hj h => ?_) (fun env s h => ?_)
    · exact ⟨_, _, _, _, _, _, _, _, _, _, _, _, _, _, rfl, hz, rfl, .inl rfl⟩
    · obtain ⟨o1, o2, o3, o4, o5, o6, o7, o8, o9, o10, o11, o12, o13, o14, rfl, w, hi, _⟩ := h
      obtain ⟨c, rfl⟩ : ∃ c, x = .int c := by
        have := List.mem_of_getElem? hj
        rcases List.mem_cons.mp this with rfl | h
        · exact ⟨0, rfl⟩
        · obtain ⟨c, _, rfl⟩ := List.mem_map.mp h; exact ⟨c, rfl⟩
      refine ⟨_, rfl, ?_⟩
      walk_at "ev"
      refine pool_w A w fun q0 => ?_
      walk_at "ev"
      refine draw_w A (by decide) (by unfold Nb; decide) (by walk_at "lt") push_at fun v q1 h0 h1 => ?_
      generalize hn : s.nx = n
      generalize hT : (s.push (.lst [.int q0])).set n (.lst [.int q1]) = T
      have wT : Wf T := by rw [← hT]; exact w.push.set (by rw [← hn]; walk_at "lt")
      have nT : n < T.nx := by rw [← hT, ← hn]; exact Nat.lt_succ_self _
      have hiT : T.hi = 0 := by rw [← hT]; exact hi
      have aT : T.at' n = some (.lst [.int q1]) := by rw [← hT]; exact set_at
      clear hT hn w hi hj
      walk_at "ev"
      refine draw_w A (by decide) (by unfold Nb; decide) (by exact nT) aT fun s1 q2 s10 s11 => ?_
      walk_at "ev"
      refine draw_w A (by decide) (by unfold Nb; decide) (by exact nT) set_at fun s2 q3 s20 s21 => ?_
      rw [set_set]
      walk_at "ev"
      refine far_w A (by exact nT) set_at fun far q4 nf => ?_
      rw [set_set]
      walk_at "ev"
      refine names_w A (wT.set nT) (by exact nT) set_at fun zs q5 h6 hzN => ?_
      rw [set_set]
      have sub : ∀ x y : Nat, (∀ z ∈ (zs.drop x).take y, z ∈ zs) ∧ ((zs.drop x).take y).length ≤ 6 := fun x y => ⟨fun z m => List.mem_of_mem_drop (List.mem_of_mem_take m), by rw [List.length_take, List.length_drop]; omega⟩
      obtain ⟨x1, y1, hcut1⟩ := cutD_map D.str zs none (some s1)
      obtain ⟨x2, y2, hcut2⟩ := cutD_map D.str zs (some (6 - s2)) none
      walk_at "ev"
      rw [hcut1]
      refine limits_w A (wT.set nT) (by exact nT) set_at (by have := (sub x1 y1).2; omega) nf fun l q6 ok => ?_
      rw [set_set]
      have okl := ok.mono (sub x1 y1).1
      clear ok hcut1
      walk_at "ev"
      rw [hcut2]
      refine limits_w A (wT.set nT) (by exact nT) set_at (by have := (sub x2 y2).2; omega) nf fun m0 q7 ok => ?_
      rw [set_set]
      have okm0 := ok.mono (sub x2 y2).1
      clear ok hcut2 sub
      walk_at "sq"
      refine w_cutK (fun env S => ∃ (m : AL Lim) (q : Int), env = [some (.val d), some (.val (.int c)), some (.ptr n), some (.val (.bl (v == 2))), some (.val (.lst [.int s1, .int s2])), some (.val (.int far)), some (.val (.lst (zs.map .str))), some (.val (aDct lD l)), some (.val (aDct lD m)), o9, o10, o11, o12, o13, o14] ∧ S = T.set n (.lst [.int q]) ∧ LOk zs m) ?_ (fun env S h => ?_)
      · walk_at "ev"
        refine wS_ite (fun h => ?_) fun h => ?_
        · walk_at "ev"
          refine behind_w A (by exact nT) set_at h6 okl okm0 fun m' p' okm' => ?_
          rw [set_set]
          walk_at "ev"
          exact ⟨m', p', rfl, rfl, okm'⟩
        · walk_at "ev"
          exact ⟨m0, q7, rfl, rfl, okm0⟩
      obtain ⟨m, q8, rfl, rfl, okm⟩ := h
      clear okm0
      have ll := okl.len
      have lm := okm.len
      have hkl : (aK l).length ≤ cap := by rw [aK_len]; omega
      have hkm : (aK m).length ≤ cap := by rw [aK_len]; omega
      have hS : (T.set n (.lst [.int q8])).at' n = some (.lst [.int q8]) := set_at
      walk_at "ev"
      have wU : Wf ((T.set n (.lst [.int q8])).del n) := (wT.set nT).del
      have hU : ((T.set n (.lst [.int q8])).del n).hi = 0 := hiT
      generalize (T.set n (.lst [.int q8])).del n = U at wU hU ⊢
      clear wT nT hiT aT hS
      refine pmake_w A ?_
      walk_at "ev"
      refine ⟨l, rfl, okl.nd, wU, ?_⟩
      walk_at "ev"
      refine pmake_w A ?_
      walk_at "ev"
      refine ⟨m, rfl, okm.nd, wU.bump, ?_⟩
      walk_at "ev"
      have wV : Wf U.bump.bump := wU.bump.bump
      have hV : U.bump.bump.hi = 0 := hU
      generalize U.bump.bump = V at wV hV ⊢
      clear wU hU U
      have nzl := fm_nd DM.hz okl.nd
      have nzm := fm_nd DM.hz okm.nd
      have ll2 : (lz l).length ≤ 6 := by have : (lz l).length ≤ l.length := fm_len DM.hz l; omega
      have lm2 : (lz m).length ≤ 6 := by have : (lz m).length ≤ m.length := fm_len DM.hz m; omega
      have kzl := lz_ok okl.ok
      have kzm := lz_ok okm.ok
      -- what the law's own reckoning gives
      obtain ⟨due, hdue, hq⟩ : ∃ due : Option (AL Lim), (match due with | none => ∃ z, cmn (lat l z) (lat m z) = none | some r => Both l m r) ∧ ∀ {Q : RV → Stx → Prop} {X : XR}, Q (.val (match due with | none => .non | some r => aDct lD r)) V → DM.wE (m__law_both A [.val (aDct lD l), .val (aDct lD m)] V) Q X := by
        obtain ⟨r, s', h1, h2, rfl⟩ := w_ex (both_w A (s := V) (Q := fun r s => (∃ due : Option (AL Lim), (match due with | none => ∃ z, cmn (lat l z) (lat m z) = none | some r => Both l m r) ∧ r = .val (match due with | none => .non | some r => aDct lD r)) ∧ s = V) (X := fun _ _ => False) okl.nd okm.nd okl.ok (by omega) (by omega) (fun h => ⟨⟨none, h, rfl⟩, rfl⟩) fun r h => ⟨⟨some r, h, rfl⟩, rfl⟩)
        obtain ⟨due, h3, rfl⟩ := h2
        exact ⟨due, h3, fun q => w_eq h1 q⟩
      refine hq ?_
      walk_at "ev"
      have latz : ∀ z, cmn (lat (lz l) z) (lat (lz m) z) = cmn (lat l z) (lat m z) := fun z => by rw [lz_get okl.nd, lz_get okm.nd]
      have latz2 : ∀ z, cmn (lat (lz m) z) (lat (lz l) z) = cmn (lat l z) (lat m z) := fun z => by rw [cmn_c, latz]
      have nmk : ∀ {r : AL Lim}, (∀ z ∈ r.map (·.1), z ∈ (lz l).map (·.1) ∨ z ∈ (lz m).map (·.1)) → ∀ z ∈ r.map (·.1), z ∈ zs := fun h z hz => by
        rcases h z hz with h | h
        · obtain ⟨p, hp, rfl⟩ := List.mem_map.mp (fm_keys DM.hz l z h)
          exact okl.ks p hp
        · obtain ⟨p, hp, rfl⟩ := List.mem_map.mp (fm_keys DM.hz m z h)
          exact okm.ks p hp
      cases due with
      | none =>
        obtain ⟨z, hz⟩ := (hdue : ∃ z, cmn (lat l z) (lat m z) = none)
        dsimp only
        walk_at "ev"
        refine w_loop (fun j env S => S = V ∧ ∃ (o12 o13 o14 : Option RV), env = [some (.val d), some (.val (.int c)), some (.val (.lst [.int q8])), some (.val (.bl (v == 2))), some (.val (.lst [.int s1, .int s2])), some (.val (.int far)), some (.val (.lst (zs.map .str))), some (.val (aDct lD l)), some (.val (aDct lD m)), some (.val (pO A (lz l))), some (.val (pO A (lz m))), some (.val .non), o12, o13, o14]) ⟨rfl, _, _, _, rfl⟩ (fun j x env S hj h => ?_) (fun env S h => ?_)
        · obtain ⟨rfl, o12, o13, o14, rfl⟩ := h
          match j, hj with
          | 0, hj =>
            cases hj
            refine ⟨_, rfl, ?_⟩
            walk_at "ev"
            refine told9_w A wV nzl nzm kzl ll2 lm2 (fun _ => ?_) fun r hr => absurd (hr.eq z) (by rw [latz, hz]; exact fun e => nomatch e)
            walk_at "ev"
            refine kind_w A wV nzl nzm kzl ll2 lm2 ⟨z, by rw [latz]; exact hz⟩ ?_
            walk_at "ev"
            exact ⟨rfl, _, _, _, rfl⟩
          | 1, hj =>
            cases hj
            refine ⟨_, rfl, ?_⟩
            walk_at "ev"
            refine told9_w A wV nzm nzl kzm lm2 ll2 (fun _ => ?_) fun r hr => absurd (hr.eq z) (by rw [latz2, hz]; exact fun e => nomatch e)
            walk_at "ev"
            refine kind_w A wV nzm nzl kzm lm2 ll2 ⟨z, by rw [latz2]; exact hz⟩ ?_
            walk_at "ev"
            exact ⟨rfl, _, _, _, rfl⟩
        · obtain ⟨rfl, o12, o13, o14, rfl⟩ := h
          walk_at "ev"
          refine limits_of_w A nzl (by omega) ?_
          rw [lz_listed okl.nd]
          walk_at "ev"
          refine listed_w A okl.nd (by omega) ?_
          walk_at "ev"
          refine same9_w A hzN (fun z hz => by obtain ⟨p, hp, rfl⟩ := List.mem_map.mp hz; exact okl.ks p hp) (by omega) ?_
          walk_at "ev"
          refine limits_of_w A nzm (by omega) ?_
          rw [lz_listed okm.nd]
          walk_at "ev"
          refine listed_w A okm.nd (by omega) ?_
          walk_at "ev"
          refine same9_w A hzN (fun z hz => by obtain ⟨p, hp, rfl⟩ := List.mem_map.mp hz; exact okm.ks p hp) (by omega) ?_
          walk_at "ev"
          exact ⟨_, _, _, _, _, _, _, _, _, _, _, _, _, _, rfl, wV, hV, .inr ⟨_, rfl⟩⟩
      | some r =>
        have hdue : Both l m r := hdue
        have ksr : ∀ z ∈ r.map (·.1), z ∈ zs := fun z hz => by
          rcases hdue.ks z hz with h | h
          · obtain ⟨p, hp, rfl⟩ := List.mem_map.mp h; exact okl.ks p hp
          · obtain ⟨p, hp, rfl⟩ := List.mem_map.mp h; exact okm.ks p hp
        have lr := hdue.len (by omega) (by omega)
        have sm : ∀ {r' : AL Lim}, Both (lz l) (lz m) r' → lS r' = lS r ∧ ∀ z, (lz r').lookup z = (lz r).lookup z := fun {r'} h => by
          have e : ∀ z, lat r' z = lat r z := fun z => by
            have e := h.eq z
            rw [latz, hdue.eq z] at e
            exact (Option.some.inj e).symm
          exact ⟨lS_congr h.nd hdue.nd e, fun z => by rw [lz_of_lat h.nd, lz_of_lat hdue.nd, e]⟩
        have sm2 : ∀ {r' : AL Lim}, Both (lz m) (lz l) r' → lS r' = lS r ∧ ∀ z, (lz r').lookup z = (lz r).lookup z := fun {r'} h => by
          have e : ∀ z, lat r' z = lat r z := fun z => by
            have e := h.eq z
            rw [latz2, hdue.eq z] at e
            exact (Option.some.inj e).symm
          exact ⟨lS_congr h.nd hdue.nd e, fun z => by rw [lz_of_lat h.nd, lz_of_lat hdue.nd, e]⟩
        have no1 : ¬ ∃ z, cmn (lat (lz l) z) (lat (lz m) z) = none := fun ⟨z, h⟩ => by rw [latz, hdue.eq z] at h; cases h
        have no2 : ¬ ∃ z, cmn (lat (lz m) z) (lat (lz l) z) = none := fun ⟨z, h⟩ => by rw [latz2, hdue.eq z] at h; cases h
        dsimp only
        walk_at "ev"
        refine w_loop (fun j env S => S = V ∧ ∃ (o12 o13 o14 : Option RV), env = [some (.val d), some (.val (.int c)), some (.val (.lst [.int q8])), some (.val (.bl (v == 2))), some (.val (.lst [.int s1, .int s2])), some (.val (.int far)), some (.val (.lst (zs.map .str))), some (.val (aDct lD l)), some (.val (aDct lD m)), some (.val (pO A (lz l))), some (.val (pO A (lz m))), some (.val (aDct lD r)), o12, o13, o14]) ⟨rfl, _, _, _, rfl⟩ (fun j x env S hj h => ?_) (fun env S h => ?_)
        · obtain ⟨rfl, o12, o13, o14, rfl⟩ := h
          match j, hj with
          | 0, hj =>
            cases hj
            refine ⟨_, rfl, ?_⟩
            walk_at "ev"
            refine told9_w A wV nzl nzm kzl ll2 lm2 (fun h => (no1 h).elim) fun r' hr => ?_
            rw [(sm hr).1]
            walk_at "ev"
            refine listed_w A hdue.nd (by omega) ?_
            walk_at "ev"
            refine same9_w A hzN ksr (by omega) ?_
            walk_at "ev"
            exact ⟨rfl, _, _, _, rfl⟩
          | 1, hj =>
            cases hj
            refine ⟨_, rfl, ?_⟩
            walk_at "ev"
            refine told9_w A wV nzm nzl kzm lm2 ll2 (fun h => (no2 h).elim) fun r' hr => ?_
            rw [(sm2 hr).1]
            walk_at "ev"
            refine listed_w A hdue.nd (by omega) ?_
            walk_at "ev"
            refine same9_w A hzN ksr (by omega) ?_
            walk_at "ev"
            exact ⟨rfl, _, _, _, rfl⟩
        · obtain ⟨rfl, o12, o13, o14, rfl⟩ := h
          walk_at "ev"
          refine and_w A wV nzl nzm kzl (by omega) (by omega) (fun h => (no1 h).elim) fun r1 h1 => ?_
          walk_at "ev"
          refine and_w A wV nzm nzl kzm (by omega) (by omega) (fun h => (no2 h).elim) fun r2 h2 => ?_
          walk_at "ev"
          refine w_own2 (isOb_of ob_v) (isOb_of ob_v) (peq_w A (fm_nd DM.hz h1.nd) (fm_nd DM.hz h2.nd) (fun z => by rw [(sm h1).2, (sm2 h2).2]) ?_)
          walk_at "ev"
          refine limits_of_w A nzl (by omega) ?_
          rw [lz_listed okl.nd]
          walk_at "ev"
          refine listed_w A okl.nd (by omega) ?_
          walk_at "ev"
          refine same9_w A hzN (fun z hz => by obtain ⟨p, hp, rfl⟩ := List.mem_map.mp hz; exact okl.ks p hp) (by omega) ?_
          walk_at "ev"
          refine limits_of_w A nzm (by omega) ?_
          rw [lz_listed okm.nd]
          walk_at "ev"
          refine listed_w A okm.nd (by omega) ?_
          walk_at "ev"
          refine same9_w A hzN (fun z hz => by obtain ⟨p, hp, rfl⟩ := List.mem_map.mp hz; exact okm.ks p hp) (by omega) ?_
          walk_at "ev"
          exact ⟨_, _, _, _, _, _, _, _, _, _, _, _, _, _, rfl, wV, hV, .inr ⟨_, rfl⟩⟩
    · obtain ⟨o1, o2, o3, o4, o5, o6, o7, o8, o9, o10, o11, o12, o13, o14, rfl, w, hi, h⟩ := h
      rcases h with rfl | ⟨d, rfl⟩
      · walk_at "ev"
        refine w_frz_n rfl ?_
        walk_at "ev"
        exact w_fin_v hi rfl rfl
      · walk_at "ev"
        exact w_fin_v hi rfl rfl
  obtain ⟨r, s, h1, h2⟩ := w_ex key
  exact ⟨s, by rw [h1, h2]⟩
end G
namespace G
open PySem PySem.Spec PyProof.Rows L2 DM
def spLaw (K : PySem.W.Frag) : Sp := fun vs H Q _ => ∃ (a : Addr) (ns : List Int), vs = [.ref a] ∧ SqL K H a (ns.map V.int) ∧ ns.length ≤ 63 ∧ ∀ H', Q (.bl true) H'
theorem all_mk {l : PySem.W.OpenLaw} {w : World} {K : PySem.W.Frag} {h : Heap} {mg : Str → Option Value} {fa : Addr} (X : K.In h) (G : h.Ns mainGlobals mg) (hfa : mg "law" = some (.ref fa))
    {CNotes CChange CSceneError CNoCommon CInvalidScene CTooMany CPattern ANO_LIMITS f_law_pool f_law_draw f_law_far f_law_names f_law_limits f_law_behind fPattern___init__ tPattern___init__ f_law_common f_law_both f_higher f_lower fcommon fPattern_limit fPattern___and__ fin_order fPattern_limits f_law_told f_law_kind f_law_is_integer f_law_is_limit f_law_same_limits f_law_listed fPattern___eq__ flaw : Addr} {oc_law_pool kV_law_pool dc_law_pool pm_law_pool cd_law_pool ct_law_pool oc_law_draw kV_law_draw dc_law_draw pm_law_draw cd_law_draw ct_law_draw oc_law_far kV_law_far dc_law_far pm_law_far cd_law_far ct_law_far oc_law_names kV_law_names dc_law_names pm_law_names cd_law_names ct_law_names oc_law_limits kV_law_limits dc_law_limits pm_law_limits cd_law_limits ct_law_limits oc_law_behind kV_law_behind dc_law_behind pm_law_behind cd_law_behind ct_law_behind ocPattern___init__ kVPattern___init__ dcPattern___init__ pmPattern___init__ cdPattern___init__ ctPattern___init__ tcPattern___init__ oc_law_common kV_law_common dc_law_common pm_law_common cd_law_common ct_law_common oc_law_both kV_law_both dc_law_both pm_law_both cd_law_both ct_law_both oc_higher kV_higher dc_higher pm_higher cd_higher ct_higher oc_lower kV_lower dc_lower pm_lower cd_lower ct_lower occommon kVcommon dccommon pmcommon cdcommon ctcommon ocPattern_limit kVPattern_limit dcPattern_limit pmPattern_limit cdPattern_limit ctPattern_limit ocPattern___and__ kVPattern___and__ dcPattern___and__ pmPattern___and__ cdPattern___and__ ctPattern___and__ ocin_order kVin_order dcin_order pmin_order cdin_order ctin_order ocPattern_limits kVPattern_limits dcPattern_limits pmPattern_limits cdPattern_limits ctPattern_limits oc_law_told kV_law_told dc_law_told pm_law_told cd_law_told ct_law_told oc_law_kind kV_law_kind dc_law_kind pm_law_kind cd_law_kind ct_law_kind oc_law_is_integer kV_law_is_integer dc_law_is_integer pm_law_is_integer cd_law_is_integer ct_law_is_integer oc_law_is_limit kV_law_is_limit dc_law_is_limit pm_law_is_limit cd_law_is_limit ct_law_is_limit oc_law_same_limits kV_law_same_limits dc_law_same_limits pm_law_same_limits cd_law_same_limits ct_law_same_limits oc_law_listed kV_law_listed dc_law_listed pm_law_listed cd_law_listed ct_law_listed ocPattern___eq__ kVPattern___eq__ dcPattern___eq__ pmPattern___eq__ cdPattern___eq__ ctPattern___eq__ oclaw kVlaw dclaw pmlaw cdlaw ctlaw : Value} {doNO_LIMITS od_law_pool an_law_pool od_law_draw an_law_draw od_law_far an_law_far od_law_names an_law_names od_law_limits an_law_limits od_law_behind an_law_behind odPattern___init__ anPattern___init__ tdPattern___init__ od_law_common an_law_common od_law_both an_law_both od_higher an_higher od_lower an_lower odcommon ancommon odPattern_limit anPattern_limit odPattern___and__ anPattern___and__ odin_order anin_order odPattern_limits anPattern_limits od_law_told an_law_told od_law_kind an_law_kind od_law_is_integer an_law_is_integer od_law_is_limit an_law_is_limit od_law_same_limits an_law_same_limits od_law_listed an_law_listed odPattern___eq__ anPattern___eq__ odlaw anlaw : Option Addr} {soNO_LIMITS sl_law_pool sl_law_draw sl_law_far sl_law_names sl_law_limits sl_law_behind slPattern___init__ tsPattern___init__ sl_law_common sl_law_both sl_higher sl_lower slcommon slPattern_limit slPattern___and__ slin_order slPattern_limits sl_law_told sl_law_kind sl_law_is_integer sl_law_is_limit sl_law_same_limits sl_law_listed slPattern___eq__ sllaw : Array (Option Value)} {noNO_LIMITS tnPattern___init__ : Nat}
    (aCNotes : PySem.W.nsIn K mainGlobals "Notes" = some (some (.ref CNotes)))
    (pgNotes : PySem.W.plainGet K CNotes Str.empty = true)
    (hdNotes : PySem.W.hasDictIn K CNotes = true)
    (poNotes : PySem.W.plainOver K CNotes = true)
    (saNotes : PySem.W.findIn K (.ref CNotes) "__setattr__" = some (some (.builtin "object.__setattr__")))
    (mkNotes : PySem.W.makesIn K CNotes = true)
    (kcNotes : PySem.W.keepIn K (.ref CNotes) = true)
    (nsNotes : PySem.W.noSeq K CNotes = true)
    (sfNotes : PySem.W.selfFirst K CNotes = true)
    (clNotes : PySem.W.findIn K (.ref CNotes) "__class__" = some (some (.builtin "object.__class__")))
    (mrNotes : PySem.W.mroIn K CNotes (.type "object") = some true)
    (nNotes__values : PySem.W.findIn K (.ref CNotes) "_values" = some none)
    (aCChange : PySem.W.nsIn K mainGlobals "Change" = some (some (.ref CChange)))
    (pgChange : PySem.W.plainGet K CChange Str.empty = true)
    (hdChange : PySem.W.hasDictIn K CChange = true)
    (poChange : PySem.W.plainOver K CChange = true)
    (saChange : PySem.W.findIn K (.ref CChange) "__setattr__" = some (some (.builtin "object.__setattr__")))
    (mkChange : PySem.W.makesIn K CChange = true)
    (kcChange : PySem.W.keepIn K (.ref CChange) = true)
    (nsChange : PySem.W.noSeq K CChange = true)
    (sfChange : PySem.W.selfFirst K CChange = true)
    (clChange : PySem.W.findIn K (.ref CChange) "__class__" = some (some (.builtin "object.__class__")))
    (mrChange : PySem.W.mroIn K CChange (.type "object") = some true)
    (nChange__parts : PySem.W.findIn K (.ref CChange) "_parts" = some none)
    (aCSceneError : PySem.W.nsIn K mainGlobals "SceneError" = some (some (.ref CSceneError)))
    (xbSceneError : PySem.W.subIn K (.ref CSceneError) (.type "BaseException") = some true)
    (xtSceneError : PySem.W.typeIn K (.ref CSceneError) = some (.type "type"))
    (xiSceneError : PySem.W.isClsIn K CSceneError = true)
    (aCNoCommon : PySem.W.nsIn K mainGlobals "NoCommon" = some (some (.ref CNoCommon)))
    (xbNoCommon : PySem.W.subIn K (.ref CNoCommon) (.type "BaseException") = some true)
    (xtNoCommon : PySem.W.typeIn K (.ref CNoCommon) = some (.type "type"))
    (xeNoCommon : PySem.W.excIn K CNoCommon [.type "ValueError", .type "Exception", .type "BaseException", .type "object"] "ValueError.__new__" = true)
    (xkNoCommon : PySem.W.keepIn K (.ref CNoCommon) = true)
    (xiNoCommon : PySem.W.isClsIn K CNoCommon = true)
    (ygNoCommon : PySem.W.findIn K (.ref CNoCommon) "__getattribute__" = some (some (.builtin "BaseException.__getattribute__")))
    (yaNoCommon : PySem.W.findIn K (.ref CNoCommon) "__getattr__" = some none)
    (ydNoCommon : PySem.W.hasDictIn K CNoCommon = true)
    (ycNoCommon : PySem.W.findIn K (.ref CNoCommon) "__class__" = some (some (.builtin "object.__class__")))
    (ymNoCommon : PySem.W.mroIn K CNoCommon (.type "object") = some true)
    (aCInvalidScene : PySem.W.nsIn K mainGlobals "InvalidScene" = some (some (.ref CInvalidScene)))
    (aCTooMany : PySem.W.nsIn K mainGlobals "TooMany" = some (some (.ref CTooMany)))
    (aCPattern : PySem.W.nsIn K mainGlobals "Pattern" = some (some (.ref CPattern)))
    (pgPattern : PySem.W.plainGet K CPattern Str.empty = true)
    (hdPattern : PySem.W.hasDictIn K CPattern = true)
    (poPattern : PySem.W.plainOver K CPattern = true)
    (saPattern : PySem.W.findIn K (.ref CPattern) "__setattr__" = some (some (.builtin "object.__setattr__")))
    (mkPattern : PySem.W.makesIn K CPattern = true)
    (kcPattern : PySem.W.keepIn K (.ref CPattern) = true)
    (nsPattern : PySem.W.noSeq K CPattern = true)
    (sfPattern : PySem.W.selfFirst K CPattern = true)
    (clPattern : PySem.W.findIn K (.ref CPattern) "__class__" = some (some (.builtin "object.__class__")))
    (mrPattern : PySem.W.mroIn K CPattern (.type "object") = some true)
    (nPattern__limits : PySem.W.findIn K (.ref CPattern) "_limits" = some none)
    (hgd : PySem.W.specialIn K (.builtin "object.__class__") "__get__" = some (some (.builtin "getset_descriptor.__get__")))
    (htk : PySem.W.takesIn K (.builtin "object.__class__") = some true)
    (d_Notes_Change : CNotes ≠ CChange)
    (d_Notes_SceneError : CNotes ≠ CSceneError)
    (d_Notes_NoCommon : CNotes ≠ CNoCommon)
    (d_Notes_InvalidScene : CNotes ≠ CInvalidScene)
    (d_Notes_TooMany : CNotes ≠ CTooMany)
    (d_Notes_Pattern : CNotes ≠ CPattern)
    (d_Change_SceneError : CChange ≠ CSceneError)
    (d_Change_NoCommon : CChange ≠ CNoCommon)
    (d_Change_InvalidScene : CChange ≠ CInvalidScene)
    (d_Change_TooMany : CChange ≠ CTooMany)
    (d_Change_Pattern : CChange ≠ CPattern)
    (d_SceneError_NoCommon : CSceneError ≠ CNoCommon)
    (d_SceneError_InvalidScene : CSceneError ≠ CInvalidScene)
    (d_SceneError_TooMany : CSceneError ≠ CTooMany)
    (d_SceneError_Pattern : CSceneError ≠ CPattern)
    (d_NoCommon_InvalidScene : CNoCommon ≠ CInvalidScene)
    (d_NoCommon_TooMany : CNoCommon ≠ CTooMany)
    (d_NoCommon_Pattern : CNoCommon ≠ CPattern)
    (d_InvalidScene_TooMany : CInvalidScene ≠ CTooMany)
    (d_InvalidScene_Pattern : CInvalidScene ≠ CPattern)
    (d_TooMany_Pattern : CTooMany ≠ CPattern)
    (xsNoCommon_NoCommon : PySem.W.subIn K (.ref CNoCommon) (.ref CNoCommon) = some true)
    (xsSceneError_NoCommon : PySem.W.subIn K (.ref CNoCommon) (.ref CSceneError) = some true)
    (aANO_LIMITS : PySem.W.nsIn K mainGlobals "NO_LIMITS" = some (some (.ref ANO_LIMITS)))
    (oANO_LIMITS : K.lookup ANO_LIMITS = some ⟨.type "tuple", doNO_LIMITS, .seq #[.none, .none] noNO_LIMITS, soNO_LIMITS⟩)
    (z_ValueError : PySem.W.nsIn K mainGlobals "ValueError" = some none)
    (z_bool : PySem.W.nsIn K mainGlobals "bool" = some none)
    (z_dict : PySem.W.nsIn K mainGlobals "dict" = some none)
    (z_int : PySem.W.nsIn K mainGlobals "int" = some none)
    (z_isinstance : PySem.W.nsIn K mainGlobals "isinstance" = some none)
    (z_len : PySem.W.nsIn K mainGlobals "len" = some none)
    (z_list : PySem.W.nsIn K mainGlobals "list" = some none)
    (z_range : PySem.W.nsIn K mainGlobals "range" = some none)
    (z_sorted : PySem.W.nsIn K mainGlobals "sorted" = some none)
    (z_str : PySem.W.nsIn K mainGlobals "str" = some none)
    (z_tuple : PySem.W.nsIn K mainGlobals "tuple" = some none)
    (icSceneError : PySem.W.isClsIn K CSceneError = true)
    (tc_SceneError : PySem.W.typeIn K (.ref CSceneError) = some (.type "type"))
    (su1 : PySem.W.subIn K (.ref CPattern) (.ref CSceneError) = some false)
    (icInvalidScene : PySem.W.isClsIn K CInvalidScene = true)
    (tc_InvalidScene : PySem.W.typeIn K (.ref CInvalidScene) = some (.type "type"))
    (ks0 : PySem.W.subIn K (.ref CNoCommon) (.ref CInvalidScene) = some false)
    (icTooMany : PySem.W.isClsIn K CTooMany = true)
    (tc_TooMany : PySem.W.typeIn K (.ref CTooMany) = some (.type "type"))
    (ks2 : PySem.W.subIn K (.ref CNoCommon) (.ref CTooMany) = some false)
    (kz3 : PySem.W.subIn K (.ref CNoCommon) (.type "ValueError") = some true)
    (a_law_pool : PySem.W.nsIn K mainGlobals "_law_pool" = some (some (.ref f_law_pool)))
    (l_law_pool : K.lookup f_law_pool = some ⟨oc_law_pool, od_law_pool, .func (PySem.W.fnOf "_law_pool" "_law_pool" (defArgs s__law_pool) (defBody s__law_pool) (defScope s__law_pool) .none kV_law_pool dc_law_pool pm_law_pool an_law_pool cd_law_pool ct_law_pool), sl_law_pool⟩)
    (c_law_pool : PySem.W.codeIn K cd_law_pool "_law_pool" = true)
    (k_law_pool : PySem.W.keepIn K (.ref f_law_pool) = true)
    (a_law_draw : PySem.W.nsIn K mainGlobals "_law_draw" = some (some (.ref f_law_draw)))
    (l_law_draw : K.lookup f_law_draw = some ⟨oc_law_draw, od_law_draw, .func (PySem.W.fnOf "_law_draw" "_law_draw" (defArgs s__law_draw) (defBody s__law_draw) (defScope s__law_draw) .none kV_law_draw dc_law_draw pm_law_draw an_law_draw cd_law_draw ct_law_draw), sl_law_draw⟩)
    (c_law_draw : PySem.W.codeIn K cd_law_draw "_law_draw" = true)
    (k_law_draw : PySem.W.keepIn K (.ref f_law_draw) = true)
    (a_law_far : PySem.W.nsIn K mainGlobals "_law_far" = some (some (.ref f_law_far)))
    (l_law_far : K.lookup f_law_far = some ⟨oc_law_far, od_law_far, .func (PySem.W.fnOf "_law_far" "_law_far" (defArgs s__law_far) (defBody s__law_far) (defScope s__law_far) .none kV_law_far dc_law_far pm_law_far an_law_far cd_law_far ct_law_far), sl_law_far⟩)
    (c_law_far : PySem.W.codeIn K cd_law_far "_law_far" = true)
    (k_law_far : PySem.W.keepIn K (.ref f_law_far) = true)
    (a_law_names : PySem.W.nsIn K mainGlobals "_law_names" = some (some (.ref f_law_names)))
    (l_law_names : K.lookup f_law_names = some ⟨oc_law_names, od_law_names, .func (PySem.W.fnOf "_law_names" "_law_names" (defArgs s__law_names) (defBody s__law_names) (defScope s__law_names) .none kV_law_names dc_law_names pm_law_names an_law_names cd_law_names ct_law_names), sl_law_names⟩)
    (c_law_names : PySem.W.codeIn K cd_law_names "_law_names" = true)
    (k_law_names : PySem.W.keepIn K (.ref f_law_names) = true)
    (a_law_limits : PySem.W.nsIn K mainGlobals "_law_limits" = some (some (.ref f_law_limits)))
    (l_law_limits : K.lookup f_law_limits = some ⟨oc_law_limits, od_law_limits, .func (PySem.W.fnOf "_law_limits" "_law_limits" (defArgs s__law_limits) (defBody s__law_limits) (defScope s__law_limits) .none kV_law_limits dc_law_limits pm_law_limits an_law_limits cd_law_limits ct_law_limits), sl_law_limits⟩)
    (c_law_limits : PySem.W.codeIn K cd_law_limits "_law_limits" = true)
    (k_law_limits : PySem.W.keepIn K (.ref f_law_limits) = true)
    (a_law_behind : PySem.W.nsIn K mainGlobals "_law_behind" = some (some (.ref f_law_behind)))
    (l_law_behind : K.lookup f_law_behind = some ⟨oc_law_behind, od_law_behind, .func (PySem.W.fnOf "_law_behind" "_law_behind" (defArgs s__law_behind) (defBody s__law_behind) (defScope s__law_behind) .none kV_law_behind dc_law_behind pm_law_behind an_law_behind cd_law_behind ct_law_behind), sl_law_behind⟩)
    (c_law_behind : PySem.W.codeIn K cd_law_behind "_law_behind" = true)
    (k_law_behind : PySem.W.keepIn K (.ref f_law_behind) = true)
    (aPattern___init__ : PySem.W.findIn K (.ref CPattern) "__init__" = some (some (.ref fPattern___init__)))
    (iPattern___init__ : PySem.W.isFn K (.ref fPattern___init__) = true)
    (gPattern___init__ : PySem.W.fnIn K fPattern___init__ = true)
    (lPattern___init__ : K.lookup fPattern___init__ = some ⟨ocPattern___init__, odPattern___init__, .func (PySem.W.fnOf "__init__" "Pattern.__init__" (defArgs s_Pattern___init__) (defBody s_Pattern___init__) (defScope s_Pattern___init__) (.ref tPattern___init__) kVPattern___init__ dcPattern___init__ pmPattern___init__ anPattern___init__ cdPattern___init__ ctPattern___init__), slPattern___init__⟩)
    (cPattern___init__ : PySem.W.codeIn K cdPattern___init__ "Pattern.__init__" = true)
    (kPattern___init__ : PySem.W.keepIn K (.ref fPattern___init__) = true)
    (uPattern___init__ : K.lookup tPattern___init__ = some ⟨tcPattern___init__, tdPattern___init__, .seq #[.none] tnPattern___init__, tsPattern___init__⟩)
    (a_law_common : PySem.W.nsIn K mainGlobals "_law_common" = some (some (.ref f_law_common)))
    (l_law_common : K.lookup f_law_common = some ⟨oc_law_common, od_law_common, .func (PySem.W.fnOf "_law_common" "_law_common" (defArgs s__law_common) (defBody s__law_common) (defScope s__law_common) .none kV_law_common dc_law_common pm_law_common an_law_common cd_law_common ct_law_common), sl_law_common⟩)
    (c_law_common : PySem.W.codeIn K cd_law_common "_law_common" = true)
    (k_law_common : PySem.W.keepIn K (.ref f_law_common) = true)
    (a_law_both : PySem.W.nsIn K mainGlobals "_law_both" = some (some (.ref f_law_both)))
    (l_law_both : K.lookup f_law_both = some ⟨oc_law_both, od_law_both, .func (PySem.W.fnOf "_law_both" "_law_both" (defArgs s__law_both) (defBody s__law_both) (defScope s__law_both) .none kV_law_both dc_law_both pm_law_both an_law_both cd_law_both ct_law_both), sl_law_both⟩)
    (c_law_both : PySem.W.codeIn K cd_law_both "_law_both" = true)
    (k_law_both : PySem.W.keepIn K (.ref f_law_both) = true)
    (a_higher : PySem.W.nsIn K mainGlobals "_higher" = some (some (.ref f_higher)))
    (l_higher : K.lookup f_higher = some ⟨oc_higher, od_higher, .func (PySem.W.fnOf "_higher" "_higher" (defArgs s__higher) (defBody s__higher) (defScope s__higher) .none kV_higher dc_higher pm_higher an_higher cd_higher ct_higher), sl_higher⟩)
    (c_higher : PySem.W.codeIn K cd_higher "_higher" = true)
    (k_higher : PySem.W.keepIn K (.ref f_higher) = true)
    (a_lower : PySem.W.nsIn K mainGlobals "_lower" = some (some (.ref f_lower)))
    (l_lower : K.lookup f_lower = some ⟨oc_lower, od_lower, .func (PySem.W.fnOf "_lower" "_lower" (defArgs s__lower) (defBody s__lower) (defScope s__lower) .none kV_lower dc_lower pm_lower an_lower cd_lower ct_lower), sl_lower⟩)
    (c_lower : PySem.W.codeIn K cd_lower "_lower" = true)
    (k_lower : PySem.W.keepIn K (.ref f_lower) = true)
    (acommon : PySem.W.nsIn K mainGlobals "common" = some (some (.ref fcommon)))
    (lcommon : K.lookup fcommon = some ⟨occommon, odcommon, .func (PySem.W.fnOf "common" "common" (defArgs s_common) (defBody s_common) (defScope s_common) .none kVcommon dccommon pmcommon ancommon cdcommon ctcommon), slcommon⟩)
    (ccommon : PySem.W.codeIn K cdcommon "common" = true)
    (kcommon : PySem.W.keepIn K (.ref fcommon) = true)
    (aPattern_limit : PySem.W.findIn K (.ref CPattern) "limit" = some (some (.ref fPattern_limit)))
    (iPattern_limit : PySem.W.isFn K (.ref fPattern_limit) = true)
    (gPattern_limit : PySem.W.fnIn K fPattern_limit = true)
    (lPattern_limit : K.lookup fPattern_limit = some ⟨ocPattern_limit, odPattern_limit, .func (PySem.W.fnOf "limit" "Pattern.limit" (defArgs s_Pattern_limit) (defBody s_Pattern_limit) (defScope s_Pattern_limit) .none kVPattern_limit dcPattern_limit pmPattern_limit anPattern_limit cdPattern_limit ctPattern_limit), slPattern_limit⟩)
    (cPattern_limit : PySem.W.codeIn K cdPattern_limit "Pattern.limit" = true)
    (kPattern_limit : PySem.W.keepIn K (.ref fPattern_limit) = true)
    (aPattern___and__ : PySem.W.findIn K (.ref CPattern) "__and__" = some (some (.ref fPattern___and__)))
    (iPattern___and__ : PySem.W.isFn K (.ref fPattern___and__) = true)
    (gPattern___and__ : PySem.W.fnIn K fPattern___and__ = true)
    (lPattern___and__ : K.lookup fPattern___and__ = some ⟨ocPattern___and__, odPattern___and__, .func (PySem.W.fnOf "__and__" "Pattern.__and__" (defArgs s_Pattern___and__) (defBody s_Pattern___and__) (defScope s_Pattern___and__) .none kVPattern___and__ dcPattern___and__ pmPattern___and__ anPattern___and__ cdPattern___and__ ctPattern___and__), slPattern___and__⟩)
    (cPattern___and__ : PySem.W.codeIn K cdPattern___and__ "Pattern.__and__" = true)
    (kPattern___and__ : PySem.W.keepIn K (.ref fPattern___and__) = true)
    (ain_order : PySem.W.nsIn K mainGlobals "in_order" = some (some (.ref fin_order)))
    (lin_order : K.lookup fin_order = some ⟨ocin_order, odin_order, .func (PySem.W.fnOf "in_order" "in_order" (defArgs s_in_order) (defBody s_in_order) (defScope s_in_order) .none kVin_order dcin_order pmin_order anin_order cdin_order ctin_order), slin_order⟩)
    (cin_order : PySem.W.codeIn K cdin_order "in_order" = true)
    (kin_order : PySem.W.keepIn K (.ref fin_order) = true)
    (aPattern_limits : PySem.W.findIn K (.ref CPattern) "limits" = some (some (.ref fPattern_limits)))
    (iPattern_limits : PySem.W.isFn K (.ref fPattern_limits) = true)
    (gPattern_limits : PySem.W.fnIn K fPattern_limits = true)
    (lPattern_limits : K.lookup fPattern_limits = some ⟨ocPattern_limits, odPattern_limits, .func (PySem.W.fnOf "limits" "Pattern.limits" (defArgs s_Pattern_limits) (defBody s_Pattern_limits) (defScope s_Pattern_limits) .none kVPattern_limits dcPattern_limits pmPattern_limits anPattern_limits cdPattern_limits ctPattern_limits), slPattern_limits⟩)
    (cPattern_limits : PySem.W.codeIn K cdPattern_limits "Pattern.limits" = true)
    (kPattern_limits : PySem.W.keepIn K (.ref fPattern_limits) = true)
    (a_law_told : PySem.W.nsIn K mainGlobals "_law_told" = some (some (.ref f_law_told)))
    (l_law_told : K.lookup f_law_told = some ⟨oc_law_told, od_law_told, .func (PySem.W.fnOf "_law_told" "_law_told" (defArgs s__law_told) (defBody s__law_told) (defScope s__law_told) .none kV_law_told dc_law_told pm_law_told an_law_told cd_law_told ct_law_told), sl_law_told⟩)
    (c_law_told : PySem.W.codeIn K cd_law_told "_law_told" = true)
    (k_law_told : PySem.W.keepIn K (.ref f_law_told) = true)
    (a_law_kind : PySem.W.nsIn K mainGlobals "_law_kind" = some (some (.ref f_law_kind)))
    (l_law_kind : K.lookup f_law_kind = some ⟨oc_law_kind, od_law_kind, .func (PySem.W.fnOf "_law_kind" "_law_kind" (defArgs s__law_kind) (defBody s__law_kind) (defScope s__law_kind) .none kV_law_kind dc_law_kind pm_law_kind an_law_kind cd_law_kind ct_law_kind), sl_law_kind⟩)
    (c_law_kind : PySem.W.codeIn K cd_law_kind "_law_kind" = true)
    (k_law_kind : PySem.W.keepIn K (.ref f_law_kind) = true)
    (a_law_is_integer : PySem.W.nsIn K mainGlobals "_law_is_integer" = some (some (.ref f_law_is_integer)))
    (l_law_is_integer : K.lookup f_law_is_integer = some ⟨oc_law_is_integer, od_law_is_integer, .func (PySem.W.fnOf "_law_is_integer" "_law_is_integer" (defArgs s__law_is_integer) (defBody s__law_is_integer) (defScope s__law_is_integer) .none kV_law_is_integer dc_law_is_integer pm_law_is_integer an_law_is_integer cd_law_is_integer ct_law_is_integer), sl_law_is_integer⟩)
    (c_law_is_integer : PySem.W.codeIn K cd_law_is_integer "_law_is_integer" = true)
    (k_law_is_integer : PySem.W.keepIn K (.ref f_law_is_integer) = true)
    (a_law_is_limit : PySem.W.nsIn K mainGlobals "_law_is_limit" = some (some (.ref f_law_is_limit)))
    (l_law_is_limit : K.lookup f_law_is_limit = some ⟨oc_law_is_limit, od_law_is_limit, .func (PySem.W.fnOf "_law_is_limit" "_law_is_limit" (defArgs s__law_is_limit) (defBody s__law_is_limit) (defScope s__law_is_limit) .none kV_law_is_limit dc_law_is_limit pm_law_is_limit an_law_is_limit cd_law_is_limit ct_law_is_limit), sl_law_is_limit⟩)
    (c_law_is_limit : PySem.W.codeIn K cd_law_is_limit "_law_is_limit" = true)
    (k_law_is_limit : PySem.W.keepIn K (.ref f_law_is_limit) = true)
    (a_law_same_limits : PySem.W.nsIn K mainGlobals "_law_same_limits" = some (some (.ref f_law_same_limits)))
    (l_law_same_limits : K.lookup f_law_same_limits = some ⟨oc_law_same_limits, od_law_same_limits, .func (PySem.W.fnOf "_law_same_limits" "_law_same_limits" (defArgs s__law_same_limits) (defBody s__law_same_limits) (defScope s__law_same_limits) .none kV_law_same_limits dc_law_same_limits pm_law_same_limits an_law_same_limits cd_law_same_limits ct_law_same_limits), sl_law_same_limits⟩)
    (c_law_same_limits : PySem.W.codeIn K cd_law_same_limits "_law_same_limits" = true)
    (k_law_same_limits : PySem.W.keepIn K (.ref f_law_same_limits) = true)
    (a_law_listed : PySem.W.nsIn K mainGlobals "_law_listed" = some (some (.ref f_law_listed)))
    (l_law_listed : K.lookup f_law_listed = some ⟨oc_law_listed, od_law_listed, .func (PySem.W.fnOf "_law_listed" "_law_listed" (defArgs s__law_listed) (defBody s__law_listed) (defScope s__law_listed) .none kV_law_listed dc_law_listed pm_law_listed an_law_listed cd_law_listed ct_law_listed), sl_law_listed⟩)
    (c_law_listed : PySem.W.codeIn K cd_law_listed "_law_listed" = true)
    (k_law_listed : PySem.W.keepIn K (.ref f_law_listed) = true)
    (aPattern___eq__ : PySem.W.findIn K (.ref CPattern) "__eq__" = some (some (.ref fPattern___eq__)))
    (iPattern___eq__ : PySem.W.isFn K (.ref fPattern___eq__) = true)
    (gPattern___eq__ : PySem.W.fnIn K fPattern___eq__ = true)
    (lPattern___eq__ : K.lookup fPattern___eq__ = some ⟨ocPattern___eq__, odPattern___eq__, .func (PySem.W.fnOf "__eq__" "Pattern.__eq__" (defArgs s_Pattern___eq__) (defBody s_Pattern___eq__) (defScope s_Pattern___eq__) .none kVPattern___eq__ dcPattern___eq__ pmPattern___eq__ anPattern___eq__ cdPattern___eq__ ctPattern___eq__), slPattern___eq__⟩)
    (cPattern___eq__ : PySem.W.codeIn K cdPattern___eq__ "Pattern.__eq__" = true)
    (kPattern___eq__ : PySem.W.keepIn K (.ref fPattern___eq__) = true)
    (alaw : PySem.W.nsIn K mainGlobals "law" = some (some (.ref flaw)))
    (llaw : K.lookup flaw = some ⟨oclaw, odlaw, .func (PySem.W.fnOf "law" "law" (defArgs s_law) (defBody s_law) (defScope s_law) .none kVlaw dclaw pmlaw anlaw cdlaw ctlaw), sllaw⟩)
    (claw : PySem.W.codeIn K cdlaw "law" = true)
    (klaw : PySem.W.keepIn K (.ref flaw) = true) :
    ∃ fd : FuncData, (∀ (s : Shared) (v : Value), BindsTo s fd ⟨[v], []⟩ [("script", v)]) ∧ ∀ base : Heap, K.In base → base.Ns mainGlobals mg → FnOk l.prog w K mg base (L2.CX l.prog w) 7 fa fd ["script"] (spLaw K) := by
  have e := hfa.symm.trans (PySem.W.mg_of X G alaw)
  cases e
  have Z : ∀ {x : Str}, PySem.W.nsIn K mainGlobals x = some none → mg x = none := fun h => PySem.W.mg_none_of X G h
  have G1 : ∀ {x : Str} {a : Addr}, PySem.W.nsIn K mainGlobals x = some (some (.ref a)) → mg x = some (.ref a) := fun h => PySem.W.mg_of X G h
  have F_law_pool := M.fun2_mk (st := s__law_pool) l_law_pool c_law_pool
  have b_law_pool := (fun_mk (st := s__law_pool) l_law_pool c_law_pool k_law_pool).binds (ps := ["cell"]) fun _ _ _ _ _ _ us hl => match us, hl with | [_], _ => rfl
  have F_law_draw := M.fun2_mk (st := s__law_draw) l_law_draw c_law_draw
  have b_law_draw := (fun_mk (st := s__law_draw) l_law_draw c_law_draw k_law_draw).binds (ps := ["pool", "many"]) fun _ _ _ _ _ _ us hl => match us, hl with | [_, _], _ => rfl
  have F_law_far := M.fun2_mk (st := s__law_far) l_law_far c_law_far
  have b_law_far := (fun_mk (st := s__law_far) l_law_far c_law_far k_law_far).binds (ps := ["pool"]) fun _ _ _ _ _ _ us hl => match us, hl with | [_], _ => rfl
  have F_law_names := M.fun2_mk (st := s__law_names) l_law_names c_law_names
  have b_law_names := (fun_mk (st := s__law_names) l_law_names c_law_names k_law_names).binds (ps := ["pool", "many"]) fun _ _ _ _ _ _ us hl => match us, hl with | [_, _], _ => rfl
  have F_law_limits := M.fun2_mk (st := s__law_limits) l_law_limits c_law_limits
  have b_law_limits := (fun_mk (st := s__law_limits) l_law_limits c_law_limits k_law_limits).binds (ps := ["pool", "names", "far"]) fun _ _ _ _ _ _ us hl => match us, hl with | [_, _, _], _ => rfl
  have F_law_behind := M.fun2_mk (st := s__law_behind) l_law_behind c_law_behind
  have b_law_behind := (fun_mk (st := s__law_behind) l_law_behind c_law_behind k_law_behind).binds (ps := ["pool", "one", "two"]) fun _ _ _ _ _ _ us hl => match us, hl with | [_, _, _], _ => rfl
  have FPattern___init__ := M.fun2_mk (st := s_Pattern___init__) lPattern___init__ cPattern___init__
  obtain ⟨bPattern___init__, wPattern___init__, rwPattern___init__, b0Pattern___init__⟩ := M.dfl_binds (st := s_Pattern___init__) (v := .non) (ps := ["self", "limits"]) (m := 1) lPattern___init__ cPattern___init__ kPattern___init__ uPattern___init__ rfl rfl (fun _ _ _ _ _ _ _ us its hu hi => match us, its, hu, hi with | [_, _], [_], _, _ => ⟨_, rfl, rfl⟩) (fun _ _ _ _ _ _ _ us its hu hi => match us, its, hu, hi with | [_], [_], _, _ => ⟨_, rfl, rfl⟩)
  cases (show wPattern___init__ = Value.none from rwPattern___init__)
  have F_law_common := M.fun2_mk (st := s__law_common) l_law_common c_law_common
  have b_law_common := (fun_mk (st := s__law_common) l_law_common c_law_common k_law_common).binds (ps := ["one", "two"]) fun _ _ _ _ _ _ us hl => match us, hl with | [_, _], _ => rfl
  have F_law_both := M.fun2_mk (st := s__law_both) l_law_both c_law_both
  have b_law_both := (fun_mk (st := s__law_both) l_law_both c_law_both k_law_both).binds (ps := ["one", "two"]) fun _ _ _ _ _ _ us hl => match us, hl with | [_, _], _ => rfl
  have F_higher := M.fun2_mk (st := s__higher) l_higher c_higher
  have b_higher := (fun_mk (st := s__higher) l_higher c_higher k_higher).binds (ps := ["one", "other"]) fun _ _ _ _ _ _ us hl => match us, hl with | [_, _], _ => rfl
  have F_lower := M.fun2_mk (st := s__lower) l_lower c_lower
  have b_lower := (fun_mk (st := s__lower) l_lower c_lower k_lower).binds (ps := ["one", "other"]) fun _ _ _ _ _ _ us hl => match us, hl with | [_, _], _ => rfl
  have Fcommon := M.fun2_mk (st := s_common) lcommon ccommon
  have bcommon := (fun_mk (st := s_common) lcommon ccommon kcommon).binds (ps := ["one", "other"]) fun _ _ _ _ _ _ us hl => match us, hl with | [_, _], _ => rfl
  have FPattern_limit := M.fun2_mk (st := s_Pattern_limit) lPattern_limit cPattern_limit
  have bPattern_limit := (fun_mk (st := s_Pattern_limit) lPattern_limit cPattern_limit kPattern_limit).binds (ps := ["self", "name"]) fun _ _ _ _ _ _ us hl => match us, hl with | [_, _], _ => rfl
  have FPattern___and__ := M.fun2_mk (st := s_Pattern___and__) lPattern___and__ cPattern___and__
  have bPattern___and__ := (fun_mk (st := s_Pattern___and__) lPattern___and__ cPattern___and__ kPattern___and__).binds (ps := ["self", "other"]) fun _ _ _ _ _ _ us hl => match us, hl with | [_, _], _ => rfl
  have Fin_order := M.fun2_mk (st := s_in_order) lin_order cin_order
  have bin_order := (fun_mk (st := s_in_order) lin_order cin_order kin_order).binds (ps := ["names"]) fun _ _ _ _ _ _ us hl => match us, hl with | [_], _ => rfl
  have FPattern_limits := M.fun2_mk (st := s_Pattern_limits) lPattern_limits cPattern_limits
  have bPattern_limits := (fun_mk (st := s_Pattern_limits) lPattern_limits cPattern_limits kPattern_limits).binds (ps := ["self"]) fun _ _ _ _ _ _ us hl => match us, hl with | [_], _ => rfl
  have F_law_told := M.fun2_mk (st := s__law_told) l_law_told c_law_told
  have b_law_told := (fun_mk (st := s__law_told) l_law_told c_law_told k_law_told).binds (ps := ["one", "two"]) fun _ _ _ _ _ _ us hl => match us, hl with | [_, _], _ => rfl
  have F_law_kind := M.fun2_mk (st := s__law_kind) l_law_kind c_law_kind
  have b_law_kind := (fun_mk (st := s__law_kind) l_law_kind c_law_kind k_law_kind).binds (ps := ["one", "two"]) fun _ _ _ _ _ _ us hl => match us, hl with | [_, _], _ => rfl
  have F_law_is_integer := M.fun2_mk (st := s__law_is_integer) l_law_is_integer c_law_is_integer
  have b_law_is_integer := (fun_mk (st := s__law_is_integer) l_law_is_integer c_law_is_integer k_law_is_integer).binds (ps := ["found"]) fun _ _ _ _ _ _ us hl => match us, hl with | [_], _ => rfl
  have F_law_is_limit := M.fun2_mk (st := s__law_is_limit) l_law_is_limit c_law_is_limit
  have b_law_is_limit := (fun_mk (st := s__law_is_limit) l_law_is_limit c_law_is_limit k_law_is_limit).binds (ps := ["found", "due"]) fun _ _ _ _ _ _ us hl => match us, hl with | [_, _], _ => rfl
  have F_law_same_limits := M.fun2_mk (st := s__law_same_limits) l_law_same_limits c_law_same_limits
  have b_law_same_limits := (fun_mk (st := s__law_same_limits) l_law_same_limits c_law_same_limits k_law_same_limits).binds (ps := ["found", "due"]) fun _ _ _ _ _ _ us hl => match us, hl with | [_, _], _ => rfl
  have F_law_listed := M.fun2_mk (st := s__law_listed) l_law_listed c_law_listed
  have b_law_listed := (fun_mk (st := s__law_listed) l_law_listed c_law_listed k_law_listed).binds (ps := ["limits"]) fun _ _ _ _ _ _ us hl => match us, hl with | [_], _ => rfl
  have FPattern___eq__ := M.fun2_mk (st := s_Pattern___eq__) lPattern___eq__ cPattern___eq__
  have bPattern___eq__ := (fun_mk (st := s_Pattern___eq__) lPattern___eq__ cPattern___eq__ kPattern___eq__).binds (ps := ["self", "other"]) fun _ _ _ _ _ _ us hl => match us, hl with | [_, _], _ => rfl
  have Flaw := M.fun2_mk (st := s_law) llaw claw
  refine ⟨PySem.W.fnOf "law" "law" (defArgs s_law) (defBody s_law) (defScope s_law) .none kVlaw dclaw pmlaw anlaw cdlaw ctlaw, fun s v => .of_eq rfl, fun base _ _ => ?_⟩
  let A : Ad := ⟨CNotes, CChange, CSceneError, CNoCommon, CInvalidScene, CTooMany, CPattern, ANO_LIMITS⟩
  have isi : IsiOk K (isiTab A) := by
    refine ⟨fun e m => ?_, fun C u b m => ?_⟩
    · simp only [isiTab, List.mem_cons, List.not_mem_nil, or_false] at m
      rcases m with rfl | rfl | rfl | rfl | rfl | rfl | rfl | rfl | rfl | rfl
      · exact M.me_self
      · exact (kit_ownF (ref_ne (Ne.symm d_SceneError_Pattern)) icSceneError tc_SceneError su1)
      · exact rfl
      · exact rfl
      · exact rfl
      · exact rfl
      · exact rfl
      · exact rfl
      · exact rfl
      · exact rfl
    · simp only [isiTab, List.mem_cons, List.not_mem_nil, or_false, Prod.mk.injEq, Tg.c.injEq, reduceCtorEq, false_and, false_or] at m
      rcases m with ⟨rfl, _⟩ | ⟨rfl, _⟩
      · exact ⟨⟨pgPattern, hdPattern, poPattern, saPattern⟩, clPattern, hgd, htk, mrPattern⟩
      · exact ⟨⟨pgPattern, hdPattern, poPattern, saPattern⟩, clPattern, hgd, htk, mrPattern⟩
  have xm_NoCommon : XmOk K A.C_NoCommon (xmTab_NoCommon A) := by
    intro p m
    simp only [xmTab_NoCommon, List.mem_cons, List.not_mem_nil, or_false] at m
    rcases m with rfl
    · exact exm_own xbNoCommon xiNoCommon xtNoCommon xsNoCommon_NoCommon
  have xm_SceneError : XmOk K A.C_SceneError (xmTab_SceneError A) := by
    intro p m
    simp only [xmTab_SceneError, List.mem_cons, List.not_mem_nil, or_false] at m
    rcases m with rfl
    · exact exm_own xbSceneError xiSceneError xtSceneError xsSceneError_NoCommon
  have T : Txt K mg A := { z_ValueError := Z z_ValueError, z_bool := Z z_bool, z_dict := Z z_dict, z_int := Z z_int, z_isinstance := Z z_isinstance, z_len := Z z_len, z_list := Z z_list, z_range := Z z_range, z_sorted := Z z_sorted, z_str := Z z_str, z_tuple := Z z_tuple, c_Notes := ⟨pgNotes, hdNotes, poNotes, saNotes⟩, g_Notes := G1 aCNotes, q_Notes := nsNotes, sf_Notes := sfNotes, f_Notes__values := ⟨⟨pgNotes, hdNotes, poNotes, saNotes⟩, nNotes__values⟩, c_Change := ⟨pgChange, hdChange, poChange, saChange⟩, g_Change := G1 aCChange, q_Change := nsChange, sf_Change := sfChange, f_Change__parts := ⟨⟨pgChange, hdChange, poChange, saChange⟩, nChange__parts⟩, g_SceneError := G1 aCSceneError, xm_SceneError := xm_SceneError, g_NoCommon := G1 aCNoCommon, x_NoCommon := ⟨xeNoCommon, xkNoCommon, xbNoCommon, xtNoCommon⟩, xm_NoCommon := xm_NoCommon, ec_NoCommon := ⟨ygNoCommon, yaNoCommon, xbNoCommon, ydNoCommon, ycNoCommon, hgd, htk, ymNoCommon⟩, ke_NoCommon_InvalidScene := (kit_ownB (ref_ne d_NoCommon_InvalidScene) icInvalidScene tc_InvalidScene ks0), ke_NoCommon_NoCommon := M.me_self, ke_NoCommon_TooMany := (kit_ownB (ref_ne d_NoCommon_TooMany) icTooMany tc_TooMany ks2), ke_NoCommon_ValueError := (kit_tyE (by decide +kernel) kz3), g_InvalidScene := G1 aCInvalidScene, g_TooMany := G1 aCTooMany, c_Pattern := ⟨pgPattern, hdPattern, poPattern, saPattern⟩, g_Pattern := G1 aCPattern, q_Pattern := nsPattern, sf_Pattern := sfPattern, f_Pattern__limits := ⟨⟨pgPattern, hdPattern, poPattern, saPattern⟩, nPattern__limits⟩, g_NO_LIMITS := G1 aANO_LIMITS, v_NO_LIMITS := fun P H => ⟨_, _, rfl, .inr ⟨_, _, _, oANO_LIMITS, rfl, rfl, (by rw [sizeLine_eq]; exact Nat.le_of_ble_eq_true rfl), (.cons (show L2.RelV .non Value.none from rfl) (.cons (show L2.RelV .non Value.none from rfl) .nil))⟩, (by decide), ⟨_, _, rfl, rfl, ⟨_, _, rfl, rfl, rfl⟩⟩⟩, isi := isi }
  have D__law_pool : DefX l.prog w K mg base 1 "_law_pool" ["cell"] (m__law_pool A) := ⟨_, _, ok__law_pool (P := l.prog) (w := w) (base := base) (A := A) (k := 0) F_law_pool T , G1 a_law_pool, k_law_pool, b_law_pool⟩
  have D__law_draw : DefX l.prog w K mg base 1 "_law_draw" ["pool", "many"] (m__law_draw A) := ⟨_, _, ok__law_draw (P := l.prog) (w := w) (base := base) (A := A) (k := 0) F_law_draw T , G1 a_law_draw, k_law_draw, b_law_draw⟩
  have D__law_far : DefX l.prog w K mg base 2 "_law_far" ["pool"] (m__law_far A) := ⟨_, _, ok__law_far (P := l.prog) (w := w) (base := base) (A := A) (k := 1) F_law_far T (D__law_draw.mono (by decide)), G1 a_law_far, k_law_far, b_law_far⟩
  have D__law_names : DefX l.prog w K mg base 2 "_law_names" ["pool", "many"] (m__law_names A) := ⟨_, _, ok__law_names (P := l.prog) (w := w) (base := base) (A := A) (k := 1) F_law_names T (D__law_draw.mono (by decide)), G1 a_law_names, k_law_names, b_law_names⟩
  have D__law_limits : DefX l.prog w K mg base 2 "_law_limits" ["pool", "names", "far"] (m__law_limits A) := ⟨_, _, ok__law_limits (P := l.prog) (w := w) (base := base) (A := A) (k := 1) F_law_limits T (D__law_draw.mono (by decide)), G1 a_law_limits, k_law_limits, b_law_limits⟩
  have D__law_behind : DefX l.prog w K mg base 2 "_law_behind" ["pool", "one", "two"] (m__law_behind A) := ⟨_, _, ok__law_behind (P := l.prog) (w := w) (base := base) (A := A) (k := 1) F_law_behind T (D__law_draw.mono (by decide)), G1 a_law_behind, k_law_behind, b_law_behind⟩
  have F_Pattern___init__ := ok_Pattern___init__ (P := l.prog) (w := w) (base := base) (A := A) (k := 0) FPattern___init__ T 
  have I_Pattern : InitX l.prog w K mg base "Pattern" A.C_Pattern 1 ["self", "limits"] (m_Pattern___init__ A) [] := ⟨G1 aCPattern, mkPattern, kcPattern, _, _, F_Pattern___init__, aPattern___init__, iPattern___init__, bPattern___init__⟩
  have I1_Pattern : InitX l.prog w K mg base "Pattern" A.C_Pattern 1 ["self", "limits"] (m_Pattern___init__ A) [.none] := ⟨G1 aCPattern, mkPattern, kcPattern, _, _, F_Pattern___init__, aPattern___init__, iPattern___init__, b0Pattern___init__⟩
  have D__law_common : DefX l.prog w K mg base 1 "_law_common" ["one", "two"] (m__law_common A) := ⟨_, _, ok__law_common (P := l.prog) (w := w) (base := base) (A := A) (k := 0) F_law_common T , G1 a_law_common, k_law_common, b_law_common⟩
  have D__law_both : DefX l.prog w K mg base 2 "_law_both" ["one", "two"] (m__law_both A) := ⟨_, _, ok__law_both (P := l.prog) (w := w) (base := base) (A := A) (k := 1) F_law_both T (D__law_common.mono (by decide)), G1 a_law_both, k_law_both, b_law_both⟩
  have D__higher : DefX l.prog w K mg base 1 "_higher" ["one", "other"] (m__higher A) := ⟨_, _, ok__higher (P := l.prog) (w := w) (base := base) (A := A) (k := 0) F_higher T , G1 a_higher, k_higher, b_higher⟩
  have D__lower : DefX l.prog w K mg base 1 "_lower" ["one", "other"] (m__lower A) := ⟨_, _, ok__lower (P := l.prog) (w := w) (base := base) (A := A) (k := 0) F_lower T , G1 a_lower, k_lower, b_lower⟩
  have D_common : DefX l.prog w K mg base 2 "common" ["one", "other"] (m_common A) := ⟨_, _, ok_common (P := l.prog) (w := w) (base := base) (A := A) (k := 1) Fcommon T (D__higher.mono (by decide)) (D__lower.mono (by decide)), G1 acommon, kcommon, bcommon⟩
  have M_Pattern_limit : MethX l.prog w K mg base A.C_Pattern 1 "limit" ["self", "name"] (m_Pattern_limit A) := ⟨_, _, ok_Pattern_limit (P := l.prog) (w := w) (base := base) (A := A) (k := 0) FPattern_limit T , aPattern_limit, iPattern_limit, kPattern_limit, gPattern_limit, bPattern_limit⟩
  have M_Pattern___and__ : MethX l.prog w K mg base A.C_Pattern 4 "__and__" ["self", "other"] (m_Pattern___and__ A) := ⟨_, _, ok_Pattern___and__ (P := l.prog) (w := w) (base := base) (A := A) (k := 2) FPattern___and__ T (D_common.mono (by decide)) (M_Pattern_limit.mono (by decide)) (I_Pattern.mono (by decide)), aPattern___and__, iPattern___and__, kPattern___and__, gPattern___and__, bPattern___and__⟩
  have D_in_order : DefX l.prog w K mg base 1 "in_order" ["names"] (m_in_order A) := ⟨_, _, ok_in_order (P := l.prog) (w := w) (base := base) (A := A) (k := 0) Fin_order T , G1 ain_order, kin_order, bin_order⟩
  have M_Pattern_limits : MethX l.prog w K mg base A.C_Pattern 2 "limits" ["self"] (m_Pattern_limits A) := ⟨_, _, ok_Pattern_limits (P := l.prog) (w := w) (base := base) (A := A) (k := 1) FPattern_limits T (D_in_order.mono (by decide)), aPattern_limits, iPattern_limits, kPattern_limits, gPattern_limits, bPattern_limits⟩
  have D__law_told : DefX l.prog w K mg base 5 "_law_told" ["one", "two"] (m__law_told A) := ⟨_, _, ok__law_told (P := l.prog) (w := w) (base := base) (A := A) (k := 4) F_law_told T (M_Pattern___and__.mono (by decide)) (M_Pattern_limits.mono (by decide)), G1 a_law_told, k_law_told, b_law_told⟩
  have D__law_kind : DefX l.prog w K mg base 5 "_law_kind" ["one", "two"] (m__law_kind A) := ⟨_, _, ok__law_kind (P := l.prog) (w := w) (base := base) (A := A) (k := 4) F_law_kind T (M_Pattern___and__.mono (by decide)), G1 a_law_kind, k_law_kind, b_law_kind⟩
  have D__law_is_integer : DefX l.prog w K mg base 1 "_law_is_integer" ["found"] (m__law_is_integer A) := ⟨_, _, ok__law_is_integer (P := l.prog) (w := w) (base := base) (A := A) (k := 0) F_law_is_integer T , G1 a_law_is_integer, k_law_is_integer, b_law_is_integer⟩
  have D__law_is_limit : DefX l.prog w K mg base 2 "_law_is_limit" ["found", "due"] (m__law_is_limit A) := ⟨_, _, ok__law_is_limit (P := l.prog) (w := w) (base := base) (A := A) (k := 1) F_law_is_limit T (D__law_is_integer.mono (by decide)), G1 a_law_is_limit, k_law_is_limit, b_law_is_limit⟩
  have D__law_same_limits : DefX l.prog w K mg base 3 "_law_same_limits" ["found", "due"] (m__law_same_limits A) := ⟨_, _, ok__law_same_limits (P := l.prog) (w := w) (base := base) (A := A) (k := 2) F_law_same_limits T (D__law_is_limit.mono (by decide)), G1 a_law_same_limits, k_law_same_limits, b_law_same_limits⟩
  have D__law_listed : DefX l.prog w K mg base 1 "_law_listed" ["limits"] (m__law_listed A) := ⟨_, _, ok__law_listed (P := l.prog) (w := w) (base := base) (A := A) (k := 0) F_law_listed T , G1 a_law_listed, k_law_listed, b_law_listed⟩
  have M_Pattern___eq__ : MethX l.prog w K mg base A.C_Pattern 1 "__eq__" ["self", "other"] (m_Pattern___eq__ A) := ⟨_, _, ok_Pattern___eq__ (P := l.prog) (w := w) (base := base) (A := A) (k := 0) FPattern___eq__ T , aPattern___eq__, iPattern___eq__, kPattern___eq__, gPattern___eq__, bPattern___eq__⟩
  exact (ok_law (P := l.prog) (w := w) (base := base) (A := A) (k := 5) Flaw T (D__law_pool.mono (by decide)) (D__law_draw.mono (by decide)) (D__law_far.mono (by decide)) (D__law_names.mono (by decide)) (D__law_limits.mono (by decide)) (D__law_behind.mono (by decide)) (I_Pattern.mono (by decide)) (D__law_both.mono (by decide)) (D__law_told.mono (by decide)) (D__law_kind.mono (by decide)) (D__law_same_limits.mono (by decide)) (D__law_listed.mono (by decide)) (M_Pattern___eq__.mono (by decide)) (M_Pattern___and__.mono (by decide)) (M_Pattern_limits.mono (by decide))).imp fun vs H Q E ⟨a, ns, e, hS, hl, q⟩ => by subst e; exact sp_law hS hl (fun d hd => law_ok A ⟨d_Notes_Change, d_Notes_SceneError, d_Notes_NoCommon, d_Notes_InvalidScene, d_Notes_TooMany, d_Notes_Pattern, d_Change_SceneError, d_Change_NoCommon, d_Change_InvalidScene, d_Change_TooMany, d_Change_Pattern, d_SceneError_NoCommon, d_SceneError_InvalidScene, d_SceneError_TooMany, d_SceneError_Pattern, d_NoCommon_InvalidScene, d_NoCommon_TooMany, d_NoCommon_Pattern, d_InvalidScene_TooMany, d_InvalidScene_Pattern, d_TooMany_Pattern⟩ ns hl d hd) q
end G
open PySem PySem.W PyProof.Rows in
set_option maxRecDepth 100000 in
set_option maxHeartbeats 0 in
theorem PySem.Challenge.cw_sceneskips_k09_common_notes_holds : PySem.Challenge.rw_sceneskips_k09_common_notes.Holds := by
  w_on; o_law; k_head; (case hw => w_witness2)
  k_fill
  refine L2.walk_of (l := PySem.Challenge.rw_sceneskips_k09_common_notes) (n := 63) (k := 7) (x := "script") (CX := fun w => L2.CX (PySem.Challenge.rw_sceneskips_k09_common_notes).prog w) (sp := fun w => G.spLaw _) rfl (by decide) rfl ⟨rfl, by decide, by decide⟩ (fun w h Y => PySem.W.kIn_of Y) ?F (fun _ _ a ns hl _ hS => ⟨a, ns, rfl, hS, hl, fun _ => rfl⟩) (fun _ _ _ _ _ h => DM.cx_false h)
  case F =>
    intro w mg fa h KX G hmg
    refine' _root_.G.all_mk KX G hmg ?aCNotes ?pgNotes ?hdNotes ?poNotes ?saNotes ?mkNotes ?kcNotes ?nsNotes ?sfNotes ?clNotes ?mrNotes ?nNotes__values ?aCChange ?pgChange ?hdChange ?poChange ?saChange ?mkChange ?kcChange ?nsChange ?sfChange ?clChange ?mrChange ?nChange__parts ?aCSceneError ?xbSceneError ?xtSceneError ?xiSceneError ?aCNoCommon ?xbNoCommon ?xtNoCommon ?xeNoCommon ?xkNoCommon ?xiNoCommon ?ygNoCommon ?yaNoCommon ?ydNoCommon ?ycNoCommon ?ymNoCommon ?aCInvalidScene ?aCTooMany ?aCPattern ?pgPattern ?hdPattern ?poPattern ?saPattern ?mkPattern ?kcPattern ?nsPattern ?sfPattern ?clPattern ?mrPattern ?nPattern__limits ?hgd ?htk ?d_Notes_Change ?d_Notes_SceneError ?d_Notes_NoCommon ?d_Notes_InvalidScene ?d_Notes_TooMany ?d_Notes_Pattern ?d_Change_SceneError ?d_Change_NoCommon ?d_Change_InvalidScene ?d_Change_TooMany ?d_Change_Pattern ?d_SceneError_NoCommon ?d_SceneError_InvalidScene ?d_SceneError_TooMany ?d_SceneError_Pattern ?d_NoCommon_InvalidScene ?d_NoCommon_TooMany ?d_NoCommon_Pattern ?d_InvalidScene_TooMany ?d_InvalidScene_Pattern ?d_TooMany_Pattern ?xsNoCommon_NoCommon ?xsSceneError_NoCommon ?aANO_LIMITS ?oANO_LIMITS ?z_ValueError ?z_bool ?z_dict ?z_int ?z_isinstance ?z_len ?z_list ?z_range ?z_sorted ?z_str ?z_tuple ?icSceneError ?tc_SceneError ?su1 ?icInvalidScene ?tc_InvalidScene ?ks0 ?icTooMany ?tc_TooMany ?ks2 ?kz3 ?a_law_pool ?l_law_pool ?c_law_pool ?k_law_pool ?a_law_draw ?l_law_draw ?c_law_draw ?k_law_draw ?a_law_far ?l_law_far ?c_law_far ?k_law_far ?a_law_names ?l_law_names ?c_law_names ?k_law_names ?a_law_limits ?l_law_limits ?c_law_limits ?k_law_limits ?a_law_behind ?l_law_behind ?c_law_behind ?k_law_behind ?aPattern___init__ ?iPattern___init__ ?gPattern___init__ ?lPattern___init__ ?cPattern___init__ ?kPattern___init__ ?uPattern___init__ ?a_law_common ?l_law_common ?c_law_common ?k_law_common ?a_law_both ?l_law_both ?c_law_both ?k_law_both ?a_higher ?l_higher ?c_higher ?k_higher ?a_lower ?l_lower ?c_lower ?k_lower ?acommon ?lcommon ?ccommon ?kcommon ?aPattern_limit ?iPattern_limit ?gPattern_limit ?lPattern_limit ?cPattern_limit ?kPattern_limit ?aPattern___and__ ?iPattern___and__ ?gPattern___and__ ?lPattern___and__ ?cPattern___and__ ?kPattern___and__ ?ain_order ?lin_order ?cin_order ?kin_order ?aPattern_limits ?iPattern_limits ?gPattern_limits ?lPattern_limits ?cPattern_limits ?kPattern_limits ?a_law_told ?l_law_told ?c_law_told ?k_law_told ?a_law_kind ?l_law_kind ?c_law_kind ?k_law_kind ?a_law_is_integer ?l_law_is_integer ?c_law_is_integer ?k_law_is_integer ?a_law_is_limit ?l_law_is_limit ?c_law_is_limit ?k_law_is_limit ?a_law_same_limits ?l_law_same_limits ?c_law_same_limits ?k_law_same_limits ?a_law_listed ?l_law_listed ?c_law_listed ?k_law_listed ?aPattern___eq__ ?iPattern___eq__ ?gPattern___eq__ ?lPattern___eq__ ?cPattern___eq__ ?kPattern___eq__ ?alaw ?llaw ?claw ?klaw
    (case aCNotes => k_is)
    (case pgNotes => k_is)
    (case hdNotes => k_is)
    (case poNotes => k_is)
    (case saNotes => k_is)
    (case mkNotes => k_is)
    (case kcNotes => k_is)
    (case nsNotes => k_is)
    (case sfNotes => k_is)
    (case clNotes => k_is)
    (case mrNotes => k_is)
    (case nNotes__values => k_is)
    (case aCChange => k_is)
    (case pgChange => k_is)
    (case hdChange => k_is)
    (case poChange => k_is)
    (case saChange => k_is)
    (case mkChange => k_is)
    (case kcChange => k_is)
    (case nsChange => k_is)
    (case sfChange => k_is)
    (case clChange => k_is)
    (case mrChange => k_is)
    (case nChange__parts => k_is)
    (case aCSceneError => k_is)
    (case xbSceneError => k_is)
    (case xtSceneError => k_is)
    (case xiSceneError => k_is)
    (case aCNoCommon => k_is)
    (case xbNoCommon => k_is)
    (case xtNoCommon => k_is)
    (case xeNoCommon => k_exc)
    (case xkNoCommon => k_is)
    (case xiNoCommon => k_is)
    (case ygNoCommon => k_is)
    (case yaNoCommon => k_is)
    (case ydNoCommon => k_is)
    (case ycNoCommon => k_is)
    (case ymNoCommon => k_is)
    (case aCInvalidScene => k_is)
    (case aCTooMany => k_is)
    (case aCPattern => k_is)
    (case pgPattern => k_is)
    (case hdPattern => k_is)
    (case poPattern => k_is)
    (case saPattern => k_is)
    (case mkPattern => k_is)
    (case kcPattern => k_is)
    (case nsPattern => k_is)
    (case sfPattern => k_is)
    (case clPattern => k_is)
    (case mrPattern => k_is)
    (case nPattern__limits => k_is)
    (case hgd => k_is)
    (case htk => k_is)
    (case d_Notes_Change => decide)
    (case d_Notes_SceneError => decide)
    (case d_Notes_NoCommon => decide)
    (case d_Notes_InvalidScene => decide)
    (case d_Notes_TooMany => decide)
    (case d_Notes_Pattern => decide)
    (case d_Change_SceneError => decide)
    (case d_Change_NoCommon => decide)
    (case d_Change_InvalidScene => decide)
    (case d_Change_TooMany => decide)
    (case d_Change_Pattern => decide)
    (case d_SceneError_NoCommon => decide)
    (case d_SceneError_InvalidScene => decide)
    (case d_SceneError_TooMany => decide)
    (case d_SceneError_Pattern => decide)
    (case d_NoCommon_InvalidScene => decide)
    (case d_NoCommon_TooMany => decide)
    (case d_NoCommon_Pattern => decide)
    (case d_InvalidScene_TooMany => decide)
    (case d_InvalidScene_Pattern => decide)
    (case d_TooMany_Pattern => decide)
    (case xsNoCommon_NoCommon => k_is)
    (case xsSceneError_NoCommon => k_is)
    (case aANO_LIMITS => k_is)
    (case oANO_LIMITS => k_is)
    (case z_ValueError => k_is)
    (case z_bool => k_is)
    (case z_dict => k_is)
    (case z_int => k_is)
    (case z_isinstance => k_is)
    (case z_len => k_is)
    (case z_list => k_is)
    (case z_range => k_is)
    (case z_sorted => k_is)
    (case z_str => k_is)
    (case z_tuple => k_is)
    (case icSceneError => k_is)
    (case tc_SceneError => k_is)
    (case su1 => k_is)
    (case icInvalidScene => k_is)
    (case tc_InvalidScene => k_is)
    (case ks0 => k_is)
    (case icTooMany => k_is)
    (case tc_TooMany => k_is)
    (case ks2 => k_is)
    (case kz3 => k_is)
    (case a_law_pool => k_is)
    (case l_law_pool => k_is)
    (case c_law_pool => k_is)
    (case k_law_pool => k_is)
    (case a_law_draw => k_is)
    (case l_law_draw => k_is)
    (case c_law_draw => k_is)
    (case k_law_draw => k_is)
    (case a_law_far => k_is)
    (case l_law_far => k_is)
    (case c_law_far => k_is)
    (case k_law_far => k_is)
    (case a_law_names => k_is)
    (case l_law_names => k_is)
    (case c_law_names => k_is)
    (case k_law_names => k_is)
    (case a_law_limits => k_is)
    (case l_law_limits => k_is)
    (case c_law_limits => k_is)
    (case k_law_limits => k_is)
    (case a_law_behind => k_is)
    (case l_law_behind => k_is)
    (case c_law_behind => k_is)
    (case k_law_behind => k_is)
    (case aPattern___init__ => k_is)
    (case iPattern___init__ => k_is)
    (case gPattern___init__ => k_is)
    (case lPattern___init__ => k_is)
    (case cPattern___init__ => k_is)
    (case kPattern___init__ => k_is)
    (case uPattern___init__ => k_is)
    (case a_law_common => k_is)
    (case l_law_common => k_is)
    (case c_law_common => k_is)
    (case k_law_common => k_is)
    (case a_law_both => k_is)
    (case l_law_both => k_is)
    (case c_law_both => k_is)
    (case k_law_both => k_is)
    (case a_higher => k_is)
    (case l_higher => k_is)
    (case c_higher => k_is)
    (case k_higher => k_is)
    (case a_lower => k_is)
    (case l_lower => k_is)
    (case c_lower => k_is)
    (case k_lower => k_is)
    (case acommon => k_is)
    (case lcommon => k_is)
    (case ccommon => k_is)
    (case kcommon => k_is)
    (case aPattern_limit => k_is)
    (case iPattern_limit => k_is)
    (case gPattern_limit => k_is)
    (case lPattern_limit => k_is)
    (case cPattern_limit => k_is)
    (case kPattern_limit => k_is)
    (case aPattern___and__ => k_is)
    (case iPattern___and__ => k_is)
    (case gPattern___and__ => k_is)
    (case lPattern___and__ => k_is)
    (case cPattern___and__ => k_is)
    (case kPattern___and__ => k_is)
    (case ain_order => k_is)
    (case lin_order => k_is)
    (case cin_order => k_is)
    (case kin_order => k_is)
    (case aPattern_limits => k_is)
    (case iPattern_limits => k_is)
    (case gPattern_limits => k_is)
    (case lPattern_limits => k_is)
    (case cPattern_limits => k_is)
    (case kPattern_limits => k_is)
    (case a_law_told => k_is)
    (case l_law_told => k_is)
    (case c_law_told => k_is)
    (case k_law_told => k_is)
    (case a_law_kind => k_is)
    (case l_law_kind => k_is)
    (case c_law_kind => k_is)
    (case k_law_kind => k_is)
    (case a_law_is_integer => k_is)
    (case l_law_is_integer => k_is)
    (case c_law_is_integer => k_is)
    (case k_law_is_integer => k_is)
    (case a_law_is_limit => k_is)
    (case l_law_is_limit => k_is)
    (case c_law_is_limit => k_is)
    (case k_law_is_limit => k_is)
    (case a_law_same_limits => k_is)
    (case l_law_same_limits => k_is)
    (case c_law_same_limits => k_is)
    (case k_law_same_limits => k_is)
    (case a_law_listed => k_is)
    (case l_law_listed => k_is)
    (case c_law_listed => k_is)
    (case k_law_listed => k_is)
    (case aPattern___eq__ => k_is)
    (case iPattern___eq__ => k_is)
    (case gPattern___eq__ => k_is)
    (case lPattern___eq__ => k_is)
    (case cPattern___eq__ => k_is)
    (case kPattern___eq__ => k_is)
    (case alaw => k_is)
    (case llaw => k_is)
    (case claw => k_is)
    (case klaw => k_is)
