import PyProof.Rows.All
import Wide.All
import OpenK.AllK
import Wide.FinOn
import HandS.ForMost
import HandS.Exc
import HandS.DictComp
import HandS.IsInst
import HandS.Star
import HandS.RaiseMore
import HandS.Wide
import HandS.WideBits
import HandS.Flow
import HandS.OwnEq
import HandS.More
import HandS.Evl
import HandS.Defaults
import KE.KOpsOwn
import KE.KDictOf
import PyProof.DictUpdate
import PySem.Challenge.RW_sceneskips_k01_notes_by_name
set_option Elab.async false
set_option linter.all false
set_option maxRecDepth 100000
namespace M
open PySem PySem.Spec PyProof.Rows L2

/-- a def of the text that may be called by its name -/
structure DefOk (P : Program) (w : World) (K : PySem.W.Frag) (mg : Str → Option Value) (base : Heap) (k : Nat) (x : Str) (ps : List Str) (sp : Sp) : Prop where
  ex : ∃ f fd, FnOk P w K mg base CX0 k f fd ps sp ∧ mg x = some (.ref f) ∧ PySem.W.keepIn K (.ref f) = true ∧ Binds K fd ps []
/-- a method of an own class -/
structure MethOk (P : Program) (w : World) (K : PySem.W.Frag) (mg : Str → Option Value) (base : Heap) (C : Addr) (k : Nat) (m : Str) (ps : List Str) (sp : Sp) : Prop where
  ex : ∃ f fd, FnOk P w K mg base CX0 k f fd ps sp ∧ PySem.W.findIn K (.ref C) m = some (some (.ref f)) ∧ PySem.W.isFn K (.ref f) = true ∧ PySem.W.keepIn K (.ref f) = true ∧ PySem.W.fnIn K f = true ∧ Binds K fd ps []

section
variable {P : Program} {w : World} {K : PySem.W.Frag} {mg : Str → Option Value} {base : Heap} {C : Addr} {j k : Nat} {x m : Str} {ps : List Str} {sp sp' : Sp}
theorem DefOk.mono (D : DefOk P w K mg base j x ps sp) (h : j ≤ k) : DefOk P w K mg base k x ps sp := let ⟨f, fd, F, r⟩ := D.ex; ⟨f, fd, F.mono h, r⟩
theorem DefOk.imp (D : DefOk P w K mg base k x ps sp) (h : ∀ vs H Q E, sp' vs H Q E → sp vs H Q E) : DefOk P w K mg base k x ps sp' := let ⟨f, fd, F, r⟩ := D.ex; ⟨f, fd, F.imp h, r⟩
theorem MethOk.mono (D : MethOk P w K mg base C j m ps sp) (h : j ≤ k) : MethOk P w K mg base C k m ps sp := let ⟨f, fd, F, r⟩ := D.ex; ⟨f, fd, F.mono h, r⟩
theorem fnok_raw {f : Addr} {fd : FuncData} (F : FnOk P w K mg base CX0 k f fd ps sp) (b : Binds K fd ps []) : FnR P w K mg base CX0 k f sp := by
  refine (F.raw b .nil).imp fun vs H Q E h => ?_
  rw [List.append_nil]
  exact h
end

section
variable {X : Cx} {k : Nat} {C : Addr} {x m : Str} {ps : List Str} {sp : Sp} {p pos apos : Pos} {e o : Expr} {es : List Expr} {ta tb : TE} {t : TA}
theorem pe_callD (D : DefOk X.prog X.w X.K X.mg X.base k x ps sp) (hr : Room k X.A) (hg : Gl X x) (ha : PA X (e :: es) t) (hn : x ≠ "__name__" := by decide) (hdb : (x == ("__debug__" : Str)) = false := by decide)
    (hst : starEach (e :: es) X.env = (false, eval e X.env) :: starEach es X.env := by rfl) (hpl : (backTo pos (starEach es X.env)).any (·.1) = false := by rfl) : PE X (.Call (.Name x p) (e :: es) [] pos) (tCall sp [] E0 t) := by
  obtain ⟨f, fd, F, g, kp, b⟩ := D.ex
  exact pe_call F hr hg g kp b .nil pass0 ha (hdb := hdb) (he := hst) (hpl := hpl)
theorem pe_callD0 (D : DefOk X.prog X.w X.K X.mg X.base k x ps sp) (hr : Room k X.A) (hg : Gl X x) (hdb : (x == ("__debug__" : Str)) = false := by decide) : PE X (.Call (.Name x p) [] [] pos) (tCall sp [] E0 tNil) := by
  obtain ⟨f, fd, F, g, kp, b⟩ := D.ex
  exact pe_call0 F hr hg g kp b .nil pass0 (hdb := hdb)
/-- o.m(e, ..), o.m() -/
theorem pe_methD {pl : Sem Bool} (he : PE X o ta) (c : Cls X.K C) (D : MethOk X.prog X.w X.K X.mg X.base C k m ps sp) (hr : Room k X.A) (ha : PA X (e :: es) t)
    (hst : starEach (e :: es) X.env = (false, eval e X.env) :: starEach es X.env := by rfl) (hpl : (backTo pos (starEach es X.env)).any (·.1) = false := by rfl)
    (ht : eval (.Call (.Attribute o m apos) (e :: es) [] pos) X.env = (do
      let ov ← eval o X.env
      standAt apos.atName
      let (f, first) ← holding [ov] (getMethod ov m pl)
      callWith pos f first (backTo pos (starEach (e :: es) X.env)) (backToKw pos (keywordEach [] X.env))) := by rfl) :
    PE X (.Call (.Attribute o m apos) (e :: es) [] pos) (tMeth C m sp [] E0 ta t) := by
  obtain ⟨f, fd, F, hf, hi, kp, fi, b⟩ := D.ex
  exact pe_meth he c ⟨hf, hi, kp⟩ F hr b .nil pass0 ha (hst := hst) (hpl := hpl) (ht := ht)
theorem pe_methD0 {pl : Sem Bool} (he : PE X o ta) (c : Cls X.K C) (D : MethOk X.prog X.w X.K X.mg X.base C k m ps sp) (hr : Room k X.A)
    (ht : eval (.Call (.Attribute o m apos) [] [] pos) X.env = (do
      let ov ← eval o X.env
      standAt apos.atName
      let (f, first) ← holding [ov] (getMethod ov m pl)
      callWith pos f first (backTo pos (starEach [] X.env)) (backToKw pos (keywordEach [] X.env))) := by rfl) :
    PE X (.Call (.Attribute o m apos) [] [] pos) (tMeth C m sp [] E0 ta tNil) := by
  obtain ⟨f, fd, F, hf, hi, kp, fi, b⟩ := D.ex
  exact pe_meth0 he c ⟨hf, hi, kp⟩ F hr b .nil pass0 (ht := ht)
/-- C(e), C(): made by __init__, whose last parameter has the default None -/
structure InitOk (P : Program) (w : World) (K : PySem.W.Frag) (mg : Str → Option Value) (base : Heap) (x : Str) (C : Addr) (k : Nat) (ps : List Str) (sp : Sp) : Prop where
  cls : Cls K C
  gl : mg x = some (.ref C)
  mks : PySem.W.makesIn K C = true
  kp : PySem.W.keepIn K (.ref C) = true
  ex : ∃ f fd, FnOk P w K mg base CX0 k f fd ps sp ∧ PySem.W.findIn K (.ref C) "__init__" = some (some (.ref f)) ∧ PySem.W.isFn K (.ref f) = true ∧ Binds K fd ps [] 
structure Init0 (P : Program) (w : World) (K : PySem.W.Frag) (mg : Str → Option Value) (base : Heap) (x : Str) (C : Addr) (k : Nat) (ps : List Str) (sp : Sp) : Prop where
  gl : mg x = some (.ref C)
  mks : PySem.W.makesIn K C = true
  kp : PySem.W.keepIn K (.ref C) = true
  ex : ∃ f fd, FnOk P w K mg base CX0 k f fd ps sp ∧ PySem.W.findIn K (.ref C) "__init__" = some (some (.ref f)) ∧ PySem.W.isFn K (.ref f) = true ∧ Binds K fd ps [.none]
theorem pe_makeD (D : InitOk X.prog X.w X.K X.mg X.base x C k ps sp) (hr : Room (k + 1) X.A) (hg : Gl X x) (ha : PA X (e :: es) t) (hdb : (x == ("__debug__" : Str)) = false := by decide)
    (hst : starEach (e :: es) X.env = (false, eval e X.env) :: starEach es X.env := by rfl) (hpl : (backTo pos (starEach es X.env)).any (·.1) = false := by rfl) : PE X (.Call (.Name x p) (e :: es) [] pos) (tMake C sp [] E0 t) := by
  obtain ⟨f, fd, F, hf, hi, b⟩ := D.ex
  exact pe_make ⟨D.mks, hf, hi, D.kp⟩ F hr hg D.gl b .nil pass0 ha (hdb := hdb) (he := hst) (hpl := hpl)
theorem pe_makeD0 (D : Init0 X.prog X.w X.K X.mg X.base x C k ps sp) (hr : Room (k + 1) X.A) (hg : Gl X x) (hdb : (x == ("__debug__" : Str)) = false := by decide) : PE X (.Call (.Name x p) [] [] pos) (tMake C sp [.non] E0 tNil) := by
  obtain ⟨f, fd, F, hf, hi, b⟩ := D.ex
  exact pe_make0 ⟨D.mks, hf, hi, D.kp⟩ F hr hg D.gl b (.cons rfl .nil) pass0 (hdb := hdb)

/-- a callee runs within a builtin -/
theorem run_in1 {pins : List (Addr × Obj)} {σ : L2.St} {H : Hp} {s : Shared} {f : Addr} {Q : VK} {us : List Value} {vs : List V} (F : FnR X.prog X.w X.K X.mg X.base CX0 k f sp) (hr : Room (k + 1) X.A) (I : Inv X pins σ H s) (r : Vals vs us) (h : sp vs H Q E0) :
    wpAny (model X.prog X.w) X.A.in1 (call (.ref f) us) (EP X pins σ Q) X.xe s := by
  refine wpAny_call (codeAny_mono (F X.A.in1 X.stack s H us vs Q E0 hr.in1 I.env0.in1 r h) fun r s' hq => ?_)
  cases r with
  | error e => exact False.elim hq
  | ok fl =>
    cases fl with
    | ret u => exact I.after hq
    | next => exact False.elim hq
    | brk => exact False.elim hq
    | cont => exact False.elim hq
theorem run_at {pins : List (Addr × Obj)} {σ : L2.St} {H : Hp} {s : Shared} {f : Addr} {Q : VK} {us : List Value} {vs : List V} (F : FnR X.prog X.w X.K X.mg X.base CX0 k f sp) (hr : Room k X.A) (I : Inv X pins σ H s) (r : Vals vs us) (h : sp vs H Q E0) :
    wpAny (model X.prog X.w) X.A (call (.ref f) us) (EP X pins σ Q) X.xe s := wpAny_call (run_fnR F hr pass0 I r h)
theorem inst_at {pins : List (Addr × Obj)} {σ : L2.St} {H : Hp} {s : Shared} {a dx : Addr} {fs : List (Str × V)} (I : Inv X pins σ H s) (h : H a = some (.ins C dx fs)) : ∃ ox od, PySem.W.InstAt s.heap a ox C od ∧ ox.data = .plain := by
  obtain ⟨mA, O, _⟩ := ins_get I.hok h
  obtain ⟨od, J, _⟩ := O.look
  exact ⟨_, _, J, rfl⟩
theorem cmpback {Q : Value → Shared → Prop} {u : Value} {s : Shared} {v : V} (r : RelV v u) (q : Q u s) : PySem.W.CmpBack Q u s := by
  cases v with
  | non => cases (show u = Value.none from r); exact q
  | bl b => cases (show u = Value.bool b from r); exact q
  | int i => obtain ⟨t, e⟩ := (show ∃ t, u = Value.int i t from r); cases e; exact q
  | str x => obtain ⟨t, e⟩ := (show ∃ t, u = Value.str x t from r); cases e; exact q
  | byt b => obtain ⟨t, e⟩ := (show ∃ t, u = Value.bytes b t from r); cases e; exact q
  | flt b => obtain ⟨t, e⟩ := (show ∃ t, u = Value.float b t from r); cases e; exact q
  | ref a => cases (show u = Value.ref a from r); exact q
  | ty n => cases (show u = Value.type n from r); exact q

/-- a[b], a of an own class -/
def rOwn (C : Addr) (sp : Sp) : R2 := fun x y H Q => ∃ a dx fs, x = .ref a ∧ H a = some (.ins C dx fs) ∧ sp [x, y] H Q E0
theorem pe_ixO {a b : Expr} (ha : PE X a ta) (hb : PE X b tb) (D : MethOk X.prog X.w X.K X.mg X.base C k "__getitem__" ps sp) (hr : Room (k + 1) X.A)
    (hs : ∀ o i, subscripted b true o i = runValue (.builtin "lifetime.subscript" ⟨[o, i], []⟩) := by intro _ _; rfl) : PE X (.Subscript a b pos) (tOp (rOwn C sp) ta tb) := by
  refine ⟨fun pins s σ H Q I h => ?_⟩
  obtain ⟨f, fd, F, hf, hi, kp, fi, bd⟩ := D.ex
  refine Subscript_ (binT ha hb I h fun v u s2 x y H2 I2 rx ry q => ?_)
  obtain ⟨a', dx, fs, rfl, hh, q⟩ := q
  cases (show v = Value.ref a' from rx)
  obtain ⟨ox, od, J, _⟩ := inst_at I2 hh
  obtain ⟨m, hF⟩ := I2.fr
  exact PySem.W.sub_K hF I2.ok.mod.kin J hf fi hi (run_in1 (us := [.ref a', u]) (vs := [.ref a', y]) (fnok_raw F bd) hr I2 (.cons rfl (.cons ry .nil)) q) (hs _ _)
/-- a[b] = v -/
def rOwnSet (C : Addr) (sp : Sp) : TSet := fun o i v H Q => ∃ a dx fs, o = .ref a ∧ H a = some (.ins C dx fs) ∧ sp [o, i, v] H (fun _ H' => Q H') E0
theorem set_own (D : MethOk X.prog X.w X.K X.mg X.base C k "__setitem__" ps sp) (hq : PySem.W.noSeq X.K C = true) (hr : Room k X.A) : PSet X (rOwnSet C sp) := by
  intro pins s σ H o i v ov iv u Q I ro ri rv h
  obtain ⟨f, fd, F, hf, hi, kp, fi, bd⟩ := D.ex
  obtain ⟨a', dx, fs, rfl, hh, q⟩ := h
  cases (show ov = Value.ref a' from ro)
  obtain ⟨ox, od, J, _⟩ := inst_at I hh
  obtain ⟨m, hF⟩ := I.fr
  refine PySem.W.ksp_setItem hF I.ok.mod.kin J hq hf hi ?_
  exact thn (run_at (us := [.ref a', iv, u]) (vs := [.ref a', i, v]) (fnok_raw F bd) hr I (.cons rfl (.cons ri (.cons rv .nil))) q) fun _ s' ⟨_, H', I', _, q'⟩ => ⟨H', I', q'⟩
/-- x in a -/
def rOwnIn (C : Addr) (sp : Sp) (neg : Bool) : R2 := fun x y H Q => ∃ a dx fs, y = .ref a ∧ H a = some (.ins C dx fs) ∧ sp [y, x] H (fun r H' => ∃ b, r = .bl b ∧ Q (.bl (if neg then !b else b)) H') E0
theorem op_inO (D : MethOk X.prog X.w X.K X.mg X.base C k "__contains__" ps sp) (hr : Room k X.A) : OpR X (compareOp .In) (rOwnIn C sp false) := by
  intro pins s σ H x y v u Q I rx ry h
  obtain ⟨f, fd, F, hf, hi, kp, fi, bd⟩ := D.ex
  obtain ⟨a', dx, fs, rfl, hh, q⟩ := h
  cases (show u = Value.ref a' from ry)
  obtain ⟨ox, od, J, _⟩ := inst_at I hh
  obtain ⟨m, hF⟩ := I.fr
  refine PySem.W.in_K hF I.ok.mod.kin J hf hi ?_
  refine thn (run_at (us := [.ref a', v]) (vs := [.ref a', x]) (fnok_raw F bd) hr I (.cons rfl (.cons rx .nil)) q) fun r s' ⟨z, H', I', rz, b, e, q'⟩ => ?_
  subst e
  cases (show r = Value.bool b from rz)
  exact wpAny_truthy_bool ⟨.bl b, H', I', rfl, q'⟩
theorem op_ninO (D : MethOk X.prog X.w X.K X.mg X.base C k "__contains__" ps sp) (hr : Room k X.A) : OpR X (compareOp .NotIn) (rOwnIn C sp true) := by
  intro pins s σ H x y v u Q I rx ry h
  obtain ⟨f, fd, F, hf, hi, kp, fi, bd⟩ := D.ex
  obtain ⟨a', dx, fs, rfl, hh, q⟩ := h
  cases (show u = Value.ref a' from ry)
  obtain ⟨ox, od, J, _⟩ := inst_at I hh
  obtain ⟨m, hF⟩ := I.fr
  refine PySem.W.notIn_K hF I.ok.mod.kin J hf hi ?_
  refine thn (run_at (us := [.ref a', v]) (vs := [.ref a', x]) (fnok_raw F bd) hr I (.cons rfl (.cons rx .nil)) q) fun r s' ⟨z, H', I', rz, b, e, q'⟩ => ?_
  subst e
  cases (show r = Value.bool b from rz)
  exact wpAny_truthy_bool ⟨.bl (!b), H', I', rfl, q'⟩
/-- len(a) -/
def rOwnLen (C : Addr) (sp : Sp) : List V → Hp → VK → Prop := fun xs H Q => ∃ a dx fs, xs = [.ref a] ∧ H a = some (.ins C dx fs) ∧ sp xs H (fun r H' => ∃ n : Int, r = .int n ∧ (0 ≤ n ∧ n < 2 ^ 63) ∧ Q (.int n) H') E0
theorem call_lenO (D : MethOk X.prog X.w X.K X.mg X.base C k "__len__" ps sp) (hr : Room (k + 1) X.A) : CallR X (.builtin "len") (rOwnLen C sp) := by
  intro pins s σ H xs us Q I r h
  obtain ⟨f, fd, F, hf, hi, kp, fi, bd⟩ := D.ex
  obtain ⟨a', dx, fs, rfl, hh, q⟩ := h
  obtain ⟨u, rfl, ru⟩ := vals1 r
  cases (show u = Value.ref a' from ru)
  obtain ⟨ox, od, J, _⟩ := inst_at I hh
  obtain ⟨m, hF⟩ := I.fr
  refine PySem.W.len_K hF I.ok.mod.kin J hf hi ?_
  refine thn (run_in1 (us := [.ref a']) (vs := [.ref a']) (fnok_raw F bd) hr I (.cons rfl .nil) q) fun r s' ⟨z, H', I', rz, n, e, hn, q'⟩ => ?_
  subst e
  obtain ⟨t, e⟩ := (show ∃ t, r = Value.int n t from rz)
  subst e
  exact ⟨hn, .int n, H', I'.tok _, ⟨_, rfl⟩, q'⟩
/-- a comparison, both of own classes -/
def rOwnC (K : PySem.W.Frag) (C : Addr) (sp : Sp) : R2 := fun x y H Q => ∃ a dx fs b C' dy gs, x = .ref a ∧ y = .ref b ∧ H a = some (.ins C dx fs) ∧ H b = some (.ins C' dy gs) ∧ PySem.W.notFirst K C (.ref C') = true ∧ sp [x, y] H Q E0
theorem op_cmpO {op : CmpOp} {nm : Str} (D : MethOk X.prog X.w X.K X.mg X.base C k nm ps sp) (hr : Room k X.A) (hnm : (cmpInfo op).2.1 = nm := by rfl) (hop : ∀ a b, compareOp op a b = richCompare op a b := by intro _ _; rfl) : OpR X (compareOp op) (rOwnC X.K C sp) := by
  intro pins s σ H x y v u Q I rx ry h
  obtain ⟨f, fd, F, hf, hi, kp, fi, bd⟩ := D.ex
  obtain ⟨a, dx, fs, b, C', dy, gs, rfl, rfl, ha, hb, hn, q⟩ := h
  cases (show v = Value.ref a from rx)
  cases (show u = Value.ref b from ry)
  obtain ⟨ox, od, J, _⟩ := inst_at I ha
  obtain ⟨ox', od', J', _⟩ := inst_at I hb
  obtain ⟨m, hF⟩ := I.fr
  rw [hop]
  refine PySem.W.cmp_K (op := op) (tb := .ref C') hr.units0 hF I.ok.mod.kin J J'.type hn (by rw [hnm]; exact hf) hi ?_
  refine thn (run_at (us := [.ref a, .ref b]) (vs := [.ref a, .ref b]) (fnok_raw F bd) hr I (.cons rfl (.cons rfl .nil)) q) fun w s' z => ?_
  obtain ⟨z', H', I', rz, qz⟩ := z
  exact cmpback rz ⟨z', H', I', rz, qz⟩
/-- an operator of two of one own class -/
def rOwnB (C : Addr) (sp : Sp) : R2 := fun x y H Q => ∃ a dx fs b dy gs, x = .ref a ∧ y = .ref b ∧ H a = some (.ins C dx fs) ∧ H b = some (.ins C dy gs) ∧ sp [x, y] H Q E0
theorem op_binO {op : Operator} {nm : Str} (D : MethOk X.prog X.w X.K X.mg X.base C k nm ps sp) (hc : PySem.W.selfFirst X.K C = true) (hr : Room k X.A) (hnm : PySem.dunder op.info.2 = nm := by rfl) : OpR X (binaryOp op) (rOwnB C sp) := by
  intro pins s σ H x y v u Q I rx ry h
  obtain ⟨f, fd, F, hf, hi, kp, fi, bd⟩ := D.ex
  obtain ⟨a, dx, fs, b, dy, gs, rfl, rfl, ha, hb, q⟩ := h
  cases (show v = Value.ref a from rx)
  cases (show u = Value.ref b from ry)
  obtain ⟨ox, od, J, _⟩ := inst_at I ha
  obtain ⟨ox', od', J', _⟩ := inst_at I hb
  obtain ⟨m, hF⟩ := I.fr
  refine PySem.W.binop_K hF I.ok.mod.kin J J'.type hc (by rw [hnm]; exact hf) hi ?_
  refine thn (run_at (us := [.ref a, .ref b]) (vs := [.ref a, .ref b]) (fnok_raw F bd) hr I (.cons rfl (.cons rfl .nil)) q) fun w s' z => ?_
  obtain ⟨z', H', I', rz, qz⟩ := z
  exact cmpback rz ⟨z', H', I', rz, qz⟩
/-- a op= b, a of an own class with the in-place def -/
theorem ip_own {op : Operator} {nm : Str} (D : MethOk X.prog X.w X.K X.mg X.base C k nm ps sp) (hc : PySem.W.selfFirst X.K C = true) (hr : Room k X.A) (hnm : dunderI op.info.2 = nm := by rfl) : PIp X op (rOwn C sp) := by
  intro pins s σ H x y v u Q I rx ry h
  obtain ⟨f, fd, F, hf, hi, kp, fi, bd⟩ := D.ex
  obtain ⟨a, dx, fs, rfl, ha, q⟩ := h
  cases (show v = Value.ref a from rx)
  obtain ⟨ox, od, J, _⟩ := inst_at I ha
  obtain ⟨m, hF⟩ := I.fr
  refine PySem.W.ksp_inplace hF I.ok.mod.kin J hc (by rw [hnm]; exact hf) hi ?_
  refine thn (run_at (us := [.ref a, u]) (vs := [.ref a, y]) (fnok_raw F bd) hr I (.cons rfl (.cons ry .nil)) q) fun w s' z => ?_
  obtain ⟨z', H', I', rz, qz⟩ := z
  exact cmpback rz ⟨z', H', I', rz, qz⟩
end

section
variable {X : Cx}
def CPowX (i j : Int) : Prop := 0 ≤ j ∧ (Builtin.Int.intBits i : Int) * j ≤ 134217728
theorem op_powX : OpR X (binaryOp .Pow) (rI CPowX fun i j => .int (i ^ j.toNat)) := opI fun _ _ _ _ _ _ _ hc q => pow_int hc.1 hc.2 q
/-- dict(d), d with keys ints and texts -/
theorem call_dict : CallR X (.type "dict") (fun xs H Q => ∃ a kvs, xs = [.ref a] ∧ Rd H a (.dK kvs) ∧ ∀ p, H p = none → Q (.ref p) (upd H p (.dK kvs))) := by
  intro pins s σ H xs us Q I r h
  obtain ⟨a, kvs, rfl, ha, q⟩ := h
  obtain ⟨u, rfl, ru⟩ := vals1 r
  cases (show u = Value.ref a from ru)
  obtain ⟨z, hd, vs, rel, dd⟩ := dk_rd I.hok ha
  refine PySem.kt_call_dict (knd := mixKind X.prog X.w) hd dd (by rw [← rel.length]; exact z) fun h' dd' hs => ?_
  have hn := I.hok.fresh (Nat.le_refl s.heap.objs.size)
  refine ⟨.ref s.heap.objs.size, upd H s.heap.objs.size (.dK kvs), ?_, rfl, q _ hn⟩
  refine I.laid (t' := s.toks) (fun b u e => ?_) (Nat.le_refl _) ?_
  · refine (hs.2 b ?_).trans (Heap.get?_push_of_some _ e)
    exact Nat.ne_of_lt (Heap.lt_size e)
  · exact dk_new z (by
      have hb := I.big
      exact beq_eq_false_iff_ne.mpr (Ne.symm (Nat.ne_of_lt hb))) rel dd'
end
end M
namespace M
open PySem PySem.Spec PyProof.Rows L2

theorem itk_turns {d : Addr} {o : Obj} {kvs : List (Key × V)} (Pv : Nat → Hp → Prop) : True := trivial
theorem for_keys {d : Addr} {o : Obj} {kvs : List (Key × V)} {g : TG} {tb : TS} {D : Ends} {σ : L2.St} {H : Hp} (Pv : Nat → L2.St → Hp → Prop) (h0 : Pv 0 σ H) (hl : ∀ i σ H, i ≤ kvs.length → Pv i σ H → H d = some (.frz o (.dK kvs)))
    (hs : ∀ i k v σ H, kvs[i]? = some (k, v) → Pv i σ H → g (kV k) σ H fun σ2 H2 => tb { D with nx := Pv (i + 1), ct := Pv (i + 1), bk := D.nx } σ2 H2) (hd : ∀ σ H, Pv kvs.length σ H → D.nx σ H) :
    ∃ W : Nat → Nat → L2.St → Hp → Prop, (∃ m, W 0 m σ H) ∧ ∀ i m σ H, W i m σ H →
      ((Itk d o kvs).stop i H ∧ D.nx σ H) ∨ ((Itk d o kvs).go i H ∧ ∃ N : L2.St → Hp → Prop, (∀ σ' H', N σ' H' → ∃ m', m' < m ∧ W (i + 1) m' σ' H') ∧ ∀ x H', (Itk d o kvs).yld i H x H' → g x σ H' fun σ2 H2 => tb { D with nx := N, ct := N, bk := D.nx } σ2 H2) := by
  refine ⟨fun i m σ H => m = kvs.length - i ∧ i ≤ kvs.length ∧ Pv i σ H, ⟨kvs.length, by simp, Nat.zero_le _, h0⟩, ?_⟩
  rintro i m σ H ⟨rfl, hi, p⟩
  have q := hl i σ H hi p
  by_cases hlt : i < kvs.length
  · refine .inr ⟨⟨q, hlt⟩, Pv (i + 1), fun σ' H' p' => ⟨kvs.length - (i + 1), by omega, rfl, hlt, p'⟩, fun x H' y => ?_⟩
    obtain ⟨e, k, v, hk, rfl⟩ := y
    subst e
    exact hs i k v σ _ hk p
  · have e : i = kvs.length := by omega
    subst e
    exact .inl ⟨⟨q, Nat.le_refl _⟩, hd σ H p⟩
theorem lc_keys {d : Addr} {o : Obj} {kvs : List (Key × V)} {g : TG} {tt : TT} {te : TE} {vs : List Nat} {σ : L2.St} {H1 : Hp} {D : Addr} {Qd : Hp → Prop} (Pv : Nat → Hp → Prop) (h0 : Pv 0 (upd H1 D (.lst []))) (hl : ∀ i H, i ≤ kvs.length → Pv i H → H d = some (.frz o (.dK kvs)))
    (hs : ∀ i k v H, kvs[i]? = some (k, v) → Pv i H → g (kV k) (wipe σ vs) H fun σ2 H2 => wipe σ2 vs = wipe σ vs ∧ tt σ2 H2 fun b H3 =>
      if b = true then te σ2 H3 fun y H4 => ∃ acc, H4 D = some (.lst acc) ∧ acc.length < sizeLine ∧ Pv (i + 1) (upd H4 D (.lst (acc ++ [y]))) else Pv (i + 1) H3) (hd : ∀ H, Pv kvs.length H → Qd H) :
    ∃ W : Nat → Nat → Hp → Prop, (∃ m, W 0 m (upd H1 D (.lst []))) ∧ ∀ i m H, W i m H →
      ((Itk d o kvs).stop i H ∧ Qd H) ∨ ((Itk d o kvs).go i H ∧ ∃ Nx : Hp → Prop, (∀ H', Nx H' → ∃ m', m' < m ∧ W (i + 1) m' H') ∧ ∀ x H', (Itk d o kvs).yld i H x H' → g x (wipe σ vs) H' fun σ2 H2 => wipe σ2 vs = wipe σ vs ∧ tt σ2 H2 fun b H3 =>
        if b = true then te σ2 H3 fun y H4 => ∃ acc, H4 D = some (.lst acc) ∧ acc.length < sizeLine ∧ Nx (upd H4 D (.lst (acc ++ [y]))) else Nx H3) := by
  refine ⟨fun i m H => m = kvs.length - i ∧ i ≤ kvs.length ∧ Pv i H, ⟨kvs.length, by simp, Nat.zero_le _, h0⟩, ?_⟩
  rintro i m H ⟨rfl, hi, p⟩
  have q := hl i H hi p
  by_cases hlt : i < kvs.length
  · refine .inr ⟨⟨q, hlt⟩, Pv (i + 1), fun H' p' => ⟨kvs.length - (i + 1), by omega, rfl, hlt, p'⟩, fun x H' y => ?_⟩
    obtain ⟨e, k, v, hk, rfl⟩ := y
    subst e
    exact hs i k v _ hk p
  · have e : i = kvs.length := by omega
    subst e
    exact .inl ⟨⟨q, Nat.le_refl _⟩, hd H p⟩
theorem dc_keys {d : Addr} {o : Obj} {kvs : List (Key × V)} {g : TG} {tt : TT} {tk tv : TE} {vs : List Nat} {σ : L2.St} {H1 : Hp} {D : Addr} {Qd : Hp → Prop} (Pv : Nat → Hp → Prop) (h0 : Pv 0 (upd H1 D (.dK []))) (hl : ∀ i H, i ≤ kvs.length → Pv i H → H d = some (.frz o (.dK kvs)))
    (hs : ∀ i k v H, kvs[i]? = some (k, v) → Pv i H → g (kV k) (wipe σ vs) H fun σ2 H2 => wipe σ2 vs = wipe σ vs ∧ tt σ2 H2 fun b H3 =>
      if b = true then tk σ2 H3 fun y H4 => tv σ2 H4 fun z H5 => ∃ ks kk, y = kV kk ∧ H5 D = some (.dK ks) ∧ ks.length < sizeLine ∧ Pv (i + 1) (upd H5 D (.dK (putK ks kk z))) else Pv (i + 1) H3) (hd : ∀ H, Pv kvs.length H → Qd H) :
    ∃ W : Nat → Nat → Hp → Prop, (∃ m, W 0 m (upd H1 D (.dK []))) ∧ ∀ i m H, W i m H →
      ((Itk d o kvs).stop i H ∧ Qd H) ∨ ((Itk d o kvs).go i H ∧ ∃ Nx : Hp → Prop, (∀ H', Nx H' → ∃ m', m' < m ∧ W (i + 1) m' H') ∧ ∀ x H', (Itk d o kvs).yld i H x H' → g x (wipe σ vs) H' fun σ2 H2 => wipe σ2 vs = wipe σ vs ∧ tt σ2 H2 fun b H3 =>
        if b = true then tk σ2 H3 fun y H4 => tv σ2 H4 fun z H5 => ∃ kvs k, y = kV k ∧ H5 D = some (.dK kvs) ∧ kvs.length < sizeLine ∧ Nx (upd H5 D (.dK (putK kvs k z))) else Nx H3) := by
  refine ⟨fun i m H => m = kvs.length - i ∧ i ≤ kvs.length ∧ Pv i H, ⟨kvs.length, by simp, Nat.zero_le _, h0⟩, ?_⟩
  rintro i m H ⟨rfl, hi, p⟩
  have q := hl i H hi p
  by_cases hlt : i < kvs.length
  · refine .inr ⟨⟨q, hlt⟩, Pv (i + 1), fun H' p' => ⟨kvs.length - (i + 1), by omega, rfl, hlt, p'⟩, fun x H' y => ?_⟩
    obtain ⟨e, k, v, hk, rfl⟩ := y
    subst e
    exact hs i k v _ hk p
  · have e : i = kvs.length := by omega
    subst e
    exact .inl ⟨⟨q, Nat.le_refl _⟩, hd H p⟩

def Chg (S : List Addr) (H H' : Hp) : Prop := ∀ b o, b ∉ S → H b = some o → H' b = some o
theorem Chg.refl (S : List Addr) (H : Hp) : Chg S H H := fun _ _ _ h => h
theorem Chg.trans {S : List Addr} {H H1 H2 : Hp} (a : Chg S H H1) (b : Chg S H1 H2) : Chg S H H2 := fun c o n h => b c o n (a c o n h)
theorem Chg.mono {S S' : List Addr} {H H' : Hp} (a : Chg S H H') (h : ∀ x ∈ S, x ∈ S') : Chg S' H H' := fun c o n q => a c o (fun z => n (h c z)) q
theorem Chg.new {S : List Addr} {H : Hp} {p : Addr} {o : HO} (h : H p = none) : Chg S H (upd H p o) := fun b u _ e => by rw [upd_ne (ne_of_none e h)]; exact e
theorem Chg.set {S : List Addr} {H : Hp} {p : Addr} {o : HO} (h : p ∈ S) : Chg S H (upd H p o) := fun b u n e => by rw [upd_ne (fun z => n (by rw [z]; exact h))]; exact e
/-- a further store to what was free at the start -/
theorem Chg.put {S : List Addr} {H H' : Hp} {p : Addr} {o : HO} (a : Chg S H H') (h : H p = none) : Chg S H (upd H' p o) := fun b u n e => by rw [upd_ne (ne_of_none e h)]; exact a b u n e
theorem Chg.free {S : List Addr} {H H' : Hp} (a : Chg S H H') {p : Addr} (h : H' p = none) (n : p ∉ S) : H p = none := by
  cases e : H p with
  | none => rfl
  | some o => rw [a p o n e] at h; cases h
theorem Chg.same {H H' : Hp} (a : Same H H') (S : List Addr) : Chg S H H' := fun b o _ e => a b o e
theorem Chg.toSame {H H' : Hp} (a : Chg [] H H') : Same H H' := fun b o e => a b o (by simp) e
theorem Chg.seq {S : List Addr} {K : PySem.W.Frag} {H H' : Hp} {a : Addr} {xs : List V} (e : Chg S H H') (n : a ∉ S) (h : SqL K H a xs) : SqL K H' a xs := by
  rcases h with (h | ⟨o, h⟩) | h
  · exact .inl (.inl (e _ _ n h))
  · exact .inl (.inr ⟨o, e _ _ n h⟩)
  · exact .inr h
theorem Chg.sqt {S : List Addr} {K : PySem.W.Frag} {H H' : Hp} {a : Addr} {xs : List V} (e : Chg S H H') (n : a ∉ S) (h : SqT K H a xs) : SqT K H' a xs := by
  rcases h with (h | ⟨o, h⟩) | h
  · exact .inl (.inl (e _ _ n h))
  · exact .inl (.inr ⟨o, e _ _ n h⟩)
  · exact .inr h
theorem same_new {H : Hp} {p : Addr} {o : HO} (h : H p = none) : Same H (upd H p o) := fun b u e => by rw [upd_ne (ne_of_none e h)]; exact e
theorem Same.put {H H' : Hp} {p : Addr} {o : HO} (a : Same H H') (h : H p = none) : Same H (upd H' p o) := fun b u e => by rw [upd_ne (ne_of_none e h)]; exact a b u e
theorem Same.sqt {K : PySem.W.Frag} {H H' : Hp} {a : Addr} {xs : List V} (e : Same H H') (h : SqT K H a xs) : SqT K H' a xs := by
  rcases h with (h | ⟨o, h⟩) | h
  · exact .inl (.inl (e _ _ h))
  · exact .inl (.inr ⟨o, e _ _ h⟩)
  · exact .inr h

def sk (l : List (Str × V)) : List (Key × V) := l.map fun p => (Sum.inr p.1, p.2)
theorem sk_len (l : List (Str × V)) : (sk l).length = l.length := List.length_map ..
theorem sk_get {l : List (Str × V)} {i : Nat} {k : Key} {v : V} (h : (sk l)[i]? = some (k, v)) : ∃ z, k = Sum.inr z ∧ l[i]? = some (z, v) := by
  unfold sk at h
  rw [List.getElem?_map] at h
  cases e : l[i]? with
  | none => rw [e] at h; cases h
  | some p =>
    rw [e] at h
    cases h
    exact ⟨p.1, rfl, rfl⟩
def sVal (l : List (Str × V)) (z : Str) : Option V := valV (sk l) (Sum.inr z)
theorem sVal_nil {z : Str} : sVal [] z = none := rfl
theorem sVal_cons (p : Str × V) (l : List (Str × V)) (z : Str) : sVal (p :: l) z = if p.1 = z then some p.2 else sVal l z := by
  by_cases e : p.1 = z
  · rw [if_pos e]
    exact valV_pos (p := (Sum.inr p.1, p.2)) (by rw [e])
  · rw [if_neg e]
    exact valV_neg (p := (Sum.inr p.1, p.2)) (fun q => e (Sum.inr.inj q))
theorem sVal_at : ∀ {l : List (Str × V)} {i : Nat} {z : Str} {v : V}, (l.map (·.1)).Nodup → l[i]? = some (z, v) → sVal l z = some v
  | [], i, z, v, _, h => by simp at h
  | p :: l, 0, z, v, _, h => by
    have e : p = (z, v) := Option.some.inj h
    subst e
    rw [sVal_cons, if_pos rfl]
  | p :: l, i + 1, z, v, hn, h => by
    have h : l[i]? = some (z, v) := h
    have hn : (p.1 :: l.map (·.1)).Nodup := hn
    obtain ⟨h1, h2⟩ := List.nodup_cons.mp hn
    have hm : z ∈ l.map (·.1) := List.mem_map.mpr ⟨(z, v), List.mem_of_getElem? h, rfl⟩
    rw [sVal_cons, if_neg (fun e : p.1 = z => h1 (by rw [e]; exact hm))]
    exact sVal_at h2 h
theorem sVal_mem : ∀ {l : List (Str × V)} {z : Str} {v : V}, sVal l z = some v → (z, v) ∈ l
  | [], z, v, h => by cases h
  | p :: l, z, v, h => by
    rw [sVal_cons] at h
    by_cases e : p.1 = z
    · rw [if_pos e] at h
      cases h
      exact List.mem_cons.mpr (.inl (by rw [← e]))
    · rw [if_neg e] at h
      exact List.mem_cons.mpr (.inr (sVal_mem h))
theorem sVal_none : ∀ {l : List (Str × V)} {z : Str}, sVal l z = none ↔ z ∉ l.map (·.1)
  | [], z => by simp [sVal_nil]
  | p :: l, z => by
    rw [sVal_cons, List.map_cons, List.mem_cons]
    by_cases e : p.1 = z
    · rw [if_pos e]
      exact Iff.intro (fun h => nomatch h) (fun h => (h (Or.inl e.symm)).elim)
    · rw [if_neg e, sVal_none]
      exact Iff.intro (fun h q => q.elim (fun q => e q.symm) h) (fun h q => h (Or.inr q))
/-- put at its place, or at the end -/
def sPut (l : List (Str × V)) (z : Str) (v : V) : List (Str × V) := if (sVal l z).isSome = true then l.map (fun p => if p.1 = z then (p.1, v) else p) else l ++ [(z, v)]
theorem sk_put (l : List (Str × V)) (z : Str) (v : V) : putK (sk l) (Sum.inr z) v = sk (sPut l z v) := by
  unfold putK sPut sVal
  rw [valV_any]
  by_cases h : (valV (sk l) (Sum.inr z)).isSome = true
  · rw [if_pos h, if_pos h]
    unfold sk
    rw [List.map_map, List.map_map]
    refine List.map_congr_left fun p _ => ?_
    show (if (Sum.inr p.1 : Key) = Sum.inr z then ((Sum.inr p.1 : Key), v) else (Sum.inr p.1, p.2)) = ((fun p : Str × V => ((Sum.inr p.1 : Key), p.2)) (if p.1 = z then (p.1, v) else p))
    by_cases e : p.1 = z
    · rw [if_pos e, if_pos (by rw [e])]
    · rw [if_neg e, if_neg (fun q => e (Sum.inr.inj q))]
  · rw [if_neg h, if_neg h]
    unfold sk
    rw [List.map_append]
    rfl
theorem sVal_put (l : List (Str × V)) (z y : Str) (v : V) : sVal (sPut l z v) y = if y = z then some v else sVal l y := by
  show valV (sk (sPut l z v)) (Sum.inr y) = _
  rw [← sk_put, valV_put]
  by_cases e : y = z
  · rw [if_pos e, if_pos (by rw [e])]
  · rw [if_neg e, if_neg (fun q => e (Sum.inr.inj q))]
    rfl
theorem sPut_keys (l : List (Str × V)) (z : Str) (v : V) : (sPut l z v).map (·.1) = if (sVal l z).isSome = true then l.map (·.1) else l.map (·.1) ++ [z] := by
  unfold sPut
  by_cases h : (sVal l z).isSome = true
  · rw [if_pos h, if_pos h, List.map_map]
    refine List.map_congr_left fun p _ => ?_
    show (if p.1 = z then (p.1, v) else p).1 = p.1
    by_cases e : p.1 = z
    · rw [if_pos e]
    · rw [if_neg e]
  · rw [if_neg h, if_neg h, List.map_append]
    rfl
theorem sPut_nodup {l : List (Str × V)} (z : Str) (v : V) (hn : (l.map (·.1)).Nodup) : ((sPut l z v).map (·.1)).Nodup := by
  rw [sPut_keys]
  by_cases h : (sVal l z).isSome = true
  · rw [if_pos h]; exact hn
  · rw [if_neg h]
    refine nd_snoc hn (sVal_none.mp ?_)
    cases e : sVal l z with
    | none => rfl
    | some v => rw [e] at h; exact (h rfl).elim
theorem sPut_len (l : List (Str × V)) (z : Str) (v : V) : (sPut l z v).length ≤ l.length + 1 := by
  have h := congrArg List.length (sPut_keys l z v)
  rw [List.length_map] at h
  rw [h]
  by_cases e : (sVal l z).isSome = true
  · rw [if_pos e, List.length_map]; omega
  · rw [if_neg e, List.length_append, List.length_map, List.length_singleton]
    exact Nat.le_refl _
theorem sPut_new {l : List (Str × V)} {z : Str} (v : V) (h : z ∉ l.map (·.1)) : sPut l z v = l ++ [(z, v)] := by
  unfold sPut
  rw [sVal_none.mpr h]
  exact if_neg (by decide)
theorem sPut_mem {l : List (Str × V)} {z : Str} {v : V} {p : Str × V} (h : p ∈ sPut l z v) : p ∈ l ∨ p = (z, v) := by
  unfold sPut at h
  by_cases e : (sVal l z).isSome = true
  · rw [if_pos e] at h
    obtain ⟨q, hq, rfl⟩ := List.mem_map.mp h
    by_cases e : q.1 = z
    · rw [if_pos e]; exact .inr (by rw [e])
    · rw [if_neg e]; exact .inl hq
  · rw [if_neg e] at h
    rcases List.mem_append.mp h with h | h
    · exact .inl h
    · exact .inr (List.mem_singleton.mp h)
theorem dget_s {H : Hp} {a : Addr} {l : List (Str × V)} (z : Str) (h : Rd H a (.dK (sk l))) : DGet H a (.str z) (sVal l z) := .inl ⟨sk l, Sum.inr z, h, rfl, rfl⟩
theorem dput_s {H : Hp} {a : Addr} {l : List (Str × V)} (z : Str) (v : V) (h : H a = some (.dK (sk l))) (hl : l.length < sizeLine) : DPut H a (.str z) v (upd H a (.dK (sk (sPut l z v)))) := by
  refine .inl ⟨sk l, Sum.inr z, h, rfl, by rw [sk_len]; exact hl, by rw [sk_put]⟩

def cs (z : Str) : List Nat := z.cps.toList
theorem cs_inj {a b : Str} (h : cs a = cs b) : a = b := by
  cases a; cases b
  exact congrArg _ (Array.toList_inj.mp h)
theorem lt_irr : ∀ a : List Nat, ltCps a a = false
  | [] => rfl
  | a :: r => by
    show (decide (a < a) || (a == a && ltCps r r)) = false
    rw [lt_irr r, decide_eq_false (Nat.lt_irrefl a), Bool.and_false]
    rfl
theorem lt_cons (a b : Nat) (r t : List Nat) : (ltCps (a :: r) (b :: t) = true) ↔ (a < b ∨ (a = b ∧ ltCps r t = true)) := by
  show ((decide (a < b) || (a == b && ltCps r t)) = true) ↔ _
  rw [Bool.or_eq_true, Bool.and_eq_true, decide_eq_true_iff, beq_iff_eq]
theorem lt_tr : ∀ {a b c : List Nat}, ltCps a b = true → ltCps b c = true → ltCps a c = true
  | [], [], _, h, _ => by cases h
  | [], _ :: _, [], _, h => by cases h
  | [], _ :: _, _ :: _, _, _ => rfl
  | _ :: _, [], _, h, _ => by cases h
  | _ :: _, _ :: _, [], _, h => by cases h
  | a :: r, b :: t, c :: u, h1, h2 => by
    rw [lt_cons] at h1 h2 ⊢
    rcases h1 with h1 | ⟨e1, h1⟩ <;> rcases h2 with h2 | ⟨e2, h2⟩
    · exact .inl (by omega)
    · exact .inl (by omega)
    · exact .inl (by omega)
    · exact .inr ⟨by omega, lt_tr h1 h2⟩
theorem lt_tri : ∀ (a b : List Nat), ltCps a b = true ∨ a = b ∨ ltCps b a = true
  | [], [] => .inr (.inl rfl)
  | [], _ :: _ => .inl rfl
  | _ :: _, [] => .inr (.inr rfl)
  | a :: r, b :: t => by
    rcases Nat.lt_trichotomy a b with h | h | h
    · exact .inl ((lt_cons ..).mpr (.inl h))
    · rcases lt_tri r t with q | q | q
      · exact .inl ((lt_cons ..).mpr (.inr ⟨h, q⟩))
      · exact .inr (.inl (by rw [h, q]))
      · exact .inr (.inr ((lt_cons ..).mpr (.inr ⟨h.symm, q⟩)))
    · exact .inr (.inr ((lt_cons ..).mpr (.inl h)))
/-- strictly rising texts -/
abbrev Rise (l : List Str) : Prop := l.Pairwise fun a b => ltCps (cs a) (cs b) = true
theorem rising_of : ∀ (r : List Str) (x : Str), risingS x r = true → ∀ y ∈ r, ltCps (cs y) (cs x) = false
  | [], _, _, y, h => by simp at h
  | a :: r, x, h, y, hy => by
    have h : (!ltCps (cs a) (cs x) && risingS a r) = true := h
    obtain ⟨h1, h2⟩ := (Bool.and_eq_true_iff).mp h
    have h1 : ltCps (cs a) (cs x) = false := by simpa using h1
    rcases List.mem_cons.mp hy with e | hy
    · rw [e]; exact h1
    · have q := rising_of r a h2 y hy
      cases e : ltCps (cs y) (cs x) with
      | false => rfl
      | true =>
        rcases lt_tri (cs x) (cs a) with z | z | z
        · rw [lt_tr e z] at q; cases q
        · rw [← z, e] at q; cases q
        · rw [z] at h1; cases h1
theorem rise_of : ∀ (l : List Str), sortedS l = true → l.Nodup → Rise l
  | [], _, _ => .nil
  | x :: r, h, hn => by
    have h : risingS x r = true := h
    obtain ⟨n1, n2⟩ := List.nodup_cons.mp hn
    refine .cons (fun y hy => ?_) (rise_of r ?_ n2)
    · rcases lt_tri (cs x) (cs y) with q | q | q
      · exact q
      · exact (n1 (by rw [cs_inj q]; exact hy)).elim
      · rw [rising_of r x h y hy] at q; cases q
    · cases r with
      | nil => rfl
      | cons a r =>
        have h : (!ltCps (cs a) (cs x) && risingS a r) = true := h
        exact ((Bool.and_eq_true_iff).mp h).2
theorem rise_eq : ∀ {l m : List Str}, Rise l → Rise m → (∀ z, z ∈ l ↔ z ∈ m) → l = m
  | [], [], _, _, _ => rfl
  | [], b :: m, _, _, h => by have := (h b).mpr (List.mem_cons_self ..); simp at this
  | a :: l, [], _, _, h => by have := (h a).mp (List.mem_cons_self ..); simp at this
  | a :: l, b :: m, h1, h2, h => by
    obtain ⟨p1, q1⟩ := List.pairwise_cons.mp h1
    obtain ⟨p2, q2⟩ := List.pairwise_cons.mp h2
    have e : a = b := by
      rcases List.mem_cons.mp ((h a).mp (List.mem_cons_self ..)) with e | e
      · exact e
      · rcases List.mem_cons.mp ((h b).mpr (List.mem_cons_self ..)) with e' | e'
        · exact e'.symm
        · have z := lt_tr (p1 b e') (p2 a e)
          rw [lt_irr] at z; cases z
    subst e
    refine congrArg _ (rise_eq q1 q2 fun z => ⟨fun hz => ?_, fun hz => ?_⟩)
    · rcases List.mem_cons.mp ((h z).mp (List.mem_cons_of_mem _ hz)) with e | e
      · rw [e] at hz; have z := p1 _ hz; rw [lt_irr] at z; cases z
      · exact e
    · rcases List.mem_cons.mp ((h z).mpr (List.mem_cons_of_mem _ hz)) with e | e
      · rw [e] at hz; have z := p2 _ hz; rw [lt_irr] at z; cases z
      · exact e
end M
namespace M
open PySem PySem.Spec PyProof.Rows L2
section
variable {prog : Program} {w : World} {κ : Type} [DecidableEq κ] {knd : KeyKind prog w κ} {A : Around} {E : Value → Shared → Prop} {s : Shared}

theorem put_pairs {d : Addr} {kvs : List (κ × Value)} {k : κ} {key v : Value} {Q : Unit → Shared → Prop} (hkey : knd.is k key = true) (hm : s.heap.DictOf knd d kvs)
    (hQ : ∀ h', h'.DictOf knd d (stored kvs k v) → Heap.SameBut d s.heap h' → Q () { s with heap := h' }) (hsz : kvs.length ≤ sizeLine) : wpAny (model prog w) A (dictPut d (knd.hash k) key v) Q E s := by
  obtain ⟨o, es, ep, ho, hc, hd, hk, hp, hn⟩ := hm
  have hes : es.size ≤ sizeLine := by
    have e1 := hp.length
    have e2 : es.toList.length = es.size := by simp
    omega
  unfold dictPut
  refine wpAny_bind (wpAny_dictFind_of hkey ho hd hk ?_)
  have hidx : (es.findIdx? fun e => knd.is k e.key) = kvs.findIdx? fun kv => decide (kv.1 = k) := by
    rw [← hp.findIdx k]
    obtain ⟨l⟩ := es
    simp
  cases hi : es.findIdx? fun e => knd.is k e.key with
  | some i =>
    have hst : stored kvs k v = kvs.map (fun kv => if kv.1 = k then (kv.1, v) else kv) := by rw [stored, if_pos (any_of_findIdx_some (hidx ▸ hi))]
    refine wpAny_updateDict ho hd (hQ _ ⟨_, _, ep, Heap.get?_update_self _ ho (Obj.isFreed_of_dict (Obj.data_mapDict hd _)), hc.mapDict _, Obj.data_mapDict hd _, hk.modify _ _, ?_, ?_⟩ (Heap.SameBut.update ..))
    · rw [hst]
      have hl : (es.toList.findIdx? fun e => knd.is k e.key) = some i := by
        rw [← hi]
        obtain ⟨l⟩ := es
        simp
      have q := hp.modify hn hl v
      obtain ⟨l⟩ := es
      simpa using q
    · rw [hst, keys_map_store]
      exact hn
  | none =>
    have hnot : k ∉ kvs.map (·.1) := not_mem_of_findIdx_none (hidx ▸ hi)
    have hany : ¬ (kvs.any fun kv => decide (kv.1 = k)) = true := by
      intro q
      obtain ⟨kv, hkv, he⟩ := List.any_eq_true.mp q
      exact hnot (List.mem_map.mpr ⟨kv, hkv, of_decide_eq_true he⟩)
    have hst : stored kvs k v = kvs ++ [(k, v)] := by rw [stored, if_neg hany]
    refine wpAny_updateDictKeys (hz := hes) ho hd (hQ _ ⟨_, _, ep + 1, Heap.get?_update_self _ ho (Obj.isFreed_of_dict (Obj.data_mapDictKeys hd _)), hc.mapDictKeys _, Obj.data_mapDictKeys hd _, hk.push hkey _, ?_, ?_⟩ (Heap.SameBut.update ..))
    · rw [hst]
      have q := hp.append hkey (knd.hash k) v
      obtain ⟨l⟩ := es
      simpa using q
    · rw [hst, List.map_append, List.nodup_append]
      refine ⟨hn, by simp, fun a ha b hb e => ?_⟩
      rw [List.map_cons, List.map_nil, List.mem_singleton] at hb
      have hb : b = k := hb
      exact hnot (by rw [← hb, ← e]; exact ha)

theorem merge_mapping {d o : Addr} {kvs more : List (κ × Value)} {Q : Unit → Shared → Prop} (hdo : d ≠ o) (hoS : (o == sysModules) = false) (hd : s.heap.DictOf knd d kvs) (ho : s.heap.DictOf knd o more)
    (hkr : ∀ k v, knd.is k v = true → ∀ a, v ≠ .ref a)
    (hQ : ∀ h', h'.DictOf knd d (merged kvs more) → Heap.SameBut d s.heap h' → Q () { s with heap := h' }) (hsz : kvs.length + more.length ≤ sizeLine) : wpAny (model prog w) A (mergeMapping d (.ref o) false) Q E s := by
  have hto := ho.typeIs
  obtain ⟨od, esd, epd, hod, hcd, hdd, hkd, hpd, hnd⟩ := id hd
  obtain ⟨oo, eso, epo, hoo, hco, hdo', hko, hpo, hno⟩ := id ho
  have hlen : more.length = eso.size := by rw [← hpo.length]; simp
  have loop : wpAny (model prog w) A (do
      let size := (← dictEntries o).size
      let epoch ← dictEpoch o
      for i in List.range size do
        let some e := (← dictEntries o)[i]? | unsupported "dict.changed-during-merge"
        holding [e.key, e.val] do
          if false = true then
            if (← dictFind d e.key e.hash).isSome then rule "dict.merge.duplicate-key"; raiseNew (← newExc (.type "KeyError") [e.key])
          dictPut d e.hash e.key e.val
        if (← dictEpoch o) != epoch then unsupported "dict.changed-during-merge") Q E s := by
    refine wpAny_bind (wpAny_dictEntries hoo hdo' ?_)
    refine wpAny_bind (wpAny_dictEpoch hoo hdo' ?_)
    refine wpAny_bind ?_
    refine wpAny_forIn_list _ (fun rest _ s' => ∃ h' i, s' = { s with heap := h' } ∧ rest = (List.range eso.size).drop i ∧ i ≤ eso.size ∧ h'.DictOf knd d (merged kvs (more.take i)) ∧ h'.get? o = some oo ∧ Heap.SameBut d s.heap h')
      _ ?_ ?_ _ _ ⟨s.heap, 0, rfl, (List.drop_zero).symm, Nat.zero_le _, by simpa [merged] using hd, hoo, Heap.SameBut.refl _ _⟩
    · rintro x rest b s' ⟨h', i, rfl, hr, hi, hd', hoo', hs'⟩
      have hlt : i < eso.size := by
        rcases Nat.lt_or_ge i eso.size with h | h
        · exact h
        · rw [List.drop_of_length_le (by simpa using h)] at hr
          cases hr
      obtain ⟨rfl, hrest⟩ : x = i ∧ rest = (List.range eso.size).drop (i + 1) := by
        rw [List.drop_eq_getElem_cons (by simpa using hlt)] at hr
        injection hr with h1 h2
        exact ⟨by simpa using h1, h2⟩
      refine wpAny_bind (wpAny_dictEntries hoo' hdo' ?_)
      rw [Array.getElem?_eq_getElem hlt]
      obtain ⟨⟨k, v⟩, hkv⟩ : ∃ kv, more[x]? = some kv := ⟨more[x]'(by rw [hlen]; exact hlt), List.getElem?_eq_getElem _⟩
      obtain ⟨hkey, hval⟩ := hpo.get? (e := eso[x]) (by simp [hlt]) hkv
      obtain ⟨k', hkey', hhash⟩ := hko eso[x] (Array.getElem_mem hlt)
      obtain rfl : k' = k := knd.inj _ _ _ hkey' hkey
      have hmx : (merged kvs (more.take x)).length ≤ sizeLine := by
        have e1 := merged_length_le kvs (more.take x)
        have e2 : (more.take x).length ≤ more.length := by rw [List.length_take]; omega
        omega
      dsimp only
      simp only [Bool.false_eq_true, if_false]
      rw [hhash, hval]
      refine wpAny_bind (wpAny_holding (put_pairs (hsz := hmx) hkey hd' fun h'' hd'' hs'' => ?_))
      have hoo'' : h''.get? o = some oo := (hs''.2 o (Ne.symm hdo)).trans hoo'
      refine wpAny_bind (wpAny_dictEpoch hoo'' hdo' ?_)
      rw [if_neg (by simp)]
      exact wpAny_pure ⟨h'', x + 1, rfl, hrest, hlt, by rw [merged_take_succ kvs more x (k', v) hkv]; exact hd'', hoo'', hs'.trans hs''⟩
    · rintro b s' ⟨h', i, rfl, hr, hi, hd', hoo', hs'⟩
      have hin : i = eso.size := by
        rcases Nat.lt_or_ge i eso.size with h | h
        · rw [List.drop_eq_getElem_cons (by simpa using h)] at hr
          cases hr
        · exact Nat.le_antisymm hi h
      refine wpAny_pure (hQ h' ?_ hs')
      rw [hin, ← hlen, List.take_length] at hd'
      exact hd'
  unfold mergeMapping
  refine wpAny_bind (wpAny_isInstance (U := "dict") (b := true) hto (by rw [isSubtype_type]; kernel_rfl) ?_)
  try simp only [if_true]
  refine wpAny_bind (wpAny_specialOf hto F.slot_dict_iter.lookup (wpAny_bind (wpAny_pure ?_)))
  rw [show (some (Value.builtin "dict.__iter__") == some (Value.builtin "dict.__iter__")) = true from beq_self_eq_true _]
  show wpAny _ _ (if (o == sysModules) = true then _ else _) _ _ _
  rw [hoS]
  simp only [Bool.false_eq_true, if_false]
  refine wpAny_bind (wpAny_dictEntries hod hdd ?_)
  by_cases hemp : esd.isEmpty = true
  · rw [if_pos hemp]
    refine wpAny_bind (wpAny_dictEntries hoo hdo' ?_)
    rw [← Array.forIn_toList]
    refine wpAny_bind ?_
    refine wpAny_forIn_list _ (fun rest _ s' => s' = s ∧ ∀ e ∈ rest, e ∈ eso.toList) _ ?_ ?_ _ _ ⟨rfl, fun _ h => h⟩
    · rintro x rest b s' ⟨rfl, hr⟩
      obtain ⟨k', hkey', _⟩ := hko x (Array.mem_def.mpr (hr x (List.mem_cons_self ..)))
      have hne := hkr k' _ hkey'
      cases hx : x.key with
      | ref a => exact (hne a hx).elim
      | _ => exact wpAny_pure ⟨rfl, fun e he => hr e (List.mem_cons_of_mem _ he)⟩
    · rintro b s' ⟨rfl, _⟩
      exact loop
  · rw [if_neg hemp]
    exact loop
end
end M
namespace M
open PySem PySem.Spec PyProof.Rows L2
theorem key_noref {k : Key} {v : Value} (h : keyIs k v = true) (a : Addr) : v ≠ .ref a := by
  rcases keyIs_shape h with ⟨i, t, _, rfl⟩ | ⟨x, t, _, rfl⟩ <;> exact fun z => nomatch z
section
variable {X : Cx} {d k v : Expr} {td tk tv : TE} {pos : Pos}
def tDStar (td tk tv : TE) : TE := fun σ H Q => ∀ p, H p = none → td σ (upd H p (.dK [])) fun x H1 => ∃ a kvs, x = .ref a ∧ a ≠ p ∧ Rd H1 a (.dK kvs) ∧ H1 p = some (.dK []) ∧ ∀ q, H1 q = none →
  tk σ (upd (upd H1 p (.dK kvs)) q (.dK [])) fun y H2 => tv σ H2 fun z H3 => ∃ kk, y = kV kk ∧ H3 p = some (.dK kvs) ∧ H3 q = some (.dK []) ∧ kvs.length < sizeLine ∧ Q (.ref p) (upd (upd H3 q (.dK [(kk, z)])) p (.dK (putK kvs kk z)))
theorem dstar_eq (A B C : Sem Value) (pos : Pos) : dictDisplay [(none, A), (some B, C)] = (do
    let d ← alloc { cls := .type "dict", data := .dict #[] }
    let m ← holding [.ref d] A
    (((holding [.ref d, m] (mergeMapping d m false)).onRaise fun x => do let _ ← holding [.ref d, m, x] (runValue (.builtin "proto.let_go" {}))).tryCatch fun e => do
        if ← isInstance e (.type "AttributeError") then
          rule "dict.display.not-a-mapping"; raiseError "TypeError" s!"'{← typeNameOf m}' object is not a mapping"
        throw e).onRaise fun x => do let _ ← holding [.ref d, x] (runValue (.builtin "proto.let_go" {}))
    let sub ← holding [.ref d] (subDict [(B, C)])
    (holding [.ref d, .ref sub] (mergeMapping d (.ref sub) false)).onRaise fun x => do let _ ← holding [.ref d, x] (runValue (.builtin "proto.let_go" {}))
    pure (.ref d)) := by
  unfold dictDisplay
  simp only [List.forIn_cons, List.forIn_nil, List.isEmpty_nil, List.nil_append, if_true, pure_bind, bind_assoc, List.length_singleton, List.isEmpty_cons, show ((1 : Nat) == 17) = false from rfl, Bool.false_eq_true, if_false]
theorem pe_dstar (hd : PE X d td) (hk : PE X k tk) (hv : PE X v tv) : PE X (.Dict [none, some k] [d, v] pos) (tDStar td tk tv) := by
  refine ⟨fun pins s σ H Q I h => ?_⟩
  rw [arm_eval_Dict]
  refine wpAny_bind (wpAny_standAt ?_)
  show wpAny _ _ (dictDisplay [(none, (do let x ← eval d X.env; standAt pos; pure x)), (some (eval k X.env), (do let x ← eval v X.env; standAt pos; pure x))]) _ _ _
  rw [dstar_eq _ _ _ pos]
  have hn := I.hok.fresh (Nat.le_refl s.heap.objs.size)
  have I1 := I.laid (a := s.heap.objs.size) (o := .dK []) (h' := s.heap.push { cls := .type "dict", data := .dict #[] }) (t' := s.toks) (fun _ _ q => Heap.get?_push_of_some _ q) (Nat.le_refl _) (dk_empty s.heap I.big)
  have g := h _ hn
  generalize hp : s.heap.objs.size = p at *
  refine wpAny_bind (wpAny_alloc ?_)
  rw [hp]
  refine wpAny_bind (wpAny_holding (wpAny_bind (thn (hd.run pins _ σ _ _ I1 g) fun u s2 h2 => wpAny_bind (wpAny_standAt (wpAny_pure ?_)))))
  obtain ⟨x, H1, I2, rx, a, kvs, rfl, hap, hra, hp1, g2⟩ := h2
  cases (show u = Value.ref a from rx)
  obtain ⟨z1, s1, vs, rel, dd⟩ := dk_rd I2.hok hra
  obtain ⟨z0, s0, vs0, rel0, dd0⟩ := dk_of I2.hok hp1
  cases rel0
  have hnd : (vs.map (·.1)).Nodup := let ⟨_, _, _, _, _, _, _, _, hn⟩ := dd; hn
  refine wpAny_bind (wpAny_onRaise (wpAny_tryCatch (wpAny_onRaise (wpAny_holding (merge_mapping (knd := mixKind X.prog X.w) (Ne.symm hap) s1 dd0 dd (fun k v h a => key_noref h a) (fun h' dd' hs' => ?_) (by rw [← rel.length]; simpa using z1))))))
  rw [merged_nil_of_nodup vs hnd] at dd'
  have he : ∃ q, h'.get? p = some q := let ⟨q, _, _, hq, _⟩ := dd'; ⟨q, hq⟩
  have I3 := d_write (t' := s2.toks) I2 (by rw [hp1]; exact True.intro) hs' he (dk_new z1 s0 rel dd')
  generalize hs3 : ({ s2 with heap := h' } : Shared) = s3 at I3 ⊢
  have hq0 := I3.hok.fresh (Nat.le_refl s3.heap.objs.size)
  have hpq : p ≠ s3.heap.objs.size := fun e => by rw [← e, upd_same] at hq0; cases hq0
  have I4 := I3.laid (a := s3.heap.objs.size) (o := .dK []) (h' := s3.heap.push { cls := .type "dict", data := .dict #[] }) (t' := s3.toks) (fun _ _ q => Heap.get?_push_of_some _ q) (Nat.le_refl _) (dk_empty s3.heap I3.big)
  have hq1 : H1 s3.heap.objs.size = none := by rw [upd_ne (Ne.symm hpq)] at hq0; exact hq0
  have g3 := g2 _ hq1
  refine wpAny_bind (wpAny_holding (wpAny_subDict (knd := mixKind X.prog X.w) (by simp) (pairTrees_cons_walk (ks := []) (vs := []) (thn (hk.run pins _ σ _ _ I4 g3) fun uk s5 h5 => ?_))))
  obtain ⟨y, H2, I5, ry, g5⟩ := h5
  refine thn (hv.run pins s5 σ H2 _ I5 g5) fun uv s6 h6 => ?_
  obtain ⟨z, H3, I6, rz, kk, rfl, hp3, hq3, hl3, g6⟩ := h6
  refine pairTrees_nil_walk ?_
  obtain ⟨zq, sq, vq, relq, ddq⟩ := dk_of I6.hok hq3
  cases relq
  refine ⟨[(kk, uv)], ⟨kV_is ry, rfl, trivial⟩, ddq, fun h7 dd7 hs7 => ?_⟩
  generalize hq : s3.heap.objs.size = q at *
  have rk : KV [(kk, z)] [(kk, uv)] := .cons ⟨rfl, rz⟩ .nil
  have he7 : ∃ u, h7.get? q = some u := let ⟨u, _, _, hq, _⟩ := dd7; ⟨u, hq⟩
  have I7 := d_write (t' := s6.toks + 1) I6 (by rw [hq3]; exact True.intro) hs7 he7 (dk_new (kvs := [(kk, z)]) (show 1 ≤ sizeLine by rw [sizeLine_eq]; decide) sq rk dd7)
  have hp7 : (upd H3 q (.dK [(kk, z)])) p = some (.dK kvs) := by rw [upd_ne hpq]; exact hp3
  have hq7 : (upd H3 q (.dK [(kk, z)])) q = some (.dK [(kk, z)]) := upd_same
  obtain ⟨z8, s8, v8, r8, d8⟩ := dk_of I7.hok hp7
  obtain ⟨z9, s9, v9, r9, d9⟩ := dk_of I7.hok hq7
  obtain ⟨u9, rfl, r9z⟩ : ∃ u9, v9 = [(kk, u9)] ∧ RelV z u9 := by
    cases r9 with
    | @cons a b as bs h t =>
      cases t
      obtain ⟨b1, b2⟩ := b
      exact ⟨b2, by rw [← (show kk = b1 from h.1)], h.2⟩
  refine wpAny_bind (wpAny_onRaise (wpAny_holding (merge_mapping (knd := mixKind X.prog X.w) hpq s9 d8 d9 (fun k v h a => key_noref h a) (fun h' dd' hs' => wpAny_pure ?_) (by rw [← r8.length]; exact hl3))))
  have he' : ∃ u, h'.get? p = some u := let ⟨u, _, _, hq, _⟩ := dd'; ⟨u, hq⟩
  refine ⟨.ref p, _, d_write I7 (by rw [hp7]; exact True.intro) hs' he' (dk_new ?_ s8 (r8.put kk r9z) dd'), rfl, g6⟩
  have := length_putK kvs kk z
  omega
end
end M
namespace M
open PySem PySem.Spec PyProof.Rows L2
/-- tuples at qs, what they hold -/
def TupsAt (H : Hp) (qs : List Addr) (ts : List (List V)) : Prop := qs.length = ts.length ∧ ∀ (i : Nat) q t, qs[i]? = some q → ts[i]? = some t → H q = some (.tup t)
theorem TupsAt.nil {H : Hp} : TupsAt H [] [] := ⟨rfl, fun i q t h _ => by simp at h⟩
theorem TupsAt.keep {H H' : Hp} {qs : List Addr} {ts : List (List V)} (h : TupsAt H qs ts) (s : ∀ q t, H q = some (.tup t) → H' q = some (.tup t)) : TupsAt H' qs ts := ⟨h.1, fun i q t a b => s _ _ (h.2 i q t a b)⟩
theorem TupsAt.snoc {H : Hp} {qs : List Addr} {ts : List (List V)} {q : Addr} {t : List V} (h : TupsAt H qs ts) (e : H q = some (.tup t)) : TupsAt H (qs ++ [q]) (ts ++ [t]) := by
  refine ⟨by rw [List.length_append, List.length_append, h.1]; rfl, fun i r u a b => ?_⟩
  have hl := h.1
  by_cases hi : i < qs.length
  · rw [List.getElem?_append_left hi] at a
    rw [List.getElem?_append_left (by omega)] at b
    exact h.2 i r u a b
  · rw [List.getElem?_append_right (by omega)] at a
    rw [List.getElem?_append_right (by omega)] at b
    have e0 : i - qs.length = 0 := by
      have := (List.getElem?_eq_some_iff.mp a).1
      simp at this
      omega
    have e1 : i - ts.length = 0 := by omega
    rw [e0] at a
    rw [e1] at b
    cases a
    cases b
    exact e
theorem lc_tups {K : PySem.W.Frag} {a : Addr} {xs : List V} {j : Nat} {tt : TT} {te : TE} {vs : List Nat} {σ : L2.St} {H1 : Hp} {Q : VK} (f : V → List V) (c : V → Bool) (hx : SqL K H1 a xs) (hlen : xs.length ≤ 1000)
    (hw : ∀ x, wipe ((wipe σ vs).set j (some x)) vs = wipe σ vs)
    (ht : ∀ (i : Nat) x H2, xs[i]? = some x → Same H1 H2 → ∀ R : Bool → Hp → Prop, R (c x) H2 → tt ((wipe σ vs).set j (some x)) H2 R)
    (he : ∀ (i : Nat) x H2, xs[i]? = some x → c x = true → Same H1 H2 → ∀ R : VK, (∀ q, H2 q = none → R (.ref q) (upd H2 q (.tup (f x)))) → te ((wipe σ vs).set j (some x)) H2 R)
    (q : ∀ D qs H', H1 D = none → Same H1 H' → H' D = some (.lst (qs.map V.ref)) → TupsAt H' qs ((xs.filter c).map f) → Q (.ref D) H') :
    ∀ D, H1 D = none → ∃ W : Nat → Nat → Hp → Prop, (∃ m, W 0 m (upd H1 D (.lst []))) ∧ ∀ i m H, W i m H →
      ((Itl K a).stop i H ∧ Q (.ref D) H) ∨ ((Itl K a).go i H ∧ ∃ Nx : Hp → Prop, (∀ H', Nx H' → ∃ m', m' < m ∧ W (i + 1) m' H') ∧ ∀ x H', (Itl K a).yld i H x H' → gName j x (wipe σ vs) H' fun σ2 H2 => wipe σ2 vs = wipe σ vs ∧ tt σ2 H2 fun b H3 =>
        if b = true then te σ2 H3 fun y H4 => ∃ acc, H4 D = some (.lst acc) ∧ acc.length < sizeLine ∧ Nx (upd H4 D (.lst (acc ++ [y]))) else Nx H3) := by
  intro D nD
  have key : ∀ (i : Nat) x, xs[i]? = some x → (xs.take (i + 1)).filter c = (xs.take i).filter c ++ [x].filter c := fun i x hi => by
    rw [List.take_add_one, hi, List.filter_append]
    rfl
  refine lc_list (K := K) (a := a) (xs := xs) (fun i H' => Same H1 H' ∧ ∃ qs, H' D = some (.lst (qs.map V.ref)) ∧ TupsAt H' qs (((xs.take i).filter c).map f)) ⟨same_new nD, [], upd_same, .nil⟩ (fun i H' _ p => p.1.seq hx) (fun i x H' hi p => ?_) (fun H' p => ?_)
  · obtain ⟨sm, qs, hD, ts⟩ := p
    have hlt : i < xs.length := (List.getElem?_eq_some_iff.mp hi).1
    refine ⟨hw x, ht i x H' hi sm _ ?_⟩
    cases hc : c x with
    | false =>
      rw [if_neg Bool.false_ne_true]
      refine ⟨sm, qs, hD, ?_⟩
      rw [key i x hi, List.filter_cons, hc]
      show TupsAt H' qs (List.map f (_ ++ []))
      rw [List.append_nil]
      exact ts
    | true =>
      rw [if_pos rfl]
      refine he i x H' hi hc sm _ fun q nq => ?_
      have nqD : D ≠ q := ne_of_none hD nq
      refine ⟨qs.map V.ref, by rw [upd_ne nqD]; exact hD, ?_, ?_, qs ++ [q], by rw [upd_same, List.map_append]; rfl, ?_⟩
      · rw [List.length_map, ts.1, List.length_map]
        have := List.length_filter_le c (xs.take i)
        rw [List.length_take] at this
        exact Nat.lt_of_le_of_lt (this) (small1000 (by omega))
      · exact Same.put (Same.put sm (sm.free nq)) nD
      · rw [key i x hi, List.map_append, List.filter_cons, hc]
        have t2 : TupsAt (upd (upd H' q (.tup (f x))) D (.lst (qs.map V.ref ++ [.ref q]))) qs (((xs.take i).filter c).map f) := ts.keep fun r t e => by
          rw [upd_ne (ne_of e hD (by intro z; cases z)), upd_ne (ne_of_none e nq)]
          exact e
        exact t2.snoc (by rw [upd_ne nqD.symm, upd_same])
  · obtain ⟨sm, qs, hD, ts⟩ := p
    rw [List.take_length] at ts
    exact q D qs H' nD sm hD ts

def ik (l : List (Str × Int)) : List (Str × V) := l.map fun p => (p.1, V.int p.2)
theorem ik_keys (l : List (Str × Int)) : (ik l).map (·.1) = l.map (·.1) := by
  unfold ik
  rw [List.map_map]
  rfl
theorem ik_len (l : List (Str × Int)) : (ik l).length = l.length := List.length_map ..
theorem ik_get {l : List (Str × Int)} {i : Nat} {z : Str} {v : V} (h : (ik l)[i]? = some (z, v)) : ∃ k, v = .int k ∧ l[i]? = some (z, k) := by
  unfold ik at h
  rw [List.getElem?_map] at h
  cases e : l[i]? with
  | none => rw [e] at h; cases h
  | some p => rw [e] at h; cases h; exact ⟨p.2, rfl, rfl⟩
theorem ik_val : ∀ (l : List (Str × Int)) (z : Str), sVal (ik l) z = (l.lookup z).map V.int
  | [], z => rfl
  | p :: l, z => by
    show sVal ((p.1, V.int p.2) :: ik l) z = _
    rw [sVal_cons, List.lookup_cons, ik_val l z]
    by_cases e : p.1 = z
    · rw [if_pos e, e, beq_self_eq_true]
      rfl
    · rw [if_neg e, beq_eq_false_iff_ne.mpr (Ne.symm e)]
theorem look_mem : ∀ {l : List (Str × Int)} {z : Str} {k : Int}, l.lookup z = some k → (z, k) ∈ l
  | [], z, k, h => by cases h
  | p :: l, z, k, h => by
    rw [List.lookup_cons] at h
    cases e : z == p.1 with
    | true => rw [e] at h; cases h; rw [eq_of_beq e]; exact List.mem_cons_self ..
    | false => rw [e] at h; exact List.mem_cons_of_mem _ (look_mem h)
theorem look_of : ∀ {l : List (Str × Int)} {z : Str} {k : Int}, (l.map (·.1)).Nodup → (z, k) ∈ l → l.lookup z = some k
  | [], z, k, _, h => by simp at h
  | p :: l, z, k, hn, h => by
    have hn : (p.1 :: l.map (·.1)).Nodup := hn
    obtain ⟨n1, n2⟩ := List.nodup_cons.mp hn
    rw [List.lookup_cons]
    rcases List.mem_cons.mp h with e | h
    · rw [← e, beq_self_eq_true]
    · have hne : z ≠ p.1 := fun e => n1 (by rw [← e]; exact List.mem_map.mpr ⟨_, h, rfl⟩)
      rw [beq_eq_false_iff_ne.mpr hne]
      exact look_of n2 h
theorem look_none {l : List (Str × Int)} {z : Str} : l.lookup z = none ↔ z ∉ l.map (·.1) := by
  rw [← ik_keys, ← sVal_none, ik_val]
  cases l.lookup z <;> simp
def iput (l : List (Str × Int)) (z : Str) (n : Int) : List (Str × Int) := if (l.lookup z).isSome = true then l.map (fun p => if p.1 = z then (p.1, n) else p) else l ++ [(z, n)]
theorem ik_put (l : List (Str × Int)) (z : Str) (n : Int) : sPut (ik l) z (.int n) = ik (iput l z n) := by
  unfold sPut iput
  rw [ik_val, Option.isSome_map]
  by_cases h : (l.lookup z).isSome = true
  · rw [if_pos h, if_pos h]
    unfold ik
    rw [List.map_map, List.map_map]
    refine List.map_congr_left fun p _ => ?_
    show (if p.1 = z then (p.1, V.int n) else (p.1, V.int p.2)) = ((fun p : Str × Int => (p.1, V.int p.2)) (if p.1 = z then (p.1, n) else p))
    by_cases e : p.1 = z
    · rw [if_pos e, if_pos e]
    · rw [if_neg e, if_neg e]
  · rw [if_neg h, if_neg h]
    unfold ik
    rw [List.map_append]
    rfl
theorem iput_look (l : List (Str × Int)) (z y : Str) (n : Int) : (iput l z n).lookup y = if y = z then some n else l.lookup y := by
  have h := sVal_put (ik l) z y (.int n)
  rw [ik_put, ik_val, ik_val] at h
  by_cases e : y = z
  · rw [if_pos e] at h ⊢
    cases q : (iput l z n).lookup y with
    | none => rw [q] at h; cases h
    | some k => rw [q] at h; cases h; rfl
  · rw [if_neg e] at h ⊢
    cases q : (iput l z n).lookup y with
    | none =>
      cases q2 : l.lookup y with
      | none => rfl
      | some k => rw [q, q2] at h; cases h
    | some k =>
      cases q2 : l.lookup y with
      | none => rw [q, q2] at h; cases h
      | some k2 => rw [q, q2] at h; cases h; rfl
theorem iput_nodup {l : List (Str × Int)} (z : Str) (n : Int) (h : (l.map (·.1)).Nodup) : ((iput l z n).map (·.1)).Nodup := by
  rw [← ik_keys, ← ik_put]
  exact sPut_nodup z _ (by rw [ik_keys]; exact h)
theorem iput_len (l : List (Str × Int)) (z : Str) (n : Int) : (iput l z n).length ≤ l.length + 1 := by
  have h := sPut_len (ik l) z (.int n)
  rw [ik_put, ik_len, ik_len] at h
  exact h
theorem iput_mem {l : List (Str × Int)} {z : Str} {n : Int} {p : Str × Int} (h : p ∈ iput l z n) : p ∈ l ∨ p = (z, n) := by
  unfold iput at h
  by_cases e : (l.lookup z).isSome = true
  · rw [if_pos e] at h
    obtain ⟨q, hq, rfl⟩ := List.mem_map.mp h
    by_cases e : q.1 = z
    · rw [if_pos e]; exact .inr (by rw [e])
    · rw [if_neg e]; exact .inl hq
  · rw [if_neg e] at h
    rcases List.mem_append.mp h with h | h
    · exact .inl h
    · exact .inr (List.mem_singleton.mp h)
def nz (l : List (Str × Int)) : List (Str × Int) := l.filter fun p => decide (p.2 ≠ 0)
theorem nz_sub (l : List (Str × Int)) : (nz l).Sublist l := List.filter_sublist ..
theorem nz_keys_nodup {l : List (Str × Int)} (h : (l.map (·.1)).Nodup) : ((nz l).map (·.1)).Nodup := h.sublist ((nz_sub l).map _)
theorem nz_ok (l : List (Str × Int)) : ∀ p ∈ nz l, p.2 ≠ 0 := fun p hp => of_decide_eq_true (List.mem_filter.mp hp).2
theorem nz_id {l : List (Str × Int)} (h : ∀ p ∈ l, p.2 ≠ 0) : nz l = l := List.filter_eq_self.mpr fun p hp => decide_eq_true (h p hp)
theorem nz_look {l : List (Str × Int)} (h : (l.map (·.1)).Nodup) (z : Str) : ((nz l).lookup z).getD 0 = (l.lookup z).getD 0 := by
  cases e : (nz l).lookup z with
  | some k =>
    rw [look_of h ((nz_sub l).mem (look_mem e))]
  | none =>
    cases e2 : l.lookup z with
    | none => rfl
    | some k =>
      by_cases hk : k = 0
      · rw [hk]; rfl
      · have m : (z, k) ∈ nz l := List.mem_filter.mpr ⟨look_mem e2, decide_eq_true hk⟩
        rw [look_of (nz_keys_nodup h) m] at e
        cases e
theorem nz_yes {l : List (Str × Int)} {i : Nat} {z : Str} {k : Int} (h : l[i]? = some (z, k)) (hk : k ≠ 0) : nz (l.take (i + 1)) = nz (l.take i) ++ [(z, k)] := by
  unfold nz
  rw [List.take_add_one, h, List.filter_append]
  congr 1
  show List.filter _ [(z, k)] = _
  rw [List.filter_cons, if_pos (decide_eq_true hk)]
  rfl
theorem nz_no {l : List (Str × Int)} {i : Nat} {z : Str} {k : Int} (h : l[i]? = some (z, k)) (hk : k = 0) : nz (l.take (i + 1)) = nz (l.take i) := by
  unfold nz
  rw [List.take_add_one, h, List.filter_append]
  show _ ++ List.filter _ [(z, k)] = _
  rw [List.filter_cons, if_neg (by simp [hk])]
  exact List.append_nil _
theorem take_fresh {l : List (Str × Int)} (hn : (l.map (·.1)).Nodup) {i : Nat} {z : Str} {k : Int} (h : l[i]? = some (z, k)) : z ∉ (l.take i).map (·.1) := by
  intro m
  rw [List.map_take] at m
  obtain ⟨j, hj, e⟩ := List.mem_iff_getElem.mp m
  rw [List.length_take, List.length_map] at hj
  have e1 : (l.map (·.1))[j]? = some z := by
    rw [List.getElem_take] at e
    rw [← e]
    exact List.getElem?_eq_getElem _
  have e2 : (l.map (·.1))[i]? = some z := by rw [List.getElem?_map, h]; rfl
  have q := nd_ix hn e1 e2
  omega
theorem upd_back {H : Hp} {a D : Addr} {f o u : HO} (n : D ≠ a) (h : H a = some u) : upd (upd (upd H a f) D o) a u = upd H D o := by
  funext b
  by_cases e : b = a
  · rw [e, upd_same, upd_ne n.symm, h]
  · by_cases e2 : b = D
    · rw [e2, upd_ne n, upd_same, upd_same]
    · rw [upd_ne e, upd_ne e2, upd_ne e, upd_ne e2]
/-- pairs of names and ints, strictly rising, those of l that are not 0 -/
structure SortOf (l ps : List (Str × Int)) : Prop where
  rise : Rise (ps.map (·.1))
  mem : ∀ z k, (z, k) ∈ ps ↔ (l.lookup z = some k ∧ k ≠ 0)
theorem SortOf.uniq {l m ps qs : List (Str × Int)} (a : SortOf l ps) (b : SortOf m qs) (h : ∀ z, (l.lookup z).getD 0 = (m.lookup z).getD 0) : ps = qs := by
  have tr : ∀ z k, k ≠ 0 → (l.lookup z = some k ↔ m.lookup z = some k) := fun z k hk => by
    have q := h z
    cases e1 : l.lookup z <;> cases e2 : m.lookup z <;> rw [e1, e2] at q <;> simp at q <;> simp <;> omega
  have mm : ∀ z k, (z, k) ∈ ps ↔ (z, k) ∈ qs := fun z k => by
    rw [a.mem, b.mem]
    exact ⟨fun ⟨u, v⟩ => ⟨(tr z k v).mp u, v⟩, fun ⟨u, v⟩ => ⟨(tr z k v).mpr u, v⟩⟩
  have hk : ps.map (·.1) = qs.map (·.1) := rise_eq a.rise b.rise fun z => by
    constructor
    · intro hz
      obtain ⟨p, hp, e⟩ := List.mem_map.mp hz
      exact List.mem_map.mpr ⟨p, (mm p.1 p.2).mp hp, e⟩
    · intro hz
      obtain ⟨p, hp, e⟩ := List.mem_map.mp hz
      exact List.mem_map.mpr ⟨p, (mm p.1 p.2).mpr hp, e⟩
  have nd : (qs.map (·.1)).Nodup := b.rise.imp fun {x y} h e => by rw [e, lt_irr] at h; cases h
  refine List.ext_getElem? fun i => ?_
  cases e1 : ps[i]? with
  | none =>
    have : qs.length ≤ i := by
      have h1 := List.getElem?_eq_none_iff.mp e1
      have h2 := congrArg List.length hk
      rw [List.length_map, List.length_map] at h2
      omega
    rw [List.getElem?_eq_none_iff.mpr this]
  | some p =>
    have hp : (p.1, p.2) ∈ qs := (mm p.1 p.2).mp (List.mem_of_getElem? e1)
    have hi : i < qs.length := by
      have h1 := (List.getElem?_eq_some_iff.mp e1).1
      have h2 := congrArg List.length hk
      rw [List.length_map, List.length_map] at h2
      omega
    have e2 := List.getElem?_eq_getElem hi
    have e3 : (qs[i]).1 = p.1 := by
      have h1 : (ps.map (·.1))[i]? = some p.1 := by rw [List.getElem?_map, e1]; rfl
      rw [hk, List.getElem?_map, e2] at h1
      exact Option.some.inj h1
    have q1 := look_of nd (List.mem_of_getElem? e2 : (qs[i].1, qs[i].2) ∈ qs)
    have q2 := look_of nd hp
    rw [e3, q2] at q1
    rw [e2]
    exact congrArg some (Prod.ext e3.symm (Option.some.inj q1))
theorem sort_of {l : List (Str × Int)} (hn : (l.map (·.1)).Nodup) {ys : List Str} (hr : Rise ys) (hm : ∀ z, z ∈ ys ↔ z ∈ l.map (·.1)) :
    SortOf l ((ys.filter fun z => decide ((l.lookup z).getD 0 ≠ 0)).map fun z => (z, (l.lookup z).getD 0)) := by
  refine ⟨?_, fun z k => ?_⟩
  · rw [List.map_map]
    have e : ((fun x : Str × Int => x.1) ∘ fun z => (z, (l.lookup z).getD 0)) = id := rfl
    rw [e, List.map_id]
    exact hr.sublist (List.filter_sublist ..)
  · rw [List.mem_map]
    constructor
    · rintro ⟨y, hy, e⟩
      obtain ⟨h1, h2⟩ := List.mem_filter.mp hy
      have h2 := of_decide_eq_true h2
      have e1 : y = z := congrArg Prod.fst e
      have e2 : (l.lookup y).getD 0 = k := congrArg Prod.snd e
      rw [e1] at h2 e2
      cases q : l.lookup z with
      | none => rw [q] at h2; exact (h2 rfl).elim
      | some n => rw [q] at h2 e2; exact ⟨congrArg some e2, by rw [← e2]; exact h2⟩
    · rintro ⟨h1, h2⟩
      refine ⟨z, List.mem_filter.mpr ⟨(hm z).mpr (List.mem_map.mpr ⟨_, look_mem h1, rfl⟩), ?_⟩, by rw [h1]; rfl⟩
      rw [h1]
      exact decide_eq_true h2
end M
namespace M
open PySem PySem.Spec PyProof.Rows L2
section
variable {X : Cx} {K : PySem.W.Frag} {e o : Expr} {es : List Expr} {f : Str} {pos apos cpos : Pos} {ta to : TE} {t : TA} {r : V → List V → Hp → VK → Prop} {T id : String} {name : Str}
theorem fldK (h : X.K = K) (he : PE X e ta) (hb : attributeBase e f X.env (eval e X.env) = eval e X.env) : PE X (.Attribute e f pos) (tFld K ta f) := by
  subst h
  exact pe_fld he hb
theorem ixLK (h : X.K = K) : IxR X (rIxL K) := by subst h; exact ix_list
theorem ixTK (h : X.K = K) : IxR X (rIxT K) := by subst h; exact ix_tup
theorem slLK (h : X.K = K) : SlR X (rSlL K) := by subst h; exact sl_list
theorem slTK (h : X.K = K) : SlR X (rSlT K) := by subst h; exact sl_tup
theorem inK (h : X.K = K) : OpR X (compareOp .In) (rIn K false) := by subst h; exact op_in_seq
theorem ninK (h : X.K = K) : OpR X (compareOp .NotIn) (rIn K true) := by subst h; exact op_notIn_seq
def rLenQ (K : PySem.W.Frag) : List V → Hp → VK → Prop := fun xs H Q => ∃ p ys, xs = [.ref p] ∧ (SqL K H p ys ∨ SqT K H p ys) ∧ Q (.int ys.length) H
theorem lenK (h : X.K = K) : CallR X (.builtin "len") (rLenQ K) := by subst h; exact call_len_seq
def rListQ (K : PySem.W.Frag) : List V → Hp → VK → Prop := fun xs H Q => ∃ p ys, xs = [.ref p] ∧ (SqL K H p ys ∨ SqT K H p ys) ∧ ∀ l, H l = none → Q (.ref l) (upd H l (.lst ys))
theorem listK (h : X.K = K) : CallR X (.type "list") (rListQ K) := by subst h; exact call_list_of
theorem isiK (h : X.K = K) : CallR X (.builtin "isinstance") (rIsi K) := by subst h; exact call_isi
theorem eqDK (h : X.K = K) (hu : X.A.units + 64 < cLine) : OpR X (compareOp .Eq) (rEqD K) := by subst h; exact op_eqD hu
theorem neDK (h : X.K = K) (hu : X.A.units + 64 < cLine) : OpR X (compareOp .NotEq) (rNeD K) := by subst h; exact op_neD hu
theorem sumK (h : X.K = K) (hc : X.calm = true) : CallR X (.builtin "sum") (rSum K) := by subst h; exact cr_sum hc
theorem allK (h : X.K = K) (hc : X.calm = true) : CallR X (.builtin "all") (rAll K) := by subst h; exact cr_all hc
theorem anyK (h : X.K = K) (hc : X.calm = true) : CallR X (.builtin "any") (rAny K) := by subst h; exact cr_any hc
theorem sortSK (h : X.K = K) : CallR X (.builtin "sorted") (rSortedS K) := by subst h; exact cr_sortedS
theorem piL (h : X.K = K) {tg l : Expr} {tl : TE} (hl : PE X l tl) : PI X tg l (iList K tl) := by subst h; exact pi_list hl
theorem piT (h : X.K = K) {tg l : Expr} {tl : TE} (hl : PE X l tl) : PI X tg l (iTup K tl) := by subst h; exact pi_tup hl
end
end M
namespace M
open PySem PySem.Spec PyProof.Rows L2
def Nb (n : Nat) (x : Int) : Prop := x.natAbs < 2 ^ n
theorem Nb.mono {a b : Nat} {x : Int} (h : Nb a x) (e : a ≤ b) : Nb b x := Nat.lt_of_lt_of_le h (Nat.pow_le_pow_right (by decide) e)
theorem Nb.add {a b : Nat} {x y : Int} (h1 : Nb a x) (h2 : Nb b y) : Nb (max a b + 1) (x + y) := by
  have p1 := h1.mono (Nat.le_max_left a b)
  have p2 := h2.mono (Nat.le_max_right a b)
  unfold Nb at *
  rw [Nat.pow_succ]
  omega
theorem Nb.sub {a b : Nat} {x y : Int} (h1 : Nb a x) (h2 : Nb b y) : Nb (max a b + 1) (x - y) := by
  have p1 := h1.mono (Nat.le_max_left a b)
  have p2 := h2.mono (Nat.le_max_right a b)
  unfold Nb at *
  rw [Nat.pow_succ]
  omega
theorem Nb.mul {a b : Nat} {x y : Int} (h1 : Nb a x) (h2 : Nb b y) : Nb (a + b) (x * y) := wide_lt h1 h2
theorem Nb.pow2 {a : Nat} {x : Int} (h : Nb a x) : Nb (a + a) (x ^ (2 : Int).toNat) := by
  show Nb (a + a) (x ^ 2)
  rw [show x ^ 2 = x * x by rw [Int.pow_succ, Int.pow_succ, Int.pow_zero, Int.one_mul]]
  exact h.mul h
theorem Nb.mod {b : Nat} {x j : Int} (h0 : 0 < j) (h : Nb b j) : Nb b (x.fmod j) ∧ 0 ≤ x.fmod j := by
  have h1 := Int.fmod_nonneg_of_pos x h0
  have h2 := Int.fmod_lt_of_pos x h0
  unfold Nb at *
  exact ⟨by omega, h1⟩
theorem Nb.div {a : Nat} {x j : Int} (h : Nb a x) (hx : 0 ≤ x) (hj : 0 < j) : Nb a (x / j) ∧ 0 ≤ x / j := by
  have h1 : 0 ≤ x / j := Int.ediv_nonneg hx (Int.le_of_lt hj)
  have h2 : x / j ≤ x := Int.ediv_le_self j hx
  unfold Nb at *
  exact ⟨by omega, h1⟩
theorem Nb.cmul {a b : Nat} {x y : Int} (h1 : Nb a x) (h2 : Nb b y) (h : a + b ≤ 134217728) : CMulX x y := mulx_ok h1 h2 h
theorem Nb.cpow {a : Nat} {x : Int} (h : Nb a x) (ha : a ≤ 1000000) : CPowX x 2 := by
  have b := PyProof.Rows.intBits_le h
  refine ⟨by decide, ?_⟩
  omega
theorem Nb.cdiv {x j : Int} {b : Nat} (h0 : 0 < j) (h : Nb b j) (hb : 0 < b) (h9 : b ≤ 9000) : CDivW x j := wide_div h0 h hb h9
/-- x = e, of whose value C is known -/
theorem cut_int {te : TE} {rest : TS} {D : Ends} {σ : L2.St} {H : Hp} {i : Nat} (C : Int → Prop) (h : ∀ Q : VK, (∀ n, C n → Q (.int n) H) → te σ H Q) (k : ∀ n, C n → rest D (σ.set i (some (.int n))) H) : tSeq (tAsg te (gName i)) rest D σ H := h _ fun n c => k n c

/-- one to eight letters -/
def IsName (z : Str) : Prop := 1 ≤ z.length ∧ z.length ≤ 8 ∧ ∀ c ∈ cs z, 97 ≤ c ∧ c ≤ 122
theorem cs_len (z : Str) : (cs z).length = z.length := Array.length_toList ..
theorem cs_app (a b : Str) : cs (a ++ b) = cs a ++ cs b := by
  show (a.cps ++ b.cps).toList = _
  rw [Array.toList_append]
  rfl
theorem cs_cut (z : Str) (lo hi : Option Int) : cs (cutS z lo hi) = ((cs z).drop (HT.sIx z.length 0 lo)).take (HT.sIx z.length z.length hi - HT.sIx z.length 0 lo) := rfl
theorem cut_mem {z : Str} {lo hi : Option Int} {c : Nat} (h : c ∈ cs (cutS z lo hi)) : c ∈ cs z := by
  rw [cs_cut] at h
  exact List.mem_of_mem_drop (List.mem_of_mem_take h)
theorem join_cs : ∀ (ys : List Str), cs (Txt.join Str.empty ys) = (ys.map cs).flatten
  | [] => by rw [TL.join_eq]; rfl
  | [y] => by rw [TL.join_eq]; show cs y = _; simp
  | y :: u :: r => by
    have ih := join_cs (u :: r)
    rw [TL.join_eq] at ih ⊢
    show cs (y ++ Str.empty ++ Str.join Str.empty (u :: r)) = cs y ++ ((u :: r).map cs).flatten
    rw [cs_app, cs_app, ih]
    show cs y ++ [] ++ _ = _
    rw [List.append_nil]
theorem flat_len : ∀ (ys : List Str), (∀ y ∈ ys, y.length = 1) → ((ys.map cs).flatten).length = ys.length
  | [], _ => rfl
  | y :: r, h => by
    rw [List.map_cons, List.flatten_cons, List.length_append, cs_len, h y (List.mem_cons_self ..), flat_len r fun u hu => h u (List.mem_cons_of_mem _ hu), List.length_cons]
    omega
end M
namespace M
open L2
theorem nx_go {D : Ends} {σ : L2.St} {H : Hp} (h : D.nx σ H) : tNext D σ H := h
end M
namespace M
open PySem PySem.Spec PyProof.Rows L2
theorem cut_to {z : Str} {k : Nat} : (cutS z none (some (k : Int))).length = min k z.length := by
  rw [← cs_len, cs_cut, HT.sIx_none, HT.sIx_nat, List.length_take, List.length_drop, cs_len]
  omega
theorem cut_last {z : Str} (h : 1 ≤ z.length) : (cutS z none (some (-1))).length = z.length - 1 := by
  rw [← cs_len, cs_cut, HT.sIx_none, List.length_take, List.length_drop, cs_len]
  have e : HT.sIx z.length z.length (some (-1)) = z.length - 1 := by
    show (if (-1 : Int) < 0 then ((-1 : Int) + (z.length : Int)).toNat else min (-1 : Int).toNat z.length) = z.length - 1
    rw [if_pos (by decide)]
    omega
  rw [e]
  omega
theorem str_len_app (a b : Str) : (a ++ b).length = a.length + b.length := Str.length_append a b
theorem IsName.way1 {a b : Str} (ha : IsName a) (hb : IsName b) : IsName (cutS (a ++ b) none (some 8)) := by
  have l := cut_to (z := a ++ b) (k := 8)
  rw [str_len_app] at l
  refine ⟨?_, ?_, fun c hc => ?_⟩
  · show 1 ≤ (cutS (a ++ b) none (some ((8 : Nat) : Int))).length
    rw [l]
    have := ha.1
    omega
  · show (cutS (a ++ b) none (some ((8 : Nat) : Int))).length ≤ 8
    rw [l]
    omega
  · have h := cut_mem hc
    rw [cs_app] at h
    rcases List.mem_append.mp h with h | h
    · exact ha.2.2 c h
    · exact hb.2.2 c h
theorem IsName.way2 {a : Str} (ha : IsName a) {k : Nat} (h1 : 1 ≤ k) : IsName (cutS a none (some (k : Int))) := by
  have l := cut_to (z := a) (k := k)
  have := ha.1
  have := ha.2.1
  exact ⟨by omega, by omega, fun c hc => ha.2.2 c (cut_mem hc)⟩
theorem IsName.way3 {a b : Str} (ha : IsName a) (hb : IsName b) : IsName (cutS a none (some (-1)) ++ cutS b none (some 1)) := by
  have l1 := cut_last ha.1
  have l2 : (cutS b none (some ((1 : Nat) : Int))).length = min 1 b.length := cut_to (z := b) (k := 1)
  have h1 := ha.1
  have h2 := ha.2.1
  have h3 := hb.1
  have l : (cutS a none (some (-1)) ++ cutS b none (some 1)).length = (a.length - 1) + min 1 b.length := by
    rw [str_len_app, l1]
    exact congrArg _ l2
  refine ⟨by omega, by omega, fun c hc => ?_⟩
  rw [cs_app] at hc
  rcases List.mem_append.mp hc with h | h
  · exact ha.2.2 c (cut_mem h)
  · exact hb.2.2 c (cut_mem h)
/-- single letters joined -/
theorem IsName.join {ys : List Str} (h1 : 1 ≤ ys.length) (h8 : ys.length ≤ 8) (h : ∀ y ∈ ys, ∃ c, y = ⟨#[c]⟩ ∧ 97 ≤ c ∧ c ≤ 122) : IsName (Txt.join Str.empty ys) := by
  have e := join_cs ys
  have l : (Txt.join Str.empty ys).length = ys.length := by
    rw [← cs_len, e]
    exact flat_len ys fun y hy => by obtain ⟨c, rfl, _⟩ := h y hy; rfl
  refine ⟨by omega, by omega, fun c hc => ?_⟩
  rw [e] at hc
  obtain ⟨l, hl, hc⟩ := List.mem_flatten.mp hc
  obtain ⟨y, hy, rfl⟩ := List.mem_map.mp hl
  obtain ⟨d, rfl, h1, h2⟩ := h y hy
  have : c = d := by simpa [cs] using hc
  omega
theorem letter_at {d : Int} (h0 : 0 ≤ d) (h1 : d < 26) : ∃ c, atI (Str.ofString "abcdefghijklmnopqrstuvwxyz").cps.toList d = some c ∧ 97 ≤ c ∧ c ≤ 122 := by
  have e : (Str.ofString "abcdefghijklmnopqrstuvwxyz").cps.toList = (List.range 26).map (· + 97) := by decide +kernel
  refine ⟨d.toNat + 97, ?_, by omega, by omega⟩
  rw [e]
  have hd : d = (d.toNat : Int) := by omega
  rw [hd]
  refine atI_nat ?_
  rw [List.getElem?_map, List.getElem?_range (by omega)]
  rfl
end M
namespace M
open PySem L2
theorem ones : ∀ {ys : List Str}, (∀ y ∈ ys, y.length = 1) → (ys.map (·.length)).sum = ys.length
  | [], _ => rfl
  | y :: r, h => by
    rw [List.map_cons, List.sum_cons, h y (List.mem_cons_self ..), ones fun u hu => h u (List.mem_cons_of_mem _ hu), List.length_cons]
    omega
end M
namespace M
open PySem L2
/-- signs that there are -/
def Sgn (z : Str) : Prop := ∀ c ∈ cs z, c < 0x110000
theorem IsName.sgn {z : Str} (h : IsName z) : Sgn z := fun c hc => by have := (h.2.2 c hc).2; omega
theorem shaped_pair {z : Str} (h : Sgn z) (n : Int) : SeqAt.shaped (.tuple [.str z, .int n]) = true := by
  have e : (z.cps.all (· < 0x110000)) = true := by
    rw [← Array.all_toList]
    exact List.all_eq_true.mpr fun c hc => decide_eq_true (h c hc)
  unfold SeqAt.shaped
  rw [show (PyData.tuple [.str z, .int n]).canLay0 = ((z.cps.all (· < 0x110000)) && (true && true)) from rfl, e]
  rfl
end M
namespace M
open PySem PySem.Spec PyProof.Rows L2
/-- a def of the text, whatever its defaults are -/
structure Fun2 (K : PySem.W.Frag) (x qual : Str) (st : Stmt) (f : Addr) (fd : FuncData) : Prop where
  ex : ∃ (oc : Value) (od : Option Addr) (dV kV doc pm : Value) (an : Option Addr) (cdv ct : Value) (osl : Array (Option Value)),
    fd = PySem.W.fnOf x qual (defArgs st) (defBody st) (defScope st) dV kV doc pm an cdv ct ∧ K.lookup f = some ⟨oc, od, .func fd, osl⟩ ∧ PySem.W.codeIn K cdv qual = true
section
variable {P : Program} {w : World} {K : PySem.W.Frag} {mg : Str → Option Value} {base : Heap}
theorem Fun2.ok {x qual : Str} {st : Stmt} {f : Addr} {fd : FuncData} {N ps : List Str} {k : Nat} {sp : Sp} (F : Fun2 K x qual st f fd) (S : FnScope N ps (defScope st)) (len : ∀ vs H Q E, sp vs H Q E → vs.length = ps.length)
    (hbody : ∀ (cdv : Value) (A : Around) (outer : List Env) (s : Shared) (H : Hp) (vs : List V) (Q : VK) (E : XK), Room k (A.deeper (envOfC qual (defScope st) s.heap.objs.size f cdv)) → sp vs H Q E →
      ∃ t, PSs (cxOf CX0 P w K mg base N qual (defScope st) f cdv A outer s H E).nox (defBody st) t ∧ t { nx := fun _ H' => Q .non H', rt := Q } (start N vs) H) : FnOk P w K mg base CX0 (k + 1) f fd ps sp := by
  obtain ⟨oc, od, dV, kV, doc, pm, an, cdv, ct, osl, rfl, lk, hcd⟩ := F.ex
  refine fn_of lk hcd S len fun A outer s H vs Q E hr hsp => ?_
  obtain ⟨t, h, q⟩ := hbody cdv A outer s H vs Q E hr hsp
  exact ⟨t, h.nox, q⟩
theorem fun2_mk {x qual : Str} {st : Stmt} {f : Addr} {oc : Value} {od an : Option Addr} {osl : Array (Option Value)} {dV kV doc pm cdv ct : Value} (l : K.lookup f = some ⟨oc, od, .func (PySem.W.fnOf x qual (defArgs st) (defBody st) (defScope st) dV kV doc pm an cdv ct), osl⟩)
    (c : PySem.W.codeIn K cdv qual = true) : Fun2 K x qual st f (PySem.W.fnOf x qual (defArgs st) (defBody st) (defScope st) dV kV doc pm an cdv ct) := ⟨oc, od, dV, kV, doc, pm, an, cdv, ct, osl, rfl, l, c⟩
theorem mkD {x : Str} {f : Addr} {fd : FuncData} {ps : List Str} {k : Nat} {sp : Sp} (F : FnOk P w K mg base CX0 k f fd ps sp) (kp : PySem.W.keepIn K (.ref f) = true) (g : mg x = some (.ref f)) (b : Binds K fd ps []) : DefOk P w K mg base k x ps sp := ⟨f, fd, F, g, kp, b⟩
theorem mkM {m : Str} {C f : Addr} {fd : FuncData} {ps : List Str} {k : Nat} {sp : Sp} (F : FnOk P w K mg base CX0 k f fd ps sp) (a : PySem.W.findIn K (.ref C) m = some (some (.ref f))) (i : PySem.W.isFn K (.ref f) = true) (kp : PySem.W.keepIn K (.ref f) = true) (n : PySem.W.fnIn K f = true) (b : Binds K fd ps []) :
    MethOk P w K mg base C k m ps sp := ⟨f, fd, F, a, i, kp, n, b⟩
/-- a def whose last parameter has a default: both ways it is called -/
theorem dfl_binds {x qual : Str} {st : Stmt} {f T : Addr} {oc tc : Value} {od an td : Option Addr} {osl tsl : Array (Option Value)} {kV doc pm cdv ct d : Value} {n : Nat} {v : V} {ps : List Str} {m : Nat}
    (l : K.lookup f = some ⟨oc, od, .func (PySem.W.fnOf x qual (defArgs st) (defBody st) (defScope st) (.ref T) kV doc pm an cdv ct), osl⟩) (c : PySem.W.codeIn K cdv qual = true) (kp : PySem.W.keepIn K (.ref f) = true)
    (t : K.lookup T = some ⟨tc, td, .seq #[d] n, tsl⟩) (r : RelV v d) (hps : ps.length = m + 1)
    (h1 : ∀ (T : Addr) (kV doc pm : Value) (an : Option Addr) (cdv ct : Value) (us its : List Value), us.length = m + 1 → its.length = 1 → ∃ k, bindArgs (PySem.W.fnOf x qual (defArgs st) (defBody st) (defScope st) (.ref T) kV doc pm an cdv ct) ⟨us, []⟩ = seqItems? (.ref T) >>= k ∧ k (some its.toArray) = pure (ps.zip (us ++ its.drop 1)))
    (h0 : ∀ (T : Addr) (kV doc pm : Value) (an : Option Addr) (cdv ct : Value) (us its : List Value), us.length = m → its.length = 1 → ∃ k, bindArgs (PySem.W.fnOf x qual (defArgs st) (defBody st) (defScope st) (.ref T) kV doc pm an cdv ct) ⟨us, []⟩ = seqItems? (.ref T) >>= k ∧ k (some its.toArray) = pure (ps.zip (us ++ its.drop 0))) :
    Binds K (PySem.W.fnOf x qual (defArgs st) (defBody st) (defScope st) (.ref T) kV doc pm an cdv ct) ps [] ∧ ∃ u, RelV v u ∧ Binds K (PySem.W.fnOf x qual (defArgs st) (defBody st) (defScope st) (.ref T) kV doc pm an cdv ct) ps [u] := by
  have F : FunD K x qual (defArgs st) (defBody st) (defScope st) [v] [] f (PySem.W.fnOf x qual (defArgs st) (defBody st) (defScope st) (.ref T) kV doc pm an cdv ct) :=
    ⟨⟨oc, od, _, kV, doc, pm, an, cdv, ct, osl, rfl, l, c, .inr ⟨by simp, T, _, [d], n, rfl, t, rfl, .cons r .nil⟩, .inl rfl⟩, kp⟩
  refine ⟨?_, ?_⟩
  · obtain ⟨ds, rd, b⟩ := F.binds1 (ps := ps) (m + 1) 1 (by simp) (by simp [hps]) fun T kV doc pm an cdv ct us its hu hi => h1 T kV doc pm an cdv ct us its hu hi
    cases rd
    exact b
  · obtain ⟨ds, rd, b⟩ := F.binds1 (ps := ps) m 0 (by simp) (by simp [hps]) fun T kV doc pm an cdv ct us its hu hi => h0 T kV doc pm an cdv ct us its hu hi
    cases rd with
    | @cons a u as us h t =>
      cases t
      exact ⟨u, h, b⟩
end
end M
namespace T
open PySem PySem.Spec PyProof.Rows L2 M
def topS (i : Nat) : Stmt := PySem.Challenge.pw_sceneskips_k01_notes_by_name.main.body.getD i (.Pass ⟨0, 0, 0, 0⟩)
abbrev s_in_order : Stmt := topS 2
theorem sc_in_order : FnScope ["names", "name"] ["names"] (defScope s_in_order) := ⟨rfl, rfl, rfl, by decide +kernel, rfl, by decide +kernel, by decide +kernel⟩
abbrev s__without_zeros : Stmt := topS 3
theorem sc__without_zeros : FnScope ["values", "name"] ["values"] (defScope s__without_zeros) := ⟨rfl, rfl, rfl, by decide +kernel, rfl, by decide +kernel, by decide +kernel⟩
abbrev s__done : Stmt := topS 4
theorem sc__done : FnScope ["k", "part"] ["k", "part"] (defScope s__done) := ⟨rfl, rfl, rfl, by decide +kernel, rfl, by decide +kernel, by decide +kernel⟩
abbrev s__changed : Stmt := topS 5
theorem sc__changed : FnScope ["values", "parts", "after", "name"] ["values", "parts"] (defScope s__changed) := ⟨rfl, rfl, rfl, by decide +kernel, rfl, by decide +kernel, by decide +kernel⟩
abbrev s__joined : Stmt := topS 6
theorem sc__joined : FnScope ["first", "second"] ["first", "second"] (defScope s__joined) := ⟨rfl, rfl, rfl, by decide +kernel, rfl, by decide +kernel, by decide +kernel⟩
abbrev s_Notes___init__ : Stmt := inClass (topS 7) 0
theorem sc_Notes___init__ : FnScope ["self", "values"] ["self", "values"] (defScope s_Notes___init__) := ⟨rfl, rfl, rfl, by decide +kernel, rfl, by decide +kernel, by decide +kernel⟩
abbrev s_Notes___getitem__ : Stmt := inClass (topS 7) 1
theorem sc_Notes___getitem__ : FnScope ["self", "at"] ["self", "at"] (defScope s_Notes___getitem__) := ⟨rfl, rfl, rfl, by decide +kernel, rfl, by decide +kernel, by decide +kernel⟩
abbrev s_Notes___setitem__ : Stmt := inClass (topS 7) 2
theorem sc_Notes___setitem__ : FnScope ["self", "at", "worth"] ["self", "at", "worth"] (defScope s_Notes___setitem__) := ⟨rfl, rfl, rfl, by decide +kernel, rfl, by decide +kernel, by decide +kernel⟩
abbrev s_Notes___iter__ : Stmt := inClass (topS 7) 3
theorem sc_Notes___iter__ : FnScope ["self"] ["self"] (defScope s_Notes___iter__) := ⟨rfl, rfl, rfl, by decide +kernel, rfl, by decide +kernel, by decide +kernel⟩
abbrev s_Notes___contains__ : Stmt := inClass (topS 7) 4
theorem sc_Notes___contains__ : FnScope ["self", "x"] ["self", "x"] (defScope s_Notes___contains__) := ⟨rfl, rfl, rfl, by decide +kernel, rfl, by decide +kernel, by decide +kernel⟩
abbrev s_Notes___len__ : Stmt := inClass (topS 7) 5
theorem sc_Notes___len__ : FnScope ["self"] ["self"] (defScope s_Notes___len__) := ⟨rfl, rfl, rfl, by decide +kernel, rfl, by decide +kernel, by decide +kernel⟩
abbrev s_Notes_pairs : Stmt := inClass (topS 7) 6
theorem sc_Notes_pairs : FnScope ["self", "name"] ["self"] (defScope s_Notes_pairs) := ⟨rfl, rfl, rfl, by decide +kernel, rfl, by decide +kernel, by decide +kernel⟩
abbrev s_Notes___add__ : Stmt := inClass (topS 7) 7
theorem sc_Notes___add__ : FnScope ["self", "other"] ["self", "other"] (defScope s_Notes___add__) := ⟨rfl, rfl, rfl, by decide +kernel, rfl, by decide +kernel, by decide +kernel⟩
abbrev s_Notes___iadd__ : Stmt := inClass (topS 7) 8
theorem sc_Notes___iadd__ : FnScope ["self", "other"] ["self", "other"] (defScope s_Notes___iadd__) := ⟨rfl, rfl, rfl, by decide +kernel, rfl, by decide +kernel, by decide +kernel⟩
abbrev s_Notes___eq__ : Stmt := inClass (topS 7) 9
theorem sc_Notes___eq__ : FnScope ["self", "other"] ["self", "other"] (defScope s_Notes___eq__) := ⟨rfl, rfl, rfl, by decide +kernel, rfl, by decide +kernel, by decide +kernel⟩
abbrev s_Notes___lt__ : Stmt := inClass (topS 7) 10
theorem sc_Notes___lt__ : FnScope ["self", "other"] ["self", "other"] (defScope s_Notes___lt__) := ⟨rfl, rfl, rfl, by decide +kernel, rfl, by decide +kernel, by decide +kernel⟩
abbrev s_Notes___le__ : Stmt := inClass (topS 7) 11
theorem sc_Notes___le__ : FnScope ["self", "other"] ["self", "other"] (defScope s_Notes___le__) := ⟨rfl, rfl, rfl, by decide +kernel, rfl, by decide +kernel, by decide +kernel⟩
abbrev s_Notes___gt__ : Stmt := inClass (topS 7) 12
theorem sc_Notes___gt__ : FnScope ["self", "other"] ["self", "other"] (defScope s_Notes___gt__) := ⟨rfl, rfl, rfl, by decide +kernel, rfl, by decide +kernel, by decide +kernel⟩
abbrev s_Notes___ge__ : Stmt := inClass (topS 7) 13
theorem sc_Notes___ge__ : FnScope ["self", "other"] ["self", "other"] (defScope s_Notes___ge__) := ⟨rfl, rfl, rfl, by decide +kernel, rfl, by decide +kernel, by decide +kernel⟩
abbrev s_Notes__place : Stmt := inClass (topS 7) 14
theorem sc_Notes__place : FnScope ["self", "k", "place", "name", "letter"] ["self"] (defScope s_Notes__place) := ⟨rfl, rfl, rfl, by decide +kernel, rfl, by decide +kernel, by decide +kernel⟩
abbrev s_Change___init__ : Stmt := inClass (topS 8) 0
theorem sc_Change___init__ : FnScope ["self", "parts", "given", "name"] ["self", "parts"] (defScope s_Change___init__) := ⟨rfl, rfl, rfl, by decide +kernel, rfl, by decide +kernel, by decide +kernel⟩
abbrev s_Change_parts : Stmt := inClass (topS 8) 1
theorem sc_Change_parts : FnScope ["self", "name"] ["self"] (defScope s_Change_parts) := ⟨rfl, rfl, rfl, by decide +kernel, rfl, by decide +kernel, by decide +kernel⟩
abbrev s_Change___len__ : Stmt := inClass (topS 8) 2
theorem sc_Change___len__ : FnScope ["self"] ["self"] (defScope s_Change___len__) := ⟨rfl, rfl, rfl, by decide +kernel, rfl, by decide +kernel, by decide +kernel⟩
abbrev s_Change___rshift__ : Stmt := inClass (topS 8) 3
theorem sc_Change___rshift__ : FnScope ["self", "other", "parts", "name"] ["self", "other"] (defScope s_Change___rshift__) := ⟨rfl, rfl, rfl, by decide +kernel, rfl, by decide +kernel, by decide +kernel⟩
abbrev s_Change___call__ : Stmt := inClass (topS 8) 4
theorem sc_Change___call__ : FnScope ["self", "notes"] ["self", "notes"] (defScope s_Change___call__) := ⟨rfl, rfl, rfl, by decide +kernel, rfl, by decide +kernel, by decide +kernel⟩
abbrev s_Change___eq__ : Stmt := inClass (topS 8) 5
theorem sc_Change___eq__ : FnScope ["self", "other"] ["self", "other"] (defScope s_Change___eq__) := ⟨rfl, rfl, rfl, by decide +kernel, rfl, by decide +kernel, by decide +kernel⟩
abbrev s__law_cell : Stmt := topS 10
theorem sc__law_cell : FnScope ["script", "k"] ["script", "k"] (defScope s__law_cell) := ⟨rfl, rfl, rfl, by decide +kernel, rfl, by decide +kernel, by decide +kernel⟩
abbrev s__law_pool : Stmt := topS 11
theorem sc__law_pool : FnScope ["cell", "seed", "one", "two", "three", "four"] ["cell"] (defScope s__law_pool) := ⟨rfl, rfl, rfl, by decide +kernel, rfl, by decide +kernel, by decide +kernel⟩
abbrev s__law_draw : Stmt := topS 12
theorem sc__law_draw : FnScope ["pool", "many", "drawn"] ["pool", "many"] (defScope s__law_draw) := ⟨rfl, rfl, rfl, by decide +kernel, rfl, by decide +kernel, by decide +kernel⟩
abbrev s__law_names : Stmt := topS 13
theorem sc__law_names : FnScope ["pool", "many", "names", "k", "way", "size", "name", "j"] ["pool", "many"] (defScope s__law_names) := ⟨rfl, rfl, rfl, by decide +kernel, rfl, by decide +kernel, by decide +kernel⟩
abbrev s__law_integer : Stmt := topS 14
theorem sc__law_integer : FnScope ["pool", "way", "sign"] ["pool"] (defScope s__law_integer) := ⟨rfl, rfl, rfl, by decide +kernel, rfl, by decide +kernel, by decide +kernel⟩
abbrev s__law_is_integer : Stmt := topS 15
theorem sc__law_is_integer : FnScope ["found"] ["found"] (defScope s__law_is_integer) := ⟨rfl, rfl, rfl, by decide +kernel, rfl, by decide +kernel, by decide +kernel⟩
abbrev s__law_pairs : Stmt := topS 16
theorem sc__law_pairs : FnScope ["values", "name", "n"] ["values"] (defScope s__law_pairs) := ⟨rfl, rfl, rfl, by decide +kernel, rfl, by decide +kernel, by decide +kernel⟩
abbrev s__law_same_pairs : Stmt := topS 17
theorem sc__law_same_pairs : FnScope ["found", "due", "k", "pair"] ["found", "due"] (defScope s__law_same_pairs) := ⟨rfl, rfl, rfl, by decide +kernel, rfl, by decide +kernel, by decide +kernel⟩
abbrev s__law_right : Stmt := topS 18
theorem sc__law_right : FnScope ["notes", "values", "names", "due", "name", "found"] ["notes", "values", "names"] (defScope s__law_right) := ⟨rfl, rfl, rfl, by decide +kernel, rfl, by decide +kernel, by decide +kernel⟩
abbrev s_law : Stmt := topS 19
theorem sc_law : FnScope ["script", "pool", "many", "nothing", "names", "first", "k", "at", "passed", "notes", "second", "other", "cell", "which", "name"] ["script"] (defScope s_law) := ⟨rfl, rfl, rfl, by decide +kernel, rfl, by decide +kernel, by decide +kernel⟩
structure Txt (K : PySem.W.Frag) (mg : Str → Option Value) (CN : Addr) : Prop where
  z_sorted : mg "sorted" = none
  z_str : mg "str" = none
  z_int : mg "int" = none
  z_len : mg "len" = none
  z_range : mg "range" = none
  z_dict : mg "dict" = none
  z_bool : mg "bool" = none
  z_list : mg "list" = none
  z_tuple : mg "tuple" = none
  z_isinstance : mg "isinstance" = none
  c_Notes : Cls K CN
  nV : NoAttr K CN "_values"
  q_Notes : PySem.W.noSeq K CN = true
section
variable {P : Program} {w : World} {K : PySem.W.Frag} {mg : Str → Option Value} {base : Heap} {CN : Addr}
def spInOrder (K : PySem.W.Frag) : Sp := fun vs H Q _ => ∃ (a : Addr) (l : List (Str × V)), vs = [.ref a] ∧ H a = some (.dK (sk l)) ∧ l.length < 64 ∧ (l.map (·.1)).Nodup ∧
  ∀ p H' ys, H p = none → Same H H' → Rise ys → (∀ z, z ∈ ys ↔ z ∈ l.map (·.1)) → ys.length = l.length → H' p = some (.lst (ys.map V.str)) → Q (.ref p) H'
theorem ok_in_order {f : Addr} {fd : FuncData} {k : Nat} (F : Fun2 K "in_order" "in_order" s_in_order f fd) (T : Txt K mg CN) : FnOk P w K mg base CX0 (k + 1) f fd ["names"] (spInOrder K) := by
  refine F.ok sc_in_order (fun vs H Q E h => ?_) (fun cdv A outer s H vs Q E hr h => ?_)
  · obtain ⟨a, l, rfl, _⟩ := h
    rfl
  · obtain ⟨a, l, rfl, ha, hl, hn, q⟩ := h
    refine ⟨_, (pss_one (ps_ret (pe_callB (sortSK (K := K) rfl) (by rfl) T.z_sorted (by decide +kernel) (pa_cons (pe_lock (pe_lc (own := [("name", 1)]) (g := gName 1) (tt := tYes) rfl sc_in_order.nd (pi_keys (pv 0)) (blkOk_by (own := [("name", 1)]) (N := ["names", "name"]) (sc := defScope s_in_order) (by decide +kernel)) (fun _ _ _ _ _ => pg_name (i := 1) sc_in_order.nd rfl (Or.inl rfl)) (fun _ _ _ _ _ => pts_nil) (fun _ _ _ _ _ => (pe_callTy SkE.call_str_str (by rfl) T.z_str (by decide +kernel) (pa_cons (pv 1) pa_nil))))) pa_nil)))), ?_⟩
    refine ⟨a, .dK (sk l), ha, True.intro, fun od => ?_⟩
    refine ⟨.ref a, rfl, a, od, rfl, .inl ⟨sk l, upd_same, fun D nD => ?_⟩⟩
    have nDa : D ≠ a := fun e => by rw [e, upd_same] at nD; cases nD
    have nH : H D = none := by rw [upd_ne nDa] at nD; exact nD
    refine lc_keys (fun i H' => H' = upd (upd H a (.frz od (.dK (sk l)))) D (.lst ((l.take i).map fun p => V.str p.1))) rfl (fun i H' _ e => by rw [e, upd_ne nDa.symm, upd_same]) (fun i k v H' hk e => ?_) (fun H' e => ?_)
    · obtain ⟨z, rfl, hz⟩ := sk_get hk
      have hlt : i < l.length := (List.getElem?_eq_some_iff.mp hz).1
      subst e
      refine ⟨rfl, _, rfl, _, rfl, _, upd_same, ?_, ?_⟩
      · rw [List.length_map, List.length_take]
        exact Nat.lt_of_le_of_lt (Nat.min_le_right ..) (small1000 (by omega))
      · rw [upd_upd, List.take_add_one, hz, List.map_append]
        rfl
    · subst e
      rw [sk_len, List.take_length]
      refine ⟨by rw [upd_ne nDa.symm, upd_same], ?_⟩
      have hD : (upd (upd (upd H a (.frz od (.dK (sk l)))) D (.lst (l.map fun p => V.str p.1))) a (.dK (sk l))) D = some (.lst ((l.map (·.1)).map V.str)) := by
        rw [upd_ne nDa, upd_same, List.map_map]
        rfl
      refine ⟨D, l.map (·.1), rfl, .inl (.inl hD), by rw [List.length_map]; exact hl, fun ys p hp hs np => ?_⟩
      refine q p _ ys ?_ ?_ (rise_of ys hs (hp.nodup_iff.mpr hn)) (fun z => hp.mem_iff) (by rw [hp.length_eq, List.length_map]) upd_same
      · have n1 : p ≠ a := fun e => by rw [e, upd_same] at np; cases np
        have n2 : p ≠ D := fun e => by rw [e, upd_ne nDa, upd_same] at np; cases np
        rw [upd_ne n1, upd_ne n2, upd_ne n1] at np
        exact np
      · intro b o e
        rw [upd_ne (ne_of_none (o := o) (by
          by_cases hb : b = a
          · subst hb; rw [upd_same, ← e, ha]
          · rw [upd_ne hb, upd_ne (ne_of_none e nH), upd_ne hb]; exact e) np)]
        by_cases hb : b = a
        · subst hb; rw [upd_same, ← e, ha]
        · rw [upd_ne hb, upd_ne (ne_of_none e nH), upd_ne hb]; exact e

def spWz : Sp := fun vs H Q _ => ∃ (a : Addr) (l : List (Str × Int)), vs = [.ref a] ∧ H a = some (.dK (sk (ik l))) ∧ l.length ≤ 1000 ∧ (l.map (·.1)).Nodup ∧ ∀ p, H p = none → Q (.ref p) (upd H p (.dK (sk (ik (nz l)))))
theorem ok_wz {f : Addr} {fd : FuncData} {k : Nat} (F : Fun2 K "_without_zeros" "_without_zeros" s__without_zeros f fd) (T : Txt K mg CN) : FnOk P w K mg base CX0 (k + 1) f fd ["values"] spWz := by
  refine F.ok sc__without_zeros (fun vs H Q E h => ?_) (fun cdv A outer s H vs Q E hr h => ?_)
  · obtain ⟨a, l, rfl, _⟩ := h
    rfl
  · obtain ⟨a, l, rfl, ha, hl, hn, q⟩ := h
    refine ⟨_, (pss_one (ps_ret (pe_lock (pe_dc (own := [("name", 1)]) (g := gName 1) rfl sc__without_zeros.nd (pi_keys (pv 0)) (blkOk_by (own := [("name", 1)]) (N := ["values", "name"]) (sc := defScope s__without_zeros) (by decide +kernel)) (fun _ _ _ _ _ => pg_name (i := 1) sc__without_zeros.nd rfl (Or.inl rfl)) (fun _ _ _ _ _ => pts_one (pt_cmpR op_ne (pe_dget (hu_of hr) (pv 0) (pv 1) (fun _ _ => rfl)) pe_int (nomark _))) (fun _ _ _ _ _ => (pv 1)) (fun _ _ _ _ _ => (pe_dget (hu_of hr) (pv 0) (pv 1) (fun _ _ => rfl))))))), ?_⟩
    refine ⟨a, .dK (sk (ik l)), ha, True.intro, fun od => ?_⟩
    refine ⟨.ref a, rfl, a, od, rfl, .inl ⟨sk (ik l), upd_same, fun D nD => ?_⟩⟩
    have nDa : D ≠ a := fun e => by rw [e, upd_same] at nD; cases nD
    have nH : H D = none := by rw [upd_ne nDa] at nD; exact nD
    refine dc_keys (fun i H' => H' = upd (upd H a (.frz od (.dK (sk (ik l))))) D (.dK (sk (ik (nz (l.take i)))))) rfl (fun i H' _ e => by rw [e, upd_ne nDa.symm, upd_same]) (fun i k v H' hk e => ?_) (fun H' e => ?_)
    · obtain ⟨z, rfl, hy⟩ := sk_get hk
      obtain ⟨n, rfl, hz⟩ := ik_get hy
      have hlt : i < l.length := (List.getElem?_eq_some_iff.mp hz).1
      subst e
      have hd : Rd (upd (upd H a (.frz od (.dK (sk (ik l))))) D (.dK (sk (ik (nz (l.take i)))))) a (.dK (sk (ik l))) := .inr ⟨od, by rw [upd_ne nDa.symm, upd_same]⟩
      have hv : sVal (ik l) z = some (.int n) := sVal_at (by rw [ik_keys]; exact hn) hy
      have hg := dget_s z hd
      rw [hv] at hg
      refine ⟨rfl, _, rfl, _, rfl, a, _, rfl, hg, rfl, _, rfl, ite2 (fun c => ?_) (fun c => ?_)⟩
      · have c : n ≠ 0 := fun e => by rw [e] at c; exact absurd c (by decide)
        refine ⟨_, rfl, _, rfl, _, rfl, a, _, rfl, hg, sk (ik (nz (l.take i))), Sum.inr z, rfl, upd_same, ?_, ?_⟩
        · rw [sk_len, ik_len]
          exact Nat.lt_of_le_of_lt (nz_sub _).length_le (small1000 (by rw [List.length_take]; omega))
        · rw [upd_upd, sk_put, nz_yes hz c, sPut_new]
          · unfold ik
            rw [List.map_append]
            rfl
          · rw [ik_keys]
            exact fun m => take_fresh hn hz (((nz_sub _).map _).mem m)
      · have c : n = 0 := by
          by_cases e : n = 0
          · exact e
          · exact (c (by rw [decide_eq_false (fun q => e (V.int.inj q))]; rfl)).elim
        rw [nz_no hz c]
    · subst e
      rw [sk_len, ik_len, List.take_length]
      refine ⟨by rw [upd_ne nDa.symm, upd_same], ?_⟩
      rw [upd_back nDa ha]
      exact q D nH

theorem lkV (v : V) : ([(("_values" : Str), v)]).lookup ("_values" : Str) = some v := by
  rw [List.lookup_cons, beq_self_eq_true]
/-- notes at x, their dict at d, what it holds -/
def NoteAt (CN : Addr) (H : Hp) (x d : Addr) (l : List (Str × Int)) : Prop := (∃ dx, H x = some (.ins CN dx [("_values", .ref d)])) ∧ H d = some (.dK (sk (ik l))) ∧ (l.map (·.1)).Nodup ∧ (∀ p ∈ l, p.2 ≠ 0) ∧ l.length ≤ 60
theorem NoteAt.keep {H H' : Hp} {x d : Addr} {l : List (Str × Int)} {S : List Addr} (h : NoteAt CN H x d l) (c : Chg S H H') (n1 : x ∉ S) (n2 : d ∉ S) : NoteAt CN H' x d l := by
  obtain ⟨⟨dx, hx⟩, hd, r⟩ := h
  exact ⟨⟨dx, c _ _ n1 hx⟩, c _ _ n2 hd, r⟩
theorem NoteAt.ne {H : Hp} {x d : Addr} {l : List (Str × Int)} (h : NoteAt CN H x d l) : x ≠ d := by
  obtain ⟨⟨dx, hx⟩, hd, r⟩ := h
  exact ne_of hx hd (by intro z; cases z)
def spInit (CN : Addr) : Sp := fun vs H Q _ => ∃ (x dx : Addr) (y : V) (l : List (Str × Int)), vs = [.ref x, y] ∧ H x = some (.ins CN dx []) ∧ ((y = .non ∧ l = []) ∨ ∃ a, y = .ref a ∧ H a = some (.dK (sk (ik l)))) ∧ l.length ≤ 60 ∧ (l.map (·.1)).Nodup ∧
  ∀ D H', H D = none → Chg [x] H H' → NoteAt CN H' x D (nz l) → Q .non H'
theorem ok_init {f : Addr} {fd : FuncData} {k : Nat} (F : Fun2 K "__init__" "Notes.__init__" s_Notes___init__ f fd) (T : Txt K mg CN) (D__without_zeros : DefOk P w K mg base k "_without_zeros" ["values"] spWz) : FnOk P w K mg base CX0 (k + 1) f fd ["self", "values"] (spInit CN) := by
  refine F.ok sc_Notes___init__ (fun vs H Q E h => ?_) (fun cdv A outer s H vs Q E hr h => ?_)
  · obtain ⟨x, dx, y, l, rfl, _⟩ := h
    rfl
  · obtain ⟨x, dx, y, l, rfl, hx, hy, hl, hn, q⟩ := h
    refine ⟨_, (pss_one (ps_fld (pv 0) (pe_callD D__without_zeros (hr.mono (by omega)) (by rfl) (pa_cons (pe_ifExp (pt_cmpR op_isN (pv 1) pe_non (nomark _)) pe_dnewK (pv 1)) pa_nil)) rfl)), ?_⟩
    have go : ∀ (a : Addr) (H1 : Hp), Same H H1 → H1 a = some (.dK (sk (ik l))) → ∀ D, H1 D = none → (fun H2 => ∃ a' C dx' fs, (V.ref x) = .ref a' ∧ H2 a' = some (.ins C dx' fs) ∧ Cls K C ∧ NoAttr K C "_values" ∧ fs.length < 1000 ∧ Q .non (upd H2 a' (.ins C dx' (putF "_values" (.ref D) fs)))) (upd H1 D (.dK (sk (ik (nz l))))) := by
      intro a H1 s1 ha D nD
      have xD : x ≠ D := ne_of_none (s1 _ _ hx) nD
      refine ⟨x, CN, dx, [], rfl, by rw [upd_ne xD]; exact s1 _ _ hx, T.c_Notes, T.nV, by decide, q D _ (s1.free nD) ?_ ⟨⟨dx, upd_same⟩, by rw [upd_ne xD.symm, upd_same], nz_keys_nodup hn, nz_ok l, Nat.le_trans (nz_sub l).length_le hl⟩⟩
      intro b o nb hb
      have bx : b ≠ x := fun e => nb (by rw [e]; exact List.mem_singleton.mpr rfl)
      rw [upd_ne bx, upd_ne (ne_of_none (s1 _ _ hb) nD)]
      exact s1 _ _ hb
    rcases hy with ⟨rfl, rfl⟩ | ⟨a, rfl, ha⟩
    · refine ⟨_, rfl, rfl, _, rfl, fun p np => ?_⟩
      refine ⟨p, [], rfl, upd_same, by decide, List.nodup_nil, fun D nD => ⟨_, rfl, go p _ (same_new np) upd_same D nD⟩⟩
    · refine ⟨_, rfl, rfl, _, rfl, _, rfl, a, l, rfl, ha, Nat.le_trans hl (by decide), hn, fun D nD => ⟨_, rfl, go a H (Same.refl H) ha D nD⟩⟩
def spGet (CN : Addr) : Sp := fun vs H Q _ => ∃ (x d : Addr) (l : List (Str × Int)) (z : Str), vs = [.ref x, .str z] ∧ NoteAt CN H x d l ∧ Q (.int ((l.lookup z).getD 0)) H
theorem ok_get {f : Addr} {fd : FuncData} {k : Nat} (F : Fun2 K "__getitem__" "Notes.__getitem__" s_Notes___getitem__ f fd) (T : Txt K mg CN) : FnOk P w K mg base CX0 (k + 1) f fd ["self", "at"] (spGet CN) := by
  refine F.ok sc_Notes___getitem__ (fun vs H Q E h => ?_) (fun cdv A outer s H vs Q E hr h => ?_)
  · obtain ⟨x, d, l, z, rfl, _⟩ := h
    rfl
  · obtain ⟨x, d, l, z, rfl, ⟨⟨dx, hx⟩, hd, hn, hz, hl⟩, q⟩ := h
    refine ⟨_, (pss_one (ps_ret (pe_dget2 (hu_of hr) (fldK (K := K) rfl (pv 0) (by rfl)) (pv 1) pe_int ⟨by rfl, by rfl, by rfl, by rfl⟩))), ?_⟩
    have e : (sVal (ik l) z).getD (.int 0) = .int ((l.lookup z).getD 0) := by
      rw [ik_val]
      cases l.lookup z <;> rfl
    refine ⟨_, rfl, x, CN, dx, _, _, rfl, hx, T.c_Notes, T.nV, lkV _, d, rfl, .inl ⟨_, .inl hd⟩, _, rfl, _, dget_s z (.inl hd), ?_⟩
    rw [e]
    exact q
def spHas (CN : Addr) : Sp := fun vs H Q _ => ∃ (x d : Addr) (l : List (Str × Int)) (z : Str), vs = [.ref x, .str z] ∧ NoteAt CN H x d l ∧ Q (.bl (decide ((l.lookup z).getD 0 ≠ 0))) H
theorem ok_has {f : Addr} {fd : FuncData} {k : Nat} (F : Fun2 K "__contains__" "Notes.__contains__" s_Notes___contains__ f fd) (T : Txt K mg CN) : FnOk P w K mg base CX0 (k + 1) f fd ["self", "x"] (spHas CN) := by
  refine F.ok sc_Notes___contains__ (fun vs H Q E h => ?_) (fun cdv A outer s H vs Q E hr h => ?_)
  · obtain ⟨x, d, l, z, rfl, _⟩ := h
    rfl
  · obtain ⟨x, d, l, z, rfl, ⟨⟨dx, hx⟩, hd, hn, hz, hl⟩, q⟩ := h
    refine ⟨_, (pss_one (ps_ret (pe_cmp (pc_din (hu_of hr) (pv 1) (fldK (K := K) rfl (pv 0) (by rfl)))))), ?_⟩
    have e : (sVal (ik l) z).isSome = decide ((l.lookup z).getD 0 ≠ 0) := by
      rw [ik_val]
      cases e : l.lookup z with
      | none => rfl
      | some k => exact (decide_eq_true (hz _ (look_mem e))).symm
    refine ⟨_, rfl, _, rfl, x, CN, dx, _, _, rfl, hx, T.c_Notes, T.nV, lkV _, d, _, rfl, dget_s z (.inl hd), ?_⟩
    rw [e]
    exact q
def spLen (CN : Addr) : Sp := fun vs H Q _ => ∃ (x d : Addr) (l : List (Str × Int)), vs = [.ref x] ∧ NoteAt CN H x d l ∧ Q (.int l.length) H
theorem ok_len {f : Addr} {fd : FuncData} {k : Nat} (F : Fun2 K "__len__" "Notes.__len__" s_Notes___len__ f fd) (T : Txt K mg CN) : FnOk P w K mg base CX0 (k + 1) f fd ["self"] (spLen CN) := by
  refine F.ok sc_Notes___len__ (fun vs H Q E h => ?_) (fun cdv A outer s H vs Q E hr h => ?_)
  · obtain ⟨x, d, l, rfl, _⟩ := h
    rfl
  · obtain ⟨x, d, l, rfl, ⟨⟨dx, hx⟩, hd, hn, hz, hl⟩, q⟩ := h
    refine ⟨_, (pss_one (ps_ret (pe_callB call_lenD (by rfl) T.z_len (by decide +kernel) (pa_cons (fldK (K := K) rfl (pv 0) (by rfl)) pa_nil)))), ?_⟩
    refine ⟨_, rfl, x, CN, dx, _, _, rfl, hx, T.c_Notes, T.nV, lkV _, d, _, rfl, hd, ?_⟩
    rw [sk_len, ik_len]
    exact q
def spSet (CN : Addr) : Sp := fun vs H Q _ => ∃ (x d : Addr) (l : List (Str × Int)) (z : Str) (n : Int), vs = [.ref x, .str z, .int n] ∧ NoteAt CN H x d l ∧ l.length < 60 ∧
  ∀ D H', H D = none → Chg [x] H H' → NoteAt CN H' x D (nz (iput l z n)) → Q .non H'
theorem ok_set {f : Addr} {fd : FuncData} {k : Nat} (F : Fun2 K "__setitem__" "Notes.__setitem__" s_Notes___setitem__ f fd) (T : Txt K mg CN) (D__without_zeros : DefOk P w K mg base k "_without_zeros" ["values"] spWz) : FnOk P w K mg base CX0 (k + 1) f fd ["self", "at", "worth"] (spSet CN) := by
  refine F.ok sc_Notes___setitem__ (fun vs H Q E h => ?_) (fun cdv A outer s H vs Q E hr h => ?_)
  · obtain ⟨x, d, l, z, n, rfl, _⟩ := h
    rfl
  · obtain ⟨x, d, l, z, n, rfl, ⟨⟨dx, hx⟩, hd, hn, hz, hl⟩, hl6, q⟩ := h
    refine ⟨_, (pss_one (ps_fld (pv 0) (pe_callD D__without_zeros (hr.mono (by omega)) (by rfl) (pa_cons (pe_dstar (fldK (K := K) rfl (pv 0) (by rfl)) (pv 1) (pv 2)) pa_nil)) rfl)), ?_⟩
    intro p np
    have pd : d ≠ p := ne_of_none hd np
    have px : x ≠ p := ne_of_none hx np
    refine ⟨_, rfl, x, CN, dx, _, _, rfl, by rw [upd_ne px]; exact hx, T.c_Notes, T.nV, lkV _, d, sk (ik l), rfl, pd, .inl (by rw [upd_ne pd]; exact hd), upd_same, fun r nr => ?_⟩
    have rp : r ≠ p := fun e => by rw [e, upd_same] at nr; cases nr
    have nr0 : H r = none := by rw [upd_ne rp] at nr; exact nr
    have hp1 : (upd (upd (upd H p (.dK [])) p (.dK (sk (ik l)))) r (.dK [])) p = some (.dK (sk (ik l))) := by rw [upd_ne rp.symm, upd_same]
    refine ⟨_, rfl, _, rfl, Sum.inr z, rfl, hp1, upd_same, by rw [sk_len, ik_len]; exact small1000 (by omega), ?_⟩
    refine ⟨p, iput l z n, rfl, ?_, Nat.le_trans (iput_len l z n) (by omega), iput_nodup z n hn, fun D nD => ?_⟩
    · rw [upd_same, sk_put, ik_put]
    · have sm : Same H (upd (upd (upd (upd (upd H p (.dK [])) p (.dK (sk (ik l)))) r (.dK [])) r (.dK [(Sum.inr z, .int n)])) p (.dK (putK (sk (ik l)) (Sum.inr z) (.int n)))) :=
        Same.put (Same.put (Same.put (Same.put (same_new np) np) nr0) nr0) np
      have xD : x ≠ D := ne_of_none (sm _ _ hx) nD
      refine ⟨_, rfl, x, CN, dx, [("_values", .ref d)], rfl, by rw [upd_ne xD]; exact sm _ _ hx, T.c_Notes, T.nV, (by show (1 : Nat) < 1000; decide), q D _ (sm.free nD) ?_ ⟨⟨dx, ?_⟩, by rw [upd_ne xD.symm, upd_same], nz_keys_nodup (iput_nodup z n hn), nz_ok _, Nat.le_trans (nz_sub _).length_le (Nat.le_trans (iput_len l z n) (by omega))⟩⟩
      · intro b o nb hb
        have bx : b ≠ x := fun e => nb (by rw [e]; exact List.mem_singleton.mpr rfl)
        rw [upd_ne bx, upd_ne (ne_of_none (sm _ _ hb) nD)]
        exact sm _ _ hb
      · rw [upd_same]
        rfl
def PairsAt (H : Hp) (p : Addr) (ps : List (Str × Int)) : Prop := ∃ qs : List Addr, H p = some (.lst (qs.map V.ref)) ∧ TupsAt H qs (ps.map fun t => [.str t.1, .int t.2])
def spPairs (CN : Addr) : Sp := fun vs H Q _ => ∃ (x d : Addr) (l : List (Str × Int)), vs = [.ref x] ∧ NoteAt CN H x d l ∧ ∀ p H' ps, H p = none → Same H H' → SortOf l ps → ps.length = l.length → PairsAt H' p ps → Q (.ref p) H'
theorem ok_pairs {f : Addr} {fd : FuncData} {k : Nat} (F : Fun2 K "pairs" "Notes.pairs" s_Notes_pairs f fd) (T : Txt K mg CN) (D_in_order : DefOk P w K mg base k "in_order" ["names"] (spInOrder K)) : FnOk P w K mg base CX0 (k + 1) f fd ["self"] (spPairs CN) := by
  refine F.ok sc_Notes_pairs (fun vs H Q E h => ?_) (fun cdv A outer s H vs Q E hr h => ?_)
  · obtain ⟨x, d, l, rfl, _⟩ := h
    rfl
  · obtain ⟨x, d, l, rfl, ⟨⟨dx, hx⟩, hd, hn, hz, hl⟩, q⟩ := h
    refine ⟨_, (pss_one (ps_ret (pe_lc (own := [("name", 1)]) (g := gName 1) (tt := tYes) rfl sc_Notes_pairs.nd (piL (K := K) rfl (pe_callD D_in_order (hr.mono (by omega)) (by rfl) (pa_cons (fldK (K := K) rfl (pv 0) (by rfl)) pa_nil))) (blkOk_by (own := [("name", 1)]) (N := ["self", "name"]) (sc := defScope s_Notes_pairs) (by decide +kernel)) (fun _ _ _ _ _ => pg_name (i := 1) sc_Notes_pairs.nd rfl (Or.inl rfl)) (fun _ _ _ _ _ => pts_nil) (fun _ _ _ _ _ => (pe_tup (pa_cons (pv 1) (pa_cons (pe_dget (hu_of hr) (fldK (K := K) rfl (pv 0) (by rfl)) (pv 1) (fun _ _ => rfl)) pa_nil))))))), ?_⟩
    refine ⟨_, rfl, x, CN, dx, _, _, rfl, hx, T.c_Notes, T.nV, lkV _, d, ik l, rfl, hd, by rw [ik_len]; omega, by rw [ik_keys]; exact hn, fun p H1 ys np s1 hr1 hm hlen hp => ?_⟩
    rw [ik_keys] at hm
    rw [ik_len] at hlen
    have hall : ∀ z, z ∈ ys → ∃ n, l.lookup z = some n ∧ n ≠ 0 := fun z hz' => by
      obtain ⟨t, ht, e⟩ := List.mem_map.mp ((hm z).mp hz')
      refine ⟨t.2, look_of hn (by rw [← e]; exact ht), hz t ht⟩
    refine ⟨p, rfl, ⟨_, .inl (.inl hp)⟩, lc_tups (K := K) (a := p) (xs := ys.map V.str) (fun v => match v with | .str z => [.str z, .int ((l.lookup z).getD 0)] | v => [v]) (fun _ => true) (.inl (.inl hp)) (by rw [List.length_map]; omega) (fun _ => rfl) (fun i v H2 hi s2 R r => r) (fun i v H2 hi _ s2 R r => ?_) (fun D qs H' nD s2 hD ts => ?_)⟩
    · rw [List.getElem?_map] at hi
      obtain ⟨z, hz', rfl⟩ := Option.map_eq_some_iff.mp hi
      obtain ⟨n, e1, e2⟩ := hall z (List.mem_of_getElem? hz')
      have s3 := s1.trans s2
      have hg := dget_s (l := ik l) z (.inl (s3 _ _ hd))
      rw [ik_val, e1] at hg
      refine ⟨_, rfl, _, rfl, x, CN, dx, _, _, rfl, s3 _ _ hx, T.c_Notes, T.nV, lkV _, _, rfl, d, _, rfl, hg, by show 2 ≤ sizeLine; decide, fun t nt => ?_⟩
      have g : R (.ref t) (upd H2 t (.tup [.str z, .int ((l.lookup z).getD 0)])) := r t nt
      rw [e1] at g
      exact g
    · refine q D H' ((ys.filter fun z => decide ((l.lookup z).getD 0 ≠ 0)).map fun z => (z, (l.lookup z).getD 0)) (s1.free nD) (s1.trans s2) (sort_of hn hr1 hm) ?_ ⟨qs, hD, ?_⟩
      · rw [List.length_map, List.filter_eq_self.mpr, hlen]
        intro z hz'
        obtain ⟨n, e1, e2⟩ := hall z hz'
        rw [e1]
        exact decide_eq_true e2
      · rw [List.filter_eq_self.mpr (by intros; rfl), List.map_map] at ts
        rw [List.filter_eq_self.mpr, List.map_map]
        · exact ts
        · intro z hz'
          obtain ⟨n, e1, e2⟩ := hall z hz'
          rw [e1]
          exact decide_eq_true e2
end
end T
namespace T
open PySem PySem.Spec PyProof.Rows L2 M
section
variable {P : Program} {w : World} {K : PySem.W.Frag} {mg : Str → Option Value} {base : Heap} {CN : Addr}
def spPool : Sp := fun vs H Q _ => ∃ c : Int, vs = [.int c] ∧ ∀ p n, H p = none → Q (.ref p) (upd H p (.lst [.int n]))
theorem ok_pool {f : Addr} {fd : FuncData} {k : Nat} (F : Fun2 K "_law_pool" "_law_pool" s__law_pool f fd) (T : Txt K mg CN) : FnOk P w K mg base CX0 (k + 1) f fd ["cell"] spPool := by
  refine F.ok sc__law_pool (fun vs H Q E h => ?_) (fun cdv A outer s H vs Q E hr h => ?_)
  · obtain ⟨c, rfl, _⟩ := h
    rfl
  · obtain ⟨c, rfl, q⟩ := h
    have t18 : CPowX 10 18 := ⟨by decide, by decide +kernel⟩
    have t21 : CPowX 10 21 := ⟨by decide, by decide +kernel⟩
    have t33 : CPowX 10 33 := ⟨by decide, by decide +kernel⟩
    have t31 : CPowX 10 31 := ⟨by decide, by decide +kernel⟩
    have t29 : CPowX 10 29 := ⟨by decide, by decide +kernel⟩
    have ne18 : (10 : Int) ^ (18 : Int).toNat + 9 ≠ 0 := by decide +kernel
    have t60 : CPowX 10 60 := ⟨by decide, by decide +kernel⟩
    have n60 : Nb 200 ((10 : Int) ^ (60 : Int).toNat) := by unfold Nb; decide +kernel
    have p60 : (0 : Int) < (10 : Int) ^ (60 : Int).toNat := by decide +kernel
    have ne60 : (10 : Int) ^ (60 : Int).toNat ≠ 0 := by decide +kernel
    have md : ∀ x : Int, Nb 200 (x.fmod ((10 : Int) ^ (60 : Int).toNat)) ∧ 0 ≤ x.fmod ((10 : Int) ^ (60 : Int).toNat) := fun x => Nb.mod p60 n60
    refine ⟨_, (pss_cons (ps_if (pt_cmpR op_ge (pv 0) (pe_op op_powX pe_int pe_int) (nomark _))
        (pss_one (ps_ret (pe_lst (pa_cons (pe_op op_sub (pv 0) (pe_op op_powX pe_int pe_int)) pa_nil))))
        pss_nil)
      (pss_cons (ps_set (i := 1) sc__law_pool.nd rfl (Or.inl rfl) (pe_op op_add (pe_op op_modN (pe_callTy call_int1 (by rfl) T.z_int (by decide +kernel) (pa_cons (pv 0) pa_nil)) (pe_op op_add (pe_op op_powX pe_int pe_int) pe_int)) pe_int))
      (pss_cons (ps_set (i := 2) sc__law_pool.nd rfl (Or.inl rfl) (pe_op op_modN (pe_op op_fdivW (pe_op op_powX (pe_op op_mulX (pv 1) pe_int) pe_int) (pe_op op_powX pe_int pe_int)) (pe_op op_powX pe_int pe_int)))
      (pss_cons (ps_set (i := 3) sc__law_pool.nd rfl (Or.inl rfl) (pe_op op_modN (pe_op op_fdivW (pe_op op_powX (pe_op op_add (pv 2) (pv 1)) pe_int) (pe_op op_powX pe_int pe_int)) (pe_op op_powX pe_int pe_int)))
      (pss_cons (ps_set (i := 4) sc__law_pool.nd rfl (Or.inl rfl) (pe_op op_modN (pe_op op_fdivW (pe_op op_powX (pe_op op_add (pv 3) (pe_op op_mulX pe_int (pv 1))) pe_int) (pe_op op_powX pe_int pe_int)) (pe_op op_powX pe_int pe_int)))
      (pss_cons (ps_set (i := 5) sc__law_pool.nd rfl (Or.inl rfl) (pe_op op_modN (pe_op op_fdivW (pe_op op_powX (pe_op op_add (pv 4) (pe_op op_mulX pe_int (pv 1))) pe_int) (pe_op op_powX pe_int pe_int)) (pe_op op_powX pe_int pe_int)))
      (pss_one (ps_ret (pe_lst (pa_cons (pe_op op_add (pe_op op_mulX (pe_op op_add (pe_op op_mulX (pe_op op_add (pe_op op_mulX (pv 5) (pe_op op_powX pe_int pe_int)) (pv 4)) (pe_op op_powX pe_int pe_int)) (pv 3)) (pe_op op_powX pe_int pe_int)) (pv 2)) pa_nil)))))))))), ?_⟩
    refine ⟨_, rfl, _, _, rfl, rfl, t18, _, _, rfl, rfl, _, rfl, ite2 (fun _ => ?_) (fun _ => ?_)⟩
    · exact ⟨_, rfl, _, _, rfl, rfl, t18, _, _, rfl, rfl, by show 1 ≤ sizeLine; decide, fun p np => q p _ np⟩
    · refine nx_go ?_
      dsimp only
      refine cut_int (fun n => Nb 61 n ∧ 0 ≤ n) (fun Q h => ⟨_, rfl, .inl ⟨_, rfl, _, _, rfl, rfl, t18, _, _, rfl, rfl, _, _, rfl, rfl, ne18, _, _, rfl, rfl, h _ ?_⟩⟩) (fun sd hs => ?_)
      · have a := Nb.mod (x := c) (j := (10 : Int) ^ (18 : Int).toNat + 9) (b := 60) (by decide +kernel) (by unfold Nb; decide +kernel)
        exact ⟨a.1.add (show Nb 1 1 by unfold Nb; decide), by have := a.2; omega⟩
      · have nK : Nb 203 7240983651908273645109283746501928374650192837465019283746501 := by unfold Nb; decide +kernel
        refine cut_int (fun n => Nb 200 n ∧ 0 ≤ n) (fun Q h => ⟨_, rfl, _, _, rfl, rfl, hs.1.cmul nK (by decide), _, _, rfl, rfl, (hs.1.mul nK).cpow (by decide), _, _, rfl, rfl, t21, _, _, rfl, rfl, ⟨by decide +kernel, by decide +kernel⟩, _, _, rfl, rfl, t60, _, _, rfl, rfl, ne60, h _ (md _)⟩) (fun one h1 => ?_)
        have a1 := h1.1.add hs.1
        refine cut_int (fun n => Nb 200 n ∧ 0 ≤ n) (fun Q h => ⟨_, rfl, _, rfl, _, _, rfl, rfl, _, _, rfl, rfl, a1.cpow (by decide), _, _, rfl, rfl, t33, _, _, rfl, rfl, ⟨by decide +kernel, by decide +kernel⟩, _, _, rfl, rfl, t60, _, _, rfl, rfl, ne60, h _ (md _)⟩) (fun two h2 => ?_)
        have n3 : Nb 2 3 := by unfold Nb; decide
        have n7 : Nb 3 7 := by unfold Nb; decide
        have a2 := h2.1.add (n3.mul hs.1)
        refine cut_int (fun n => Nb 200 n ∧ 0 ≤ n) (fun Q h => ⟨_, rfl, _, rfl, _, _, rfl, rfl, n3.cmul hs.1 (by decide), _, _, rfl, rfl, _, _, rfl, rfl, a2.cpow (by decide), _, _, rfl, rfl, t31, _, _, rfl, rfl, ⟨by decide +kernel, by decide +kernel⟩, _, _, rfl, rfl, t60, _, _, rfl, rfl, ne60, h _ (md _)⟩) (fun three h3 => ?_)
        have a3 := h3.1.add (n7.mul hs.1)
        refine cut_int (fun n => Nb 200 n ∧ 0 ≤ n) (fun Q h => ⟨_, rfl, _, rfl, _, _, rfl, rfl, n7.cmul hs.1 (by decide), _, _, rfl, rfl, _, _, rfl, rfl, a3.cpow (by decide), _, _, rfl, rfl, t29, _, _, rfl, rfl, ⟨by decide +kernel, by decide +kernel⟩, _, _, rfl, rfl, t60, _, _, rfl, rfl, ne60, h _ (md _)⟩) (fun four h4 => ?_)
        have m1 := (h4.1.mul n60).add h3.1
        have m2 := (m1.mul n60).add h2.1
        exact ⟨_, rfl, _, _, rfl, rfl, t60, _, _, rfl, rfl, h4.1.cmul n60 (by decide), _, rfl, _, _, rfl, rfl, _, _, rfl, rfl, t60, _, _, rfl, rfl, m1.cmul n60 (by decide), _, rfl, _, _, rfl, rfl, _, _, rfl, rfl, t60, _, _, rfl, rfl, m2.cmul n60 (by decide), _, rfl, _, _, rfl, rfl, by show 1 ≤ sizeLine; decide, fun p np => q p _ np⟩
def spCell (K : PySem.W.Frag) : Sp := fun vs H Q _ => ∃ (a : Addr) (ns : List Int) (k : Int), vs = [.ref a, .int k] ∧ SqL K H a (ns.map V.int) ∧ 0 ≤ k ∧ ∀ c : Int, Q (.int c) H
theorem ok_cell {f : Addr} {fd : FuncData} {k : Nat} (F : Fun2 K "_law_cell" "_law_cell" s__law_cell f fd) (T : Txt K mg CN) : FnOk P w K mg base CX0 (k + 1) f fd ["script", "k"] (spCell K) := by
  refine F.ok sc__law_cell (fun vs H Q E h => ?_) (fun cdv A outer s H vs Q E hr h => ?_)
  · obtain ⟨a, ns, k, rfl, _⟩ := h
    rfl
  · obtain ⟨a, ns, k, rfl, hs, hk, q⟩ := h
    refine ⟨_, (pss_cons (ps_if (pt_cmpR op_lt (pv 1) (pe_callB (lenK (K := K) rfl) (by rfl) T.z_len (by decide +kernel) (pa_cons (pv 0) pa_nil)) (nomark _))
        (pss_one (ps_ret (pe_ix (ixLK (K := K) rfl) (pv 0) (pv 1) (fun _ _ => rfl))))
        pss_nil)
      (pss_one (ps_ret pe_int))), ?_⟩
    refine ⟨_, rfl, _, rfl, a, _, rfl, .inl hs, _, _, rfl, rfl, _, rfl, ite2 (fun c => ?_) (fun _ => ?_)⟩
    · have c := of_decide_eq_true c
      rw [List.length_map] at c
      have hl : k.toNat < ns.length := by omega
      refine ⟨_, rfl, _, rfl, a, _, k, .int ns[k.toNat], rfl, rfl, hs, at_of (j := k.toNat) (by omega) (by rw [List.getElem?_map, List.getElem?_eq_getElem hl]; rfl), q _⟩
    · exact q 0
def spDraw : Sp := fun vs H Q _ => ∃ (a : Addr) (m n : Int), vs = [.ref a, .int m] ∧ H a = some (.lst [.int n]) ∧ 0 < m ∧ m.natAbs.log2 < 9000 ∧ ∀ d n' : Int, 0 ≤ d → d < m → Q (.int d) (upd H a (.lst [.int n']))
theorem ok_draw {f : Addr} {fd : FuncData} {k : Nat} (F : Fun2 K "_law_draw" "_law_draw" s__law_draw f fd) (T : Txt K mg CN) : FnOk P w K mg base CX0 (k + 1) f fd ["pool", "many"] spDraw := by
  refine F.ok sc__law_draw (fun vs H Q E h => ?_) (fun cdv A outer s H vs Q E hr h => ?_)
  · obtain ⟨a, m, n, rfl, _⟩ := h
    rfl
  · obtain ⟨a, m, n, rfl, ha, hm, hg, q⟩ := h
    have hs : SqL K H a [.int n] := .inl (.inl ha)
    refine ⟨_, (pss_cons (ps_set (i := 2) sc__law_draw.nd rfl (Or.inl rfl) (pe_op op_modN (pe_callTy call_int1 (by rfl) T.z_int (by decide +kernel) (pa_cons (pe_ix (ixLK (K := K) rfl) (pv 0) pe_int (fun _ _ => rfl)) pa_nil)) (pv 1)))
      (pss_cons (ps_asg (pe_op op_fdivW (pe_ix (ixLK (K := K) rfl) (pv 0) pe_int (fun _ _ => rfl)) (pv 1)) (pg_sub (pv 0) pe_int set_list))
      (pss_one (ps_ret (pv 2))))), ?_⟩
    refine ⟨_, rfl, _, _, _, _, rfl, rfl, hs, atI_nat (j := 0) rfl, .inl ⟨_, rfl, _, rfl, _, _, rfl, rfl, (by show m ≠ 0; omega), ?_⟩⟩
    refine ⟨_, rfl, _, _, _, _, rfl, rfl, hs, atI_nat (j := 0) rfl, _, rfl, _, _, rfl, rfl, ⟨hm, hg⟩, _, rfl, a, _, 0, 0, rfl, rfl, ha, rfl, ?_⟩
    exact ⟨_, rfl, q _ _ (Int.fmod_nonneg_of_pos n hm) (Int.fmod_lt_of_pos n hm)⟩
def spInteger : Sp := fun vs H Q _ => ∃ (a : Addr) (n : Int), vs = [.ref a] ∧ H a = some (.lst [.int n]) ∧ ∀ d n' : Int, Q (.int d) (upd H a (.lst [.int n']))
theorem ok_integer {f : Addr} {fd : FuncData} {k : Nat} (F : Fun2 K "_law_integer" "_law_integer" s__law_integer f fd) (T : Txt K mg CN) (D__law_draw : DefOk P w K mg base k "_law_draw" ["pool", "many"] spDraw) : FnOk P w K mg base CX0 (k + 1) f fd ["pool"] spInteger := by
  refine F.ok sc__law_integer (fun vs H Q E h => ?_) (fun cdv A outer s H vs Q E hr h => ?_)
  · obtain ⟨a, n, rfl, _⟩ := h
    rfl
  · obtain ⟨a, n, rfl, ha, q⟩ := h
    have t40 : CPowX 10 40 := ⟨by decide, by decide +kernel⟩
    have t39 : CPowX 10 39 := ⟨by decide, by decide +kernel⟩
    have g40 : (0 : Int) < (10 : Int) ^ (40 : Int).toNat - 1 ∧ ((10 : Int) ^ (40 : Int).toNat - 1).natAbs.log2 < 9000 := by decide +kernel
    have b40 : Nb 140 ((10 : Int) ^ (40 : Int).toNat - 1) := by unfold Nb; decide +kernel
    have b39 : Nb 140 ((10 : Int) ^ (39 : Int).toNat) := by unfold Nb; decide +kernel
    have nb : ∀ {j b d : Int} {n : Nat}, 0 ≤ d → d < b → Nb n b → Nb n d := fun h0 h1 h2 => by unfold Nb at *; omega
    refine ⟨_, (pss_cons (ps_set (i := 1) sc__law_integer.nd rfl (Or.inl rfl) (pe_callD D__law_draw (hr.mono (by omega)) (by rfl) (pa_cons (pv 0) (pa_cons pe_int pa_nil))))
      (pss_cons (ps_set (i := 2) sc__law_integer.nd rfl (Or.inl rfl) (pe_op op_sub pe_int (pe_op op_mulX pe_int (pe_callD D__law_draw (hr.mono (by omega)) (by rfl) (pa_cons (pv 0) (pa_cons pe_int pa_nil))))))
      (pss_cons (ps_if (pt_cmpR op_eq (pv 1) pe_int (nomark _))
        (pss_one (ps_ret pe_int))
        pss_nil)
      (pss_cons (ps_if (pt_cmpR op_eq (pv 1) pe_int (nomark _))
        (pss_one (ps_ret (pe_op op_mulX (pv 2) (pe_callD D__law_draw (hr.mono (by omega)) (by rfl) (pa_cons (pv 0) (pa_cons (pe_op op_sub (pe_op op_powX pe_int pe_int) pe_int) pa_nil))))))
        pss_nil)
      (pss_cons (ps_if (pt_cmpR op_eq (pv 1) pe_int (nomark _))
        (pss_one (ps_ret (pe_op op_mulX (pv 2) (pe_op op_add (pe_op op_powX pe_int pe_int) (pe_callD D__law_draw (hr.mono (by omega)) (by rfl) (pa_cons (pv 0) (pa_cons pe_int pa_nil)))))))
        pss_nil)
      (pss_one (ps_ret (pe_op op_mulX (pv 2) (pe_callD D__law_draw (hr.mono (by omega)) (by rfl) (pa_cons (pv 0) (pa_cons pe_int pa_nil))))))))))), ?_⟩
    refine ⟨_, rfl, a, 6, n, rfl, ha, by decide, by decide +kernel, fun way n1 w0 w6 => ?_⟩
    refine ⟨_, rfl, a, 2, n1, rfl, upd_same, by decide, by decide +kernel, fun sg n2 s0 s2 => ?_⟩
    rw [upd_upd]
    have hsg : Nb 2 (1 - 2 * sg) := by unfold Nb; omega
    refine ⟨_, _, rfl, rfl, (show Nb 2 2 by unfold Nb; decide).cmul (show Nb 2 sg by unfold Nb; omega) (by decide), _, _, rfl, rfl, ?_⟩
    have fin : ∀ d m : Int, Q (.int d) (upd (upd H a (.lst [.int n2])) a (.lst [.int m])) := fun d m => by rw [upd_upd]; exact q d m
    refine ⟨_, rfl, rfl, _, rfl, ite2 (fun _ => q 0 n2) (fun _ => ?_)⟩
    refine ⟨_, rfl, rfl, _, rfl, ite2 (fun _ => ?_) (fun _ => ?_)⟩
    · refine ⟨_, rfl, _, rfl, _, _, rfl, rfl, t40, _, _, rfl, rfl, a, _, n2, rfl, upd_same, g40.1, g40.2, fun d m d0 d1 => ?_⟩
      exact ⟨_, _, rfl, rfl, hsg.cmul (nb (j := 0) d0 d1 b40) (by decide), fin _ _⟩
    refine ⟨_, rfl, rfl, _, rfl, ite2 (fun _ => ?_) (fun _ => ?_)⟩
    · refine ⟨_, rfl, _, _, rfl, rfl, t39, _, rfl, a, _, n2, rfl, upd_same, by decide, by decide +kernel, fun d m d0 d1 => ?_⟩
      exact ⟨_, _, rfl, rfl, _, _, rfl, rfl, hsg.cmul (b39.add (nb (j := 0) d0 d1 (show Nb 3 5 by unfold Nb; decide))) (by decide), fin _ _⟩
    · refine ⟨_, rfl, _, rfl, a, _, n2, rfl, upd_same, by decide, by decide +kernel, fun d m d0 d1 => ?_⟩
      exact ⟨_, _, rfl, rfl, hsg.cmul (nb (j := 0) d0 d1 (show Nb 4 9 by unfold Nb; decide)) (by decide), fin _ _⟩
def spIsInt : Sp := fun vs H Q _ => ∃ n : Int, vs = [.int n] ∧ Q (.bl true) H
theorem ok_isint {f : Addr} {fd : FuncData} {k : Nat} (F : Fun2 K "_law_is_integer" "_law_is_integer" s__law_is_integer f fd) (T : Txt K mg CN) : FnOk P w K mg base CX0 (k + 1) f fd ["found"] spIsInt := by
  refine F.ok sc__law_is_integer (fun vs H Q E h => ?_) (fun cdv A outer s H vs Q E hr h => ?_)
  · obtain ⟨n, rfl, _⟩ := h
    rfl
  · obtain ⟨n, rfl, q⟩ := h
    refine ⟨_, (pss_one (ps_ret (pe_and (pe_callB (isiK (K := K) rfl) (by rfl) T.z_isinstance (by decide +kernel) (pa_cons (pv 0) (pa_cons (pe_bltn (v := .ty "int") (by rfl) T.z_int (by decide +kernel) rfl) pa_nil))) (pe_one (pe_not (pe_callB (isiK (K := K) rfl) (by rfl) T.z_isinstance (by decide +kernel) (pa_cons (pv 0) (pa_cons (pe_bltn (v := .ty "bool") (by rfl) T.z_bool (by decide +kernel) rfl) pa_nil)))))))), ?_⟩
    refine ⟨_, rfl, _, _, _, _, true, rfl, .ty "int", .base (.int _), kit_ty (by decide +kernel), _, rfl, ?_⟩
    rw [if_pos rfl]
    exact ⟨_, rfl, _, _, _, _, false, rfl, .ty "bool", .base (.int _), kit_ty (by decide +kernel), _, rfl, q⟩
def spNames : Sp := fun vs H Q _ => ∃ (a : Addr) (m n : Int), vs = [.ref a, .int m] ∧ H a = some (.lst [.int n]) ∧ 0 ≤ m ∧ m ≤ 60 ∧
  ∀ p H' n' (zs : List Str), H p = none → Chg [a] H H' → H' a = some (.lst [.int n']) → H' p = some (.lst (zs.map V.str)) → zs.length = m.toNat → (∀ z ∈ zs, IsName z) → Q (.ref p) H'
theorem ok_names {f : Addr} {fd : FuncData} {k : Nat} (F : Fun2 K "_law_names" "_law_names" s__law_names f fd) (T : Txt K mg CN) (D__law_draw : DefOk P w K mg base k "_law_draw" ["pool", "many"] spDraw) : FnOk P w K mg base CX0 (k + 1) f fd ["pool", "many"] spNames := by
  refine F.ok sc__law_names (fun vs H Q E h => ?_) (fun cdv A outer s H vs Q E hr h => ?_)
  · obtain ⟨a, m, n, rfl, _⟩ := h
    rfl
  · obtain ⟨a, m, n, rfl, ha, hm0, hm, q⟩ := h
    refine ⟨_, (pss_cons (ps_set (i := 2) sc__law_names.nd rfl (Or.inl rfl) (pe_lst pa_nil))
      (pss_cons (ps_for PassesOwn.never rfl (pi_range1 rfl T.z_range (pa_cons (pv 1) pa_nil)) (pg_name (i := 3) sc__law_names.nd rfl (Or.inl rfl))
        (pss_cons (ps_set (i := 4) sc__law_names.nd rfl (Or.inl rfl) (pe_callD D__law_draw (hr.mono (by omega)) (by rfl) (pa_cons (pv 0) (pa_cons pe_int pa_nil))))
          (pss_cons (ps_set (i := 5) sc__law_names.nd rfl (Or.inl rfl) (pe_op op_add pe_int (pe_callD D__law_draw (hr.mono (by omega)) (by rfl) (pa_cons (pv 0) (pa_cons pe_int pa_nil)))))
          (pss_cons (ps_set (i := 6) sc__law_names.nd rfl (Or.inl rfl) (pe_join pe_str (pe_lc (own := [("j", 7)]) (g := gName 7) (tt := tYes) rfl sc__law_names.nd (pi_range1 rfl T.z_range (pa_cons (pv 5) pa_nil)) (blkOk_by (own := [("j", 7)]) (N := ["pool", "many", "names", "k", "way", "size", "name", "j"]) (sc := defScope s__law_names) (by decide +kernel)) (fun _ _ _ _ _ => pg_name (i := 7) sc__law_names.nd rfl (Or.inl rfl)) (fun _ _ _ _ _ => pts_nil) (fun _ _ _ _ _ => (pe_ix ix_str pe_str (pe_callD D__law_draw (hr.mono (by omega)) (by rfl) (pa_cons (pv 0) (pa_cons pe_int pa_nil))) (fun _ _ => rfl))))))
          (Evl.pss_cut (ps_if (PW.pt (pw_and (pt_cmpR op_eq (pv 4) pe_int (nomark _)) (pw_and1 (pt_cmpR op_gt (pv 3) pe_int (nomark _)))))
            (pss_one (ps_set (i := 6) sc__law_names.nd rfl (Or.inl rfl) (pe_slice sl_str (pe_op op_add_str (pe_ix (ixLK (K := K) rfl) (pv 2) (pe_op op_sub (pv 3) pe_int) (fun _ _ => rfl)) (pv 6)) po_none (po_some pe_int))))
            pss_nil)
          (Evl.pss_cut (ps_if (PW.pt (pw_and (pt_cmpR op_eq (pv 4) pe_int (nomark _)) (pw_and1 (pt_cmpR op_gt (pv 3) pe_int (nomark _)))))
            (pss_one (ps_set (i := 6) sc__law_names.nd rfl (Or.inl rfl) (pe_slice sl_str (pe_ix (ixLK (K := K) rfl) (pv 2) (pe_op op_sub (pv 3) pe_int) (fun _ _ => rfl)) po_none (po_some (pv 5)))))
            pss_nil)
          (Evl.pss_cut (ps_if (PW.pt (pw_and (pt_cmpR op_eq (pv 4) pe_int (nomark _)) (pw_and1 (pt_cmpR op_gt (pv 3) pe_int (nomark _)))))
            (pss_one (ps_set (i := 6) sc__law_names.nd rfl (Or.inl rfl) (pe_op op_add_str (pe_slice sl_str (pe_ix (ixLK (K := K) rfl) (pv 2) (pe_op op_sub (pv 3) pe_int) (fun _ _ => rfl)) po_none (po_some (pe_un un_neg pe_int))) (pe_slice sl_str (pv 6) po_none (po_some pe_int)))))
            pss_nil)
          (pss_one (ps_expr (pe_bm PySem.F.plainAttrs_list PySem.F.slot_list_append PySem.F.type_list_append mt_append (pv 2) (pa_cons (pv 6) pa_nil)))))))))))
      (pss_one (ps_ret (pv 2))))), ?_⟩
    refine ⟨by show 0 ≤ sizeLine; decide, fun nm nnm => ?_⟩
    have anm : a ≠ nm := ne_of_none ha nnm
    refine ⟨_, rfl, m, rfl, by omega, by omega, for_range (lo := 0) (n := m.toNat) (fun i σ' H' => ∃ n zs v3 v4 v5 v6 v7, σ' = [some (.ref a), some (.int m), some (.ref nm), v3, v4, v5, v6, v7] ∧ Chg [a] H H' ∧ H' a = some (.lst [.int n]) ∧ H' nm = some (.lst ((zs : List Str).map V.str)) ∧ zs.length = i ∧ ∀ z ∈ zs, IsName z)
      ⟨n, [], _, _, _, _, _, rfl, Chg.new nnm, by rw [upd_ne anm]; exact ha, upd_same, rfl, fun z h => by simp at h⟩ (fun i σ' H' hi p => ?_) (fun σ' H' p => ?_)⟩
    · obtain ⟨n1, zs, v3, v4, v5, v6, v7, rfl, hc, ha1, hn1, hz, hzs⟩ := p
      refine ⟨_, rfl, a, 4, n1, rfl, ha1, by decide, by decide +kernel, fun way n2 w0 w4 => ?_⟩
      refine ⟨_, rfl, a, 8, n2, rfl, upd_same, by decide, by decide +kernel, fun sz n3 s0 s8 => ?_⟩
      rw [upd_upd]
      refine ⟨_, _, rfl, rfl, ⟨_, rfl⟩, _, rfl, _, rfl, by omega, by omega, fun D nD => ?_⟩
      have nDa : D ≠ a := fun e => by rw [e, upd_same] at nD; cases nD
      have nD1 : H' D = none := by rw [upd_ne nDa] at nD; exact nD
      have Dnm : D ≠ nm := fun e => by rw [e, hn1] at nD1; cases nD1
      have nD0 : H D = none := hc.free nD1 (by simpa using nDa)
      refine lc_range (lo := 0) (n := (1 + sz).toNat) (fun j H2 => ∃ m2 ys, Chg [a] H' H2 ∧ H2 a = some (.lst [.int m2]) ∧ H2 D = some (.lst ((ys : List Str).map V.str)) ∧ ys.length = j ∧ ∀ y ∈ ys, ∃ c, y = ⟨#[c]⟩ ∧ 97 ≤ c ∧ c ≤ 122)
        ⟨n3, [], (Chg.set (by simp)).trans (Chg.new nD), by rw [upd_ne nDa.symm]; exact upd_same, upd_same, rfl, fun y h => by simp at h⟩ (fun j H2 hj p => ?_) (fun H2 p => ?_)
      · obtain ⟨m2, ys, c2, ha2, hD2, hl2, hy2⟩ := p
        refine ⟨rfl, _, rfl, a, 26, m2, rfl, ha2, by decide, by decide +kernel, fun d m3 d0 d1 => ?_⟩
        obtain ⟨c, ec, c0, c1⟩ := letter_at d0 d1
        refine ⟨_, d, c, rfl, rfl, by decide +kernel, ec, ys.map V.str, by rw [upd_ne nDa]; exact hD2, ?_, m3, ys ++ [⟨#[c]⟩], (c2.trans (Chg.set (by simp))).put nD1, by rw [upd_ne nDa.symm]; exact upd_same, by rw [upd_same, List.map_append]; rfl, by rw [List.length_append, hl2]; rfl, fun y hy => ?_⟩
        · rw [List.length_map]
          exact small1000 (by omega)
        · rcases List.mem_append.mp hy with hy | hy
          · exact hy2 y hy
          · exact ⟨c, List.mem_singleton.mp hy, c0, c1⟩
      · obtain ⟨m2, ys, c2, ha2, hD2, hl2, hy2⟩ := p
        have hnm : IsName (Txt.join Str.empty ys) := IsName.join (by omega) (by omega) hy2
        refine ⟨Str.empty, D, ys, rfl, rfl, .inl (.inl (.inl hD2)), ?_, ?_⟩
        · have e : (ys.map (·.length)).sum = ys.length := ones fun y hy => by obtain ⟨c, rfl, _⟩ := hy2 y hy; rfl
          rw [e]
          show ys.length + ys.length * 0 ≤ 16777216
          omega
        have hn2 : H2 nm = some (.lst (zs.map V.str)) := c2 _ _ (by simpa using anm.symm) hn1
        have hsq : SqL K H2 nm (zs.map V.str) := .inl (.inl hn2)
        have prev : ∀ (hk : 0 < (i : Int)), ∃ z, atI (zs.map V.str) ((0 : Int) + (i : Int) - 1) = some (.str z) ∧ IsName z := fun hk => by
          have hlt : i - 1 < zs.length := by omega
          exact ⟨zs[i - 1], at_of (j := i - 1) (by omega) (by rw [List.getElem?_map, List.getElem?_eq_getElem hlt]; rfl), hzs _ (List.getElem_mem hlt)⟩
        generalize Txt.join Str.empty ys = nm0 at hnm ⊢
        have sl : ∀ {z : Str}, IsName z → z.length ≤ sizeLine := fun h => Nat.le_trans h.2.1 (by decide)
        refine ⟨fun σ4 H4 => H4 = H2 ∧ ∃ z, IsName z ∧ σ4 = [some (.ref a), some (.int m), some (.ref nm), some (.int (0 + (i : Int))), some (.int way), some (.int (1 + sz)), some (.str z), v7], ?_, fun σ4 H4 h4 => ?_⟩
        · refine ⟨_, rfl, rfl, _, rfl, ite2 (fun _ => ⟨_, rfl, _, _, rfl, rfl, _, rfl, ite2 (fun hk => ?_) (fun _ => ⟨rfl, nm0, hnm, rfl⟩)⟩) (fun _ => ⟨rfl, nm0, hnm, rfl⟩)⟩
          obtain ⟨z, ez, iz⟩ := prev (by have := of_decide_eq_true hk; omega)
          exact ⟨_, rfl, _, rfl, _, _, rfl, rfl, _, _, _, _, rfl, rfl, hsq, ez, _, rfl, _, _, rfl, rfl, (by have := iz.2.1; have := hnm.2.1; exact Nat.le_trans (show z.length + nm0.length ≤ 16 by omega) (by decide)), 8, rfl, _, rfl, (by rw [str_len_app]; have := iz.2.1; have := hnm.2.1; exact Nat.le_trans (show z.length + nm0.length ≤ 16 by omega) (by decide)), rfl, _, iz.way1 hnm, rfl⟩
        obtain ⟨rfl, nm1, hnm1, rfl⟩ := h4
        refine ⟨fun σ5 H5 => H5 = H4 ∧ ∃ z, IsName z ∧ σ5 = [some (.ref a), some (.int m), some (.ref nm), some (.int (0 + (i : Int))), some (.int way), some (.int (1 + sz)), some (.str z), v7], ?_, fun σ5 H5 h5 => ?_⟩
        · refine ⟨_, rfl, rfl, _, rfl, ite2 (fun _ => ⟨_, rfl, _, _, rfl, rfl, _, rfl, ite2 (fun hk => ?_) (fun _ => ⟨rfl, nm1, hnm1, rfl⟩)⟩) (fun _ => ⟨rfl, nm1, hnm1, rfl⟩)⟩
          obtain ⟨z, ez, iz⟩ := prev (by have := of_decide_eq_true hk; omega)
          have es : (1 + sz) = (((1 + sz).toNat : Nat) : Int) := by omega
          refine ⟨_, rfl, _, rfl, _, _, rfl, rfl, _, _, _, _, rfl, rfl, hsq, ez, _, rfl, _, rfl, z, rfl, sl iz, rfl, _, ?_, rfl⟩
          rw [es]
          exact iz.way2 (by omega)
        obtain ⟨rfl, nm2, hnm2, rfl⟩ := h5
        refine ⟨fun σ6 H6 => H6 = H5 ∧ ∃ z, IsName z ∧ σ6 = [some (.ref a), some (.int m), some (.ref nm), some (.int (0 + (i : Int))), some (.int way), some (.int (1 + sz)), some (.str z), v7], ?_, fun σ6 H6 h6 => ?_⟩
        · refine ⟨_, rfl, rfl, _, rfl, ite2 (fun _ => ⟨_, rfl, _, _, rfl, rfl, _, rfl, ite2 (fun hk => ?_) (fun _ => ⟨rfl, nm2, hnm2, rfl⟩)⟩) (fun _ => ⟨rfl, nm2, hnm2, rfl⟩)⟩
          obtain ⟨z, ez, iz⟩ := prev (by have := of_decide_eq_true hk; omega)
          have h3 := iz.way3 hnm2
          refine ⟨_, rfl, _, rfl, _, _, rfl, rfl, _, _, _, _, rfl, rfl, hsq, ez, _, rfl, _, rfl, z, rfl, sl iz, _, rfl, _, rfl, nm2, rfl, sl hnm2, _, _, rfl, rfl, ?_, rfl, _, h3, rfl⟩
          have := h3.2.1
          rw [str_len_app] at this
          exact Nat.le_trans this (by decide)
        obtain ⟨rfl, nm3, hnm3, rfl⟩ := h6
        refine ⟨_, rfl, .inl ⟨rfl, _, .inl (.inl hn2)⟩, _, rfl, nm, _, _, rfl, rfl, hn2, by rw [List.length_map]; exact small1000 (by omega), m2, zs ++ [nm3], _, _, _, _, _, rfl, ?_, ?_, by rw [upd_same, List.map_append]; rfl, by rw [List.length_append, hz]; rfl, fun z hz => ?_⟩
        · exact (hc.trans c2).put nnm
        · rw [upd_ne anm]
          exact ha2
        · rcases List.mem_append.mp hz with h | h
          · exact hzs z h
          · rw [List.mem_singleton.mp h]; exact hnm3
    · obtain ⟨n1, zs, v3, v4, v5, v6, v7, rfl, hc, ha1, hn1, hz, hzs⟩ := p
      exact ⟨_, rfl, q nm H' n1 zs nnm hc ha1 hn1 hz hzs⟩
end
end T
namespace T
open PySem PySem.Spec PyProof.Rows L2 M
section
variable {P : Program} {w : World} {K : PySem.W.Frag} {mg : Str → Option Value} {base : Heap} {CN : Addr}
theorem NoteAt.same {H H' : Hp} {x d : Addr} {l : List (Str × Int)} (h : NoteAt CN H x d l) (c : Same H H') : NoteAt CN H' x d l := h.keep (Chg.same c []) (by simp) (by simp)
theorem PairsAt.same {H H' : Hp} {p : Addr} {ps : List (Str × Int)} (h : PairsAt H p ps) (c : Same H H') : PairsAt H' p ps := let ⟨qs, a, b⟩ := h; ⟨qs, c _ _ a, b.keep fun q t e => c _ _ e⟩
def spLPairs : Sp := fun vs H Q _ => ∃ (d : Addr) (l : List (Str × Int)), vs = [.ref d] ∧ H d = some (.dK (sk (ik l))) ∧ l.length < 64 ∧ (l.map (·.1)).Nodup ∧ ∀ p H' ps, H p = none → Same H H' → SortOf l ps → PairsAt H' p ps → Q (.ref p) H'
theorem ok_lpairs {f : Addr} {fd : FuncData} {k : Nat} (F : Fun2 K "_law_pairs" "_law_pairs" s__law_pairs f fd) (T : Txt K mg CN) : FnOk P w K mg base CX0 (k + 1) f fd ["values"] spLPairs := by
  refine F.ok sc__law_pairs (fun vs H Q E h => ?_) (fun cdv A outer s H vs Q E hr h => ?_)
  · obtain ⟨d, l, rfl, _⟩ := h
    rfl
  · obtain ⟨a, l, rfl, ha, hl, hn, q⟩ := h
    refine ⟨_, (pss_one (ps_ret (pe_lc (own := [("name", 1)]) (g := gName 1) rfl sc__law_pairs.nd (piL (K := K) rfl (pe_callB (sortSK (K := K) rfl) (by rfl) T.z_sorted (by decide +kernel) (pa_cons (pe_lock (pe_lc (own := [("n", 2)]) (g := gName 2) (tt := tYes) rfl sc__law_pairs.nd (pi_keys (pv 0)) (blkOk_by (own := [("n", 2)]) (N := ["values", "name", "n"]) (sc := defScope s__law_pairs) (by decide +kernel)) (fun _ _ _ _ _ => pg_name (i := 2) sc__law_pairs.nd rfl (Or.inl rfl)) (fun _ _ _ _ _ => pts_nil) (fun _ _ _ _ _ => (pe_callTy SkE.call_str_str (by rfl) T.z_str (by decide +kernel) (pa_cons (pv 2) pa_nil))))) pa_nil))) (blkOk_by (own := [("name", 1)]) (N := ["values", "name", "n"]) (sc := defScope s__law_pairs) (by decide +kernel)) (fun _ _ _ _ _ => pg_name (i := 1) sc__law_pairs.nd rfl (Or.inl rfl)) (fun _ _ _ _ _ => pts_one (pt_cmpR op_ne (pe_dget (hu_of hr) (pv 0) (pv 1) (fun _ _ => rfl)) pe_int (nomark _))) (fun _ _ _ _ _ => (pe_tup (pa_cons (pv 1) (pa_cons (pe_dget (hu_of hr) (pv 0) (pv 1) (fun _ _ => rfl)) pa_nil))))))), ?_⟩
    refine ⟨a, .dK (sk (ik l)), ha, True.intro, fun od => ?_⟩
    refine ⟨.ref a, rfl, a, od, rfl, .inl ⟨sk (ik l), upd_same, fun D nD => ?_⟩⟩
    have nDa : D ≠ a := fun e => by rw [e, upd_same] at nD; cases nD
    have nH : H D = none := by rw [upd_ne nDa] at nD; exact nD
    refine lc_keys (fun i H' => H' = upd (upd H a (.frz od (.dK (sk (ik l))))) D (.lst ((l.take i).map fun p => V.str p.1))) rfl (fun i H' _ e => by rw [e, upd_ne nDa.symm, upd_same]) (fun i k v H' hk e => ?_) (fun H' e => ?_)
    · obtain ⟨z, rfl, hy⟩ := sk_get hk
      obtain ⟨n, rfl, hz⟩ := ik_get hy
      have hlt : i < l.length := (List.getElem?_eq_some_iff.mp hz).1
      subst e
      refine ⟨rfl, _, rfl, _, rfl, _, upd_same, ?_, ?_⟩
      · rw [List.length_map, List.length_take]
        exact Nat.lt_of_le_of_lt (Nat.min_le_right ..) (small1000 (by omega))
      · rw [upd_upd, List.take_add_one, hz, List.map_append]
        rfl
    · subst e
      rw [sk_len, ik_len, List.take_length]
      refine ⟨by rw [upd_ne nDa.symm, upd_same], ?_⟩
      rw [upd_back nDa ha]
      refine ⟨D, l.map (·.1), rfl, .inl (.inl (by rw [upd_same, List.map_map]; rfl)), by rw [List.length_map]; exact hl, fun ys p hp hs np => ?_⟩
      have hr1 : Rise ys := rise_of ys hs (hp.nodup_iff.mpr hn)
      have hm : ∀ z, z ∈ ys ↔ z ∈ l.map (·.1) := fun z => hp.mem_iff
      have hlen : ys.length = l.length := by rw [hp.length_eq, List.length_map]
      have s1 : Same H (upd (upd H D (.lst (l.map fun p => V.str p.1))) p (.lst (ys.map V.str))) := Same.put (same_new nH) ((same_new nH).free np)
      have hall : ∀ z, z ∈ ys → ∃ n, l.lookup z = some n := fun z hz' => by
        obtain ⟨t, ht, e⟩ := List.mem_map.mp ((hm z).mp hz')
        exact ⟨t.2, look_of hn (by rw [← e]; exact ht)⟩
      refine ⟨p, rfl, ⟨_, .inl (.inl upd_same)⟩, lc_tups (K := K) (a := p) (xs := ys.map V.str) (fun v => match v with | .str z => [.str z, .int ((l.lookup z).getD 0)] | v => [v]) (fun v => match v with | .str z => decide ((l.lookup z).getD 0 ≠ 0) | _ => true) (.inl (.inl upd_same)) (by rw [List.length_map]; omega) (fun _ => rfl) (fun i v H2 hi s2 R r => ?_) (fun i v H2 hi _ s2 R r => ?_) (fun D qs H' nD s2 hD ts => ?_)⟩
      · rw [List.getElem?_map] at hi
        obtain ⟨z, hz', rfl⟩ := Option.map_eq_some_iff.mp hi
        obtain ⟨n, e1⟩ := hall z (List.mem_of_getElem? hz')
        have hg := dget_s (l := ik l) z (.inl ((s1.trans s2) _ _ ha))
        rw [ik_val, e1] at hg
        refine ⟨_, rfl, _, rfl, a, _, rfl, hg, rfl, _, rfl, ?_⟩
        have r : R (decide ((l.lookup z).getD 0 ≠ 0)) H2 := r
        rw [e1] at r
        have e : (!decide (V.int n = V.int 0)) = decide ((some n).getD 0 ≠ 0) := by
          show (!decide (V.int n = V.int 0)) = decide (n ≠ 0)
          by_cases h : n = 0
          · rw [h]; decide
          · rw [decide_eq_true h, decide_eq_false (fun e => h (V.int.inj e))]; rfl
        rw [e]
        exact r
      · rw [List.getElem?_map] at hi
        obtain ⟨z, hz', rfl⟩ := Option.map_eq_some_iff.mp hi
        obtain ⟨n, e1⟩ := hall z (List.mem_of_getElem? hz')
        have hg := dget_s (l := ik l) z (.inl ((s1.trans s2) _ _ ha))
        rw [ik_val, e1] at hg
        refine ⟨_, rfl, _, rfl, _, rfl, a, _, rfl, hg, by show 2 ≤ sizeLine; decide, fun t nt => ?_⟩
        have g : R (.ref t) (upd H2 t (.tup [.str z, .int ((l.lookup z).getD 0)])) := r t nt
        rw [e1] at g
        exact g
      · refine q D H' ((ys.filter fun z => decide ((l.lookup z).getD 0 ≠ 0)).map fun z => (z, (l.lookup z).getD 0)) (s1.free nD) (s1.trans s2) (sort_of hn hr1 hm) ⟨qs, hD, ?_⟩
        rw [List.filter_map, List.map_map] at ts
        rw [List.map_map]
        exact ts
def spSame : Sp := fun vs H Q _ => ∃ (a b : Addr) (ps : List (Str × Int)), vs = [.ref a, .ref b] ∧ PairsAt H a ps ∧ PairsAt H b ps ∧ ps.length ≤ 1000 ∧ (∀ t ∈ ps, Sgn t.1) ∧ Q (.bl true) H
theorem ok_same {f : Addr} {fd : FuncData} {k : Nat} (F : Fun2 K "_law_same_pairs" "_law_same_pairs" s__law_same_pairs f fd) (T : Txt K mg CN) (D__law_is_integer : DefOk P w K mg base k "_law_is_integer" ["found"] spIsInt) : FnOk P w K mg base CX0 (k + 1) f fd ["found", "due"] spSame := by
  refine F.ok sc__law_same_pairs (fun vs H Q E h => ?_) (fun cdv A outer s H vs Q E hr h => ?_)
  · obtain ⟨a, b, ps, rfl, _⟩ := h
    rfl
  · obtain ⟨a, b, ps, rfl, ⟨qa, ha, ta⟩, ⟨qb, hb, tb⟩, hl, hsg, q⟩ := h
    have la : qa.length = ps.length := by rw [ta.1, List.length_map]
    have lb : qb.length = ps.length := by rw [tb.1, List.length_map]
    have sa : SqL K H a (qa.map V.ref) := .inl (.inl ha)
    have sb : SqL K H b (qb.map V.ref) := .inl (.inl hb)
    refine ⟨_, (pss_cons (ps_if (PW.pt (pw_or (pt_not (pt_val (pe_callB (isiK (K := K) rfl) (by rfl) T.z_isinstance (by decide +kernel) (pa_cons (pv 0) (pa_cons (pe_bltn (v := .ty "list") (by rfl) T.z_list (by decide +kernel) rfl) pa_nil))))) (pw_or1 (pt_cmpR op_ne (pe_callB (lenK (K := K) rfl) (by rfl) T.z_len (by decide +kernel) (pa_cons (pv 0) pa_nil)) (pe_callB (lenK (K := K) rfl) (by rfl) T.z_len (by decide +kernel) (pa_cons (pv 1) pa_nil)) (nomark _)))))
        (pss_one (ps_ret pe_bl))
        pss_nil)
      (pss_cons (ps_for PassesOwn.never rfl (pi_range1 rfl T.z_range (pa_cons (pe_callB (lenK (K := K) rfl) (by rfl) T.z_len (by decide +kernel) (pa_cons (pv 1) pa_nil)) pa_nil)) (pg_name (i := 2) sc__law_same_pairs.nd rfl (Or.inl rfl))
        (pss_cons (ps_set (i := 3) sc__law_same_pairs.nd rfl (Or.inl rfl) (pe_ix (ixLK (K := K) rfl) (pv 0) (pv 2) (fun _ _ => rfl)))
          (pss_cons (ps_if (PW.pt (pw_or (pt_not (pt_val (pe_callB (isiK (K := K) rfl) (by rfl) T.z_isinstance (by decide +kernel) (pa_cons (pv 3) (pa_cons (pe_bltn (v := .ty "tuple") (by rfl) T.z_tuple (by decide +kernel) rfl) pa_nil))))) (pw_or1 (pt_cmpR op_ne (pe_callB (lenK (K := K) rfl) (by rfl) T.z_len (by decide +kernel) (pa_cons (pv 3) pa_nil)) pe_int (nomark _)))))
            (pss_one (ps_ret pe_bl))
            pss_nil)
          (pss_one (ps_if (PW.pt (pw_or (pt_not (pt_val (pe_callB (isiK (K := K) rfl) (by rfl) T.z_isinstance (by decide +kernel) (pa_cons (pe_ix (ixTK (K := K) rfl) (pv 3) pe_int (fun _ _ => rfl)) (pa_cons (pe_bltn (v := .ty "str") (by rfl) T.z_str (by decide +kernel) rfl) pa_nil))))) (pw_or (pt_not (pt_val (pe_callD D__law_is_integer (hr.mono (by omega)) (by rfl) (pa_cons (pe_ix (ixTK (K := K) rfl) (pv 3) pe_int (fun _ _ => rfl)) pa_nil)))) (pw_or1 (pt_cmpR (neDK (K := K) rfl hr.units) (pv 3) (pe_ix (ixLK (K := K) rfl) (pv 1) (pv 2) (fun _ _ => rfl)) (nomark _))))))
            (pss_one (ps_ret pe_bl))
            pss_nil)))))
      (pss_one (ps_ret pe_bl)))), ?_⟩
    refine ⟨_, rfl, _, _, _, _, true, rfl, .ty "list", .base (.lst ha), kit_ty (by decide +kernel), _, rfl, ?_⟩
    refine ⟨_, rfl, a, _, rfl, .inl sa, _, rfl, b, _, rfl, .inl sb, rfl, _, rfl, ?_⟩
    rw [List.length_map, List.length_map, la, lb, decide_eq_true rfl]
    refine ⟨_, rfl, b, _, rfl, .inl sb, _, rfl, by rw [List.length_map]; omega, by rw [List.length_map]; omega, for_range (lo := 0) (n := ((qb.map V.ref).length : Int).toNat) (fun i σ' H' => H' = H ∧ ∃ v2 v3, σ' = [some (.ref a), some (.ref b), v2, v3]) ⟨rfl, _, _, rfl⟩ (fun i σ' H' hi p => ?_) (fun σ' H' p => ?_)⟩
    · obtain ⟨rfl, v2, v3, rfl⟩ := p
      rw [List.length_map] at hi
      have h1 : i < qa.length := by omega
      have h2 : i < qb.length := by omega
      have h3 : i < ps.length := by omega
      have hA := ta.2 i qa[i] _ (List.getElem?_eq_getElem h1) (by rw [List.getElem?_map, List.getElem?_eq_getElem h3]; rfl)
      have hB := tb.2 i qb[i] _ (List.getElem?_eq_getElem h2) (by rw [List.getElem?_map, List.getElem?_eq_getElem h3]; rfl)
      have eA : atI (qa.map V.ref) (0 + (i : Int)) = some (.ref qa[i]) := at_of (j := i) (by omega) (by rw [List.getElem?_map, List.getElem?_eq_getElem h1]; rfl)
      have eB : atI (qb.map V.ref) (0 + (i : Int)) = some (.ref qb[i]) := at_of (j := i) (by omega) (by rw [List.getElem?_map, List.getElem?_eq_getElem h2]; rfl)
      have tA : SqT K H' qa[i] [.str ps[i].1, .int ps[i].2] := .inl (.inl hA)
      have tB : SqT K H' qb[i] [.str ps[i].1, .int ps[i].2] := .inl (.inl hB)
      refine ⟨_, rfl, _, rfl, a, _, _, _, rfl, rfl, sa, eA, ?_⟩
      refine ⟨_, rfl, _, _, _, _, true, rfl, .ty "tuple", .base (.tup hA), kit_ty (by decide +kernel), _, rfl, ?_⟩
      refine ⟨_, rfl, _, _, rfl, .inr tA, rfl, _, rfl, ?_⟩
      refine ⟨_, rfl, _, _, _, _, rfl, rfl, tA, atI_nat (j := 0) rfl, _, _, _, _, true, rfl, .ty "str", .base (.str _), kit_ty (by decide +kernel), _, rfl, ?_⟩
      refine ⟨_, rfl, _, _, _, _, rfl, rfl, tA, atI_nat (j := 1) rfl, _, rfl, _, rfl, ?_⟩
      refine ⟨_, rfl, _, rfl, _, rfl, b, _, _, _, rfl, rfl, sb, eB, .tuple [.str ps[i].1, .int ps[i].2], .tuple [.str ps[i].1, .int ps[i].2], ?_, ?_, ?_, ?_, ?_⟩
      · exact .tup tA (.cons (.str _) (.cons (.int _) .nil))
      · exact .tup tB (.cons (.str _) (.cons (.int _) .nil))
      · exact shaped_pair (hsg _ (List.getElem_mem h3)) _
      · exact shaped_pair (hsg _ (List.getElem_mem h3)) _
      · rw [SeqAt.eqv_refl _ (SeqAt.canLay_of_shaped (shaped_pair (hsg _ (List.getElem_mem h3)) _))]
        exact ⟨_, rfl, rfl, _, _, rfl⟩
    · obtain ⟨rfl, v2, v3, rfl⟩ := p
      exact q
def spRight (CN : Addr) : Sp := fun vs H Q _ => ∃ (x f nm d : Addr) (l fl : List (Str × Int)) (zs : List Str), vs = [.ref x, .ref f, .ref nm] ∧ NoteAt CN H x d l ∧ H f = some (.dK (sk (ik fl))) ∧ (fl.map (·.1)).Nodup ∧ fl.length < 64 ∧ H nm = some (.lst (zs.map V.str)) ∧ zs.length ≤ 60 ∧
  (∀ z, (l.lookup z).getD 0 = (fl.lookup z).getD 0) ∧ (∀ p ∈ l, Sgn p.1) ∧ ∀ H', Same H H' → Q (.bl true) H'
theorem ok_right {f : Addr} {fd : FuncData} {k : Nat} (F : Fun2 K "_law_right" "_law_right" s__law_right f fd) (T : Txt K mg CN) (D__law_is_integer : DefOk P w K mg base k "_law_is_integer" ["found"] spIsInt) (D__law_pairs : DefOk P w K mg base k "_law_pairs" ["values"] spLPairs) (D__law_same_pairs : DefOk P w K mg base k "_law_same_pairs" ["found", "due"] spSame)
    (M_Notes___getitem__ : MethOk P w K mg base CN k "__getitem__" ["self", "at"] (spGet CN)) (M_Notes___contains__ : MethOk P w K mg base CN k "__contains__" ["self", "x"] (spHas CN)) (M_Notes___len__ : MethOk P w K mg base CN k "__len__" ["self"] (spLen CN)) (M_Notes_pairs : MethOk P w K mg base CN k "pairs" ["self"] (spPairs CN)) :
    FnOk P w K mg base CX0 (k + 2) f fd ["notes", "values", "names"] (spRight CN) := by
  refine F.ok sc__law_right (fun vs H Q E h => ?_) (fun cdv A outer s H vs Q E hr h => ?_)
  · obtain ⟨x, f, nm, d, l, fl, zs, rfl, _⟩ := h
    rfl
  · obtain ⟨x, f, nm, d, l, fl, zs, rfl, hN, hf, hfn, hfl, hnm, hzl, he, hsg, q⟩ := h
    have hll := hN.2.2.2.2
    refine ⟨_, (pss_cons (ps_set (i := 3) sc__law_right.nd rfl (Or.inl rfl) (pe_callD D__law_pairs (hr.mono (by omega)) (by rfl) (pa_cons (pv 1) pa_nil)))
      (pss_cons (ps_for PassesOwn.never rfl (piL (K := K) rfl (pe_op op_cat (pv 2) (pe_lst (pa_cons pe_str pa_nil)))) (pg_name (i := 4) sc__law_right.nd rfl (Or.inl rfl))
        (pss_cons (ps_set (i := 5) sc__law_right.nd rfl (Or.inl rfl) (pe_ixO (pv 0) (pv 4) M_Notes___getitem__ (hr.mono (by omega))))
          (pss_cons (ps_if (PW.pt (pw_or (pt_not (pt_val (pe_callD D__law_is_integer (hr.mono (by omega)) (by rfl) (pa_cons (pv 5) pa_nil)))) (pw_or1 (pt_cmpR op_ne (pv 5) (pe_dget2 (hu_of hr) (pv 1) (pv 4) pe_int ⟨by rfl, by rfl, by rfl, by rfl⟩) (nomark _)))))
            (pss_one (ps_ret pe_bl))
            pss_nil)
          (pss_one (ps_if (pt_cmpR op_ne (pe_cmpR (op_inO M_Notes___contains__ (hr.mono (by omega))) (pv 4) (pv 0) (by rfl)) (pe_cmpR op_ne (pe_dget2 (hu_of hr) (pv 1) (pv 4) pe_int ⟨by rfl, by rfl, by rfl, by rfl⟩) pe_int (nomark _)) (nomark _))
            (pss_one (ps_ret pe_bl))
            pss_nil)))))
      (pss_cons (ps_set (i := 5) sc__law_right.nd rfl (Or.inl rfl) (pe_methD0 (pv 0) T.c_Notes M_Notes_pairs (hr.mono (by omega))))
      (pss_cons (ps_if (pt_not (pt_val (pe_callD D__law_same_pairs (hr.mono (by omega)) (by rfl) (pa_cons (pv 5) (pa_cons (pv 3) pa_nil)))))
        (pss_one (ps_ret pe_bl))
        pss_nil)
      (pss_cons (ps_expr (pe_bm PySem.F.plainAttrs_list PySem.F.slot_list_append PySem.F.type_list_append mt_append (pv 5) (pa_cons (pe_tup (pa_cons pe_str (pa_cons pe_int pa_nil))) pa_nil)))
      (pss_one (ps_ret (pe_and (pe_cmpR op_eq (pe_callB (call_lenO M_Notes___len__ (hr.mono (by omega))) (by rfl) T.z_len (by decide +kernel) (pa_cons (pv 0) pa_nil)) (pe_callB (lenK (K := K) rfl) (by rfl) T.z_len (by decide +kernel) (pa_cons (pv 3) pa_nil)) (nomark _)) (pe_one (pe_callD D__law_same_pairs (hr.mono (by omega)) (by rfl) (pa_cons (pe_methD0 (pv 0) T.c_Notes M_Notes_pairs (hr.mono (by omega))) (pa_cons (pv 3) pa_nil)))))))))))), ?_⟩
    refine ⟨_, rfl, f, fl, rfl, hf, hfl, hfn, fun p H1 ps np s1 so1 hp1 => ?_⟩
    have s1nm := s1 _ _ hnm
    refine ⟨_, rfl, by show 1 ≤ sizeLine; decide, fun b nb => ?_⟩
    refine ⟨nm, b, _, _, rfl, rfl, by rw [upd_ne (ne_of_none s1nm nb)]; exact s1nm, upd_same, by rw [List.length_map]; exact Nat.le_trans (show zs.length + 1 ≤ 61 by omega) (by decide), fun c nc => ?_⟩
    generalize hH2 : upd (upd H1 b (.lst [.str (Str.ofString "zz")])) c (.lst (zs.map V.str ++ [.str (Str.ofString "zz")])) = H2
    have s2 : Same H1 H2 := by rw [← hH2]; exact Same.put (same_new nb) ((same_new nb).free nc)
    have hc2 : H2 c = some (.lst ((zs ++ [Str.ofString "zz"]).map V.str)) := by rw [← hH2, upd_same, List.map_append]; rfl
    have sc2 : SqL K H2 c ((zs ++ [Str.ofString "zz"]).map V.str) := .inl (.inl hc2)
    have e2 : zs.map V.str ++ [.str (Str.ofString "zz")] = (zs ++ [Str.ofString "zz"]).map V.str := by rw [List.map_append]; rfl
    have s12 := s1.trans s2
    have hN2 := hN.same s12
    have hf2 := s12 _ _ hf
    obtain ⟨⟨dx, hx2⟩, hd2, _⟩ := id hN2
    have eF : ∀ z, (sVal (ik fl) z).getD (.int 0) = .int ((fl.lookup z).getD 0) := fun z => by rw [ik_val]; cases fl.lookup z <;> rfl
    refine ⟨c, rfl, ⟨_, sc2⟩, for_list (K := K) (a := c) (xs := (zs ++ [Str.ofString "zz"]).map V.str) (fun i σ' H' => H' = H2 ∧ ∃ v4 v5, σ' = [some (.ref x), some (.ref f), some (.ref nm), some (.ref p), v4, v5]) ⟨rfl, _, _, rfl⟩ (fun i σ' H' _ p => by rw [p.1]; exact sc2) (fun i v σ' H' hi p => ?_) (fun σ' H' p => ?_)⟩
    · obtain ⟨rfl, v4, v5, rfl⟩ := p
      rw [List.getElem?_map] at hi
      obtain ⟨z, hz, rfl⟩ := Option.map_eq_some_iff.mp hi
      refine ⟨_, rfl, _, rfl, x, dx, _, rfl, hx2, x, d, l, z, rfl, hN2, ?_⟩
      refine ⟨_, rfl, _, rfl, _, rfl, _, rfl, _, rfl, f, rfl, .inl ⟨_, .inl hf2⟩, _, rfl, _, dget_s z (.inl hf2), ?_⟩
      rw [eF]
      refine ⟨rfl, _, rfl, iteNS (congrArg V.int (he z)) ?_⟩
      refine ⟨_, rfl, _, rfl, x, dx, _, rfl, hx2, x, d, l, z, rfl, hN2, _, rfl, _, rfl, f, rfl, .inl ⟨_, .inl hf2⟩, _, rfl, _, dget_s z (.inl hf2), ?_⟩
      rw [eF]
      refine ⟨rfl, rfl, _, rfl, iteNS ?_ ⟨rfl, _, _, rfl⟩⟩
      rw [he z]
      show V.bl (decide ((fl.lookup z).getD 0 ≠ 0)) = V.bl (!decide (V.int ((fl.lookup z).getD 0) = V.int 0))
      by_cases h : (fl.lookup z).getD 0 = 0
      · rw [h]; decide
      · rw [decide_eq_true h, decide_eq_false (fun e => h (V.int.inj e))]; rfl
    · obtain ⟨rfl, v4, v5, rfl⟩ := p
      have lkp : ([(("_values" : Str), V.ref d)]).lookup ("pairs" : Str) = none := by
        rw [List.lookup_cons]
        have e : (("pairs" : Str) == ("_values" : Str)) = false := by decide +kernel
        rw [e]
        rfl
      refine ⟨_, rfl, x, dx, _, rfl, hx2, lkp, x, d, l, rfl, hN2, fun r H3 qs nr s3 so3 hl3 hr3 => ?_⟩
      have eq : qs = ps := so3.uniq so1 he
      subst eq
      have hk : ∀ t ∈ qs, Sgn t.1 := fun t ht => hsg t (look_mem ((so3.mem t.1 t.2).mp ht).1)
      have hp3 := (hp1.same s2).same s3
      have hq : qs.length ≤ 1000 := by omega
      refine ⟨_, rfl, _, rfl, r, p, qs, rfl, hr3, hp3, hq, hk, _, rfl, ?_⟩
      obtain ⟨as, har, tar⟩ := id hr3
      refine ⟨_, rfl, .inl ⟨rfl, _, .inl (.inl har)⟩, by show 2 ≤ sizeLine; decide, fun t nt => ?_⟩
      have hrt : r ≠ t := ne_of_none har nt
      have np2 : H' p = none → False := fun e => by obtain ⟨bs, hb, _⟩ := hp1.same s2; rw [hb] at e; cases e
      refine ⟨r, _, _, rfl, rfl, by rw [upd_ne hrt]; exact har, by rw [List.length_map, tar.1, List.length_map]; exact small1000 hq, ?_⟩
      generalize hH4 : upd (upd H3 t (.tup [.str (Str.ofString "zz"), .int 1])) r (.lst (as.map V.ref ++ [.ref t])) = H4
      have s4 : Same H' H4 := by
        rw [← hH4]
        exact Same.put (Same.put s3 (s3.free nt)) nr
      have hN4 := hN2.same s4
      have hp4 := (hp1.same s2).same s4
      obtain ⟨⟨dx4, hx4⟩, _⟩ := id hN4
      obtain ⟨bs, hbp, tbp⟩ := id hp4
      refine ⟨_, rfl, x, dx4, _, rfl, hx4, x, d, l, rfl, hN4, _, rfl, ⟨by omega, by omega⟩, _, rfl, p, _, rfl, .inl (.inl (.inl hbp)), rfl, _, rfl, ?_⟩
      have hlb : bs.length = l.length := by rw [tbp.1, List.length_map, hl3]
      rw [List.length_map, hlb, decide_eq_true rfl]
      refine ⟨_, rfl, x, dx4, _, rfl, hx4, lkp, x, d, l, rfl, hN4, fun r5 H5 q5 n5 s5 so5 l5 h5 => ?_⟩
      have e5 : q5 = qs := so5.uniq so3 fun z => rfl
      subst e5
      exact ⟨_, rfl, r5, p, q5, rfl, h5, hp4.same s5, hq, hk, q H5 ((s12.trans s4).trans s5)⟩
end
end T
namespace T
open PySem PySem.Spec PyProof.Rows L2 M
theorem len_sub : ∀ {l m : List Str}, l.Nodup → (∀ z ∈ l, z ∈ m) → l.length ≤ m.length
  | [], _, _, _ => Nat.zero_le _
  | a :: r, m, hn, h => by
    obtain ⟨n1, n2⟩ := List.nodup_cons.mp hn
    have ha := h a (List.mem_cons_self ..)
    have := len_sub (m := m.erase a) n2 fun z hz => (List.mem_erase_of_ne (fun e => n1 (by rw [← e]; exact hz))).mpr (h z (List.mem_cons_of_mem _ hz))
    rw [List.length_erase_of_mem ha] at this
    have := List.length_pos_of_mem ha
    rw [List.length_cons]
    omega
/-- the keys are among zs -/
def Among (zs : List Str) (l : List (Str × Int)) : Prop := (l.map (·.1)).Nodup ∧ ∀ p ∈ l, p.1 ∈ zs
theorem Among.len {zs : List Str} {l : List (Str × Int)} (h : Among zs l) : l.length ≤ zs.length := by
  have := len_sub h.1 fun z hz => by obtain ⟨p, hp, e⟩ := List.mem_map.mp hz; rw [← e]; exact h.2 p hp
  rw [List.length_map] at this
  exact this
theorem Among.put {zs : List Str} {l : List (Str × Int)} (h : Among zs l) {z : Str} (n : Int) (hz : z ∈ zs) : Among zs (iput l z n) := ⟨iput_nodup z n h.1, fun p hp => (iput_mem hp).elim (h.2 p) fun e => by rw [e]; exact hz⟩
theorem Among.nz {zs : List Str} {l : List (Str × Int)} (h : Among zs l) : Among zs (nz l) := ⟨nz_keys_nodup h.1, fun p hp => h.2 p ((nz_sub l).mem hp)⟩
/-- notes at x and the dict at f tell the same -/
structure Side (CN : Addr) (H : Hp) (x f : Addr) (zs : List Str) : Prop where
  ex : ∃ (d : Addr) (l fl : List (Str × Int)), NoteAt CN H x d l ∧ H f = some (.dK (sk (ik fl))) ∧ d ≠ f ∧ Among zs fl ∧ Among zs l ∧ ∀ z, (l.lookup z).getD 0 = (fl.lookup z).getD 0
theorem Side.keep {CN : Addr} {H H' : Hp} {x f : Addr} {zs : List Str} {S : List Addr} (h : Side CN H x f zs) (c : Chg S H H') (n : ∀ b ∈ S, ∀ o, H b = some o → b ≠ x ∧ b ≠ f ∧ ∀ d l, NoteAt CN H x d l → b ≠ d) : Side CN H' x f zs := by
  obtain ⟨d, l, fl, hx, hf, df, a, b, e⟩ := h.ex
  obtain ⟨dx, hxx⟩ := hx.1
  have nx : x ∉ S := fun m => (n x m _ hxx).1 rfl
  have nf : f ∉ S := fun m => (n f m _ hf).2.1 rfl
  have nd : d ∉ S := fun m => (n d m _ hx.2.1).2.2 d l hx rfl
  exact ⟨d, l, fl, hx.keep c nx nd, c _ _ nf hf, df, a, b, e⟩
theorem Side.same {CN : Addr} {H H' : Hp} {x f : Addr} {zs : List Str} (h : Side CN H x f zs) (c : Same H H') : Side CN H' x f zs := h.keep (Chg.same c []) fun b hb => by simp at hb
/-- what is changed is a list -/
theorem Side.lst {CN : Addr} {H H' : Hp} {x f p : Addr} {zs : List Str} {xs : List V} (h : Side CN H x f zs) (c : Chg [p] H H') (hp : H p = some (.lst xs)) : Side CN H' x f zs := h.keep c fun b hb o ho => by
  rw [List.mem_singleton.mp hb]
  obtain ⟨d, l, fl, hx, hf, _⟩ := h.ex
  obtain ⟨dx, hxx⟩ := hx.1
  exact ⟨ne_of hp hxx (by intro z; cases z), ne_of hp hf (by intro z; cases z), fun d l hx => ne_of hp hx.2.1 (by intro z; cases z)⟩
/-- two notes and their two dicts, all apart -/
def Two (CN : Addr) (H : Hp) (x y f g : Addr) (zs : List Str) : Prop := ∃ (d : Addr) (l fl : List (Str × Int)) (e : Addr) (m gl : List (Str × Int)), NoteAt CN H x d l ∧ NoteAt CN H y e m ∧ H f = some (.dK (sk (ik fl))) ∧ H g = some (.dK (sk (ik gl))) ∧
  (d ≠ f ∧ d ≠ g ∧ e ≠ f ∧ e ≠ g ∧ f ≠ g ∧ x ≠ y) ∧ (Among zs fl ∧ Among zs l ∧ Among zs gl ∧ Among zs m) ∧ (∀ z, (l.lookup z).getD 0 = (fl.lookup z).getD 0) ∧ (∀ z, (m.lookup z).getD 0 = (gl.lookup z).getD 0)
section
variable {CN : Addr} {H H' : Hp} {x y f g : Addr} {zs : List Str}
theorem Two.same (t : Two CN H x y f g zs) (c : Same H H') : Two CN H' x y f g zs := by
  obtain ⟨d, l, fl, e, m, gl, a, b, p, q, r⟩ := t
  have k : ∀ {u v w}, NoteAt CN H u v w → NoteAt CN H' u v w := fun h => h.keep (Chg.same c []) (by simp) (by simp)
  exact ⟨d, l, fl, e, m, gl, k a, k b, c _ _ p, c _ _ q, r⟩
theorem Two.swap (t : Two CN H x y f g zs) : Two CN H y x g f zs := by
  obtain ⟨d, l, fl, e, m, gl, a, b, p, q, ⟨n1, n2, n3, n4, n5, n6⟩, ⟨a1, a2, a3, a4⟩, e1, e2⟩ := t
  exact ⟨e, m, gl, d, l, fl, b, a, q, p, ⟨n4, n3, n2, n1, n5.symm, n6.symm⟩, ⟨a3, a4, a1, a2⟩, e2, e1⟩
theorem Two.left (t : Two CN H x y f g zs) : Side CN H x f zs := by
  obtain ⟨d, l, fl, e, m, gl, a, b, p, q, ⟨n1, n2, n3, n4, n5, n6⟩, ⟨a1, a2, a3, a4⟩, e1, e2⟩ := t
  exact ⟨d, l, fl, a, p, n1, a1, a2, e1⟩
theorem Two.mk {H6 : Hp} {e : Addr} (s : Side CN H6 x f zs) (ng : H6 g = none) (c : Same H6 H') (hy : NoteAt CN H' y e []) (hg : H' g = some (.dK [])) (eg : e ≠ g) (ny : H6 y = none) (ne : H6 e = none) : Two CN H' x y f g zs := by
  obtain ⟨d, l, fl, hx, hf, df, a, b, e1⟩ := s.ex
  obtain ⟨dx, hxx⟩ := id hx.1
  exact ⟨d, l, fl, e, [], [], hx.keep (Chg.same c []) (by simp) (by simp), hy, c _ _ hf, hg, ⟨df, ne_of_none hx.2.1 ng, (ne_of_none hf ne).symm, eg, ne_of_none hf ng, ne_of_none hxx ny⟩,
    ⟨a, b, ⟨List.nodup_nil, fun p h => by simp at h⟩, ⟨List.nodup_nil, fun p h => by simp at h⟩⟩, e1, fun z => rfl⟩
/-- x[z] = n, f[z] = n -/
theorem Two.step (t : Two CN H x y f g zs) {z : Str} (hz : z ∈ zs) (n : Int) (h6 : zs.length ≤ 6) {S : List (Addr × List V)} (hS : ∀ p ∈ S, H p.1 = some (.lst p.2)) :
    ∃ dx fs d l, H x = some (.ins CN dx fs) ∧ NoteAt CN H x d l ∧ l.length < 60 ∧ ∀ D H4, H D = none → Chg [x] H H4 → NoteAt CN H4 x D (nz (iput l z n)) →
      ∃ fl, H4 f = some (.dK (sk (ik fl))) ∧ fl.length < 64 ∧ Two CN (upd H4 f (.dK (sk (ik (iput fl z n))))) x y f g zs ∧ ∀ p ∈ S, (upd H4 f (.dK (sk (ik (iput fl z n))))) p.1 = some (.lst p.2) := by
  obtain ⟨d, l, fl, e, m, gl, hx, hy, hf, hg, ⟨n1, n2, n3, n4, n5, n6⟩, ⟨a1, a2, a3, a4⟩, e1, e2⟩ := t
  obtain ⟨dx, hxx⟩ := id hx.1
  obtain ⟨dy, hyy⟩ := id hy.1
  have ll := a2.len
  have lf := a1.len
  refine ⟨dx, _, d, l, hxx, hx, by omega, fun D H4 nD c4 hx4 => ?_⟩
  have nx : ∀ {b o}, H b = some o → (∀ dx fs, o ≠ .ins CN dx fs) → b ∉ [x] := fun h n e => by
    rw [List.mem_singleton.mp e, hxx] at h
    cases h
    exact n _ _ rfl
  have hf4 := c4 _ _ (nx hf (fun _ _ z => by cases z)) hf
  have hg4 := c4 _ _ (nx hg (fun _ _ z => by cases z)) hg
  have hy4 := hy.keep c4 (by simpa using n6.symm) (nx hy.2.1 (fun _ _ z => by cases z))
  have Df : D ≠ f := (ne_of_none hf nD).symm
  have Dg : D ≠ g := (ne_of_none hg nD).symm
  obtain ⟨dx4, hxx4⟩ := id hx4.1
  obtain ⟨dy4, hyy4⟩ := id hy4.1
  have cf : Chg [f] H4 (upd H4 f (.dK (sk (ik (iput fl z n))))) := Chg.set (by simp)
  have nf : ∀ {b o}, H4 b = some o → (∀ kvs, o ≠ .dK kvs) → b ∉ [f] := fun h n e => by
    rw [List.mem_singleton.mp e, hf4] at h
    cases h
    exact n _ rfl
  refine ⟨fl, hf4, by omega, ⟨D, nz (iput l z n), iput fl z n, e, m, gl, hx4.keep cf (nf hxx4 (fun _ z => by cases z)) (by simpa using Df), hy4.keep cf (nf hyy4 (fun _ z => by cases z)) (by simpa using n3), upd_same, cf _ _ (by simpa using n5.symm) hg4,
    ⟨Df, Dg, n3, n4, n5, n6⟩, ⟨a1.put n hz, (a2.put n hz).nz, a3, a4⟩, fun u => ?_, e2⟩, fun p hp => ?_⟩
  · rw [nz_look (a2.put n hz).1, iput_look, iput_look]
    by_cases h : u = z
    · rw [if_pos h, if_pos h]
    · rw [if_neg h, if_neg h]; exact e1 u
  · have q := c4 _ _ (nx (hS p hp) (fun _ _ z => by cases z)) (hS p hp)
    exact cf _ _ (nf q (fun _ z => by cases z)) q
end
section
variable {P : Program} {w : World} {K : PySem.W.Frag} {mg : Str → Option Value} {base : Heap} {CN : Addr}
def spLaw (K : PySem.W.Frag) : Sp := fun vs H Q _ => ∃ (a : Addr) (ns : List Int), vs = [.ref a] ∧ SqL K H a (ns.map V.int) ∧ ns.length ≤ 63 ∧ ∀ H', Q (.bl true) H'
theorem right_pre {H : Hp} {x f : Addr} {zs : List Str} (h : Side CN H x f zs) (hz : zs.length ≤ 6) (hn : ∀ z ∈ zs, IsName z) :
    ∃ d l fl, NoteAt CN H x d l ∧ H f = some (.dK (sk (ik fl))) ∧ (fl.map (·.1)).Nodup ∧ fl.length < 64 ∧ (∀ z, (l.lookup z).getD 0 = (fl.lookup z).getD 0) ∧ ∀ p ∈ l, Sgn p.1 := by
  obtain ⟨d, l, fl, hx, hf, df, a, b, e⟩ := h.ex
  have := a.len
  exact ⟨d, l, fl, hx, hf, a.1, by omega, e, fun p hp => (hn _ (b.2 p hp)).sgn⟩
theorem ok_law {f : Addr} {fd : FuncData} {k : Nat} (F : Fun2 K "law" "law" s_law f fd) (T : Txt K mg CN)
    (D__law_pool : DefOk P w K mg base k "_law_pool" ["cell"] spPool) (D__law_cell : DefOk P w K mg base k "_law_cell" ["script", "k"] (spCell K)) (D__law_draw : DefOk P w K mg base k "_law_draw" ["pool", "many"] spDraw)
    (D__law_names : DefOk P w K mg base k "_law_names" ["pool", "many"] spNames) (D__law_integer : DefOk P w K mg base k "_law_integer" ["pool"] spInteger) (D__law_right : DefOk P w K mg base k "_law_right" ["notes", "values", "names"] (spRight CN))
    (I_Notes : InitOk P w K mg base "Notes" CN k ["self", "values"] (spInit CN)) (I0_Notes : Init0 P w K mg base "Notes" CN k ["self", "values"] (spInit CN)) (M_Notes___setitem__ : MethOk P w K mg base CN k "__setitem__" ["self", "at", "worth"] (spSet CN)) :
    FnOk P w K mg base CX0 (k + 2) f fd ["script"] (spLaw K) := by
  refine F.ok sc_law (fun vs H Q E h => ?_) (fun cdv A outer s H vs Q E hr h => ?_)
  · obtain ⟨a, ns, rfl, _⟩ := h
    rfl
  · obtain ⟨a, ns, rfl, hS, hlen, q⟩ := h
    have hr1 : Room (k + 1) _ := hr
    refine ⟨_, (pss_cons (ps_set (i := 1) sc_law.nd rfl (Or.inl rfl) (pe_callD D__law_pool (hr.mono (by omega)) (by rfl) (pa_cons (pe_callD D__law_cell (hr.mono (by omega)) (by rfl) (pa_cons (pv 0) (pa_cons pe_int pa_nil))) pa_nil)))
      (pss_cons (ps_set (i := 2) sc_law.nd rfl (Or.inl rfl) (pe_callD D__law_draw (hr.mono (by omega)) (by rfl) (pa_cons (pv 1) (pa_cons pe_int pa_nil))))
      (pss_cons (ps_set (i := 3) sc_law.nd rfl (Or.inl rfl) (pe_callD D__law_draw (hr.mono (by omega)) (by rfl) (pa_cons (pv 1) (pa_cons pe_int pa_nil))))
      (pss_cons (ps_set (i := 4) sc_law.nd rfl (Or.inl rfl) (pe_callD D__law_names (hr.mono (by omega)) (by rfl) (pa_cons (pv 1) (pa_cons pe_int pa_nil))))
      (pss_cons (ps_set (i := 1) sc_law.nd rfl (Or.inl rfl) (pe_callD D__law_pool (hr.mono (by omega)) (by rfl) (pa_cons (pe_callD D__law_cell (hr.mono (by omega)) (by rfl) (pa_cons (pv 0) (pa_cons pe_int pa_nil))) pa_nil)))
      (pss_cons (ps_set (i := 5) sc_law.nd rfl (Or.inl rfl) pe_dnewK)
      (pss_cons (ps_for PassesOwn.never rfl (pi_range1 rfl T.z_range (pa_cons (pv 2) pa_nil)) (pg_name (i := 6) sc_law.nd rfl (Or.inl rfl))
        (pss_cons (ps_set (i := 7) sc_law.nd rfl (Or.inl rfl) (pe_callD D__law_draw (hr.mono (by omega)) (by rfl) (pa_cons (pv 1) (pa_cons pe_int pa_nil))))
          (pss_one (ps_dput (hu_of hr) (pv 5) (pe_ix (ixLK (K := K) rfl) (pv 4) (pv 7) (fun _ _ => rfl)) (pe_callD D__law_integer (hr.mono (by omega)) (by rfl) (pa_cons (pv 1) pa_nil)) rfl))))
      (pss_cons (ps_set (i := 8) sc_law.nd rfl (Or.inl rfl) (pe_callTy call_dict (by rfl) T.z_dict (by decide +kernel) (pa_cons (pv 5) pa_nil)))
      (pss_cons (ps_set (i := 9) sc_law.nd rfl (Or.inl rfl) (pe_makeD I_Notes (hr.mono (by omega)) (by rfl) (pa_cons (pv 8) pa_nil)))
      (pss_cons (ps_if (pt_cmpR (op_ne_dictA hr.units0) (pv 8) (pv 5) (nomark _))
        (pss_one (ps_ret pe_bl))
        pss_nil)
      (pss_cons (ps_dput (hu_of hr) (pv 8) (pe_ix (ixLK (K := K) rfl) (pv 4) pe_int (fun _ _ => rfl)) (pe_op op_add (pe_dget2 (hu_of hr) (pv 5) (pe_ix (ixLK (K := K) rfl) (pv 4) pe_int (fun _ _ => rfl)) pe_int ⟨by rfl, by rfl, by rfl, by rfl⟩) pe_int) rfl)
      (pss_cons (ps_set (i := 10) sc_law.nd rfl (Or.inl rfl) pe_dnewK)
      (pss_cons (ps_set (i := 11) sc_law.nd rfl (Or.inl rfl) (pe_makeD0 I0_Notes (hr.mono (by omega)) (by rfl)))
      (Evl.pss_cut (ps_if (pt_cmpR op_eq (pv 3) pe_int (nomark _))
        (pss_one (ps_set (i := 11) sc_law.nd rfl (Or.inl rfl) (pe_makeD I_Notes (hr.mono (by omega)) (by rfl) (pa_cons pe_non pa_nil))))
        pss_nil)
      (pss_cons (ps_for PassesOwn.never rfl (piL (K := K) rfl (pe_slice (slLK (K := K) rfl) (pv 0) (po_some pe_int) po_none)) (pg_name (i := 12) sc_law.nd rfl (Or.inl rfl))
        (pss_cons (ps_set (i := 1) sc_law.nd rfl (Or.inl rfl) (pe_callD D__law_pool (hr.mono (by omega)) (by rfl) (pa_cons (pv 12) pa_nil)))
          (pss_cons (ps_set (i := 13) sc_law.nd rfl (Or.inl rfl) (pe_callD D__law_draw (hr.mono (by omega)) (by rfl) (pa_cons (pv 1) (pa_cons pe_int pa_nil))))
          (pss_cons (ps_set (i := 14) sc_law.nd rfl (Or.inl rfl) (pe_ix (ixLK (K := K) rfl) (pv 4) (pe_callD D__law_draw (hr.mono (by omega)) (by rfl) (pa_cons (pv 1) (pa_cons pe_int pa_nil))) (fun _ _ => rfl)))
          (pss_cons (ps_set (i := 6) sc_law.nd rfl (Or.inl rfl) (pe_callD D__law_integer (hr.mono (by omega)) (by rfl) (pa_cons (pv 1) pa_nil)))
          (Evl.pss_cut (ps_if (pt_cmpR op_eq (pv 13) pe_int (nomark _))
            (pss_cons (ps_asg (pv 6) (pg_sub (pv 9) (pv 14) (set_own M_Notes___setitem__ T.q_Notes (hr.mono (by omega)))))
              (pss_one (ps_dput (hu_of hr) (pv 5) (pv 14) (pv 6) rfl)))
            (pss_cons (ps_asg (pv 6) (pg_sub (pv 11) (pv 14) (set_own M_Notes___setitem__ T.q_Notes (hr.mono (by omega)))))
              (pss_one (ps_dput (hu_of hr) (pv 10) (pv 14) (pv 6) rfl))))
          (pss_one (ps_if (PW.pt (pw_or (pt_not (pt_val (pe_callD D__law_right (hr.mono (by omega)) (by rfl) (pa_cons (pv 9) (pa_cons (pv 5) (pa_cons (pv 4) pa_nil)))))) (pw_or1 (pt_not (pt_val (pe_callD D__law_right (hr.mono (by omega)) (by rfl) (pa_cons (pv 11) (pa_cons (pv 10) (pa_cons (pv 4) pa_nil)))))))))
            (pss_one (ps_ret pe_bl))
            pss_nil))))))))
      (pss_one (ps_ret (pe_and (pe_callD D__law_right (hr.mono (by omega)) (by rfl) (pa_cons (pv 9) (pa_cons (pv 5) (pa_cons (pv 4) pa_nil)))) (pe_one (pe_callD D__law_right (hr.mono (by omega)) (by rfl) (pa_cons (pv 11) (pa_cons (pv 10) (pa_cons (pv 4) pa_nil))))))))))))))))))))))), ?_⟩
    refine ⟨_, rfl, a, ns, 0, rfl, hS, by decide, fun c0 => ⟨c0, rfl, fun p0 n0 np0 => ?_⟩⟩
    have s0 : Same H (upd H p0 (.lst [.int n0])) := same_new np0
    refine ⟨_, rfl, p0, 7, n0, rfl, upd_same, by decide, by decide +kernel, fun many n1 m0 m7 => ?_⟩
    rw [upd_upd]
    refine ⟨_, rfl, p0, 2, n1, rfl, upd_same, by decide, by decide +kernel, fun noth n2 o0 o2 => ?_⟩
    rw [upd_upd]
    refine ⟨_, rfl, p0, 6, n2, rfl, upd_same, by decide, by decide, fun nm H1 n3 zs nnm c1 hp1 hnm hzl hzs => ?_⟩
    have hzl : zs.length = 6 := hzl
    have s1 : Same H H1 := fun b o e => by
      have hb : b ≠ p0 := ne_of_none e np0
      exact c1 b o (by simpa using hb) (by rw [upd_ne hb]; exact e)
    refine ⟨_, rfl, a, ns, 1, rfl, s1.seq hS, by decide, fun c1 => ⟨c1, rfl, fun p1 n4 np1 => ?_⟩⟩
    have p1nm : nm ≠ p1 := ne_of_none hnm np1
    refine fun f nf => ?_
    have s2 : Same H (upd (upd H1 p1 (.lst [.int n4])) f (.dK [])) := Same.put (Same.put s1 (s1.free np1)) (s1.free ((same_new np1).free nf))
    have p1f : p1 ≠ f := fun e => by rw [← e, upd_same] at nf; cases nf
    have nmf : nm ≠ f := fun e => by rw [← e, upd_ne p1nm, hnm] at nf; cases nf
    -- the loop that fills first
    refine ⟨_, rfl, many, rfl, by omega, by omega, for_range (lo := 0) (n := many.toNat) (fun i σ' H' => ∃ n fl v6 v7 v8 v9 v10 v11 v12 v13 v14, σ' = [some (.ref a), some (.ref p1), some (.int many), some (.int noth), some (.ref nm), some (.ref f), v6, v7, v8, v9, v10, v11, v12, v13, v14] ∧ Same H H' ∧ H' p1 = some (.lst [.int n]) ∧ H' nm = some (.lst (zs.map V.str)) ∧ H' f = some (.dK (sk (ik fl))) ∧ Among zs fl)
      ⟨n4, [], _, _, _, _, _, _, _, _, _, rfl, s2, by rw [upd_ne p1f, upd_same], by rw [upd_ne nmf, upd_ne p1nm]; exact hnm, upd_same, List.nodup_nil, fun p h => by simp at h⟩ (fun i σ' H' hi p => ?_) (fun σ' H' p => ?_)⟩
    · obtain ⟨n, fl, v6, v7, v8, v9, v10, v11, v12, v13, v14, rfl, sm, hp, hn, hf, am⟩ := p
      have npH : H p1 = none := s1.free np1
      have nfH : H f = none := s1.free ((same_new np1).free nf)
      refine ⟨_, rfl, p1, 6, n, rfl, hp, by decide, by decide +kernel, fun at' n5 a0 a6 => ?_⟩
      refine ⟨_, rfl, p1, n5, rfl, upd_same, fun val n6 => ?_⟩
      rw [upd_upd]
      have hz : zs[at'.toNat]? = some zs[at'.toNat] := List.getElem?_eq_getElem (by omega)
      have hn' : (upd H' p1 (.lst [.int n6])) nm = some (.lst (zs.map V.str)) := by rw [upd_ne p1nm]; exact hn
      have hf' : (upd H' p1 (.lst [.int n6])) f = some (.dK (sk (ik fl))) := by rw [upd_ne p1f.symm]; exact hf
      refine ⟨_, rfl, _, rfl, _, rfl, nm, _, _, _, rfl, rfl, .inl (.inl hn'), at_of (j := at'.toNat) (by omega) (by rw [List.getElem?_map, hz]; rfl), f, _, rfl, dput_s _ (.int val) hf' (by rw [ik_len]; have := am.len; exact small1000 (by omega)), ?_⟩
      refine ⟨n6, iput fl zs[at'.toNat] val, _, _, _, _, _, _, _, _, _, rfl, Same.put (Same.put sm npH) nfH, by rw [upd_ne p1f, upd_same], by rw [upd_ne nmf]; exact hn', by rw [upd_same, ik_put], am.put val (List.getElem_mem _)⟩
    obtain ⟨n, fl, v6, v7, v8, v9, v10, v11, v12, v13, v14, rfl, sm, hp, hn, hf, am⟩ := p
    have fl6 := am.len
    -- passed = dict(first); notes = Notes(passed)
    refine ⟨_, rfl, f, _, rfl, .inl hf, fun pa npa => ?_⟩
    have s3 : Same H' (upd H' pa (.dK (sk (ik fl)))) := same_new npa
    have fpa : f ≠ pa := ne_of_none hf npa
    refine ⟨_, rfl, fun x dx nx ndx dxx => ?_⟩
    have s4 : Same (upd H' pa (.dK (sk (ik fl)))) (upd (upd (upd H' pa (.dK (sk (ik fl)))) dx (.own x)) x (.ins CN dx [])) := Same.put (same_new ndx) nx
    refine ⟨x, dx, _, fl, rfl, upd_same, .inr ⟨pa, rfl, s4 _ _ upd_same⟩, by omega, am.1, fun d H5 nd c5 hx5 => ⟨rfl, ?_⟩⟩
    have s5 : Same (upd H' pa (.dK (sk (ik fl)))) H5 := fun b o e => c5 b o (by simpa using ne_of_none e nx) (s4 b o e)
    have hf5 := s5 _ _ (s3 _ _ hf)
    have hpa5 := s5 _ _ upd_same
    have df : d ≠ f := fun e => by rw [e, s4 _ _ (s3 _ _ hf)] at nd; cases nd
    have dpa : d ≠ pa := fun e => by rw [e, s4 _ _ upd_same] at nd; cases nd
    have xpa : x ≠ pa := fun e => by rw [e, upd_same] at nx; cases nx
    have sd5 : Side CN H5 x f zs := ⟨d, nz fl, fl, hx5, hf5, df, am, am.nz, fun z => nz_look am.1 z⟩
    have hn5 := s5 _ _ (s3 _ _ hn)
    -- passed != first
    refine ⟨_, rfl, _, rfl, pa, f, _, _, rfl, rfl, hpa5, hf5, rfl, fun p hp => ⟨?_, ?_⟩, _, rfl, ?_⟩
    · obtain ⟨⟨z, v⟩, hz, rfl⟩ := List.mem_map.mp hp
      obtain ⟨i, hi, e⟩ := List.mem_iff_getElem.mp hz
      exact sVal_at (i := i) (by rw [ik_keys]; exact am.1) (by rw [List.getElem?_eq_getElem hi, e])
    · obtain ⟨⟨z, v⟩, hz, rfl⟩ := List.mem_map.mp hp
      obtain ⟨⟨z', n'⟩, hz', e⟩ := List.mem_map.mp hz
      cases e
      rfl
    -- passed[names[0]] = first.get(names[0], 0) + 1
    have h0 : zs[0]? = some (zs[0]'(by omega)) := List.getElem?_eq_getElem _
    have e0 : atI (zs.map V.str) 0 = some (.str (zs[0]'(by omega))) := atI_nat (j := 0) (by rw [List.getElem?_map, h0]; rfl)
    have eF : ∀ z, (sVal (ik fl) z).getD (.int 0) = .int ((fl.lookup z).getD 0) := fun z => by rw [ik_val]; cases fl.lookup z <;> rfl
    refine ⟨_, rfl, f, rfl, .inl ⟨_, .inl hf5⟩, _, rfl, nm, _, _, _, rfl, rfl, .inl (.inl hn5), e0, _, dget_s _ (.inl hf5), ?_⟩
    rw [eF]
    refine ⟨_, _, rfl, rfl, _, rfl, _, rfl, nm, _, _, _, rfl, rfl, .inl (.inl hn5), e0, pa, _, rfl, dput_s _ _ hpa5 (by rw [ik_len]; exact small1000 (by omega)), ?_⟩
    generalize hH6 : upd H5 pa _ = H6
    have c6 : Chg [pa] H5 H6 := by rw [← hH6]; exact Chg.set (by simp)
    have sd6 : Side CN H6 x f zs := sd5.keep c6 fun b hb o ho => by
      rw [List.mem_singleton.mp hb]
      exact ⟨xpa.symm, fpa.symm, fun d' l' h' => by
        obtain ⟨dx1, q1⟩ := h'.1
        obtain ⟨dx2, q2⟩ := hx5.1
        rw [q1] at q2
        cases q2
        exact dpa.symm⟩
    have hnpa : nm ≠ pa := ne_of (s3 _ _ hn) upd_same (by intro z; cases z)
    have hn6 : H6 nm = some (.lst (zs.map V.str)) := c6 _ _ (by simpa using hnpa) hn5
    have s6 : Same H H6 := fun b o e => by
      have hb : b ≠ pa := ne_of_none e (sm.free npa)
      exact c6 b o (by simpa using hb) (s5 b o (s3 b o (sm b o e)))
    -- second = {}; other = Notes(), Notes(None)
    refine fun g ng => ?_
    have s7 : Same H6 (upd H6 g (.dK [])) := same_new ng
    refine fun y dy ny ndy dyy => ?_
    have s8 : Same (upd H6 g (.dK [])) (upd (upd (upd H6 g (.dK [])) dy (.own y)) y (.ins CN dy [])) := Same.put (same_new ndy) ny
    refine ⟨y, dy, _, [], rfl, upd_same, .inl ⟨rfl, rfl⟩, by decide, List.nodup_nil, fun e H9 ne c9 hy9 => ⟨rfl, ?_⟩⟩
    have s9 : Same (upd H6 g (.dK [])) H9 := fun b o h => c9 b o (by simpa using ne_of_none h ny) (s8 b o h)
    have hg9 : H9 g = some (.dK (sk (ik []))) := s9 _ _ upd_same
    have eg : e ≠ g := fun z => by rw [z, s8 _ _ upd_same] at ne; cases ne
    have sdx9 : Side CN H9 x f zs := (sd6.same s7).same s9
    have sdy9 : Side CN H9 y g zs := ⟨e, [], [], hy9, hg9, eg, ⟨List.nodup_nil, fun p h => by simp at h⟩, ⟨List.nodup_nil, fun p h => by simp at h⟩, fun z => rfl⟩
    have hn9 := s9 _ _ (s7 _ _ hn6)
    have s09 : Same H H9 := (s6.trans s7).trans s9
    have fg : f ≠ g := by
      obtain ⟨_, _, fl', _, h2, _⟩ := sd6.ex
      exact ne_of_none h2 ng
    refine ⟨fun σ' H' => ∃ y, σ' = [some (.ref a), some (.ref p1), some (.int many), some (.int noth), some (.ref nm), some (.ref f), v6, v7, some (.ref pa), some (.ref x), some (.ref g), some (.ref y), v12, v13, v14] ∧ Same H H' ∧ Two CN H' x y f g zs ∧ H' nm = some (.lst (zs.map V.str)), ?_, fun σ' H' hM => ?_⟩
    · have tw : Two CN H9 x y f g zs := Two.mk sd6 ng (s7.trans s9) hy9 hg9 eg (s7.free ny) (s7.free (s8.free ne))
      refine ⟨_, rfl, rfl, _, rfl, ite2 (fun _ => ?_) (fun _ => ⟨y, rfl, s09, tw, hn9⟩)⟩
      refine fun y2 dy2 ny2 ndy2 dyy2 => ?_
      have s10 : Same H9 (upd (upd H9 dy2 (.own y2)) y2 (.ins CN dy2 [])) := Same.put (same_new ndy2) ny2
      refine ⟨y2, dy2, _, [], rfl, upd_same, .inl ⟨rfl, rfl⟩, by decide, List.nodup_nil, fun e2 H11 ne2 c11 hy11 => ⟨rfl, ?_⟩⟩
      have s11 : Same H9 H11 := fun b o h => c11 b o (by simpa using ne_of_none h ny2) (s10 b o h)
      have hg11 : H11 g = some (.dK (sk (ik []))) := s11 _ _ hg9
      have eg2 : e2 ≠ g := fun z => by rw [z, s10 _ _ hg9] at ne2; cases ne2
      exact ⟨y2, rfl, s09.trans s11, Two.mk sd6 ng ((s7.trans s9).trans s11) hy11 hg11 eg2 ((s7.trans s9).free ny2) ((s7.trans s9).free (s10.free ne2)), s11 _ _ hn9⟩
    obtain ⟨y, rfl, s12, tw, hn12⟩ := hM
    -- for cell in script[2:]
    refine ⟨_, rfl, 2, rfl, a, _, rfl, s12.seq hS, fun c nc => ?_⟩
    have sc : Same H' (upd H' c (.lst (cutV (ns.map V.int) (some 2) none))) := same_new nc
    have hcs : SqL K (upd H' c (.lst (cutV (ns.map V.int) (some 2) none))) c (cutV (ns.map V.int) (some 2) none) := .inl (.inl upd_same)
    have scr : ∀ (i : Nat) v, (cutV (ns.map V.int) (some 2) none)[i]? = some v → ∃ n, v = V.int n := fun (i : Nat) v hv => by
      have m := List.mem_of_getElem? hv
      obtain ⟨n, _, e⟩ := List.mem_map.mp (List.mem_of_mem_drop (List.mem_of_mem_take m))
      exact ⟨n, e.symm⟩
    generalize cutV (ns.map V.int) (some 2) none = cells at sc hcs scr ⊢
    refine ⟨c, rfl, ⟨_, hcs⟩, for_list (K := K) (a := c) (xs := cells) (fun i σ2 H2 => ∃ v1 v6 v12 v13 v14, σ2 = [some (.ref a), v1, some (.int many), some (.int noth), some (.ref nm), some (.ref f), v6, v7, some (.ref pa), some (.ref x), some (.ref g), some (.ref y), v12, v13, v14] ∧ H2 c = some (.lst cells) ∧ Two CN H2 x y f g zs ∧ H2 nm = some (.lst (zs.map V.str)))
      ⟨_, _, _, _, _, rfl, upd_same, tw.same sc, sc _ _ hn12⟩ (fun i σ2 H2 _ p => by obtain ⟨_, _, _, _, _, _, h, _⟩ := p; exact .inl (.inl h)) (fun i v σ2 H2 hi p => ?_) (fun σ2 H2 p => ?_)⟩
    · obtain ⟨cell, rfl⟩ := scr i v hi
      obtain ⟨v1, v6, v12, v13, v14, rfl, hc2, t2, hn2⟩ := p
      refine ⟨_, rfl, cell, rfl, fun p2 m0 np2 => ?_⟩
      refine ⟨_, rfl, p2, 2, m0, rfl, upd_same, by decide, by decide +kernel, fun which m1 w0 w1 => ?_⟩
      rw [upd_upd]
      have p2nm : nm ≠ p2 := ne_of_none hn2 np2
      refine ⟨_, rfl, _, rfl, p2, 6, m1, rfl, upd_same, by decide, by decide +kernel, fun at' m2 a0 a1 => ?_⟩
      rw [upd_upd]
      have hz : zs[at'.toNat]? = some zs[at'.toNat] := List.getElem?_eq_getElem (by omega)
      have hzm : zs[at'.toNat] ∈ zs := List.getElem_mem _
      refine ⟨nm, _, _, _, rfl, rfl, .inl (.inl (by rw [upd_ne p2nm]; exact hn2)), at_of (j := at'.toNat) (by omega) (by rw [List.getElem?_map, hz]; rfl), ?_⟩
      refine ⟨_, rfl, p2, m2, rfl, upd_same, fun val m3 => ?_⟩
      rw [upd_upd]
      have s13 : Same H2 (upd H2 p2 (.lst [.int m3])) := same_new np2
      have t3 := t2.same s13
      have hn3 := s13 _ _ hn2
      have hc3 := s13 _ _ hc2
      generalize upd H2 p2 (.lst [.int m3]) = H3 at t3 hn3 hc3 s13 ⊢
      generalize zs[at'.toNat] = z at hzm ⊢
      have hS : ∀ p ∈ [(nm, zs.map V.str), (c, cells)], H3 p.1 = some (.lst p.2) := fun p hp => by
        rcases List.mem_cons.mp hp with e | hp
        · rw [e]; exact hn3
        · rw [List.mem_singleton.mp hp]; exact hc3
      refine ⟨fun σ4 H4 => σ4 = [some (.ref a), some (.ref p2), some (.int many), some (.int noth), some (.ref nm), some (.ref f), some (.int val), v7, some (.ref pa), some (.ref x), some (.ref g), some (.ref y), some (.int cell), some (.int which), some (.str z)] ∧ H4 c = some (.lst cells) ∧ Two CN H4 x y f g zs ∧ H4 nm = some (.lst (zs.map V.str)), ?_, fun σ4 H4 h4 => ?_⟩
      · refine ⟨_, rfl, rfl, _, rfl, ite2 (fun _ => ?_) (fun _ => ?_)⟩
        · obtain ⟨dx, fs, d, l, hxx, hN, hl, go⟩ := t3.step hzm val (by omega) hS
          refine ⟨_, rfl, _, rfl, _, rfl, x, dx, fs, rfl, hxx, x, d, l, z, val, rfl, hN, hl, fun D H4 nD c4 hx4 => ?_⟩
          obtain ⟨fl, hf4, lf, t5, hS5⟩ := go D H4 nD c4 hx4
          refine ⟨_, rfl, _, rfl, _, rfl, f, _, rfl, dput_s _ _ hf4 (by rw [ik_len]; exact small1000 (by omega)), ?_⟩
          rw [ik_put]
          exact ⟨rfl, hS5 (c, cells) (by simp), t5, hS5 (nm, zs.map V.str) (by simp)⟩
        · obtain ⟨dx, fs, d, l, hxx, hN, hl, go⟩ := t3.swap.step hzm val (by omega) hS
          refine ⟨_, rfl, _, rfl, _, rfl, y, dx, fs, rfl, hxx, y, d, l, z, val, rfl, hN, hl, fun D H4 nD c4 hx4 => ?_⟩
          obtain ⟨fl, hf4, lf, t5, hS5⟩ := go D H4 nD c4 hx4
          refine ⟨_, rfl, _, rfl, _, rfl, g, _, rfl, dput_s _ _ hf4 (by rw [ik_len]; exact small1000 (by omega)), ?_⟩
          rw [ik_put]
          exact ⟨rfl, hS5 (c, cells) (by simp), t5.swap, hS5 (nm, zs.map V.str) (by simp)⟩
      · obtain ⟨rfl, hc4, t4, hn4⟩ := h4
        obtain ⟨d1, l1, g1, p1, p2', p3, p4, p5, p6⟩ := right_pre t4.left (by omega) hzs
        refine ⟨_, rfl, _, rfl, _, rfl, x, f, nm, d1, l1, g1, zs, rfl, p1, p2', p3, p4, hn4, by omega, p5, p6, fun H5 s5 => ?_⟩
        obtain ⟨d2, l2, g2, r1, r2, r3, r4, r5, r6⟩ := right_pre (t4.swap.left.same s5) (by omega) hzs
        refine ⟨_, rfl, _, rfl, _, rfl, _, rfl, y, g, nm, d2, l2, g2, zs, rfl, r1, r2, r3, r4, s5 _ _ hn4, by omega, r5, r6, fun H6' s6' => ⟨_, rfl, ?_⟩⟩
        exact ⟨_, _, _, _, _, rfl, s6' _ _ (s5 _ _ hc4), (t4.same s5).same s6', s6' _ _ (s5 _ _ hn4)⟩
    · obtain ⟨v1, v6, v12, v13, v14, rfl, hc2, t2, hn2⟩ := p
      obtain ⟨d1, l1, g1, p1, p2', p3, p4, p5, p6⟩ := right_pre t2.left (by omega) hzs
      refine ⟨_, rfl, _, rfl, _, rfl, x, f, nm, d1, l1, g1, zs, rfl, p1, p2', p3, p4, hn2, by omega, p5, p6, fun H5 s5 => ⟨_, rfl, ?_⟩⟩
      obtain ⟨d2, l2, g2, r1, r2, r3, r4, r5, r6⟩ := right_pre (t2.swap.left.same s5) (by omega) hzs
      exact ⟨_, rfl, _, rfl, _, rfl, y, g, nm, d2, l2, g2, zs, rfl, r1, r2, r3, r4, s5 _ _ hn2, by omega, r5, r6, fun H6' s6' => q H6'⟩
end
end T
namespace T
open PySem PySem.Spec PyProof.Rows L2 M
theorem all_mk {l : PySem.W.OpenLaw} {w : World} {K : PySem.W.Frag} {h : Heap} {mg : Str → Option Value} {fa : Addr} (X : K.In h) (G : h.Ns mainGlobals mg) (hfa : mg "law" = some (.ref fa))
    {CNotes fin_order f_without_zeros f_law_cell f_law_pool f_law_draw f_law_names f_law_integer f_law_is_integer f_law_pairs f_law_same_pairs f_law_right flaw fNotes___init__ tNotes___init__ fNotes___getitem__ fNotes___setitem__ fNotes___contains__ fNotes___len__ fNotes_pairs : Addr} {ocin_order kVin_order dcin_order pmin_order cdin_order ctin_order oc_without_zeros kV_without_zeros dc_without_zeros pm_without_zeros cd_without_zeros ct_without_zeros oc_law_cell kV_law_cell dc_law_cell pm_law_cell cd_law_cell ct_law_cell oc_law_pool kV_law_pool dc_law_pool pm_law_pool cd_law_pool ct_law_pool oc_law_draw kV_law_draw dc_law_draw pm_law_draw cd_law_draw ct_law_draw oc_law_names kV_law_names dc_law_names pm_law_names cd_law_names ct_law_names oc_law_integer kV_law_integer dc_law_integer pm_law_integer cd_law_integer ct_law_integer oc_law_is_integer kV_law_is_integer dc_law_is_integer pm_law_is_integer cd_law_is_integer ct_law_is_integer oc_law_pairs kV_law_pairs dc_law_pairs pm_law_pairs cd_law_pairs ct_law_pairs oc_law_same_pairs kV_law_same_pairs dc_law_same_pairs pm_law_same_pairs cd_law_same_pairs ct_law_same_pairs oc_law_right kV_law_right dc_law_right pm_law_right cd_law_right ct_law_right oclaw kVlaw dclaw pmlaw cdlaw ctlaw ocNotes___init__ kVNotes___init__ dcNotes___init__ pmNotes___init__ cdNotes___init__ ctNotes___init__ tcNotes___init__ ocNotes___getitem__ kVNotes___getitem__ dcNotes___getitem__ pmNotes___getitem__ cdNotes___getitem__ ctNotes___getitem__ ocNotes___setitem__ kVNotes___setitem__ dcNotes___setitem__ pmNotes___setitem__ cdNotes___setitem__ ctNotes___setitem__ ocNotes___contains__ kVNotes___contains__ dcNotes___contains__ pmNotes___contains__ cdNotes___contains__ ctNotes___contains__ ocNotes___len__ kVNotes___len__ dcNotes___len__ pmNotes___len__ cdNotes___len__ ctNotes___len__ ocNotes_pairs kVNotes_pairs dcNotes_pairs pmNotes_pairs cdNotes_pairs ctNotes_pairs : Value} {odin_order anin_order od_without_zeros an_without_zeros od_law_cell an_law_cell od_law_pool an_law_pool od_law_draw an_law_draw od_law_names an_law_names od_law_integer an_law_integer od_law_is_integer an_law_is_integer od_law_pairs an_law_pairs od_law_same_pairs an_law_same_pairs od_law_right an_law_right odlaw anlaw odNotes___init__ anNotes___init__ tdNotes___init__ odNotes___getitem__ anNotes___getitem__ odNotes___setitem__ anNotes___setitem__ odNotes___contains__ anNotes___contains__ odNotes___len__ anNotes___len__ odNotes_pairs anNotes_pairs : Option Addr} {slin_order sl_without_zeros sl_law_cell sl_law_pool sl_law_draw sl_law_names sl_law_integer sl_law_is_integer sl_law_pairs sl_law_same_pairs sl_law_right sllaw slNotes___init__ tsNotes___init__ slNotes___getitem__ slNotes___setitem__ slNotes___contains__ slNotes___len__ slNotes_pairs : Array (Option Value)} {tnNotes___init__ : Nat}
    (aCNotes : PySem.W.nsIn K mainGlobals "Notes" = some (some (.ref CNotes)))
    (pgNotes : PySem.W.plainGet K CNotes Str.empty = true)
    (hdNotes : PySem.W.hasDictIn K CNotes = true)
    (poNotes : PySem.W.plainOver K CNotes = true)
    (saNotes : PySem.W.findIn K (.ref CNotes) "__setattr__" = some (some (.builtin "object.__setattr__")))
    (mkNotes : PySem.W.makesIn K CNotes = true)
    (kcNotes : PySem.W.keepIn K (.ref CNotes) = true)
    (nsNotes : PySem.W.noSeq K CNotes = true)
    (sfNotes : PySem.W.selfFirst K CNotes = true)
    (nNotes__values : PySem.W.findIn K (.ref CNotes) "_values" = some none)
    (z_sorted : PySem.W.nsIn K mainGlobals "sorted" = some none)
    (z_str : PySem.W.nsIn K mainGlobals "str" = some none)
    (z_int : PySem.W.nsIn K mainGlobals "int" = some none)
    (z_len : PySem.W.nsIn K mainGlobals "len" = some none)
    (z_range : PySem.W.nsIn K mainGlobals "range" = some none)
    (z_dict : PySem.W.nsIn K mainGlobals "dict" = some none)
    (z_bool : PySem.W.nsIn K mainGlobals "bool" = some none)
    (z_list : PySem.W.nsIn K mainGlobals "list" = some none)
    (z_tuple : PySem.W.nsIn K mainGlobals "tuple" = some none)
    (z_isinstance : PySem.W.nsIn K mainGlobals "isinstance" = some none)
    (ain_order : PySem.W.nsIn K mainGlobals "in_order" = some (some (.ref fin_order)))
    (lin_order : K.lookup fin_order = some ⟨ocin_order, odin_order, .func (PySem.W.fnOf "in_order" "in_order" (defArgs s_in_order) (defBody s_in_order) (defScope s_in_order) .none kVin_order dcin_order pmin_order anin_order cdin_order ctin_order), slin_order⟩)
    (cin_order : PySem.W.codeIn K cdin_order "in_order" = true)
    (kin_order : PySem.W.keepIn K (.ref fin_order) = true)
    (a_without_zeros : PySem.W.nsIn K mainGlobals "_without_zeros" = some (some (.ref f_without_zeros)))
    (l_without_zeros : K.lookup f_without_zeros = some ⟨oc_without_zeros, od_without_zeros, .func (PySem.W.fnOf "_without_zeros" "_without_zeros" (defArgs s__without_zeros) (defBody s__without_zeros) (defScope s__without_zeros) .none kV_without_zeros dc_without_zeros pm_without_zeros an_without_zeros cd_without_zeros ct_without_zeros), sl_without_zeros⟩)
    (c_without_zeros : PySem.W.codeIn K cd_without_zeros "_without_zeros" = true)
    (k_without_zeros : PySem.W.keepIn K (.ref f_without_zeros) = true)
    (a_law_cell : PySem.W.nsIn K mainGlobals "_law_cell" = some (some (.ref f_law_cell)))
    (l_law_cell : K.lookup f_law_cell = some ⟨oc_law_cell, od_law_cell, .func (PySem.W.fnOf "_law_cell" "_law_cell" (defArgs s__law_cell) (defBody s__law_cell) (defScope s__law_cell) .none kV_law_cell dc_law_cell pm_law_cell an_law_cell cd_law_cell ct_law_cell), sl_law_cell⟩)
    (c_law_cell : PySem.W.codeIn K cd_law_cell "_law_cell" = true)
    (k_law_cell : PySem.W.keepIn K (.ref f_law_cell) = true)
    (a_law_pool : PySem.W.nsIn K mainGlobals "_law_pool" = some (some (.ref f_law_pool)))
    (l_law_pool : K.lookup f_law_pool = some ⟨oc_law_pool, od_law_pool, .func (PySem.W.fnOf "_law_pool" "_law_pool" (defArgs s__law_pool) (defBody s__law_pool) (defScope s__law_pool) .none kV_law_pool dc_law_pool pm_law_pool an_law_pool cd_law_pool ct_law_pool), sl_law_pool⟩)
    (c_law_pool : PySem.W.codeIn K cd_law_pool "_law_pool" = true)
    (k_law_pool : PySem.W.keepIn K (.ref f_law_pool) = true)
    (a_law_draw : PySem.W.nsIn K mainGlobals "_law_draw" = some (some (.ref f_law_draw)))
    (l_law_draw : K.lookup f_law_draw = some ⟨oc_law_draw, od_law_draw, .func (PySem.W.fnOf "_law_draw" "_law_draw" (defArgs s__law_draw) (defBody s__law_draw) (defScope s__law_draw) .none kV_law_draw dc_law_draw pm_law_draw an_law_draw cd_law_draw ct_law_draw), sl_law_draw⟩)
    (c_law_draw : PySem.W.codeIn K cd_law_draw "_law_draw" = true)
    (k_law_draw : PySem.W.keepIn K (.ref f_law_draw) = true)
    (a_law_names : PySem.W.nsIn K mainGlobals "_law_names" = some (some (.ref f_law_names)))
    (l_law_names : K.lookup f_law_names = some ⟨oc_law_names, od_law_names, .func (PySem.W.fnOf "_law_names" "_law_names" (defArgs s__law_names) (defBody s__law_names) (defScope s__law_names) .none kV_law_names dc_law_names pm_law_names an_law_names cd_law_names ct_law_names), sl_law_names⟩)
    (c_law_names : PySem.W.codeIn K cd_law_names "_law_names" = true)
    (k_law_names : PySem.W.keepIn K (.ref f_law_names) = true)
    (a_law_integer : PySem.W.nsIn K mainGlobals "_law_integer" = some (some (.ref f_law_integer)))
    (l_law_integer : K.lookup f_law_integer = some ⟨oc_law_integer, od_law_integer, .func (PySem.W.fnOf "_law_integer" "_law_integer" (defArgs s__law_integer) (defBody s__law_integer) (defScope s__law_integer) .none kV_law_integer dc_law_integer pm_law_integer an_law_integer cd_law_integer ct_law_integer), sl_law_integer⟩)
    (c_law_integer : PySem.W.codeIn K cd_law_integer "_law_integer" = true)
    (k_law_integer : PySem.W.keepIn K (.ref f_law_integer) = true)
    (a_law_is_integer : PySem.W.nsIn K mainGlobals "_law_is_integer" = some (some (.ref f_law_is_integer)))
    (l_law_is_integer : K.lookup f_law_is_integer = some ⟨oc_law_is_integer, od_law_is_integer, .func (PySem.W.fnOf "_law_is_integer" "_law_is_integer" (defArgs s__law_is_integer) (defBody s__law_is_integer) (defScope s__law_is_integer) .none kV_law_is_integer dc_law_is_integer pm_law_is_integer an_law_is_integer cd_law_is_integer ct_law_is_integer), sl_law_is_integer⟩)
    (c_law_is_integer : PySem.W.codeIn K cd_law_is_integer "_law_is_integer" = true)
    (k_law_is_integer : PySem.W.keepIn K (.ref f_law_is_integer) = true)
    (a_law_pairs : PySem.W.nsIn K mainGlobals "_law_pairs" = some (some (.ref f_law_pairs)))
    (l_law_pairs : K.lookup f_law_pairs = some ⟨oc_law_pairs, od_law_pairs, .func (PySem.W.fnOf "_law_pairs" "_law_pairs" (defArgs s__law_pairs) (defBody s__law_pairs) (defScope s__law_pairs) .none kV_law_pairs dc_law_pairs pm_law_pairs an_law_pairs cd_law_pairs ct_law_pairs), sl_law_pairs⟩)
    (c_law_pairs : PySem.W.codeIn K cd_law_pairs "_law_pairs" = true)
    (k_law_pairs : PySem.W.keepIn K (.ref f_law_pairs) = true)
    (a_law_same_pairs : PySem.W.nsIn K mainGlobals "_law_same_pairs" = some (some (.ref f_law_same_pairs)))
    (l_law_same_pairs : K.lookup f_law_same_pairs = some ⟨oc_law_same_pairs, od_law_same_pairs, .func (PySem.W.fnOf "_law_same_pairs" "_law_same_pairs" (defArgs s__law_same_pairs) (defBody s__law_same_pairs) (defScope s__law_same_pairs) .none kV_law_same_pairs dc_law_same_pairs pm_law_same_pairs an_law_same_pairs cd_law_same_pairs ct_law_same_pairs), sl_law_same_pairs⟩)
    (c_law_same_pairs : PySem.W.codeIn K cd_law_same_pairs "_law_same_pairs" = true)
    (k_law_same_pairs : PySem.W.keepIn K (.ref f_law_same_pairs) = true)
    (a_law_right : PySem.W.nsIn K mainGlobals "_law_right" = some (some (.ref f_law_right)))
    (l_law_right : K.lookup f_law_right = some ⟨oc_law_right, od_law_right, .func (PySem.W.fnOf "_law_right" "_law_right" (defArgs s__law_right) (defBody s__law_right) (defScope s__law_right) .none kV_law_right dc_law_right pm_law_right an_law_right cd_law_right ct_law_right), sl_law_right⟩)
    (c_law_right : PySem.W.codeIn K cd_law_right "_law_right" = true)
    (k_law_right : PySem.W.keepIn K (.ref f_law_right) = true)
    (alaw : PySem.W.nsIn K mainGlobals "law" = some (some (.ref flaw)))
    (llaw : K.lookup flaw = some ⟨oclaw, odlaw, .func (PySem.W.fnOf "law" "law" (defArgs s_law) (defBody s_law) (defScope s_law) .none kVlaw dclaw pmlaw anlaw cdlaw ctlaw), sllaw⟩)
    (claw : PySem.W.codeIn K cdlaw "law" = true)
    (klaw : PySem.W.keepIn K (.ref flaw) = true)
    (aNotes___init__ : PySem.W.findIn K (.ref CNotes) "__init__" = some (some (.ref fNotes___init__)))
    (iNotes___init__ : PySem.W.isFn K (.ref fNotes___init__) = true)
    (gNotes___init__ : PySem.W.fnIn K fNotes___init__ = true)
    (lNotes___init__ : K.lookup fNotes___init__ = some ⟨ocNotes___init__, odNotes___init__, .func (PySem.W.fnOf "__init__" "Notes.__init__" (defArgs s_Notes___init__) (defBody s_Notes___init__) (defScope s_Notes___init__) (.ref tNotes___init__) kVNotes___init__ dcNotes___init__ pmNotes___init__ anNotes___init__ cdNotes___init__ ctNotes___init__), slNotes___init__⟩)
    (cNotes___init__ : PySem.W.codeIn K cdNotes___init__ "Notes.__init__" = true)
    (kNotes___init__ : PySem.W.keepIn K (.ref fNotes___init__) = true)
    (uNotes___init__ : K.lookup tNotes___init__ = some ⟨tcNotes___init__, tdNotes___init__, .seq #[.none] tnNotes___init__, tsNotes___init__⟩)
    (aNotes___getitem__ : PySem.W.findIn K (.ref CNotes) "__getitem__" = some (some (.ref fNotes___getitem__)))
    (iNotes___getitem__ : PySem.W.isFn K (.ref fNotes___getitem__) = true)
    (gNotes___getitem__ : PySem.W.fnIn K fNotes___getitem__ = true)
    (lNotes___getitem__ : K.lookup fNotes___getitem__ = some ⟨ocNotes___getitem__, odNotes___getitem__, .func (PySem.W.fnOf "__getitem__" "Notes.__getitem__" (defArgs s_Notes___getitem__) (defBody s_Notes___getitem__) (defScope s_Notes___getitem__) .none kVNotes___getitem__ dcNotes___getitem__ pmNotes___getitem__ anNotes___getitem__ cdNotes___getitem__ ctNotes___getitem__), slNotes___getitem__⟩)
    (cNotes___getitem__ : PySem.W.codeIn K cdNotes___getitem__ "Notes.__getitem__" = true)
    (kNotes___getitem__ : PySem.W.keepIn K (.ref fNotes___getitem__) = true)
    (aNotes___setitem__ : PySem.W.findIn K (.ref CNotes) "__setitem__" = some (some (.ref fNotes___setitem__)))
    (iNotes___setitem__ : PySem.W.isFn K (.ref fNotes___setitem__) = true)
    (gNotes___setitem__ : PySem.W.fnIn K fNotes___setitem__ = true)
    (lNotes___setitem__ : K.lookup fNotes___setitem__ = some ⟨ocNotes___setitem__, odNotes___setitem__, .func (PySem.W.fnOf "__setitem__" "Notes.__setitem__" (defArgs s_Notes___setitem__) (defBody s_Notes___setitem__) (defScope s_Notes___setitem__) .none kVNotes___setitem__ dcNotes___setitem__ pmNotes___setitem__ anNotes___setitem__ cdNotes___setitem__ ctNotes___setitem__), slNotes___setitem__⟩)
    (cNotes___setitem__ : PySem.W.codeIn K cdNotes___setitem__ "Notes.__setitem__" = true)
    (kNotes___setitem__ : PySem.W.keepIn K (.ref fNotes___setitem__) = true)
    (aNotes___contains__ : PySem.W.findIn K (.ref CNotes) "__contains__" = some (some (.ref fNotes___contains__)))
    (iNotes___contains__ : PySem.W.isFn K (.ref fNotes___contains__) = true)
    (gNotes___contains__ : PySem.W.fnIn K fNotes___contains__ = true)
    (lNotes___contains__ : K.lookup fNotes___contains__ = some ⟨ocNotes___contains__, odNotes___contains__, .func (PySem.W.fnOf "__contains__" "Notes.__contains__" (defArgs s_Notes___contains__) (defBody s_Notes___contains__) (defScope s_Notes___contains__) .none kVNotes___contains__ dcNotes___contains__ pmNotes___contains__ anNotes___contains__ cdNotes___contains__ ctNotes___contains__), slNotes___contains__⟩)
    (cNotes___contains__ : PySem.W.codeIn K cdNotes___contains__ "Notes.__contains__" = true)
    (kNotes___contains__ : PySem.W.keepIn K (.ref fNotes___contains__) = true)
    (aNotes___len__ : PySem.W.findIn K (.ref CNotes) "__len__" = some (some (.ref fNotes___len__)))
    (iNotes___len__ : PySem.W.isFn K (.ref fNotes___len__) = true)
    (gNotes___len__ : PySem.W.fnIn K fNotes___len__ = true)
    (lNotes___len__ : K.lookup fNotes___len__ = some ⟨ocNotes___len__, odNotes___len__, .func (PySem.W.fnOf "__len__" "Notes.__len__" (defArgs s_Notes___len__) (defBody s_Notes___len__) (defScope s_Notes___len__) .none kVNotes___len__ dcNotes___len__ pmNotes___len__ anNotes___len__ cdNotes___len__ ctNotes___len__), slNotes___len__⟩)
    (cNotes___len__ : PySem.W.codeIn K cdNotes___len__ "Notes.__len__" = true)
    (kNotes___len__ : PySem.W.keepIn K (.ref fNotes___len__) = true)
    (aNotes_pairs : PySem.W.findIn K (.ref CNotes) "pairs" = some (some (.ref fNotes_pairs)))
    (iNotes_pairs : PySem.W.isFn K (.ref fNotes_pairs) = true)
    (gNotes_pairs : PySem.W.fnIn K fNotes_pairs = true)
    (lNotes_pairs : K.lookup fNotes_pairs = some ⟨ocNotes_pairs, odNotes_pairs, .func (PySem.W.fnOf "pairs" "Notes.pairs" (defArgs s_Notes_pairs) (defBody s_Notes_pairs) (defScope s_Notes_pairs) .none kVNotes_pairs dcNotes_pairs pmNotes_pairs anNotes_pairs cdNotes_pairs ctNotes_pairs), slNotes_pairs⟩)
    (cNotes_pairs : PySem.W.codeIn K cdNotes_pairs "Notes.pairs" = true)
    (kNotes_pairs : PySem.W.keepIn K (.ref fNotes_pairs) = true) :
    ∃ fd : FuncData, (∀ (s : Shared) (v : Value), BindsTo s fd ⟨[v], []⟩ [("script", v)]) ∧ ∀ base : Heap, K.In base → base.Ns mainGlobals mg → FnOk l.prog w K mg base CX0 8 fa fd ["script"] (spLaw K) := by
  have e := hfa.symm.trans (PySem.W.mg_of X G alaw)
  cases e
  have Z : ∀ {x : Str}, PySem.W.nsIn K mainGlobals x = some none → mg x = none := fun h => PySem.W.mg_none_of X G h
  have G1 : ∀ {x : Str} {a : Addr}, PySem.W.nsIn K mainGlobals x = some (some (.ref a)) → mg x = some (.ref a) := fun h => PySem.W.mg_of X G h
  have T : Txt K mg CNotes := ⟨Z z_sorted, Z z_str, Z z_int, Z z_len, Z z_range, Z z_dict, Z z_bool, Z z_list, Z z_tuple, Z z_isinstance, ⟨pgNotes, hdNotes, poNotes, saNotes⟩, nNotes__values, nsNotes⟩
  have Fin_order := fun2_mk (st := s_in_order) lin_order cin_order
  have bin_order := (fun_mk (st := s_in_order) lin_order cin_order kin_order).binds (ps := ["names"]) fun _ _ _ _ _ _ us hl => match us, hl with | [_], _ => rfl
  have F_without_zeros := fun2_mk (st := s__without_zeros) l_without_zeros c_without_zeros
  have b_without_zeros := (fun_mk (st := s__without_zeros) l_without_zeros c_without_zeros k_without_zeros).binds (ps := ["values"]) fun _ _ _ _ _ _ us hl => match us, hl with | [_], _ => rfl
  have F_law_cell := fun2_mk (st := s__law_cell) l_law_cell c_law_cell
  have b_law_cell := (fun_mk (st := s__law_cell) l_law_cell c_law_cell k_law_cell).binds (ps := ["script", "k"]) fun _ _ _ _ _ _ us hl => match us, hl with | [_, _], _ => rfl
  have F_law_pool := fun2_mk (st := s__law_pool) l_law_pool c_law_pool
  have b_law_pool := (fun_mk (st := s__law_pool) l_law_pool c_law_pool k_law_pool).binds (ps := ["cell"]) fun _ _ _ _ _ _ us hl => match us, hl with | [_], _ => rfl
  have F_law_draw := fun2_mk (st := s__law_draw) l_law_draw c_law_draw
  have b_law_draw := (fun_mk (st := s__law_draw) l_law_draw c_law_draw k_law_draw).binds (ps := ["pool", "many"]) fun _ _ _ _ _ _ us hl => match us, hl with | [_, _], _ => rfl
  have F_law_names := fun2_mk (st := s__law_names) l_law_names c_law_names
  have b_law_names := (fun_mk (st := s__law_names) l_law_names c_law_names k_law_names).binds (ps := ["pool", "many"]) fun _ _ _ _ _ _ us hl => match us, hl with | [_, _], _ => rfl
  have F_law_integer := fun2_mk (st := s__law_integer) l_law_integer c_law_integer
  have b_law_integer := (fun_mk (st := s__law_integer) l_law_integer c_law_integer k_law_integer).binds (ps := ["pool"]) fun _ _ _ _ _ _ us hl => match us, hl with | [_], _ => rfl
  have F_law_is_integer := fun2_mk (st := s__law_is_integer) l_law_is_integer c_law_is_integer
  have b_law_is_integer := (fun_mk (st := s__law_is_integer) l_law_is_integer c_law_is_integer k_law_is_integer).binds (ps := ["found"]) fun _ _ _ _ _ _ us hl => match us, hl with | [_], _ => rfl
  have F_law_pairs := fun2_mk (st := s__law_pairs) l_law_pairs c_law_pairs
  have b_law_pairs := (fun_mk (st := s__law_pairs) l_law_pairs c_law_pairs k_law_pairs).binds (ps := ["values"]) fun _ _ _ _ _ _ us hl => match us, hl with | [_], _ => rfl
  have F_law_same_pairs := fun2_mk (st := s__law_same_pairs) l_law_same_pairs c_law_same_pairs
  have b_law_same_pairs := (fun_mk (st := s__law_same_pairs) l_law_same_pairs c_law_same_pairs k_law_same_pairs).binds (ps := ["found", "due"]) fun _ _ _ _ _ _ us hl => match us, hl with | [_, _], _ => rfl
  have F_law_right := fun2_mk (st := s__law_right) l_law_right c_law_right
  have b_law_right := (fun_mk (st := s__law_right) l_law_right c_law_right k_law_right).binds (ps := ["notes", "values", "names"]) fun _ _ _ _ _ _ us hl => match us, hl with | [_, _, _], _ => rfl
  have Flaw := fun2_mk (st := s_law) llaw claw
  have blaw := (fun_mk (st := s_law) llaw claw klaw).binds (ps := ["script"]) fun _ _ _ _ _ _ us hl => match us, hl with | [_], _ => rfl
  have FNotes___init__ := fun2_mk (st := s_Notes___init__) lNotes___init__ cNotes___init__
  obtain ⟨bNotes___init__, wNotes___init__, rwNotes___init__, b0Notes___init__⟩ := dfl_binds (st := s_Notes___init__) (v := .non) (ps := ["self", "values"]) (m := 1) lNotes___init__ cNotes___init__ kNotes___init__ uNotes___init__ rfl rfl (fun _ _ _ _ _ _ _ us its hu hi => match us, its, hu, hi with | [_, _], [_], _, _ => ⟨_, rfl, rfl⟩) (fun _ _ _ _ _ _ _ us its hu hi => match us, its, hu, hi with | [_], [_], _, _ => ⟨_, rfl, rfl⟩)
  cases (show wNotes___init__ = Value.none from rwNotes___init__)
  have FNotes___getitem__ := fun2_mk (st := s_Notes___getitem__) lNotes___getitem__ cNotes___getitem__
  have bNotes___getitem__ := (fun_mk (st := s_Notes___getitem__) lNotes___getitem__ cNotes___getitem__ kNotes___getitem__).binds (ps := ["self", "at"]) fun _ _ _ _ _ _ us hl => match us, hl with | [_, _], _ => rfl
  have FNotes___setitem__ := fun2_mk (st := s_Notes___setitem__) lNotes___setitem__ cNotes___setitem__
  have bNotes___setitem__ := (fun_mk (st := s_Notes___setitem__) lNotes___setitem__ cNotes___setitem__ kNotes___setitem__).binds (ps := ["self", "at", "worth"]) fun _ _ _ _ _ _ us hl => match us, hl with | [_, _, _], _ => rfl
  have FNotes___contains__ := fun2_mk (st := s_Notes___contains__) lNotes___contains__ cNotes___contains__
  have bNotes___contains__ := (fun_mk (st := s_Notes___contains__) lNotes___contains__ cNotes___contains__ kNotes___contains__).binds (ps := ["self", "x"]) fun _ _ _ _ _ _ us hl => match us, hl with | [_, _], _ => rfl
  have FNotes___len__ := fun2_mk (st := s_Notes___len__) lNotes___len__ cNotes___len__
  have bNotes___len__ := (fun_mk (st := s_Notes___len__) lNotes___len__ cNotes___len__ kNotes___len__).binds (ps := ["self"]) fun _ _ _ _ _ _ us hl => match us, hl with | [_], _ => rfl
  have FNotes_pairs := fun2_mk (st := s_Notes_pairs) lNotes_pairs cNotes_pairs
  have bNotes_pairs := (fun_mk (st := s_Notes_pairs) lNotes_pairs cNotes_pairs kNotes_pairs).binds (ps := ["self"]) fun _ _ _ _ _ _ us hl => match us, hl with | [_], _ => rfl
  refine ⟨PySem.W.fnOf "law" "law" (defArgs s_law) (defBody s_law) (defScope s_law) .none kVlaw dclaw pmlaw anlaw cdlaw ctlaw, fun s v => .of_eq rfl, fun base _ _ => ?_⟩
  have D_in_order := mkD (mg := mg) (ok_in_order (P := l.prog) (w := w) (base := base) (k := 0) Fin_order T) kin_order (G1 ain_order) bin_order
  have D__without_zeros := mkD (mg := mg) (ok_wz (P := l.prog) (w := w) (base := base) (k := 0) F_without_zeros T) k_without_zeros (G1 a_without_zeros) b_without_zeros
  have D__law_cell := mkD (mg := mg) (ok_cell (P := l.prog) (w := w) (base := base) (k := 5) F_law_cell T) k_law_cell (G1 a_law_cell) b_law_cell
  have D__law_pool := mkD (mg := mg) (ok_pool (P := l.prog) (w := w) (base := base) (k := 5) F_law_pool T) k_law_pool (G1 a_law_pool) b_law_pool
  have D__law_draw := mkD (mg := mg) (ok_draw (P := l.prog) (w := w) (base := base) (k := 0) F_law_draw T) k_law_draw (G1 a_law_draw) b_law_draw
  have D__law_names := mkD (mg := mg) (ok_names (k := 1) F_law_names T D__law_draw) k_law_names (G1 a_law_names) b_law_names
  have D__law_integer := mkD (mg := mg) (ok_integer (k := 1) F_law_integer T D__law_draw) k_law_integer (G1 a_law_integer) b_law_integer
  have D__law_is_integer := mkD (mg := mg) (ok_isint (P := l.prog) (w := w) (base := base) (k := 0) F_law_is_integer T) k_law_is_integer (G1 a_law_is_integer) b_law_is_integer
  have D__law_pairs := mkD (mg := mg) (ok_lpairs (P := l.prog) (w := w) (base := base) (k := 3) F_law_pairs T) k_law_pairs (G1 a_law_pairs) b_law_pairs
  have D__law_same_pairs := mkD (mg := mg) (ok_same (k := 3) F_law_same_pairs T (D__law_is_integer.mono (by decide))) k_law_same_pairs (G1 a_law_same_pairs) b_law_same_pairs
  have I := ok_init (k := 1) FNotes___init__ T D__without_zeros
  have M_Notes___getitem__ := mkM (ok_get (P := l.prog) (w := w) (mg := mg) (base := base) (k := 3) FNotes___getitem__ T) aNotes___getitem__ iNotes___getitem__ kNotes___getitem__ gNotes___getitem__ bNotes___getitem__
  have M_Notes___contains__ := mkM (ok_has (P := l.prog) (w := w) (mg := mg) (base := base) (k := 3) FNotes___contains__ T) aNotes___contains__ iNotes___contains__ kNotes___contains__ gNotes___contains__ bNotes___contains__
  have M_Notes___len__ := mkM (ok_len (P := l.prog) (w := w) (mg := mg) (base := base) (k := 3) FNotes___len__ T) aNotes___len__ iNotes___len__ kNotes___len__ gNotes___len__ bNotes___len__
  have M_Notes___setitem__ := mkM (ok_set (k := 5) FNotes___setitem__ T (D__without_zeros.mono (by decide))) aNotes___setitem__ iNotes___setitem__ kNotes___setitem__ gNotes___setitem__ bNotes___setitem__
  have M_Notes_pairs := mkM (ok_pairs (k := 3) FNotes_pairs T (D_in_order.mono (by decide))) aNotes_pairs iNotes_pairs kNotes_pairs gNotes_pairs bNotes_pairs
  have D__law_right := mkD (mg := mg) (ok_right (k := 4) F_law_right T (D__law_is_integer.mono (by decide)) D__law_pairs D__law_same_pairs M_Notes___getitem__ M_Notes___contains__ M_Notes___len__ M_Notes_pairs) k_law_right (G1 a_law_right) b_law_right
  have IN : InitOk l.prog w K mg base "Notes" CNotes 6 ["self", "values"] (spInit CNotes) := ⟨⟨pgNotes, hdNotes, poNotes, saNotes⟩, G1 aCNotes, mkNotes, kcNotes, _, _, I.mono (by decide), aNotes___init__, iNotes___init__, bNotes___init__⟩
  have I0 : Init0 l.prog w K mg base "Notes" CNotes 6 ["self", "values"] (spInit CNotes) := ⟨G1 aCNotes, mkNotes, kcNotes, _, _, I.mono (by decide), aNotes___init__, iNotes___init__, b0Notes___init__⟩
  exact ok_law (k := 6) Flaw T D__law_pool D__law_cell (D__law_draw.mono (by decide)) (D__law_names.mono (by decide)) (D__law_integer.mono (by decide)) D__law_right IN I0 M_Notes___setitem__
end T
open PySem PySem.W PyProof.Rows in
set_option maxRecDepth 100000 in
set_option maxHeartbeats 0 in
theorem PySem.Challenge.cw_sceneskips_k01_notes_by_name_holds : PySem.Challenge.rw_sceneskips_k01_notes_by_name.Holds := by
  w_on; o_law; k_head; (case hw => w_witness2)
  k_fill
  refine L2.walk_of (l := PySem.Challenge.rw_sceneskips_k01_notes_by_name) (n := 63) (k := 8) (x := "script") (CX := fun _ => L2.CX0) (sp := fun w => T.spLaw _) rfl (by decide) rfl ⟨rfl, by decide, by decide⟩ (fun w h Y => PySem.W.kIn_of Y) ?F (fun _ _ a ns hl _ hS => ⟨a, ns, rfl, hS, hl, fun _ => rfl⟩) (fun _ _ _ _ _ h => h)
  case F =>
    intro w mg fa h KX G hmg
    refine' T.all_mk KX G hmg ?aCNotes ?pgNotes ?hdNotes ?poNotes ?saNotes ?mkNotes ?kcNotes ?nsNotes ?sfNotes ?nNotes__values ?z_sorted ?z_str ?z_int ?z_len ?z_range ?z_dict ?z_bool ?z_list ?z_tuple ?z_isinstance ?ain_order ?lin_order ?cin_order ?kin_order ?a_without_zeros ?l_without_zeros ?c_without_zeros ?k_without_zeros ?a_law_cell ?l_law_cell ?c_law_cell ?k_law_cell ?a_law_pool ?l_law_pool ?c_law_pool ?k_law_pool ?a_law_draw ?l_law_draw ?c_law_draw ?k_law_draw ?a_law_names ?l_law_names ?c_law_names ?k_law_names ?a_law_integer ?l_law_integer ?c_law_integer ?k_law_integer ?a_law_is_integer ?l_law_is_integer ?c_law_is_integer ?k_law_is_integer ?a_law_pairs ?l_law_pairs ?c_law_pairs ?k_law_pairs ?a_law_same_pairs ?l_law_same_pairs ?c_law_same_pairs ?k_law_same_pairs ?a_law_right ?l_law_right ?c_law_right ?k_law_right ?alaw ?llaw ?claw ?klaw ?aNotes___init__ ?iNotes___init__ ?gNotes___init__ ?lNotes___init__ ?cNotes___init__ ?kNotes___init__ ?uNotes___init__ ?aNotes___getitem__ ?iNotes___getitem__ ?gNotes___getitem__ ?lNotes___getitem__ ?cNotes___getitem__ ?kNotes___getitem__ ?aNotes___setitem__ ?iNotes___setitem__ ?gNotes___setitem__ ?lNotes___setitem__ ?cNotes___setitem__ ?kNotes___setitem__ ?aNotes___contains__ ?iNotes___contains__ ?gNotes___contains__ ?lNotes___contains__ ?cNotes___contains__ ?kNotes___contains__ ?aNotes___len__ ?iNotes___len__ ?gNotes___len__ ?lNotes___len__ ?cNotes___len__ ?kNotes___len__ ?aNotes_pairs ?iNotes_pairs ?gNotes_pairs ?lNotes_pairs ?cNotes_pairs ?kNotes_pairs
    (case aCNotes => k_is)
    (case pgNotes => k_is)
    (case hdNotes => k_is)
    (case poNotes => k_is)
    (case saNotes => k_is)
    (case mkNotes => k_is)
    (case kcNotes => k_is)
    (case nsNotes => k_is)
    (case sfNotes => k_is)
    (case nNotes__values => k_is)
    (case z_sorted => k_is)
    (case z_str => k_is)
    (case z_int => k_is)
    (case z_len => k_is)
    (case z_range => k_is)
    (case z_dict => k_is)
    (case z_bool => k_is)
    (case z_list => k_is)
    (case z_tuple => k_is)
    (case z_isinstance => k_is)
    (case ain_order => k_is)
    (case lin_order => k_is)
    (case cin_order => k_is)
    (case kin_order => k_is)
    (case a_without_zeros => k_is)
    (case l_without_zeros => k_is)
    (case c_without_zeros => k_is)
    (case k_without_zeros => k_is)
    (case a_law_cell => k_is)
    (case l_law_cell => k_is)
    (case c_law_cell => k_is)
    (case k_law_cell => k_is)
    (case a_law_pool => k_is)
    (case l_law_pool => k_is)
    (case c_law_pool => k_is)
    (case k_law_pool => k_is)
    (case a_law_draw => k_is)
    (case l_law_draw => k_is)
    (case c_law_draw => k_is)
    (case k_law_draw => k_is)
    (case a_law_names => k_is)
    (case l_law_names => k_is)
    (case c_law_names => k_is)
    (case k_law_names => k_is)
    (case a_law_integer => k_is)
    (case l_law_integer => k_is)
    (case c_law_integer => k_is)
    (case k_law_integer => k_is)
    (case a_law_is_integer => k_is)
    (case l_law_is_integer => k_is)
    (case c_law_is_integer => k_is)
    (case k_law_is_integer => k_is)
    (case a_law_pairs => k_is)
    (case l_law_pairs => k_is)
    (case c_law_pairs => k_is)
    (case k_law_pairs => k_is)
    (case a_law_same_pairs => k_is)
    (case l_law_same_pairs => k_is)
    (case c_law_same_pairs => k_is)
    (case k_law_same_pairs => k_is)
    (case a_law_right => k_is)
    (case l_law_right => k_is)
    (case c_law_right => k_is)
    (case k_law_right => k_is)
    (case alaw => k_is)
    (case llaw => k_is)
    (case claw => k_is)
    (case klaw => k_is)
    (case aNotes___init__ => k_is)
    (case iNotes___init__ => k_is)
    (case gNotes___init__ => k_is)
    (case lNotes___init__ => k_is)
    (case cNotes___init__ => k_is)
    (case kNotes___init__ => k_is)
    (case uNotes___init__ => k_is)
    (case aNotes___getitem__ => k_is)
    (case iNotes___getitem__ => k_is)
    (case gNotes___getitem__ => k_is)
    (case lNotes___getitem__ => k_is)
    (case cNotes___getitem__ => k_is)
    (case kNotes___getitem__ => k_is)
    (case aNotes___setitem__ => k_is)
    (case iNotes___setitem__ => k_is)
    (case gNotes___setitem__ => k_is)
    (case lNotes___setitem__ => k_is)
    (case cNotes___setitem__ => k_is)
    (case kNotes___setitem__ => k_is)
    (case aNotes___contains__ => k_is)
    (case iNotes___contains__ => k_is)
    (case gNotes___contains__ => k_is)
    (case lNotes___contains__ => k_is)
    (case cNotes___contains__ => k_is)
    (case kNotes___contains__ => k_is)
    (case aNotes___len__ => k_is)
    (case iNotes___len__ => k_is)
    (case gNotes___len__ => k_is)
    (case lNotes___len__ => k_is)
    (case cNotes___len__ => k_is)
    (case kNotes___len__ => k_is)
    (case aNotes_pairs => k_is)
    (case iNotes_pairs => k_is)
    (case gNotes_pairs => k_is)
    (case lNotes_pairs => k_is)
    (case cNotes_pairs => k_is)
    (case kNotes_pairs => k_is)
