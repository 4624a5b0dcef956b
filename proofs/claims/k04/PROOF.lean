import PyProof.Rows.All
import Wide.All
import OpenK.AllK
import Wide.FinOn
import HandS.ForMost
import HandS.Conv
import HandS.Exc
import HandS.DictComp
import HandS.IsInst
import HandS.Star
import HandS.RaiseMore
import HandS.Wide
import HandS.WideBits
import HandS.Flow
import HandS.OwnEq
import HandS.More
import HandS.Evl
import HandS.Defaults
import HandS.Codes
import KE.KOpsOwn
import KE.KDictOf
import PyProof.DictUpdate
import PySem.Challenge.RW_sceneskips_k04_changes_of_notes
set_option Elab.async false
set_option linter.all false
set_option maxRecDepth 100000
set_option maxHeartbeats 4000000
namespace M
open PySem PySem.Spec PyProof.Rows L2

/-- a def of the text that may be called by its name -/
structure DefOk (P : Program) (w : World) (K : PySem.W.Frag) (mg : Str → Option Value) (base : Heap) (k : Nat) (x : Str) (ps : List Str) (sp : Sp) : Prop where
  ex : ∃ f fd, FnOk P w K mg base CX0 k f fd ps sp ∧ mg x = some (.ref f) ∧ PySem.W.keepIn K (.ref f) = true ∧ Binds K fd ps []
/-- a method of an own class -/
structure MethOk (P : Program) (w : World) (K : PySem.W.Frag) (mg : Str → Option Value) (base : Heap) (C : Addr) (k : Nat) (m : Str) (ps : List Str) (sp : Sp) : Prop where
  ex : ∃ f fd, FnOk P w K mg base CX0 k f fd ps sp ∧ PySem.W.findIn K (.ref C) m = some (some (.ref f)) ∧ PySem.W.isFn K (.ref f) = true ∧ PySem.W.keepIn K (.ref f) = true ∧ PySem.W.fnIn K f = true ∧ Binds K fd ps []

section
variable {P : Program} {w : World} {K : PySem.W.Frag} {mg : Str → Option Value} {base : Heap} {C : Addr} {j k : Nat} {x m : Str} {ps : List Str} {sp sp' : Sp}
theorem DefOk.mono (D : DefOk P w K mg base j x ps sp) (h : j ≤ k) : DefOk P w K mg base k x ps sp := let ⟨f, fd, F, r⟩ := D.ex; ⟨f, fd, F.mono h, r⟩
theorem DefOk.imp (D : DefOk P w K mg base k x ps sp) (h : ∀ vs H Q E, sp' vs H Q E → sp vs H Q E) : DefOk P w K mg base k x ps sp' := let ⟨f, fd, F, r⟩ := D.ex; ⟨f, fd, F.imp h, r⟩
theorem MethOk.mono (D : MethOk P w K mg base C j m ps sp) (h : j ≤ k) : MethOk P w K mg base C k m ps sp := let ⟨f, fd, F, r⟩ := D.ex; ⟨f, fd, F.mono h, r⟩
theorem fnok_raw {f : Addr} {fd : FuncData} (F : FnOk P w K mg base CX0 k f fd ps sp) (b : Binds K fd ps []) : FnR P w K mg base CX0 k f sp := by
  refine (F.raw b .nil).imp fun vs H Q E h => ?_
  rw [List.append_nil]
  exact h
end

section
variable {X : Cx} {k : Nat} {C : Addr} {x m : Str} {ps : List Str} {sp : Sp} {p pos apos : Pos} {e o : Expr} {es : List Expr} {ta tb : TE} {t : TA}
theorem pe_callD (D : DefOk X.prog X.w X.K X.mg X.base k x ps sp) (hr : Room k X.A) (hg : Gl X x) (ha : PA X (e :: es) t) (hn : x ≠ "__name__" := by decide) (hdb : (x == ("__debug__" : Str)) = false := by decide)
    (hst : starEach (e :: es) X.env = (false, eval e X.env) :: starEach es X.env := by rfl) (hpl : (backTo pos (starEach es X.env)).any (·.1) = false := by rfl) : PE X (.Call (.Name x p) (e :: es) [] pos) (tCall sp [] E0 t) := by
  obtain ⟨f, fd, F, g, kp, b⟩ := D.ex
  exact pe_call F hr hg g kp b .nil pass0 ha (hdb := hdb) (he := hst) (hpl := hpl)
theorem pe_callD0 (D : DefOk X.prog X.w X.K X.mg X.base k x ps sp) (hr : Room k X.A) (hg : Gl X x) (hdb : (x == ("__debug__" : Str)) = false := by decide) : PE X (.Call (.Name x p) [] [] pos) (tCall sp [] E0 tNil) := by
  obtain ⟨f, fd, F, g, kp, b⟩ := D.ex
  exact pe_call0 F hr hg g kp b .nil pass0 (hdb := hdb)
/-- o.m(e, ..), o.m() -/
theorem pe_methD {pl : Sem Bool} (he : PE X o ta) (c : Cls X.K C) (D : MethOk X.prog X.w X.K X.mg X.base C k m ps sp) (hr : Room k X.A) (ha : PA X (e :: es) t)
    (hst : starEach (e :: es) X.env = (false, eval e X.env) :: starEach es X.env := by rfl) (hpl : (backTo pos (starEach es X.env)).any (·.1) = false := by rfl)
    (ht : eval (.Call (.Attribute o m apos) (e :: es) [] pos) X.env = (do
      let ov ← eval o X.env
      standAt apos.atName
      let (f, first) ← holding [ov] (getMethod ov m pl)
      callWith pos f first (backTo pos (starEach (e :: es) X.env)) (backToKw pos (keywordEach [] X.env))) := by rfl) :
    PE X (.Call (.Attribute o m apos) (e :: es) [] pos) (tMeth C m sp [] E0 ta t) := by
  obtain ⟨f, fd, F, hf, hi, kp, fi, b⟩ := D.ex
  exact pe_meth he c ⟨hf, hi, kp⟩ F hr b .nil pass0 ha (hst := hst) (hpl := hpl) (ht := ht)
theorem pe_methD0 {pl : Sem Bool} (he : PE X o ta) (c : Cls X.K C) (D : MethOk X.prog X.w X.K X.mg X.base C k m ps sp) (hr : Room k X.A)
    (ht : eval (.Call (.Attribute o m apos) [] [] pos) X.env = (do
      let ov ← eval o X.env
      standAt apos.atName
      let (f, first) ← holding [ov] (getMethod ov m pl)
      callWith pos f first (backTo pos (starEach [] X.env)) (backToKw pos (keywordEach [] X.env))) := by rfl) :
    PE X (.Call (.Attribute o m apos) [] [] pos) (tMeth C m sp [] E0 ta tNil) := by
  obtain ⟨f, fd, F, hf, hi, kp, fi, b⟩ := D.ex
  exact pe_meth0 he c ⟨hf, hi, kp⟩ F hr b .nil pass0 (ht := ht)
/-- C(e), C(): made by __init__, whose last parameter has the default None -/
structure InitOk (P : Program) (w : World) (K : PySem.W.Frag) (mg : Str → Option Value) (base : Heap) (x : Str) (C : Addr) (k : Nat) (ps : List Str) (sp : Sp) : Prop where
  cls : Cls K C
  gl : mg x = some (.ref C)
  mks : PySem.W.makesIn K C = true
  kp : PySem.W.keepIn K (.ref C) = true
  ex : ∃ f fd, FnOk P w K mg base CX0 k f fd ps sp ∧ PySem.W.findIn K (.ref C) "__init__" = some (some (.ref f)) ∧ PySem.W.isFn K (.ref f) = true ∧ Binds K fd ps [] 
structure Init0 (P : Program) (w : World) (K : PySem.W.Frag) (mg : Str → Option Value) (base : Heap) (x : Str) (C : Addr) (k : Nat) (ps : List Str) (sp : Sp) : Prop where
  gl : mg x = some (.ref C)
  mks : PySem.W.makesIn K C = true
  kp : PySem.W.keepIn K (.ref C) = true
  ex : ∃ f fd, FnOk P w K mg base CX0 k f fd ps sp ∧ PySem.W.findIn K (.ref C) "__init__" = some (some (.ref f)) ∧ PySem.W.isFn K (.ref f) = true ∧ Binds K fd ps [.none]
theorem pe_makeD (D : InitOk X.prog X.w X.K X.mg X.base x C k ps sp) (hr : Room (k + 1) X.A) (hg : Gl X x) (ha : PA X (e :: es) t) (hdb : (x == ("__debug__" : Str)) = false := by decide)
    (hst : starEach (e :: es) X.env = (false, eval e X.env) :: starEach es X.env := by rfl) (hpl : (backTo pos (starEach es X.env)).any (·.1) = false := by rfl) : PE X (.Call (.Name x p) (e :: es) [] pos) (tMake C sp [] E0 t) := by
  obtain ⟨f, fd, F, hf, hi, b⟩ := D.ex
  exact pe_make ⟨D.mks, hf, hi, D.kp⟩ F hr hg D.gl b .nil pass0 ha (hdb := hdb) (he := hst) (hpl := hpl)
theorem pe_makeD0 (D : Init0 X.prog X.w X.K X.mg X.base x C k ps sp) (hr : Room (k + 1) X.A) (hg : Gl X x) (hdb : (x == ("__debug__" : Str)) = false := by decide) : PE X (.Call (.Name x p) [] [] pos) (tMake C sp [.non] E0 tNil) := by
  obtain ⟨f, fd, F, hf, hi, b⟩ := D.ex
  exact pe_make0 ⟨D.mks, hf, hi, D.kp⟩ F hr hg D.gl b (.cons rfl .nil) pass0 (hdb := hdb)

/-- a callee runs within a builtin -/
theorem run_in1 {pins : List (Addr × Obj)} {σ : L2.St} {H : Hp} {s : Shared} {f : Addr} {Q : VK} {us : List Value} {vs : List V} (F : FnR X.prog X.w X.K X.mg X.base CX0 k f sp) (hr : Room (k + 1) X.A) (I : Inv X pins σ H s) (r : Vals vs us) (h : sp vs H Q E0) :
    wpAny (model X.prog X.w) X.A.in1 (call (.ref f) us) (EP X pins σ Q) X.xe s := by
  refine wpAny_call (codeAny_mono (F X.A.in1 X.stack s H us vs Q E0 hr.in1 I.env0.in1 r h) fun r s' hq => ?_)
  cases r with
  | error e => exact False.elim hq
  | ok fl =>
    cases fl with
    | ret u => exact I.after hq
    | next => exact False.elim hq
    | brk => exact False.elim hq
    | cont => exact False.elim hq
theorem run_at {pins : List (Addr × Obj)} {σ : L2.St} {H : Hp} {s : Shared} {f : Addr} {Q : VK} {us : List Value} {vs : List V} (F : FnR X.prog X.w X.K X.mg X.base CX0 k f sp) (hr : Room k X.A) (I : Inv X pins σ H s) (r : Vals vs us) (h : sp vs H Q E0) :
    wpAny (model X.prog X.w) X.A (call (.ref f) us) (EP X pins σ Q) X.xe s := wpAny_call (run_fnR F hr pass0 I r h)
theorem inst_at {pins : List (Addr × Obj)} {σ : L2.St} {H : Hp} {s : Shared} {a dx : Addr} {fs : List (Str × V)} (I : Inv X pins σ H s) (h : H a = some (.ins C dx fs)) : ∃ ox od, PySem.W.InstAt s.heap a ox C od ∧ ox.data = .plain := by
  obtain ⟨mA, O, _⟩ := ins_get I.hok h
  obtain ⟨od, J, _⟩ := O.look
  exact ⟨_, _, J, rfl⟩
theorem cmpback {Q : Value → Shared → Prop} {u : Value} {s : Shared} {v : V} (r : RelV v u) (q : Q u s) : PySem.W.CmpBack Q u s := by
  cases v with
  | non => cases (show u = Value.none from r); exact q
  | bl b => cases (show u = Value.bool b from r); exact q
  | int i => obtain ⟨t, e⟩ := (show ∃ t, u = Value.int i t from r); cases e; exact q
  | str x => obtain ⟨t, e⟩ := (show ∃ t, u = Value.str x t from r); cases e; exact q
  | byt b => obtain ⟨t, e⟩ := (show ∃ t, u = Value.bytes b t from r); cases e; exact q
  | flt b => obtain ⟨t, e⟩ := (show ∃ t, u = Value.float b t from r); cases e; exact q
  | ref a => cases (show u = Value.ref a from r); exact q
  | ty n => cases (show u = Value.type n from r); exact q

/-- a[b], a of an own class -/
def rOwn (C : Addr) (sp : Sp) : R2 := fun x y H Q => ∃ a dx fs, x = .ref a ∧ H a = some (.ins C dx fs) ∧ sp [x, y] H Q E0
theorem pe_ixO {a b : Expr} (ha : PE X a ta) (hb : PE X b tb) (D : MethOk X.prog X.w X.K X.mg X.base C k "__getitem__" ps sp) (hr : Room (k + 1) X.A)
    (hs : ∀ o i, subscripted b true o i = runValue (.builtin "lifetime.subscript" ⟨[o, i], []⟩) := by intro _ _; rfl) : PE X (.Subscript a b pos) (tOp (rOwn C sp) ta tb) := by
  refine ⟨fun pins s σ H Q I h => ?_⟩
  obtain ⟨f, fd, F, hf, hi, kp, fi, bd⟩ := D.ex
  refine Subscript_ (binT ha hb I h fun v u s2 x y H2 I2 rx ry q => ?_)
  obtain ⟨a', dx, fs, rfl, hh, q⟩ := q
  cases (show v = Value.ref a' from rx)
  obtain ⟨ox, od, J, _⟩ := inst_at I2 hh
  obtain ⟨m, hF⟩ := I2.fr
  exact PySem.W.sub_K hF I2.ok.mod.kin J hf fi hi (run_in1 (us := [.ref a', u]) (vs := [.ref a', y]) (fnok_raw F bd) hr I2 (.cons rfl (.cons ry .nil)) q) (hs _ _)
/-- a[b] = v -/
def rOwnSet (C : Addr) (sp : Sp) : TSet := fun o i v H Q => ∃ a dx fs, o = .ref a ∧ H a = some (.ins C dx fs) ∧ sp [o, i, v] H (fun _ H' => Q H') E0
theorem set_own (D : MethOk X.prog X.w X.K X.mg X.base C k "__setitem__" ps sp) (hq : PySem.W.noSeq X.K C = true) (hr : Room k X.A) : PSet X (rOwnSet C sp) := by
  intro pins s σ H o i v ov iv u Q I ro ri rv h
  obtain ⟨f, fd, F, hf, hi, kp, fi, bd⟩ := D.ex
  obtain ⟨a', dx, fs, rfl, hh, q⟩ := h
  cases (show ov = Value.ref a' from ro)
  obtain ⟨ox, od, J, _⟩ := inst_at I hh
  obtain ⟨m, hF⟩ := I.fr
  refine PySem.W.ksp_setItem hF I.ok.mod.kin J hq hf hi ?_
  exact thn (run_at (us := [.ref a', iv, u]) (vs := [.ref a', i, v]) (fnok_raw F bd) hr I (.cons rfl (.cons ri (.cons rv .nil))) q) fun _ s' ⟨_, H', I', _, q'⟩ => ⟨H', I', q'⟩
/-- x in a -/
def rOwnIn (C : Addr) (sp : Sp) (neg : Bool) : R2 := fun x y H Q => ∃ a dx fs, y = .ref a ∧ H a = some (.ins C dx fs) ∧ sp [y, x] H (fun r H' => ∃ b, r = .bl b ∧ Q (.bl (if neg then !b else b)) H') E0
theorem op_inO (D : MethOk X.prog X.w X.K X.mg X.base C k "__contains__" ps sp) (hr : Room k X.A) : OpR X (compareOp .In) (rOwnIn C sp false) := by
  intro pins s σ H x y v u Q I rx ry h
  obtain ⟨f, fd, F, hf, hi, kp, fi, bd⟩ := D.ex
  obtain ⟨a', dx, fs, rfl, hh, q⟩ := h
  cases (show u = Value.ref a' from ry)
  obtain ⟨ox, od, J, _⟩ := inst_at I hh
  obtain ⟨m, hF⟩ := I.fr
  refine PySem.W.in_K hF I.ok.mod.kin J hf hi ?_
  refine thn (run_at (us := [.ref a', v]) (vs := [.ref a', x]) (fnok_raw F bd) hr I (.cons rfl (.cons rx .nil)) q) fun r s' ⟨z, H', I', rz, b, e, q'⟩ => ?_
  subst e
  cases (show r = Value.bool b from rz)
  exact wpAny_truthy_bool ⟨.bl b, H', I', rfl, q'⟩
theorem op_ninO (D : MethOk X.prog X.w X.K X.mg X.base C k "__contains__" ps sp) (hr : Room k X.A) : OpR X (compareOp .NotIn) (rOwnIn C sp true) := by
  intro pins s σ H x y v u Q I rx ry h
  obtain ⟨f, fd, F, hf, hi, kp, fi, bd⟩ := D.ex
  obtain ⟨a', dx, fs, rfl, hh, q⟩ := h
  cases (show u = Value.ref a' from ry)
  obtain ⟨ox, od, J, _⟩ := inst_at I hh
  obtain ⟨m, hF⟩ := I.fr
  refine PySem.W.notIn_K hF I.ok.mod.kin J hf hi ?_
  refine thn (run_at (us := [.ref a', v]) (vs := [.ref a', x]) (fnok_raw F bd) hr I (.cons rfl (.cons rx .nil)) q) fun r s' ⟨z, H', I', rz, b, e, q'⟩ => ?_
  subst e
  cases (show r = Value.bool b from rz)
  exact wpAny_truthy_bool ⟨.bl (!b), H', I', rfl, q'⟩
/-- len(a) -/
def rOwnLen (C : Addr) (sp : Sp) : List V → Hp → VK → Prop := fun xs H Q => ∃ a dx fs, xs = [.ref a] ∧ H a = some (.ins C dx fs) ∧ sp xs H (fun r H' => ∃ n : Int, r = .int n ∧ (0 ≤ n ∧ n < 2 ^ 63) ∧ Q (.int n) H') E0
theorem call_lenO (D : MethOk X.prog X.w X.K X.mg X.base C k "__len__" ps sp) (hr : Room (k + 1) X.A) : CallR X (.builtin "len") (rOwnLen C sp) := by
  intro pins s σ H xs us Q I r h
  obtain ⟨f, fd, F, hf, hi, kp, fi, bd⟩ := D.ex
  obtain ⟨a', dx, fs, rfl, hh, q⟩ := h
  obtain ⟨u, rfl, ru⟩ := vals1 r
  cases (show u = Value.ref a' from ru)
  obtain ⟨ox, od, J, _⟩ := inst_at I hh
  obtain ⟨m, hF⟩ := I.fr
  refine PySem.W.len_K hF I.ok.mod.kin J hf hi ?_
  refine thn (run_in1 (us := [.ref a']) (vs := [.ref a']) (fnok_raw F bd) hr I (.cons rfl .nil) q) fun r s' ⟨z, H', I', rz, n, e, hn, q'⟩ => ?_
  subst e
  obtain ⟨t, e⟩ := (show ∃ t, r = Value.int n t from rz)
  subst e
  exact ⟨hn, .int n, H', I'.tok _, ⟨_, rfl⟩, q'⟩
/-- a comparison, both of own classes -/
def rOwnC (K : PySem.W.Frag) (C : Addr) (sp : Sp) : R2 := fun x y H Q => ∃ a dx fs b C' dy gs, x = .ref a ∧ y = .ref b ∧ H a = some (.ins C dx fs) ∧ H b = some (.ins C' dy gs) ∧ PySem.W.notFirst K C (.ref C') = true ∧ sp [x, y] H Q E0
theorem op_cmpO {op : CmpOp} {nm : Str} (D : MethOk X.prog X.w X.K X.mg X.base C k nm ps sp) (hr : Room k X.A) (hnm : (cmpInfo op).2.1 = nm := by rfl) (hop : ∀ a b, compareOp op a b = richCompare op a b := by intro _ _; rfl) : OpR X (compareOp op) (rOwnC X.K C sp) := by
  intro pins s σ H x y v u Q I rx ry h
  obtain ⟨f, fd, F, hf, hi, kp, fi, bd⟩ := D.ex
  obtain ⟨a, dx, fs, b, C', dy, gs, rfl, rfl, ha, hb, hn, q⟩ := h
  cases (show v = Value.ref a from rx)
  cases (show u = Value.ref b from ry)
  obtain ⟨ox, od, J, _⟩ := inst_at I ha
  obtain ⟨ox', od', J', _⟩ := inst_at I hb
  obtain ⟨m, hF⟩ := I.fr
  rw [hop]
  refine PySem.W.cmp_K (op := op) (tb := .ref C') hr.units0 hF I.ok.mod.kin J J'.type hn (by rw [hnm]; exact hf) hi ?_
  refine thn (run_at (us := [.ref a, .ref b]) (vs := [.ref a, .ref b]) (fnok_raw F bd) hr I (.cons rfl (.cons rfl .nil)) q) fun w s' z => ?_
  obtain ⟨z', H', I', rz, qz⟩ := z
  exact cmpback rz ⟨z', H', I', rz, qz⟩
/-- an operator of two of one own class -/
def rOwnB (C : Addr) (sp : Sp) : R2 := fun x y H Q => ∃ a dx fs b dy gs, x = .ref a ∧ y = .ref b ∧ H a = some (.ins C dx fs) ∧ H b = some (.ins C dy gs) ∧ sp [x, y] H Q E0
theorem op_binO {op : Operator} {nm : Str} (D : MethOk X.prog X.w X.K X.mg X.base C k nm ps sp) (hc : PySem.W.selfFirst X.K C = true) (hr : Room k X.A) (hnm : PySem.dunder op.info.2 = nm := by rfl) : OpR X (binaryOp op) (rOwnB C sp) := by
  intro pins s σ H x y v u Q I rx ry h
  obtain ⟨f, fd, F, hf, hi, kp, fi, bd⟩ := D.ex
  obtain ⟨a, dx, fs, b, dy, gs, rfl, rfl, ha, hb, q⟩ := h
  cases (show v = Value.ref a from rx)
  cases (show u = Value.ref b from ry)
  obtain ⟨ox, od, J, _⟩ := inst_at I ha
  obtain ⟨ox', od', J', _⟩ := inst_at I hb
  obtain ⟨m, hF⟩ := I.fr
  refine PySem.W.binop_K hF I.ok.mod.kin J J'.type hc (by rw [hnm]; exact hf) hi ?_
  refine thn (run_at (us := [.ref a, .ref b]) (vs := [.ref a, .ref b]) (fnok_raw F bd) hr I (.cons rfl (.cons rfl .nil)) q) fun w s' z => ?_
  obtain ⟨z', H', I', rz, qz⟩ := z
  exact cmpback rz ⟨z', H', I', rz, qz⟩
/-- a op= b, a of an own class with the in-place def -/
theorem ip_own {op : Operator} {nm : Str} (D : MethOk X.prog X.w X.K X.mg X.base C k nm ps sp) (hc : PySem.W.selfFirst X.K C = true) (hr : Room k X.A) (hnm : dunderI op.info.2 = nm := by rfl) : PIp X op (rOwn C sp) := by
  intro pins s σ H x y v u Q I rx ry h
  obtain ⟨f, fd, F, hf, hi, kp, fi, bd⟩ := D.ex
  obtain ⟨a, dx, fs, rfl, ha, q⟩ := h
  cases (show v = Value.ref a from rx)
  obtain ⟨ox, od, J, _⟩ := inst_at I ha
  obtain ⟨m, hF⟩ := I.fr
  refine PySem.W.ksp_inplace hF I.ok.mod.kin J hc (by rw [hnm]; exact hf) hi ?_
  refine thn (run_at (us := [.ref a, u]) (vs := [.ref a, y]) (fnok_raw F bd) hr I (.cons rfl (.cons ry .nil)) q) fun w s' z => ?_
  obtain ⟨z', H', I', rz, qz⟩ := z
  exact cmpback rz ⟨z', H', I', rz, qz⟩
end

section
variable {X : Cx}
def CPowX (i j : Int) : Prop := 0 ≤ j ∧ (Builtin.Int.intBits i : Int) * j ≤ 134217728
theorem op_powX : OpR X (binaryOp .Pow) (rI CPowX fun i j => .int (i ^ j.toNat)) := opI fun _ _ _ _ _ _ _ hc q => pow_int hc.1 hc.2 q
/-- dict(d), d with keys ints and texts -/
theorem call_dict : CallR X (.type "dict") (fun xs H Q => ∃ a kvs, xs = [.ref a] ∧ Rd H a (.dK kvs) ∧ ∀ p, H p = none → Q (.ref p) (upd H p (.dK kvs))) := by
  intro pins s σ H xs us Q I r h
  obtain ⟨a, kvs, rfl, ha, q⟩ := h
  obtain ⟨u, rfl, ru⟩ := vals1 r
  cases (show u = Value.ref a from ru)
  obtain ⟨z, hd, vs, rel, dd⟩ := dk_rd I.hok ha
  refine PySem.kt_call_dict (knd := mixKind X.prog X.w) hd dd (by rw [← rel.length]; exact z) fun h' dd' hs => ?_
  have hn := I.hok.fresh (Nat.le_refl s.heap.objs.size)
  refine ⟨.ref s.heap.objs.size, upd H s.heap.objs.size (.dK kvs), ?_, rfl, q _ hn⟩
  refine I.laid (t' := s.toks) (fun b u e => ?_) (Nat.le_refl _) ?_
  · refine (hs.2 b ?_).trans (Heap.get?_push_of_some _ e)
    exact Nat.ne_of_lt (Heap.lt_size e)
  · exact dk_new z (by
      have hb := I.big
      exact beq_eq_false_iff_ne.mpr (Ne.symm (Nat.ne_of_lt hb))) rel dd'
end
end M
namespace M
open PySem PySem.Spec PyProof.Rows L2

theorem itk_turns {d : Addr} {o : Obj} {kvs : List (Key × V)} (Pv : Nat → Hp → Prop) : True := trivial
theorem for_keys {d : Addr} {o : Obj} {kvs : List (Key × V)} {g : TG} {tb : TS} {D : Ends} {σ : L2.St} {H : Hp} (Pv : Nat → L2.St → Hp → Prop) (h0 : Pv 0 σ H) (hl : ∀ i σ H, i ≤ kvs.length → Pv i σ H → H d = some (.frz o (.dK kvs)))
    (hs : ∀ i k v σ H, kvs[i]? = some (k, v) → Pv i σ H → g (kV k) σ H fun σ2 H2 => tb { D with nx := Pv (i + 1), ct := Pv (i + 1), bk := D.nx } σ2 H2) (hd : ∀ σ H, Pv kvs.length σ H → D.nx σ H) :
    ∃ W : Nat → Nat → L2.St → Hp → Prop, (∃ m, W 0 m σ H) ∧ ∀ i m σ H, W i m σ H →
      ((Itk d o kvs).stop i H ∧ D.nx σ H) ∨ ((Itk d o kvs).go i H ∧ ∃ N : L2.St → Hp → Prop, (∀ σ' H', N σ' H' → ∃ m', m' < m ∧ W (i + 1) m' σ' H') ∧ ∀ x H', (Itk d o kvs).yld i H x H' → g x σ H' fun σ2 H2 => tb { D with nx := N, ct := N, bk := D.nx } σ2 H2) := by
  refine ⟨fun i m σ H => m = kvs.length - i ∧ i ≤ kvs.length ∧ Pv i σ H, ⟨kvs.length, by simp, Nat.zero_le _, h0⟩, ?_⟩
  rintro i m σ H ⟨rfl, hi, p⟩
  have q := hl i σ H hi p
  by_cases hlt : i < kvs.length
  · refine .inr ⟨⟨q, hlt⟩, Pv (i + 1), fun σ' H' p' => ⟨kvs.length - (i + 1), by omega, rfl, hlt, p'⟩, fun x H' y => ?_⟩
    obtain ⟨e, k, v, hk, rfl⟩ := y
    subst e
    exact hs i k v σ _ hk p
  · have e : i = kvs.length := by omega
    subst e
    exact .inl ⟨⟨q, Nat.le_refl _⟩, hd σ H p⟩
theorem lc_keys {d : Addr} {o : Obj} {kvs : List (Key × V)} {g : TG} {tt : TT} {te : TE} {vs : List Nat} {σ : L2.St} {H1 : Hp} {D : Addr} {Qd : Hp → Prop} (Pv : Nat → Hp → Prop) (h0 : Pv 0 (upd H1 D (.lst []))) (hl : ∀ i H, i ≤ kvs.length → Pv i H → H d = some (.frz o (.dK kvs)))
    (hs : ∀ i k v H, kvs[i]? = some (k, v) → Pv i H → g (kV k) (wipe σ vs) H fun σ2 H2 => wipe σ2 vs = wipe σ vs ∧ tt σ2 H2 fun b H3 =>
      if b = true then te σ2 H3 fun y H4 => ∃ acc, H4 D = some (.lst acc) ∧ acc.length < sizeLine ∧ Pv (i + 1) (upd H4 D (.lst (acc ++ [y]))) else Pv (i + 1) H3) (hd : ∀ H, Pv kvs.length H → Qd H) :
    ∃ W : Nat → Nat → Hp → Prop, (∃ m, W 0 m (upd H1 D (.lst []))) ∧ ∀ i m H, W i m H →
      ((Itk d o kvs).stop i H ∧ Qd H) ∨ ((Itk d o kvs).go i H ∧ ∃ Nx : Hp → Prop, (∀ H', Nx H' → ∃ m', m' < m ∧ W (i + 1) m' H') ∧ ∀ x H', (Itk d o kvs).yld i H x H' → g x (wipe σ vs) H' fun σ2 H2 => wipe σ2 vs = wipe σ vs ∧ tt σ2 H2 fun b H3 =>
        if b = true then te σ2 H3 fun y H4 => ∃ acc, H4 D = some (.lst acc) ∧ acc.length < sizeLine ∧ Nx (upd H4 D (.lst (acc ++ [y]))) else Nx H3) := by
  refine ⟨fun i m H => m = kvs.length - i ∧ i ≤ kvs.length ∧ Pv i H, ⟨kvs.length, by simp, Nat.zero_le _, h0⟩, ?_⟩
  rintro i m H ⟨rfl, hi, p⟩
  have q := hl i H hi p
  by_cases hlt : i < kvs.length
  · refine .inr ⟨⟨q, hlt⟩, Pv (i + 1), fun H' p' => ⟨kvs.length - (i + 1), by omega, rfl, hlt, p'⟩, fun x H' y => ?_⟩
    obtain ⟨e, k, v, hk, rfl⟩ := y
    subst e
    exact hs i k v _ hk p
  · have e : i = kvs.length := by omega
    subst e
    exact .inl ⟨⟨q, Nat.le_refl _⟩, hd H p⟩
theorem dc_keys {d : Addr} {o : Obj} {kvs : List (Key × V)} {g : TG} {tt : TT} {tk tv : TE} {vs : List Nat} {σ : L2.St} {H1 : Hp} {D : Addr} {Qd : Hp → Prop} (Pv : Nat → Hp → Prop) (h0 : Pv 0 (upd H1 D (.dK []))) (hl : ∀ i H, i ≤ kvs.length → Pv i H → H d = some (.frz o (.dK kvs)))
    (hs : ∀ i k v H, kvs[i]? = some (k, v) → Pv i H → g (kV k) (wipe σ vs) H fun σ2 H2 => wipe σ2 vs = wipe σ vs ∧ tt σ2 H2 fun b H3 =>
      if b = true then tk σ2 H3 fun y H4 => tv σ2 H4 fun z H5 => ∃ ks kk, y = kV kk ∧ H5 D = some (.dK ks) ∧ ks.length < sizeLine ∧ Pv (i + 1) (upd H5 D (.dK (putK ks kk z))) else Pv (i + 1) H3) (hd : ∀ H, Pv kvs.length H → Qd H) :
    ∃ W : Nat → Nat → Hp → Prop, (∃ m, W 0 m (upd H1 D (.dK []))) ∧ ∀ i m H, W i m H →
      ((Itk d o kvs).stop i H ∧ Qd H) ∨ ((Itk d o kvs).go i H ∧ ∃ Nx : Hp → Prop, (∀ H', Nx H' → ∃ m', m' < m ∧ W (i + 1) m' H') ∧ ∀ x H', (Itk d o kvs).yld i H x H' → g x (wipe σ vs) H' fun σ2 H2 => wipe σ2 vs = wipe σ vs ∧ tt σ2 H2 fun b H3 =>
        if b = true then tk σ2 H3 fun y H4 => tv σ2 H4 fun z H5 => ∃ kvs k, y = kV k ∧ H5 D = some (.dK kvs) ∧ kvs.length < sizeLine ∧ Nx (upd H5 D (.dK (putK kvs k z))) else Nx H3) := by
  refine ⟨fun i m H => m = kvs.length - i ∧ i ≤ kvs.length ∧ Pv i H, ⟨kvs.length, by simp, Nat.zero_le _, h0⟩, ?_⟩
  rintro i m H ⟨rfl, hi, p⟩
  have q := hl i H hi p
  by_cases hlt : i < kvs.length
  · refine .inr ⟨⟨q, hlt⟩, Pv (i + 1), fun H' p' => ⟨kvs.length - (i + 1), by omega, rfl, hlt, p'⟩, fun x H' y => ?_⟩
    obtain ⟨e, k, v, hk, rfl⟩ := y
    subst e
    exact hs i k v _ hk p
  · have e : i = kvs.length := by omega
    subst e
    exact .inl ⟨⟨q, Nat.le_refl _⟩, hd H p⟩

def Chg (S : List Addr) (H H' : Hp) : Prop := ∀ b o, b ∉ S → H b = some o → H' b = some o
theorem Chg.refl (S : List Addr) (H : Hp) : Chg S H H := fun _ _ _ h => h
theorem Chg.trans {S : List Addr} {H H1 H2 : Hp} (a : Chg S H H1) (b : Chg S H1 H2) : Chg S H H2 := fun c o n h => b c o n (a c o n h)
theorem Chg.mono {S S' : List Addr} {H H' : Hp} (a : Chg S H H') (h : ∀ x ∈ S, x ∈ S') : Chg S' H H' := fun c o n q => a c o (fun z => n (h c z)) q
theorem Chg.new {S : List Addr} {H : Hp} {p : Addr} {o : HO} (h : H p = none) : Chg S H (upd H p o) := fun b u _ e => by rw [upd_ne (ne_of_none e h)]; exact e
theorem Chg.set {S : List Addr} {H : Hp} {p : Addr} {o : HO} (h : p ∈ S) : Chg S H (upd H p o) := fun b u n e => by rw [upd_ne (fun z => n (by rw [z]; exact h))]; exact e
/-- a further store to what was free at the start -/
theorem Chg.put {S : List Addr} {H H' : Hp} {p : Addr} {o : HO} (a : Chg S H H') (h : H p = none) : Chg S H (upd H' p o) := fun b u n e => by rw [upd_ne (ne_of_none e h)]; exact a b u n e
theorem Chg.free {S : List Addr} {H H' : Hp} (a : Chg S H H') {p : Addr} (h : H' p = none) (n : p ∉ S) : H p = none := by
  cases e : H p with
  | none => rfl
  | some o => rw [a p o n e] at h; cases h
theorem Chg.same {H H' : Hp} (a : Same H H') (S : List Addr) : Chg S H H' := fun b o _ e => a b o e
theorem Chg.toSame {H H' : Hp} (a : Chg [] H H') : Same H H' := fun b o e => a b o (by simp) e
theorem Chg.seq {S : List Addr} {K : PySem.W.Frag} {H H' : Hp} {a : Addr} {xs : List V} (e : Chg S H H') (n : a ∉ S) (h : SqL K H a xs) : SqL K H' a xs := by
  rcases h with (h | ⟨o, h⟩) | h
  · exact .inl (.inl (e _ _ n h))
  · exact .inl (.inr ⟨o, e _ _ n h⟩)
  · exact .inr h
theorem Chg.sqt {S : List Addr} {K : PySem.W.Frag} {H H' : Hp} {a : Addr} {xs : List V} (e : Chg S H H') (n : a ∉ S) (h : SqT K H a xs) : SqT K H' a xs := by
  rcases h with (h | ⟨o, h⟩) | h
  · exact .inl (.inl (e _ _ n h))
  · exact .inl (.inr ⟨o, e _ _ n h⟩)
  · exact .inr h
theorem same_new {H : Hp} {p : Addr} {o : HO} (h : H p = none) : Same H (upd H p o) := fun b u e => by rw [upd_ne (ne_of_none e h)]; exact e
theorem Same.put {H H' : Hp} {p : Addr} {o : HO} (a : Same H H') (h : H p = none) : Same H (upd H' p o) := fun b u e => by rw [upd_ne (ne_of_none e h)]; exact a b u e
theorem Same.sqt {K : PySem.W.Frag} {H H' : Hp} {a : Addr} {xs : List V} (e : Same H H') (h : SqT K H a xs) : SqT K H' a xs := by
  rcases h with (h | ⟨o, h⟩) | h
  · exact .inl (.inl (e _ _ h))
  · exact .inl (.inr ⟨o, e _ _ h⟩)
  · exact .inr h

def sk (l : List (Str × V)) : List (Key × V) := l.map fun p => (Sum.inr p.1, p.2)
theorem sk_len (l : List (Str × V)) : (sk l).length = l.length := List.length_map ..
theorem sk_get {l : List (Str × V)} {i : Nat} {k : Key} {v : V} (h : (sk l)[i]? = some (k, v)) : ∃ z, k = Sum.inr z ∧ l[i]? = some (z, v) := by
  unfold sk at h
  rw [List.getElem?_map] at h
  cases e : l[i]? with
  | none => rw [e] at h; cases h
  | some p =>
    rw [e] at h
    cases h
    exact ⟨p.1, rfl, rfl⟩
def sVal (l : List (Str × V)) (z : Str) : Option V := valV (sk l) (Sum.inr z)
theorem sVal_nil {z : Str} : sVal [] z = none := rfl
theorem sVal_cons (p : Str × V) (l : List (Str × V)) (z : Str) : sVal (p :: l) z = if p.1 = z then some p.2 else sVal l z := by
  by_cases e : p.1 = z
  · rw [if_pos e]
    exact valV_pos (p := (Sum.inr p.1, p.2)) (by rw [e])
  · rw [if_neg e]
    exact valV_neg (p := (Sum.inr p.1, p.2)) (fun q => e (Sum.inr.inj q))
theorem sVal_at : ∀ {l : List (Str × V)} {i : Nat} {z : Str} {v : V}, (l.map (·.1)).Nodup → l[i]? = some (z, v) → sVal l z = some v
  | [], i, z, v, _, h => by simp at h
  | p :: l, 0, z, v, _, h => by
    have e : p = (z, v) := Option.some.inj h
    subst e
    rw [sVal_cons, if_pos rfl]
  | p :: l, i + 1, z, v, hn, h => by
    have h : l[i]? = some (z, v) := h
    have hn : (p.1 :: l.map (·.1)).Nodup := hn
    obtain ⟨h1, h2⟩ := List.nodup_cons.mp hn
    have hm : z ∈ l.map (·.1) := List.mem_map.mpr ⟨(z, v), List.mem_of_getElem? h, rfl⟩
    rw [sVal_cons, if_neg (fun e : p.1 = z => h1 (by rw [e]; exact hm))]
    exact sVal_at h2 h
theorem sVal_mem : ∀ {l : List (Str × V)} {z : Str} {v : V}, sVal l z = some v → (z, v) ∈ l
  | [], z, v, h => by cases h
  | p :: l, z, v, h => by
    rw [sVal_cons] at h
    by_cases e : p.1 = z
    · rw [if_pos e] at h
      cases h
      exact List.mem_cons.mpr (.inl (by rw [← e]))
    · rw [if_neg e] at h
      exact List.mem_cons.mpr (.inr (sVal_mem h))
theorem sVal_none : ∀ {l : List (Str × V)} {z : Str}, sVal l z = none ↔ z ∉ l.map (·.1)
  | [], z => by simp [sVal_nil]
  | p :: l, z => by
    rw [sVal_cons, List.map_cons, List.mem_cons]
    by_cases e : p.1 = z
    · rw [if_pos e]
      exact Iff.intro (fun h => nomatch h) (fun h => (h (Or.inl e.symm)).elim)
    · rw [if_neg e, sVal_none]
      exact Iff.intro (fun h q => q.elim (fun q => e q.symm) h) (fun h q => h (Or.inr q))
/-- put at its place, or at the end -/
def sPut (l : List (Str × V)) (z : Str) (v : V) : List (Str × V) := if (sVal l z).isSome = true then l.map (fun p => if p.1 = z then (p.1, v) else p) else l ++ [(z, v)]
theorem sk_put (l : List (Str × V)) (z : Str) (v : V) : putK (sk l) (Sum.inr z) v = sk (sPut l z v) := by
  unfold putK sPut sVal
  rw [valV_any]
  by_cases h : (valV (sk l) (Sum.inr z)).isSome = true
  · rw [if_pos h, if_pos h]
    unfold sk
    rw [List.map_map, List.map_map]
    refine List.map_congr_left fun p _ => ?_
    show (if (Sum.inr p.1 : Key) = Sum.inr z then ((Sum.inr p.1 : Key), v) else (Sum.inr p.1, p.2)) = ((fun p : Str × V => ((Sum.inr p.1 : Key), p.2)) (if p.1 = z then (p.1, v) else p))
    by_cases e : p.1 = z
    · rw [if_pos e, if_pos (by rw [e])]
    · rw [if_neg e, if_neg (fun q => e (Sum.inr.inj q))]
  · rw [if_neg h, if_neg h]
    unfold sk
    rw [List.map_append]
    rfl
theorem sVal_put (l : List (Str × V)) (z y : Str) (v : V) : sVal (sPut l z v) y = if y = z then some v else sVal l y := by
  show valV (sk (sPut l z v)) (Sum.inr y) = _
  rw [← sk_put, valV_put]
  by_cases e : y = z
  · rw [if_pos e, if_pos (by rw [e])]
  · rw [if_neg e, if_neg (fun q => e (Sum.inr.inj q))]
    rfl
theorem sPut_keys (l : List (Str × V)) (z : Str) (v : V) : (sPut l z v).map (·.1) = if (sVal l z).isSome = true then l.map (·.1) else l.map (·.1) ++ [z] := by
  unfold sPut
  by_cases h : (sVal l z).isSome = true
  · rw [if_pos h, if_pos h, List.map_map]
    refine List.map_congr_left fun p _ => ?_
    show (if p.1 = z then (p.1, v) else p).1 = p.1
    by_cases e : p.1 = z
    · rw [if_pos e]
    · rw [if_neg e]
  · rw [if_neg h, if_neg h, List.map_append]
    rfl
theorem sPut_nodup {l : List (Str × V)} (z : Str) (v : V) (hn : (l.map (·.1)).Nodup) : ((sPut l z v).map (·.1)).Nodup := by
  rw [sPut_keys]
  by_cases h : (sVal l z).isSome = true
  · rw [if_pos h]; exact hn
  · rw [if_neg h]
    refine nd_snoc hn (sVal_none.mp ?_)
    cases e : sVal l z with
    | none => rfl
    | some v => rw [e] at h; exact (h rfl).elim
theorem sPut_len (l : List (Str × V)) (z : Str) (v : V) : (sPut l z v).length ≤ l.length + 1 := by
  have h := congrArg List.length (sPut_keys l z v)
  rw [List.length_map] at h
  rw [h]
  by_cases e : (sVal l z).isSome = true
  · rw [if_pos e, List.length_map]; omega
  · rw [if_neg e, List.length_append, List.length_map, List.length_singleton]
    exact Nat.le_refl _
theorem sPut_new {l : List (Str × V)} {z : Str} (v : V) (h : z ∉ l.map (·.1)) : sPut l z v = l ++ [(z, v)] := by
  unfold sPut
  rw [sVal_none.mpr h]
  exact if_neg (by decide)
theorem sPut_mem {l : List (Str × V)} {z : Str} {v : V} {p : Str × V} (h : p ∈ sPut l z v) : p ∈ l ∨ p = (z, v) := by
  unfold sPut at h
  by_cases e : (sVal l z).isSome = true
  · rw [if_pos e] at h
    obtain ⟨q, hq, rfl⟩ := List.mem_map.mp h
    by_cases e : q.1 = z
    · rw [if_pos e]; exact .inr (by rw [e])
    · rw [if_neg e]; exact .inl hq
  · rw [if_neg e] at h
    rcases List.mem_append.mp h with h | h
    · exact .inl h
    · exact .inr (List.mem_singleton.mp h)
theorem dget_s {H : Hp} {a : Addr} {l : List (Str × V)} (z : Str) (h : Rd H a (.dK (sk l))) : DGet H a (.str z) (sVal l z) := .inl ⟨sk l, Sum.inr z, h, rfl, rfl⟩
theorem dput_s {H : Hp} {a : Addr} {l : List (Str × V)} (z : Str) (v : V) (h : H a = some (.dK (sk l))) (hl : l.length < sizeLine) : DPut H a (.str z) v (upd H a (.dK (sk (sPut l z v)))) := by
  refine .inl ⟨sk l, Sum.inr z, h, rfl, by rw [sk_len]; exact hl, by rw [sk_put]⟩

def cs (z : Str) : List Nat := z.cps.toList
theorem cs_inj {a b : Str} (h : cs a = cs b) : a = b := by
  cases a; cases b
  exact congrArg _ (Array.toList_inj.mp h)
theorem lt_irr : ∀ a : List Nat, ltCps a a = false
  | [] => rfl
  | a :: r => by
    show (decide (a < a) || (a == a && ltCps r r)) = false
    rw [lt_irr r, decide_eq_false (Nat.lt_irrefl a), Bool.and_false]
    rfl
theorem lt_cons (a b : Nat) (r t : List Nat) : (ltCps (a :: r) (b :: t) = true) ↔ (a < b ∨ (a = b ∧ ltCps r t = true)) := by
  show ((decide (a < b) || (a == b && ltCps r t)) = true) ↔ _
  rw [Bool.or_eq_true, Bool.and_eq_true, decide_eq_true_iff, beq_iff_eq]
theorem lt_tr : ∀ {a b c : List Nat}, ltCps a b = true → ltCps b c = true → ltCps a c = true
  | [], [], _, h, _ => by cases h
  | [], _ :: _, [], _, h => by cases h
  | [], _ :: _, _ :: _, _, _ => rfl
  | _ :: _, [], _, h, _ => by cases h
  | _ :: _, _ :: _, [], _, h => by cases h
  | a :: r, b :: t, c :: u, h1, h2 => by
    rw [lt_cons] at h1 h2 ⊢
    rcases h1 with h1 | ⟨e1, h1⟩ <;> rcases h2 with h2 | ⟨e2, h2⟩
    · exact .inl (by omega)
    · exact .inl (by omega)
    · exact .inl (by omega)
    · exact .inr ⟨by omega, lt_tr h1 h2⟩
theorem lt_tri : ∀ (a b : List Nat), ltCps a b = true ∨ a = b ∨ ltCps b a = true
  | [], [] => .inr (.inl rfl)
  | [], _ :: _ => .inl rfl
  | _ :: _, [] => .inr (.inr rfl)
  | a :: r, b :: t => by
    rcases Nat.lt_trichotomy a b with h | h | h
    · exact .inl ((lt_cons ..).mpr (.inl h))
    · rcases lt_tri r t with q | q | q
      · exact .inl ((lt_cons ..).mpr (.inr ⟨h, q⟩))
      · exact .inr (.inl (by rw [h, q]))
      · exact .inr (.inr ((lt_cons ..).mpr (.inr ⟨h.symm, q⟩)))
    · exact .inr (.inr ((lt_cons ..).mpr (.inl h)))
/-- strictly rising texts -/
abbrev Rise (l : List Str) : Prop := l.Pairwise fun a b => ltCps (cs a) (cs b) = true
theorem rising_of : ∀ (r : List Str) (x : Str), risingS x r = true → ∀ y ∈ r, ltCps (cs y) (cs x) = false
  | [], _, _, y, h => by simp at h
  | a :: r, x, h, y, hy => by
    have h : (!ltCps (cs a) (cs x) && risingS a r) = true := h
    obtain ⟨h1, h2⟩ := (Bool.and_eq_true_iff).mp h
    have h1 : ltCps (cs a) (cs x) = false := by simpa using h1
    rcases List.mem_cons.mp hy with e | hy
    · rw [e]; exact h1
    · have q := rising_of r a h2 y hy
      cases e : ltCps (cs y) (cs x) with
      | false => rfl
      | true =>
        rcases lt_tri (cs x) (cs a) with z | z | z
        · rw [lt_tr e z] at q; cases q
        · rw [← z, e] at q; cases q
        · rw [z] at h1; cases h1
theorem rise_of : ∀ (l : List Str), sortedS l = true → l.Nodup → Rise l
  | [], _, _ => .nil
  | x :: r, h, hn => by
    have h : risingS x r = true := h
    obtain ⟨n1, n2⟩ := List.nodup_cons.mp hn
    refine .cons (fun y hy => ?_) (rise_of r ?_ n2)
    · rcases lt_tri (cs x) (cs y) with q | q | q
      · exact q
      · exact (n1 (by rw [cs_inj q]; exact hy)).elim
      · rw [rising_of r x h y hy] at q; cases q
    · cases r with
      | nil => rfl
      | cons a r =>
        have h : (!ltCps (cs a) (cs x) && risingS a r) = true := h
        exact ((Bool.and_eq_true_iff).mp h).2
theorem rise_eq : ∀ {l m : List Str}, Rise l → Rise m → (∀ z, z ∈ l ↔ z ∈ m) → l = m
  | [], [], _, _, _ => rfl
  | [], b :: m, _, _, h => by have := (h b).mpr (List.mem_cons_self ..); simp at this
  | a :: l, [], _, _, h => by have := (h a).mp (List.mem_cons_self ..); simp at this
  | a :: l, b :: m, h1, h2, h => by
    obtain ⟨p1, q1⟩ := List.pairwise_cons.mp h1
    obtain ⟨p2, q2⟩ := List.pairwise_cons.mp h2
    have e : a = b := by
      rcases List.mem_cons.mp ((h a).mp (List.mem_cons_self ..)) with e | e
      · exact e
      · rcases List.mem_cons.mp ((h b).mpr (List.mem_cons_self ..)) with e' | e'
        · exact e'.symm
        · have z := lt_tr (p1 b e') (p2 a e)
          rw [lt_irr] at z; cases z
    subst e
    refine congrArg _ (rise_eq q1 q2 fun z => ⟨fun hz => ?_, fun hz => ?_⟩)
    · rcases List.mem_cons.mp ((h z).mp (List.mem_cons_of_mem _ hz)) with e | e
      · rw [e] at hz; have z := p1 _ hz; rw [lt_irr] at z; cases z
      · exact e
    · rcases List.mem_cons.mp ((h z).mpr (List.mem_cons_of_mem _ hz)) with e | e
      · rw [e] at hz; have z := p2 _ hz; rw [lt_irr] at z; cases z
      · exact e
end M
namespace M
open PySem PySem.Spec PyProof.Rows L2
section
variable {prog : Program} {w : World} {κ : Type} [DecidableEq κ] {knd : KeyKind prog w κ} {A : Around} {E : Value → Shared → Prop} {s : Shared}

theorem put_pairs {d : Addr} {kvs : List (κ × Value)} {k : κ} {key v : Value} {Q : Unit → Shared → Prop} (hkey : knd.is k key = true) (hm : s.heap.DictOf knd d kvs)
    (hQ : ∀ h', h'.DictOf knd d (stored kvs k v) → Heap.SameBut d s.heap h' → Q () { s with heap := h' }) (hsz : kvs.length ≤ sizeLine) : wpAny (model prog w) A (dictPut d (knd.hash k) key v) Q E s := by
  obtain ⟨o, es, ep, ho, hc, hd, hk, hp, hn⟩ := hm
  have hes : es.size ≤ sizeLine := by
    have e1 := hp.length
    have e2 : es.toList.length = es.size := by simp
    omega
  unfold dictPut
  refine wpAny_bind (wpAny_dictFind_of hkey ho hd hk ?_)
  have hidx : (es.findIdx? fun e => knd.is k e.key) = kvs.findIdx? fun kv => decide (kv.1 = k) := by
    rw [← hp.findIdx k]
    obtain ⟨l⟩ := es
    simp
  cases hi : es.findIdx? fun e => knd.is k e.key with
  | some i =>
    have hst : stored kvs k v = kvs.map (fun kv => if kv.1 = k then (kv.1, v) else kv) := by rw [stored, if_pos (any_of_findIdx_some (hidx ▸ hi))]
    refine wpAny_updateDict ho hd (hQ _ ⟨_, _, ep, Heap.get?_update_self _ ho (Obj.isFreed_of_dict (Obj.data_mapDict hd _)), hc.mapDict _, Obj.data_mapDict hd _, hk.modify _ _, ?_, ?_⟩ (Heap.SameBut.update ..))
    · rw [hst]
      have hl : (es.toList.findIdx? fun e => knd.is k e.key) = some i := by
        rw [← hi]
        obtain ⟨l⟩ := es
        simp
      have q := hp.modify hn hl v
      obtain ⟨l⟩ := es
      simpa using q
    · rw [hst, keys_map_store]
      exact hn
  | none =>
    have hnot : k ∉ kvs.map (·.1) := not_mem_of_findIdx_none (hidx ▸ hi)
    have hany : ¬ (kvs.any fun kv => decide (kv.1 = k)) = true := by
      intro q
      obtain ⟨kv, hkv, he⟩ := List.any_eq_true.mp q
      exact hnot (List.mem_map.mpr ⟨kv, hkv, of_decide_eq_true he⟩)
    have hst : stored kvs k v = kvs ++ [(k, v)] := by rw [stored, if_neg hany]
    refine wpAny_updateDictKeys (hz := hes) ho hd (hQ _ ⟨_, _, ep + 1, Heap.get?_update_self _ ho (Obj.isFreed_of_dict (Obj.data_mapDictKeys hd _)), hc.mapDictKeys _, Obj.data_mapDictKeys hd _, hk.push hkey _, ?_, ?_⟩ (Heap.SameBut.update ..))
    · rw [hst]
      have q := hp.append hkey (knd.hash k) v
      obtain ⟨l⟩ := es
      simpa using q
    · rw [hst, List.map_append, List.nodup_append]
      refine ⟨hn, by simp, fun a ha b hb e => ?_⟩
      rw [List.map_cons, List.map_nil, List.mem_singleton] at hb
      have hb : b = k := hb
      exact hnot (by rw [← hb, ← e]; exact ha)

theorem merge_mapping {d o : Addr} {kvs more : List (κ × Value)} {Q : Unit → Shared → Prop} (hdo : d ≠ o) (hoS : (o == sysModules) = false) (hd : s.heap.DictOf knd d kvs) (ho : s.heap.DictOf knd o more)
    (hkr : ∀ k v, knd.is k v = true → ∀ a, v ≠ .ref a)
    (hQ : ∀ h', h'.DictOf knd d (merged kvs more) → Heap.SameBut d s.heap h' → Q () { s with heap := h' }) (hsz : kvs.length + more.length ≤ sizeLine) : wpAny (model prog w) A (mergeMapping d (.ref o) false) Q E s := by
  have hto := ho.typeIs
  obtain ⟨od, esd, epd, hod, hcd, hdd, hkd, hpd, hnd⟩ := id hd
  obtain ⟨oo, eso, epo, hoo, hco, hdo', hko, hpo, hno⟩ := id ho
  have hlen : more.length = eso.size := by rw [← hpo.length]; simp
  have loop : wpAny (model prog w) A (do
      let size := (← dictEntries o).size
      let epoch ← dictEpoch o
      for i in List.range size do
        let some e := (← dictEntries o)[i]? | unsupported "dict.changed-during-merge"
        holding [e.key, e.val] do
          if false = true then
            if (← dictFind d e.key e.hash).isSome then rule "dict.merge.duplicate-key"; raiseNew (← newExc (.type "KeyError") [e.key])
          dictPut d e.hash e.key e.val
        if (← dictEpoch o) != epoch then unsupported "dict.changed-during-merge") Q E s := by
    refine wpAny_bind (wpAny_dictEntries hoo hdo' ?_)
    refine wpAny_bind (wpAny_dictEpoch hoo hdo' ?_)
    refine wpAny_bind ?_
    refine wpAny_forIn_list _ (fun rest _ s' => ∃ h' i, s' = { s with heap := h' } ∧ rest = (List.range eso.size).drop i ∧ i ≤ eso.size ∧ h'.DictOf knd d (merged kvs (more.take i)) ∧ h'.get? o = some oo ∧ Heap.SameBut d s.heap h')
      _ ?_ ?_ _ _ ⟨s.heap, 0, rfl, (List.drop_zero).symm, Nat.zero_le _, by simpa [merged] using hd, hoo, Heap.SameBut.refl _ _⟩
    · rintro x rest b s' ⟨h', i, rfl, hr, hi, hd', hoo', hs'⟩
      have hlt : i < eso.size := by
        rcases Nat.lt_or_ge i eso.size with h | h
        · exact h
        · rw [List.drop_of_length_le (by simpa using h)] at hr
          cases hr
      obtain ⟨rfl, hrest⟩ : x = i ∧ rest = (List.range eso.size).drop (i + 1) := by
        rw [List.drop_eq_getElem_cons (by simpa using hlt)] at hr
        injection hr with h1 h2
        exact ⟨by simpa using h1, h2⟩
      refine wpAny_bind (wpAny_dictEntries hoo' hdo' ?_)
      rw [Array.getElem?_eq_getElem hlt]
      obtain ⟨⟨k, v⟩, hkv⟩ : ∃ kv, more[x]? = some kv := ⟨more[x]'(by rw [hlen]; exact hlt), List.getElem?_eq_getElem _⟩
      obtain ⟨hkey, hval⟩ := hpo.get? (e := eso[x]) (by simp [hlt]) hkv
      obtain ⟨k', hkey', hhash⟩ := hko eso[x] (Array.getElem_mem hlt)
      obtain rfl : k' = k := knd.inj _ _ _ hkey' hkey
      have hmx : (merged kvs (more.take x)).length ≤ sizeLine := by
        have e1 := merged_length_le kvs (more.take x)
        have e2 : (more.take x).length ≤ more.length := by rw [List.length_take]; omega
        omega
      dsimp only
      simp only [Bool.false_eq_true, if_false]
      rw [hhash, hval]
      refine wpAny_bind (wpAny_holding (put_pairs (hsz := hmx) hkey hd' fun h'' hd'' hs'' => ?_))
      have hoo'' : h''.get? o = some oo := (hs''.2 o (Ne.symm hdo)).trans hoo'
      refine wpAny_bind (wpAny_dictEpoch hoo'' hdo' ?_)
      rw [if_neg (by simp)]
      exact wpAny_pure ⟨h'', x + 1, rfl, hrest, hlt, by rw [merged_take_succ kvs more x (k', v) hkv]; exact hd'', hoo'', hs'.trans hs''⟩
    · rintro b s' ⟨h', i, rfl, hr, hi, hd', hoo', hs'⟩
      have hin : i = eso.size := by
        rcases Nat.lt_or_ge i eso.size with h | h
        · rw [List.drop_eq_getElem_cons (by simpa using h)] at hr
          cases hr
        · exact Nat.le_antisymm hi h
      refine wpAny_pure (hQ h' ?_ hs')
      rw [hin, ← hlen, List.take_length] at hd'
      exact hd'
  unfold mergeMapping
  refine wpAny_bind (wpAny_isInstance (U := "dict") (b := true) hto (by rw [isSubtype_type]; kernel_rfl) ?_)
  try simp only [if_true]
  refine wpAny_bind (wpAny_specialOf hto F.slot_dict_iter.lookup (wpAny_bind (wpAny_pure ?_)))
  rw [show (some (Value.builtin "dict.__iter__") == some (Value.builtin "dict.__iter__")) = true from beq_self_eq_true _]
  show wpAny _ _ (if (o == sysModules) = true then _ else _) _ _ _
  rw [hoS]
  simp only [Bool.false_eq_true, if_false]
  refine wpAny_bind (wpAny_dictEntries hod hdd ?_)
  by_cases hemp : esd.isEmpty = true
  · rw [if_pos hemp]
    refine wpAny_bind (wpAny_dictEntries hoo hdo' ?_)
    rw [← Array.forIn_toList]
    refine wpAny_bind ?_
    refine wpAny_forIn_list _ (fun rest _ s' => s' = s ∧ ∀ e ∈ rest, e ∈ eso.toList) _ ?_ ?_ _ _ ⟨rfl, fun _ h => h⟩
    · rintro x rest b s' ⟨rfl, hr⟩
      obtain ⟨k', hkey', _⟩ := hko x (Array.mem_def.mpr (hr x (List.mem_cons_self ..)))
      have hne := hkr k' _ hkey'
      cases hx : x.key with
      | ref a => exact (hne a hx).elim
      | _ => exact wpAny_pure ⟨rfl, fun e he => hr e (List.mem_cons_of_mem _ he)⟩
    · rintro b s' ⟨rfl, _⟩
      exact loop
  · rw [if_neg hemp]
    exact loop
end
end M
namespace M
open PySem PySem.Spec PyProof.Rows L2
theorem key_noref {k : Key} {v : Value} (h : keyIs k v = true) (a : Addr) : v ≠ .ref a := by
  rcases keyIs_shape h with ⟨i, t, _, rfl⟩ | ⟨x, t, _, rfl⟩ <;> exact fun z => nomatch z
section
variable {X : Cx} {d k v : Expr} {td tk tv : TE} {pos : Pos}
def tDStar (td tk tv : TE) : TE := fun σ H Q => ∀ p, H p = none → td σ (upd H p (.dK [])) fun x H1 => ∃ a kvs, x = .ref a ∧ a ≠ p ∧ Rd H1 a (.dK kvs) ∧ H1 p = some (.dK []) ∧ ∀ q, H1 q = none →
  tk σ (upd (upd H1 p (.dK kvs)) q (.dK [])) fun y H2 => tv σ H2 fun z H3 => ∃ kk, y = kV kk ∧ H3 p = some (.dK kvs) ∧ H3 q = some (.dK []) ∧ kvs.length < sizeLine ∧ Q (.ref p) (upd (upd H3 q (.dK [(kk, z)])) p (.dK (putK kvs kk z)))
theorem dstar_eq (A B C : Sem Value) (pos : Pos) : dictDisplay [(none, A), (some B, C)] = (do
    let d ← alloc { cls := .type "dict", data := .dict #[] }
    let m ← holding [.ref d] A
    (((holding [.ref d, m] (mergeMapping d m false)).onRaise fun x => do let _ ← holding [.ref d, m, x] (runValue (.builtin "proto.let_go" {}))).tryCatch fun e => do
        if ← isInstance e (.type "AttributeError") then
          rule "dict.display.not-a-mapping"; raiseError "TypeError" s!"'{← typeNameOf m}' object is not a mapping"
        throw e).onRaise fun x => do let _ ← holding [.ref d, x] (runValue (.builtin "proto.let_go" {}))
    let sub ← holding [.ref d] (subDict [(B, C)])
    (holding [.ref d, .ref sub] (mergeMapping d (.ref sub) false)).onRaise fun x => do let _ ← holding [.ref d, x] (runValue (.builtin "proto.let_go" {}))
    pure (.ref d)) := by
  unfold dictDisplay
  simp only [List.forIn_cons, List.forIn_nil, List.isEmpty_nil, List.nil_append, if_true, pure_bind, bind_assoc, List.length_singleton, List.isEmpty_cons, show ((1 : Nat) == 17) = false from rfl, Bool.false_eq_true, if_false]
theorem pe_dstar (hd : PE X d td) (hk : PE X k tk) (hv : PE X v tv) : PE X (.Dict [none, some k] [d, v] pos) (tDStar td tk tv) := by
  refine ⟨fun pins s σ H Q I h => ?_⟩
  rw [arm_eval_Dict]
  refine wpAny_bind (wpAny_standAt ?_)
  show wpAny _ _ (dictDisplay [(none, (do let x ← eval d X.env; standAt pos; pure x)), (some (eval k X.env), (do let x ← eval v X.env; standAt pos; pure x))]) _ _ _
  rw [dstar_eq _ _ _ pos]
  have hn := I.hok.fresh (Nat.le_refl s.heap.objs.size)
  have I1 := I.laid (a := s.heap.objs.size) (o := .dK []) (h' := s.heap.push { cls := .type "dict", data := .dict #[] }) (t' := s.toks) (fun _ _ q => Heap.get?_push_of_some _ q) (Nat.le_refl _) (dk_empty s.heap I.big)
  have g := h _ hn
  generalize hp : s.heap.objs.size = p at *
  refine wpAny_bind (wpAny_alloc ?_)
  rw [hp]
  refine wpAny_bind (wpAny_holding (wpAny_bind (thn (hd.run pins _ σ _ _ I1 g) fun u s2 h2 => wpAny_bind (wpAny_standAt (wpAny_pure ?_)))))
  obtain ⟨x, H1, I2, rx, a, kvs, rfl, hap, hra, hp1, g2⟩ := h2
  cases (show u = Value.ref a from rx)
  obtain ⟨z1, s1, vs, rel, dd⟩ := dk_rd I2.hok hra
  obtain ⟨z0, s0, vs0, rel0, dd0⟩ := dk_of I2.hok hp1
  cases rel0
  have hnd : (vs.map (·.1)).Nodup := let ⟨_, _, _, _, _, _, _, _, hn⟩ := dd; hn
  refine wpAny_bind (wpAny_onRaise (wpAny_tryCatch (wpAny_onRaise (wpAny_holding (merge_mapping (knd := mixKind X.prog X.w) (Ne.symm hap) s1 dd0 dd (fun k v h a => key_noref h a) (fun h' dd' hs' => ?_) (by rw [← rel.length]; simpa using z1))))))
  rw [merged_nil_of_nodup vs hnd] at dd'
  have he : ∃ q, h'.get? p = some q := let ⟨q, _, _, hq, _⟩ := dd'; ⟨q, hq⟩
  have I3 := d_write (t' := s2.toks) I2 (by rw [hp1]; exact True.intro) hs' he (dk_new z1 s0 rel dd')
  generalize hs3 : ({ s2 with heap := h' } : Shared) = s3 at I3 ⊢
  have hq0 := I3.hok.fresh (Nat.le_refl s3.heap.objs.size)
  have hpq : p ≠ s3.heap.objs.size := fun e => by rw [← e, upd_same] at hq0; cases hq0
  have I4 := I3.laid (a := s3.heap.objs.size) (o := .dK []) (h' := s3.heap.push { cls := .type "dict", data := .dict #[] }) (t' := s3.toks) (fun _ _ q => Heap.get?_push_of_some _ q) (Nat.le_refl _) (dk_empty s3.heap I3.big)
  have hq1 : H1 s3.heap.objs.size = none := by rw [upd_ne (Ne.symm hpq)] at hq0; exact hq0
  have g3 := g2 _ hq1
  refine wpAny_bind (wpAny_holding (wpAny_subDict (knd := mixKind X.prog X.w) (by simp) (pairTrees_cons_walk (ks := []) (vs := []) (thn (hk.run pins _ σ _ _ I4 g3) fun uk s5 h5 => ?_))))
  obtain ⟨y, H2, I5, ry, g5⟩ := h5
  refine thn (hv.run pins s5 σ H2 _ I5 g5) fun uv s6 h6 => ?_
  obtain ⟨z, H3, I6, rz, kk, rfl, hp3, hq3, hl3, g6⟩ := h6
  refine pairTrees_nil_walk ?_
  obtain ⟨zq, sq, vq, relq, ddq⟩ := dk_of I6.hok hq3
  cases relq
  refine ⟨[(kk, uv)], ⟨kV_is ry, rfl, trivial⟩, ddq, fun h7 dd7 hs7 => ?_⟩
  generalize hq : s3.heap.objs.size = q at *
  have rk : KV [(kk, z)] [(kk, uv)] := .cons ⟨rfl, rz⟩ .nil
  have he7 : ∃ u, h7.get? q = some u := let ⟨u, _, _, hq, _⟩ := dd7; ⟨u, hq⟩
  have I7 := d_write (t' := s6.toks + 1) I6 (by rw [hq3]; exact True.intro) hs7 he7 (dk_new (kvs := [(kk, z)]) (show 1 ≤ sizeLine by rw [sizeLine_eq]; decide) sq rk dd7)
  have hp7 : (upd H3 q (.dK [(kk, z)])) p = some (.dK kvs) := by rw [upd_ne hpq]; exact hp3
  have hq7 : (upd H3 q (.dK [(kk, z)])) q = some (.dK [(kk, z)]) := upd_same
  obtain ⟨z8, s8, v8, r8, d8⟩ := dk_of I7.hok hp7
  obtain ⟨z9, s9, v9, r9, d9⟩ := dk_of I7.hok hq7
  obtain ⟨u9, rfl, r9z⟩ : ∃ u9, v9 = [(kk, u9)] ∧ RelV z u9 := by
    cases r9 with
    | @cons a b as bs h t =>
      cases t
      obtain ⟨b1, b2⟩ := b
      exact ⟨b2, by rw [← (show kk = b1 from h.1)], h.2⟩
  refine wpAny_bind (wpAny_onRaise (wpAny_holding (merge_mapping (knd := mixKind X.prog X.w) hpq s9 d8 d9 (fun k v h a => key_noref h a) (fun h' dd' hs' => wpAny_pure ?_) (by rw [← r8.length]; exact hl3))))
  have he' : ∃ u, h'.get? p = some u := let ⟨u, _, _, hq, _⟩ := dd'; ⟨u, hq⟩
  refine ⟨.ref p, _, d_write I7 (by rw [hp7]; exact True.intro) hs' he' (dk_new ?_ s8 (r8.put kk r9z) dd'), rfl, g6⟩
  have := length_putK kvs kk z
  omega
end
end M
namespace M
open PySem PySem.Spec PyProof.Rows L2
/-- tuples at qs, what they hold -/
def TupsAt (H : Hp) (qs : List Addr) (ts : List (List V)) : Prop := qs.length = ts.length ∧ ∀ (i : Nat) q t, qs[i]? = some q → ts[i]? = some t → H q = some (.tup t)
theorem TupsAt.nil {H : Hp} : TupsAt H [] [] := ⟨rfl, fun i q t h _ => by simp at h⟩
theorem TupsAt.keep {H H' : Hp} {qs : List Addr} {ts : List (List V)} (h : TupsAt H qs ts) (s : ∀ q t, H q = some (.tup t) → H' q = some (.tup t)) : TupsAt H' qs ts := ⟨h.1, fun i q t a b => s _ _ (h.2 i q t a b)⟩
theorem TupsAt.snoc {H : Hp} {qs : List Addr} {ts : List (List V)} {q : Addr} {t : List V} (h : TupsAt H qs ts) (e : H q = some (.tup t)) : TupsAt H (qs ++ [q]) (ts ++ [t]) := by
  refine ⟨by rw [List.length_append, List.length_append, h.1]; rfl, fun i r u a b => ?_⟩
  have hl := h.1
  by_cases hi : i < qs.length
  · rw [List.getElem?_append_left hi] at a
    rw [List.getElem?_append_left (by omega)] at b
    exact h.2 i r u a b
  · rw [List.getElem?_append_right (by omega)] at a
    rw [List.getElem?_append_right (by omega)] at b
    have e0 : i - qs.length = 0 := by
      have := (List.getElem?_eq_some_iff.mp a).1
      simp at this
      omega
    have e1 : i - ts.length = 0 := by omega
    rw [e0] at a
    rw [e1] at b
    cases a
    cases b
    exact e
theorem lc_tups {K : PySem.W.Frag} {a : Addr} {xs : List V} {j : Nat} {tt : TT} {te : TE} {vs : List Nat} {σ : L2.St} {H1 : Hp} {Q : VK} (f : V → List V) (c : V → Bool) (hx : SqL K H1 a xs) (hlen : xs.length ≤ 1000)
    (hw : ∀ x, wipe ((wipe σ vs).set j (some x)) vs = wipe σ vs)
    (ht : ∀ (i : Nat) x H2, xs[i]? = some x → Same H1 H2 → ∀ R : Bool → Hp → Prop, R (c x) H2 → tt ((wipe σ vs).set j (some x)) H2 R)
    (he : ∀ (i : Nat) x H2, xs[i]? = some x → c x = true → Same H1 H2 → ∀ R : VK, (∀ q, H2 q = none → R (.ref q) (upd H2 q (.tup (f x)))) → te ((wipe σ vs).set j (some x)) H2 R)
    (q : ∀ D qs H', H1 D = none → Same H1 H' → H' D = some (.lst (qs.map V.ref)) → TupsAt H' qs ((xs.filter c).map f) → Q (.ref D) H') :
    ∀ D, H1 D = none → ∃ W : Nat → Nat → Hp → Prop, (∃ m, W 0 m (upd H1 D (.lst []))) ∧ ∀ i m H, W i m H →
      ((Itl K a).stop i H ∧ Q (.ref D) H) ∨ ((Itl K a).go i H ∧ ∃ Nx : Hp → Prop, (∀ H', Nx H' → ∃ m', m' < m ∧ W (i + 1) m' H') ∧ ∀ x H', (Itl K a).yld i H x H' → gName j x (wipe σ vs) H' fun σ2 H2 => wipe σ2 vs = wipe σ vs ∧ tt σ2 H2 fun b H3 =>
        if b = true then te σ2 H3 fun y H4 => ∃ acc, H4 D = some (.lst acc) ∧ acc.length < sizeLine ∧ Nx (upd H4 D (.lst (acc ++ [y]))) else Nx H3) := by
  intro D nD
  have key : ∀ (i : Nat) x, xs[i]? = some x → (xs.take (i + 1)).filter c = (xs.take i).filter c ++ [x].filter c := fun i x hi => by
    rw [List.take_add_one, hi, List.filter_append]
    rfl
  refine lc_list (K := K) (a := a) (xs := xs) (fun i H' => Same H1 H' ∧ ∃ qs, H' D = some (.lst (qs.map V.ref)) ∧ TupsAt H' qs (((xs.take i).filter c).map f)) ⟨same_new nD, [], upd_same, .nil⟩ (fun i H' _ p => p.1.seq hx) (fun i x H' hi p => ?_) (fun H' p => ?_)
  · obtain ⟨sm, qs, hD, ts⟩ := p
    have hlt : i < xs.length := (List.getElem?_eq_some_iff.mp hi).1
    refine ⟨hw x, ht i x H' hi sm _ ?_⟩
    cases hc : c x with
    | false =>
      rw [if_neg Bool.false_ne_true]
      refine ⟨sm, qs, hD, ?_⟩
      rw [key i x hi, List.filter_cons, hc]
      show TupsAt H' qs (List.map f (_ ++ []))
      rw [List.append_nil]
      exact ts
    | true =>
      rw [if_pos rfl]
      refine he i x H' hi hc sm _ fun q nq => ?_
      have nqD : D ≠ q := ne_of_none hD nq
      refine ⟨qs.map V.ref, by rw [upd_ne nqD]; exact hD, ?_, ?_, qs ++ [q], by rw [upd_same, List.map_append]; rfl, ?_⟩
      · rw [List.length_map, ts.1, List.length_map]
        have := List.length_filter_le c (xs.take i)
        rw [List.length_take] at this
        exact Nat.lt_of_le_of_lt (this) (small1000 (by omega))
      · exact Same.put (Same.put sm (sm.free nq)) nD
      · rw [key i x hi, List.map_append, List.filter_cons, hc]
        have t2 : TupsAt (upd (upd H' q (.tup (f x))) D (.lst (qs.map V.ref ++ [.ref q]))) qs (((xs.take i).filter c).map f) := ts.keep fun r t e => by
          rw [upd_ne (ne_of e hD (by intro z; cases z)), upd_ne (ne_of_none e nq)]
          exact e
        exact t2.snoc (by rw [upd_ne nqD.symm, upd_same])
  · obtain ⟨sm, qs, hD, ts⟩ := p
    rw [List.take_length] at ts
    exact q D qs H' nD sm hD ts

def ik (l : List (Str × Int)) : List (Str × V) := l.map fun p => (p.1, V.int p.2)
theorem ik_keys (l : List (Str × Int)) : (ik l).map (·.1) = l.map (·.1) := by
  unfold ik
  rw [List.map_map]
  rfl
theorem ik_len (l : List (Str × Int)) : (ik l).length = l.length := List.length_map ..
theorem ik_get {l : List (Str × Int)} {i : Nat} {z : Str} {v : V} (h : (ik l)[i]? = some (z, v)) : ∃ k, v = .int k ∧ l[i]? = some (z, k) := by
  unfold ik at h
  rw [List.getElem?_map] at h
  cases e : l[i]? with
  | none => rw [e] at h; cases h
  | some p => rw [e] at h; cases h; exact ⟨p.2, rfl, rfl⟩
theorem ik_val : ∀ (l : List (Str × Int)) (z : Str), sVal (ik l) z = (l.lookup z).map V.int
  | [], z => rfl
  | p :: l, z => by
    show sVal ((p.1, V.int p.2) :: ik l) z = _
    rw [sVal_cons, List.lookup_cons, ik_val l z]
    by_cases e : p.1 = z
    · rw [if_pos e, e, beq_self_eq_true]
      rfl
    · rw [if_neg e, beq_eq_false_iff_ne.mpr (Ne.symm e)]
theorem look_mem : ∀ {l : List (Str × Int)} {z : Str} {k : Int}, l.lookup z = some k → (z, k) ∈ l
  | [], z, k, h => by cases h
  | p :: l, z, k, h => by
    rw [List.lookup_cons] at h
    cases e : z == p.1 with
    | true => rw [e] at h; cases h; rw [eq_of_beq e]; exact List.mem_cons_self ..
    | false => rw [e] at h; exact List.mem_cons_of_mem _ (look_mem h)
theorem look_of : ∀ {l : List (Str × Int)} {z : Str} {k : Int}, (l.map (·.1)).Nodup → (z, k) ∈ l → l.lookup z = some k
  | [], z, k, _, h => by simp at h
  | p :: l, z, k, hn, h => by
    have hn : (p.1 :: l.map (·.1)).Nodup := hn
    obtain ⟨n1, n2⟩ := List.nodup_cons.mp hn
    rw [List.lookup_cons]
    rcases List.mem_cons.mp h with e | h
    · rw [← e, beq_self_eq_true]
    · have hne : z ≠ p.1 := fun e => n1 (by rw [← e]; exact List.mem_map.mpr ⟨_, h, rfl⟩)
      rw [beq_eq_false_iff_ne.mpr hne]
      exact look_of n2 h
theorem look_none {l : List (Str × Int)} {z : Str} : l.lookup z = none ↔ z ∉ l.map (·.1) := by
  rw [← ik_keys, ← sVal_none, ik_val]
  cases l.lookup z <;> simp
def iput (l : List (Str × Int)) (z : Str) (n : Int) : List (Str × Int) := if (l.lookup z).isSome = true then l.map (fun p => if p.1 = z then (p.1, n) else p) else l ++ [(z, n)]
theorem ik_put (l : List (Str × Int)) (z : Str) (n : Int) : sPut (ik l) z (.int n) = ik (iput l z n) := by
  unfold sPut iput
  rw [ik_val, Option.isSome_map]
  by_cases h : (l.lookup z).isSome = true
  · rw [if_pos h, if_pos h]
    unfold ik
    rw [List.map_map, List.map_map]
    refine List.map_congr_left fun p _ => ?_
    show (if p.1 = z then (p.1, V.int n) else (p.1, V.int p.2)) = ((fun p : Str × Int => (p.1, V.int p.2)) (if p.1 = z then (p.1, n) else p))
    by_cases e : p.1 = z
    · rw [if_pos e, if_pos e]
    · rw [if_neg e, if_neg e]
  · rw [if_neg h, if_neg h]
    unfold ik
    rw [List.map_append]
    rfl
theorem iput_look (l : List (Str × Int)) (z y : Str) (n : Int) : (iput l z n).lookup y = if y = z then some n else l.lookup y := by
  have h := sVal_put (ik l) z y (.int n)
  rw [ik_put, ik_val, ik_val] at h
  by_cases e : y = z
  · rw [if_pos e] at h ⊢
    cases q : (iput l z n).lookup y with
    | none => rw [q] at h; cases h
    | some k => rw [q] at h; cases h; rfl
  · rw [if_neg e] at h ⊢
    cases q : (iput l z n).lookup y with
    | none =>
      cases q2 : l.lookup y with
      | none => rfl
      | some k => rw [q, q2] at h; cases h
    | some k =>
      cases q2 : l.lookup y with
      | none => rw [q, q2] at h; cases h
      | some k2 => rw [q, q2] at h; cases h; rfl
theorem iput_nodup {l : List (Str × Int)} (z : Str) (n : Int) (h : (l.map (·.1)).Nodup) : ((iput l z n).map (·.1)).Nodup := by
  rw [← ik_keys, ← ik_put]
  exact sPut_nodup z _ (by rw [ik_keys]; exact h)
theorem iput_len (l : List (Str × Int)) (z : Str) (n : Int) : (iput l z n).length ≤ l.length + 1 := by
  have h := sPut_len (ik l) z (.int n)
  rw [ik_put, ik_len, ik_len] at h
  exact h
theorem iput_mem {l : List (Str × Int)} {z : Str} {n : Int} {p : Str × Int} (h : p ∈ iput l z n) : p ∈ l ∨ p = (z, n) := by
  unfold iput at h
  by_cases e : (l.lookup z).isSome = true
  · rw [if_pos e] at h
    obtain ⟨q, hq, rfl⟩ := List.mem_map.mp h
    by_cases e : q.1 = z
    · rw [if_pos e]; exact .inr (by rw [e])
    · rw [if_neg e]; exact .inl hq
  · rw [if_neg e] at h
    rcases List.mem_append.mp h with h | h
    · exact .inl h
    · exact .inr (List.mem_singleton.mp h)
def nz (l : List (Str × Int)) : List (Str × Int) := l.filter fun p => decide (p.2 ≠ 0)
theorem nz_sub (l : List (Str × Int)) : (nz l).Sublist l := List.filter_sublist ..
theorem nz_keys_nodup {l : List (Str × Int)} (h : (l.map (·.1)).Nodup) : ((nz l).map (·.1)).Nodup := h.sublist ((nz_sub l).map _)
theorem nz_ok (l : List (Str × Int)) : ∀ p ∈ nz l, p.2 ≠ 0 := fun p hp => of_decide_eq_true (List.mem_filter.mp hp).2
theorem nz_id {l : List (Str × Int)} (h : ∀ p ∈ l, p.2 ≠ 0) : nz l = l := List.filter_eq_self.mpr fun p hp => decide_eq_true (h p hp)
theorem nz_look {l : List (Str × Int)} (h : (l.map (·.1)).Nodup) (z : Str) : ((nz l).lookup z).getD 0 = (l.lookup z).getD 0 := by
  cases e : (nz l).lookup z with
  | some k =>
    rw [look_of h ((nz_sub l).mem (look_mem e))]
  | none =>
    cases e2 : l.lookup z with
    | none => rfl
    | some k =>
      by_cases hk : k = 0
      · rw [hk]; rfl
      · have m : (z, k) ∈ nz l := List.mem_filter.mpr ⟨look_mem e2, decide_eq_true hk⟩
        rw [look_of (nz_keys_nodup h) m] at e
        cases e
theorem nz_yes {l : List (Str × Int)} {i : Nat} {z : Str} {k : Int} (h : l[i]? = some (z, k)) (hk : k ≠ 0) : nz (l.take (i + 1)) = nz (l.take i) ++ [(z, k)] := by
  unfold nz
  rw [List.take_add_one, h, List.filter_append]
  congr 1
  show List.filter _ [(z, k)] = _
  rw [List.filter_cons, if_pos (decide_eq_true hk)]
  rfl
theorem nz_no {l : List (Str × Int)} {i : Nat} {z : Str} {k : Int} (h : l[i]? = some (z, k)) (hk : k = 0) : nz (l.take (i + 1)) = nz (l.take i) := by
  unfold nz
  rw [List.take_add_one, h, List.filter_append]
  show _ ++ List.filter _ [(z, k)] = _
  rw [List.filter_cons, if_neg (by simp [hk])]
  exact List.append_nil _
theorem take_fresh {l : List (Str × Int)} (hn : (l.map (·.1)).Nodup) {i : Nat} {z : Str} {k : Int} (h : l[i]? = some (z, k)) : z ∉ (l.take i).map (·.1) := by
  intro m
  rw [List.map_take] at m
  obtain ⟨j, hj, e⟩ := List.mem_iff_getElem.mp m
  rw [List.length_take, List.length_map] at hj
  have e1 : (l.map (·.1))[j]? = some z := by
    rw [List.getElem_take] at e
    rw [← e]
    exact List.getElem?_eq_getElem _
  have e2 : (l.map (·.1))[i]? = some z := by rw [List.getElem?_map, h]; rfl
  have q := nd_ix hn e1 e2
  omega
theorem upd_back {H : Hp} {a D : Addr} {f o u : HO} (n : D ≠ a) (h : H a = some u) : upd (upd (upd H a f) D o) a u = upd H D o := by
  funext b
  by_cases e : b = a
  · rw [e, upd_same, upd_ne n.symm, h]
  · by_cases e2 : b = D
    · rw [e2, upd_ne n, upd_same, upd_same]
    · rw [upd_ne e, upd_ne e2, upd_ne e, upd_ne e2]
/-- pairs of names and ints, strictly rising, those of l that are not 0 -/
structure SortOf (l ps : List (Str × Int)) : Prop where
  rise : Rise (ps.map (·.1))
  mem : ∀ z k, (z, k) ∈ ps ↔ (l.lookup z = some k ∧ k ≠ 0)
theorem SortOf.uniq {l m ps qs : List (Str × Int)} (a : SortOf l ps) (b : SortOf m qs) (h : ∀ z, (l.lookup z).getD 0 = (m.lookup z).getD 0) : ps = qs := by
  have tr : ∀ z k, k ≠ 0 → (l.lookup z = some k ↔ m.lookup z = some k) := fun z k hk => by
    have q := h z
    cases e1 : l.lookup z <;> cases e2 : m.lookup z <;> rw [e1, e2] at q <;> simp at q <;> simp <;> omega
  have mm : ∀ z k, (z, k) ∈ ps ↔ (z, k) ∈ qs := fun z k => by
    rw [a.mem, b.mem]
    exact ⟨fun ⟨u, v⟩ => ⟨(tr z k v).mp u, v⟩, fun ⟨u, v⟩ => ⟨(tr z k v).mpr u, v⟩⟩
  have hk : ps.map (·.1) = qs.map (·.1) := rise_eq a.rise b.rise fun z => by
    constructor
    · intro hz
      obtain ⟨p, hp, e⟩ := List.mem_map.mp hz
      exact List.mem_map.mpr ⟨p, (mm p.1 p.2).mp hp, e⟩
    · intro hz
      obtain ⟨p, hp, e⟩ := List.mem_map.mp hz
      exact List.mem_map.mpr ⟨p, (mm p.1 p.2).mpr hp, e⟩
  have nd : (qs.map (·.1)).Nodup := b.rise.imp fun {x y} h e => by rw [e, lt_irr] at h; cases h
  refine List.ext_getElem? fun i => ?_
  cases e1 : ps[i]? with
  | none =>
    have : qs.length ≤ i := by
      have h1 := List.getElem?_eq_none_iff.mp e1
      have h2 := congrArg List.length hk
      rw [List.length_map, List.length_map] at h2
      omega
    rw [List.getElem?_eq_none_iff.mpr this]
  | some p =>
    have hp : (p.1, p.2) ∈ qs := (mm p.1 p.2).mp (List.mem_of_getElem? e1)
    have hi : i < qs.length := by
      have h1 := (List.getElem?_eq_some_iff.mp e1).1
      have h2 := congrArg List.length hk
      rw [List.length_map, List.length_map] at h2
      omega
    have e2 := List.getElem?_eq_getElem hi
    have e3 : (qs[i]).1 = p.1 := by
      have h1 : (ps.map (·.1))[i]? = some p.1 := by rw [List.getElem?_map, e1]; rfl
      rw [hk, List.getElem?_map, e2] at h1
      exact Option.some.inj h1
    have q1 := look_of nd (List.mem_of_getElem? e2 : (qs[i].1, qs[i].2) ∈ qs)
    have q2 := look_of nd hp
    rw [e3, q2] at q1
    rw [e2]
    exact congrArg some (Prod.ext e3.symm (Option.some.inj q1))
theorem sort_of {l : List (Str × Int)} (hn : (l.map (·.1)).Nodup) {ys : List Str} (hr : Rise ys) (hm : ∀ z, z ∈ ys ↔ z ∈ l.map (·.1)) :
    SortOf l ((ys.filter fun z => decide ((l.lookup z).getD 0 ≠ 0)).map fun z => (z, (l.lookup z).getD 0)) := by
  refine ⟨?_, fun z k => ?_⟩
  · rw [List.map_map]
    have e : ((fun x : Str × Int => x.1) ∘ fun z => (z, (l.lookup z).getD 0)) = id := rfl
    rw [e, List.map_id]
    exact hr.sublist (List.filter_sublist ..)
  · rw [List.mem_map]
    constructor
    · rintro ⟨y, hy, e⟩
      obtain ⟨h1, h2⟩ := List.mem_filter.mp hy
      have h2 := of_decide_eq_true h2
      have e1 : y = z := congrArg Prod.fst e
      have e2 : (l.lookup y).getD 0 = k := congrArg Prod.snd e
      rw [e1] at h2 e2
      cases q : l.lookup z with
      | none => rw [q] at h2; exact (h2 rfl).elim
      | some n => rw [q] at h2 e2; exact ⟨congrArg some e2, by rw [← e2]; exact h2⟩
    · rintro ⟨h1, h2⟩
      refine ⟨z, List.mem_filter.mpr ⟨(hm z).mpr (List.mem_map.mpr ⟨_, look_mem h1, rfl⟩), ?_⟩, by rw [h1]; rfl⟩
      rw [h1]
      exact decide_eq_true h2
end M
namespace M
open PySem PySem.Spec PyProof.Rows L2
section
variable {X : Cx} {K : PySem.W.Frag} {e o : Expr} {es : List Expr} {f : Str} {pos apos cpos : Pos} {ta to : TE} {t : TA} {r : V → List V → Hp → VK → Prop} {T id : String} {name : Str}
theorem fldK (h : X.K = K) (he : PE X e ta) (hb : attributeBase e f X.env (eval e X.env) = eval e X.env) : PE X (.Attribute e f pos) (tFld K ta f) := by
  subst h
  exact pe_fld he hb
theorem ixLK (h : X.K = K) : IxR X (rIxL K) := by subst h; exact ix_list
theorem ixTK (h : X.K = K) : IxR X (rIxT K) := by subst h; exact ix_tup
theorem slLK (h : X.K = K) : SlR X (rSlL K) := by subst h; exact sl_list
theorem slTK (h : X.K = K) : SlR X (rSlT K) := by subst h; exact sl_tup
theorem inK (h : X.K = K) : OpR X (compareOp .In) (rIn K false) := by subst h; exact op_in_seq
theorem ninK (h : X.K = K) : OpR X (compareOp .NotIn) (rIn K true) := by subst h; exact op_notIn_seq
def rLenQ (K : PySem.W.Frag) : List V → Hp → VK → Prop := fun xs H Q => ∃ p ys, xs = [.ref p] ∧ (SqL K H p ys ∨ SqT K H p ys) ∧ Q (.int ys.length) H
theorem lenK (h : X.K = K) : CallR X (.builtin "len") (rLenQ K) := by subst h; exact call_len_seq
def rListQ (K : PySem.W.Frag) : List V → Hp → VK → Prop := fun xs H Q => ∃ p ys, xs = [.ref p] ∧ (SqL K H p ys ∨ SqT K H p ys) ∧ ∀ l, H l = none → Q (.ref l) (upd H l (.lst ys))
theorem listK (h : X.K = K) : CallR X (.type "list") (rListQ K) := by subst h; exact call_list_of
theorem isiK (h : X.K = K) : CallR X (.builtin "isinstance") (rIsi K) := by subst h; exact call_isi
theorem eqDK (h : X.K = K) (hu : X.A.units + 64 < cLine) : OpR X (compareOp .Eq) (rEqD K) := by subst h; exact op_eqD hu
theorem neDK (h : X.K = K) (hu : X.A.units + 64 < cLine) : OpR X (compareOp .NotEq) (rNeD K) := by subst h; exact op_neD hu
theorem sumK (h : X.K = K) (hc : X.calm = true) : CallR X (.builtin "sum") (rSum K) := by subst h; exact cr_sum hc
theorem allK (h : X.K = K) (hc : X.calm = true) : CallR X (.builtin "all") (rAll K) := by subst h; exact cr_all hc
theorem anyK (h : X.K = K) (hc : X.calm = true) : CallR X (.builtin "any") (rAny K) := by subst h; exact cr_any hc
theorem sortSK (h : X.K = K) : CallR X (.builtin "sorted") (rSortedS K) := by subst h; exact cr_sortedS
theorem piL (h : X.K = K) {tg l : Expr} {tl : TE} (hl : PE X l tl) : PI X tg l (iList K tl) := by subst h; exact pi_list hl
theorem piT (h : X.K = K) {tg l : Expr} {tl : TE} (hl : PE X l tl) : PI X tg l (iTup K tl) := by subst h; exact pi_tup hl
end
end M
namespace M
open PySem PySem.Spec PyProof.Rows L2
def Nb (n : Nat) (x : Int) : Prop := x.natAbs < 2 ^ n
theorem Nb.mono {a b : Nat} {x : Int} (h : Nb a x) (e : a ≤ b) : Nb b x := Nat.lt_of_lt_of_le h (Nat.pow_le_pow_right (by decide) e)
theorem Nb.add {a b : Nat} {x y : Int} (h1 : Nb a x) (h2 : Nb b y) : Nb (max a b + 1) (x + y) := by
  have p1 := h1.mono (Nat.le_max_left a b)
  have p2 := h2.mono (Nat.le_max_right a b)
  unfold Nb at *
  rw [Nat.pow_succ]
  omega
theorem Nb.sub {a b : Nat} {x y : Int} (h1 : Nb a x) (h2 : Nb b y) : Nb (max a b + 1) (x - y) := by
  have p1 := h1.mono (Nat.le_max_left a b)
  have p2 := h2.mono (Nat.le_max_right a b)
  unfold Nb at *
  rw [Nat.pow_succ]
  omega
theorem Nb.mul {a b : Nat} {x y : Int} (h1 : Nb a x) (h2 : Nb b y) : Nb (a + b) (x * y) := wide_lt h1 h2
theorem Nb.pow2 {a : Nat} {x : Int} (h : Nb a x) : Nb (a + a) (x ^ (2 : Int).toNat) := by
  show Nb (a + a) (x ^ 2)
  rw [show x ^ 2 = x * x by rw [Int.pow_succ, Int.pow_succ, Int.pow_zero, Int.one_mul]]
  exact h.mul h
theorem Nb.mod {b : Nat} {x j : Int} (h0 : 0 < j) (h : Nb b j) : Nb b (x.fmod j) ∧ 0 ≤ x.fmod j := by
  have h1 := Int.fmod_nonneg_of_pos x h0
  have h2 := Int.fmod_lt_of_pos x h0
  unfold Nb at *
  exact ⟨by omega, h1⟩
theorem Nb.div {a : Nat} {x j : Int} (h : Nb a x) (hx : 0 ≤ x) (hj : 0 < j) : Nb a (x / j) ∧ 0 ≤ x / j := by
  have h1 : 0 ≤ x / j := Int.ediv_nonneg hx (Int.le_of_lt hj)
  have h2 : x / j ≤ x := Int.ediv_le_self j hx
  unfold Nb at *
  exact ⟨by omega, h1⟩
theorem Nb.cmul {a b : Nat} {x y : Int} (h1 : Nb a x) (h2 : Nb b y) (h : a + b ≤ 134217728) : CMulX x y := mulx_ok h1 h2 h
theorem Nb.cpow {a : Nat} {x : Int} (h : Nb a x) (ha : a ≤ 1000000) : CPowX x 2 := by
  have b := PyProof.Rows.intBits_le h
  refine ⟨by decide, ?_⟩
  omega
theorem Nb.cdiv {x j : Int} {b : Nat} (h0 : 0 < j) (h : Nb b j) (hb : 0 < b) (h9 : b ≤ 9000) : CDivW x j := wide_div h0 h hb h9
/-- x = e, of whose value C is known -/
theorem cut_int {te : TE} {rest : TS} {D : Ends} {σ : L2.St} {H : Hp} {i : Nat} (C : Int → Prop) (h : ∀ Q : VK, (∀ n, C n → Q (.int n) H) → te σ H Q) (k : ∀ n, C n → rest D (σ.set i (some (.int n))) H) : tSeq (tAsg te (gName i)) rest D σ H := h _ fun n c => k n c

/-- one to eight letters -/
def IsName (z : Str) : Prop := 1 ≤ z.length ∧ z.length ≤ 8 ∧ ∀ c ∈ cs z, 97 ≤ c ∧ c ≤ 122
theorem cs_len (z : Str) : (cs z).length = z.length := Array.length_toList ..
theorem cs_app (a b : Str) : cs (a ++ b) = cs a ++ cs b := by
  show (a.cps ++ b.cps).toList = _
  rw [Array.toList_append]
  rfl
theorem cs_cut (z : Str) (lo hi : Option Int) : cs (cutS z lo hi) = ((cs z).drop (HT.sIx z.length 0 lo)).take (HT.sIx z.length z.length hi - HT.sIx z.length 0 lo) := rfl
theorem cut_mem {z : Str} {lo hi : Option Int} {c : Nat} (h : c ∈ cs (cutS z lo hi)) : c ∈ cs z := by
  rw [cs_cut] at h
  exact List.mem_of_mem_drop (List.mem_of_mem_take h)
theorem join_cs : ∀ (ys : List Str), cs (Txt.join Str.empty ys) = (ys.map cs).flatten
  | [] => by rw [TL.join_eq]; rfl
  | [y] => by rw [TL.join_eq]; show cs y = _; simp
  | y :: u :: r => by
    have ih := join_cs (u :: r)
    rw [TL.join_eq] at ih ⊢
    show cs (y ++ Str.empty ++ Str.join Str.empty (u :: r)) = cs y ++ ((u :: r).map cs).flatten
    rw [cs_app, cs_app, ih]
    show cs y ++ [] ++ _ = _
    rw [List.append_nil]
theorem flat_len : ∀ (ys : List Str), (∀ y ∈ ys, y.length = 1) → ((ys.map cs).flatten).length = ys.length
  | [], _ => rfl
  | y :: r, h => by
    rw [List.map_cons, List.flatten_cons, List.length_append, cs_len, h y (List.mem_cons_self ..), flat_len r fun u hu => h u (List.mem_cons_of_mem _ hu), List.length_cons]
    omega
end M
namespace M
open L2
theorem nx_go {D : Ends} {σ : L2.St} {H : Hp} (h : D.nx σ H) : tNext D σ H := h
end M
namespace M
open PySem PySem.Spec PyProof.Rows L2
theorem cut_to {z : Str} {k : Nat} : (cutS z none (some (k : Int))).length = min k z.length := by
  rw [← cs_len, cs_cut, HT.sIx_none, HT.sIx_nat, List.length_take, List.length_drop, cs_len]
  omega
theorem cut_last {z : Str} (h : 1 ≤ z.length) : (cutS z none (some (-1))).length = z.length - 1 := by
  rw [← cs_len, cs_cut, HT.sIx_none, List.length_take, List.length_drop, cs_len]
  have e : HT.sIx z.length z.length (some (-1)) = z.length - 1 := by
    show (if (-1 : Int) < 0 then ((-1 : Int) + (z.length : Int)).toNat else min (-1 : Int).toNat z.length) = z.length - 1
    rw [if_pos (by decide)]
    omega
  rw [e]
  omega
theorem str_len_app (a b : Str) : (a ++ b).length = a.length + b.length := Str.length_append a b
theorem IsName.way1 {a b : Str} (ha : IsName a) (hb : IsName b) : IsName (cutS (a ++ b) none (some 8)) := by
  have l := cut_to (z := a ++ b) (k := 8)
  rw [str_len_app] at l
  refine ⟨?_, ?_, fun c hc => ?_⟩
  · show 1 ≤ (cutS (a ++ b) none (some ((8 : Nat) : Int))).length
    rw [l]
    have := ha.1
    omega
  · show (cutS (a ++ b) none (some ((8 : Nat) : Int))).length ≤ 8
    rw [l]
    omega
  · have h := cut_mem hc
    rw [cs_app] at h
    rcases List.mem_append.mp h with h | h
    · exact ha.2.2 c h
    · exact hb.2.2 c h
theorem IsName.way2 {a : Str} (ha : IsName a) {k : Nat} (h1 : 1 ≤ k) : IsName (cutS a none (some (k : Int))) := by
  have l := cut_to (z := a) (k := k)
  have := ha.1
  have := ha.2.1
  exact ⟨by omega, by omega, fun c hc => ha.2.2 c (cut_mem hc)⟩
theorem IsName.way3 {a b : Str} (ha : IsName a) (hb : IsName b) : IsName (cutS a none (some (-1)) ++ cutS b none (some 1)) := by
  have l1 := cut_last ha.1
  have l2 : (cutS b none (some ((1 : Nat) : Int))).length = min 1 b.length := cut_to (z := b) (k := 1)
  have h1 := ha.1
  have h2 := ha.2.1
  have h3 := hb.1
  have l : (cutS a none (some (-1)) ++ cutS b none (some 1)).length = (a.length - 1) + min 1 b.length := by
    rw [str_len_app, l1]
    exact congrArg _ l2
  refine ⟨by omega, by omega, fun c hc => ?_⟩
  rw [cs_app] at hc
  rcases List.mem_append.mp hc with h | h
  · exact ha.2.2 c (cut_mem h)
  · exact hb.2.2 c (cut_mem h)
/-- single letters joined -/
theorem IsName.join {ys : List Str} (h1 : 1 ≤ ys.length) (h8 : ys.length ≤ 8) (h : ∀ y ∈ ys, ∃ c, y = ⟨#[c]⟩ ∧ 97 ≤ c ∧ c ≤ 122) : IsName (Txt.join Str.empty ys) := by
  have e := join_cs ys
  have l : (Txt.join Str.empty ys).length = ys.length := by
    rw [← cs_len, e]
    exact flat_len ys fun y hy => by obtain ⟨c, rfl, _⟩ := h y hy; rfl
  refine ⟨by omega, by omega, fun c hc => ?_⟩
  rw [e] at hc
  obtain ⟨l, hl, hc⟩ := List.mem_flatten.mp hc
  obtain ⟨y, hy, rfl⟩ := List.mem_map.mp hl
  obtain ⟨d, rfl, h1, h2⟩ := h y hy
  have : c = d := by simpa [cs] using hc
  omega
theorem letter_at {d : Int} (h0 : 0 ≤ d) (h1 : d < 26) : ∃ c, atI (Str.ofString "abcdefghijklmnopqrstuvwxyz").cps.toList d = some c ∧ 97 ≤ c ∧ c ≤ 122 := by
  have e : (Str.ofString "abcdefghijklmnopqrstuvwxyz").cps.toList = (List.range 26).map (· + 97) := by decide +kernel
  refine ⟨d.toNat + 97, ?_, by omega, by omega⟩
  rw [e]
  have hd : d = (d.toNat : Int) := by omega
  rw [hd]
  refine atI_nat ?_
  rw [List.getElem?_map, List.getElem?_range (by omega)]
  rfl
end M
namespace M
open PySem L2
theorem ones : ∀ {ys : List Str}, (∀ y ∈ ys, y.length = 1) → (ys.map (·.length)).sum = ys.length
  | [], _ => rfl
  | y :: r, h => by
    rw [List.map_cons, List.sum_cons, h y (List.mem_cons_self ..), ones fun u hu => h u (List.mem_cons_of_mem _ hu), List.length_cons]
    omega
end M
namespace M
open PySem L2
/-- signs that there are -/
def Sgn (z : Str) : Prop := ∀ c ∈ cs z, c < 0x110000
theorem IsName.sgn {z : Str} (h : IsName z) : Sgn z := fun c hc => by have := (h.2.2 c hc).2; omega
theorem shaped_pair {z : Str} (h : Sgn z) (n : Int) : SeqAt.shaped (.tuple [.str z, .int n]) = true := by
  have e : (z.cps.all (· < 0x110000)) = true := by
    rw [← Array.all_toList]
    exact List.all_eq_true.mpr fun c hc => decide_eq_true (h c hc)
  unfold SeqAt.shaped
  rw [show (PyData.tuple [.str z, .int n]).canLay0 = ((z.cps.all (· < 0x110000)) && (true && true)) from rfl, e]
  rfl
end M
namespace M
open PySem PySem.Spec PyProof.Rows L2
/-- a def of the text, whatever its defaults are -/
structure Fun2 (K : PySem.W.Frag) (x qual : Str) (st : Stmt) (f : Addr) (fd : FuncData) : Prop where
  ex : ∃ (oc : Value) (od : Option Addr) (dV kV doc pm : Value) (an : Option Addr) (cdv ct : Value) (osl : Array (Option Value)),
    fd = PySem.W.fnOf x qual (defArgs st) (defBody st) (defScope st) dV kV doc pm an cdv ct ∧ K.lookup f = some ⟨oc, od, .func fd, osl⟩ ∧ PySem.W.codeIn K cdv qual = true
section
variable {P : Program} {w : World} {K : PySem.W.Frag} {mg : Str → Option Value} {base : Heap}
theorem Fun2.ok {x qual : Str} {st : Stmt} {f : Addr} {fd : FuncData} {N ps : List Str} {k : Nat} {sp : Sp} (F : Fun2 K x qual st f fd) (S : FnScope N ps (defScope st)) (len : ∀ vs H Q E, sp vs H Q E → vs.length = ps.length)
    (hbody : ∀ (cdv : Value) (A : Around) (outer : List Env) (s : Shared) (H : Hp) (vs : List V) (Q : VK) (E : XK), Room k (A.deeper (envOfC qual (defScope st) s.heap.objs.size f cdv)) → sp vs H Q E →
      ∃ t, PSs (cxOf CX0 P w K mg base N qual (defScope st) f cdv A outer s H E).nox (defBody st) t ∧ t { nx := fun _ H' => Q .non H', rt := Q } (start N vs) H) : FnOk P w K mg base CX0 (k + 1) f fd ps sp := by
  obtain ⟨oc, od, dV, kV, doc, pm, an, cdv, ct, osl, rfl, lk, hcd⟩ := F.ex
  refine fn_of lk hcd S len fun A outer s H vs Q E hr hsp => ?_
  obtain ⟨t, h, q⟩ := hbody cdv A outer s H vs Q E hr hsp
  exact ⟨t, h.nox, q⟩
theorem fun2_mk {x qual : Str} {st : Stmt} {f : Addr} {oc : Value} {od an : Option Addr} {osl : Array (Option Value)} {dV kV doc pm cdv ct : Value} (l : K.lookup f = some ⟨oc, od, .func (PySem.W.fnOf x qual (defArgs st) (defBody st) (defScope st) dV kV doc pm an cdv ct), osl⟩)
    (c : PySem.W.codeIn K cdv qual = true) : Fun2 K x qual st f (PySem.W.fnOf x qual (defArgs st) (defBody st) (defScope st) dV kV doc pm an cdv ct) := ⟨oc, od, dV, kV, doc, pm, an, cdv, ct, osl, rfl, l, c⟩
theorem mkD {x : Str} {f : Addr} {fd : FuncData} {ps : List Str} {k : Nat} {sp : Sp} (F : FnOk P w K mg base CX0 k f fd ps sp) (kp : PySem.W.keepIn K (.ref f) = true) (g : mg x = some (.ref f)) (b : Binds K fd ps []) : DefOk P w K mg base k x ps sp := ⟨f, fd, F, g, kp, b⟩
theorem mkM {m : Str} {C f : Addr} {fd : FuncData} {ps : List Str} {k : Nat} {sp : Sp} (F : FnOk P w K mg base CX0 k f fd ps sp) (a : PySem.W.findIn K (.ref C) m = some (some (.ref f))) (i : PySem.W.isFn K (.ref f) = true) (kp : PySem.W.keepIn K (.ref f) = true) (n : PySem.W.fnIn K f = true) (b : Binds K fd ps []) :
    MethOk P w K mg base C k m ps sp := ⟨f, fd, F, a, i, kp, n, b⟩
/-- a def whose last parameter has a default: both ways it is called -/
theorem dfl_binds {x qual : Str} {st : Stmt} {f T : Addr} {oc tc : Value} {od an td : Option Addr} {osl tsl : Array (Option Value)} {kV doc pm cdv ct d : Value} {n : Nat} {v : V} {ps : List Str} {m : Nat}
    (l : K.lookup f = some ⟨oc, od, .func (PySem.W.fnOf x qual (defArgs st) (defBody st) (defScope st) (.ref T) kV doc pm an cdv ct), osl⟩) (c : PySem.W.codeIn K cdv qual = true) (kp : PySem.W.keepIn K (.ref f) = true)
    (t : K.lookup T = some ⟨tc, td, .seq #[d] n, tsl⟩) (r : RelV v d) (hps : ps.length = m + 1)
    (h1 : ∀ (T : Addr) (kV doc pm : Value) (an : Option Addr) (cdv ct : Value) (us its : List Value), us.length = m + 1 → its.length = 1 → ∃ k, bindArgs (PySem.W.fnOf x qual (defArgs st) (defBody st) (defScope st) (.ref T) kV doc pm an cdv ct) ⟨us, []⟩ = seqItems? (.ref T) >>= k ∧ k (some its.toArray) = pure (ps.zip (us ++ its.drop 1)))
    (h0 : ∀ (T : Addr) (kV doc pm : Value) (an : Option Addr) (cdv ct : Value) (us its : List Value), us.length = m → its.length = 1 → ∃ k, bindArgs (PySem.W.fnOf x qual (defArgs st) (defBody st) (defScope st) (.ref T) kV doc pm an cdv ct) ⟨us, []⟩ = seqItems? (.ref T) >>= k ∧ k (some its.toArray) = pure (ps.zip (us ++ its.drop 0))) :
    Binds K (PySem.W.fnOf x qual (defArgs st) (defBody st) (defScope st) (.ref T) kV doc pm an cdv ct) ps [] ∧ ∃ u, RelV v u ∧ Binds K (PySem.W.fnOf x qual (defArgs st) (defBody st) (defScope st) (.ref T) kV doc pm an cdv ct) ps [u] := by
  have F : FunD K x qual (defArgs st) (defBody st) (defScope st) [v] [] f (PySem.W.fnOf x qual (defArgs st) (defBody st) (defScope st) (.ref T) kV doc pm an cdv ct) :=
    ⟨⟨oc, od, _, kV, doc, pm, an, cdv, ct, osl, rfl, l, c, .inr ⟨by simp, T, _, [d], n, rfl, t, rfl, .cons r .nil⟩, .inl rfl⟩, kp⟩
  refine ⟨?_, ?_⟩
  · obtain ⟨ds, rd, b⟩ := F.binds1 (ps := ps) (m + 1) 1 (by simp) (by simp [hps]) fun T kV doc pm an cdv ct us its hu hi => h1 T kV doc pm an cdv ct us its hu hi
    cases rd
    exact b
  · obtain ⟨ds, rd, b⟩ := F.binds1 (ps := ps) m 0 (by simp) (by simp [hps]) fun T kV doc pm an cdv ct us its hu hi => h0 T kV doc pm an cdv ct us its hu hi
    cases rd with
    | @cons a u as us h t =>
      cases t
      exact ⟨u, h, b⟩
end
end M
namespace M
open PySem PySem.Spec PyProof.Rows L2
section
variable {X : Cx}
def rCatR : R2 := fun x y H Q => ∃ l b xs zs, x = .ref l ∧ y = .ref b ∧ Rd H l (.lst xs) ∧ Rd H b (.lst zs) ∧ xs.length + zs.length ≤ sizeLine ∧ ∀ p, H p = none → Q (.ref p) (upd H p (.lst (xs ++ zs)))
theorem op_catR : OpR X (binaryOp .Add) rCatR := by
  intro pins s σ H x y v u Q I rx ry h
  obtain ⟨l, b, xs, zs, rfl, rfl, hH, hB, hz, q⟩ := h
  cases rx
  cases ry
  obtain ⟨z, its, n, r, e⟩ := hH.ok I.hok
  obtain ⟨z2, its2, n2, r2, e2⟩ := hB.ok I.hok
  refine PySem.P.add_list e e2 ?_ (by rw [List.size_toArray, List.size_toArray, ← r.length, ← r2.length]; exact hz)
  rw [show its.toArray ++ its2.toArray = (its ++ its2).toArray by simp]
  exact ⟨.ref _, _, I.lnew (t' := s.toks) (r.append r2) (by rw [List.length_append]; exact hz), rfl, q _ I.fresh⟩

inductive DHits (K : PySem.W.Frag) (H : Hp) (ls : List (Key × V)) : List (Key × V) → Bool → Prop
  | nil : DHits K H ls [] true
  | miss {k : Key} {x : V} {r : List (Key × V)} : valV ls k = none → DHits K H ls ((k, x) :: r) false
  | hit {k : Key} {x y : V} {d e : PyData} {r : List (Key × V)} {b : Bool} : valV ls k = some y → Dp K H x d → Dp K H y e → SeqAt.shaped d = true → SeqAt.shaped e = true → DHits K H ls r b → DHits K H ls ((k, x) :: r) (PyData.eqv d e && b)
theorem dhits_run {pins : List (Addr × Obj)} {σ : L2.St} {H : Hp} {s : Shared} (I : Inv X pins σ H s) {A : Around} (hu : A.units + 64 < cLine) {ls : List (Key × V)} {vb : List (Key × Value)} (rb : KV ls vb) :
    ∀ {ks : List (Key × V)} {va : List (Key × Value)} {r : Bool}, KV ks va → DHits X.K H ls ks r → PySem.W.KeqHits A s vb va r := by
  intro ks va r ra h
  induction h generalizing va with
  | nil => cases ra; exact .nil
  | @miss k x r hm =>
    cases ra with
    | @cons p q ps qs h t =>
      obtain ⟨k', v'⟩ := q
      have e : k = k' := h.1
      exact .miss (RelO.none_of (by rw [← hm, ← e]; exact rb.val k))
  | @hit k x y d e r b hy hd he sd se _ ih =>
    cases ra with
    | @cons p q ps qs h t =>
      obtain ⟨k', v'⟩ := q
      have ek : k = k' := h.1
      obtain ⟨u, hu', ru⟩ := RelO.some_of (v := y) (o := valueAt vb k) (by rw [← hy]; exact rb.val k)
      obtain ⟨as, r1⟩ := Dp.reads I d x v' hd h.2
      obtain ⟨bs, r2⟩ := Dp.reads I e y u he ru
      exact .hit (by rw [← ek]; exact hu') (SeqAt.eqAt_reads d e A s v' u as bs r1 r2 (SeqAt.canLay_of_shaped sd) (SeqAt.canLay_of_shaped se) (SeqAt.room_of_shaped sd hu)) (ih t)
def rEqDD (K : PySem.W.Frag) (neg : Bool) : R2 := fun x y H Q => ∃ a b ks ls r, x = .ref a ∧ y = .ref b ∧ Rd H a (.dK ks) ∧ Rd H b (.dK ls) ∧ DHits K H ls ks r ∧ Q (.bl (if neg then !(ks.length == ls.length && r) else (ks.length == ls.length && r))) H
theorem op_eqDD {K : PySem.W.Frag} (hK : X.K = K) (hu : X.A.units + 66 < cLine) : OpR X (compareOp .Eq) (rEqDD K false) := by
  subst hK
  intro pins s σ H x y v u Q I rx ry h
  obtain ⟨a, b, ks, ls, r, rfl, rfl, ea, eb, hh, q⟩ := h
  cases (show v = Value.ref a from rx)
  cases (show u = Value.ref b from ry)
  obtain ⟨_, ya, va, ra, da⟩ := dk_rd I.hok ea
  obtain ⟨_, yb, vb, rb, db⟩ := dk_rd I.hok eb
  refine PySem.W.keq_eq (knd := mixKind X.prog X.w) (r := r) ya yb da db (by omega) (fun _ => dhits_run I (by show X.A.units + 1 + 64 < cLine; omega) rb ra hh) ?_
  rw [← ra.length, ← rb.length]
  exact ⟨.bl (ks.length == ls.length && r), H, I, rfl, q⟩
theorem op_neDD {K : PySem.W.Frag} (hK : X.K = K) (hu : X.A.units + 66 < cLine) : OpR X (compareOp .NotEq) (rEqDD K true) := by
  subst hK
  intro pins s σ H x y v u Q I rx ry h
  obtain ⟨a, b, ks, ls, r, rfl, rfl, ea, eb, hh, q⟩ := h
  cases (show v = Value.ref a from rx)
  cases (show u = Value.ref b from ry)
  obtain ⟨_, ya, va, ra, da⟩ := dk_rd I.hok ea
  obtain ⟨_, yb, vb, rb, db⟩ := dk_rd I.hok eb
  refine PySem.W.keq_ne (knd := mixKind X.prog X.w) (r := r) ya yb da db (by omega) (fun _ => dhits_run I (by show X.A.units + 1 + 64 < cLine; omega) rb ra hh) ?_
  rw [← ra.length, ← rb.length]
  exact ⟨.bl (!(ks.length == ls.length && r)), H, I, rfl, q⟩
end
theorem hu66 {A : Around} {k : Nat} (hr : Room k A) : A.units + 66 < cLine := by have := hr.un; omega

section
variable {α : Type}
theorem al_mem : ∀ {l : List (Str × α)} {z : Str} {k : α}, l.lookup z = some k → (z, k) ∈ l
  | [], z, k, h => by cases h
  | p :: l, z, k, h => by
    rw [List.lookup_cons] at h
    cases e : z == p.1 with
    | true => rw [e] at h; cases h; rw [eq_of_beq e]; exact List.mem_cons_self ..
    | false => rw [e] at h; exact List.mem_cons_of_mem _ (al_mem h)
theorem al_of : ∀ {l : List (Str × α)} {z : Str} {k : α}, (l.map (·.1)).Nodup → (z, k) ∈ l → l.lookup z = some k
  | [], z, k, _, h => by simp at h
  | p :: l, z, k, hn, h => by
    have hn : (p.1 :: l.map (·.1)).Nodup := hn
    obtain ⟨n1, n2⟩ := List.nodup_cons.mp hn
    rw [List.lookup_cons]
    rcases List.mem_cons.mp h with e | h
    · rw [← e, beq_self_eq_true]
    · have hne : z ≠ p.1 := fun e => n1 (by rw [← e]; exact List.mem_map.mpr ⟨_, h, rfl⟩)
      rw [beq_eq_false_iff_ne.mpr hne]
      exact al_of n2 h
theorem al_none : ∀ {l : List (Str × α)} {z : Str}, l.lookup z = none ↔ z ∉ l.map (·.1)
  | [], z => by simp
  | p :: l, z => by
    rw [List.lookup_cons, List.map_cons, List.mem_cons]
    cases e : z == p.1 with
    | true => exact Iff.intro (fun h => nomatch h) (fun h => (h (Or.inl (eq_of_beq e))).elim)
    | false =>
      have hne := beq_eq_false_iff_ne.mp e
      show l.lookup z = none ↔ _
      rw [al_none]
      exact Iff.intro (fun h q => q.elim hne h) (fun h q => h (Or.inr q))
def aput (l : List (Str × α)) (z : Str) (n : α) : List (Str × α) := if (l.lookup z).isSome = true then l.map (fun p => if p.1 = z then (p.1, n) else p) else l ++ [(z, n)]
theorem al_map (z y : Str) (n : α) : ∀ l : List (Str × α), (l.map fun p => if p.1 = z then (p.1, n) else p).lookup y = (l.lookup y).map fun x => if y = z then n else x
  | [] => rfl
  | p :: l => by
    rw [List.map_cons, List.lookup_cons, List.lookup_cons, al_map z y n l]
    by_cases e : p.1 = z
    · rw [if_pos e]
      cases q : y == p.1 with
      | true => show some n = some (if y = z then n else p.2); rw [if_pos (show y = z by rw [eq_of_beq q, e])]
      | false => rfl
    · rw [if_neg e]
      cases q : y == p.1 with
      | true => show some p.2 = some (if y = z then n else p.2); rw [if_neg (show ¬ y = z by rw [eq_of_beq q]; exact e)]
      | false => rfl
theorem al_app (y : Str) : ∀ (l m : List (Str × α)), (l ++ m).lookup y = (l.lookup y).or (m.lookup y)
  | [], m => rfl
  | p :: l, m => by
    rw [List.cons_append, List.lookup_cons, List.lookup_cons, al_app y l m]
    cases y == p.1 <;> rfl
theorem aput_look (l : List (Str × α)) (z y : Str) (n : α) : (aput l z n).lookup y = if y = z then some n else l.lookup y := by
  unfold aput
  by_cases h : (l.lookup z).isSome = true
  · rw [if_pos h, al_map]
    by_cases e : y = z
    · rw [if_pos e, e]
      cases q : l.lookup z with
      | none => rw [q] at h; cases h
      | some x => simp
    · rw [if_neg e]
      cases l.lookup y <;> simp [e]
  · rw [if_neg h, al_app]
    by_cases e : y = z
    · rw [if_pos e, e]
      cases q : l.lookup z with
      | some x => rw [q] at h; exact (h rfl).elim
      | none => rw [List.lookup_cons, beq_self_eq_true]; rfl
    · rw [if_neg e, List.lookup_cons, beq_eq_false_iff_ne.mpr e]
      cases l.lookup y <;> rfl
theorem aput_keys (l : List (Str × α)) (z : Str) (n : α) : (aput l z n).map (·.1) = if (l.lookup z).isSome = true then l.map (·.1) else l.map (·.1) ++ [z] := by
  unfold aput
  by_cases h : (l.lookup z).isSome = true
  · rw [if_pos h, if_pos h, List.map_map]
    refine List.map_congr_left fun p _ => ?_
    show (if p.1 = z then (p.1, n) else p).1 = p.1
    by_cases e : p.1 = z
    · rw [if_pos e]
    · rw [if_neg e]
  · rw [if_neg h, if_neg h, List.map_append]
    rfl
theorem aput_nodup {l : List (Str × α)} (z : Str) (n : α) (h : (l.map (·.1)).Nodup) : ((aput l z n).map (·.1)).Nodup := by
  rw [aput_keys]
  by_cases e : (l.lookup z).isSome = true
  · rw [if_pos e]; exact h
  · rw [if_neg e]
    refine nd_snoc h (al_none.mp ?_)
    cases q : l.lookup z with
    | none => rfl
    | some v => rw [q] at e; exact (e rfl).elim
theorem aput_len (l : List (Str × α)) (z : Str) (n : α) : (aput l z n).length ≤ l.length + 1 := by
  have h := congrArg List.length (aput_keys l z n)
  rw [List.length_map] at h
  rw [h]
  by_cases e : (l.lookup z).isSome = true
  · rw [if_pos e, List.length_map]; omega
  · rw [if_neg e, List.length_append, List.length_map, List.length_singleton]
    exact Nat.le_refl _
theorem aput_mem {l : List (Str × α)} {z : Str} {n : α} {p : Str × α} (h : p ∈ aput l z n) : p ∈ l ∨ p = (z, n) := by
  unfold aput at h
  by_cases e : (l.lookup z).isSome = true
  · rw [if_pos e] at h
    obtain ⟨q, hq, rfl⟩ := List.mem_map.mp h
    by_cases e : q.1 = z
    · rw [if_pos e]; exact .inr (by rw [e])
    · rw [if_neg e]; exact .inl hq
  · rw [if_neg e] at h
    rcases List.mem_append.mp h with h | h
    · exact .inl h
    · exact .inr (List.mem_singleton.mp h)
end

abbrev Part := Bool × Int
def kd (b : Bool) : Str := if b then Str.ofString "set" else Str.ofString "add"
def pt (p : Part) : List V := [.str (kd p.1), .int p.2]
def pd (p : Part) : PyData := .tuple [.str (kd p.1), .int p.2]
theorem kd_sgn (b : Bool) : Sgn (kd b) := by
  intro c hc
  cases b with
  | true =>
    have e : cs (kd true) = [115, 101, 116] := by decide +kernel
    rw [e] at hc
    simp at hc
    omega
  | false =>
    have e : cs (kd false) = [97, 100, 100] := by decide +kernel
    rw [e] at hc
    simp at hc
    omega
theorem kd_inj {a b : Bool} (h : kd a = kd b) : a = b := by
  cases a <;> cases b
  · rfl
  · exact absurd h (by decide +kernel)
  · exact absurd h (by decide +kernel)
  · rfl
theorem pd_shaped (p : Part) : SeqAt.shaped (pd p) = true := shaped_pair (kd_sgn p.1) p.2
theorem pd_dp {K : PySem.W.Frag} {H : Hp} {a : Addr} {p : Part} (h : SqT K H a (pt p)) : Dp K H (.ref a) (pd p) := .tup h (.cons (.str _) (.cons (.int _) .nil))
theorem pd_eqv (p q : Part) : PyData.eqv (pd p) (pd q) = decide (p = q) := by
  have e : PyData.eqv (pd p) (pd q) = (decide (kd p.1 = kd q.1) && (decide (p.2 = q.2) && true)) := by
    unfold pd
    simp only [PyData.eqv, PyData.eqvAll]
    rw [show (kd p.1 == kd q.1) = decide (kd p.1 = kd q.1) from Bool.beq_eq_decide_eq .., show (p.2 == q.2) = decide (p.2 = q.2) from Bool.beq_eq_decide_eq ..]
  rw [e]
  by_cases h : p = q
  · rw [h]; simp
  · rw [decide_eq_false h]
    by_cases h1 : kd p.1 = kd q.1
    · have : p.2 ≠ q.2 := fun e => h (Prod.ext (kd_inj h1) e)
      simp [this]
    · simp [h1]
def PtR (K : PySem.W.Frag) (H : Hp) (r : Str × V) (p : Str × Part) : Prop := r.1 = p.1 ∧ ∃ a, r.2 = .ref a ∧ SqT K H a (pt p.2)
/-- the dict at d holds the parts l -/
def PtsAt (K : PySem.W.Frag) (H : Hp) (rl : List (Str × V)) (l : List (Str × Part)) : Prop := Paired (PtR K H) rl l
section
variable {K : PySem.W.Frag} {H H' : Hp} {rl rm : List (Str × V)} {l m : List (Str × Part)} {z : Str} {a : Addr} {p : Part}
theorem PtsAt.keep (h : PtsAt K H rl l) (c : ∀ a xs, SqT K H a xs → SqT K H' a xs) : PtsAt K H' rl l := Paired.mapP h fun r p ⟨e, a, f, g⟩ => ⟨e, a, f, c _ _ g⟩
theorem PtsAt.same (h : PtsAt K H rl l) (c : Same H H') : PtsAt K H' rl l := h.keep fun _ _ g => Same.sqt c g
theorem PtsAt.keys (h : PtsAt K H rl l) : rl.map (·.1) = l.map (·.1) := by
  unfold PtsAt at h
  induction h with
  | nil => rfl
  | cons h _ ih => rw [List.map_cons, List.map_cons, ih, h.1]
theorem PtsAt.len (h : PtsAt K H rl l) : rl.length = l.length := Paired.length h
theorem PtsAt.val (h : PtsAt K H rl l) (z : Str) : (l.lookup z = none ∧ sVal rl z = none) ∨ ∃ p a, l.lookup z = some p ∧ sVal rl z = some (.ref a) ∧ SqT K H a (pt p) := by
  unfold PtsAt at h
  induction h with
  | nil => exact .inl ⟨rfl, rfl⟩
  | @cons r q rs qs h _ ih =>
    obtain ⟨e, a, f, g⟩ := h
    by_cases hz : r.1 = z
    · refine .inr ⟨q.2, a, ?_, ?_, g⟩
      · rw [List.lookup_cons, ← e, hz, beq_self_eq_true]
      · rw [sVal_cons, if_pos hz, f]
    · rw [List.lookup_cons, ← e, beq_eq_false_iff_ne.mpr (Ne.symm hz), sVal_cons, if_neg hz]
      exact ih
theorem PtsAt.has (h : PtsAt K H rl l) (z : Str) : (sVal rl z).isSome = (l.lookup z).isSome := by
  rcases h.val z with ⟨e1, e2⟩ | ⟨p, a, e1, e2, _⟩ <;> rw [e1, e2] <;> rfl
theorem PtsAt.snoc (h : PtsAt K H rl l) (g : SqT K H a (pt p)) : PtsAt K H (rl ++ [(z, .ref a)]) (l ++ [(z, p)]) := by
  unfold PtsAt at h ⊢
  induction h with
  | nil => exact .cons ⟨rfl, a, rfl, g⟩ .nil
  | cons h _ ih => exact .cons h ih
theorem PtsAt.repl (h : PtsAt K H rl l) (g : SqT K H a (pt p)) : PtsAt K H (rl.map fun r => if r.1 = z then (r.1, V.ref a) else r) (l.map fun q => if q.1 = z then (q.1, p) else q) := by
  unfold PtsAt at h ⊢
  induction h with
  | nil => exact .nil
  | @cons r q rs qs h _ ih =>
    refine .cons ?_ ih
    show PtR K H (if r.1 = z then (r.1, V.ref a) else r) (if q.1 = z then (q.1, p) else q)
    obtain ⟨e, b, f, k⟩ := h
    by_cases hz : r.1 = z
    · rw [if_pos hz, if_pos (by rw [← e]; exact hz)]
      exact ⟨e, a, rfl, g⟩
    · rw [if_neg hz, if_neg (by rw [← e]; exact hz)]
      exact ⟨e, b, f, k⟩
theorem PtsAt.put (h : PtsAt K H rl l) (g : SqT K H a (pt p)) : PtsAt K H (sPut rl z (.ref a)) (aput l z p) := by
  unfold sPut aput
  rw [h.has z]
  by_cases e : (l.lookup z).isSome = true
  · rw [if_pos e, if_pos e]; exact h.repl g
  · rw [if_neg e, if_neg e]; exact h.snoc g
theorem PtsAt.at (h : PtsAt K H rl l) {i : Nat} {v : V} (e : rl[i]? = some (z, v)) : ∃ p b, v = .ref b ∧ l[i]? = some (z, p) ∧ SqT K H b (pt p) := by
  unfold PtsAt at h
  induction h generalizing i with
  | nil => simp at e
  | @cons r q rs qs h _ ih =>
    cases i with
    | zero =>
      have e : r = (z, v) := Option.some.inj e
      subst e
      obtain ⟨e1, b, f, g⟩ := h
      exact ⟨q.2, b, f, congrArg some (Prod.ext e1.symm rfl), g⟩
    | succ i => exact ih e
/-- the part at a name, no part being ("add", 0) -/
def pAt (l : List (Str × Part)) (z : Str) : Part := (l.lookup z).getD (false, 0)
/-- without ("add", 0) -/
def pz (l : List (Str × Part)) : List (Str × Part) := l.filter fun q => decide (q.2 ≠ (false, 0))
theorem pz_sub (l : List (Str × Part)) : (pz l).Sublist l := List.filter_sublist ..
theorem pz_nodup (h : (l.map (·.1)).Nodup) : ((pz l).map (·.1)).Nodup := h.sublist ((pz_sub l).map _)
theorem pz_ok (l : List (Str × Part)) : ∀ q ∈ pz l, q.2 ≠ (false, 0) := fun q hq => of_decide_eq_true (List.mem_filter.mp hq).2
theorem pz_at (h : (l.map (·.1)).Nodup) (z : Str) : pAt (pz l) z = pAt l z := by
  unfold pAt
  cases e : (pz l).lookup z with
  | some k => rw [al_of h ((pz_sub l).mem (al_mem e))]
  | none =>
    cases e2 : l.lookup z with
    | none => rfl
    | some k =>
      by_cases hk : k = (false, 0)
      · rw [hk]; rfl
      · have q : (z, k) ∈ pz l := List.mem_filter.mpr ⟨al_mem e2, decide_eq_true hk⟩
        rw [al_of (pz_nodup h) q] at e
        cases e
theorem pz_yes {i : Nat} (h : l[i]? = some (z, p)) (hk : p ≠ (false, 0)) : pz (l.take (i + 1)) = pz (l.take i) ++ [(z, p)] := by
  unfold pz
  rw [List.take_add_one, h, List.filter_append]
  congr 1
  show List.filter _ [(z, p)] = _
  rw [List.filter_cons, if_pos (decide_eq_true hk)]
  rfl
theorem pz_no {i : Nat} (h : l[i]? = some (z, p)) (hk : p = (false, 0)) : pz (l.take (i + 1)) = pz (l.take i) := by
  unfold pz
  rw [List.take_add_one, h, List.filter_append]
  show _ ++ List.filter _ [(z, p)] = _
  rw [List.filter_cons, if_neg (by simp [hk])]
  exact List.append_nil _
theorem p_fresh (hn : (l.map (·.1)).Nodup) {i : Nat} (h : l[i]? = some (z, p)) : z ∉ (l.take i).map (·.1) := by
  intro m
  rw [List.map_take] at m
  obtain ⟨j, hj, e⟩ := List.mem_iff_getElem.mp m
  rw [List.length_take, List.length_map] at hj
  have e1 : (l.map (·.1))[j]? = some z := by
    rw [List.getElem_take] at e
    rw [← e]
    exact List.getElem?_eq_getElem _
  have e2 : (l.map (·.1))[i]? = some z := by rw [List.getElem?_map, h]; rfl
  have q := nd_ix hn e1 e2
  omega
/-- first, then second -/
def pj (p q : Part) : Part := if q.1 then q else (p.1, p.2 + q.2)
def jn (l m : List (Str × Part)) : List (Str × Part) := m.foldl (fun acc q => aput acc q.1 (pj (pAt acc q.1) q.2)) l
theorem pAt_put (l : List (Str × Part)) (z y : Str) (p : Part) : pAt (aput l z p) y = if y = z then p else pAt l y := by
  unfold pAt
  rw [aput_look]
  by_cases e : y = z
  · rw [if_pos e, if_pos e]; rfl
  · rw [if_neg e, if_neg e]
theorem jn_at : ∀ (m l : List (Str × Part)) (y : Str), (m.map (·.1)).Nodup → pAt (jn l m) y = pj (pAt l y) (pAt m y)
  | [], l, y, _ => by
    show pAt l y = pj (pAt l y) (false, 0)
    unfold pj
    rw [if_neg (by simp)]
    show pAt l y = ((pAt l y).1, (pAt l y).2 + 0)
    rw [Int.add_zero]
  | q :: m, l, y, hn => by
    have hn : (q.1 :: m.map (·.1)).Nodup := hn
    obtain ⟨n1, n2⟩ := List.nodup_cons.mp hn
    show pAt (jn (aput l q.1 (pj (pAt l q.1) q.2)) m) y = _
    rw [jn_at m _ y n2, pAt_put]
    have hm : pAt (q :: m) y = if y = q.1 then q.2 else pAt m y := by
      unfold pAt
      rw [List.lookup_cons]
      by_cases e : y = q.1
      · rw [if_pos e, e, beq_self_eq_true]; rfl
      · rw [if_neg e, beq_eq_false_iff_ne.mpr e]
    rw [hm]
    by_cases e : y = q.1
    · rw [if_pos e, if_pos e, e]
      have h0 : pAt m q.1 = (false, 0) := by
        unfold pAt
        rw [al_none.mpr n1]
        rfl
      rw [h0]
      generalize pj (pAt l q.1) q.2 = w
      unfold pj
      rw [if_neg (by simp)]
      show (w.1, w.2 + 0) = w
      rw [Int.add_zero]
    · rw [if_neg e, if_neg e]
theorem jn_nodup : ∀ (m l : List (Str × Part)), (l.map (·.1)).Nodup → ((jn l m).map (·.1)).Nodup
  | [], _, h => h
  | q :: m, l, h => jn_nodup m _ (aput_nodup _ _ h)
theorem jn_mem : ∀ (m l : List (Str × Part)) {q : Str × Part}, q ∈ jn l m → q.1 ∈ l.map (·.1) ∨ q.1 ∈ m.map (·.1)
  | [], l, q, h => .inl (List.mem_map.mpr ⟨q, h, rfl⟩)
  | r :: m, l, q, h => by
    rcases jn_mem m _ h with h | h
    · obtain ⟨s, hs, e⟩ := List.mem_map.mp h
      rcases aput_mem hs with k | k
      · exact .inl (List.mem_map.mpr ⟨s, k, e⟩)
      · exact .inr (by rw [← e, k]; exact List.mem_cons_self ..)
    · exact .inr (List.mem_cons_of_mem _ h)
end
/-- names with parts, strictly rising, those of l that are not ("add", 0) -/
structure SortP (l ps : List (Str × Part)) : Prop where
  rise : Rise (ps.map (·.1))
  mem : ∀ z k, (z, k) ∈ ps ↔ (pAt l z = k ∧ k ≠ (false, 0))
theorem rise_nodup {l : List Str} (h : Rise l) : l.Nodup := h.imp fun {x y} h e => by rw [e, lt_irr] at h; cases h
theorem assoc_eq {α : Type} {ps qs : List (Str × α)} (a : Rise (ps.map (·.1))) (b : Rise (qs.map (·.1))) (mm : ∀ z k, (z, k) ∈ ps ↔ (z, k) ∈ qs) : ps = qs := by
  have hk : ps.map (·.1) = qs.map (·.1) := rise_eq a b fun z => by
    constructor
    · intro hz
      obtain ⟨p, hp, e⟩ := List.mem_map.mp hz
      exact List.mem_map.mpr ⟨p, (mm p.1 p.2).mp hp, e⟩
    · intro hz
      obtain ⟨p, hp, e⟩ := List.mem_map.mp hz
      exact List.mem_map.mpr ⟨p, (mm p.1 p.2).mpr hp, e⟩
  have nd := rise_nodup b
  have hl : ps.length = qs.length := by
    have := congrArg List.length hk
    rw [List.length_map, List.length_map] at this
    exact this
  refine List.ext_getElem? fun i => ?_
  cases e1 : ps[i]? with
  | none => rw [List.getElem?_eq_none_iff.mpr (by have := List.getElem?_eq_none_iff.mp e1; omega)]
  | some p =>
    have hp : (p.1, p.2) ∈ qs := (mm p.1 p.2).mp (List.mem_of_getElem? e1)
    have hi : i < qs.length := by have := (List.getElem?_eq_some_iff.mp e1).1; omega
    have e2 := List.getElem?_eq_getElem hi
    have e3 : (qs[i]).1 = p.1 := by
      have h1 : (ps.map (·.1))[i]? = some p.1 := by rw [List.getElem?_map, e1]; rfl
      rw [hk, List.getElem?_map, e2] at h1
      exact Option.some.inj h1
    have q1 := al_of nd (List.mem_of_getElem? e2 : (qs[i].1, qs[i].2) ∈ qs)
    have q2 := al_of nd hp
    rw [e3, q2] at q1
    rw [e2]
    exact congrArg some (Prod.ext e3.symm (Option.some.inj q1))
theorem SortP.uniq {l m ps qs : List (Str × Part)} (a : SortP l ps) (b : SortP m qs) (h : ∀ z, pAt l z = pAt m z) : ps = qs :=
  assoc_eq a.rise b.rise fun z k => by rw [a.mem, b.mem, h]
theorem sortp_of {l : List (Str × Part)} (hn : (l.map (·.1)).Nodup) {ys : List Str} (hr : Rise ys) (hm : ∀ z, z ∈ ys ↔ z ∈ l.map (·.1)) :
    SortP l ((ys.map fun z => (z, pAt l z)).filter fun q => decide (q.2 ≠ (false, 0))) := by
  refine ⟨?_, fun z k => ?_⟩
  · have h1 : ((ys.map fun z => (z, pAt l z)).map (·.1)) = ys := by
      rw [List.map_map]
      exact List.map_id _
    have h2 : (((ys.map fun z => (z, pAt l z)).filter fun q => decide (q.2 ≠ (false, 0))).map (·.1)).Sublist ys := by
      have := (List.filter_sublist (l := ys.map fun z => (z, pAt l z)) (p := fun q => decide (q.2 ≠ (false, 0)))).map (·.1)
      rw [h1] at this
      exact this
    exact hr.sublist h2
  · rw [List.mem_filter, List.mem_map]
    constructor
    · rintro ⟨⟨y, hy, e⟩, h2⟩
      have e1 : y = z := congrArg Prod.fst e
      have e2 : pAt l y = k := congrArg Prod.snd e
      exact ⟨by rw [← e1]; exact e2, of_decide_eq_true h2⟩
    · rintro ⟨h1, h2⟩
      refine ⟨⟨z, (hm z).mpr ?_, by rw [h1]⟩, decide_eq_true h2⟩
      cases q : l.lookup z with
      | none => unfold pAt at h1; rw [q] at h1; exact (h2 h1.symm).elim
      | some v => exact List.mem_map.mpr ⟨_, al_mem q, rfl⟩
end M
namespace M
open PySem PySem.Spec PyProof.Rows L2
def gDG (x y : V) (H : Hp) (Q : VK) : Prop := ∃ a v, x = .ref a ∧ DGet H a y (some v) ∧ Q v H
def gIsD (x : V) (H : Hp) (P : Addr → Prop) : Prop := ∃ a, x = .ref a ∧ IsD H a ∧ P a
def gD2 (a : Addr) (y z : V) (H : Hp) (Q : VK) : Prop := ∃ o, DGet H a y o ∧ Q (o.getD z) H
def gDI (f : Bool → Bool) (y x : V) (H : Hp) (Q : VK) : Prop := ∃ a o, x = .ref a ∧ DGet H a y o ∧ Q (.bl (f o.isSome)) H
def gFld (K : PySem.W.Frag) (f : Str) (x : V) (H : Hp) (Q : VK) : Prop := ∃ a C dx fs v, x = .ref a ∧ H a = some (.ins C dx fs) ∧ Cls K C ∧ NoAttr K C f ∧ fs.lookup f = some v ∧ Q v H
section
variable {σ : L2.St} {H : Hp} {Q : VK} {v : V} {i : Nat} {ta tb tc : TE} {r : R2} {D : Ends} {t u : TS} {g : TG} {tt tu : TT} {R : Bool → Hp → Prop} {tas : TA} {B : Prop}
theorem x_var (h : σ[i]? = some (some v)) (q : Q v H) : tVar i σ H Q := ⟨v, h, q⟩
theorem x_c (q : Q v H) : tC v σ H Q := q
theorem x_op (q : ta σ H fun x H1 => tb σ H1 fun y H2 => r x y H2 Q) : tOp r ta tb σ H Q := q
theorem x_un {r : V → Hp → VK → Prop} (q : ta σ H fun x H1 => r x H1 Q) : tUn r ta σ H Q := q
theorem x_cb {r : List V → Hp → VK → Prop} (q : tas σ H fun vs H1 => r vs H1 Q) : tCB r tas σ H Q := q
theorem x_nil {Q : List V → Hp → Prop} (q : Q [] H) : tNil σ H Q := q
theorem x_cons {Q : List V → Hp → Prop} (q : ta σ H fun x H1 => tas σ H1 fun xs H2 => Q (x :: xs) H2) : tCons ta tas σ H Q := q
theorem x_if (q : tt σ H fun c H1 => if c = true then ta σ H1 Q else tb σ H1 Q) : tIf tt ta tb σ H Q := q
theorem x_test (q : ta σ H fun x H' => ∃ k, x = .bl k ∧ R k H') : tTest ta σ H R := q
theorem x_B (q : ta σ H fun x H' => ∃ k, x = .bl k ∧ R k H') : tB ta σ H R := q
theorem x_and (q : tt σ H fun c H1 => if c = true then tu σ H1 R else R false H1) : tAnd tt tu σ H R := q
theorem x_or (q : tt σ H fun c H1 => if c = true then R true H1 else tu σ H1 R) : tOr tt tu σ H R := q
theorem x_not (q : tt σ H fun c H1 => R (!c) H1) : tNot tt σ H R := q
theorem x_andV (q : ta σ H fun x H1 => ∃ c, x = .bl c ∧ if c = true then tb σ H1 Q else Q (.bl false) H1) : tAndV ta tb σ H Q := q
theorem x_orV (q : ta σ H fun x H1 => ∃ c, x = .bl c ∧ if c = true then Q (.bl true) H1 else tb σ H1 Q) : tOrV ta tb σ H Q := q
theorem x_notV (q : ta σ H fun x H1 => ∃ c, x = .bl c ∧ Q (.bl (!c)) H1) : tNotV ta σ H Q := q
theorem x_call {sp : Sp} {dvs : List V} {E : XK} (q : tas σ H fun vs H1 => sp (vs ++ dvs) H1 Q E) : tCall sp dvs E tas σ H Q := q
theorem x_sl {r : V → Option Int → Option Int → Hp → VK → Prop} {tl th : TO} (q : ta σ H fun x H1 => tl σ H1 fun l H2 => th σ H2 fun u H3 => r x l u H3 Q) : tSl r ta tl th σ H Q := q
theorem x_nopart {Q : Option Int → Hp → Prop} (q : Q none H) : tNoPart σ H Q := q
theorem x_part {Q : Option Int → Hp → Prop} (q : ta σ H fun x H1 => ∃ i, x = .int i ∧ Q (some i) H1) : tPart ta σ H Q := q
theorem x_dget (q : ta σ H fun x H1 => tb σ H1 fun y H2 => gDG x y H2 Q) : tDGet ta tb σ H Q := q
theorem x_dget2 (q : ta σ H fun x H1 => gIsD x H1 fun a => tb σ H1 fun y H2 => tc σ H2 fun z H3 => gD2 a y z H3 Q) : tDGet2 ta tb tc σ H Q := q
theorem x_din (q : ta σ H fun y H1 => tb σ H1 fun x H2 => gDI id y x H2 Q) : tDIn ta tb σ H Q := q
theorem x_dnin (q : ta σ H fun y H1 => tb σ H1 fun x H2 => gDI not y x H2 Q) : tDNotIn ta tb σ H Q := q
theorem x_dnew (q : ∀ p H', H p = none → H' p = some (.dK []) → Same H H' → Q (.ref p) H') : tDNewK σ H Q := fun p np => q p _ np upd_same (same_new np)
theorem x_fld {K : PySem.W.Frag} {f : Str} (q : ta σ H fun x H1 => gFld K f x H1 Q) : tFld K ta f σ H Q := q
theorem x_bm {K : PySem.W.Frag} {T : String} {r : V → List V → Hp → VK → Prop} (q : ta σ H fun x H1 => tyV K T x H1 ∧ tas σ H1 fun xs H2 => r x xs H2 Q) : tBM K T r ta tas σ H Q := q
theorem x_bm0 {K : PySem.W.Frag} {T : String} {r : V → List V → Hp → VK → Prop} (q : ta σ H fun x H1 => tyV K T x H1 ∧ r x [] H1 Q) : tBM0 K T r ta σ H Q := q
/- statements -/
theorem x_seq (q : t { D with nx := u D } σ H) : tSeq t u D σ H := q
theorem x_next (q : D.nx σ H) : tNext D σ H := q
theorem x_asg (q : ta σ H fun x H1 => g x σ H1 D.nx) : tAsg ta g D σ H := q
theorem x_name {Q : L2.St → Hp → Prop} (q : Q (σ.set i (some v)) H) : gName i v σ H Q := q
theorem x_drop (q : ta σ H fun _ H1 => D.nx σ H1) : tDrop ta D σ H := q
theorem x_ret (q : ta σ H D.rt) : tRet ta D σ H := q
theorem x_retN (q : D.rt .non H) : tRetN D σ H := q
theorem x_ifs (q : tt σ H fun b H1 => if b = true then t D σ H1 else u D σ H1) : tIfS tt t u D σ H := q
/- operators -/
theorem x_I0 {f : Int → Int → V} {i j : Int} (q : Q (f i j) H) : rI0 f (.int i) (.int j) H Q := ⟨i, j, rfl, rfl, q⟩
theorem x_I {f : Int → Int → V} {C : Int → Int → Prop} {i j : Int} (c : C i j) (q : Q (f i j) H) : rI C f (.int i) (.int j) H Q := ⟨i, j, rfl, rfl, c, q⟩
theorem x_U {f : Int → V} {i : Int} (q : Q (f i) H) : rU f (.int i) H Q := ⟨i, rfl, q⟩
theorem x_eqI {i j : Int} (q : Q (.bl (decide (i = j))) H) : rEq (.int i) (.int j) H Q := ⟨rfl, by
  have e : decide (V.int i = V.int j) = decide (i = j) := by by_cases h : i = j; · rw [h]; simp
                                                             · rw [decide_eq_false h, decide_eq_false (fun e => h (V.int.inj e))]
  rw [e]; exact q⟩
theorem x_eqS {i j : Str} (q : Q (.bl (decide (i = j))) H) : rEq (.str i) (.str j) H Q := ⟨rfl, by
  have e : decide (V.str i = V.str j) = decide (i = j) := by by_cases h : i = j; · rw [h]; simp
                                                             · rw [decide_eq_false h, decide_eq_false (fun e => h (V.str.inj e))]
  rw [e]; exact q⟩
theorem x_neI {i j : Int} (q : Q (.bl (!decide (i = j))) H) : rNe (.int i) (.int j) H Q := ⟨rfl, by
  have e : decide (V.int i = V.int j) = decide (i = j) := by by_cases h : i = j; · rw [h]; simp
                                                             · rw [decide_eq_false h, decide_eq_false (fun e => h (V.int.inj e))]
  rw [e]; exact q⟩
theorem x_neS {i j : Str} (q : Q (.bl (!decide (i = j))) H) : rNe (.str i) (.str j) H Q := ⟨rfl, by
  have e : decide (V.str i = V.str j) = decide (i = j) := by by_cases h : i = j; · rw [h]; simp
                                                             · rw [decide_eq_false h, decide_eq_false (fun e => h (V.str.inj e))]
  rw [e]; exact q⟩
theorem x_eqB {i j : Bool} (q : Q (.bl (i == j)) H) : rEq (.bl i) (.bl j) H Q := ⟨rfl, by
  have e : decide (V.bl i = V.bl j) = (i == j) := by cases i <;> cases j <;> decide
  rw [e]; exact q⟩
theorem x_neB {i j : Bool} (q : Q (.bl (i != j)) H) : rNe (.bl i) (.bl j) H Q := ⟨rfl, by
  have e : (!decide (V.bl i = V.bl j)) = (i != j) := by cases i <;> cases j <;> decide
  rw [e]; exact q⟩
theorem x_itT {A : Prop} (q : A) : if true = true then A else B := q
theorem x_itF {A : Prop} (q : B) : if false = true then A else B := q
theorem x_kb {b : Bool} {P : Bool → Prop} (q : P b) : ∃ k, V.bl b = V.bl k ∧ P k := ⟨b, rfl, q⟩
theorem x_ki {b : Int} {P : Int → Prop} (q : P b) : ∃ k, V.int b = V.int k ∧ P k := ⟨b, rfl, q⟩
theorem x_ks {b : Str} {P : Str → Prop} (q : P b) : ∃ k, V.str b = V.str k ∧ P k := ⟨b, rfl, q⟩
theorem x_ka {b : Addr} {P : Addr → Prop} (q : P b) : ∃ k, V.ref b = V.ref k ∧ P k := ⟨b, rfl, q⟩
end
end M
namespace M
open PySem PySem.Spec PyProof.Rows L2
section
variable {K : PySem.W.Frag} {H H' : Hp} {Q : VK} {v y : V} {p a d : Addr} {xs ys : List V} {i : Int} {l : List (Str × V)} {z : Str} {o : HO} {C dx : Addr} {fs : List (Str × V)} {f : Str}
theorem x_ixT (h : SqT K H p xs) (e : atI xs i = some v) (q : Q v H) : rIxT K (.ref p) (.int i) H Q := ⟨p, xs, i, v, rfl, rfl, h, e, q⟩
theorem x_ixL (h : SqL K H p xs) (e : atI xs i = some v) (q : Q v H) : rIxL K (.ref p) (.int i) H Q := ⟨p, xs, i, v, rfl, rfl, h, e, q⟩
theorem x_lenL (h : SqL K H p xs) (q : Q (.int xs.length) H) : rLenQ K [.ref p] H Q := ⟨p, xs, rfl, .inl h, q⟩
theorem x_lenT (h : SqT K H p xs) (q : Q (.int xs.length) H) : rLenQ K [.ref p] H Q := ⟨p, xs, rfl, .inr h, q⟩
theorem x_gDG (h : Rd H d (.dK (sk l))) (e : sVal l z = some v) (q : Q v H) : gDG (.ref d) (.str z) H Q := ⟨d, v, rfl, e ▸ dget_s z h, q⟩
theorem x_gD2 (h : Rd H d (.dK (sk l))) (q : Q ((sVal l z).getD y) H) : gD2 d (.str z) y H Q := ⟨_, dget_s z h, q⟩
theorem x_isd (h : Rd H d (.dK (sk l))) : IsD H d := .inl ⟨_, h⟩
theorem x_gDI (h : Rd H d (.dK (sk l))) (q : Q (.bl (sVal l z).isSome) H) : gDI id (.str z) (.ref d) H Q := ⟨d, _, rfl, dget_s z h, q⟩
theorem x_gDN (h : Rd H d (.dK (sk l))) (q : Q (.bl (!(sVal l z).isSome)) H) : gDI not (.str z) (.ref d) H Q := ⟨d, _, rfl, dget_s z h, q⟩
theorem x_gIsD {P : Addr → Prop} (h : Rd H d (.dK (sk l))) (q : P d) : gIsD (.ref d) H P := ⟨d, rfl, .inl ⟨_, h⟩, q⟩
theorem x_gFld (h : H a = some (.ins C dx fs)) (c : Cls K C) (n : NoAttr K C f) (e : fs.lookup f = some v) (q : Q v H) : gFld K f (.ref a) H Q := ⟨a, C, dx, fs, v, rfl, h, c, n, e, q⟩
theorem x_app (h : H p = some (.lst xs)) (hl : xs.length < 1000) (q : ∀ H', H' p = some (.lst (xs ++ [y])) → Chg [p] H H' → Q .non H') : rAppend (.ref p) [y] H Q := ⟨p, xs, y, rfl, rfl, h, small1000 (by omega), q _ upd_same (Chg.set (by simp))⟩
theorem x_new {Q : V → Hp → Prop} (q : ∀ p H', H p = none → H' p = some o → Same H H' → Q (.ref p) H') : ∀ p, H p = none → Q (.ref p) (upd H p o) := fun p np => q p _ np upd_same (same_new np)
theorem x_len2 {R : Prop} {a b : V} (q : R) : [a, b].length ≤ sizeLine ∧ R := ⟨by show 2 ≤ sizeLine; decide, q⟩
theorem x_len3 {R : Prop} {a b c : V} (q : R) : [a, b, c].length ≤ sizeLine ∧ R := ⟨by show 3 ≤ sizeLine; decide, q⟩
theorem x_len1 {R : Prop} {a : V} (q : R) : [a].length ≤ sizeLine ∧ R := ⟨by show 1 ≤ sizeLine; decide, q⟩
theorem x_len0 {R : Prop} (q : R) : ([] : List V).length ≤ sizeLine ∧ R := ⟨by show 0 ≤ sizeLine; decide, q⟩
theorem same_at (s : Same H H') (h : H a = some o) : H' a = some o := s _ _ h
theorem chg_at {S : List Addr} (c : Chg S H H') (n : a ∉ S) (h : H a = some o) : H' a = some o := c _ _ n h
theorem sqt_of (h : H a = some (.tup xs)) : SqT K H a xs := .inl (.inl h)
theorem sql_of (h : H a = some (.lst xs)) : SqL K H a xs := .inl (.inl h)
theorem rd_of (h : H a = some o) : Rd H a o := .inl h
theorem ty_l (h : SqL K H p xs) : tyV K "list" (.ref p) H := .inl ⟨rfl, _, h⟩
theorem Same.rd (s : Same H H') (h : Rd H a o) : Rd H' a o := h.elim (fun h => .inl (s _ _ h)) fun ⟨u, h⟩ => .inr ⟨u, s _ _ h⟩
end
end M
namespace M
open PySem PySem.Spec PyProof.Rows L2
section
variable {K : PySem.W.Frag} {H H' : Hp} {Q : VK} {v y : V} {p a d : Addr} {xs ys : List V} {i : Int} {l : List (Str × V)} {z : Str} {o : HO} {C dx : Addr} {fs : List (Str × V)} {f : Str}
theorem x_isiL (h : H p = some (.lst xs)) (q : Q (.bl true) H) : rIsi K [.ref p, .ty "list"] H Q := ⟨_, _, _, _, true, rfl, .ty "list", .base (.lst h), kit_ty (by decide +kernel), q⟩
theorem x_isiT (h : H p = some (.tup xs)) (q : Q (.bl true) H) : rIsi K [.ref p, .ty "tuple"] H Q := ⟨_, _, _, _, true, rfl, .ty "tuple", .base (.tup h), kit_ty (by decide +kernel), q⟩
theorem x_isiS (q : Q (.bl true) H) : rIsi K [.str z, .ty "str"] H Q := ⟨_, _, _, _, true, rfl, .ty "str", .base (.str _), kit_ty (by decide +kernel), q⟩
end
end M
namespace M
open PySem PySem.Spec PyProof.Rows L2
theorem kd_set (b : Bool) : decide (kd b = Str.ofString "set") = b := by cases b <;> decide +kernel
theorem kd_add (b : Bool) : decide (kd b = Str.ofString "add") = !b := by cases b <;> decide +kernel
end M
namespace M
open PySem PySem.Spec PyProof.Rows L2
theorem x_make {C : Addr} {sp : Sp} {dvs : List V} {E : XK} {tas : TA} {σ : L2.St} {H : Hp} {Q : VK} (q : tas σ H fun vs H1 => ∀ x dx, H1 x = none → H1 dx = none → dx ≠ x → sp (.ref x :: (vs ++ dvs)) (upd (upd H1 dx (.own x)) x (.ins C dx [])) (fun v H2 => v = .non ∧ Q (.ref x) H2) E) : tMake C sp dvs E tas σ H Q := q
theorem x_meth {C : Addr} {m : Str} {sp : Sp} {dvs : List V} {E : XK} {ta : TE} {tas : TA} {σ : L2.St} {H : Hp} {Q : VK} (q : ta σ H fun x H1 => ∃ a dx fs, x = .ref a ∧ H1 a = some (.ins C dx fs) ∧ fs.lookup m = none ∧ tas σ H1 fun vs H2 => sp (x :: (vs ++ dvs)) H2 Q E) : tMeth C m sp dvs E ta tas σ H Q := q
/-- the heap behind a lock is the heap ahead of it, but for what is at P -/
theorem same_unlock {H H1 H' : Hp} {d P : Addr} {f u : HO} (s1 : Same H H1) (hP : H P = none) (hd : H1 d = some u) (c : Chg [P] (upd H1 d f) H') : Same H (upd H' d u) := fun b o e => by
  by_cases hb : b = d
  · rw [hb, upd_same, ← hd, ← hb]; exact s1 _ _ e
  · rw [upd_ne hb]
    have nP : b ≠ P := ne_of_none e hP
    exact c b o (by simpa using nP) (by rw [upd_ne hb]; exact s1 _ _ e)
/-- tuples behind a lock, a store at P -/
theorem tup_lock {K : PySem.W.Frag} {H : Hp} {d : Addr} {f u : HO} (hd : H d = some u) (hu : ∀ xs, u ≠ .tup xs) (hf : ∀ g xs, u ≠ .frz g (.tup xs)) {b : Addr} {xs : List V} (g : SqT K H b xs) : SqT K (upd H d f) b xs := by
  rcases g with (g | ⟨o, g⟩) | g
  · exact .inl (.inl (by rw [upd_ne (ne_of g hd (fun e => hu _ e.symm))]; exact g))
  · exact .inl (.inr ⟨o, by rw [upd_ne (ne_of g hd (fun e => hf _ _ e.symm))]; exact g⟩)
  · exact .inr g
end M
namespace M
theorem x_itNT {A B : Prop} (q : B) : if (!true) = true then A else B := q
theorem x_itNF {A B : Prop} (q : A) : if (!false) = true then A else B := q
theorem x_itDT {A B p : Prop} [Decidable p] (h : p) (q : A) : if decide p = true then A else B := by rw [if_pos (decide_eq_true h)]; exact q
theorem x_itDF {A B p : Prop} [Decidable p] (h : ¬ p) (q : B) : if decide p = true then A else B := by rw [if_neg (by rw [decide_eq_false h]; exact Bool.false_ne_true)]; exact q
theorem x_itNDT {A B p : Prop} [Decidable p] (h : p) (q : B) : if (!decide p) = true then A else B := by rw [decide_eq_true h]; exact q
theorem x_itNDF {A B p : Prop} [Decidable p] (h : ¬ p) (q : A) : if (!decide p) = true then A else B := by rw [decide_eq_false h]; exact q
end M
namespace M
open PySem PySem.Spec PyProof.Rows L2
/-- a new object -/
def nw (H : Hp) (o : HO) (Q : VK) : Prop := ∀ p H', H p = none → H' p = some o → Same H H' → Q (.ref p) H'
theorem nw_upd {H : Hp} {o : HO} {Q : VK} (q : nw H o Q) : ∀ p, H p = none → Q (.ref p) (upd H p o) := fun p np => q p _ np upd_same (same_new np)
def uTup (t : TA) : TE := fun σ H Q => t σ H fun xs H1 => xs.length ≤ sizeLine ∧ nw H1 (.tup xs) Q
def uLst (t : TA) : TE := fun σ H Q => t σ H fun xs H1 => xs.length ≤ sizeLine ∧ nw H1 (.lst xs) Q
section
variable {X : Cx} {K : PySem.W.Frag} {σ : L2.St} {H : Hp} {Q : VK} {tas : TA} {es : List Expr} {pos : Pos} {te : TE}
theorem pe_up {e : Expr} {t u : TE} (h : PE X e t) (i : ∀ σ H Q, u σ H Q → t σ H Q) : PE X e u := ⟨fun pins s σ H Q I hw => h.run pins s σ H Q I (i σ H Q hw)⟩
theorem x_tup (q : tas σ H fun xs H1 => xs.length ≤ sizeLine ∧ nw H1 (.tup xs) Q) : uTup tas σ H Q := q
theorem x_lst (q : tas σ H fun xs H1 => xs.length ≤ sizeLine ∧ nw H1 (.lst xs) Q) : uLst tas σ H Q := q
theorem x_nw {o : HO} (q : ∀ p H', H p = none → H' p = some o → Same H H' → Q (.ref p) H') : nw H o Q := q
end
end M
namespace M
open PySem PySem.Spec PyProof.Rows L2
section
variable {X : Cx} {K : PySem.W.Frag}
def cloA (t : TA) : TA := fun σ H R => ∃ R0 : List V → Hp → Prop, t σ H R0 ∧ ∀ xs H1, R0 xs H1 → R xs H1
theorem pa_clo {es : List Expr} {t : TA} (h : PA X es t) : PA X es (cloA t) := ⟨fun pos pins s σ H Q I ⟨R0, h0, i0⟩ => thn (h.run pos pins s σ H R0 I h0) fun us s' ⟨vs, H', I', r, q⟩ => ⟨vs, H', I', r, i0 _ _ q⟩⟩
theorem pe_tupN {es : List Expr} {t : TA} {pos : Pos} {x1} (h : PA X es t) : PE X (.Tuple es x1 pos) (uTup t) := pe_up (pe_tup (pa_clo h)) fun σ H Q q => ⟨_, q, fun xs H1 ⟨a, b⟩ => ⟨a, nw_upd b⟩⟩
theorem pe_lstN {es : List Expr} {t : TA} {pos : Pos} (h : PA X es t) : PE X (.List es pos) (uLst t) := pe_up (pe_lst (pa_clo h)) fun σ H Q q => ⟨_, q, fun xs H1 ⟨a, b⟩ => ⟨a, nw_upd b⟩⟩
theorem callR_up {f : Value} {r r' : List V → Hp → VK → Prop} (h : CallR X f r) (i : ∀ xs H Q, r' xs H Q → r xs H Q) : CallR X f r' := fun pins s σ H xs us Q I v q => h pins s σ H xs us Q I v (i _ _ _ q)
theorem opR_up {f : Value → Value → Sem Value} {r r' : R2} (h : OpR X f r) (i : ∀ x y H Q, r' x y H Q → r x y H Q) : OpR X f r' := fun pins s σ H x y v u Q I a b q => h pins s σ H x y v u Q I a b (i _ _ _ _ q)
theorem slR_up {r r' : V → Option Int → Option Int → Hp → VK → Prop} (h : SlR X r) (i : ∀ x lo hi H Q, r' x lo hi H Q → r x lo hi H Q) : SlR X r' := fun pins s σ H x v vl vu lo hi sl Q I a b c d q => h pins s σ H x v vl vu lo hi sl Q I a b c d (i _ _ _ _ _ q)
def nDict : List V → Hp → VK → Prop := fun xs H Q => ∃ a kvs, xs = [.ref a] ∧ Rd H a (.dK kvs) ∧ nw H (.dK kvs) Q
theorem call_dictN : CallR X (.type "dict") nDict := callR_up call_dict fun xs H Q ⟨a, kvs, e, h, q⟩ => ⟨a, kvs, e, h, nw_upd q⟩
theorem x_dict {H : Hp} {Q : VK} {a : Addr} {kvs : List (Key × V)} (h : Rd H a (.dK kvs)) (q : nw H (.dK kvs) Q) : nDict [.ref a] H Q := ⟨a, kvs, rfl, h, q⟩
def nList (K : PySem.W.Frag) : List V → Hp → VK → Prop := fun xs H Q => ∃ p ys, xs = [.ref p] ∧ (SqL K H p ys ∨ SqT K H p ys) ∧ nw H (.lst ys) Q
theorem listKN (h : X.K = K) : CallR X (.type "list") (nList K) := callR_up (listK h) fun xs H Q ⟨a, kvs, e, h, q⟩ => ⟨a, kvs, e, h, nw_upd q⟩
theorem x_list {H : Hp} {Q : VK} {a : Addr} {ys : List V} (h : SqL K H a ys) (q : nw H (.lst ys) Q) : nList K [.ref a] H Q := ⟨a, ys, rfl, .inl h, q⟩
def nCat (K : PySem.W.Frag) : R2 := fun x y H Q => ∃ l b xs zs, x = .ref l ∧ y = .ref b ∧ Rd H l (.lst xs) ∧ Rd H b (.lst zs) ∧ xs.length + zs.length ≤ sizeLine ∧ nw H (.lst (xs ++ zs)) Q
theorem op_catN : OpR X (binaryOp .Add) (nCat K) := opR_up op_catR fun x y H Q ⟨l, b, xs, zs, e1, e2, h1, h2, h3, q⟩ => ⟨l, b, xs, zs, e1, e2, h1, h2, h3, nw_upd q⟩
theorem x_cat {H : Hp} {Q : VK} {l b : Addr} {xs zs : List V} (h1 : Rd H l (.lst xs)) (h2 : Rd H b (.lst zs)) (h3 : xs.length + zs.length ≤ 1000) (q : nw H (.lst (xs ++ zs)) Q) : nCat K (.ref l) (.ref b) H Q := ⟨l, b, xs, zs, rfl, rfl, h1, h2, Nat.le_of_lt (small1000 (by omega)), q⟩
def nSlL (K : PySem.W.Frag) : V → Option Int → Option Int → Hp → VK → Prop := fun x lo hi H Q => ∃ a xs, x = .ref a ∧ SqL K H a xs ∧ nw H (.lst (cutV xs lo hi)) Q
theorem slLN (h : X.K = K) : SlR X (nSlL K) := slR_up (slLK h) fun x lo hi H Q ⟨a, xs, e, h, q⟩ => ⟨a, xs, e, h, nw_upd q⟩
theorem x_slL {H : Hp} {Q : VK} {a : Addr} {ys : List V} {lo hi : Option Int} (h : SqL K H a ys) (q : nw H (.lst (cutV ys lo hi)) Q) : nSlL K (.ref a) lo hi H Q := ⟨a, ys, rfl, h, q⟩
def nSort (K : PySem.W.Frag) : List V → Hp → VK → Prop := fun vs H Q => ∃ (a : Addr) (xs : List Str), vs = [V.ref a] ∧ SqL K H a (xs.map V.str) ∧ xs.length < 64 ∧ ∀ (ys : List Str) (p : Addr) H', ys.Perm xs → sortedS ys = true → H p = none → H' p = some (.lst (ys.map V.str)) → Same H H' → Q (.ref p) H'
theorem sortN (h : X.K = K) : CallR X (.builtin "sorted") (nSort K) := callR_up (sortSK h) fun vs H Q ⟨a, xs, e, h, l, q⟩ => ⟨a, xs, e, h, l, fun ys p hp hs np => q ys p _ hp hs np upd_same (same_new np)⟩
theorem x_sort {H : Hp} {Q : VK} {a : Addr} {xs : List Str} (h : SqL K H a (xs.map V.str)) (hl : xs.length < 64) (q : ∀ (ys : List Str) (p : Addr) H', ys.Perm xs → sortedS ys = true → H p = none → H' p = some (.lst (ys.map V.str)) → Same H H' → Q (.ref p) H') : nSort K [.ref a] H Q := ⟨a, xs, rfl, h, hl, q⟩
end
theorem ni1 {a b : Addr} (h : a ≠ b) : a ∉ [b] := by simpa using h
theorem ni0 {a : Addr} : a ∉ ([] : List Addr) := by simp
theorem ne_nk {H H' : Hp} {a b : Addr} {o : HO} (h : H' a = some o) (n : H' b = none) : a ≠ b := ne_of_none h n
section
variable {K : PySem.W.Frag} {σ : L2.St} {H H1 : Hp} {Q : VK} {te : TE} {tt : TT} {vs : List Nat} {g : TG}
/-- te at x gives some y with Φ D x y, which speaks of nothing that stands at D, laying only new things -/
theorem lc_pure {a : Addr} {xs : List V} {j : Nat} (c : V → Bool) (Φ : Addr → V → V → Hp → Prop) (hx : SqL K H1 a xs) (hlen : xs.length ≤ 1000)
    (hw : ∀ x, wipe ((wipe σ vs).set j (some x)) vs = wipe σ vs) (mono : ∀ D x y H H', Chg [D] H H' → Φ D x y H → Φ D x y H')
    (ht : ∀ x H2, x ∈ xs → Same H1 H2 → ∀ R : Bool → Hp → Prop, (∀ H3, Same H2 H3 → R (c x) H3) → tt ((wipe σ vs).set j (some x)) H2 R)
    (he : ∀ D l x H2, x ∈ xs → c x = true → H1 D = none → H2 D = some (.lst l) → Same H1 H2 → ∀ R : VK, (∀ y H3, Same H2 H3 → Φ D x y H3 → R y H3) → te ((wipe σ vs).set j (some x)) H2 R)
    (q : ∀ D ys H', H1 D = none → H' D = some (.lst ys) → Same H1 H' → Paired (fun x y => Φ D x y H') (xs.filter c) ys → Q (.ref D) H') :
    ∀ D, H1 D = none → ∃ W : Nat → Nat → Hp → Prop, (∃ m, W 0 m (upd H1 D (.lst []))) ∧ ∀ i m H, W i m H →
      ((Itl K a).stop i H ∧ Q (.ref D) H) ∨ ((Itl K a).go i H ∧ ∃ Nx : Hp → Prop, (∀ H', Nx H' → ∃ m', m' < m ∧ W (i + 1) m' H') ∧ ∀ x H', (Itl K a).yld i H x H' → gName j x (wipe σ vs) H' fun σ2 H2 => wipe σ2 vs = wipe σ vs ∧ tt σ2 H2 fun b H3 =>
        if b = true then te σ2 H3 fun y H4 => ∃ acc, H4 D = some (.lst acc) ∧ acc.length < sizeLine ∧ Nx (upd H4 D (.lst (acc ++ [y]))) else Nx H3) := by
  intro D nD
  have key : ∀ (i : Nat) x, xs[i]? = some x → (xs.take (i + 1)).filter c = (xs.take i).filter c ++ [x].filter c := fun i x hi => by
    rw [List.take_add_one, hi, List.filter_append]
    rfl
  refine lc_list (K := K) (a := a) (xs := xs) (fun i H' => Same H1 H' ∧ ∃ ys, H' D = some (.lst ys) ∧ Paired (fun x y => Φ D x y H') ((xs.take i).filter c) ys) ⟨same_new nD, [], upd_same, .nil⟩ (fun i H' _ p => p.1.seq hx) (fun i x H' hi p => ?_) (fun H' p => ?_)
  · obtain ⟨s, ys, hD, ps⟩ := p
    have hm : x ∈ xs := List.mem_of_getElem? hi
    have hlt : i < xs.length := (List.getElem?_eq_some_iff.mp hi).1
    refine ⟨hw x, ht x _ hm s _ fun H3 s3 => ?_⟩
    have hD3 := s3 _ _ hD
    cases hc : c x with
    | false =>
      rw [if_neg Bool.false_ne_true]
      refine ⟨s.trans s3, ys, hD3, ?_⟩
      rw [key i x hi, List.filter_cons, hc]
      show Paired _ (_ ++ []) _
      rw [List.append_nil]
      exact Paired.mapP ps fun u v h => mono _ _ _ _ _ (Chg.same s3 _) h
    | true =>
      rw [if_pos rfl]
      refine he D ys x _ hm hc nD hD3 (s.trans s3) _ fun y H4 s4 hy => ?_
      have hl : ys.length ≤ i := by
        have h1 := Paired.length ps
        have h2 := List.length_filter_le c (xs.take i)
        rw [List.length_take] at h2
        omega
      refine ⟨ys, s4 _ _ hD3, small1000 (by omega), Same.put ((s.trans s3).trans s4) nD, ys ++ [y], upd_same, ?_⟩
      rw [key i x hi, List.filter_cons, hc]
      refine Paired.snoc (Paired.mapP ps fun u v h => mono _ _ _ _ _ ((Chg.same (s3.trans s4) _).trans (Chg.set (by simp))) h) (mono _ _ _ _ _ (Chg.set (by simp)) hy)
  · obtain ⟨s, ys, hD, ps⟩ := p
    rw [List.take_length] at ps
    exact q D ys _ nD hD s ps
end
end M
namespace M
open PySem PySem.Spec PyProof.Rows L2
def TupY (f : V → List V) (D : Addr) (x y : V) (H : Hp) : Prop := ∃ q, y = .ref q ∧ q ≠ D ∧ H q = some (.tup (f x))
theorem tups_of {f : V → List V} {D : Addr} {H : Hp} {xs ys : List V} (h : Paired (fun x y => TupY f D x y H) xs ys) : ∃ qs : List Addr, ys = qs.map V.ref ∧ TupsAt H qs (xs.map f) := by
  induction h with
  | nil => exact ⟨[], rfl, .nil⟩
  | @cons x y xs ys h _ ih =>
    obtain ⟨q, rfl, _, hq⟩ := h
    obtain ⟨qs, rfl, ts⟩ := ih
    refine ⟨q :: qs, rfl, by rw [List.length_cons, List.map_cons, List.length_cons, ts.1], fun i r t a b => ?_⟩
    cases i with
    | zero => cases a; cases b; exact hq
    | succ i => exact ts.2 i r t a b
section
variable {K : PySem.W.Frag} {σ : L2.St} {H H1 : Hp} {Q : VK} {te : TE} {tt : TT} {vs : List Nat} {g : TG}
theorem lc_tupN {a : Addr} {xs : List V} {j : Nat} (f : V → List V) (c : V → Bool) (hx : SqL K H1 a xs) (hlen : xs.length ≤ 1000)
    (hw : ∀ x, wipe ((wipe σ vs).set j (some x)) vs = wipe σ vs)
    (ht : ∀ x H2, x ∈ xs → Same H1 H2 → ∀ R : Bool → Hp → Prop, (∀ H3, Same H2 H3 → R (c x) H3) → tt ((wipe σ vs).set j (some x)) H2 R)
    (he : ∀ x H2, x ∈ xs → c x = true → Same H1 H2 → ∀ R : VK, (∀ q H3, H2 q = none → Same H2 H3 → H3 q = some (.tup (f x)) → R (.ref q) H3) → te ((wipe σ vs).set j (some x)) H2 R)
    (q : ∀ D qs H', H1 D = none → Same H1 H' → H' D = some (.lst (qs.map V.ref)) → TupsAt H' qs ((xs.filter c).map f) → Q (.ref D) H') :
    ∀ D, H1 D = none → ∃ W : Nat → Nat → Hp → Prop, (∃ m, W 0 m (upd H1 D (.lst []))) ∧ ∀ i m H, W i m H →
      ((Itl K a).stop i H ∧ Q (.ref D) H) ∨ ((Itl K a).go i H ∧ ∃ Nx : Hp → Prop, (∀ H', Nx H' → ∃ m', m' < m ∧ W (i + 1) m' H') ∧ ∀ x H', (Itl K a).yld i H x H' → gName j x (wipe σ vs) H' fun σ2 H2 => wipe σ2 vs = wipe σ vs ∧ tt σ2 H2 fun b H3 =>
        if b = true then te σ2 H3 fun y H4 => ∃ acc, H4 D = some (.lst acc) ∧ acc.length < sizeLine ∧ Nx (upd H4 D (.lst (acc ++ [y]))) else Nx H3) := by
  refine lc_pure c (TupY f) hx hlen hw (fun D x y H H' c h => ?_) ht (fun D l x H2 hm hc n hD s R r => ?_) (fun D ys H' n hD s ps => ?_)
  · obtain ⟨p, e, n, h⟩ := h
    exact ⟨p, e, n, c _ _ (by simpa using n) h⟩
  · exact he x H2 hm hc s R fun p H3 np s3 h3 => r _ _ s3 ⟨p, rfl, (ne_of_none hD np).symm, h3⟩
  · obtain ⟨qs, rfl, ts⟩ := tups_of ps
    exact q D qs H' n s hD ts
end
end M
namespace M
open PySem PySem.Spec PyProof.Rows L2
theorem lk1 {f : Str} {v : V} {r : List (Str × V)} : ((f, v) :: r).lookup f = some v := by rw [List.lookup_cons, beq_self_eq_true]
theorem dgs {H : Hp} {d : Addr} {l : List (Str × V)} {z : Str} {v : V} (h : Rd H d (.dK (sk l))) (e : sVal l z = some v) : DGet H d (.str z) (some v) := e ▸ dget_s z h
end M
namespace M
open PySem PySem.Spec PyProof.Rows L2
theorem dput_g {H : Hp} {a : Addr} {l : List (Str × V)} (z : Str) (v : V) (h : H a = some (.dK (sk l))) (hl : l.length < 1000) : ∃ H', DPut H a (.str z) v H' ∧ H' a = some (.dK (sk (sPut l z v))) ∧ Chg [a] H H' := ⟨_, dput_s z v h (small1000 (by omega)), upd_same, Chg.set (by simp)⟩
theorem x_dput {td tk tv : TE} {D : Ends} {σ : L2.St} {H : Hp} (q : tv σ H fun v H1 => td σ H1 fun x H2 => tk σ H2 fun y H3 => ∃ a H', x = .ref a ∧ DPut H3 a y v H' ∧ D.nx σ H') : sDPut td tk tv D σ H := q
end M
namespace M
open PySem L2
theorem ne_kn {H : Hp} {a b : Addr} {o : HO} (n : H b = none) (h : H a = some o) : a ≠ b := ne_of_none h n
theorem kinds_at {d : Int} (h0 : 0 ≤ d) (h3 : d < 3) : ∃ b, atI [V.str (Str.ofString "add"), V.str (Str.ofString "set"), V.str (Str.ofString "add")] d = some (.str (kd b)) := by
  have : d = 0 ∨ d = 1 ∨ d = 2 := by omega
  rcases this with rfl | rfl | rfl
  · exact ⟨false, rfl⟩
  · exact ⟨true, rfl⟩
  · exact ⟨false, rfl⟩
end M
namespace M
open PySem L2
theorem sqt_chg {K : PySem.W.Frag} {H H' : Hp} {a b : Addr} {o : HO} {ys : List V} (c : Chg [a] H H') (h : H a = some o) (n1 : ∀ xs, o ≠ .tup xs) (n2 : ∀ f xs, o ≠ .frz f (.tup xs)) (g : SqT K H b ys) : SqT K H' b ys := by
  rcases g with (g | ⟨f, g⟩) | g
  · exact .inl (.inl (c _ _ (ni1 (ne_of g h (fun e => n1 _ e.symm))) g))
  · exact .inl (.inr ⟨f, c _ _ (ni1 (ne_of g h (fun e => n2 _ _ e.symm))) g⟩)
  · exact .inr g
theorem sqt_L {K : PySem.W.Frag} {H H' : Hp} {a b : Addr} {xs ys : List V} (c : Chg [a] H H') (h : H a = some (.lst xs)) (g : SqT K H b ys) : SqT K H' b ys := sqt_chg c h (by intros; intro z; cases z) (by intros; intro z; cases z) g
theorem sqt_D {K : PySem.W.Frag} {H H' : Hp} {a b : Addr} {kvs : List (Key × V)} {ys : List V} (c : Chg [a] H H') (h : H a = some (.dK kvs)) (g : SqT K H b ys) : SqT K H' b ys := sqt_chg c h (by intros; intro z; cases z) (by intros; intro z; cases z) g
theorem sqt_I {K : PySem.W.Frag} {H H' : Hp} {a b : Addr} {C dx : Addr} {fs : List (Str × V)} {ys : List V} (c : Chg [a] H H') (h : H a = some (.ins C dx fs)) (g : SqT K H b ys) : SqT K H' b ys := sqt_chg c h (by intros; intro z; cases z) (by intros; intro z; cases z) g
end M
namespace M
open PySem PySem.Spec PyProof.Rows L2
section
variable {K : PySem.W.Frag} {σ : L2.St} {H : Hp} {Q : VK} {te td : TE} {tt : TT} {vs : List Nat} {d : Addr} {l : List (Str × V)} {i j : Nat}
theorem lck_pure (c : Str → Bool) (Φ : Addr → Str → V → Hp → Prop) (hv : σ[i]? = some (some (.ref d))) (hd : H d = some (.dK (sk l))) (hl : l.length ≤ 1000)
    (hw : ∀ x, wipe ((wipe σ vs).set j (some x)) vs = wipe σ vs) (mono : ∀ D x y H H', Chg [D, d] H H' → Φ D x y H → Φ D x y H')
    (ht : ∀ od z v H2, (z, v) ∈ l → Chg [d] H H2 → H2 d = some (.frz od (.dK (sk l))) → ∀ R : Bool → Hp → Prop, (∀ H3, Same H2 H3 → R (c z) H3) → tt ((wipe σ vs).set j (some (.str z))) H2 R)
    (he : ∀ od D al z v H2, (z, v) ∈ l → c z = true → H D = none → D ≠ d → H2 D = some (.lst al) → Chg [d] H H2 → H2 d = some (.frz od (.dK (sk l))) → ∀ R : VK, (∀ y H3, Same H2 H3 → Φ D z y H3 → R y H3) → te ((wipe σ vs).set j (some (.str z))) H2 R)
    (q : ∀ D ys H', H D = none → H' D = some (.lst ys) → Same H H' → Paired (fun x y => Φ D x y H') ((l.map (·.1)).filter c) ys → Q (.ref D) H') :
    tLockE (tLc (iKeys (tVar i)) (gName j) tt te vs) σ H Q := by
  refine ⟨d, _, hd, True.intro, fun od => ⟨.ref d, hv, d, od, rfl, .inl ⟨sk l, upd_same, fun D nD => ?_⟩⟩⟩
  have nDa : D ≠ d := fun e => by rw [e, upd_same] at nD; cases nD
  have nH : H D = none := by rw [upd_ne nDa] at nD; exact nD
  have key : ∀ (i : Nat) z v, l[i]? = some (z, v) → ((l.take (i + 1)).map (·.1)).filter c = ((l.take i).map (·.1)).filter c ++ [z].filter c := fun i z v hi => by
    rw [List.take_add_one, hi, List.map_append, List.filter_append]
    rfl
  have c0 : Chg [d] H (upd H d (.frz od (.dK (sk l)))) := Chg.set (by simp)
  refine lc_keys (fun i H' => Chg [d] H H' ∧ H' d = some (.frz od (.dK (sk l))) ∧ ∃ ys, H' D = some (.lst ys) ∧ Paired (fun x y => Φ D x y H') (((l.take i).map (·.1)).filter c) ys) ⟨c0.trans (Chg.same (same_new nD) _), by rw [upd_ne nDa.symm, upd_same], [], upd_same, .nil⟩ (fun i H' _ p => p.2.1) (fun i k v H' hk p => ?_) (fun H' p => ?_)
  · obtain ⟨z, rfl, hz⟩ := sk_get hk
    obtain ⟨s, hf, ys, hD, ps⟩ := p
    have hm : (z, v) ∈ l := List.mem_of_getElem? hz
    have hlt : i < l.length := (List.getElem?_eq_some_iff.mp hz).1
    refine ⟨hw _, ht od z v _ hm s hf _ fun H3 s3 => ?_⟩
    have hD3 := s3 _ _ hD
    have sub : ∀ {H4 : Hp} (s4 : Same H' H4), Chg [D, d] H' H4 := fun s4 => Chg.same s4 _
    cases hc : c z with
    | false =>
      rw [if_neg Bool.false_ne_true]
      refine ⟨s.trans (Chg.same s3 _), s3 _ _ hf, ys, hD3, ?_⟩
      rw [key i z v hz, List.filter_cons, hc]
      show Paired _ (_ ++ []) _
      rw [List.append_nil]
      exact Paired.mapP ps fun u v h => mono _ _ _ _ _ (Chg.same s3 _) h
    | true =>
      rw [if_pos rfl]
      refine he od D ys z v _ hm hc nH nDa hD3 (s.trans (Chg.same s3 _)) (s3 _ _ hf) _ fun y H4 s4 hy => ?_
      have hl : ys.length ≤ i := by
        have h1 := Paired.length ps
        have h2 := List.length_filter_le c ((l.take i).map (·.1))
        rw [List.length_map, List.length_take] at h2
        omega
      have hf4 := s4 _ _ (s3 _ _ hf)
      refine ⟨ys, s4 _ _ hD3, small1000 (by omega), ?_, by rw [upd_ne nDa.symm]; exact hf4, ys ++ [y], upd_same, ?_⟩
      · exact ((s.trans (Chg.same s3 _)).trans (Chg.same s4 _)).put nH
      · rw [key i z v hz, List.filter_cons, hc]
        refine Paired.snoc (Paired.mapP ps fun u v h => mono _ _ _ _ _ ((Chg.same (s3.trans s4) _).trans (Chg.set (by simp))) h) (mono _ _ _ _ _ (Chg.set (by simp)) hy)
  · obtain ⟨s, hf, ys, hD, ps⟩ := p
    rw [sk_len, List.take_length] at ps
    refine ⟨hf, ?_⟩
    have s2 : Same H (upd H' d (.dK (sk l))) := fun b o e => by
      by_cases hb : b = d
      · rw [hb, upd_same, ← hd, ← hb]; exact e
      · rw [upd_ne hb]; exact s b o (ni1 hb) e
    exact q D ys _ nH (by rw [upd_ne nDa]; exact hD) s2 (Paired.mapP ps fun u v h => mono _ _ _ _ _ (Chg.set (by simp)) h)
theorem paired_str {f : Str → V} : ∀ {xs : List Str} {ys : List V}, Paired (fun x y => y = f x) xs ys → ys = xs.map f
  | _, _, .nil => rfl
  | _, _, .cons h t => by rw [h, paired_str t]; rfl
/-- [str(n) for n in d] -/
theorem lck_strs (hv : σ[i]? = some (some (.ref d))) (hd : H d = some (.dK (sk l))) (hl : l.length ≤ 1000) (hw : ∀ x, wipe ((wipe σ vs).set j (some x)) vs = wipe σ vs)
    (he : ∀ z H2 (R : VK), R (.str z) H2 → te ((wipe σ vs).set j (some (.str z))) H2 R)
    (q : ∀ D H', H D = none → H' D = some (.lst ((l.map (·.1)).map V.str)) → Same H H' → Q (.ref D) H') : tLockE (tLc (iKeys (tVar i)) (gName j) tYes te vs) σ H Q := by
  refine lck_pure (fun _ => true) (fun _ z y _ => y = .str z) hv hd hl hw (fun _ _ _ _ _ _ h => h) (fun od z v H2 _ _ _ R r => r H2 (Same.refl _)) (fun od D al z v H2 _ _ _ _ _ _ _ R r => he z H2 R (r _ _ (Same.refl _) rfl)) fun D ys H' nD hD s ps => ?_
  have e := paired_str ps
  rw [List.filter_eq_self.mpr (by intros; rfl)] at e
  exact q D H' nD (by rw [hD, e]) s
end
end M
namespace M
open PySem PySem.Spec PyProof.Rows L2
section
variable {K : PySem.W.Frag} {σ : L2.St} {H : Hp} {Q : VK} {te tl : TE} {tt : TT} {vs : List Nat} {wi : TI} {g : TG} {tb : TS} {D : Ends} {R : It → Hp → Prop} {n : Nat} {B : Prop}
theorem x_lc (q : wi σ H fun J H1 => ∀ D, H1 D = none → ∃ W : Nat → Nat → Hp → Prop, (∃ m, W 0 m (upd H1 D (.lst []))) ∧ ∀ i m H, W i m H →
  (J.stop i H ∧ Q (.ref D) H) ∨ (J.go i H ∧ ∃ Nx : Hp → Prop, (∀ H', Nx H' → ∃ m', m' < m ∧ W (i + 1) m' H') ∧ ∀ x H', J.yld i H x H' → g x (wipe σ vs) H' fun σ2 H2 => wipe σ2 vs = wipe σ vs ∧ tt σ2 H2 fun b H3 =>
    if b = true then te σ2 H3 fun y H4 => ∃ acc, H4 D = some (.lst acc) ∧ acc.length < sizeLine ∧ Nx (upd H4 D (.lst (acc ++ [y]))) else Nx H3)) : tLc wi g tt te vs σ H Q := q
theorem x_il (q : tl σ H fun x H1 => ∃ a, x = .ref a ∧ (∃ xs, SqL K H1 a xs) ∧ R (Itl K a) H1) : iList K tl σ H R := q
theorem x_itup (q : tl σ H fun x H1 => ∃ a, x = .ref a ∧ (∃ xs, SqT K H1 a xs) ∧ R (Itt K a) H1) : iTup K tl σ H R := q
theorem x_for (q : wi σ H fun J H1 => ∃ W : Nat → Nat → L2.St → Hp → Prop, (∃ m, W 0 m σ H1) ∧ ∀ i m σ H, W i m σ H → (J.stop i H ∧ D.nx σ H) ∨
    (J.go i H ∧ ∃ N : L2.St → Hp → Prop, (∀ σ' H', N σ' H' → ∃ m', m' < m ∧ W (i + 1) m' σ' H') ∧ ∀ x H', J.yld i H x H' → g x σ H' fun σ2 H2 => tb { D with nx := N, ct := N, bk := D.nx } σ2 H2)) : tFor wi g tb D σ H := q
/-- truth known up to a word -/
theorem x_itB {b : Bool} {A B : Prop} (t : b = true → A) (f : b = false → B) : if b = true then A else B := by cases b with | true => exact t rfl | false => exact f rfl
end
end M
namespace M
open PySem PySem.Spec PyProof.Rows L2
/-- a comprehension over the list at a, from here -/
def LcG (K : PySem.W.Frag) (a : Addr) (g : TG) (tt : TT) (te : TE) (vs : List Nat) (σ : L2.St) (H1 : Hp) (Q : VK) : Prop := ∀ D, H1 D = none → ∃ W : Nat → Nat → Hp → Prop, (∃ m, W 0 m (upd H1 D (.lst []))) ∧ ∀ i m H, W i m H →
  ((Itl K a).stop i H ∧ Q (.ref D) H) ∨ ((Itl K a).go i H ∧ ∃ Nx : Hp → Prop, (∀ H', Nx H' → ∃ m', m' < m ∧ W (i + 1) m' H') ∧ ∀ x H', (Itl K a).yld i H x H' → g x (wipe σ vs) H' fun σ2 H2 => wipe σ2 vs = wipe σ vs ∧ tt σ2 H2 fun b H3 =>
    if b = true then te σ2 H3 fun y H4 => ∃ acc, H4 D = some (.lst acc) ∧ acc.length < sizeLine ∧ Nx (upd H4 D (.lst (acc ++ [y]))) else Nx H3)
section
variable {K : PySem.W.Frag} {σ : L2.St} {H H1 : Hp} {Q : VK} {te tl : TE} {tt : TT} {vs : List Nat} {g : TG} {a : Addr} {xs : List V} {j : Nat}
theorem x_lcL (q : tl σ H fun x H1 => ∃ a, x = .ref a ∧ (∃ xs, SqL K H1 a xs) ∧ LcG K a g tt te vs σ H1 Q) : tLc (iList K tl) g tt te vs σ H Q := q
theorem lcP (c : V → Bool) (Φ : Addr → V → V → Hp → Prop) (hx : SqL K H1 a xs) (hlen : xs.length ≤ 1000)
    (hw : ∀ x, wipe ((wipe σ vs).set j (some x)) vs = wipe σ vs) (mono : ∀ D x y H H', Chg [D] H H' → Φ D x y H → Φ D x y H')
    (ht : ∀ x H2, x ∈ xs → Same H1 H2 → ∀ R : Bool → Hp → Prop, (∀ H3, Same H2 H3 → R (c x) H3) → tt ((wipe σ vs).set j (some x)) H2 R)
    (he : ∀ D l x H2, x ∈ xs → c x = true → H1 D = none → H2 D = some (.lst l) → Same H1 H2 → ∀ R : VK, (∀ y H3, Same H2 H3 → Φ D x y H3 → R y H3) → te ((wipe σ vs).set j (some x)) H2 R)
    (q : ∀ D ys H', H1 D = none → H' D = some (.lst ys) → Same H1 H' → Paired (fun x y => Φ D x y H') (xs.filter c) ys → Q (.ref D) H') : LcG K a (gName j) tt te vs σ H1 Q :=
  lc_pure c Φ hx hlen hw mono ht he q
theorem lcT (f : V → List V) (c : V → Bool) (hx : SqL K H1 a xs) (hlen : xs.length ≤ 1000)
    (hw : ∀ x, wipe ((wipe σ vs).set j (some x)) vs = wipe σ vs)
    (ht : ∀ x H2, x ∈ xs → Same H1 H2 → ∀ R : Bool → Hp → Prop, (∀ H3, Same H2 H3 → R (c x) H3) → tt ((wipe σ vs).set j (some x)) H2 R)
    (he : ∀ x H2, x ∈ xs → c x = true → Same H1 H2 → ∀ R : VK, (∀ q H3, H2 q = none → Same H2 H3 → H3 q = some (.tup (f x)) → R (.ref q) H3) → te ((wipe σ vs).set j (some x)) H2 R)
    (q : ∀ D qs H', H1 D = none → Same H1 H' → H' D = some (.lst (qs.map V.ref)) → TupsAt H' qs ((xs.filter c).map f) → Q (.ref D) H') : LcG K a (gName j) tt te vs σ H1 Q :=
  lc_tupN f c hx hlen hw ht he q
/-- values told by the item alone -/
theorem lcV (f : V → V) (c : V → Bool) (hx : SqL K H1 a xs) (hlen : xs.length ≤ 1000)
    (hw : ∀ x, wipe ((wipe σ vs).set j (some x)) vs = wipe σ vs)
    (ht : ∀ x H2, x ∈ xs → Same H1 H2 → ∀ R : Bool → Hp → Prop, (∀ H3, Same H2 H3 → R (c x) H3) → tt ((wipe σ vs).set j (some x)) H2 R)
    (he : ∀ x H2, x ∈ xs → c x = true → Same H1 H2 → ∀ R : VK, (∀ H3, Same H2 H3 → R (f x) H3) → te ((wipe σ vs).set j (some x)) H2 R)
    (q : ∀ D H', H1 D = none → H' D = some (.lst ((xs.filter c).map f)) → Same H1 H' → Q (.ref D) H') : LcG K a (gName j) tt te vs σ H1 Q := by
  refine lcP c (fun _ x y _ => y = f x) hx hlen hw (fun _ _ _ _ _ _ h => h) ht (fun D l x H2 hm hc n hD s R r => he x H2 hm hc s R fun H3 s3 => r _ _ s3 rfl) fun D ys H' nD hD s ps => ?_
  have e : ∀ {us ys : List V}, Paired (fun x y => y = f x) us ys → ys = us.map f := fun ps => by
    induction ps with
    | nil => rfl
    | cons h _ ih => rw [h, ih]; rfl
  exact q D H' nD (by rw [hD, e ps]) s
end
end M
namespace M
open PySem L2
theorem TupsAt.pair {H : Hp} : ∀ {qs : List Addr} {ts : List (List V)}, TupsAt H qs ts → Paired (fun q t => H q = some (.tup t)) qs ts
  | [], [], _ => .nil
  | [], t :: ts, h => by have := h.1; simp at this
  | q :: qs, [], h => by have := h.1; simp at this
  | q :: qs, t :: ts, h => .cons (h.2 0 q t rfl rfl) (TupsAt.pair ⟨by have := h.1; simpa using this, fun i a b e f => h.2 (i + 1) a b e f⟩)
theorem TupsAt.of {H : Hp} {qs : List Addr} {ts : List (List V)} (h : Paired (fun q t => H q = some (.tup t)) qs ts) : TupsAt H qs ts := by
  induction h with
  | nil => exact .nil
  | @cons q t qs ts h _ ih =>
    refine ⟨by rw [List.length_cons, List.length_cons, ih.1], fun i r t a b => ?_⟩
    cases i with
    | zero => cases a; cases b; exact h
    | succ i => exact ih.2 i r t a b
theorem TupsAt.filt {H : Hp} {c : V → Bool} {g : List V → Bool} {qs : List Addr} {ts : List (List V)} (h : TupsAt H qs ts) (hc : ∀ q t, t ∈ ts → H q = some (.tup t) → c (.ref q) = g t) : ∃ qs', (qs.map V.ref).filter c = qs'.map V.ref ∧ TupsAt H qs' (ts.filter g) := by
  replace h := h.pair
  induction h with
  | nil => exact ⟨[], rfl, .nil⟩
  | @cons q t qs ts h _ ih =>
    obtain ⟨qs', e1, e2⟩ := ih fun a u m x => hc a u (List.mem_cons_of_mem _ m) x
    have e := hc q t (List.mem_cons_self ..) h
    rw [List.map_cons, List.filter_cons, List.filter_cons, e]
    cases g t with
    | true =>
      refine ⟨q :: qs', by rw [if_pos rfl, e1]; rfl, ?_⟩
      rw [if_pos rfl]
      exact TupsAt.of (.cons h e2.pair)
    | false =>
      rw [if_neg Bool.false_ne_true, if_neg Bool.false_ne_true]
      exact ⟨qs', e1, e2⟩
theorem TupsAt.look {H : Hp} {qs : List Addr} {ts : List (List V)} (h : TupsAt H qs ts) {v : V} (hv : v ∈ qs.map V.ref) : ∃ a t, v = .ref a ∧ t ∈ ts ∧ H a = some (.tup t) := by
  replace h := h.pair
  induction h with
  | nil => simp at hv
  | @cons q t qs ts h _ ih =>
    rw [List.map_cons, List.mem_cons] at hv
    rcases hv with rfl | hv
    · exact ⟨q, t, rfl, List.mem_cons_self .., h⟩
    · obtain ⟨a, u, e, m, x⟩ := ih hv
      exact ⟨a, u, e, List.mem_cons_of_mem _ m, x⟩
end M
namespace M
open PySem PySem.Spec PyProof.Rows L2
section
variable {K : PySem.W.Frag} {σ : L2.St} {H : Hp} {Q : L2.St → Hp → Prop} {a : Addr} {i j k : Nat} {x y z : V}
theorem x_gt2 (h : SqT K H a [x, y]) (q : Q ((σ.set i (some x)).set j (some y)) H) : gTup K 2 (gCons (gName i) (gCons (gName j) gNil)) (.ref a) σ H Q := ⟨a, _, rfl, h, rfl, x, [y], rfl, y, [], rfl, rfl, q⟩
theorem x_gt3 (h : SqT K H a [x, y, z]) (q : Q (((σ.set i (some x)).set j (some y)).set k (some z)) H) : gTup K 3 (gCons (gName i) (gCons (gName j) (gCons (gName k) gNil))) (.ref a) σ H Q := ⟨a, _, rfl, h, rfl, x, [y, z], rfl, y, [z], rfl, z, [], rfl, rfl, q⟩
end
end M
namespace M
open PySem PySem.Spec PyProof.Rows L2
theorem pgT {X : Cx} {K : PySem.W.Frag} (h : X.K = K) {es : List Expr} {k : Nat} {t : TGs} {n : Nat} {pos : Pos} (hc : X.calm = true) (hg : PGs X es t) (hn : (assignEach es X.env).length = n := by rfl) (hst : (assignEach es X.env).findIdx? (·.1) = none := by rfl) : PG X (.Tuple es k pos) (gTup K n t) := by
  subst h
  exact pg_tup hc hg hn hst
end M
namespace M
open PySem PySem.Spec PyProof.Rows L2
theorem for_sk {d : Addr} {o : Obj} {l : List (Str × V)} {g : TG} {tb : TS} {D : Ends} {σ : L2.St} {H : Hp} (Pv : Nat → L2.St → Hp → Prop) (h0 : Pv 0 σ H) (hl : ∀ i σ H, i ≤ l.length → Pv i σ H → H d = some (.frz o (.dK (sk l))))
    (hs : ∀ i z v σ H, l[i]? = some (z, v) → Pv i σ H → g (.str z) σ H fun σ2 H2 => tb { D with nx := Pv (i + 1), ct := Pv (i + 1), bk := D.nx } σ2 H2) (hd : ∀ σ H, Pv l.length σ H → D.nx σ H) :
    ∃ W : Nat → Nat → L2.St → Hp → Prop, (∃ m, W 0 m σ H) ∧ ∀ i m σ H, W i m σ H →
      ((Itk d o (sk l)).stop i H ∧ D.nx σ H) ∨ ((Itk d o (sk l)).go i H ∧ ∃ N : L2.St → Hp → Prop, (∀ σ' H', N σ' H' → ∃ m', m' < m ∧ W (i + 1) m' σ' H') ∧ ∀ x H', (Itk d o (sk l)).yld i H x H' → g x σ H' fun σ2 H2 => tb { D with nx := N, ct := N, bk := D.nx } σ2 H2) :=
  for_keys Pv h0 (fun i σ H h => hl i σ H (by rw [sk_len] at h; exact h)) (fun i k v σ H hk p => by
    obtain ⟨z, rfl, hz⟩ := sk_get hk
    exact hs i z v σ H hz p) (fun σ H p => hd σ H (by rw [sk_len] at p; exact p))
end M
namespace M
open L2
theorem x_oN {A B : Prop} (q : B) : if (none : Option V).isSome = true then A else B := q
theorem x_oS {v : V} {A B : Prop} (q : A) : if (some v).isSome = true then A else B := q
theorem x_noN {A B : Prop} (q : A) : if (!(none : Option V).isSome) = true then A else B := q
theorem x_noS {v : V} {A B : Prop} (q : B) : if (!(some v).isSome) = true then A else B := q
end M
namespace M
open PySem PySem.Spec PyProof.Rows L2
def gRng (vs : List V) (H : Hp) (R : It → Hp → Prop) : Prop := ∃ j : Int, vs = [.int j] ∧ -(2 ^ 62) ≤ j ∧ j < 2 ^ 62 ∧ R (Itr 0 j.toNat) H
def gRng2 (vs : List V) (H : Hp) (R : It → Hp → Prop) : Prop := ∃ i j : Int, vs = [.int i, .int j] ∧ (-(2 ^ 62) ≤ i ∧ i < 2 ^ 62 ∧ -(2 ^ 62) ≤ j ∧ j < 2 ^ 62) ∧ R (Itr i (j - i).toNat) H
theorem x_rng1 {ta : TA} {σ : L2.St} {H : Hp} {R : It → Hp → Prop} (q : ta σ H fun vs H1 => gRng vs H1 R) : iRng1 ta σ H R := q
theorem x_rng2 {ta : TA} {σ : L2.St} {H : Hp} {R : It → Hp → Prop} (q : ta σ H fun vs H1 => gRng2 vs H1 R) : iRng2 ta σ H R := q
end M
namespace M
open PySem PySem.Spec PyProof.Rows L2
theorem x_neD_same {K : PySem.W.Frag} {H : Hp} {x y : V} {d : PyData} {Q : VK} (h1 : Dp K H x d) (h2 : Dp K H y d) (sd : SeqAt.shaped d = true) (q : Q (.bl false) H) : rNeD K x y H Q := ⟨d, d, h1, h2, sd, sd, by rw [SeqAt.eqv_refl _ (SeqAt.canLay_of_shaped sd)]; exact q⟩
theorem x_eqD_same {K : PySem.W.Frag} {H : Hp} {x y : V} {d : PyData} {Q : VK} (h1 : Dp K H x d) (h2 : Dp K H y d) (sd : SeqAt.shaped d = true) (q : Q (.bl true) H) : rEqD K x y H Q := ⟨d, d, h1, h2, sd, sd, by rw [SeqAt.eqv_refl _ (SeqAt.canLay_of_shaped sd)]; exact q⟩
end M
namespace M
open PySem PySem.Spec PyProof.Rows L2
def gIsC (C : Addr) : List V → Hp → VK → Prop := fun xs H Q => ∃ a dx fs, xs = [.ref a, .ref C] ∧ H a = some (.ins C dx fs) ∧ Q (.bl true) H
theorem call_isCN {X : Cx} {C : Addr} (c : C8.InsC X.K C) : CallR X (.builtin "isinstance") (gIsC C) := C8.call_isC c
theorem x_isC {C : Addr} {H : Hp} {Q : VK} {a dx : Addr} {fs : List (Str × V)} (h : H a = some (.ins C dx fs)) (q : Q (.bl true) H) : gIsC C [.ref a, .ref C] H Q := ⟨a, dx, fs, rfl, h, q⟩
end M
namespace M
theorem nf_self {K : PySem.W.Frag} {C : PySem.Addr} : PySem.W.notFirst K C (.ref C) = true := by
  unfold PySem.W.notFirst
  rw [show (PySem.Value.ref C == PySem.Value.ref C) = true from beq_self_eq_true _]
  rfl
end M
namespace M
open PySem PySem.Spec PyProof.Rows L2
theorem lk0 {m f : Str} {v : V} (h : (m == f) = false) : [(f, v)].lookup m = none := by rw [List.lookup_cons, h]; rfl
def gMeth (C : Addr) (m : Str) (x : V) (H : Hp) (P : Prop) : Prop := ∃ a dx fs, x = .ref a ∧ H a = some (.ins C dx fs) ∧ fs.lookup m = none ∧ P
section
variable {C : Addr} {m : Str} {sp : Sp} {dvs : List V} {E : XK} {ta : TE} {tas : TA} {σ : L2.St} {H : Hp} {Q : VK} {a dx b dy C' : Addr} {fs gs : List (Str × V)} {B : Prop} {K : PySem.W.Frag} {y : V}
theorem x_methG (q : ta σ H fun x H1 => gMeth C m x H1 (tas σ H1 fun vs H2 => sp (x :: (vs ++ dvs)) H2 Q E)) : tMeth C m sp dvs E ta tas σ H Q := q
theorem x_gMeth (h : H a = some (.ins C dx fs)) (e : fs.lookup m = none) (q : B) : gMeth C m (.ref a) H B := ⟨a, dx, fs, rfl, h, e, q⟩
theorem x_ownLen (h : H a = some (.ins C dx fs)) (q : sp [.ref a] H (fun r H' => ∃ n : Int, r = .int n ∧ (0 ≤ n ∧ n < 2 ^ 63) ∧ Q (.int n) H') E0) : rOwnLen C sp [.ref a] H Q := ⟨a, dx, fs, rfl, h, q⟩
theorem x_own (h : H a = some (.ins C dx fs)) (q : sp [.ref a, y] H Q E0) : rOwn C sp (.ref a) y H Q := ⟨a, dx, fs, rfl, h, q⟩
theorem x_ownC (h : H a = some (.ins C dx fs)) (h2 : H b = some (.ins C dy gs)) (q : sp [.ref a, .ref b] H Q E0) : rOwnC K C sp (.ref a) (.ref b) H Q := ⟨a, dx, fs, b, C, dy, gs, rfl, rfl, h, h2, nf_self, q⟩
theorem x_ownB (h : H a = some (.ins C dx fs)) (h2 : H b = some (.ins C dy gs)) (q : sp [.ref a, .ref b] H Q E0) : rOwnB C sp (.ref a) (.ref b) H Q := ⟨a, dx, fs, b, dy, gs, rfl, rfl, h, h2, q⟩
theorem x_ownIn (h : H a = some (.ins C dx fs)) (q : sp [.ref a, y] H (fun r H' => ∃ b, r = .bl b ∧ Q (.bl b) H') E0) : rOwnIn C sp false y (.ref a) H Q := ⟨a, dx, fs, rfl, h, q⟩
theorem x_ownNin (h : H a = some (.ins C dx fs)) (q : sp [.ref a, y] H (fun r H' => ∃ b, r = .bl b ∧ Q (.bl (!b)) H') E0) : rOwnIn C sp true y (.ref a) H Q := ⟨a, dx, fs, rfl, h, q⟩
end
end M
namespace M
open PySem PySem.Spec PyProof.Rows L2
theorem bmK {X : Cx} {K : PySem.W.Frag} {e : Expr} {T : String} {r : V → List V → Hp → VK → Prop} {to : TE} {t : TA} (hk : X.K = K) (h : PE X e (tBM X.K T r to t)) : PE X e (tBM K T r to t) := by subst hk; exact h
theorem bm0K {X : Cx} {K : PySem.W.Frag} {e : Expr} {T : String} {r : V → List V → Hp → VK → Prop} {to : TE} (hk : X.K = K) (h : PE X e (tBM0 X.K T r to)) : PE X e (tBM0 K T r to) := by subst hk; exact h
def gTy (K : PySem.W.Frag) (T : String) (x : V) (H : Hp) (P : Prop) : Prop := tyV K T x H ∧ P
section
variable {K : PySem.W.Frag} {T : String} {σ : L2.St} {H : Hp} {Q : VK} {ta : TE} {tas : TA} {r : V → List V → Hp → VK → Prop} {p : Addr} {xs : List V} {B : Prop} {z : Str}
theorem x_bmG (q : ta σ H fun x H1 => gTy K T x H1 (tas σ H1 fun xs H2 => r x xs H2 Q)) : tBM K T r ta tas σ H Q := q
theorem x_bm0G (q : ta σ H fun x H1 => gTy K T x H1 (r x [] H1 Q)) : tBM0 K T r ta σ H Q := q
theorem x_gTyL (h : SqL K H p xs) (q : B) : gTy K "list" (.ref p) H B := ⟨ty_l h, q⟩
theorem x_gTyS (q : B) : gTy K "str" (.str z) H B := ⟨rfl, q⟩
end
end M
namespace M
open PySem PySem.Spec PyProof.Rows L2
theorem opCK {X : Cx} {K : PySem.W.Frag} {f : Value → Value → Sem Value} {C : Addr} {sp : Sp} (hk : X.K = K) (h : OpR X f (rOwnC X.K C sp)) : OpR X f (rOwnC K C sp) := by subst hk; exact h
end M
namespace M
open L2
/-- the same, hidden from the search -/
def Sm (H H' : Hp) : Prop := Same H H'
end M
namespace M
open PySem L2
def gMake (C : Addr) (sp : Sp) (dvs : List V) (E : XK) (vs : List V) (H : Hp) (Q : VK) : Prop := ∀ x dx, H x = none → H dx = none → dx ≠ x → sp (.ref x :: (vs ++ dvs)) (upd (upd H dx (.own x)) x (.ins C dx [])) (fun v H2 => v = .non ∧ Q (.ref x) H2) E
theorem x_makeG {C : Addr} {sp : Sp} {dvs : List V} {E : XK} {tas : TA} {σ : L2.St} {H : Hp} {Q : VK} (q : tas σ H fun vs H1 => gMake C sp dvs E vs H1 Q) : tMake C sp dvs E tas σ H Q := q
end M
namespace M
open PySem PySem.Spec PyProof.Rows L2
section
variable {X : Cx} {K : PySem.W.Frag}
def nCatS (K : PySem.W.Frag) : R2 := fun x y H Q => ∃ l b xs zs, x = .ref l ∧ y = .ref b ∧ SqL K H l xs ∧ SqL K H b zs ∧ xs.length + zs.length ≤ sizeLine ∧ nw H (.lst (xs ++ zs)) Q
theorem op_catS0 : OpR X (binaryOp .Add) (nCatS X.K) := by
  intro pins s σ H x y v u Q I rx ry h
  obtain ⟨l, b, xs, zs, rfl, rfl, hH, hB, hz, q⟩ := h
  cases rx
  cases ry
  obtain ⟨its, r, h1, z1⟩ := I.list hH
  obtain ⟨its2, r2, h2, z2⟩ := I.list hB
  obtain ⟨⟨cA, dA, tA, sA⟩, oA, eA, n, fA⟩ := id h1.isList
  obtain ⟨⟨cB, dB, tB, sB⟩, oB, eB, n2, fB⟩ := id h2.isList
  simp only at eA fA eB fB
  subst eA fA eB fB
  have hs : its.toArray.size + its2.toArray.size ≤ sizeLine := by rw [List.size_toArray, List.size_toArray, ← r.length, ← r2.length]; exact hz
  refine concat_meets ⟨_, oA, rfl⟩ ⟨_, oB, rfl⟩ noFill_list_add seq_list_add PySem.F.slot_list_add PySem.F.entry_list_add (PySem.F.args_list_add_2 _ _)
    (list_addW l b its.toArray its2.toArray n n2 dA dB sA sB hs) ⟨oA, oB, ?_⟩
  rw [show its.toArray ++ its2.toArray = (its ++ its2).toArray by simp]
  refine ⟨.ref _, _, I.lnew (t' := s.toks) (r.append r2) (by rw [List.length_append]; exact hz), rfl, ?_⟩
  exact nw_upd q _ I.fresh
theorem op_catS (h : X.K = K) : OpR X (binaryOp .Add) (nCatS K) := by subst h; exact op_catS0
theorem x_catS {H : Hp} {Q : VK} {l b : Addr} {xs zs : List V} (h1 : SqL K H l xs) (h2 : SqL K H b zs) (h3 : xs.length + zs.length ≤ 1000) (q : nw H (.lst (xs ++ zs)) Q) : nCatS K (.ref l) (.ref b) H Q := ⟨l, b, xs, zs, rfl, rfl, h1, h2, Nat.le_of_lt (small1000 (by omega)), q⟩
end
end M
namespace M
open PySem PySem.Spec PyProof.Rows L2
theorem Same.chg {H0 H1 H2 : Hp} {p : Addr} (s : Same H0 H1) (n : H0 p = none) (c : Chg [p] H1 H2) : Same H0 H2 := fun u o e => c u o (ni1 (ne_of_none e n)) (s u o e)
theorem x_cut {t u : TS} {D : Ends} {σ : L2.St} {H : Hp} (Mid : L2.St → Hp → Prop) (a : t { D with nx := Mid } σ H) (b : ∀ σ' H', Mid σ' H' → u D σ' H') : Evl.tCut t u D σ H := ⟨Mid, a, b⟩
end M
namespace M
open PySem PySem.Spec PyProof.Rows L2
theorem InitOk.mono {P : Program} {w : World} {K : PySem.W.Frag} {mg : Str → Option Value} {base : Heap} {x : Str} {C : Addr} {j k : Nat} {ps : List Str} {sp : Sp} (D : InitOk P w K mg base x C j ps sp) (h : j ≤ k) : InitOk P w K mg base x C k ps sp :=
  ⟨D.cls, D.gl, D.mks, D.kp, let ⟨f, fd, F, r⟩ := D.ex; ⟨f, fd, F.mono h, r⟩⟩
theorem Init0.mono {P : Program} {w : World} {K : PySem.W.Frag} {mg : Str → Option Value} {base : Heap} {x : Str} {C : Addr} {j k : Nat} {ps : List Str} {sp : Sp} (D : Init0 P w K mg base x C j ps sp) (h : j ≤ k) : Init0 P w K mg base x C k ps sp :=
  ⟨D.gl, D.mks, D.kp, let ⟨f, fd, F, r⟩ := D.ex; ⟨f, fd, F.mono h, r⟩⟩
/-- a written pair -/
theorem sqt_pair {K : PySem.W.Frag} {a : Addr} {x y : V} {u v : Value} {d : Option Addr} {n : Nat} {sl : Array (Option Value)} (h : K.lookup a = some ⟨.type "tuple", d, .seq #[u, v] n, sl⟩) (r1 : RelV x u) (r2 : RelV y v) (H : Hp) : SqT K H a [x, y] :=
  .inr ⟨_, #[u, v], n, h, rfl, rfl, by show 2 ≤ sizeLine; decide, .cons r1 (.cons r2 .nil)⟩
end M
namespace M
theorem me_self {K : PySem.W.Frag} {C : PySem.Addr} : PySem.W.kitOne K (.ref C) (.ref C) = some true := by
  unfold PySem.W.kitOne
  rw [if_pos (show (PySem.Value.ref C == PySem.Value.ref C) = true from beq_self_eq_true _)]
end M
namespace PySem.W
open PySem PySem.Spec PyProof.Rows
section
variable {prog : Program} {w : World} {A : Around} {E : Value → Shared → Prop} {s : Shared} {K : Frag} {x C C' L f : Addr} {h₀ : Heap} {m : Str → Option Value} {ox : Obj} {od : Option Obj} {nm : String}
theorem my_fillsN {M : Model} {h : Heap} {cd : ClassData} (X : K.In h) (hcl : clsIn K C' = some cd) (hmr : cd.mro = [.ref C', .type "object"]) (h1 : findIn K (.ref C') (PySem.dunder nm) = some none) (h2 : findIn K (.ref C') (dunderR nm) = some none)
    (h3 : findIn K (.type "object") (PySem.dunder nm) = some none) (h4 : findIn K (.type "object") (dunderR nm) = some none) : Looks M h (fillsNumberSlot (.ref C') nm) false := by
  intro A Q E s k q
  obtain ⟨hh, g, d, tt, os⟩ := s
  have Y : K.In hh := X.keeps k
  have la : Looks M hh (typeLookup (.ref C') (PySem.dunder nm)) none := looks_findIn Y h1
  have lb : Looks M hh (typeLookup (.ref C') (dunderR nm)) none := looks_findIn Y h2
  have lc : Looks M hh (typeLookup (.type "object") (PySem.dunder nm)) none := looks_findIn Y h3
  have ld : Looks M hh (typeLookup (.type "object") (dunderR nm)) none := looks_findIn Y h4
  have lm : Looks M hh (classData C') cd := looks_clsIn Y hcl
  unfold fillsNumberSlot
  refine wpAny_bind (lm.andThen (f := fun c => pure c.mro) .now _ _ _ _ (fun _ _ e => e) ?_)
  rw [hmr]
  simp only [List.anyM_cons, List.anyM_nil]
  repeat lk
  exact q
theorem my_binO {op : Operator} {b : Value} {Q : Value → Shared → Prop} (F : Fr h₀ L s.heap m) (X₀ : K.In h₀) (I : InstAt s.heap x ox C od) (hb : Looks (model prog w) s.heap (typeOf b) (.ref C')) (hn : C ≠ C') (hc : selfFirst K C = true)
    (hs : findIn K (.ref C) (PySem.dunder op.info.2) = some (some (.ref f))) (hf : isFn K (.ref f) = true)
    (h1 : findIn K (.ref C') (PySem.dunder op.info.2) = some none) (h2 : findIn K (.ref C') (dunderR op.info.2) = some none)
    {cd' : ClassData} (hcl : clsIn K C' = some cd') (hmr : cd'.mro = [.ref C', .type "object"]) (h3 : findIn K (.type "object") (PySem.dunder op.info.2) = some none) (h4 : findIn K (.type "object") (dunderR op.info.2) = some none)
    (h : wpAny (model prog w) A (call (.ref f) [.ref x, b]) (CmpBack Q) E s) : wpAny (model prog w) A (binaryOp op (.ref x) b) Q E s := by
  have Y := X₀.keeps F.keep
  obtain ⟨cd, rest, hcd, hm⟩ := ksp_first hc
  rcases hi : op.info with ⟨sy, n2⟩
  rw [hi] at hs h1 h2 h3 h4
  dsimp only at hs h1 h2 h3 h4
  have go := ksp_try Y I hs hf h
  obtain ⟨hh, g, d, tt, os⟩ := s
  have l1 : Looks (model prog w) hh (typeOf (.ref x)) (.ref C) := I.type
  have l3 : Looks (model prog w) hh (fillsNumberSlot (.ref C) n2) true := fills_K Y hcd hm hs
  have l4 : Looks (model prog w) hh (fillsNumberSlot (.ref C') n2) false := my_fillsN Y hcl hmr h1 h2 h3 h4
  have ne : (Value.ref C == Value.ref C') = false := Bool.eq_false_iff.mpr fun q => hn (by have := beq_iff_eq.mp q; cases this; rfl)
  simp only [binaryOp, hi]
  refine wpAny_holding (wpAny_bind ?_)
  unfold binaryOp1
  refine wpAny_bind (l1.at (wpAny_bind (hb.at (wpAny_bind (l3.at ?_)))))
  simp only [ne, Bool.false_eq_true, if_false]
  ksp_lk
  refine wpAny_mono go (fun r s' hr => ?_) fun _ _ e => e
  obtain ⟨v, rfl, hq⟩ := hr
  ksp_lk
  exact hq
end
end PySem.W
namespace M
open PySem PySem.Spec PyProof.Rows L2
/-- the own class at C has no such operator -/
structure NoOp (K : PySem.W.Frag) (C : Addr) (nm rn : Str) : Prop where
  h1 : PySem.W.findIn K (.ref C) nm = some none
  h2 : PySem.W.findIn K (.ref C) rn = some none
  h3 : PySem.W.findIn K (.type "object") nm = some none
  h4 : PySem.W.findIn K (.type "object") rn = some none
  cl : ∃ cd, PySem.W.clsIn K C = some cd ∧ cd.mro = [.ref C, .type "object"]
section
variable {X : Cx} {k : Nat} {C C' : Addr} {ps : List Str} {sp : Sp} {rn : Str}
def rOwn2 (C C' : Addr) (sp : Sp) : R2 := fun x y H Q => ∃ a dx fs b dy gs, x = .ref a ∧ y = .ref b ∧ H a = some (.ins C dx fs) ∧ H b = some (.ins C' dy gs) ∧ sp [x, y] H Q E0
theorem op_bin2 {op : Operator} {nm : Str} (D : MethOk X.prog X.w X.K X.mg X.base C k nm ps sp) (hc : PySem.W.selfFirst X.K C = true) (N : NoOp X.K C' nm rn) (hn : C ≠ C') (hr : Room k X.A) (hnm : PySem.dunder op.info.2 = nm := by rfl) (hrn : dunderR op.info.2 = rn := by rfl) : OpR X (binaryOp op) (rOwn2 C C' sp) := by
  intro pins s σ H x y v u Q I rx ry h
  obtain ⟨f, fd, F, hf, hi, kp, fi, bd⟩ := D.ex
  obtain ⟨a, dx, fs, b, dy, gs, rfl, rfl, ha, hb, q⟩ := h
  cases (show v = Value.ref a from rx)
  cases (show u = Value.ref b from ry)
  obtain ⟨ox, od, J, _⟩ := inst_at I ha
  obtain ⟨ox', od', J', _⟩ := inst_at I hb
  obtain ⟨m, hF⟩ := I.fr
  obtain ⟨cd, hcl, hmr⟩ := N.cl
  refine PySem.W.my_binO hF I.ok.mod.kin J J'.type hn hc (by rw [hnm]; exact hf) hi (by rw [hnm]; exact N.h1) (by rw [hrn]; exact N.h2) hcl hmr (by rw [hnm]; exact N.h3) (by rw [hrn]; exact N.h4) ?_
  refine thn (run_at (us := [.ref a, .ref b]) (vs := [.ref a, .ref b]) (fnok_raw F bd) hr I (.cons rfl (.cons rfl .nil)) q) fun w s' z => ?_
  obtain ⟨z', H', I', rz, qz⟩ := z
  exact cmpback rz ⟨z', H', I', rz, qz⟩
theorem x_own2 {H : Hp} {Q : VK} {a b dx dy : Addr} {fs gs : List (Str × V)} (h : H a = some (.ins C dx fs)) (h2 : H b = some (.ins C' dy gs)) (q : sp [.ref a, .ref b] H Q E0) : rOwn2 C C' sp (.ref a) (.ref b) H Q := ⟨a, dx, fs, b, dy, gs, rfl, rfl, h, h2, q⟩
end
end M
namespace M
open PySem PySem.Spec PyProof.Rows L2
def gFS (K : PySem.W.Frag) (f : Str) (y x : V) (H : Hp) (P : Hp → Prop) : Prop := ∃ a C dx fs, x = .ref a ∧ H a = some (.ins C dx fs) ∧ Cls K C ∧ NoAttr K C f ∧ fs.length < 1000 ∧ P (upd H a (.ins C dx (putF f y fs)))
theorem x_sFld {K : PySem.W.Frag} {ta tv : TE} {f : Str} {D : Ends} {σ : L2.St} {H : Hp} (q : tv σ H fun y H1 => ta σ H1 fun x H2 => gFS K f y x H2 (D.nx σ)) : sFld K ta tv f D σ H := q
end M
namespace M
open PySem PySem.Spec PyProof.Rows L2
theorem op_mulOk {X : Cx} : OpR X (binaryOp .Mult) (rI IntMulOk fun i j => .int (i * j)) := opI fun _ _ _ _ _ _ _ hc q => mul_int q hc
def gInt1 : List V → Hp → VK → Prop := fun xs H Q => (∃ i, xs = [.int i] ∧ Q (.int i) H) ∨ ∃ k, xs = [.bl k] ∧ Q (.int (if k then 1 else 0)) H
theorem call_int1N {X : Cx} : CallR X (.type "int") gInt1 := call_int1
theorem x_intI {H : Hp} {Q : VK} {i : Int} (q : Q (.int i) H) : gInt1 [.int i] H Q := .inl ⟨i, rfl, q⟩
theorem x_intB {H : Hp} {Q : VK} {k : Bool} (q : Q (.int (if k then 1 else 0)) H) : gInt1 [.bl k] H Q := .inr ⟨k, rfl, q⟩
theorem mul01 {i : Int} {k : Bool} : IntMulOk i (if k then 1 else 0) := IntMulOk.of_right (by cases k <;> decide +kernel)
theorem x_mul01 {f : Int → Int → V} {i : Int} {k : Bool} {H : Hp} {Q : VK} (q : Q (f i (if k then 1 else 0)) H) : rI IntMulOk f (.int i) (.int (if k then 1 else 0)) H Q := ⟨_, _, rfl, rfl, mul01, q⟩
end M
namespace M
open PySem PySem.Spec PyProof.Rows L2
section
variable {X : Cx} {k : Nat} {C : Addr} {ps : List Str} {sp : Sp} {fe e : Expr} {es : List Expr} {pos : Pos} {tf : TE} {t : TA}
theorem pe_callI (hf : PE X fe tf) (D : MethOk X.prog X.w X.K X.mg X.base C k "__call__" ps sp) (hr : Room k X.A) (ha : PA X (e :: es) t)
    (ht : eval (.Call fe (e :: es) [] pos) X.env = (do callWith pos (← eval fe X.env) [] (backTo pos (starEach (e :: es) X.env)) (backToKw pos (keywordEach [] X.env))) := by rfl)
    (hst : starEach (e :: es) X.env = (false, eval e X.env) :: starEach es X.env := by rfl) (hpl : (backTo pos (starEach es X.env)).any (·.1) = false := by rfl) : PE X (.Call fe (e :: es) [] pos) (StX.tCallO X C sp E0 tf t) := by
  obtain ⟨f, fd, F, hf', hi, kp, fi, b⟩ := D.ex
  exact StX.pe_callO hf ⟨hf', hi, fi⟩ (fnok_raw F b) hr pass0 ha (ht := ht) (he := hst) (hpl := hpl)
def gCO (X : Cx) (C a : Addr) (H : Hp) (B : Prop) : Prop := StX.InsC X H a C ∧ B
theorem x_callO {E : XK} {σ : L2.St} {H : Hp} {Q : VK} (q : tf σ H fun y H1 => ∃ a, y = V.ref a ∧ t σ H1 fun vs H2 => gCO X C a H2 (sp (V.ref a :: vs) H2 Q E)) : StX.tCallO X C sp E tf t σ H Q := q
theorem x_gCO {H : Hp} {a dx : Addr} {fs : List (Str × V)} {B : Prop} (h : H a = some (.ins C dx fs)) (q : B) : gCO X C a H B := ⟨.inr ⟨dx, fs, h⟩, q⟩
theorem x_gsub {to ti : TE} {ts : TSet} {v : V} {σ : L2.St} {H : Hp} {Q : L2.St → Hp → Prop} (q : to σ H fun o H1 => ti σ H1 fun i H2 => ts o i v H2 fun H3 => Q σ H3) : gSub to ti ts v σ H Q := q
theorem x_ownSet {H : Hp} {a dx : Addr} {fs : List (Str × V)} {i v : V} {Q : Hp → Prop} (h : H a = some (.ins C dx fs)) (q : sp [.ref a, i, v] H (fun _ H' => Q H') E0) : rOwnSet C sp (.ref a) i v H Q := ⟨a, dx, fs, rfl, h, q⟩
end
end M
namespace M
open PySem PySem.Spec PyProof.Rows L2
theorem x_aug {i : Nat} {te : TE} {ti : TIp} {D : Ends} {σ : L2.St} {H : Hp} {x : V} (h : σ[i]? = some (some x)) (q : te σ H fun y H1 => ti x y H1 fun z H2 => D.nx (σ.set i (some z)) H2) : tAug i te ti D σ H := ⟨x, h, q⟩
end M
namespace M
open PySem PySem.Spec PyProof.Rows L2
theorem shaped_trip {z y : Str} (h : Sgn z) (h' : Sgn y) (n : Int) : SeqAt.shaped (.tuple [.str z, .str y, .int n]) = true := by
  have e : ∀ {z : Str}, Sgn z → (z.cps.all (· < 0x110000)) = true := fun h => by
    rw [← Array.all_toList]
    exact List.all_eq_true.mpr fun c hc => decide_eq_true (h c hc)
  unfold SeqAt.shaped
  rw [show (PyData.tuple [.str z, .str y, .int n]).canLay0 = ((z.cps.all (· < 0x110000)) && ((y.cps.all (· < 0x110000)) && (true && true))) from rfl, e h, e h']
  rfl
end M
namespace M
open PySem PySem.Spec PyProof.Rows L2
theorem revK {X : Cx} {K : PySem.W.Frag} {tg e : Expr} {ta : TA} (h : X.K = K) (p : PI X tg e (iRev X.K ta)) : PI X tg e (iRev K ta) := by subst h; exact p
def gRev (K : PySem.W.Frag) (vs : List V) (H : Hp) (R : It → Hp → Prop) : Prop := ∃ (a : Addr) (xs : List V), vs = [.ref a] ∧ SqL K H a xs ∧ R (Itv K a xs.length) H
theorem x_rev {K : PySem.W.Frag} {ta : TA} {σ : L2.St} {H : Hp} {R : It → Hp → Prop} (q : ta σ H fun vs H1 => gRev K vs H1 R) : iRev K ta σ H R := q
/-- the turns of a list from its end; i items done -/
theorem for_rv {K : PySem.W.Frag} {a : Addr} {xs : List V} {g : TG} {tb : TS} {D : Ends} {σ : L2.St} {H : Hp} (Pv : Nat → L2.St → Hp → Prop) (h0 : Pv 0 σ H) (hl : ∀ i σ H, i ≤ xs.length → Pv i σ H → SqL K H a xs)
    (hs : ∀ i x σ H, i < xs.length → xs[xs.length - 1 - i]? = some x → Pv i σ H → g x σ H fun σ2 H2 => tb { D with nx := Pv (i + 1), ct := Pv (i + 1), bk := D.nx } σ2 H2) (hd : ∀ σ H, Pv xs.length σ H → D.nx σ H) :
    ∃ W : Nat → Nat → L2.St → Hp → Prop, (∃ m, W 0 m σ H) ∧ ∀ i m σ H, W i m σ H →
      ((Itv K a xs.length).stop i H ∧ D.nx σ H) ∨ ((Itv K a xs.length).go i H ∧ ∃ N : L2.St → Hp → Prop, (∀ σ' H', N σ' H' → ∃ m', m' < m ∧ W (i + 1) m' σ' H') ∧ ∀ x H', (Itv K a xs.length).yld i H x H' → g x σ H' fun σ2 H2 => tb { D with nx := N, ct := N, bk := D.nx } σ2 H2) := by
  refine ⟨fun j m s h => m = xs.length - j ∧ j ≤ xs.length ∧ Pv j s h, ⟨xs.length, by simp, Nat.zero_le _, h0⟩, ?_⟩
  rintro j m s h ⟨rfl, hj, p⟩
  have sq := hl j s h hj p
  by_cases lt : j < xs.length
  · have ex : xs[xs.length - 1 - j]? = some (xs[xs.length - 1 - j]'(by omega)) := List.getElem?_eq_getElem _
    refine .inr ⟨⟨lt, xs, _, sq, ex⟩, Pv (j + 1), fun s' h' p' => ⟨xs.length - (j + 1), by omega, rfl, lt, p'⟩, fun x h' y => ?_⟩
    obtain ⟨e, y⟩ := y
    subst e
    exact hs j x s _ lt (y xs sq) p
  · have e : j = xs.length := by omega
    subst e
    exact .inl ⟨Nat.le_refl _, hd s h p⟩
end M
local macro_rules | `(tactic| walk_at "n0") => `(tactic| first
  | with_reducible assumption
  | (refine Ne.symm ?_; with_reducible assumption))
local macro_rules | `(tactic| walk_at "h1") => `(tactic| first
  | with_reducible assumption
  | exact M.same_at (by with_reducible assumption) (by walk_at "h1")
  | exact M.chg_at (by with_reducible assumption) (M.ni1 (by walk_at "n0")) (by walk_at "h1"))
local macro_rules | `(tactic| walk_at "ne") => `(tactic| first
  | with_reducible assumption
  | (refine Ne.symm ?_; with_reducible assumption)
  | exact M.ne_kn (by with_reducible assumption) (by walk_at "h1")
  | (refine Ne.symm ?_; exact M.ne_kn (by with_reducible assumption) (by walk_at "h1"))
  | exact L2.ne_of (by with_reducible assumption) (by walk_at "h1") (by intro z; cases z))
local macro_rules | `(tactic| walk_at "hp") => `(tactic| first
  | with_reducible assumption
  | exact M.same_at (by with_reducible assumption) (by walk_at "hp")
  | exact M.chg_at (by with_reducible assumption) (M.ni1 (by walk_at "ne")) (by walk_at "hp"))
local macro_rules | `(tactic| walk_at "sqt") => `(tactic| first
  | with_reducible assumption
  | exact M.sqt_of (by walk_at "hp")
  | exact M.Same.sqt (by with_reducible assumption) (by walk_at "sqt"))
local macro_rules | `(tactic| walk_at "sql") => `(tactic| first
  | with_reducible assumption
  | exact M.sql_of (by walk_at "hp")
  | exact L2.Same.seq (by with_reducible assumption) (by walk_at "sql"))
local macro_rules | `(tactic| walk_at "rd") => `(tactic| first
  | with_reducible assumption
  | exact M.rd_of (by walk_at "hp")
  | exact M.Same.rd (by with_reducible assumption) (by walk_at "rd"))
local macro_rules | `(tactic| walk_at "x") => `(tactic| first
  | (with_reducible apply M.x_var; with_unfolding_all exact rfl)
  | with_reducible apply M.x_c
  | with_reducible apply M.x_nil
  | with_reducible apply M.x_cons
  | with_reducible apply M.x_op
  | with_reducible apply M.x_asg
  | with_reducible apply M.x_name
  | with_reducible apply M.x_seq
  | with_reducible apply M.x_cb
  | with_reducible apply M.x_call
  | with_reducible apply M.x_test
  | with_reducible apply M.x_B
  | with_reducible apply M.x_ifs
  | with_reducible apply M.x_and
  | with_reducible apply M.x_or
  | with_reducible apply M.x_not
  | with_reducible apply M.x_andV
  | with_reducible apply M.x_orV
  | with_reducible apply M.x_notV
  | with_reducible apply M.x_if
  | with_reducible apply M.x_tup
  | with_reducible apply M.x_lst
  | with_reducible apply M.x_ret
  | with_reducible apply M.x_retN
  | with_reducible apply M.x_drop
  | with_reducible apply M.x_next
  | with_reducible apply M.x_un
  | with_reducible apply M.x_sl
  | with_reducible apply M.x_nopart
  | with_reducible apply M.x_part
  | with_reducible apply M.x_dget
  | with_reducible apply M.x_dget2
  | with_reducible apply M.x_din
  | with_reducible apply M.x_dnin
  | with_reducible apply M.x_fld
  | with_reducible apply M.x_bmG
  | with_reducible apply M.x_bm0G
  | with_reducible apply M.x_gTyS
  | with_reducible apply M.x_dnew
  | with_reducible apply M.x_lcL
  | with_reducible apply M.x_il
  | with_reducible apply M.x_rng1
  | with_reducible apply M.x_rng2
  | with_reducible apply M.x_itup
  | with_reducible apply M.x_for
  | with_reducible apply M.x_dput
  | with_reducible apply M.x_rev
  | (with_reducible apply M.x_aug; with_unfolding_all exact rfl)
  | with_reducible apply M.x_callO
  | with_reducible apply M.x_gsub
  | with_reducible apply M.x_sFld
  | with_reducible apply M.x_makeG
  | with_reducible apply M.x_methG
  | with_reducible apply M.x_I0
  | with_reducible apply M.x_U
  | with_reducible apply M.x_eqI
  | with_reducible apply M.x_eqS
  | with_reducible apply M.x_neI
  | with_reducible apply M.x_neS
  | with_reducible apply M.x_eqB
  | with_reducible apply M.x_neB
  | with_reducible apply M.x_itT
  | with_reducible apply M.x_itF
  | with_reducible apply M.x_itNT
  | with_reducible apply M.x_itNF
  | (with_reducible apply M.x_itNDT; with_unfolding_all exact rfl)
  | (with_reducible apply M.x_itDT; with_unfolding_all exact rfl)
  | with_reducible apply M.x_kb
  | with_reducible apply M.x_oN
  | with_reducible apply M.x_oS
  | with_reducible apply M.x_noN
  | with_reducible apply M.x_noS
  | with_reducible apply M.x_ki
  | with_reducible apply M.x_ks
  | with_reducible apply M.x_ka
  | with_reducible apply M.x_isiS
  | with_reducible apply M.x_intI
  | with_reducible apply M.x_intB
  | with_reducible apply M.x_mul01
  | with_reducible apply M.x_len2
  | with_reducible apply M.x_len3
  | with_reducible apply M.x_len1
  | with_reducible apply M.x_len0
  | (with_reducible apply M.x_ixT; (with_unfolding_all walk_at "sqt"); (with_unfolding_all exact rfl))
  | (with_reducible apply M.x_ixL; (with_unfolding_all walk_at "sql"); (with_unfolding_all exact rfl))
  | (with_reducible apply M.x_lenL; with_unfolding_all walk_at "sql")
  | (with_reducible apply M.x_lenT; with_unfolding_all walk_at "sqt")
  | (with_reducible apply M.x_gMeth; (with_unfolding_all walk_at "hp"); (exact M.lk0 (by decide +kernel)))
  | (with_reducible apply M.x_ownLen; with_unfolding_all walk_at "hp")
  | (with_reducible apply M.x_ownC; (with_unfolding_all walk_at "hp"); (with_unfolding_all walk_at "hp"))
  | (with_reducible apply M.x_ownB; (with_unfolding_all walk_at "hp"); (with_unfolding_all walk_at "hp"))
  | (with_reducible apply M.x_gCO; with_unfolding_all walk_at "hp")
  | (with_reducible apply M.x_ownSet; with_unfolding_all walk_at "hp")
  | (with_reducible apply M.x_own2; (with_unfolding_all walk_at "hp"); (with_unfolding_all walk_at "hp"))
  | (with_reducible apply M.x_own; with_unfolding_all walk_at "hp")
  | (with_reducible apply M.x_ownIn; with_unfolding_all walk_at "hp")
  | (with_reducible apply M.x_ownNin; with_unfolding_all walk_at "hp")
  | (with_reducible apply M.x_gTyL; with_unfolding_all walk_at "sql")
  | (with_reducible apply M.x_catS; (with_unfolding_all walk_at "sql"); (with_unfolding_all walk_at "sql"); ((try simp only [List.length_map, List.length_cons, List.length_nil, List.length_append]); omega))
  | (with_reducible apply M.x_isC; with_unfolding_all walk_at "hp")
  | (with_reducible apply M.x_isiL; with_unfolding_all walk_at "hp")
  | (with_reducible apply M.x_isiT; with_unfolding_all walk_at "hp")
  | (with_reducible apply M.x_gt2; with_unfolding_all walk_at "sqt")
  | (with_reducible apply M.x_gt3; with_unfolding_all walk_at "sqt")
  | (with_reducible apply M.x_dict; with_unfolding_all walk_at "rd")
  | (with_reducible apply M.x_list; with_unfolding_all walk_at "sql")
  | (with_reducible apply M.x_slL; with_unfolding_all walk_at "sql")
  | (with_reducible apply M.x_gDG; (with_unfolding_all walk_at "rd"); (with_reducible assumption))
  | (with_reducible apply M.x_gIsD; with_unfolding_all walk_at "rd")
  | (with_reducible apply M.x_gD2; with_unfolding_all walk_at "rd")
  | (with_reducible apply M.x_gDI; with_unfolding_all walk_at "rd")
  | (with_reducible apply M.x_gDN; with_unfolding_all walk_at "rd")
  | (with_reducible apply M.x_gFld; (with_unfolding_all walk_at "hp"); (with_reducible assumption); (with_reducible assumption); (exact M.lk1)))
local macro_rules | `(tactic| walk_at "xs") => `(tactic| repeat walk_at "x")
namespace T
open PySem PySem.Spec PyProof.Rows L2 M
def topS (i : Nat) : Stmt := PySem.Challenge.pw_sceneskips_k04_changes_of_notes.main.body.getD i (.Pass ⟨0, 0, 0, 0⟩)
abbrev s__wall : Stmt := topS 0
theorem sc__wall : FnScope ["k"] ["k"] (defScope s__wall) := ⟨rfl, rfl, rfl, by decide +kernel, rfl, by decide +kernel, by decide +kernel⟩
abbrev s_in_order : Stmt := topS 3
theorem sc_in_order : FnScope ["names", "name"] ["names"] (defScope s_in_order) := ⟨rfl, rfl, rfl, by decide +kernel, rfl, by decide +kernel, by decide +kernel⟩
abbrev s__without_zeros : Stmt := topS 4
theorem sc__without_zeros : FnScope ["values", "name"] ["values"] (defScope s__without_zeros) := ⟨rfl, rfl, rfl, by decide +kernel, rfl, by decide +kernel, by decide +kernel⟩
abbrev s__done : Stmt := topS 5
theorem sc__done : FnScope ["k", "part"] ["k", "part"] (defScope s__done) := ⟨rfl, rfl, rfl, by decide +kernel, rfl, by decide +kernel, by decide +kernel⟩
abbrev s__changed : Stmt := topS 6
theorem sc__changed : FnScope ["values", "parts", "after", "name"] ["values", "parts"] (defScope s__changed) := ⟨rfl, rfl, rfl, by decide +kernel, rfl, by decide +kernel, by decide +kernel⟩
abbrev s__joined : Stmt := topS 7
theorem sc__joined : FnScope ["first", "second"] ["first", "second"] (defScope s__joined) := ⟨rfl, rfl, rfl, by decide +kernel, rfl, by decide +kernel, by decide +kernel⟩
abbrev s_Notes___init__ : Stmt := inClass (topS 8) 0
theorem sc_Notes___init__ : FnScope ["self", "values"] ["self", "values"] (defScope s_Notes___init__) := ⟨rfl, rfl, rfl, by decide +kernel, rfl, by decide +kernel, by decide +kernel⟩
abbrev s_Notes___getitem__ : Stmt := inClass (topS 8) 1
theorem sc_Notes___getitem__ : FnScope ["self", "at"] ["self", "at"] (defScope s_Notes___getitem__) := ⟨rfl, rfl, rfl, by decide +kernel, rfl, by decide +kernel, by decide +kernel⟩
abbrev s_Notes___setitem__ : Stmt := inClass (topS 8) 2
theorem sc_Notes___setitem__ : FnScope ["self", "at", "worth"] ["self", "at", "worth"] (defScope s_Notes___setitem__) := ⟨rfl, rfl, rfl, by decide +kernel, rfl, by decide +kernel, by decide +kernel⟩
abbrev s_Notes___iter__ : Stmt := inClass (topS 8) 3
theorem sc_Notes___iter__ : FnScope ["self"] ["self"] (defScope s_Notes___iter__) := ⟨rfl, rfl, rfl, by decide +kernel, rfl, by decide +kernel, by decide +kernel⟩
abbrev s_Notes___contains__ : Stmt := inClass (topS 8) 4
theorem sc_Notes___contains__ : FnScope ["self", "x"] ["self", "x"] (defScope s_Notes___contains__) := ⟨rfl, rfl, rfl, by decide +kernel, rfl, by decide +kernel, by decide +kernel⟩
abbrev s_Notes___len__ : Stmt := inClass (topS 8) 5
theorem sc_Notes___len__ : FnScope ["self"] ["self"] (defScope s_Notes___len__) := ⟨rfl, rfl, rfl, by decide +kernel, rfl, by decide +kernel, by decide +kernel⟩
abbrev s_Notes_pairs : Stmt := inClass (topS 8) 6
theorem sc_Notes_pairs : FnScope ["self", "name"] ["self"] (defScope s_Notes_pairs) := ⟨rfl, rfl, rfl, by decide +kernel, rfl, by decide +kernel, by decide +kernel⟩
abbrev s_Notes_copied : Stmt := inClass (topS 8) 7
theorem sc_Notes_copied : FnScope ["self"] ["self"] (defScope s_Notes_copied) := ⟨rfl, rfl, rfl, by decide +kernel, rfl, by decide +kernel, by decide +kernel⟩
abbrev s_Notes___add__ : Stmt := inClass (topS 8) 8
theorem sc_Notes___add__ : FnScope ["self", "other"] ["self", "other"] (defScope s_Notes___add__) := ⟨rfl, rfl, rfl, by decide +kernel, rfl, by decide +kernel, by decide +kernel⟩
abbrev s_Notes___iadd__ : Stmt := inClass (topS 8) 9
theorem sc_Notes___iadd__ : FnScope ["self", "other"] ["self", "other"] (defScope s_Notes___iadd__) := ⟨rfl, rfl, rfl, by decide +kernel, rfl, by decide +kernel, by decide +kernel⟩
abbrev s_Notes___eq__ : Stmt := inClass (topS 8) 10
theorem sc_Notes___eq__ : FnScope ["self", "other"] ["self", "other"] (defScope s_Notes___eq__) := ⟨rfl, rfl, rfl, by decide +kernel, rfl, by decide +kernel, by decide +kernel⟩
abbrev s_Notes___lt__ : Stmt := inClass (topS 8) 11
theorem sc_Notes___lt__ : FnScope ["self", "other"] ["self", "other"] (defScope s_Notes___lt__) := ⟨rfl, rfl, rfl, by decide +kernel, rfl, by decide +kernel, by decide +kernel⟩
abbrev s_Notes___le__ : Stmt := inClass (topS 8) 12
theorem sc_Notes___le__ : FnScope ["self", "other"] ["self", "other"] (defScope s_Notes___le__) := ⟨rfl, rfl, rfl, by decide +kernel, rfl, by decide +kernel, by decide +kernel⟩
abbrev s_Notes___gt__ : Stmt := inClass (topS 8) 13
theorem sc_Notes___gt__ : FnScope ["self", "other"] ["self", "other"] (defScope s_Notes___gt__) := ⟨rfl, rfl, rfl, by decide +kernel, rfl, by decide +kernel, by decide +kernel⟩
abbrev s_Notes___ge__ : Stmt := inClass (topS 8) 14
theorem sc_Notes___ge__ : FnScope ["self", "other"] ["self", "other"] (defScope s_Notes___ge__) := ⟨rfl, rfl, rfl, by decide +kernel, rfl, by decide +kernel, by decide +kernel⟩
abbrev s_Notes__place : Stmt := inClass (topS 8) 15
theorem sc_Notes__place : FnScope ["self", "k", "place", "name", "letter"] ["self"] (defScope s_Notes__place) := ⟨rfl, rfl, rfl, by decide +kernel, rfl, by decide +kernel, by decide +kernel⟩
abbrev s_Change___init__ : Stmt := inClass (topS 9) 0
theorem sc_Change___init__ : FnScope ["self", "parts", "given", "name"] ["self", "parts"] (defScope s_Change___init__) := ⟨rfl, rfl, rfl, by decide +kernel, rfl, by decide +kernel, by decide +kernel⟩
abbrev s_Change_parts : Stmt := inClass (topS 9) 1
theorem sc_Change_parts : FnScope ["self", "name"] ["self"] (defScope s_Change_parts) := ⟨rfl, rfl, rfl, by decide +kernel, rfl, by decide +kernel, by decide +kernel⟩
abbrev s_Change_part : Stmt := inClass (topS 9) 2
theorem sc_Change_part : FnScope ["self", "name"] ["self", "name"] (defScope s_Change_part) := ⟨rfl, rfl, rfl, by decide +kernel, rfl, by decide +kernel, by decide +kernel⟩
abbrev s_Change_then : Stmt := inClass (topS 9) 3
theorem sc_Change_then : FnScope ["self", "name", "part"] ["self", "name", "part"] (defScope s_Change_then) := ⟨rfl, rfl, rfl, by decide +kernel, rfl, by decide +kernel, by decide +kernel⟩
abbrev s_Change___len__ : Stmt := inClass (topS 9) 4
theorem sc_Change___len__ : FnScope ["self"] ["self"] (defScope s_Change___len__) := ⟨rfl, rfl, rfl, by decide +kernel, rfl, by decide +kernel, by decide +kernel⟩
abbrev s_Change___rshift__ : Stmt := inClass (topS 9) 5
theorem sc_Change___rshift__ : FnScope ["self", "other", "parts", "name"] ["self", "other"] (defScope s_Change___rshift__) := ⟨rfl, rfl, rfl, by decide +kernel, rfl, by decide +kernel, by decide +kernel⟩
abbrev s_Change___call__ : Stmt := inClass (topS 9) 6
theorem sc_Change___call__ : FnScope ["self", "notes"] ["self", "notes"] (defScope s_Change___call__) := ⟨rfl, rfl, rfl, by decide +kernel, rfl, by decide +kernel, by decide +kernel⟩
abbrev s_Change___eq__ : Stmt := inClass (topS 9) 7
theorem sc_Change___eq__ : FnScope ["self", "other"] ["self", "other"] (defScope s_Change___eq__) := ⟨rfl, rfl, rfl, by decide +kernel, rfl, by decide +kernel, by decide +kernel⟩
abbrev s__law_pool : Stmt := topS 11
theorem sc__law_pool : FnScope ["cell", "seed", "one", "two", "three", "four"] ["cell"] (defScope s__law_pool) := ⟨rfl, rfl, rfl, by decide +kernel, rfl, by decide +kernel, by decide +kernel⟩
abbrev s__law_draw : Stmt := topS 12
theorem sc__law_draw : FnScope ["pool", "many", "drawn"] ["pool", "many"] (defScope s__law_draw) := ⟨rfl, rfl, rfl, by decide +kernel, rfl, by decide +kernel, by decide +kernel⟩
abbrev s__law_names : Stmt := topS 13
theorem sc__law_names : FnScope ["pool", "many", "names", "k", "way", "size", "name", "j"] ["pool", "many"] (defScope s__law_names) := ⟨rfl, rfl, rfl, by decide +kernel, rfl, by decide +kernel, by decide +kernel⟩
abbrev s__law_integer : Stmt := topS 14
theorem sc__law_integer : FnScope ["pool", "way", "sign"] ["pool"] (defScope s__law_integer) := ⟨rfl, rfl, rfl, by decide +kernel, rfl, by decide +kernel, by decide +kernel⟩
abbrev s__law_is_integer : Stmt := topS 15
theorem sc__law_is_integer : FnScope ["found"] ["found"] (defScope s__law_is_integer) := ⟨rfl, rfl, rfl, by decide +kernel, rfl, by decide +kernel, by decide +kernel⟩
abbrev s__law_pairs : Stmt := topS 16
theorem sc__law_pairs : FnScope ["values", "name", "n"] ["values"] (defScope s__law_pairs) := ⟨rfl, rfl, rfl, by decide +kernel, rfl, by decide +kernel, by decide +kernel⟩
abbrev s__law_same_pairs : Stmt := topS 17
theorem sc__law_same_pairs : FnScope ["found", "due", "k", "pair"] ["found", "due"] (defScope s__law_same_pairs) := ⟨rfl, rfl, rfl, by decide +kernel, rfl, by decide +kernel, by decide +kernel⟩
abbrev s__law_parts : Stmt := topS 18
theorem sc__law_parts : FnScope ["pool", "names", "many", "parts", "k", "name", "kind"] ["pool", "names", "many"] (defScope s__law_parts) := ⟨rfl, rfl, rfl, by decide +kernel, rfl, by decide +kernel, by decide +kernel⟩
abbrev s__law_changed : Stmt := topS 19
theorem sc__law_changed : FnScope ["values", "parts", "after", "name", "kind", "k"] ["values", "parts"] (defScope s__law_changed) := ⟨rfl, rfl, rfl, by decide +kernel, rfl, by decide +kernel, by decide +kernel⟩
abbrev s__law_right : Stmt := topS 20
theorem sc__law_right : FnScope ["notes", "values", "names", "due", "name", "found"] ["notes", "values", "names"] (defScope s__law_right) := ⟨rfl, rfl, rfl, by decide +kernel, rfl, by decide +kernel, by decide +kernel⟩
abbrev s__law_new_notes : Stmt := topS 21
theorem sc__law_new_notes : FnScope ["change", "values", "due", "names", "order", "name", "notes", "called", "added", "again"] ["change", "values", "due", "names", "order", "name"] (defScope s__law_new_notes) := ⟨rfl, rfl, rfl, by decide +kernel, rfl, by decide +kernel, by decide +kernel⟩
abbrev s__law_in_place : Stmt := topS 22
theorem sc__law_in_place : FnScope ["change", "values", "due", "twice", "names", "notes", "beside", "alias", "added"] ["change", "values", "due", "twice", "names"] (defScope s__law_in_place) := ⟨rfl, rfl, rfl, by decide +kernel, rfl, by decide +kernel, by decide +kernel⟩
abbrev s_law : Stmt := topS 23
theorem sc_law : FnScope ["script", "cell", "pool", "many", "held", "at", "order", "back", "names", "parts", "values", "k", "due", "passed", "change", "kept"] ["script"] (defScope s_law) := ⟨rfl, rfl, rfl, by decide +kernel, rfl, by decide +kernel, by decide +kernel⟩
structure Txt (K : PySem.W.Frag) (mg : Str → Option Value) (CN CC CP CS aNP aNL : Addr) : Prop where
  z_abs : mg "abs" = none
  z_bool : mg "bool" = none
  z_dict : mg "dict" = none
  z_int : mg "int" = none
  z_isinstance : mg "isinstance" = none
  z_len : mg "len" = none
  z_list : mg "list" = none
  z_ord : mg "ord" = none
  z_range : mg "range" = none
  z_sorted : mg "sorted" = none
  z_str : mg "str" = none
  z_sum : mg "sum" = none
  z_tuple : mg "tuple" = none
  c_Notes : Cls K CN
  g_Notes : mg "Notes" = some (.ref CN)
  q_Notes : PySem.W.noSeq K CN = true
  sf_Notes : PySem.W.selfFirst K CN = true
  i_Notes : C8.InsC K CN
  n_Notes__values : NoAttr K CN "_values"
  c_Change : Cls K CC
  g_Change : mg "Change" = some (.ref CC)
  q_Change : PySem.W.noSeq K CC = true
  sf_Change : PySem.W.selfFirst K CC = true
  i_Change : C8.InsC K CC
  n_Change__parts : NoAttr K CC "_parts"
  no_Change___add__ : NoOp K CC "__add__" "__radd__"
  d_Notes_Change : CN ≠ CC
  g_NO_PART : mg "NO_PART" = some (.ref aNP)
  t_NO_PART : ∀ H, SqT K H aNP [.str "add", .int 0]
end T
namespace T
open PySem PySem.Spec PyProof.Rows L2 M
theorem sk_keysV : ∀ l : List (Str × V), ((sk l).map fun kv => kV kv.1) = (l.map (·.1)).map V.str := fun l => by
  unfold sk
  rw [List.map_map, List.map_map]
  rfl
section
variable {P : Program} {w : World} {K : PySem.W.Frag} {mg : Str → Option Value} {base : Heap} {CN CC CP CS aNP aNL : Addr}
def spInOrder (K : PySem.W.Frag) : Sp := fun vs H Q _ => ∃ (a : Addr) (l : List (Str × V)), vs = [.ref a] ∧ H a = some (.dK (sk l)) ∧ l.length < 64 ∧ (l.map (·.1)).Nodup ∧
  ∀ p H' ys, H p = none → Same H H' → Rise ys → (∀ z, z ∈ ys ↔ z ∈ l.map (·.1)) → ys.length = l.length → H' p = some (.lst (ys.map V.str)) → Q (.ref p) H'
theorem ok_in_order {f : Addr} {fd : FuncData} {k : Nat} (F : Fun2 K "in_order" "in_order" s_in_order f fd) (T : Txt K mg CN CC CP CS aNP aNL) : FnOk P w K mg base CX0 (k + 1) f fd ["names"] (spInOrder K) := by
  refine F.ok sc_in_order (fun vs H Q E h => ?_) (fun cdv A outer s H vs Q E hr h => ?_)
  · obtain ⟨a, l, rfl, _⟩ := h
    rfl
  · obtain ⟨a, l, rfl, ha, hl, hn, q⟩ := h
    refine ⟨_, (pss_cons (ps_if (pt_cmpR op_lt (pe_callB call_lenD (by rfl) T.z_len (by decide +kernel) (pa_cons (pv 0) pa_nil)) pe_int (nomark _))
        (pss_one (ps_ret (pe_callTy (call_list_dK rfl) (by rfl) T.z_list (by decide +kernel) (pa_cons (pv 0) pa_nil))))
        pss_nil)
      (pss_one (ps_ret (pe_callB (sortSK (K := K) rfl) (by rfl) T.z_sorted (by decide +kernel) (pa_cons (pe_lock (pe_lc (own := [("name", 1)]) (g := gName 1) (tt := tYes) rfl sc_in_order.nd (pi_keys (pv 0)) (blkOk_by (own := [("name", 1)]) (N := ["names", "name"]) (sc := defScope s_in_order) (by decide +kernel)) (fun _ _ _ _ _ => pg_name (i := 1) sc_in_order.nd rfl (Or.inl rfl)) (fun _ _ _ _ _ => pts_nil) (fun _ _ _ _ _ => (pe_callTy SkE.call_str_str (by rfl) T.z_str (by decide +kernel) (pa_cons (pv 1) pa_nil))))) pa_nil))))), ?_⟩
    refine ⟨_, rfl, a, sk l, rfl, ha, _, _, rfl, rfl, _, rfl, ite2 (fun hlt => ?_) (fun _ => ?_)⟩
    · have hlt := of_decide_eq_true hlt
      rw [sk_len] at hlt
      refine ⟨_, rfl, a, sk l, rfl, ha, fun p np => q p _ (l.map (·.1)) np (same_new np) ?_ (fun z => Iff.rfl) (List.length_map ..) ?_⟩
      · match l, hlt with
        | [], _ => exact .nil
        | [x], _ => exact List.pairwise_singleton ..
        | x :: y :: r, h => rw [List.length_cons, List.length_cons] at h; omega
      · rw [upd_same, sk_keysV]
    refine ⟨a, .dK (sk l), ha, True.intro, fun od => ?_⟩
    refine ⟨.ref a, rfl, a, od, rfl, .inl ⟨sk l, upd_same, fun D nD => ?_⟩⟩
    have nDa : D ≠ a := fun e => by rw [e, upd_same] at nD; cases nD
    have nH : H D = none := by rw [upd_ne nDa] at nD; exact nD
    refine lc_keys (fun i H' => H' = upd (upd H a (.frz od (.dK (sk l)))) D (.lst ((l.take i).map fun p => V.str p.1))) rfl (fun i H' _ e => by rw [e, upd_ne nDa.symm, upd_same]) (fun i k v H' hk e => ?_) (fun H' e => ?_)
    · obtain ⟨z, rfl, hz⟩ := sk_get hk
      have hlt : i < l.length := (List.getElem?_eq_some_iff.mp hz).1
      subst e
      refine ⟨rfl, _, rfl, _, rfl, _, upd_same, ?_, ?_⟩
      · rw [List.length_map, List.length_take]
        exact Nat.lt_of_le_of_lt (Nat.min_le_right ..) (small1000 (by omega))
      · rw [upd_upd, List.take_add_one, hz, List.map_append]
        rfl
    · subst e
      rw [sk_len, List.take_length]
      refine ⟨by rw [upd_ne nDa.symm, upd_same], ?_⟩
      have hD : (upd (upd (upd H a (.frz od (.dK (sk l)))) D (.lst (l.map fun p => V.str p.1))) a (.dK (sk l))) D = some (.lst ((l.map (·.1)).map V.str)) := by
        rw [upd_ne nDa, upd_same, List.map_map]
        rfl
      refine ⟨D, l.map (·.1), rfl, .inl (.inl hD), by rw [List.length_map]; exact hl, fun ys p hp hs np => ?_⟩
      refine q p _ ys ?_ ?_ (rise_of ys hs (hp.nodup_iff.mpr hn)) (fun z => hp.mem_iff) (by rw [hp.length_eq, List.length_map]) upd_same
      · have n1 : p ≠ a := fun e => by rw [e, upd_same] at np; cases np
        have n2 : p ≠ D := fun e => by rw [e, upd_ne nDa, upd_same] at np; cases np
        rw [upd_ne n1, upd_ne n2, upd_ne n1] at np
        exact np
      · intro b o e
        rw [upd_ne (ne_of_none (o := o) (by
          by_cases hb : b = a
          · subst hb; rw [upd_same, ← e, ha]
          · rw [upd_ne hb, upd_ne (ne_of_none e nH), upd_ne hb]; exact e) np)]
        by_cases hb : b = a
        · subst hb; rw [upd_same, ← e, ha]
        · rw [upd_ne hb, upd_ne (ne_of_none e nH), upd_ne hb]; exact e
end
end T
namespace T
open PySem PySem.Spec PyProof.Rows L2 M
section
variable {P : Program} {w : World} {K : PySem.W.Frag} {mg : Str → Option Value} {base : Heap} {CN CC CP CS aNP aNL : Addr}
def spPool : Sp := fun vs H Q _ => ∃ c : Int, vs = [.int c] ∧ ∀ p n, H p = none → Q (.ref p) (upd H p (.lst [.int n]))
theorem ok_pool {f : Addr} {fd : FuncData} {k : Nat} (F : Fun2 K "_law_pool" "_law_pool" s__law_pool f fd) (T : Txt K mg CN CC CP CS aNP aNL) : FnOk P w K mg base CX0 (k + 1) f fd ["cell"] spPool := by
  refine F.ok sc__law_pool (fun vs H Q E h => ?_) (fun cdv A outer s H vs Q E hr h => ?_)
  · obtain ⟨c, rfl, _⟩ := h
    rfl
  · obtain ⟨c, rfl, q⟩ := h
    have t18 : CPowX 10 18 := ⟨by decide, by decide +kernel⟩
    have t21 : CPowX 10 21 := ⟨by decide, by decide +kernel⟩
    have t33 : CPowX 10 33 := ⟨by decide, by decide +kernel⟩
    have t31 : CPowX 10 31 := ⟨by decide, by decide +kernel⟩
    have t29 : CPowX 10 29 := ⟨by decide, by decide +kernel⟩
    have ne18 : (10 : Int) ^ (18 : Int).toNat + 9 ≠ 0 := by decide +kernel
    have t60 : CPowX 10 60 := ⟨by decide, by decide +kernel⟩
    have n60 : Nb 200 ((10 : Int) ^ (60 : Int).toNat) := by unfold Nb; decide +kernel
    have p60 : (0 : Int) < (10 : Int) ^ (60 : Int).toNat := by decide +kernel
    have ne60 : (10 : Int) ^ (60 : Int).toNat ≠ 0 := by decide +kernel
    have md : ∀ x : Int, Nb 200 (x.fmod ((10 : Int) ^ (60 : Int).toNat)) ∧ 0 ≤ x.fmod ((10 : Int) ^ (60 : Int).toNat) := fun x => Nb.mod p60 n60
    refine ⟨_, (pss_cons (ps_if (pt_cmpR op_ge (pv 0) (pe_op op_powX pe_int pe_int) (nomark _))
        (pss_one (ps_ret (pe_lst (pa_cons (pe_op op_sub (pv 0) (pe_op op_powX pe_int pe_int)) pa_nil))))
        pss_nil)
      (pss_cons (ps_set (i := 1) sc__law_pool.nd rfl (Or.inl rfl) (pe_op op_add (pe_op op_modN (pe_callTy call_int1 (by rfl) T.z_int (by decide +kernel) (pa_cons (pv 0) pa_nil)) (pe_op op_add (pe_op op_powX pe_int pe_int) pe_int)) pe_int))
      (pss_cons (ps_set (i := 2) sc__law_pool.nd rfl (Or.inl rfl) (pe_op op_modN (pe_op op_fdivW (pe_op op_powX (pe_op op_mulX (pv 1) pe_int) pe_int) (pe_op op_powX pe_int pe_int)) (pe_op op_powX pe_int pe_int)))
      (pss_cons (ps_set (i := 3) sc__law_pool.nd rfl (Or.inl rfl) (pe_op op_modN (pe_op op_fdivW (pe_op op_powX (pe_op op_add (pv 2) (pv 1)) pe_int) (pe_op op_powX pe_int pe_int)) (pe_op op_powX pe_int pe_int)))
      (pss_cons (ps_set (i := 4) sc__law_pool.nd rfl (Or.inl rfl) (pe_op op_modN (pe_op op_fdivW (pe_op op_powX (pe_op op_add (pv 3) (pe_op op_mulX pe_int (pv 1))) pe_int) (pe_op op_powX pe_int pe_int)) (pe_op op_powX pe_int pe_int)))
      (pss_cons (ps_set (i := 5) sc__law_pool.nd rfl (Or.inl rfl) (pe_op op_modN (pe_op op_fdivW (pe_op op_powX (pe_op op_add (pv 4) (pe_op op_mulX pe_int (pv 1))) pe_int) (pe_op op_powX pe_int pe_int)) (pe_op op_powX pe_int pe_int)))
      (pss_one (ps_ret (pe_lst (pa_cons (pe_op op_add (pe_op op_mulX (pe_op op_add (pe_op op_mulX (pe_op op_add (pe_op op_mulX (pv 5) (pe_op op_powX pe_int pe_int)) (pv 4)) (pe_op op_powX pe_int pe_int)) (pv 3)) (pe_op op_powX pe_int pe_int)) (pv 2)) pa_nil)))))))))), ?_⟩
    refine ⟨_, rfl, _, _, rfl, rfl, t18, _, _, rfl, rfl, _, rfl, ite2 (fun _ => ?_) (fun _ => ?_)⟩
    · exact ⟨_, rfl, _, _, rfl, rfl, t18, _, _, rfl, rfl, by show 1 ≤ sizeLine; decide, fun p np => q p _ np⟩
    · refine nx_go ?_
      dsimp only
      refine cut_int (fun n => Nb 61 n ∧ 0 ≤ n) (fun Q h => ⟨_, rfl, .inl ⟨_, rfl, _, _, rfl, rfl, t18, _, _, rfl, rfl, _, _, rfl, rfl, ne18, _, _, rfl, rfl, h _ ?_⟩⟩) (fun sd hs => ?_)
      · have a := Nb.mod (x := c) (j := (10 : Int) ^ (18 : Int).toNat + 9) (b := 60) (by decide +kernel) (by unfold Nb; decide +kernel)
        exact ⟨a.1.add (show Nb 1 1 by unfold Nb; decide), by have := a.2; omega⟩
      · have nK : Nb 203 7240983651908273645109283746501928374650192837465019283746501 := by unfold Nb; decide +kernel
        refine cut_int (fun n => Nb 200 n ∧ 0 ≤ n) (fun Q h => ⟨_, rfl, _, _, rfl, rfl, hs.1.cmul nK (by decide), _, _, rfl, rfl, (hs.1.mul nK).cpow (by decide), _, _, rfl, rfl, t21, _, _, rfl, rfl, ⟨by decide +kernel, by decide +kernel⟩, _, _, rfl, rfl, t60, _, _, rfl, rfl, ne60, h _ (md _)⟩) (fun one h1 => ?_)
        have a1 := h1.1.add hs.1
        refine cut_int (fun n => Nb 200 n ∧ 0 ≤ n) (fun Q h => ⟨_, rfl, _, rfl, _, _, rfl, rfl, _, _, rfl, rfl, a1.cpow (by decide), _, _, rfl, rfl, t33, _, _, rfl, rfl, ⟨by decide +kernel, by decide +kernel⟩, _, _, rfl, rfl, t60, _, _, rfl, rfl, ne60, h _ (md _)⟩) (fun two h2 => ?_)
        have n3 : Nb 2 3 := by unfold Nb; decide
        have n7 : Nb 3 7 := by unfold Nb; decide
        have a2 := h2.1.add (n3.mul hs.1)
        refine cut_int (fun n => Nb 200 n ∧ 0 ≤ n) (fun Q h => ⟨_, rfl, _, rfl, _, _, rfl, rfl, n3.cmul hs.1 (by decide), _, _, rfl, rfl, _, _, rfl, rfl, a2.cpow (by decide), _, _, rfl, rfl, t31, _, _, rfl, rfl, ⟨by decide +kernel, by decide +kernel⟩, _, _, rfl, rfl, t60, _, _, rfl, rfl, ne60, h _ (md _)⟩) (fun three h3 => ?_)
        have a3 := h3.1.add (n7.mul hs.1)
        refine cut_int (fun n => Nb 200 n ∧ 0 ≤ n) (fun Q h => ⟨_, rfl, _, rfl, _, _, rfl, rfl, n7.cmul hs.1 (by decide), _, _, rfl, rfl, _, _, rfl, rfl, a3.cpow (by decide), _, _, rfl, rfl, t29, _, _, rfl, rfl, ⟨by decide +kernel, by decide +kernel⟩, _, _, rfl, rfl, t60, _, _, rfl, rfl, ne60, h _ (md _)⟩) (fun four h4 => ?_)
        have m1 := (h4.1.mul n60).add h3.1
        have m2 := (m1.mul n60).add h2.1
        exact ⟨_, rfl, _, _, rfl, rfl, t60, _, _, rfl, rfl, h4.1.cmul n60 (by decide), _, rfl, _, _, rfl, rfl, _, _, rfl, rfl, t60, _, _, rfl, rfl, m1.cmul n60 (by decide), _, rfl, _, _, rfl, rfl, _, _, rfl, rfl, t60, _, _, rfl, rfl, m2.cmul n60 (by decide), _, rfl, _, _, rfl, rfl, by show 1 ≤ sizeLine; decide, fun p np => q p _ np⟩
end
theorem x_pool {H : Hp} {Q : VK} {E : XK} {c : Int} (q : ∀ p H' n, H p = none → H' p = some (.lst [.int n]) → Same H H' → Q (.ref p) H') : spPool (([.int c] : List V) ++ []) H Q E := ⟨c, rfl, fun p n np => q p _ n np upd_same (same_new np)⟩
end T
namespace T
open PySem PySem.Spec PyProof.Rows L2 M
section
variable {P : Program} {w : World} {K : PySem.W.Frag} {mg : Str → Option Value} {base : Heap} {CN CC CP CS aNP aNL : Addr}
def spDraw : Sp := fun vs H Q _ => ∃ (a : Addr) (m n : Int), vs = [.ref a, .int m] ∧ H a = some (.lst [.int n]) ∧ 0 < m ∧ m.natAbs.log2 < 9000 ∧ ∀ d n' : Int, 0 ≤ d → d < m → Q (.int d) (upd H a (.lst [.int n']))
theorem ok_draw {f : Addr} {fd : FuncData} {k : Nat} (F : Fun2 K "_law_draw" "_law_draw" s__law_draw f fd) (T : Txt K mg CN CC CP CS aNP aNL) : FnOk P w K mg base CX0 (k + 1) f fd ["pool", "many"] spDraw := by
  refine F.ok sc__law_draw (fun vs H Q E h => ?_) (fun cdv A outer s H vs Q E hr h => ?_)
  · obtain ⟨a, m, n, rfl, _⟩ := h
    rfl
  · obtain ⟨a, m, n, rfl, ha, hm, hg, q⟩ := h
    have hs : SqL K H a [.int n] := .inl (.inl ha)
    refine ⟨_, (pss_cons (ps_set (i := 2) sc__law_draw.nd rfl (Or.inl rfl) (pe_op op_modN (pe_callTy call_int1 (by rfl) T.z_int (by decide +kernel) (pa_cons (pe_ix (ixLK (K := K) rfl) (pv 0) pe_int (fun _ _ => rfl)) pa_nil)) (pv 1)))
      (pss_cons (ps_asg (pe_op op_fdivW (pe_ix (ixLK (K := K) rfl) (pv 0) pe_int (fun _ _ => rfl)) (pv 1)) (pg_sub (pv 0) pe_int set_list))
      (pss_one (ps_ret (pv 2))))), ?_⟩
    refine ⟨_, rfl, _, _, _, _, rfl, rfl, hs, atI_nat (j := 0) rfl, .inl ⟨_, rfl, _, rfl, _, _, rfl, rfl, (by show m ≠ 0; omega), ?_⟩⟩
    refine ⟨_, rfl, _, _, _, _, rfl, rfl, hs, atI_nat (j := 0) rfl, _, rfl, _, _, rfl, rfl, ⟨hm, hg⟩, _, rfl, a, _, 0, 0, rfl, rfl, ha, rfl, ?_⟩
    exact ⟨_, rfl, q _ _ (Int.fmod_nonneg_of_pos n hm) (Int.fmod_lt_of_pos n hm)⟩
end
section
variable {H : Hp} {Q : VK} {E : XK} {a : Addr} {n m : Int}
theorem x_draw (h : H a = some (.lst [.int n])) (h0 : 0 < m) (h1 : m.natAbs.log2 < 9000) (q : ∀ d n' H', 0 ≤ d → d < m → H' a = some (.lst [.int n']) → Chg [a] H H' → Q (.int d) H') : spDraw (([.ref a, .int m] : List V) ++ []) H Q E :=
  ⟨a, m, n, rfl, h, h0, h1, fun d n' d0 d1 => q d n' _ d0 d1 upd_same (Chg.set (by simp))⟩
end
end T
namespace T
open PySem PySem.Spec PyProof.Rows L2 M
section
variable {P : Program} {w : World} {K : PySem.W.Frag} {mg : Str → Option Value} {base : Heap} {CN CC CP CS aNP aNL : Addr}
def spInteger : Sp := fun vs H Q _ => ∃ (a : Addr) (n : Int), vs = [.ref a] ∧ H a = some (.lst [.int n]) ∧ ∀ d n' : Int, Q (.int d) (upd H a (.lst [.int n']))
theorem ok_integer {f : Addr} {fd : FuncData} {k : Nat} (F : Fun2 K "_law_integer" "_law_integer" s__law_integer f fd) (T : Txt K mg CN CC CP CS aNP aNL) (D__law_draw : DefOk P w K mg base k "_law_draw" ["pool", "many"] spDraw) : FnOk P w K mg base CX0 (k + 1) f fd ["pool"] spInteger := by
  refine F.ok sc__law_integer (fun vs H Q E h => ?_) (fun cdv A outer s H vs Q E hr h => ?_)
  · obtain ⟨a, n, rfl, _⟩ := h
    rfl
  · obtain ⟨a, n, rfl, ha, q⟩ := h
    have t40 : CPowX 10 40 := ⟨by decide, by decide +kernel⟩
    have t39 : CPowX 10 39 := ⟨by decide, by decide +kernel⟩
    have g40 : (0 : Int) < (10 : Int) ^ (40 : Int).toNat - 1 ∧ ((10 : Int) ^ (40 : Int).toNat - 1).natAbs.log2 < 9000 := by decide +kernel
    have b40 : Nb 140 ((10 : Int) ^ (40 : Int).toNat - 1) := by unfold Nb; decide +kernel
    have b39 : Nb 140 ((10 : Int) ^ (39 : Int).toNat) := by unfold Nb; decide +kernel
    have nb : ∀ {j b d : Int} {n : Nat}, 0 ≤ d → d < b → Nb n b → Nb n d := fun h0 h1 h2 => by unfold Nb at *; omega
    refine ⟨_, (pss_cons (ps_set (i := 1) sc__law_integer.nd rfl (Or.inl rfl) (pe_callD D__law_draw (hr.mono (by omega)) (by rfl) (pa_cons (pv 0) (pa_cons pe_int pa_nil))))
      (pss_cons (ps_set (i := 2) sc__law_integer.nd rfl (Or.inl rfl) (pe_op op_sub pe_int (pe_op op_mulX pe_int (pe_callD D__law_draw (hr.mono (by omega)) (by rfl) (pa_cons (pv 0) (pa_cons pe_int pa_nil))))))
      (pss_cons (ps_if (pt_cmpR op_eq (pv 1) pe_int (nomark _))
        (pss_one (ps_ret pe_int))
        pss_nil)
      (pss_cons (ps_if (pt_cmpR op_eq (pv 1) pe_int (nomark _))
        (pss_one (ps_ret (pe_op op_mulX (pv 2) (pe_callD D__law_draw (hr.mono (by omega)) (by rfl) (pa_cons (pv 0) (pa_cons (pe_op op_sub (pe_op op_powX pe_int pe_int) pe_int) pa_nil))))))
        pss_nil)
      (pss_cons (ps_if (pt_cmpR op_eq (pv 1) pe_int (nomark _))
        (pss_one (ps_ret (pe_op op_mulX (pv 2) (pe_op op_add (pe_op op_powX pe_int pe_int) (pe_callD D__law_draw (hr.mono (by omega)) (by rfl) (pa_cons (pv 0) (pa_cons pe_int pa_nil)))))))
        pss_nil)
      (pss_one (ps_ret (pe_op op_mulX (pv 2) (pe_callD D__law_draw (hr.mono (by omega)) (by rfl) (pa_cons (pv 0) (pa_cons pe_int pa_nil))))))))))), ?_⟩
    refine ⟨_, rfl, a, 6, n, rfl, ha, by decide, by decide +kernel, fun way n1 w0 w6 => ?_⟩
    refine ⟨_, rfl, a, 2, n1, rfl, upd_same, by decide, by decide +kernel, fun sg n2 s0 s2 => ?_⟩
    rw [upd_upd]
    have hsg : Nb 2 (1 - 2 * sg) := by unfold Nb; omega
    refine ⟨_, _, rfl, rfl, (show Nb 2 2 by unfold Nb; decide).cmul (show Nb 2 sg by unfold Nb; omega) (by decide), _, _, rfl, rfl, ?_⟩
    have fin : ∀ d m : Int, Q (.int d) (upd (upd H a (.lst [.int n2])) a (.lst [.int m])) := fun d m => by rw [upd_upd]; exact q d m
    refine ⟨_, rfl, rfl, _, rfl, ite2 (fun _ => q 0 n2) (fun _ => ?_)⟩
    refine ⟨_, rfl, rfl, _, rfl, ite2 (fun _ => ?_) (fun _ => ?_)⟩
    · refine ⟨_, rfl, _, rfl, _, _, rfl, rfl, t40, _, _, rfl, rfl, a, _, n2, rfl, upd_same, g40.1, g40.2, fun d m d0 d1 => ?_⟩
      exact ⟨_, _, rfl, rfl, hsg.cmul (nb (j := 0) d0 d1 b40) (by decide), fin _ _⟩
    refine ⟨_, rfl, rfl, _, rfl, ite2 (fun _ => ?_) (fun _ => ?_)⟩
    · refine ⟨_, rfl, _, _, rfl, rfl, t39, _, rfl, a, _, n2, rfl, upd_same, by decide, by decide +kernel, fun d m d0 d1 => ?_⟩
      exact ⟨_, _, rfl, rfl, _, _, rfl, rfl, hsg.cmul (b39.add (nb (j := 0) d0 d1 (show Nb 3 5 by unfold Nb; decide))) (by decide), fin _ _⟩
    · refine ⟨_, rfl, _, rfl, a, _, n2, rfl, upd_same, by decide, by decide +kernel, fun d m d0 d1 => ?_⟩
      exact ⟨_, _, rfl, rfl, hsg.cmul (nb (j := 0) d0 d1 (show Nb 4 9 by unfold Nb; decide)) (by decide), fin _ _⟩
end
section
variable {H : Hp} {Q : VK} {E : XK} {a : Addr} {n m : Int}
theorem x_integer (h : H a = some (.lst [.int n])) (q : ∀ d n' H', H' a = some (.lst [.int n']) → Chg [a] H H' → Q (.int d) H') : spInteger (([.ref a] : List V) ++ []) H Q E :=
  ⟨a, n, rfl, h, fun d n' => q d n' _ upd_same (Chg.set (by simp))⟩
end
end T
namespace T
open PySem PySem.Spec PyProof.Rows L2 M
section
variable {P : Program} {w : World} {K : PySem.W.Frag} {mg : Str → Option Value} {base : Heap} {CN CC CP CS aNP aNL : Addr}
def spIsInt : Sp := fun vs H Q _ => ∃ n : Int, vs = [.int n] ∧ Q (.bl true) H
theorem ok_isint {f : Addr} {fd : FuncData} {k : Nat} (F : Fun2 K "_law_is_integer" "_law_is_integer" s__law_is_integer f fd) (T : Txt K mg CN CC CP CS aNP aNL) : FnOk P w K mg base CX0 (k + 1) f fd ["found"] spIsInt := by
  refine F.ok sc__law_is_integer (fun vs H Q E h => ?_) (fun cdv A outer s H vs Q E hr h => ?_)
  · obtain ⟨n, rfl, _⟩ := h
    rfl
  · obtain ⟨n, rfl, q⟩ := h
    refine ⟨_, (pss_one (ps_ret (pe_and (pe_callB (isiK (K := K) rfl) (by rfl) T.z_isinstance (by decide +kernel) (pa_cons (pv 0) (pa_cons (pe_bltn (v := .ty "int") (by rfl) T.z_int (by decide +kernel) rfl) pa_nil))) (pe_one (pe_not (pe_callB (isiK (K := K) rfl) (by rfl) T.z_isinstance (by decide +kernel) (pa_cons (pv 0) (pa_cons (pe_bltn (v := .ty "bool") (by rfl) T.z_bool (by decide +kernel) rfl) pa_nil)))))))), ?_⟩
    refine ⟨_, rfl, _, _, _, _, true, rfl, .ty "int", .base (.int _), kit_ty (by decide +kernel), _, rfl, ?_⟩
    rw [if_pos rfl]
    exact ⟨_, rfl, _, _, _, _, false, rfl, .ty "bool", .base (.int _), kit_ty (by decide +kernel), _, rfl, q⟩
end
theorem x_isint {H : Hp} {Q : VK} {E : XK} {n : Int} (q : Q (.bl true) H) : spIsInt (([.int n] : List V) ++ []) H Q E := ⟨n, rfl, q⟩
end T
namespace T
open PySem PySem.Spec PyProof.Rows L2 M
section
variable {P : Program} {w : World} {K : PySem.W.Frag} {mg : Str → Option Value} {base : Heap} {CN CC CP CS aNP aNL : Addr}
def spNames : Sp := fun vs H Q _ => ∃ (a : Addr) (m n : Int), vs = [.ref a, .int m] ∧ H a = some (.lst [.int n]) ∧ 0 ≤ m ∧ m ≤ 60 ∧
  ∀ p H' n' (zs : List Str), H p = none → Chg [a] H H' → H' a = some (.lst [.int n']) → H' p = some (.lst (zs.map V.str)) → zs.length = m.toNat → (∀ z ∈ zs, IsName z) → Q (.ref p) H'
theorem ok_names {f : Addr} {fd : FuncData} {k : Nat} (F : Fun2 K "_law_names" "_law_names" s__law_names f fd) (T : Txt K mg CN CC CP CS aNP aNL) (D__law_draw : DefOk P w K mg base k "_law_draw" ["pool", "many"] spDraw) : FnOk P w K mg base CX0 (k + 1) f fd ["pool", "many"] spNames := by
  refine F.ok sc__law_names (fun vs H Q E h => ?_) (fun cdv A outer s H vs Q E hr h => ?_)
  · obtain ⟨a, m, n, rfl, _⟩ := h
    rfl
  · obtain ⟨a, m, n, rfl, ha, hm0, hm, q⟩ := h
    refine ⟨_, (pss_cons (ps_set (i := 2) sc__law_names.nd rfl (Or.inl rfl) (pe_lst pa_nil))
      (pss_cons (ps_for PassesOwn.never rfl (pi_range1 rfl T.z_range (pa_cons (pv 1) pa_nil)) (pg_name (i := 3) sc__law_names.nd rfl (Or.inl rfl))
        (pss_cons (ps_set (i := 4) sc__law_names.nd rfl (Or.inl rfl) (pe_callD D__law_draw (hr.mono (by omega)) (by rfl) (pa_cons (pv 0) (pa_cons pe_int pa_nil))))
          (pss_cons (ps_set (i := 5) sc__law_names.nd rfl (Or.inl rfl) (pe_op op_add pe_int (pe_callD D__law_draw (hr.mono (by omega)) (by rfl) (pa_cons (pv 0) (pa_cons pe_int pa_nil)))))
          (pss_cons (ps_set (i := 6) sc__law_names.nd rfl (Or.inl rfl) (pe_join pe_str (pe_lc (own := [("j", 7)]) (g := gName 7) (tt := tYes) rfl sc__law_names.nd (pi_range1 rfl T.z_range (pa_cons (pv 5) pa_nil)) (blkOk_by (own := [("j", 7)]) (N := ["pool", "many", "names", "k", "way", "size", "name", "j"]) (sc := defScope s__law_names) (by decide +kernel)) (fun _ _ _ _ _ => pg_name (i := 7) sc__law_names.nd rfl (Or.inl rfl)) (fun _ _ _ _ _ => pts_nil) (fun _ _ _ _ _ => (pe_ix ix_str pe_str (pe_callD D__law_draw (hr.mono (by omega)) (by rfl) (pa_cons (pv 0) (pa_cons pe_int pa_nil))) (fun _ _ => rfl))))))
          (Evl.pss_cut (ps_if (PW.pt (pw_and (pt_cmpR op_eq (pv 4) pe_int (nomark _)) (pw_and1 (pt_cmpR op_gt (pv 3) pe_int (nomark _)))))
            (pss_one (ps_set (i := 6) sc__law_names.nd rfl (Or.inl rfl) (pe_slice sl_str (pe_op op_add_str (pe_ix (ixLK (K := K) rfl) (pv 2) (pe_op op_sub (pv 3) pe_int) (fun _ _ => rfl)) (pv 6)) po_none (po_some pe_int))))
            pss_nil)
          (Evl.pss_cut (ps_if (PW.pt (pw_and (pt_cmpR op_eq (pv 4) pe_int (nomark _)) (pw_and1 (pt_cmpR op_gt (pv 3) pe_int (nomark _)))))
            (pss_one (ps_set (i := 6) sc__law_names.nd rfl (Or.inl rfl) (pe_slice sl_str (pe_ix (ixLK (K := K) rfl) (pv 2) (pe_op op_sub (pv 3) pe_int) (fun _ _ => rfl)) po_none (po_some (pv 5)))))
            pss_nil)
          (Evl.pss_cut (ps_if (PW.pt (pw_and (pt_cmpR op_eq (pv 4) pe_int (nomark _)) (pw_and1 (pt_cmpR op_gt (pv 3) pe_int (nomark _)))))
            (pss_one (ps_set (i := 6) sc__law_names.nd rfl (Or.inl rfl) (pe_op op_add_str (pe_slice sl_str (pe_ix (ixLK (K := K) rfl) (pv 2) (pe_op op_sub (pv 3) pe_int) (fun _ _ => rfl)) po_none (po_some (pe_un un_neg pe_int))) (pe_slice sl_str (pv 6) po_none (po_some pe_int)))))
            pss_nil)
          (pss_one (ps_expr (pe_bm PySem.F.plainAttrs_list PySem.F.slot_list_append PySem.F.type_list_append mt_append (pv 2) (pa_cons (pv 6) pa_nil)))))))))))
      (pss_one (ps_ret (pv 2))))), ?_⟩
    refine ⟨by show 0 ≤ sizeLine; decide, fun nm nnm => ?_⟩
    have anm : a ≠ nm := ne_of_none ha nnm
    refine ⟨_, rfl, m, rfl, by omega, by omega, for_range (lo := 0) (n := m.toNat) (fun i σ' H' => ∃ n zs v3 v4 v5 v6 v7, σ' = [some (.ref a), some (.int m), some (.ref nm), v3, v4, v5, v6, v7] ∧ Chg [a] H H' ∧ H' a = some (.lst [.int n]) ∧ H' nm = some (.lst ((zs : List Str).map V.str)) ∧ zs.length = i ∧ ∀ z ∈ zs, IsName z)
      ⟨n, [], _, _, _, _, _, rfl, Chg.new nnm, by rw [upd_ne anm]; exact ha, upd_same, rfl, fun z h => by simp at h⟩ (fun i σ' H' hi p => ?_) (fun σ' H' p => ?_)⟩
    · obtain ⟨n1, zs, v3, v4, v5, v6, v7, rfl, hc, ha1, hn1, hz, hzs⟩ := p
      refine ⟨_, rfl, a, 4, n1, rfl, ha1, by decide, by decide +kernel, fun way n2 w0 w4 => ?_⟩
      refine ⟨_, rfl, a, 8, n2, rfl, upd_same, by decide, by decide +kernel, fun sz n3 s0 s8 => ?_⟩
      rw [upd_upd]
      refine ⟨_, _, rfl, rfl, ⟨_, rfl⟩, _, rfl, _, rfl, by omega, by omega, fun D nD => ?_⟩
      have nDa : D ≠ a := fun e => by rw [e, upd_same] at nD; cases nD
      have nD1 : H' D = none := by rw [upd_ne nDa] at nD; exact nD
      have Dnm : D ≠ nm := fun e => by rw [e, hn1] at nD1; cases nD1
      have nD0 : H D = none := hc.free nD1 (by simpa using nDa)
      refine lc_range (lo := 0) (n := (1 + sz).toNat) (fun j H2 => ∃ m2 ys, Chg [a] H' H2 ∧ H2 a = some (.lst [.int m2]) ∧ H2 D = some (.lst ((ys : List Str).map V.str)) ∧ ys.length = j ∧ ∀ y ∈ ys, ∃ c, y = ⟨#[c]⟩ ∧ 97 ≤ c ∧ c ≤ 122)
        ⟨n3, [], (Chg.set (by simp)).trans (Chg.new nD), by rw [upd_ne nDa.symm]; exact upd_same, upd_same, rfl, fun y h => by simp at h⟩ (fun j H2 hj p => ?_) (fun H2 p => ?_)
      · obtain ⟨m2, ys, c2, ha2, hD2, hl2, hy2⟩ := p
        refine ⟨rfl, _, rfl, a, 26, m2, rfl, ha2, by decide, by decide +kernel, fun d m3 d0 d1 => ?_⟩
        obtain ⟨c, ec, c0, c1⟩ := letter_at d0 d1
        refine ⟨_, d, c, rfl, rfl, by decide +kernel, ec, ys.map V.str, by rw [upd_ne nDa]; exact hD2, ?_, m3, ys ++ [⟨#[c]⟩], (c2.trans (Chg.set (by simp))).put nD1, by rw [upd_ne nDa.symm]; exact upd_same, by rw [upd_same, List.map_append]; rfl, by rw [List.length_append, hl2]; rfl, fun y hy => ?_⟩
        · rw [List.length_map]
          exact small1000 (by omega)
        · rcases List.mem_append.mp hy with hy | hy
          · exact hy2 y hy
          · exact ⟨c, List.mem_singleton.mp hy, c0, c1⟩
      · obtain ⟨m2, ys, c2, ha2, hD2, hl2, hy2⟩ := p
        have hnm : IsName (Txt.join Str.empty ys) := IsName.join (by omega) (by omega) hy2
        refine ⟨Str.empty, D, ys, rfl, rfl, .inl (.inl (.inl hD2)), ?_, ?_⟩
        · have e : (ys.map (·.length)).sum = ys.length := ones fun y hy => by obtain ⟨c, rfl, _⟩ := hy2 y hy; rfl
          rw [e]
          show ys.length + ys.length * 0 ≤ 16777216
          omega
        have hn2 : H2 nm = some (.lst (zs.map V.str)) := c2 _ _ (by simpa using anm.symm) hn1
        have hsq : SqL K H2 nm (zs.map V.str) := .inl (.inl hn2)
        have prev : ∀ (hk : 0 < (i : Int)), ∃ z, atI (zs.map V.str) ((0 : Int) + (i : Int) - 1) = some (.str z) ∧ IsName z := fun hk => by
          have hlt : i - 1 < zs.length := by omega
          exact ⟨zs[i - 1], at_of (j := i - 1) (by omega) (by rw [List.getElem?_map, List.getElem?_eq_getElem hlt]; rfl), hzs _ (List.getElem_mem hlt)⟩
        generalize Txt.join Str.empty ys = nm0 at hnm ⊢
        have sl : ∀ {z : Str}, IsName z → z.length ≤ sizeLine := fun h => Nat.le_trans h.2.1 (by decide)
        refine ⟨fun σ4 H4 => H4 = H2 ∧ ∃ z, IsName z ∧ σ4 = [some (.ref a), some (.int m), some (.ref nm), some (.int (0 + (i : Int))), some (.int way), some (.int (1 + sz)), some (.str z), v7], ?_, fun σ4 H4 h4 => ?_⟩
        · refine ⟨_, rfl, rfl, _, rfl, ite2 (fun _ => ⟨_, rfl, _, _, rfl, rfl, _, rfl, ite2 (fun hk => ?_) (fun _ => ⟨rfl, nm0, hnm, rfl⟩)⟩) (fun _ => ⟨rfl, nm0, hnm, rfl⟩)⟩
          obtain ⟨z, ez, iz⟩ := prev (by have := of_decide_eq_true hk; omega)
          exact ⟨_, rfl, _, rfl, _, _, rfl, rfl, _, _, _, _, rfl, rfl, hsq, ez, _, rfl, _, _, rfl, rfl, (by have := iz.2.1; have := hnm.2.1; exact Nat.le_trans (show z.length + nm0.length ≤ 16 by omega) (by decide)), 8, rfl, _, rfl, (by rw [str_len_app]; have := iz.2.1; have := hnm.2.1; exact Nat.le_trans (show z.length + nm0.length ≤ 16 by omega) (by decide)), rfl, _, iz.way1 hnm, rfl⟩
        obtain ⟨rfl, nm1, hnm1, rfl⟩ := h4
        refine ⟨fun σ5 H5 => H5 = H4 ∧ ∃ z, IsName z ∧ σ5 = [some (.ref a), some (.int m), some (.ref nm), some (.int (0 + (i : Int))), some (.int way), some (.int (1 + sz)), some (.str z), v7], ?_, fun σ5 H5 h5 => ?_⟩
        · refine ⟨_, rfl, rfl, _, rfl, ite2 (fun _ => ⟨_, rfl, _, _, rfl, rfl, _, rfl, ite2 (fun hk => ?_) (fun _ => ⟨rfl, nm1, hnm1, rfl⟩)⟩) (fun _ => ⟨rfl, nm1, hnm1, rfl⟩)⟩
          obtain ⟨z, ez, iz⟩ := prev (by have := of_decide_eq_true hk; omega)
          have es : (1 + sz) = (((1 + sz).toNat : Nat) : Int) := by omega
          refine ⟨_, rfl, _, rfl, _, _, rfl, rfl, _, _, _, _, rfl, rfl, hsq, ez, _, rfl, _, rfl, z, rfl, sl iz, rfl, _, ?_, rfl⟩
          rw [es]
          exact iz.way2 (by omega)
        obtain ⟨rfl, nm2, hnm2, rfl⟩ := h5
        refine ⟨fun σ6 H6 => H6 = H5 ∧ ∃ z, IsName z ∧ σ6 = [some (.ref a), some (.int m), some (.ref nm), some (.int (0 + (i : Int))), some (.int way), some (.int (1 + sz)), some (.str z), v7], ?_, fun σ6 H6 h6 => ?_⟩
        · refine ⟨_, rfl, rfl, _, rfl, ite2 (fun _ => ⟨_, rfl, _, _, rfl, rfl, _, rfl, ite2 (fun hk => ?_) (fun _ => ⟨rfl, nm2, hnm2, rfl⟩)⟩) (fun _ => ⟨rfl, nm2, hnm2, rfl⟩)⟩
          obtain ⟨z, ez, iz⟩ := prev (by have := of_decide_eq_true hk; omega)
          have h3 := iz.way3 hnm2
          refine ⟨_, rfl, _, rfl, _, _, rfl, rfl, _, _, _, _, rfl, rfl, hsq, ez, _, rfl, _, rfl, z, rfl, sl iz, _, rfl, _, rfl, nm2, rfl, sl hnm2, _, _, rfl, rfl, ?_, rfl, _, h3, rfl⟩
          have := h3.2.1
          rw [str_len_app] at this
          exact Nat.le_trans this (by decide)
        obtain ⟨rfl, nm3, hnm3, rfl⟩ := h6
        refine ⟨_, rfl, .inl ⟨rfl, _, .inl (.inl hn2)⟩, _, rfl, nm, _, _, rfl, rfl, hn2, by rw [List.length_map]; exact small1000 (by omega), m2, zs ++ [nm3], _, _, _, _, _, rfl, ?_, ?_, by rw [upd_same, List.map_append]; rfl, by rw [List.length_append, hz]; rfl, fun z hz => ?_⟩
        · exact (hc.trans c2).put nnm
        · rw [upd_ne anm]
          exact ha2
        · rcases List.mem_append.mp hz with h | h
          · exact hzs z h
          · rw [List.mem_singleton.mp h]; exact hnm3
    · obtain ⟨n1, zs, v3, v4, v5, v6, v7, rfl, hc, ha1, hn1, hz, hzs⟩ := p
      exact ⟨_, rfl, q nm H' n1 zs nnm hc ha1 hn1 hz hzs⟩
end
theorem x_names {H : Hp} {Q : VK} {E : XK} {a : Addr} {m n : Int} (h : H a = some (.lst [.int n])) (h0 : 0 ≤ m) (h1 : m ≤ 60) (q : ∀ p H' n' (zs : List Str), H p = none → Chg [a] H H' → H' a = some (.lst [.int n']) → H' p = some (.lst (zs.map V.str)) → zs.length = m.toNat → (∀ z ∈ zs, IsName z) → Q (.ref p) H') : spNames (([.ref a, .int m] : List V) ++ []) H Q E := ⟨a, m, n, rfl, h, h0, h1, q⟩
end T
namespace T
open PySem PySem.Spec PyProof.Rows L2 M
section
variable {P : Program} {w : World} {K : PySem.W.Frag} {mg : Str → Option Value} {base : Heap} {CN CC CP CS aNP aNL : Addr}
def spWz : Sp := fun vs H Q _ => ∃ (a : Addr) (l : List (Str × Int)), vs = [.ref a] ∧ H a = some (.dK (sk (ik l))) ∧ l.length ≤ 1000 ∧ (l.map (·.1)).Nodup ∧ ∀ p, H p = none → Q (.ref p) (upd H p (.dK (sk (ik (nz l)))))
theorem ok_wz {f : Addr} {fd : FuncData} {k : Nat} (F : Fun2 K "_without_zeros" "_without_zeros" s__without_zeros f fd) (T : Txt K mg CN CC CP CS aNP aNL) : FnOk P w K mg base CX0 (k + 1) f fd ["values"] spWz := by
  refine F.ok sc__without_zeros (fun vs H Q E h => ?_) (fun cdv A outer s H vs Q E hr h => ?_)
  · obtain ⟨a, l, rfl, _⟩ := h
    rfl
  · obtain ⟨a, l, rfl, ha, hl, hn, q⟩ := h
    refine ⟨_, (pss_one (ps_ret (pe_lock (pe_dc (own := [("name", 1)]) (g := gName 1) rfl sc__without_zeros.nd (pi_keys (pv 0)) (blkOk_by (own := [("name", 1)]) (N := ["values", "name"]) (sc := defScope s__without_zeros) (by decide +kernel)) (fun _ _ _ _ _ => pg_name (i := 1) sc__without_zeros.nd rfl (Or.inl rfl)) (fun _ _ _ _ _ => pts_one (pt_cmpR op_ne (pe_dget (hu_of hr) (pv 0) (pv 1) (fun _ _ => rfl)) pe_int (nomark _))) (fun _ _ _ _ _ => (pv 1)) (fun _ _ _ _ _ => (pe_dget (hu_of hr) (pv 0) (pv 1) (fun _ _ => rfl))))))), ?_⟩
    refine ⟨a, .dK (sk (ik l)), ha, True.intro, fun od => ?_⟩
    refine ⟨.ref a, rfl, a, od, rfl, .inl ⟨sk (ik l), upd_same, fun D nD => ?_⟩⟩
    have nDa : D ≠ a := fun e => by rw [e, upd_same] at nD; cases nD
    have nH : H D = none := by rw [upd_ne nDa] at nD; exact nD
    refine dc_keys (fun i H' => H' = upd (upd H a (.frz od (.dK (sk (ik l))))) D (.dK (sk (ik (nz (l.take i)))))) rfl (fun i H' _ e => by rw [e, upd_ne nDa.symm, upd_same]) (fun i k v H' hk e => ?_) (fun H' e => ?_)
    · obtain ⟨z, rfl, hy⟩ := sk_get hk
      obtain ⟨n, rfl, hz⟩ := ik_get hy
      have hlt : i < l.length := (List.getElem?_eq_some_iff.mp hz).1
      subst e
      have hd : Rd (upd (upd H a (.frz od (.dK (sk (ik l))))) D (.dK (sk (ik (nz (l.take i)))))) a (.dK (sk (ik l))) := .inr ⟨od, by rw [upd_ne nDa.symm, upd_same]⟩
      have hv : sVal (ik l) z = some (.int n) := sVal_at (by rw [ik_keys]; exact hn) hy
      have hg := dget_s z hd
      rw [hv] at hg
      refine ⟨rfl, _, rfl, _, rfl, a, _, rfl, hg, rfl, _, rfl, ite2 (fun c => ?_) (fun c => ?_)⟩
      · have c : n ≠ 0 := fun e => by rw [e] at c; exact absurd c (by decide)
        refine ⟨_, rfl, _, rfl, _, rfl, a, _, rfl, hg, sk (ik (nz (l.take i))), Sum.inr z, rfl, upd_same, ?_, ?_⟩
        · rw [sk_len, ik_len]
          exact Nat.lt_of_le_of_lt (nz_sub _).length_le (small1000 (by rw [List.length_take]; omega))
        · rw [upd_upd, sk_put, nz_yes hz c, sPut_new]
          · unfold ik
            rw [List.map_append]
            rfl
          · rw [ik_keys]
            exact fun m => take_fresh hn hz (((nz_sub _).map _).mem m)
      · have c : n = 0 := by
          by_cases e : n = 0
          · exact e
          · exact (c (by rw [decide_eq_false (fun q => e (V.int.inj q))]; rfl)).elim
        rw [nz_no hz c]
    · subst e
      rw [sk_len, ik_len, List.take_length]
      refine ⟨by rw [upd_ne nDa.symm, upd_same], ?_⟩
      rw [upd_back nDa ha]
      exact q D nH

theorem lkV (v : V) : ([(("_values" : Str), v)]).lookup ("_values" : Str) = some v := by
  rw [List.lookup_cons, beq_self_eq_true]
/-- notes at x, their dict at d, what it holds -/
def NoteAt (CN : Addr) (H : Hp) (x d : Addr) (l : List (Str × Int)) : Prop := (∃ dx, H x = some (.ins CN dx [("_values", .ref d)])) ∧ H d = some (.dK (sk (ik l))) ∧ (l.map (·.1)).Nodup ∧ (∀ p ∈ l, p.2 ≠ 0) ∧ l.length ≤ 60
theorem NoteAt.keep {H H' : Hp} {x d : Addr} {l : List (Str × Int)} {S : List Addr} (h : NoteAt CN H x d l) (c : Chg S H H') (n1 : x ∉ S) (n2 : d ∉ S) : NoteAt CN H' x d l := by
  obtain ⟨⟨dx, hx⟩, hd, r⟩ := h
  exact ⟨⟨dx, c _ _ n1 hx⟩, c _ _ n2 hd, r⟩
theorem NoteAt.ne {H : Hp} {x d : Addr} {l : List (Str × Int)} (h : NoteAt CN H x d l) : x ≠ d := by
  obtain ⟨⟨dx, hx⟩, hd, r⟩ := h
  exact ne_of hx hd (by intro z; cases z)
def spInit (CN : Addr) : Sp := fun vs H Q _ => ∃ (x dx : Addr) (y : V) (l : List (Str × Int)), vs = [.ref x, y] ∧ H x = some (.ins CN dx []) ∧ ((y = .non ∧ l = []) ∨ ∃ a, y = .ref a ∧ H a = some (.dK (sk (ik l)))) ∧ l.length ≤ 60 ∧ (l.map (·.1)).Nodup ∧
  ∀ D H', H D = none → Chg [x] H H' → NoteAt CN H' x D (nz l) → Q .non H'
theorem ok_init {f : Addr} {fd : FuncData} {k : Nat} (F : Fun2 K "__init__" "Notes.__init__" s_Notes___init__ f fd) (T : Txt K mg CN CC CP CS aNP aNL) (D__without_zeros : DefOk P w K mg base k "_without_zeros" ["values"] spWz) : FnOk P w K mg base CX0 (k + 1) f fd ["self", "values"] (spInit CN) := by
  refine F.ok sc_Notes___init__ (fun vs H Q E h => ?_) (fun cdv A outer s H vs Q E hr h => ?_)
  · obtain ⟨x, dx, y, l, rfl, _⟩ := h
    rfl
  · obtain ⟨x, dx, y, l, rfl, hx, hy, hl, hn, q⟩ := h
    refine ⟨_, (pss_one (ps_fld (pv 0) (pe_callD D__without_zeros (hr.mono (by omega)) (by rfl) (pa_cons (pe_ifExp (pt_cmpR op_isN (pv 1) pe_non (nomark _)) pe_dnewK (pv 1)) pa_nil)) rfl)), ?_⟩
    have go : ∀ (a : Addr) (H1 : Hp), Same H H1 → H1 a = some (.dK (sk (ik l))) → ∀ D, H1 D = none → (fun H2 => ∃ a' C dx' fs, (V.ref x) = .ref a' ∧ H2 a' = some (.ins C dx' fs) ∧ Cls K C ∧ NoAttr K C "_values" ∧ fs.length < 1000 ∧ Q .non (upd H2 a' (.ins C dx' (putF "_values" (.ref D) fs)))) (upd H1 D (.dK (sk (ik (nz l))))) := by
      intro a H1 s1 ha D nD
      have xD : x ≠ D := ne_of_none (s1 _ _ hx) nD
      refine ⟨x, CN, dx, [], rfl, by rw [upd_ne xD]; exact s1 _ _ hx, T.c_Notes, T.n_Notes__values, by decide, q D _ (s1.free nD) ?_ ⟨⟨dx, upd_same⟩, by rw [upd_ne xD.symm, upd_same], nz_keys_nodup hn, nz_ok l, Nat.le_trans (nz_sub l).length_le hl⟩⟩
      intro b o nb hb
      have bx : b ≠ x := fun e => nb (by rw [e]; exact List.mem_singleton.mpr rfl)
      rw [upd_ne bx, upd_ne (ne_of_none (s1 _ _ hb) nD)]
      exact s1 _ _ hb
    rcases hy with ⟨rfl, rfl⟩ | ⟨a, rfl, ha⟩
    · refine ⟨_, rfl, rfl, _, rfl, fun p np => ?_⟩
      refine ⟨p, [], rfl, upd_same, by decide, List.nodup_nil, fun D nD => ⟨_, rfl, go p _ (same_new np) upd_same D nD⟩⟩
    · refine ⟨_, rfl, rfl, _, rfl, _, rfl, a, l, rfl, ha, Nat.le_trans hl (by decide), hn, fun D nD => ⟨_, rfl, go a H (Same.refl H) ha D nD⟩⟩
def spGet (CN : Addr) : Sp := fun vs H Q _ => ∃ (x d : Addr) (l : List (Str × Int)) (z : Str), vs = [.ref x, .str z] ∧ NoteAt CN H x d l ∧ Q (.int ((l.lookup z).getD 0)) H
theorem ok_get {f : Addr} {fd : FuncData} {k : Nat} (F : Fun2 K "__getitem__" "Notes.__getitem__" s_Notes___getitem__ f fd) (T : Txt K mg CN CC CP CS aNP aNL) : FnOk P w K mg base CX0 (k + 1) f fd ["self", "at"] (spGet CN) := by
  refine F.ok sc_Notes___getitem__ (fun vs H Q E h => ?_) (fun cdv A outer s H vs Q E hr h => ?_)
  · obtain ⟨x, d, l, z, rfl, _⟩ := h
    rfl
  · obtain ⟨x, d, l, z, rfl, ⟨⟨dx, hx⟩, hd, hn, hz, hl⟩, q⟩ := h
    refine ⟨_, (pss_one (ps_ret (pe_dget2 (hu_of hr) (fldK (K := K) rfl (pv 0) (by rfl)) (pv 1) pe_int ⟨by rfl, by rfl, by rfl, by rfl⟩))), ?_⟩
    have e : (sVal (ik l) z).getD (.int 0) = .int ((l.lookup z).getD 0) := by
      rw [ik_val]
      cases l.lookup z <;> rfl
    refine ⟨_, rfl, x, CN, dx, _, _, rfl, hx, T.c_Notes, T.n_Notes__values, lkV _, d, rfl, .inl ⟨_, .inl hd⟩, _, rfl, _, dget_s z (.inl hd), ?_⟩
    rw [e]
    exact q
def spHas (CN : Addr) : Sp := fun vs H Q _ => ∃ (x d : Addr) (l : List (Str × Int)) (z : Str), vs = [.ref x, .str z] ∧ NoteAt CN H x d l ∧ Q (.bl (decide ((l.lookup z).getD 0 ≠ 0))) H
theorem ok_has {f : Addr} {fd : FuncData} {k : Nat} (F : Fun2 K "__contains__" "Notes.__contains__" s_Notes___contains__ f fd) (T : Txt K mg CN CC CP CS aNP aNL) : FnOk P w K mg base CX0 (k + 1) f fd ["self", "x"] (spHas CN) := by
  refine F.ok sc_Notes___contains__ (fun vs H Q E h => ?_) (fun cdv A outer s H vs Q E hr h => ?_)
  · obtain ⟨x, d, l, z, rfl, _⟩ := h
    rfl
  · obtain ⟨x, d, l, z, rfl, ⟨⟨dx, hx⟩, hd, hn, hz, hl⟩, q⟩ := h
    refine ⟨_, (pss_one (ps_ret (pe_cmp (pc_din (hu_of hr) (pv 1) (fldK (K := K) rfl (pv 0) (by rfl)))))), ?_⟩
    have e : (sVal (ik l) z).isSome = decide ((l.lookup z).getD 0 ≠ 0) := by
      rw [ik_val]
      cases e : l.lookup z with
      | none => rfl
      | some k => exact (decide_eq_true (hz _ (look_mem e))).symm
    refine ⟨_, rfl, _, rfl, x, CN, dx, _, _, rfl, hx, T.c_Notes, T.n_Notes__values, lkV _, d, _, rfl, dget_s z (.inl hd), ?_⟩
    rw [e]
    exact q
def spLen (CN : Addr) : Sp := fun vs H Q _ => ∃ (x d : Addr) (l : List (Str × Int)), vs = [.ref x] ∧ NoteAt CN H x d l ∧ Q (.int l.length) H
theorem ok_len {f : Addr} {fd : FuncData} {k : Nat} (F : Fun2 K "__len__" "Notes.__len__" s_Notes___len__ f fd) (T : Txt K mg CN CC CP CS aNP aNL) : FnOk P w K mg base CX0 (k + 1) f fd ["self"] (spLen CN) := by
  refine F.ok sc_Notes___len__ (fun vs H Q E h => ?_) (fun cdv A outer s H vs Q E hr h => ?_)
  · obtain ⟨x, d, l, rfl, _⟩ := h
    rfl
  · obtain ⟨x, d, l, rfl, ⟨⟨dx, hx⟩, hd, hn, hz, hl⟩, q⟩ := h
    refine ⟨_, (pss_one (ps_ret (pe_callB call_lenD (by rfl) T.z_len (by decide +kernel) (pa_cons (fldK (K := K) rfl (pv 0) (by rfl)) pa_nil)))), ?_⟩
    refine ⟨_, rfl, x, CN, dx, _, _, rfl, hx, T.c_Notes, T.n_Notes__values, lkV _, d, _, rfl, hd, ?_⟩
    rw [sk_len, ik_len]
    exact q
def spSet (CN : Addr) : Sp := fun vs H Q _ => ∃ (x d : Addr) (l : List (Str × Int)) (z : Str) (n : Int), vs = [.ref x, .str z, .int n] ∧ NoteAt CN H x d l ∧ l.length < 60 ∧
  ∀ D H', H D = none → Chg [x] H H' → NoteAt CN H' x D (nz (iput l z n)) → Q .non H'
theorem ok_set {f : Addr} {fd : FuncData} {k : Nat} (F : Fun2 K "__setitem__" "Notes.__setitem__" s_Notes___setitem__ f fd) (T : Txt K mg CN CC CP CS aNP aNL) (D__without_zeros : DefOk P w K mg base k "_without_zeros" ["values"] spWz) : FnOk P w K mg base CX0 (k + 1) f fd ["self", "at", "worth"] (spSet CN) := by
  refine F.ok sc_Notes___setitem__ (fun vs H Q E h => ?_) (fun cdv A outer s H vs Q E hr h => ?_)
  · obtain ⟨x, d, l, z, n, rfl, _⟩ := h
    rfl
  · obtain ⟨x, d, l, z, n, rfl, ⟨⟨dx, hx⟩, hd, hn, hz, hl⟩, hl6, q⟩ := h
    refine ⟨_, (pss_one (ps_fld (pv 0) (pe_callD D__without_zeros (hr.mono (by omega)) (by rfl) (pa_cons (pe_dstar (fldK (K := K) rfl (pv 0) (by rfl)) (pv 1) (pv 2)) pa_nil)) rfl)), ?_⟩
    intro p np
    have pd : d ≠ p := ne_of_none hd np
    have px : x ≠ p := ne_of_none hx np
    refine ⟨_, rfl, x, CN, dx, _, _, rfl, by rw [upd_ne px]; exact hx, T.c_Notes, T.n_Notes__values, lkV _, d, sk (ik l), rfl, pd, .inl (by rw [upd_ne pd]; exact hd), upd_same, fun r nr => ?_⟩
    have rp : r ≠ p := fun e => by rw [e, upd_same] at nr; cases nr
    have nr0 : H r = none := by rw [upd_ne rp] at nr; exact nr
    have hp1 : (upd (upd (upd H p (.dK [])) p (.dK (sk (ik l)))) r (.dK [])) p = some (.dK (sk (ik l))) := by rw [upd_ne rp.symm, upd_same]
    refine ⟨_, rfl, _, rfl, Sum.inr z, rfl, hp1, upd_same, by rw [sk_len, ik_len]; exact small1000 (by omega), ?_⟩
    refine ⟨p, iput l z n, rfl, ?_, Nat.le_trans (iput_len l z n) (by omega), iput_nodup z n hn, fun D nD => ?_⟩
    · rw [upd_same, sk_put, ik_put]
    · have sm : Same H (upd (upd (upd (upd (upd H p (.dK [])) p (.dK (sk (ik l)))) r (.dK [])) r (.dK [(Sum.inr z, .int n)])) p (.dK (putK (sk (ik l)) (Sum.inr z) (.int n)))) :=
        Same.put (Same.put (Same.put (Same.put (same_new np) np) nr0) nr0) np
      have xD : x ≠ D := ne_of_none (sm _ _ hx) nD
      refine ⟨_, rfl, x, CN, dx, [("_values", .ref d)], rfl, by rw [upd_ne xD]; exact sm _ _ hx, T.c_Notes, T.n_Notes__values, (by show (1 : Nat) < 1000; decide), q D _ (sm.free nD) ?_ ⟨⟨dx, ?_⟩, by rw [upd_ne xD.symm, upd_same], nz_keys_nodup (iput_nodup z n hn), nz_ok _, Nat.le_trans (nz_sub _).length_le (Nat.le_trans (iput_len l z n) (by omega))⟩⟩
      · intro b o nb hb
        have bx : b ≠ x := fun e => nb (by rw [e]; exact List.mem_singleton.mpr rfl)
        rw [upd_ne bx, upd_ne (ne_of_none (sm _ _ hb) nD)]
        exact sm _ _ hb
      · rw [upd_same]
        rfl
def PairsAt (H : Hp) (p : Addr) (ps : List (Str × Int)) : Prop := ∃ qs : List Addr, H p = some (.lst (qs.map V.ref)) ∧ TupsAt H qs (ps.map fun t => [.str t.1, .int t.2])
def spPairs (CN : Addr) : Sp := fun vs H Q _ => ∃ (x d : Addr) (l : List (Str × Int)), vs = [.ref x] ∧ NoteAt CN H x d l ∧ ∀ p H' ps, H p = none → Same H H' → SortOf l ps → ps.length = l.length → PairsAt H' p ps → Q (.ref p) H'
theorem ok_pairs {f : Addr} {fd : FuncData} {k : Nat} (F : Fun2 K "pairs" "Notes.pairs" s_Notes_pairs f fd) (T : Txt K mg CN CC CP CS aNP aNL) (D_in_order : DefOk P w K mg base k "in_order" ["names"] (spInOrder K)) : FnOk P w K mg base CX0 (k + 1) f fd ["self"] (spPairs CN) := by
  refine F.ok sc_Notes_pairs (fun vs H Q E h => ?_) (fun cdv A outer s H vs Q E hr h => ?_)
  · obtain ⟨x, d, l, rfl, _⟩ := h
    rfl
  · obtain ⟨x, d, l, rfl, ⟨⟨dx, hx⟩, hd, hn, hz, hl⟩, q⟩ := h
    refine ⟨_, (pss_one (ps_ret (pe_lc (own := [("name", 1)]) (g := gName 1) (tt := tYes) rfl sc_Notes_pairs.nd (piL (K := K) rfl (pe_callD D_in_order (hr.mono (by omega)) (by rfl) (pa_cons (fldK (K := K) rfl (pv 0) (by rfl)) pa_nil))) (blkOk_by (own := [("name", 1)]) (N := ["self", "name"]) (sc := defScope s_Notes_pairs) (by decide +kernel)) (fun _ _ _ _ _ => pg_name (i := 1) sc_Notes_pairs.nd rfl (Or.inl rfl)) (fun _ _ _ _ _ => pts_nil) (fun _ _ _ _ _ => (pe_tup (pa_cons (pv 1) (pa_cons (pe_dget (hu_of hr) (fldK (K := K) rfl (pv 0) (by rfl)) (pv 1) (fun _ _ => rfl)) pa_nil))))))), ?_⟩
    refine ⟨_, rfl, x, CN, dx, _, _, rfl, hx, T.c_Notes, T.n_Notes__values, lkV _, d, ik l, rfl, hd, by rw [ik_len]; omega, by rw [ik_keys]; exact hn, fun p H1 ys np s1 hr1 hm hlen hp => ?_⟩
    rw [ik_keys] at hm
    rw [ik_len] at hlen
    have hall : ∀ z, z ∈ ys → ∃ n, l.lookup z = some n ∧ n ≠ 0 := fun z hz' => by
      obtain ⟨t, ht, e⟩ := List.mem_map.mp ((hm z).mp hz')
      refine ⟨t.2, look_of hn (by rw [← e]; exact ht), hz t ht⟩
    refine ⟨p, rfl, ⟨_, .inl (.inl hp)⟩, lc_tups (K := K) (a := p) (xs := ys.map V.str) (fun v => match v with | .str z => [.str z, .int ((l.lookup z).getD 0)] | v => [v]) (fun _ => true) (.inl (.inl hp)) (by rw [List.length_map]; omega) (fun _ => rfl) (fun i v H2 hi s2 R r => r) (fun i v H2 hi _ s2 R r => ?_) (fun D qs H' nD s2 hD ts => ?_)⟩
    · rw [List.getElem?_map] at hi
      obtain ⟨z, hz', rfl⟩ := Option.map_eq_some_iff.mp hi
      obtain ⟨n, e1, e2⟩ := hall z (List.mem_of_getElem? hz')
      have s3 := s1.trans s2
      have hg := dget_s (l := ik l) z (.inl (s3 _ _ hd))
      rw [ik_val, e1] at hg
      refine ⟨_, rfl, _, rfl, x, CN, dx, _, _, rfl, s3 _ _ hx, T.c_Notes, T.n_Notes__values, lkV _, _, rfl, d, _, rfl, hg, by show 2 ≤ sizeLine; decide, fun t nt => ?_⟩
      have g : R (.ref t) (upd H2 t (.tup [.str z, .int ((l.lookup z).getD 0)])) := r t nt
      rw [e1] at g
      exact g
    · refine q D H' ((ys.filter fun z => decide ((l.lookup z).getD 0 ≠ 0)).map fun z => (z, (l.lookup z).getD 0)) (s1.free nD) (s1.trans s2) (sort_of hn hr1 hm) ?_ ⟨qs, hD, ?_⟩
      · rw [List.length_map, List.filter_eq_self.mpr, hlen]
        intro z hz'
        obtain ⟨n, e1, e2⟩ := hall z hz'
        rw [e1]
        exact decide_eq_true e2
      · rw [List.filter_eq_self.mpr (by intros; rfl), List.map_map] at ts
        rw [List.filter_eq_self.mpr, List.map_map]
        · exact ts
        · intro z hz'
          obtain ⟨n, e1, e2⟩ := hall z hz'
          rw [e1]
          exact decide_eq_true e2
end
end T
namespace T
open PySem PySem.Spec PyProof.Rows L2 M
section
variable {P : Program} {w : World} {K : PySem.W.Frag} {mg : Str → Option Value} {base : Heap} {CN CC CP CS aNP aNL : Addr}
theorem lkP (v : V) : ([(("_parts" : Str), v)]).lookup ("_parts" : Str) = some v := by
  rw [List.lookup_cons, beq_self_eq_true]
/-- a change at x, its dict at d, the parts -/
def ChangeAt (K : PySem.W.Frag) (CC : Addr) (H : Hp) (x d : Addr) (l : List (Str × Part)) : Prop := (∃ dx, H x = some (.ins CC dx [("_parts", .ref d)])) ∧ (∃ rl, H d = some (.dK (sk rl)) ∧ PtsAt K H rl l) ∧ (l.map (·.1)).Nodup ∧ (∀ q ∈ l, q.2 ≠ (false, 0)) ∧ l.length ≤ 60
theorem ChangeAt.same {H H' : Hp} {x d : Addr} {l : List (Str × Part)} (h : ChangeAt K CC H x d l) (c : Same H H') : ChangeAt K CC H' x d l := by
  obtain ⟨⟨dx, hx⟩, ⟨rl, hd, hp⟩, r⟩ := h
  exact ⟨⟨dx, c _ _ hx⟩, ⟨rl, c _ _ hd, hp.same c⟩, r⟩
/-- what is changed is no tuple -/
def NoTup (H : Hp) (S : List Addr) : Prop := ∀ b ∈ S, ∀ xs, ¬ Rd H b (.tup xs)
theorem Chg.tup {S : List Addr} {H H' : Hp} (c : Chg S H H') (n : NoTup H S) {a : Addr} {xs : List V} (h : SqT K H a xs) : SqT K H' a xs := by
  rcases h with h | h
  · have na : a ∉ S := fun m => n a m xs h
    rcases h with h | ⟨o, h⟩
    · exact .inl (.inl (c _ _ na h))
    · exact .inl (.inr ⟨o, c _ _ na h⟩)
  · exact .inr h
theorem noTup_of {H : Hp} {b : Addr} {o : HO} (h : H b = some o) (n1 : ∀ xs, o ≠ .tup xs) (n2 : ∀ f xs, o ≠ .frz f (.tup xs)) : NoTup H [b] := fun c hc xs r => by
  rw [List.mem_singleton.mp hc] at r
  rcases r with r | ⟨f, r⟩
  · rw [h] at r; cases r; exact n1 _ rfl
  · rw [h] at r; cases r; exact n2 _ _ rfl
theorem ChangeAt.keep {H H' : Hp} {x d : Addr} {l : List (Str × Part)} {S : List Addr} (h : ChangeAt K CC H x d l) (c : Chg S H H') (n1 : x ∉ S) (n2 : d ∉ S) (n : NoTup H S) : ChangeAt K CC H' x d l := by
  obtain ⟨⟨dx, hx⟩, ⟨rl, hd, hp⟩, r⟩ := h
  exact ⟨⟨dx, c _ _ n1 hx⟩, ⟨rl, c _ _ n2 hd, hp.keep fun a xs g => Chg.tup c n g⟩, r⟩
/-- a dict of parts -/
def DictP (K : PySem.W.Frag) (H : Hp) (d : Addr) (l : List (Str × Part)) : Prop := ∃ rl, H d = some (.dK (sk rl)) ∧ PtsAt K H rl l
theorem DictP.same {H H' : Hp} {d : Addr} {l : List (Str × Part)} (h : DictP K H d l) (c : Same H H') : DictP K H' d l := let ⟨rl, a, b⟩ := h; ⟨rl, c _ _ a, b.same c⟩
theorem DictP.keep {H H' : Hp} {d : Addr} {l : List (Str × Part)} {S : List Addr} (h : DictP K H d l) (c : Chg S H H') (n2 : d ∉ S) (n : NoTup H S) : DictP K H' d l := let ⟨rl, a, b⟩ := h; ⟨rl, c _ _ n2 a, b.keep fun a xs g => Chg.tup c n g⟩
/-- tuples are kept where something is laid or a thing that is none is stored -/
theorem sqt_new {H : Hp} {p : Addr} {o : HO} (n : H p = none) {a : Addr} {xs : List V} (h : SqT K H a xs) : SqT K (upd H p o) a xs := Same.sqt (same_new n) h
def spCInit (K : PySem.W.Frag) (CC : Addr) : Sp := fun vs H Q _ => ∃ (x dx : Addr) (y : V) (l : List (Str × Part)), vs = [.ref x, y] ∧ H x = some (.ins CC dx []) ∧ ((y = .non ∧ l = []) ∨ ∃ a, y = .ref a ∧ DictP K H a l) ∧ l.length ≤ 60 ∧ (l.map (·.1)).Nodup ∧
  ∀ D H', H D = none → Chg [x] H H' → ChangeAt K CC H' x D (pz l) → Q .non H'
theorem ok_cinit {f : Addr} {fd : FuncData} {k : Nat} (F : Fun2 K "__init__" "Change.__init__" s_Change___init__ f fd) (T : Txt K mg CN CC CP CS aNP aNL) : FnOk P w K mg base CX0 (k + 1) f fd ["self", "parts"] (spCInit K CC) := by
  refine F.ok sc_Change___init__ (fun vs H Q E h => ?_) (fun cdv A outer s H vs Q E hr h => ?_)
  · obtain ⟨x, dx, y, l, rfl, _⟩ := h
    rfl
  · obtain ⟨x, dx, y, l, rfl, hx, hy, hl, hn, q⟩ := h
    refine ⟨_, (Evl.pss_cut (ps_set (i := 2) sc_Change___init__.nd rfl (Or.inr rfl) (pe_ifExp (pt_cmpR op_isN (pv 1) pe_non (nomark _)) pe_dnewK (pv 1)))
      (pss_one (ps_fld (pv 0) (pe_lock (pe_dc (own := [("name", 3)]) (g := gName 3) rfl sc_Change___init__.nd (pi_keys (pv 2)) (blkOk_by (own := [("name", 3)]) (N := ["self", "parts", "given", "name"]) (sc := defScope s_Change___init__) (by decide +kernel)) (fun _ _ _ _ _ => pg_name (i := 3) sc_Change___init__.nd rfl (Or.inl rfl)) (fun _ _ _ _ _ => pts_one (pt_cmpR (neDK (K := K) rfl hr.units) (pe_dget (hu_of hr) (pv 2) (pv 3) (fun _ _ => rfl)) (pe_glob (v := .ref aNP) rfl T.g_NO_PART rfl) (nomark _))) (fun _ _ _ _ _ => (pv 3)) (fun _ _ _ _ _ => (pe_dget (hu_of hr) (pv 2) (pv 3) (fun _ _ => rfl))))) rfl))), ?_⟩
    refine ⟨fun σ' H' => ∃ a rl, σ' = [some (.ref x), some y, some (.ref a), none] ∧ Same H H' ∧ H' a = some (.dK (sk rl)) ∧ PtsAt K H' rl l, ?_, fun σ' H' hM => ?_⟩
    · rcases hy with ⟨rfl, rfl⟩ | ⟨a, rfl, rl, ha, hp⟩
      · exact ⟨_, rfl, rfl, _, rfl, fun p np => ⟨p, [], rfl, same_new np, upd_same, .nil⟩⟩
      · exact ⟨_, rfl, rfl, _, rfl, _, rfl, a, rl, rfl, Same.refl H, ha, hp⟩
    obtain ⟨a, rl, rfl, s1, ha, hp⟩ := hM
    refine ⟨a, .dK (sk rl), ha, True.intro, fun od => ?_⟩
    refine ⟨.ref a, rfl, a, od, rfl, .inl ⟨sk rl, upd_same, fun D nD => ?_⟩⟩
    have nDa : D ≠ a := fun e => by rw [e, upd_same] at nD; cases nD
    have nH : H' D = none := by rw [upd_ne nDa] at nD; exact nD
    have lk : ∀ {H2 : Hp} {o : HO}, (∀ b xs, SqT K H' b xs → SqT K (upd (upd H' a (.frz od (.dK (sk rl)))) D o) b xs) := fun {H2 o} b xs g => by
      rcases g with (g | ⟨f, g⟩) | g
      · have h1 : b ≠ a := ne_of g ha (by intro z; cases z)
        exact .inl (.inl (by rw [upd_ne (ne_of_none g nH), upd_ne h1]; exact g))
      · have h1 : b ≠ a := ne_of g ha (by intro z; cases z)
        exact .inl (.inr ⟨f, by rw [upd_ne (ne_of_none g nH), upd_ne h1]; exact g⟩)
      · exact .inr g
    refine dc_keys (fun i H2 => ∃ rm, H2 = upd (upd H' a (.frz od (.dK (sk rl)))) D (.dK (sk rm)) ∧ PtsAt K H' rm (pz (l.take i))) ⟨[], rfl, .nil⟩ (fun i H2 _ e => by obtain ⟨rm, rfl, _⟩ := e; rw [upd_ne nDa.symm, upd_same]) (fun i k v H2 hk e => ?_) (fun H2 e => ?_)
    · obtain ⟨z, rfl, hy⟩ := sk_get hk
      obtain ⟨p, b, rfl, hz, hb⟩ := hp.at hy
      obtain ⟨rm, rfl, hm⟩ := e
      have hlt : i < l.length := (List.getElem?_eq_some_iff.mp hz).1
      have hd : Rd (upd (upd H' a (.frz od (.dK (sk rl)))) D (.dK (sk rm))) a (.dK (sk rl)) := .inr ⟨od, by rw [upd_ne nDa.symm, upd_same]⟩
      have hv : sVal rl z = some (.ref b) := sVal_at (by rw [hp.keys]; exact hn) hy
      have hg := dget_s z hd
      rw [hv] at hg
      refine ⟨rfl, _, rfl, _, rfl, a, _, rfl, hg, pd p, pd (false, 0), pd_dp (lk (H2 := H') b _ hb), pd_dp (T.t_NO_PART _), pd_shaped _, pd_shaped _, _, rfl, ?_⟩
      rw [pd_eqv]
      by_cases c : p = (false, 0)
      · rw [decide_eq_true c]
        exact ⟨rm, rfl, by rw [pz_no hz c]; exact hm⟩
      · rw [decide_eq_false c]
        refine ⟨_, rfl, _, rfl, _, rfl, a, _, rfl, hg, sk rm, Sum.inr z, rfl, upd_same, ?_, rm ++ [(z, .ref b)], ?_, ?_⟩
        · rw [sk_len, hm.len]
          exact Nat.lt_of_le_of_lt (pz_sub _).length_le (small1000 (by rw [List.length_take]; omega))
        · rw [upd_upd, sk_put, sPut_new]
          rw [hm.keys]
          exact fun m => p_fresh hn hz (((pz_sub _).map _).mem m)
        · rw [pz_yes hz c]
          exact hm.snoc hb
    · obtain ⟨rm, rfl, hm⟩ := e
      rw [sk_len, hp.len, List.take_length] at hm
      refine ⟨by rw [upd_ne nDa.symm, upd_same], ?_⟩
      rw [upd_back nDa ha]
      have xD : x ≠ D := ne_of_none (s1 _ _ hx) nH
      refine ⟨_, rfl, x, CC, dx, [], rfl, by rw [upd_ne xD]; exact s1 _ _ hx, T.c_Change, T.n_Change__parts, by decide, q D _ (s1.free nH) ?_ ⟨⟨dx, upd_same⟩, ⟨rm, by rw [upd_ne xD.symm, upd_same], hm.keep fun b xs g => ?_⟩, pz_nodup hn, pz_ok l, Nat.le_trans (pz_sub l).length_le hl⟩⟩
      · intro b o nb hb
        have bx : b ≠ x := fun e => nb (by rw [e]; exact List.mem_singleton.mpr rfl)
        rw [upd_ne bx, upd_ne (ne_of_none (s1 _ _ hb) nH)]
        exact s1 _ _ hb
      · have hx1 := s1 _ _ hx
        rcases g with (g | ⟨f, g⟩) | g
        · exact .inl (.inl (by rw [upd_ne (ne_of g hx1 (by intro z; cases z)), upd_ne (ne_of_none g nH)]; exact g))
        · exact .inl (.inr ⟨f, by rw [upd_ne (ne_of g hx1 (by intro z; cases z)), upd_ne (ne_of_none g nH)]; exact g⟩)
        · exact .inr g
end
end T
namespace T
open PySem PySem.Spec PyProof.Rows L2 M
theorem len_sub : ∀ {l m : List Str}, l.Nodup → (∀ z ∈ l, z ∈ m) → l.length ≤ m.length
  | [], _, _, _ => Nat.zero_le _
  | a :: r, m, hn, h => by
    obtain ⟨n1, n2⟩ := List.nodup_cons.mp hn
    have ha := h a (List.mem_cons_self ..)
    have := len_sub (m := m.erase a) n2 fun z hz => (List.mem_erase_of_ne (fun e => n1 (by rw [← e]; exact hz))).mpr (h z (List.mem_cons_of_mem _ hz))
    rw [List.length_erase_of_mem ha] at this
    have := List.length_pos_of_mem ha
    rw [List.length_cons]
    omega
/-- the keys are among zs -/
def Among (zs : List Str) (l : List (Str × Int)) : Prop := (l.map (·.1)).Nodup ∧ ∀ p ∈ l, p.1 ∈ zs
theorem Among.len {zs : List Str} {l : List (Str × Int)} (h : Among zs l) : l.length ≤ zs.length := by
  have := len_sub h.1 fun z hz => by obtain ⟨p, hp, e⟩ := List.mem_map.mp hz; rw [← e]; exact h.2 p hp
  rw [List.length_map] at this
  exact this
theorem Among.put {zs : List Str} {l : List (Str × Int)} (h : Among zs l) {z : Str} (n : Int) (hz : z ∈ zs) : Among zs (iput l z n) := ⟨iput_nodup z n h.1, fun p hp => (iput_mem hp).elim (h.2 p) fun e => by rw [e]; exact hz⟩
theorem Among.nz {zs : List Str} {l : List (Str × Int)} (h : Among zs l) : Among zs (nz l) := ⟨nz_keys_nodup h.1, fun p hp => h.2 p ((nz_sub l).mem hp)⟩
end T
namespace T
open PySem PySem.Spec PyProof.Rows L2 M
section
variable {P : Program} {w : World} {K : PySem.W.Frag} {mg : Str → Option Value} {base : Heap} {CN CC CP CS aNP aNL : Addr}
def spJoined (K : PySem.W.Frag) : Sp := fun vs H Q _ => ∃ (a b : Addr) (p q : Part), vs = [.ref a, .ref b] ∧ SqT K H a (pt p) ∧ SqT K H b (pt q) ∧ ∀ c H', Same H H' → SqT K H' c (pt (pj p q)) → Q (.ref c) H'
theorem ok_joined {f : Addr} {fd : FuncData} {k : Nat} (F : Fun2 K "_joined" "_joined" s__joined f fd) (T : Txt K mg CN CC CP CS aNP aNL) : FnOk P w K mg base CX0 (k + 1) f fd ["first", "second"] (spJoined K) := by
  refine F.ok sc__joined (fun vs H Q E h => ?_) (fun cdv A outer s H vs Q E hr h => ?_)
  · obtain ⟨a, b, p, q, rfl, _⟩ := h
    rfl
  · obtain ⟨a, b, ⟨p1, p2⟩, ⟨q1, q2⟩, rfl, ha, hb, q⟩ := h
    have ha : SqT K H a [.str (kd p1), .int p2] := ha
    have hb : SqT K H b [.str (kd q1), .int q2] := hb
    refine ⟨_, (pss_cons (ps_if (pt_cmpR op_eq (pe_ix (ixTK (K := K) rfl) (pv 1) pe_int (fun _ _ => rfl)) pe_str (nomark _))
        (pss_one (ps_ret (pv 1)))
        pss_nil)
      (pss_one (ps_ret (pe_tupN (pa_cons (pe_ix (ixTK (K := K) rfl) (pv 0) pe_int (fun _ _ => rfl)) (pa_cons (pe_op op_add (pe_ix (ixTK (K := K) rfl) (pv 0) pe_int (fun _ _ => rfl)) (pe_ix (ixTK (K := K) rfl) (pv 1) pe_int (fun _ _ => rfl))) pa_nil)))))), ?_⟩
    walk_at "xs"
    rw [kd_set]
    cases q1
    · walk_at "xs"
      exact fun c H1 nc hc s1 => q c H1 s1 (sqt_of hc)
    · walk_at "xs"
      exact q b H (Same.refl H) hb
/-- lists of tuples (name, kind, k) -/
def TripsAt (H : Hp) (p : Addr) (ps : List (Str × Part)) : Prop := ∃ qs : List Addr, H p = some (.lst (qs.map V.ref)) ∧ TupsAt H qs (ps.map fun t => [.str t.1, .str (kd t.2.1), .int t.2.2])
theorem TripsAt.same {H H' : Hp} {p : Addr} {ps : List (Str × Part)} (h : TripsAt H p ps) (c : Same H H') : TripsAt H' p ps := let ⟨qs, a, b⟩ := h; ⟨qs, c _ _ a, b.keep fun q t e => c _ _ e⟩
def spParts (K : PySem.W.Frag) (CC : Addr) : Sp := fun vs H Q _ => ∃ (x d : Addr) (l : List (Str × Part)), vs = [.ref x] ∧ ChangeAt K CC H x d l ∧ ∀ p H' ps, H p = none → Same H H' → SortP l ps → ps.length = l.length → TripsAt H' p ps → Q (.ref p) H'
theorem ok_parts {f : Addr} {fd : FuncData} {k : Nat} (F : Fun2 K "parts" "Change.parts" s_Change_parts f fd) (T : Txt K mg CN CC CP CS aNP aNL) (D_in_order : DefOk P w K mg base k "in_order" ["names"] (spInOrder K)) : FnOk P w K mg base CX0 (k + 1) f fd ["self"] (spParts K CC) := by
  refine F.ok sc_Change_parts (fun vs H Q E h => ?_) (fun cdv A outer s H vs Q E hr h => ?_)
  · obtain ⟨x, d, l, rfl, _⟩ := h
    rfl
  · obtain ⟨x, d, l, rfl, ⟨⟨dx, hx⟩, ⟨rl, hd, hp⟩, hn, hz, hl⟩, q⟩ := h
    refine ⟨_, (pss_one (ps_ret (pe_lc (own := [("name", 1)]) (g := gName 1) (tt := tYes) rfl sc_Change_parts.nd (piL (K := K) rfl (pe_callD D_in_order (hr.mono (by omega)) (by rfl) (pa_cons (fldK (K := K) rfl (pv 0) (by rfl)) pa_nil))) (blkOk_by (own := [("name", 1)]) (N := ["self", "name"]) (sc := defScope s_Change_parts) (by decide +kernel)) (fun _ _ _ _ _ => pg_name (i := 1) sc_Change_parts.nd rfl (Or.inl rfl)) (fun _ _ _ _ _ => pts_nil) (fun _ _ _ _ _ => (pe_tupN (pa_cons (pv 1) (pa_cons (pe_ix (ixTK (K := K) rfl) (pe_dget (hu_of hr) (fldK (K := K) rfl (pv 0) (by rfl)) (pv 1) (fun _ _ => rfl)) pe_int (fun _ _ => rfl)) (pa_cons (pe_ix (ixTK (K := K) rfl) (pe_dget (hu_of hr) (fldK (K := K) rfl (pv 0) (by rfl)) (pv 1) (fun _ _ => rfl)) pe_int (fun _ _ => rfl)) pa_nil)))))))), ?_⟩
    refine ⟨_, rfl, x, CC, dx, _, _, rfl, hx, T.c_Change, T.n_Change__parts, lkP _, d, rl, rfl, hd, by rw [hp.len]; omega, by rw [hp.keys]; exact hn, fun p H1 ys np s1 hr1 hm hlen hp1 => ?_⟩
    rw [hp.keys] at hm
    rw [hp.len] at hlen
    have hall : ∀ z, z ∈ ys → ∃ n a, l.lookup z = some n ∧ sVal rl z = some (.ref a) ∧ SqT K H a (pt n) ∧ n ≠ (false, 0) := fun z hz' => by
      obtain ⟨t, ht, e⟩ := List.mem_map.mp ((hm z).mp hz')
      rcases hp.val z with ⟨e1, _⟩ | ⟨n, a, e1, e2, e3⟩
      · exact (al_none.mp e1 (by rw [← e]; exact List.mem_map.mpr ⟨t, ht, rfl⟩)).elim
      · exact ⟨n, a, e1, e2, e3, hz (z, n) (al_mem e1)⟩
    refine ⟨p, rfl, ⟨_, .inl (.inl hp1)⟩, lc_tupN (K := K) (a := p) (xs := ys.map V.str) (fun v => match v with | .str z => [.str z, .str (kd (pAt l z).1), .int (pAt l z).2] | v => [v]) (fun _ => true) (.inl (.inl hp1)) (by rw [List.length_map]; omega) (fun _ => rfl) (fun x H2 hi s2 R r => r H2 (Same.refl _)) (fun v H2 hi _ s2 R r => ?_) (fun D qs H' nD s2 hD ts => ?_)⟩
    · obtain ⟨z, hz', rfl⟩ := List.mem_map.mp hi
      obtain ⟨n, a, e1, e2, e3, _⟩ := hall z hz'
      have s3 := s1.trans s2
      have e3 : SqT K H2 a [.str (kd n.1), .int n.2] := Same.sqt s3 e3
      have en : pAt l z = n := by unfold pAt; rw [e1]; rfl
      have r : ∀ q H3, H2 q = none → Same H2 H3 → H3 q = some (.tup [.str z, .str (kd (pAt l z).1), .int (pAt l z).2]) → R (.ref q) H3 := r
      rw [en] at r
      have hx2 := s3 _ _ hx
      have hd2 := s3 _ _ hd
      have cC := T.c_Change
      have nC := T.n_Change__parts
      walk_at "xs"
      exact fun q H3 nq hq s3 => r q H3 nq s3 hq
    · have so := sortp_of hn hr1 hm
      rw [List.filter_eq_self.mpr] at so
      · refine q D H' _ (s1.free nD) (s1.trans s2) so (by rw [List.length_map, hlen]) ⟨qs, hD, ?_⟩
        rw [List.filter_eq_self.mpr (by intros; rfl), List.map_map] at ts
        rw [List.map_map]
        exact ts
      · intro t ht
        obtain ⟨z, hz', rfl⟩ := List.mem_map.mp ht
        obtain ⟨n, a, e1, e2, e3, e4⟩ := hall z hz'
        refine decide_eq_true ?_
        show pAt l z ≠ _
        unfold pAt
        rw [e1]
        exact e4
def spCLen (K : PySem.W.Frag) (CC : Addr) : Sp := fun vs H Q _ => ∃ (x d : Addr) (l : List (Str × Part)), vs = [.ref x] ∧ ChangeAt K CC H x d l ∧ Q (.int l.length) H
theorem ok_clen {f : Addr} {fd : FuncData} {k : Nat} (F : Fun2 K "__len__" "Change.__len__" s_Change___len__ f fd) (T : Txt K mg CN CC CP CS aNP aNL) : FnOk P w K mg base CX0 (k + 1) f fd ["self"] (spCLen K CC) := by
  refine F.ok sc_Change___len__ (fun vs H Q E h => ?_) (fun cdv A outer s H vs Q E hr h => ?_)
  · obtain ⟨x, d, l, rfl, _⟩ := h
    rfl
  · obtain ⟨x, d, l, rfl, ⟨⟨dx, hx⟩, ⟨rl, hd, hp⟩, hn, hz, hl⟩, q⟩ := h
    refine ⟨_, (pss_one (ps_ret (pe_callB call_lenD (by rfl) T.z_len (by decide +kernel) (pa_cons (fldK (K := K) rfl (pv 0) (by rfl)) pa_nil)))), ?_⟩
    refine ⟨_, rfl, x, CC, dx, _, _, rfl, hx, T.c_Change, T.n_Change__parts, lkP _, d, _, rfl, hd, ?_⟩
    rw [sk_len, hp.len]
    exact q
/-- two dicts of parts compared -/
theorem dhits_of {H : Hp} {rl rm : List (Str × V)} {l m : List (Str × Part)} (a : PtsAt K H rl l) (b : PtsAt K H rm m) : ∃ r, DHits K H (sk rm) (sk rl) r ∧ (r = true ↔ ∀ q ∈ l, m.lookup q.1 = some q.2) := by
  unfold PtsAt at a
  induction a with
  | nil => exact ⟨true, .nil, by simp⟩
  | @cons r q rs qs h _ ih =>
    obtain ⟨b1, h1, i1⟩ := ih
    obtain ⟨e, ad, f, g⟩ := h
    obtain ⟨r1, r2⟩ := r
    cases f
    cases e
    rcases b.val q.1 with ⟨e1, e2⟩ | ⟨n, c, e1, e2, e3⟩
    · refine ⟨false, .miss e2, by simp only [Bool.false_eq_true, false_iff]; intro h; rw [h q (List.mem_cons_self ..)] at e1; cases e1⟩
    · refine ⟨_, .hit e2 (pd_dp g) (pd_dp e3) (pd_shaped _) (pd_shaped _) h1, ?_⟩
      rw [pd_eqv, Bool.and_eq_true, decide_eq_true_iff, i1]
      constructor
      · rintro ⟨x, y⟩ u hu
        rcases List.mem_cons.mp hu with rfl | hu
        · rw [e1, x]
        · exact y u hu
      · intro h
        refine ⟨?_, fun u hu => h u (List.mem_cons_of_mem _ hu)⟩
        have := h q (List.mem_cons_self ..)
        rw [e1] at this
        exact (Option.some.inj this).symm
/-- equal as dicts -/
theorem al_same {α : Type} [DecidableEq α] {l m : List (Str × α)} (hl : (l.map (·.1)).Nodup) (hm : (m.map (·.1)).Nodup) : ((l.length = m.length) ∧ ∀ q ∈ l, m.lookup q.1 = some q.2) ↔ ∀ z, l.lookup z = m.lookup z := by
  constructor
  · rintro ⟨e, h⟩ z
    have sub : ∀ u ∈ l.map (·.1), u ∈ m.map (·.1) := fun u hu => by
      obtain ⟨q, hq, rfl⟩ := List.mem_map.mp hu
      exact List.mem_map.mpr ⟨_, al_mem (h q hq), rfl⟩
    cases c : l.lookup z with
    | some k => exact (h (z, k) (al_mem c)).symm
    | none =>
      have nz : z ∉ l.map (·.1) := al_none.mp c
      refine (al_none.mpr fun hz => ?_).symm
      have h1 := len_sub (l := z :: l.map (·.1)) (m := m.map (·.1)) (List.nodup_cons.mpr ⟨nz, hl⟩) fun u hu => by
        rcases List.mem_cons.mp hu with rfl | hu
        · exact hz
        · exact sub u hu
      rw [List.length_cons, List.length_map, List.length_map] at h1
      omega
  · intro h
    refine ⟨?_, fun q hq => by rw [← h]; exact al_of hl hq⟩
    have sub : ∀ {l m : List (Str × α)}, (∀ z, l.lookup z = m.lookup z) → ∀ u ∈ l.map (·.1), u ∈ m.map (·.1) := fun {l m} h u hu => by
      cases c : m.lookup u with
      | some k => exact List.mem_map.mpr ⟨_, al_mem c, rfl⟩
      | none => rw [← h] at c; exact (al_none.mp c hu).elim
    have h1 := len_sub hl (sub h)
    have h2 := len_sub hm (sub fun z => (h z).symm)
    rw [List.length_map, List.length_map] at h1 h2
    omega
def spCEq (K : PySem.W.Frag) (CC : Addr) : Sp := fun vs H Q _ => ∃ (x y d e : Addr) (l m : List (Str × Part)), vs = [.ref x, .ref y] ∧ ChangeAt K CC H x d l ∧ ChangeAt K CC H y e m ∧ ∀ b, (b = true ↔ ∀ z, l.lookup z = m.lookup z) → Q (.bl b) H
theorem ok_ceq {f : Addr} {fd : FuncData} {k : Nat} (F : Fun2 K "__eq__" "Change.__eq__" s_Change___eq__ f fd) (T : Txt K mg CN CC CP CS aNP aNL) : FnOk P w K mg base CX0 (k + 1) f fd ["self", "other"] (spCEq K CC) := by
  refine F.ok sc_Change___eq__ (fun vs H Q E h => ?_) (fun cdv A outer s H vs Q E hr h => ?_)
  · obtain ⟨x, y, d, e, l, m, rfl, _⟩ := h
    rfl
  · obtain ⟨x, y, d, e, l, m, rfl, ⟨⟨dx, hx⟩, ⟨rl, hd, hp⟩, hn, hz, hl⟩, ⟨⟨dy, hy⟩, ⟨rm, he, hq⟩, hn', hz', hl'⟩, q⟩ := h
    refine ⟨_, (pss_one (ps_ret (pe_and (pe_callB (call_isCN T.i_Change) (by rfl) T.z_isinstance (by decide +kernel) (pa_cons (pv 1) (pa_cons (pe_glob (v := .ref CC) rfl T.g_Change rfl) pa_nil))) (pe_one (pe_cmpR (op_eqDD (K := K) rfl (hu66 hr)) (fldK (K := K) rfl (pv 0) (by rfl)) (fldK (K := K) rfl (pv 1) (by rfl)) (nomark _)))))), ?_⟩
    obtain ⟨r, h1, h2⟩ := dhits_of hp hq
    refine ⟨_, rfl, _, dy, _, rfl, hy, _, rfl, _, rfl, x, CC, dx, _, _, rfl, hx, T.c_Change, T.n_Change__parts, lkP _, _, rfl, y, CC, dy, _, _, rfl, hy, T.c_Change, T.n_Change__parts, lkP _, d, e, _, _, r, rfl, rfl, .inl hd, .inl he, h1, q _ ?_⟩
    rw [if_neg Bool.false_ne_true, Bool.and_eq_true, beq_iff_eq, h2, sk_len, sk_len, hp.len, hq.len]
    exact al_same hn hn'
end
end T
namespace T
open PySem PySem.Spec PyProof.Rows L2 M
section
variable {P : Program} {w : World} {K : PySem.W.Frag} {mg : Str → Option Value} {base : Heap} {CN CC CP CS aNP aNL : Addr}
theorem mkC {H : Hp} {Q : VK} {y : V} {l : List (Str × Part)} (hD : (y = .non ∧ l = []) ∨ ∃ a, y = .ref a ∧ DictP K H a l) (hl : l.length ≤ 60) (hn : (l.map (·.1)).Nodup)
    (q : ∀ x D H', H x = none → H D = none → x ≠ D → Same H H' → ChangeAt K CC H' x D (pz l) → Q (.ref x) H') :
    gMake CC (spCInit K CC) [] E0 [y] H Q := by
  intro x dx nx ndx dxx
  have s4 : Same H (upd (upd H dx (.own x)) x (.ins CC dx [])) := Same.put (same_new ndx) nx
  refine ⟨x, dx, y, l, rfl, upd_same, hD.imp id (fun ⟨a, e, h⟩ => ⟨a, e, h.same s4⟩), hl, hn, fun D H' nD c h => ⟨rfl, ?_⟩⟩
  have nD0 : H D = none := s4.free nD
  have xD : x ≠ D := fun e => by rw [← e, upd_same] at nD; cases nD
  exact q x D H' nx nD0 xD (fun b o e => c b o (by simpa using ne_of_none e nx) (s4 b o e)) h
theorem jn_len (m : List (Str × Part)) : ∀ l : List (Str × Part), (jn l m).length ≤ l.length + m.length := by
  induction m with
  | nil => intro l; exact Nat.le_refl _
  | cons q m ih =>
    intro l
    have h := ih (aput l q.1 (pj (pAt l q.1) q.2))
    have h2 := aput_len l q.1 (pj (pAt l q.1) q.2)
    show (jn (aput l q.1 (pj (pAt l q.1) q.2)) m).length ≤ _
    rw [List.length_cons]
    omega
theorem jn_take {l m : List (Str × Part)} {i : Nat} {z : Str} {p : Part} (h : m[i]? = some (z, p)) : jn l (m.take (i + 1)) = aput (jn l (m.take i)) z (pj (pAt (jn l (m.take i)) z) p) := by
  unfold jn
  rw [List.take_add_one, h, List.foldl_append]
  rfl
def spShift (K : PySem.W.Frag) (CC : Addr) : Sp := fun vs H Q _ => ∃ (x y d e : Addr) (l m : List (Str × Part)), vs = [.ref x, .ref y] ∧ ChangeAt K CC H x d l ∧ ChangeAt K CC H y e m ∧ (jn l m).length ≤ 60 ∧
  ∀ r D H', H r = none → H D = none → r ≠ D → Same H H' → ChangeAt K CC H' r D (pz (jn l m)) → Q (.ref r) H'
theorem ok_shift {f : Addr} {fd : FuncData} {k : Nat} (F : Fun2 K "__rshift__" "Change.__rshift__" s_Change___rshift__ f fd) (T : Txt K mg CN CC CP CS aNP aNL) (D__joined : DefOk P w K mg base k "_joined" ["first", "second"] (spJoined K)) (I_Change : InitOk P w K mg base "Change" CC k ["self", "parts"] (spCInit K CC)) :
    FnOk P w K mg base CX0 (k + 2) f fd ["self", "other"] (spShift K CC) := by
  refine F.ok sc_Change___rshift__ (fun vs H Q E h => ?_) (fun cdv A outer s H vs Q E hr h => ?_)
  · obtain ⟨x, y, d, e, l, m, rfl, _⟩ := h
    rfl
  · obtain ⟨x, y, d, e, l, m, rfl, ⟨⟨dx, hx⟩, ⟨rl, hd, hp⟩, hn, hz, hl⟩, ⟨⟨dy, hy⟩, ⟨rm, he, hq⟩, hn', hz', hl'⟩, hj, q⟩ := h
    refine ⟨_, (pss_cons (ps_if (pt_not (pt_val (pe_callB (call_isCN T.i_Change) (by rfl) T.z_isinstance (by decide +kernel) (pa_cons (pv 1) (pa_cons (pe_glob (v := .ref CC) rfl T.g_Change rfl) pa_nil)))))
        (pss_one ps_never)
        pss_nil)
      (pss_cons (ps_set (i := 2) sc_Change___rshift__.nd rfl (Or.inl rfl) (pe_callTy call_dictN (by rfl) T.z_dict (by decide +kernel) (pa_cons (fldK (K := K) rfl (pv 0) (by rfl)) pa_nil)))
      (pss_cons (ps_lock (ps_for PassesOwn.never rfl (pi_keys (fldK (K := K) rfl (pv 1) (by rfl))) (pg_name (i := 3) sc_Change___rshift__.nd rfl (Or.inl rfl))
        (pss_one (ps_dput (hu_of hr) (pv 2) (pv 3) (pe_callD D__joined (hr.mono (by omega)) (by rfl) (pa_cons (pe_dget2 (hu_of hr) (pv 2) (pv 3) (pe_glob (v := .ref aNP) rfl T.g_NO_PART rfl) ⟨by rfl, by rfl, by rfl, by rfl⟩) (pa_cons (pe_dget (hu_of hr) (fldK (K := K) rfl (pv 1) (by rfl)) (pv 3) (fun _ _ => rfl)) pa_nil))) rfl))))
      (pss_one (ps_ret (pe_makeD I_Change (hr.mono (by omega)) (by rfl) (pa_cons (pv 2) pa_nil))))))), ?_⟩
    have cC := T.c_Change
    have nC := T.n_Change__parts
    have gNP := T.g_NO_PART
    walk_at "xs"
    refine fun p H1 np hp1 s1 => ?_
    walk_at "xs"
    have he1 := s1 _ _ he
    have ep : e ≠ p := ne_of_none he np
    refine ⟨e, _, he1, True.intro, fun od => ?_⟩
    generalize hHL : upd H1 e (.frz od (.dK (sk rm))) = HL
    have heL : HL e = some (.frz od (.dK (sk rm))) := by rw [← hHL, upd_same]
    have tl : ∀ b xs, SqT K H b xs → SqT K HL b xs := fun b xs g => by rw [← hHL]; exact tup_lock he1 (by intros; intro z; cases z) (by intros; intro z; cases z) (Same.sqt s1 g)
    have hyL : HL y = some (.ins CC dy [("_parts", .ref e)]) := by rw [← hHL, upd_ne (ne_of hy he (by intro z; cases z))]; exact s1 _ _ hy
    have hpL : HL p = some (.dK (sk rl)) := by rw [← hHL, upd_ne ep.symm]; exact hp1
    have yp : y ≠ p := ne_of_none hy np
    have ntp : NoTup HL [p] := noTup_of hpL (by intros; intro z; cases z) (by intros; intro z; cases z)
    refine ⟨_, rfl, y, CC, dy, _, _, rfl, hyL, T.c_Change, T.n_Change__parts, lkP _, e, od, rfl, .inl ⟨_, heL, ?_⟩⟩
    refine for_sk (fun i σ' H' => ∃ rp v, σ' = [some (.ref x), some (.ref y), some (.ref p), v] ∧ Chg [p] HL H' ∧ H' p = some (.dK (sk rp)) ∧ PtsAt K H' rp (jn l (m.take i))) ⟨rl, _, rfl, Chg.refl _ _, hpL, hp.keep tl⟩ (fun i σ' H' _ pv => by
      obtain ⟨rp, v, _, c, _⟩ := pv
      exact c _ _ (by simpa using ep) heL) (fun i z v σ' H' hz1 pv => ?_) (fun σ' H' pv => ?_)
    · obtain ⟨pr, b, rfl, hzm, hb⟩ := hq.at hz1
      obtain ⟨rp, v0, rfl, c, hp2, hpp⟩ := pv
      have hlt : i < m.length := (List.getElem?_eq_some_iff.mp hzm).1
      have hy2 := c _ _ (ni1 yp) hyL
      have he2 : Rd H' e (.dK (sk rm)) := .inr ⟨od, c _ _ (ni1 ep) heL⟩
      have hv : sVal rm z = some (.ref b) := sVal_at (by rw [hq.keys]; exact hn') hz1
      have hb2 : SqT K H' b (pt pr) := Chg.tup c ntp (tl _ _ hb)
      have hlen := jn_len (m.take i) l
      rw [List.length_take] at hlen
      walk_at "xs"
      -- what stands at the name so far
      obtain ⟨a, ea, ta⟩ : ∃ a, (sVal rp z).getD (.ref aNP) = .ref a ∧ SqT K H' a (pt (pAt (jn l (m.take i)) z)) := by
        unfold pAt
        rcases hpp.val z with ⟨e1, e2⟩ | ⟨n, a, e1, e2, e3⟩
        · rw [e1, e2]; exact ⟨aNP, rfl, T.t_NO_PART _⟩
        · rw [e1, e2]; exact ⟨a, rfl, e3⟩
      rw [ea]
      refine ⟨a, b, _, _, rfl, ta, hb2, fun r H3 s3 hr3 => ?_⟩
      walk_at "xs"
      have hp3 := s3 _ _ hp2
      obtain ⟨H4, e4, hp4, c4⟩ := dput_g z (.ref r) hp3 (by rw [hpp.len]; omega)
      refine ⟨p, H4, rfl, e4, ?_⟩
      have nt3 : NoTup H3 [p] := noTup_of hp3 (by intros; intro z; cases z) (by intros; intro z; cases z)
      refine ⟨_, _, rfl, (c.trans (Chg.same s3 _)).trans c4, hp4, ?_⟩
      rw [jn_take hzm]
      exact ((hpp.same s3).put hr3).keep fun _ _ g => Chg.tup c4 nt3 g
    · obtain ⟨rp, v0, rfl, c, hp2, hpp⟩ := pv
      rw [hq.len, List.take_length] at hpp
      have he2 := c _ _ (ni1 ep) heL
      refine ⟨he2, ?_⟩
      have s2 : Same H (upd H' e (.dK (sk rm))) := same_unlock s1 np he1 (by rw [hHL]; exact c)
      have hp3 : (upd H' e (.dK (sk rm))) p = some (.dK (sk rp)) := by rw [upd_ne ep.symm]; exact hp2
      have hpp3 : PtsAt K (upd H' e (.dK (sk rm))) rp (jn l m) := hpp.keep fun _ _ g => tup_lock he2 (by intros; intro z; cases z) (by intro g xs z; cases z) g
      generalize upd H' e (.dK (sk rm)) = H3 at s2 hp3 hpp3 ⊢
      walk_at "xs"
      refine mkC (.inr ⟨p, rfl, rp, hp3, hpp3⟩) hj (jn_nodup m l hn) fun r D H4 nr nD rD s4 h4 => q r D H4 (s2.free nr) (s2.free nD) rD (s2.trans s4) h4
end
end T
namespace T
open PySem PySem.Spec PyProof.Rows L2 M
section
variable {P : Program} {w : World} {K : PySem.W.Frag} {mg : Str → Option Value} {base : Heap} {CN CC CP CS aNP aNL : Addr}
/-- what a part makes of an integer -/
def dn (k : Int) (p : Part) : Int := if p.1 then p.2 else k + p.2
/-- the integer at a name -/
def iAt (l : List (Str × Int)) (z : Str) : Int := (l.lookup z).getD 0
def chg (l : List (Str × Int)) (m : List (Str × Part)) : List (Str × Int) := m.foldl (fun acc q => iput acc q.1 (dn (iAt acc q.1) q.2)) l
theorem iAt_put (l : List (Str × Int)) (z y : Str) (n : Int) : iAt (iput l z n) y = if y = z then n else iAt l y := by
  unfold iAt
  rw [iput_look]
  by_cases e : y = z
  · rw [if_pos e, if_pos e]; rfl
  · rw [if_neg e, if_neg e]
theorem dn_no (k : Int) : dn k (false, 0) = k := by
  unfold dn
  rw [if_neg (by simp)]
  exact Int.add_zero k
theorem chg_at' : ∀ (m : List (Str × Part)) (l : List (Str × Int)) (y : Str), (m.map (·.1)).Nodup → iAt (chg l m) y = dn (iAt l y) (pAt m y)
  | [], l, y, _ => (dn_no _).symm
  | q :: m, l, y, hn => by
    have hn : (q.1 :: m.map (·.1)).Nodup := hn
    obtain ⟨n1, n2⟩ := List.nodup_cons.mp hn
    show iAt (chg (iput l q.1 (dn (iAt l q.1) q.2)) m) y = _
    rw [chg_at' m _ y n2, iAt_put]
    have hm : pAt (q :: m) y = if y = q.1 then q.2 else pAt m y := by
      unfold pAt
      rw [List.lookup_cons]
      by_cases e : y = q.1
      · rw [if_pos e, e, beq_self_eq_true]; rfl
      · rw [if_neg e, beq_eq_false_iff_ne.mpr e]
    rw [hm]
    by_cases e : y = q.1
    · rw [if_pos e, if_pos e, e]
      have h0 : pAt m q.1 = (false, 0) := by
        unfold pAt
        rw [al_none.mpr n1]
        rfl
      rw [h0, dn_no]
    · rw [if_neg e, if_neg e]
theorem chg_nodup : ∀ (m : List (Str × Part)) (l : List (Str × Int)), (l.map (·.1)).Nodup → ((chg l m).map (·.1)).Nodup
  | [], _, h => h
  | q :: m, l, h => chg_nodup m _ (iput_nodup _ _ h)
theorem chg_len (m : List (Str × Part)) : ∀ l : List (Str × Int), (chg l m).length ≤ l.length + m.length := by
  induction m with
  | nil => intro l; exact Nat.le_refl _
  | cons q m ih =>
    intro l
    have h := ih (iput l q.1 (dn (iAt l q.1) q.2))
    have h2 := iput_len l q.1 (dn (iAt l q.1) q.2)
    show (chg (iput l q.1 (dn (iAt l q.1) q.2)) m).length ≤ _
    rw [List.length_cons]
    omega
theorem chg_mem : ∀ (m : List (Str × Part)) (l : List (Str × Int)) {q : Str × Int}, q ∈ chg l m → q.1 ∈ l.map (·.1) ∨ q.1 ∈ m.map (·.1)
  | [], l, q, h => .inl (List.mem_map.mpr ⟨q, h, rfl⟩)
  | r :: m, l, q, h => by
    rcases chg_mem m _ h with h | h
    · obtain ⟨s, hs, e⟩ := List.mem_map.mp h
      rcases iput_mem hs with k | k
      · exact .inl (List.mem_map.mpr ⟨s, k, e⟩)
      · exact .inr (by rw [← e, k]; exact List.mem_cons_self ..)
    · exact .inr (List.mem_cons_of_mem _ h)
theorem chg_take {l : List (Str × Int)} {m : List (Str × Part)} {i : Nat} {z : Str} {p : Part} (h : m[i]? = some (z, p)) : chg l (m.take (i + 1)) = iput (chg l (m.take i)) z (dn (iAt (chg l (m.take i)) z) p) := by
  unfold chg
  rw [List.take_add_one, h, List.foldl_append]
  rfl
theorem iget (l : List (Str × Int)) (z : Str) : (sVal (ik l) z).getD (.int 0) = .int (iAt l z) := by
  rw [ik_val]
  unfold iAt
  cases l.lookup z <;> rfl
def spDone (K : PySem.W.Frag) : Sp := fun vs H Q _ => ∃ (k : Int) (a : Addr) (p : Part), vs = [.int k, .ref a] ∧ SqT K H a (pt p) ∧ Q (.int (dn k p)) H
theorem ok_done {f : Addr} {fd : FuncData} {k : Nat} (F : Fun2 K "_done" "_done" s__done f fd) (T : Txt K mg CN CC CP CS aNP aNL) : FnOk P w K mg base CX0 (k + 1) f fd ["k", "part"] (spDone K) := by
  refine F.ok sc__done (fun vs H Q E h => ?_) (fun cdv A outer s H vs Q E hr h => ?_)
  · obtain ⟨n, a, p, rfl, _⟩ := h
    rfl
  · obtain ⟨n, a, ⟨b, m⟩, rfl, ha, q⟩ := h
    have ha : SqT K H a [.str (kd b), .int m] := ha
    refine ⟨_, (pss_cons (ps_if (pt_cmpR op_eq (pe_ix (ixTK (K := K) rfl) (pv 1) pe_int (fun _ _ => rfl)) pe_str (nomark _))
        (pss_one (ps_ret (pe_ix (ixTK (K := K) rfl) (pv 1) pe_int (fun _ _ => rfl))))
        pss_nil)
      (pss_one (ps_ret (pe_op op_add (pv 0) (pe_ix (ixTK (K := K) rfl) (pv 1) pe_int (fun _ _ => rfl)))))), ?_⟩
    walk_at "xs"
    rw [kd_set]
    cases b
    · walk_at "xs"
      exact q
    · walk_at "xs"
      exact q
def spChanged (K : PySem.W.Frag) : Sp := fun vs H Q _ => ∃ (d e : Addr) (l : List (Str × Int)) (m : List (Str × Part)), vs = [.ref d, .ref e] ∧ H d = some (.dK (sk (ik l))) ∧ DictP K H e m ∧ (l.map (·.1)).Nodup ∧ (m.map (·.1)).Nodup ∧ l.length ≤ 60 ∧ m.length ≤ 60 ∧
  ∀ p H', H p = none → Same H H' → H' p = some (.dK (sk (ik (nz (chg l m))))) → Q (.ref p) H'
theorem ok_changed {f : Addr} {fd : FuncData} {k : Nat} (F : Fun2 K "_changed" "_changed" s__changed f fd) (T : Txt K mg CN CC CP CS aNP aNL) (D__done : DefOk P w K mg base k "_done" ["k", "part"] (spDone K)) (D__without_zeros : DefOk P w K mg base k "_without_zeros" ["values"] spWz) :
    FnOk P w K mg base CX0 (k + 1) f fd ["values", "parts"] (spChanged K) := by
  refine F.ok sc__changed (fun vs H Q E h => ?_) (fun cdv A outer s H vs Q E hr h => ?_)
  · obtain ⟨d, e, l, m, rfl, _⟩ := h
    rfl
  · obtain ⟨d, e, l, m, rfl, hd, ⟨rm, he, hq⟩, hn, hn', hl, hl', q⟩ := h
    refine ⟨_, (pss_cons (ps_set (i := 2) sc__changed.nd rfl (Or.inl rfl) (pe_callTy call_dictN (by rfl) T.z_dict (by decide +kernel) (pa_cons (pv 0) pa_nil)))
      (pss_cons (ps_lock (ps_for PassesOwn.never rfl (pi_keys (pv 1)) (pg_name (i := 3) sc__changed.nd rfl (Or.inl rfl))
        (pss_one (ps_dput (hu_of hr) (pv 2) (pv 3) (pe_callD D__done (hr.mono (by omega)) (by rfl) (pa_cons (pe_dget2 (hu_of hr) (pv 2) (pv 3) pe_int ⟨by rfl, by rfl, by rfl, by rfl⟩) (pa_cons (pe_dget (hu_of hr) (pv 1) (pv 3) (fun _ _ => rfl)) pa_nil))) rfl))))
      (pss_one (ps_ret (pe_callD D__without_zeros (hr.mono (by omega)) (by rfl) (pa_cons (pv 2) pa_nil)))))), ?_⟩
    walk_at "xs"
    refine fun p H1 np hp1 s1 => ?_
    walk_at "xs"
    have he1 := s1 _ _ he
    have ep : e ≠ p := ne_of_none he np
    refine ⟨e, _, he1, True.intro, fun od => ?_⟩
    generalize hHL : upd H1 e (.frz od (.dK (sk rm))) = HL
    have heL : HL e = some (.frz od (.dK (sk rm))) := by rw [← hHL, upd_same]
    have tl : ∀ b xs, SqT K H b xs → SqT K HL b xs := fun b xs g => by rw [← hHL]; exact tup_lock he1 (by intros; intro z; cases z) (by intros; intro z; cases z) (Same.sqt s1 g)
    have hpL : HL p = some (.dK (sk (ik l))) := by rw [← hHL, upd_ne ep.symm]; exact hp1
    refine ⟨.ref e, rfl, e, od, rfl, .inl ⟨_, heL, ?_⟩⟩
    refine for_sk (fun i σ' H' => ∃ v, σ' = [some (.ref d), some (.ref e), some (.ref p), v] ∧ Chg [p] HL H' ∧ H' p = some (.dK (sk (ik (chg l (m.take i)))))) ⟨_, rfl, Chg.refl _ _, hpL⟩ (fun i σ' H' _ pv => by
      obtain ⟨_, _, c, _⟩ := pv
      exact c _ _ (ni1 ep) heL) (fun i z v σ' H' hz1 pv => ?_) (fun σ' H' pv => ?_)
    · obtain ⟨pr, b, rfl, hzm, hb⟩ := hq.at hz1
      obtain ⟨v0, rfl, c, hp2⟩ := pv
      have hlt : i < m.length := (List.getElem?_eq_some_iff.mp hzm).1
      have he2 : Rd H' e (.dK (sk rm)) := .inr ⟨od, c _ _ (ni1 ep) heL⟩
      have hv : sVal rm z = some (.ref b) := sVal_at (by rw [hq.keys]; exact hn') hz1
      have hb2 : SqT K H' b (pt pr) := sqt_D c hpL (tl _ _ hb)
      have hlen := chg_len (m.take i) l
      rw [List.length_take] at hlen
      walk_at "xs"
      rw [iget]
      refine ⟨_, b, pr, rfl, hb2, ?_⟩
      walk_at "xs"
      obtain ⟨H4, e4, hp4, c4⟩ := dput_g z (.int (dn (iAt (chg l (m.take i)) z) pr)) hp2 (by rw [ik_len]; omega)
      rw [ik_put, ← chg_take hzm] at hp4
      exact ⟨p, H4, rfl, e4, _, rfl, c.trans c4, hp4⟩
    · obtain ⟨v0, rfl, c, hp2⟩ := pv
      rw [hq.len, List.take_length] at hp2
      have he2 := c _ _ (ni1 ep) heL
      refine ⟨he2, ?_⟩
      have s2 : Same H (upd H' e (.dK (sk rm))) := same_unlock s1 np he1 (by rw [hHL]; exact c)
      have hp3 : (upd H' e (.dK (sk rm))) p = some (.dK (sk (ik (chg l m)))) := by rw [upd_ne ep.symm]; exact hp2
      generalize upd H' e (.dK (sk rm)) = H3 at s2 hp3 ⊢
      have hcl := chg_len m l
      walk_at "xs"
      exact ⟨p, chg l m, rfl, hp3, by omega, chg_nodup m l hn, fun r nr => q r _ (s2.free nr) (Same.put s2 (s2.free nr)) upd_same⟩
theorem mkN {H : Hp} {Q : VK} {y : V} {l : List (Str × Int)} (hD : (y = .non ∧ l = []) ∨ ∃ a, y = .ref a ∧ H a = some (.dK (sk (ik l)))) (hl : l.length ≤ 60) (hn : (l.map (·.1)).Nodup)
    (q : ∀ x D H', H x = none → H D = none → x ≠ D → Same H H' → NoteAt CN H' x D (nz l) → Q (.ref x) H') : gMake CN (spInit CN) [] E0 [y] H Q := by
  intro x dx nx ndx dxx
  have s4 : Same H (upd (upd H dx (.own x)) x (.ins CN dx [])) := Same.put (same_new ndx) nx
  refine ⟨x, dx, y, l, rfl, upd_same, hD.imp id (fun ⟨a, e, h⟩ => ⟨a, e, s4 _ _ h⟩), hl, hn, fun D H' nD c h => ⟨rfl, ?_⟩⟩
  have nD0 : H D = none := s4.free nD
  have xD : x ≠ D := fun e => by rw [← e, upd_same] at nD; cases nD
  exact q x D H' nx nD0 xD (fun b o e => c b o (by simpa using ne_of_none e nx) (s4 b o e)) h
def spAdd (K : PySem.W.Frag) (CN CC : Addr) : Sp := fun vs H Q _ => ∃ (x y d e : Addr) (l : List (Str × Int)) (m : List (Str × Part)), vs = [.ref x, .ref y] ∧ NoteAt CN H x d l ∧ ChangeAt K CC H y e m ∧ (nz (chg l m)).length ≤ 60 ∧
  ∀ r D H', H r = none → H D = none → r ≠ D → Same H H' → NoteAt CN H' r D (nz (chg l m)) → Q (.ref r) H'
theorem ok_add {f : Addr} {fd : FuncData} {k : Nat} (F : Fun2 K "__add__" "Notes.__add__" s_Notes___add__ f fd) (T : Txt K mg CN CC CP CS aNP aNL) (D__changed : DefOk P w K mg base k "_changed" ["values", "parts"] (spChanged K)) (I_Notes : InitOk P w K mg base "Notes" CN k ["self", "values"] (spInit CN)) :
    FnOk P w K mg base CX0 (k + 2) f fd ["self", "other"] (spAdd K CN CC) := by
  refine F.ok sc_Notes___add__ (fun vs H Q E h => ?_) (fun cdv A outer s H vs Q E hr h => ?_)
  · obtain ⟨x, y, d, e, l, m, rfl, _⟩ := h
    rfl
  · obtain ⟨x, y, d, e, l, m, rfl, ⟨⟨dx, hx⟩, hd, hn, hz, hl⟩, ⟨⟨dy, hy⟩, hm, hn', hz', hl'⟩, hj, q⟩ := h
    refine ⟨_, (pss_cons (ps_if (pt_not (pt_val (pe_callB (call_isCN T.i_Change) (by rfl) T.z_isinstance (by decide +kernel) (pa_cons (pv 1) (pa_cons (pe_glob (v := .ref CC) rfl T.g_Change rfl) pa_nil)))))
        (pss_one ps_never)
        pss_nil)
      (pss_one (ps_ret (pe_makeD I_Notes (hr.mono (by omega)) (by rfl) (pa_cons (pe_callD D__changed (hr.mono (by omega)) (by rfl) (pa_cons (fldK (K := K) rfl (pv 0) (by rfl)) (pa_cons (fldK (K := K) rfl (pv 1) (by rfl)) pa_nil))) pa_nil))))), ?_⟩
    have cC := T.c_Change
    have nC := T.n_Change__parts
    have cN := T.c_Notes
    have nN := T.n_Notes__values
    walk_at "xs"
    refine ⟨d, e, l, m, rfl, hd, hm, hn, hn', hl, hl', fun p H1 np s1 hp => ?_⟩
    walk_at "xs"
    refine mkN (.inr ⟨p, rfl, hp⟩) hj (nz_keys_nodup (chg_nodup m l hn)) fun r D H2 nr nD rD s2 h2 => ?_
    rw [nz_id (nz_ok _)] at h2
    exact q r D H2 (s1.free nr) (s1.free nD) rD (s1.trans s2) h2
def spIAdd (K : PySem.W.Frag) (CN CC : Addr) : Sp := fun vs H Q _ => ∃ (x y d e : Addr) (l : List (Str × Int)) (m : List (Str × Part)), vs = [.ref x, .ref y] ∧ NoteAt CN H x d l ∧ ChangeAt K CC H y e m ∧ (nz (chg l m)).length ≤ 60 ∧
  ∀ D H', H D = none → Chg [x] H H' → NoteAt CN H' x D (nz (chg l m)) → Q (.ref x) H'
theorem ok_iadd {f : Addr} {fd : FuncData} {k : Nat} (F : Fun2 K "__iadd__" "Notes.__iadd__" s_Notes___iadd__ f fd) (T : Txt K mg CN CC CP CS aNP aNL) (D__changed : DefOk P w K mg base k "_changed" ["values", "parts"] (spChanged K)) :
    FnOk P w K mg base CX0 (k + 1) f fd ["self", "other"] (spIAdd K CN CC) := by
  refine F.ok sc_Notes___iadd__ (fun vs H Q E h => ?_) (fun cdv A outer s H vs Q E hr h => ?_)
  · obtain ⟨x, y, d, e, l, m, rfl, _⟩ := h
    rfl
  · obtain ⟨x, y, d, e, l, m, rfl, ⟨⟨dx, hx⟩, hd, hn, hz, hl⟩, ⟨⟨dy, hy⟩, hm, hn', hz', hl'⟩, hj, q⟩ := h
    refine ⟨_, (pss_cons (ps_if (pt_not (pt_val (pe_callB (call_isCN T.i_Change) (by rfl) T.z_isinstance (by decide +kernel) (pa_cons (pv 1) (pa_cons (pe_glob (v := .ref CC) rfl T.g_Change rfl) pa_nil)))))
        (pss_one ps_never)
        pss_nil)
      (pss_cons (ps_fld (pv 0) (pe_callD D__changed (hr.mono (by omega)) (by rfl) (pa_cons (fldK (K := K) rfl (pv 0) (by rfl)) (pa_cons (fldK (K := K) rfl (pv 1) (by rfl)) pa_nil))) rfl)
      (pss_one (ps_ret (pv 0))))), ?_⟩
    have cC := T.c_Change
    have nC := T.n_Change__parts
    have cN := T.c_Notes
    have nN := T.n_Notes__values
    walk_at "xs"
    refine ⟨d, e, l, m, rfl, hd, hm, hn, hn', hl, hl', fun p H1 np s1 hp => ?_⟩
    have xp : x ≠ p := ne_of_none hx np
    walk_at "xs"
    refine ⟨x, CN, dx, _, rfl, s1 _ _ hx, cN, nN, by show (1 : Nat) < 1000; decide, ?_⟩
    walk_at "xs"
    refine q p _ np ((Chg.same s1 _).trans (Chg.set (by simp))) ⟨⟨dx, ?_⟩, by rw [upd_ne xp.symm]; exact hp, nz_keys_nodup (chg_nodup m l hn), nz_ok _, hj⟩
    rw [upd_same]
    rfl
def spCCall (K : PySem.W.Frag) (CN CC : Addr) : Sp := fun vs H Q E => ∃ x y, vs = [V.ref y, V.ref x] ∧ spAdd K CN CC [.ref x, .ref y] H Q E0
theorem ok_ccall {f : Addr} {fd : FuncData} {k : Nat} (F : Fun2 K "__call__" "Change.__call__" s_Change___call__ f fd) (T : Txt K mg CN CC CP CS aNP aNL) (M_Notes___add__ : MethOk P w K mg base CN k "__add__" ["self", "other"] (spAdd K CN CC)) :
    FnOk P w K mg base CX0 (k + 1) f fd ["self", "notes"] (spCCall K CN CC) := by
  refine F.ok sc_Change___call__ (fun vs H Q E h => ?_) (fun cdv A outer s H vs Q E hr h => ?_)
  · obtain ⟨x, y, rfl, _⟩ := h
    rfl
  · obtain ⟨x, y, rfl, h⟩ := h
    obtain ⟨x', y', d, e, l, m, exy, hN, hC, r⟩ := id h
    cases exy
    obtain ⟨⟨dx, hx⟩, _⟩ := id hN
    obtain ⟨⟨dy, hy⟩, _⟩ := id hC
    refine ⟨_, (pss_one (ps_ret (pe_op (op_bin2 (op := .Add) M_Notes___add__ T.sf_Notes T.no_Change___add__ T.d_Notes_Change (hr.mono (by omega))) (pv 1) (pv 0)))), ?_⟩
    walk_at "xs"
    exact h
end
end T
namespace T
open PySem PySem.Spec PyProof.Rows L2 M
section
variable {P : Program} {w : World} {K : PySem.W.Frag} {mg : Str → Option Value} {base : Heap} {CN CC CP CS aNP aNL : Addr}
def spLChanged (K : PySem.W.Frag) : Sp := fun vs H Q _ => ∃ (d e : Addr) (l : List (Str × Int)) (m : List (Str × Part)), vs = [.ref d, .ref e] ∧ H d = some (.dK (sk (ik l))) ∧ DictP K H e m ∧ (l.map (·.1)).Nodup ∧ (m.map (·.1)).Nodup ∧ l.length ≤ 60 ∧ m.length ≤ 60 ∧ 
  ∀ p H', H p = none → Same H H' → H' p = some (.dK (sk (ik (chg l m)))) → Q (.ref p) H'
theorem ok_lchanged {f : Addr} {fd : FuncData} {k : Nat} (F : Fun2 K "_law_changed" "_law_changed" s__law_changed f fd) (T : Txt K mg CN CC CP CS aNP aNL) :
    FnOk P w K mg base CX0 (k + 1) f fd ["values", "parts"] (spLChanged K) := by
  refine F.ok sc__law_changed (fun vs H Q E h => ?_) (fun cdv A outer s H vs Q E hr h => ?_)
  · obtain ⟨d, e, l, m, rfl, _⟩ := h
    rfl
  · obtain ⟨d, e, l, m, rfl, hd, ⟨rm, he, hq⟩, hn, hn', hl, hl', q⟩ := h
    refine ⟨_, (pss_cons (ps_set (i := 2) sc__law_changed.nd rfl (Or.inl rfl) (pe_callTy call_dictN (by rfl) T.z_dict (by decide +kernel) (pa_cons (pv 0) pa_nil)))
      (pss_cons (ps_lock (ps_for PassesOwn.never rfl (pi_keys (pv 1)) (pg_name (i := 3) sc__law_changed.nd rfl (Or.inl rfl))
        (pss_cons (ps_asg (pe_dget (hu_of hr) (pv 1) (pv 3) (fun _ _ => rfl)) (pgT (n := 2) (K := K) rfl rfl (pgs_cons (pg_name (i := 4) sc__law_changed.nd rfl (Or.inl rfl)) (pgs_cons (pg_name (i := 5) sc__law_changed.nd rfl (Or.inl rfl)) pgs_nil))))
          (pss_one (ps_dput (hu_of hr) (pv 2) (pv 3) (pe_op op_add (pv 5) (pe_op op_mulOk (pe_dget2 (hu_of hr) (pv 2) (pv 3) pe_int ⟨by rfl, by rfl, by rfl, by rfl⟩) (pe_callTy call_int1N (by rfl) T.z_int (by decide +kernel) (pa_cons (pe_cmpR op_eq (pv 4) pe_str (nomark _)) pa_nil)))) rfl)))))
      (pss_one (ps_ret (pv 2))))), ?_⟩
    walk_at "xs"
    refine fun p H1 np hp1 s1 => ?_
    walk_at "xs"
    have he1 := s1 _ _ he
    have ep : e ≠ p := ne_of_none he np
    refine ⟨e, _, he1, True.intro, fun od => ?_⟩
    generalize hHL : upd H1 e (.frz od (.dK (sk rm))) = HL
    have heL : HL e = some (.frz od (.dK (sk rm))) := by rw [← hHL, upd_same]
    have tl : ∀ b xs, SqT K H b xs → SqT K HL b xs := fun b xs g => by rw [← hHL]; exact tup_lock he1 (by intros; intro z; cases z) (by intros; intro z; cases z) (Same.sqt s1 g)
    have hpL : HL p = some (.dK (sk (ik l))) := by rw [← hHL, upd_ne ep.symm]; exact hp1
    refine ⟨.ref e, rfl, e, od, rfl, .inl ⟨_, heL, ?_⟩⟩
    refine for_sk (fun i σ' H' => ∃ v3 v4 v5, σ' = [some (.ref d), some (.ref e), some (.ref p), v3, v4, v5] ∧ Chg [p] HL H' ∧ H' p = some (.dK (sk (ik (chg l (m.take i)))))) ⟨_, _, _, rfl, Chg.refl _ _, hpL⟩ (fun i σ' H' _ pv => by
      obtain ⟨_, _, _, _, c, _⟩ := pv
      exact c _ _ (ni1 ep) heL) (fun i z v σ' H' hz1 pv => ?_) (fun σ' H' pv => ?_)
    · obtain ⟨⟨b, n⟩, ad, rfl, hzm, hb⟩ := hq.at hz1
      obtain ⟨v3, v4, v5, rfl, c, hp2⟩ := pv
      have hlt : i < m.length := (List.getElem?_eq_some_iff.mp hzm).1
      have he2 : Rd H' e (.dK (sk rm)) := .inr ⟨od, c _ _ (ni1 ep) heL⟩
      have hv : sVal rm z = some (.ref ad) := sVal_at (by rw [hq.keys]; exact hn') hz1
      have hb2 : SqT K H' ad [.str (kd b), .int n] := sqt_D c hpL (tl _ _ hb)
      have hlen := chg_len (m.take i) l
      rw [List.length_take] at hlen
      walk_at "xs"
      rw [iget]
      walk_at "xs"
      rw [kd_add]
      have ed : n + iAt (chg l (m.take i)) z * (if (!b) = true then 1 else 0) = dn (iAt (chg l (m.take i)) z) (b, n) := by
        unfold dn
        cases b
        · show n + _ * 1 = _ + n
          rw [Int.mul_one, Int.add_comm]
        · show n + _ * 0 = n
          rw [Int.mul_zero, Int.add_zero]
      rw [ed]
      obtain ⟨H4, e4, hp4, c4⟩ := dput_g z (.int (dn (iAt (chg l (m.take i)) z) (b, n))) hp2 (by rw [ik_len]; omega)
      rw [ik_put, ← chg_take hzm] at hp4
      exact ⟨p, H4, rfl, e4, _, _, _, rfl, c.trans c4, hp4⟩
    · obtain ⟨v3, v4, v5, rfl, c, hp2⟩ := pv
      rw [hq.len, List.take_length] at hp2
      have he2 := c _ _ (ni1 ep) heL
      refine ⟨he2, ?_⟩
      have s2 : Same H (upd H' e (.dK (sk rm))) := same_unlock s1 np he1 (by rw [hHL]; exact c)
      have hp3 : (upd H' e (.dK (sk rm))) p = some (.dK (sk (ik (chg l m)))) := by rw [upd_ne ep.symm]; exact hp2
      generalize upd H' e (.dK (sk rm)) = H3 at s2 hp3 ⊢
      walk_at "xs"
      exact q p H3 np s2 hp3
end
end T
namespace T
open PySem PySem.Spec PyProof.Rows L2 M
local macro_rules | `(tactic| walk_at "x") => `(tactic| (with_reducible apply x_draw; (with_unfolding_all walk_at "hp"); (first | omega | decide); (decide +kernel)))
local macro_rules | `(tactic| walk_at "x") => `(tactic| (with_reducible apply x_integer; with_unfolding_all walk_at "hp"))
section
variable {P : Program} {w : World} {K : PySem.W.Frag} {mg : Str → Option Value} {base : Heap} {CN CC CP CS aNP aNL : Addr}
def AmongP {α : Type} (zs : List Str) (l : List (Str × α)) : Prop := (l.map (·.1)).Nodup ∧ ∀ q ∈ l, q.1 ∈ zs
theorem AmongP.nil {α : Type} {zs : List Str} : AmongP zs ([] : List (Str × α)) := ⟨List.nodup_nil, fun q h => by simp at h⟩
theorem AmongP.len {α : Type} {zs : List Str} {l : List (Str × α)} (h : AmongP zs l) : l.length ≤ zs.length := by
  have := len_sub h.1 fun z hz => by obtain ⟨p, hp, e⟩ := List.mem_map.mp hz; rw [← e]; exact h.2 p hp
  rw [List.length_map] at this
  exact this
theorem AmongP.put {α : Type} {zs : List Str} {l : List (Str × α)} (h : AmongP zs l) {z : Str} (n : α) (hz : z ∈ zs) : AmongP zs (aput l z n) := ⟨aput_nodup z n h.1, fun p hp => (aput_mem hp).elim (h.2 p) fun e => by rw [e]; exact hz⟩
theorem AmongP.pz {zs : List Str} {l : List (Str × Part)} (h : AmongP zs l) : AmongP zs (pz l) := ⟨pz_nodup h.1, fun p hp => h.2 p ((pz_sub l).mem hp)⟩
def spLParts (K : PySem.W.Frag) : Sp := fun vs H Q _ => ∃ (a nm : Addr) (m n : Int) (zs : List Str), vs = [.ref a, .ref nm, .int m] ∧ H a = some (.lst [.int n]) ∧ H nm = some (.lst (zs.map V.str)) ∧ 0 ≤ m ∧ m ≤ 60 ∧ zs.length = 6 ∧
  ∀ p H' n' l, H p = none → Chg [a] H H' → H' a = some (.lst [.int n']) → DictP K H' p l → AmongP zs l → Q (.ref p) H'
theorem ok_lparts {f : Addr} {fd : FuncData} {k : Nat} (F : Fun2 K "_law_parts" "_law_parts" s__law_parts f fd) (T : Txt K mg CN CC CP CS aNP aNL) (D__law_draw : DefOk P w K mg base k "_law_draw" ["pool", "many"] spDraw) (D__law_integer : DefOk P w K mg base k "_law_integer" ["pool"] spInteger) : FnOk P w K mg base CX0 (k + 1) f fd ["pool", "names", "many"] (spLParts K) := by
  refine F.ok sc__law_parts (fun vs H Q E h => ?_) (fun cdv A outer s H vs Q E hr h => ?_)
  · obtain ⟨a, nm, m, n, zs, rfl, _⟩ := h
    rfl
  · obtain ⟨a, nm, m, n, zs, rfl, ha, hnm, m0, m60, hz6, q⟩ := h
    refine ⟨_, (pss_cons (ps_set (i := 3) sc__law_parts.nd rfl (Or.inl rfl) pe_dnewK)
      (pss_cons (ps_for PassesOwn.never rfl (pi_range1 rfl T.z_range (pa_cons (pv 2) pa_nil)) (pg_name (i := 4) sc__law_parts.nd rfl (Or.inl rfl))
        (pss_cons (ps_set (i := 5) sc__law_parts.nd rfl (Or.inl rfl) (pe_ix (ixLK (K := K) rfl) (pv 1) (pe_callD D__law_draw (hr.mono (by omega)) (by rfl) (pa_cons (pv 0) (pa_cons (pe_callB (lenK (K := K) rfl) (by rfl) T.z_len (by decide +kernel) (pa_cons (pv 1) pa_nil)) pa_nil))) (fun _ _ => rfl)))
          (pss_cons (ps_set (i := 6) sc__law_parts.nd rfl (Or.inl rfl) (pe_ix (ixLK (K := K) rfl) (pe_lstN (pa_cons pe_str (pa_cons pe_str (pa_cons pe_str pa_nil)))) (pe_callD D__law_draw (hr.mono (by omega)) (by rfl) (pa_cons (pv 0) (pa_cons pe_int pa_nil))) (fun _ _ => rfl)))
          (pss_one (ps_dput (hu_of hr) (pv 3) (pv 5) (pe_tupN (pa_cons (pv 6) (pa_cons (pe_callD D__law_integer (hr.mono (by omega)) (by rfl) (pa_cons (pv 0) pa_nil)) pa_nil))) rfl)))))
      (pss_one (ps_ret (pv 3))))), ?_⟩
    walk_at "xs"
    refine fun p H1 np hp s1 => ?_
    walk_at "xs"
    refine ⟨m, rfl, by omega, by omega, for_range (lo := 0) (n := m.toNat) (fun i σ' H' => ∃ n v4 v5 v6 l, σ' = [some (.ref a), some (.ref nm), some (.int m), some (.ref p), v4, v5, v6] ∧ Chg [a] H H' ∧ H' a = some (.lst [.int n]) ∧ H' nm = some (.lst (zs.map V.str)) ∧ DictP K H' p l ∧ AmongP zs l)
      ⟨n, _, _, _, [], rfl, Chg.same s1 _, s1 _ _ ha, s1 _ _ hnm, ⟨[], hp, .nil⟩, .nil⟩ (fun i σ' H' hi pv => ?_) (fun σ' H' pv => ?_)⟩
    · obtain ⟨n1, v4, v5, v6, l, rfl, c1, ha1, hnm1, ⟨rl, hd1, hp1⟩, am⟩ := pv
      have ll := am.len
      have anm : a ≠ nm := ne_of ha1 hnm1 (fun e => by
        have h := HO.lst.inj e
        have h2 := congrArg List.length h
        rw [List.length_map, hz6] at h2
        exact absurd h2 (by simp))
      walk_at "xs"
      rw [List.length_map, hz6]
      walk_at "xs"
      refine fun d n2 H2 d0 d6 ha2 c2 => ?_
      have hz : zs[d.toNat]? = some zs[d.toNat] := List.getElem?_eq_getElem (by omega)
      have hnm2 : H2 nm = some (.lst (zs.map V.str)) := by walk_at "hp"
      refine x_ixL (sql_of hnm2) (at_of (j := d.toNat) (by omega) (by rw [List.getElem?_map, hz]; rfl)) ?_
      walk_at "xs"
      refine fun L H3 nL hL s3 => ?_
      walk_at "xs"
      refine fun d2 n3 H4 e0 e3 ha4 c4 => ?_
      obtain ⟨b, hb⟩ := kinds_at e0 e3
      refine x_ixL (by walk_at "sql") hb ?_
      walk_at "xs"
      refine fun v n5 H5 ha5 c5 => ?_
      walk_at "xs"
      refine fun t H6 nt ht s6 => ?_
      walk_at "xs"
      have hd6 : H6 p = some (.dK (sk rl)) := by walk_at "hp"
      have hp6 : PtsAt K H6 rl l := hp1.keep fun b xs g => Same.sqt s6 (sqt_L c5 ha4 (sqt_L c4 (s3 _ _ ha2) (Same.sqt s3 (sqt_L c2 ha1 g))))
      obtain ⟨H7, e7, hd7, c7⟩ := dput_g zs[d.toNat] (.ref t) hd6 (by rw [hp6.len]; omega)
      refine ⟨p, H7, rfl, e7, ?_⟩
      refine ⟨n5, _, _, _, _, rfl, ?_, by walk_at "hp", by walk_at "hp", ⟨_, hd7, (hp6.put (p := (b, v)) (sqt_of ht)).keep fun b xs g => sqt_D c7 hd6 g⟩, am.put _ (List.getElem_mem _)⟩
      have c6 : Chg [a] H' H6 := ((((c2.trans (Chg.same s3 _)).trans c4).trans c5).trans (Chg.same s6 _))
      intro u o nu e
      have up : u ≠ p := ne_of_none e np
      exact c7 u o (ni1 up) (c6 u o nu (c1 u o nu e))
    · obtain ⟨n1, v4, v5, v6, l, rfl, c1, ha1, hnm1, hd1, am⟩ := pv
      walk_at "xs"
      exact q p H' n1 l np c1 ha1 hd1 am
end
end T
namespace T
open PySem PySem.Spec PyProof.Rows L2 M
section
variable {P : Program} {w : World} {K : PySem.W.Frag} {mg : Str → Option Value} {base : Heap} {CN CC CP CS aNP aNL : Addr}
theorem NoteAt.same {H H' : Hp} {x d : Addr} {l : List (Str × Int)} (h : NoteAt CN H x d l) (c : Same H H') : NoteAt CN H' x d l := h.keep (Chg.same c []) (by simp) (by simp)
theorem PairsAt.same {H H' : Hp} {p : Addr} {ps : List (Str × Int)} (h : PairsAt H p ps) (c : Same H H') : PairsAt H' p ps := let ⟨qs, a, b⟩ := h; ⟨qs, c _ _ a, b.keep fun q t e => c _ _ e⟩
def spLPairs : Sp := fun vs H Q _ => ∃ (d : Addr) (l : List (Str × Int)), vs = [.ref d] ∧ H d = some (.dK (sk (ik l))) ∧ l.length < 64 ∧ (l.map (·.1)).Nodup ∧ ∀ p H' ps, H p = none → Same H H' → SortOf l ps → PairsAt H' p ps → Q (.ref p) H'
theorem ok_lpairs {f : Addr} {fd : FuncData} {k : Nat} (F : Fun2 K "_law_pairs" "_law_pairs" s__law_pairs f fd) (T : Txt K mg CN CC CP CS aNP aNL) : FnOk P w K mg base CX0 (k + 1) f fd ["values"] spLPairs := by
  refine F.ok sc__law_pairs (fun vs H Q E h => ?_) (fun cdv A outer s H vs Q E hr h => ?_)
  · obtain ⟨d, l, rfl, _⟩ := h
    rfl
  · obtain ⟨a, l, rfl, ha, hl, hn, q⟩ := h
    refine ⟨_, (pss_one (ps_ret (pe_lc (own := [("name", 1)]) (g := gName 1) rfl sc__law_pairs.nd (piL (K := K) rfl (pe_callB (sortSK (K := K) rfl) (by rfl) T.z_sorted (by decide +kernel) (pa_cons (pe_lock (pe_lc (own := [("n", 2)]) (g := gName 2) (tt := tYes) rfl sc__law_pairs.nd (pi_keys (pv 0)) (blkOk_by (own := [("n", 2)]) (N := ["values", "name", "n"]) (sc := defScope s__law_pairs) (by decide +kernel)) (fun _ _ _ _ _ => pg_name (i := 2) sc__law_pairs.nd rfl (Or.inl rfl)) (fun _ _ _ _ _ => pts_nil) (fun _ _ _ _ _ => (pe_callTy SkE.call_str_str (by rfl) T.z_str (by decide +kernel) (pa_cons (pv 2) pa_nil))))) pa_nil))) (blkOk_by (own := [("name", 1)]) (N := ["values", "name", "n"]) (sc := defScope s__law_pairs) (by decide +kernel)) (fun _ _ _ _ _ => pg_name (i := 1) sc__law_pairs.nd rfl (Or.inl rfl)) (fun _ _ _ _ _ => pts_one (pt_cmpR op_ne (pe_dget (hu_of hr) (pv 0) (pv 1) (fun _ _ => rfl)) pe_int (nomark _))) (fun _ _ _ _ _ => (pe_tup (pa_cons (pv 1) (pa_cons (pe_dget (hu_of hr) (pv 0) (pv 1) (fun _ _ => rfl)) pa_nil))))))), ?_⟩
    refine ⟨a, .dK (sk (ik l)), ha, True.intro, fun od => ?_⟩
    refine ⟨.ref a, rfl, a, od, rfl, .inl ⟨sk (ik l), upd_same, fun D nD => ?_⟩⟩
    have nDa : D ≠ a := fun e => by rw [e, upd_same] at nD; cases nD
    have nH : H D = none := by rw [upd_ne nDa] at nD; exact nD
    refine lc_keys (fun i H' => H' = upd (upd H a (.frz od (.dK (sk (ik l))))) D (.lst ((l.take i).map fun p => V.str p.1))) rfl (fun i H' _ e => by rw [e, upd_ne nDa.symm, upd_same]) (fun i k v H' hk e => ?_) (fun H' e => ?_)
    · obtain ⟨z, rfl, hy⟩ := sk_get hk
      obtain ⟨n, rfl, hz⟩ := ik_get hy
      have hlt : i < l.length := (List.getElem?_eq_some_iff.mp hz).1
      subst e
      refine ⟨rfl, _, rfl, _, rfl, _, upd_same, ?_, ?_⟩
      · rw [List.length_map, List.length_take]
        exact Nat.lt_of_le_of_lt (Nat.min_le_right ..) (small1000 (by omega))
      · rw [upd_upd, List.take_add_one, hz, List.map_append]
        rfl
    · subst e
      rw [sk_len, ik_len, List.take_length]
      refine ⟨by rw [upd_ne nDa.symm, upd_same], ?_⟩
      rw [upd_back nDa ha]
      refine ⟨D, l.map (·.1), rfl, .inl (.inl (by rw [upd_same, List.map_map]; rfl)), by rw [List.length_map]; exact hl, fun ys p hp hs np => ?_⟩
      have hr1 : Rise ys := rise_of ys hs (hp.nodup_iff.mpr hn)
      have hm : ∀ z, z ∈ ys ↔ z ∈ l.map (·.1) := fun z => hp.mem_iff
      have hlen : ys.length = l.length := by rw [hp.length_eq, List.length_map]
      have s1 : Same H (upd (upd H D (.lst (l.map fun p => V.str p.1))) p (.lst (ys.map V.str))) := Same.put (same_new nH) ((same_new nH).free np)
      have hall : ∀ z, z ∈ ys → ∃ n, l.lookup z = some n := fun z hz' => by
        obtain ⟨t, ht, e⟩ := List.mem_map.mp ((hm z).mp hz')
        exact ⟨t.2, look_of hn (by rw [← e]; exact ht)⟩
      refine ⟨p, rfl, ⟨_, .inl (.inl upd_same)⟩, lc_tups (K := K) (a := p) (xs := ys.map V.str) (fun v => match v with | .str z => [.str z, .int ((l.lookup z).getD 0)] | v => [v]) (fun v => match v with | .str z => decide ((l.lookup z).getD 0 ≠ 0) | _ => true) (.inl (.inl upd_same)) (by rw [List.length_map]; omega) (fun _ => rfl) (fun i v H2 hi s2 R r => ?_) (fun i v H2 hi _ s2 R r => ?_) (fun D qs H' nD s2 hD ts => ?_)⟩
      · rw [List.getElem?_map] at hi
        obtain ⟨z, hz', rfl⟩ := Option.map_eq_some_iff.mp hi
        obtain ⟨n, e1⟩ := hall z (List.mem_of_getElem? hz')
        have hg := dget_s (l := ik l) z (.inl ((s1.trans s2) _ _ ha))
        rw [ik_val, e1] at hg
        refine ⟨_, rfl, _, rfl, a, _, rfl, hg, rfl, _, rfl, ?_⟩
        have r : R (decide ((l.lookup z).getD 0 ≠ 0)) H2 := r
        rw [e1] at r
        have e : (!decide (V.int n = V.int 0)) = decide ((some n).getD 0 ≠ 0) := by
          show (!decide (V.int n = V.int 0)) = decide (n ≠ 0)
          by_cases h : n = 0
          · rw [h]; decide
          · rw [decide_eq_true h, decide_eq_false (fun e => h (V.int.inj e))]; rfl
        rw [e]
        exact r
      · rw [List.getElem?_map] at hi
        obtain ⟨z, hz', rfl⟩ := Option.map_eq_some_iff.mp hi
        obtain ⟨n, e1⟩ := hall z (List.mem_of_getElem? hz')
        have hg := dget_s (l := ik l) z (.inl ((s1.trans s2) _ _ ha))
        rw [ik_val, e1] at hg
        refine ⟨_, rfl, _, rfl, _, rfl, a, _, rfl, hg, by show 2 ≤ sizeLine; decide, fun t nt => ?_⟩
        have g : R (.ref t) (upd H2 t (.tup [.str z, .int ((l.lookup z).getD 0)])) := r t nt
        rw [e1] at g
        exact g
      · refine q D H' ((ys.filter fun z => decide ((l.lookup z).getD 0 ≠ 0)).map fun z => (z, (l.lookup z).getD 0)) (s1.free nD) (s1.trans s2) (sort_of hn hr1 hm) ⟨qs, hD, ?_⟩
        rw [List.filter_map, List.map_map] at ts
        rw [List.map_map]
        exact ts
end
end T
namespace T
open PySem PySem.Spec PyProof.Rows L2 M
section
variable {P : Program} {w : World} {K : PySem.W.Frag} {mg : Str → Option Value} {base : Heap} {CN CC CP CS aNP aNL : Addr}
def spSame : Sp := fun vs H Q _ => ∃ (a b : Addr) (ps : List (Str × Int)), vs = [.ref a, .ref b] ∧ PairsAt H a ps ∧ PairsAt H b ps ∧ ps.length ≤ 1000 ∧ (∀ t ∈ ps, Sgn t.1) ∧ Q (.bl true) H
theorem ok_same {f : Addr} {fd : FuncData} {k : Nat} (F : Fun2 K "_law_same_pairs" "_law_same_pairs" s__law_same_pairs f fd) (T : Txt K mg CN CC CP CS aNP aNL) (D__law_is_integer : DefOk P w K mg base k "_law_is_integer" ["found"] spIsInt) : FnOk P w K mg base CX0 (k + 1) f fd ["found", "due"] spSame := by
  refine F.ok sc__law_same_pairs (fun vs H Q E h => ?_) (fun cdv A outer s H vs Q E hr h => ?_)
  · obtain ⟨a, b, ps, rfl, _⟩ := h
    rfl
  · obtain ⟨a, b, ps, rfl, ⟨qa, ha, ta⟩, ⟨qb, hb, tb⟩, hl, hsg, q⟩ := h
    have la : qa.length = ps.length := by rw [ta.1, List.length_map]
    have lb : qb.length = ps.length := by rw [tb.1, List.length_map]
    have sa : SqL K H a (qa.map V.ref) := .inl (.inl ha)
    have sb : SqL K H b (qb.map V.ref) := .inl (.inl hb)
    refine ⟨_, (pss_cons (ps_if (PW.pt (pw_or (pt_not (pt_val (pe_callB (isiK (K := K) rfl) (by rfl) T.z_isinstance (by decide +kernel) (pa_cons (pv 0) (pa_cons (pe_bltn (v := .ty "list") (by rfl) T.z_list (by decide +kernel) rfl) pa_nil))))) (pw_or1 (pt_cmpR op_ne (pe_callB (lenK (K := K) rfl) (by rfl) T.z_len (by decide +kernel) (pa_cons (pv 0) pa_nil)) (pe_callB (lenK (K := K) rfl) (by rfl) T.z_len (by decide +kernel) (pa_cons (pv 1) pa_nil)) (nomark _)))))
        (pss_one (ps_ret pe_bl))
        pss_nil)
      (pss_cons (ps_for PassesOwn.never rfl (pi_range1 rfl T.z_range (pa_cons (pe_callB (lenK (K := K) rfl) (by rfl) T.z_len (by decide +kernel) (pa_cons (pv 1) pa_nil)) pa_nil)) (pg_name (i := 2) sc__law_same_pairs.nd rfl (Or.inl rfl))
        (pss_cons (ps_set (i := 3) sc__law_same_pairs.nd rfl (Or.inl rfl) (pe_ix (ixLK (K := K) rfl) (pv 0) (pv 2) (fun _ _ => rfl)))
          (pss_cons (ps_if (PW.pt (pw_or (pt_not (pt_val (pe_callB (isiK (K := K) rfl) (by rfl) T.z_isinstance (by decide +kernel) (pa_cons (pv 3) (pa_cons (pe_bltn (v := .ty "tuple") (by rfl) T.z_tuple (by decide +kernel) rfl) pa_nil))))) (pw_or1 (pt_cmpR op_ne (pe_callB (lenK (K := K) rfl) (by rfl) T.z_len (by decide +kernel) (pa_cons (pv 3) pa_nil)) pe_int (nomark _)))))
            (pss_one (ps_ret pe_bl))
            pss_nil)
          (pss_one (ps_if (PW.pt (pw_or (pt_not (pt_val (pe_callB (isiK (K := K) rfl) (by rfl) T.z_isinstance (by decide +kernel) (pa_cons (pe_ix (ixTK (K := K) rfl) (pv 3) pe_int (fun _ _ => rfl)) (pa_cons (pe_bltn (v := .ty "str") (by rfl) T.z_str (by decide +kernel) rfl) pa_nil))))) (pw_or (pt_not (pt_val (pe_callD D__law_is_integer (hr.mono (by omega)) (by rfl) (pa_cons (pe_ix (ixTK (K := K) rfl) (pv 3) pe_int (fun _ _ => rfl)) pa_nil)))) (pw_or1 (pt_cmpR (neDK (K := K) rfl hr.units) (pv 3) (pe_ix (ixLK (K := K) rfl) (pv 1) (pv 2) (fun _ _ => rfl)) (nomark _))))))
            (pss_one (ps_ret pe_bl))
            pss_nil)))))
      (pss_one (ps_ret pe_bl)))), ?_⟩
    refine ⟨_, rfl, _, _, _, _, true, rfl, .ty "list", .base (.lst ha), kit_ty (by decide +kernel), _, rfl, ?_⟩
    refine ⟨_, rfl, a, _, rfl, .inl sa, _, rfl, b, _, rfl, .inl sb, rfl, _, rfl, ?_⟩
    rw [List.length_map, List.length_map, la, lb, decide_eq_true rfl]
    refine ⟨_, rfl, b, _, rfl, .inl sb, _, rfl, by rw [List.length_map]; omega, by rw [List.length_map]; omega, for_range (lo := 0) (n := ((qb.map V.ref).length : Int).toNat) (fun i σ' H' => H' = H ∧ ∃ v2 v3, σ' = [some (.ref a), some (.ref b), v2, v3]) ⟨rfl, _, _, rfl⟩ (fun i σ' H' hi p => ?_) (fun σ' H' p => ?_)⟩
    · obtain ⟨rfl, v2, v3, rfl⟩ := p
      rw [List.length_map] at hi
      have h1 : i < qa.length := by omega
      have h2 : i < qb.length := by omega
      have h3 : i < ps.length := by omega
      have hA := ta.2 i qa[i] _ (List.getElem?_eq_getElem h1) (by rw [List.getElem?_map, List.getElem?_eq_getElem h3]; rfl)
      have hB := tb.2 i qb[i] _ (List.getElem?_eq_getElem h2) (by rw [List.getElem?_map, List.getElem?_eq_getElem h3]; rfl)
      have eA : atI (qa.map V.ref) (0 + (i : Int)) = some (.ref qa[i]) := at_of (j := i) (by omega) (by rw [List.getElem?_map, List.getElem?_eq_getElem h1]; rfl)
      have eB : atI (qb.map V.ref) (0 + (i : Int)) = some (.ref qb[i]) := at_of (j := i) (by omega) (by rw [List.getElem?_map, List.getElem?_eq_getElem h2]; rfl)
      have tA : SqT K H' qa[i] [.str ps[i].1, .int ps[i].2] := .inl (.inl hA)
      have tB : SqT K H' qb[i] [.str ps[i].1, .int ps[i].2] := .inl (.inl hB)
      refine ⟨_, rfl, _, rfl, a, _, _, _, rfl, rfl, sa, eA, ?_⟩
      refine ⟨_, rfl, _, _, _, _, true, rfl, .ty "tuple", .base (.tup hA), kit_ty (by decide +kernel), _, rfl, ?_⟩
      refine ⟨_, rfl, _, _, rfl, .inr tA, rfl, _, rfl, ?_⟩
      refine ⟨_, rfl, _, _, _, _, rfl, rfl, tA, atI_nat (j := 0) rfl, _, _, _, _, true, rfl, .ty "str", .base (.str _), kit_ty (by decide +kernel), _, rfl, ?_⟩
      refine ⟨_, rfl, _, _, _, _, rfl, rfl, tA, atI_nat (j := 1) rfl, _, rfl, _, rfl, ?_⟩
      refine ⟨_, rfl, _, rfl, _, rfl, b, _, _, _, rfl, rfl, sb, eB, .tuple [.str ps[i].1, .int ps[i].2], .tuple [.str ps[i].1, .int ps[i].2], ?_, ?_, ?_, ?_, ?_⟩
      · exact .tup tA (.cons (.str _) (.cons (.int _) .nil))
      · exact .tup tB (.cons (.str _) (.cons (.int _) .nil))
      · exact shaped_pair (hsg _ (List.getElem_mem h3)) _
      · exact shaped_pair (hsg _ (List.getElem_mem h3)) _
      · rw [SeqAt.eqv_refl _ (SeqAt.canLay_of_shaped (shaped_pair (hsg _ (List.getElem_mem h3)) _))]
        exact ⟨_, rfl, rfl, _, _, rfl⟩
    · obtain ⟨rfl, v2, v3, rfl⟩ := p
      exact q
end
end T
namespace T
open PySem PySem.Spec PyProof.Rows L2 M
local macro_rules | `(tactic| walk_at "x") => `(tactic| with_reducible apply x_isint)
section
variable {P : Program} {w : World} {K : PySem.W.Frag} {mg : Str → Option Value} {base : Heap} {CN CC CP CS aNP aNL : Addr}
theorem sorto_len {l fl ps : List (Str × Int)} (hn : (l.map (·.1)).Nodup) (hz : ∀ p ∈ l, p.2 ≠ 0) (so : SortOf fl ps) (he : ∀ z, iAt l z = iAt fl z) : ps.length = l.length := by
  have nd := rise_nodup so.rise
  have mm : ∀ z k, (z, k) ∈ ps ↔ (z, k) ∈ l := fun z k => by
    rw [so.mem]
    have e := he z
    unfold iAt at e
    constructor
    · rintro ⟨h1, h2⟩
      rw [h1] at e
      cases e3 : l.lookup z with
      | none => rw [e3] at e; exact (h2 e.symm).elim
      | some v => rw [e3] at e; have e : v = k := e; rw [← e]; exact look_mem e3
    · intro h
      have h1 := look_of hn h
      rw [h1] at e
      have hk := hz _ h
      cases e3 : fl.lookup z with
      | none => rw [e3] at e; exact (hk e).elim
      | some v => rw [e3] at e; have e : k = v := e; exact ⟨by rw [e], hk⟩
  have h1 := len_sub nd (m := l.map (·.1)) fun z h => by
    obtain ⟨q, hq, rfl⟩ := List.mem_map.mp h
    exact List.mem_map.mpr ⟨q, (mm q.1 q.2).mp hq, rfl⟩
  have h2 := len_sub hn (m := ps.map (·.1)) fun z h => by
    obtain ⟨q, hq, rfl⟩ := List.mem_map.mp h
    exact List.mem_map.mpr ⟨q, (mm q.1 q.2).mpr hq, rfl⟩
  rw [List.length_map, List.length_map] at h1 h2
  omega
def spRight (CN : Addr) : Sp := fun vs H Q _ => ∃ (x f nm d : Addr) (l fl : List (Str × Int)) (zs : List Str), vs = [.ref x, .ref f, .ref nm] ∧ NoteAt CN H x d l ∧ H f = some (.dK (sk (ik fl))) ∧ (fl.map (·.1)).Nodup ∧ fl.length < 64 ∧ H nm = some (.lst (zs.map V.str)) ∧ zs.length ≤ 60 ∧
  (∀ z, iAt l z = iAt fl z) ∧ (∀ p ∈ l, Sgn p.1) ∧ ∀ H', Same H H' → Q (.bl true) H'
theorem ok_right {f : Addr} {fd : FuncData} {k : Nat} (F : Fun2 K "_law_right" "_law_right" s__law_right f fd) (T : Txt K mg CN CC CP CS aNP aNL) (D__law_is_integer : DefOk P w K mg base k "_law_is_integer" ["found"] spIsInt) (D__law_pairs : DefOk P w K mg base k "_law_pairs" ["values"] spLPairs) (D__law_same_pairs : DefOk P w K mg base k "_law_same_pairs" ["found", "due"] spSame)
    (M_Notes___getitem__ : MethOk P w K mg base CN k "__getitem__" ["self", "at"] (spGet CN)) (M_Notes___contains__ : MethOk P w K mg base CN k "__contains__" ["self", "x"] (spHas CN)) (M_Notes___len__ : MethOk P w K mg base CN k "__len__" ["self"] (spLen CN)) (M_Notes_pairs : MethOk P w K mg base CN k "pairs" ["self"] (spPairs CN)) :
    FnOk P w K mg base CX0 (k + 2) f fd ["notes", "values", "names"] (spRight CN) := by
  refine F.ok sc__law_right (fun vs H Q E h => ?_) (fun cdv A outer s H vs Q E hr h => ?_)
  · obtain ⟨x, f, nm, d, l, fl, zs, rfl, _⟩ := h
    rfl
  · obtain ⟨x, f, nm, d, l, fl, zs, rfl, hN, hf, hfn, hfl, hnm, hzl, he, hsg, q⟩ := h
    have hll := hN.2.2.2.2
    obtain ⟨⟨dx, hx⟩, hd, hn, hz, _⟩ := id hN
    refine ⟨_, (pss_cons (ps_set (i := 3) sc__law_right.nd rfl (Or.inl rfl) (pe_callD D__law_pairs (hr.mono (by omega)) (by rfl) (pa_cons (pv 1) pa_nil)))
      (pss_cons (ps_if (PW.pt (pw_or (pt_not (pt_val (pe_callB (call_isCN T.i_Notes) (by rfl) T.z_isinstance (by decide +kernel) (pa_cons (pv 0) (pa_cons (pe_glob (v := .ref CN) rfl T.g_Notes rfl) pa_nil))))) (pw_or1 (pt_cmpR op_ne (pe_callB (call_lenO M_Notes___len__ (hr.mono (by omega))) (by rfl) T.z_len (by decide +kernel) (pa_cons (pv 0) pa_nil)) (pe_callB (lenK (K := K) rfl) (by rfl) T.z_len (by decide +kernel) (pa_cons (pv 3) pa_nil)) (nomark _)))))
        (pss_one (ps_ret pe_bl))
        pss_nil)
      (pss_cons (ps_for PassesOwn.never rfl (piL (K := K) rfl (pv 2)) (pg_name (i := 4) sc__law_right.nd rfl (Or.inl rfl))
        (pss_cons (ps_set (i := 5) sc__law_right.nd rfl (Or.inl rfl) (pe_ixO (pv 0) (pv 4) M_Notes___getitem__ (hr.mono (by omega))))
          (pss_one (ps_if (PW.pt (pw_or (pt_not (pt_val (pe_callD D__law_is_integer (hr.mono (by omega)) (by rfl) (pa_cons (pv 5) pa_nil)))) (pw_or (pt_cmpR op_ne (pv 5) (pe_dget2 (hu_of hr) (pv 1) (pv 4) pe_int ⟨by rfl, by rfl, by rfl, by rfl⟩) (nomark _)) (pw_or1 (pt_cmpR op_ne (pe_cmpR (op_inO M_Notes___contains__ (hr.mono (by omega))) (pv 4) (pv 0) (by rfl)) (pe_cmpR op_ne (pv 5) pe_int (nomark _)) (nomark _))))))
            (pss_one (ps_ret pe_bl))
            pss_nil))))
      (pss_one (ps_ret (pe_callD D__law_same_pairs (hr.mono (by omega)) (by rfl) (pa_cons (pe_methD0 (pv 0) T.c_Notes M_Notes_pairs (hr.mono (by omega))) (pa_cons (pv 3) pa_nil)))))))), ?_⟩
    walk_at "xs"
    refine ⟨f, fl, rfl, hf, hfl, hfn, fun p H1 ps np s1 so1 hp1 => ?_⟩
    have hlen := sorto_len hn hz so1 he
    have hx1 := s1 _ _ hx
    obtain ⟨qs, hq, tq⟩ := id hp1
    have lq := tq.1
    rw [List.length_map] at lq
    have hN1 := hN.same s1
    have hnm1 := s1 _ _ hnm
    have hf1 := s1 _ _ hf
    walk_at "xs"
    refine ⟨x, d, l, rfl, hN1, _, rfl, ⟨by omega, by omega⟩, ?_⟩
    walk_at "xs"
    rw [List.length_map, lq, hlen, decide_eq_true rfl]
    walk_at "xs"
    refine ⟨⟨_, sql_of hnm1⟩, for_list (K := K) (a := nm) (xs := zs.map V.str) (fun i σ' H' => H' = H1 ∧ ∃ v4 v5, σ' = [some (.ref x), some (.ref f), some (.ref nm), some (.ref p), v4, v5]) ⟨rfl, _, _, rfl⟩ (fun i σ' H' _ p => by rw [p.1]; exact sql_of hnm1) (fun i v σ' H' hi p => ?_) (fun σ' H' p => ?_)⟩
    · obtain ⟨rfl, v4, v5, rfl⟩ := p
      rw [List.getElem?_map] at hi
      obtain ⟨z, hz', rfl⟩ := Option.map_eq_some_iff.mp hi
      walk_at "xs"
      refine ⟨x, d, l, z, rfl, hN1, ?_⟩
      walk_at "xs"
      rw [iget, show (List.lookup z l).getD 0 = iAt fl z from he z]
      walk_at "xs"
      refine ⟨x, d, l, z, rfl, hN1, _, rfl, ?_⟩
      rw [show (List.lookup z l).getD 0 = iAt fl z from he z]
      walk_at "xs"
      rw [show (decide (iAt fl z ≠ 0) != !decide (iAt fl z = 0)) = false by by_cases h : iAt fl z = 0 <;> simp [h]]
      walk_at "xs"
      exact ⟨rfl, _, _, rfl⟩
    · obtain ⟨rfl, v4, v5, rfl⟩ := p
      walk_at "xs"
      refine ⟨x, d, l, rfl, hN1, fun p3 H3 ps3 np3 s3 so3 hl3 hp3 => ?_⟩
      have e3 : ps3 = ps := so3.uniq so1 he
      subst e3
      walk_at "xs"
      exact ⟨p3, p, ps3, rfl, hp3, hp1.same s3, by omega, fun t ht => hsg (t.1, t.2) (look_mem ((so3.mem t.1 t.2).mp ht).1), q H3 (s1.trans s3)⟩
end
end T
namespace T
open PySem PySem.Spec PyProof.Rows L2 M
section
variable {P : Program} {w : World} {K : PySem.W.Frag} {mg : Str → Option Value} {base : Heap} {CN CC CP CS aNP aNL : Addr}
theorem NoteAt.chg {H H' : Hp} {x y e dx : Addr} {fs : List (Str × V)} {m : List (Str × Int)} (h : NoteAt CN H y e m) (c : Chg [x] H H') (hx : H x = some (.ins CN dx fs)) (n : y ≠ x) : NoteAt CN H' y e m :=
  h.keep c (ni1 n) (ni1 (ne_of h.2.1 hx (by intro z; cases z)))
theorem NoteAt.cell {H : Hp} {x d : Addr} {l : List (Str × Int)} (h : NoteAt CN H x d l) : ∃ dx, H x = some (.ins CN dx [("_values", .ref d)]) := h.1
theorem chg_among {zs : List Str} {l : List (Str × Int)} {m : List (Str × Part)} (a : AmongP zs l) (b : AmongP zs m) : AmongP zs (chg l m) := ⟨chg_nodup m l a.1, fun q hq => by
  rcases chg_mem m l hq with h | h
  · obtain ⟨r, hr, e⟩ := List.mem_map.mp h
    rw [← e]; exact a.2 r hr
  · obtain ⟨r, hr, e⟩ := List.mem_map.mp h
    rw [← e]; exact b.2 r hr⟩
theorem nz_among {zs : List Str} {l : List (Str × Int)} (a : AmongP zs l) : AmongP zs (nz l) := ⟨nz_keys_nodup a.1, fun q hq => a.2 q ((nz_sub l).mem hq)⟩
theorem iput_among {zs : List Str} {l : List (Str × Int)} (a : AmongP zs l) {z : Str} (n : Int) (hz : z ∈ zs) : AmongP zs (iput l z n) := ⟨iput_nodup z n a.1, fun p hp => (iput_mem hp).elim (a.2 p) fun e => by rw [e]; exact hz⟩
theorem iAt_nz {l : List (Str × Int)} (h : (l.map (·.1)).Nodup) (z : Str) : iAt (nz l) z = iAt l z := nz_look h z
/-- what stands at the law's helpers' doors -/
structure Door (K : PySem.W.Frag) (CN CC : Addr) (H : Hp) (ch cd va du nm : Addr) (l dl : List (Str × Int)) (m : List (Str × Part)) (zs : List Str) : Prop where
  hC : ChangeAt K CC H ch cd m
  hv : H va = some (.dK (sk (ik l)))
  hd : H du = some (.dK (sk (ik dl)))
  hn : H nm = some (.lst (zs.map V.str))
  al : AmongP zs l
  ad : AmongP zs dl
  am : AmongP zs m
  z6 : zs.length = 6
  nms : ∀ z ∈ zs, IsName z
  eq : ∀ z, iAt dl z = dn (iAt l z) (pAt m z)
theorem Door.same {H H' : Hp} {ch cd va du nm : Addr} {l dl : List (Str × Int)} {m : List (Str × Part)} {zs : List Str} (d : Door K CN CC H ch cd va du nm l dl m zs) (s : Same H H') : Door K CN CC H' ch cd va du nm l dl m zs :=
  ⟨d.hC.same s, s _ _ d.hv, s _ _ d.hd, s _ _ d.hn, d.al, d.ad, d.am, d.z6, d.nms, d.eq⟩
/-- the notes with what is due are right -/
theorem right_at {H : Hp} {x d f nm : Addr} {l fl : List (Str × Int)} {zs : List Str} {Q : VK} {E : XK} (hN : NoteAt CN H x d l) (hf : H f = some (.dK (sk (ik fl)))) (hn : H nm = some (.lst (zs.map V.str))) (a : AmongP zs l) (b : AmongP zs fl) (z6 : zs.length = 6) (nms : ∀ z ∈ zs, IsName z) (e : ∀ z, iAt l z = iAt fl z) (q : ∀ H', Same H H' → Q (.bl true) H') : spRight CN (([.ref x, .ref f, .ref nm] : List V) ++ []) H Q E :=
  ⟨x, f, nm, d, l, fl, zs, rfl, hN, hf, b.1, by have := b.len; omega, hn, by omega, e, fun p hp => (nms _ (a.2 p hp)).sgn, q⟩
def spNew (K : PySem.W.Frag) (CN CC : Addr) : Sp := fun vs H Q _ => ∃ (ch cd va du nm : Addr) (l dl : List (Str × Int)) (m : List (Str × Part)) (zs : List Str) (o : Int) (z : Str), vs = [.ref ch, .ref va, .ref du, .ref nm, .int o, .str z] ∧ Door K CN CC H ch cd va du nm l dl m zs ∧ z ∈ zs ∧ ∀ H', Same H H' → Q (.bl true) H'
theorem ok_new {f : Addr} {fd : FuncData} {k : Nat} (F : Fun2 K "_law_new_notes" "_law_new_notes" s__law_new_notes f fd) (T : Txt K mg CN CC CP CS aNP aNL) (D__law_right : DefOk P w K mg base k "_law_right" ["notes", "values", "names"] (spRight CN))
    (I_Notes : InitOk P w K mg base "Notes" CN k ["self", "values"] (spInit CN)) (M_Change___call__ : MethOk P w K mg base CC k "__call__" ["self", "notes"] (spCCall K CN CC)) (M_Notes___add__ : MethOk P w K mg base CN k "__add__" ["self", "other"] (spAdd K CN CC)) (M_Notes___setitem__ : MethOk P w K mg base CN k "__setitem__" ["self", "at", "worth"] (spSet CN)) :
    FnOk P w K mg base CX0 (k + 2) f fd ["change", "values", "due", "names", "order", "name"] (spNew K CN CC) := by
  refine F.ok sc__law_new_notes (fun vs H Q E h => ?_) (fun cdv A outer s H vs Q E hr h => ?_)
  · obtain ⟨ch, cd, va, du, nm, l, dl, m, zs, o, z, rfl, _⟩ := h
    rfl
  · obtain ⟨ch, cd, va, du, nm, l, dl, m, zs, o, z, rfl, dr, hz, q⟩ := h
    refine ⟨_, (pss_cons (ps_set (i := 6) sc__law_new_notes.nd rfl (Or.inl rfl) (pe_makeD I_Notes (hr.mono (by omega)) (by rfl) (pa_cons (pe_callTy call_dictN (by rfl) T.z_dict (by decide +kernel) (pa_cons (pv 1) pa_nil)) pa_nil)))
      (Evl.pss_cut (ps_if (pt_cmpR op_eq (pv 4) pe_int (nomark _))
        (pss_cons (ps_set (i := 7) sc__law_new_notes.nd rfl (Or.inl rfl) (pe_callI (pv 0) M_Change___call__ (hr.mono (by omega)) (pa_cons (pv 6) pa_nil)))
          (pss_one (ps_set (i := 8) sc__law_new_notes.nd rfl (Or.inl rfl) (pe_op (op_bin2 (op := .Add) M_Notes___add__ T.sf_Notes T.no_Change___add__ T.d_Notes_Change (hr.mono (by omega))) (pv 6) (pv 0)))))
        (pss_cons (ps_set (i := 8) sc__law_new_notes.nd rfl (Or.inl rfl) (pe_op (op_bin2 (op := .Add) M_Notes___add__ T.sf_Notes T.no_Change___add__ T.d_Notes_Change (hr.mono (by omega))) (pv 6) (pv 0)))
          (pss_one (ps_set (i := 7) sc__law_new_notes.nd rfl (Or.inl rfl) (pe_callI (pv 0) M_Change___call__ (hr.mono (by omega)) (pa_cons (pv 6) pa_nil))))))
      (pss_cons (ps_if (PW.pt (pw_or (pt_not (pt_val (pe_callD D__law_right (hr.mono (by omega)) (by rfl) (pa_cons (pv 7) (pa_cons (pv 2) (pa_cons (pv 3) pa_nil)))))) (pw_or1 (pt_not (pt_val (pe_callD D__law_right (hr.mono (by omega)) (by rfl) (pa_cons (pv 8) (pa_cons (pv 2) (pa_cons (pv 3) pa_nil)))))))))
        (pss_one (ps_ret pe_bl))
        pss_nil)
      (pss_cons (ps_asg (pe_op op_add pe_int (pe_callTy call_int1N (by rfl) T.z_int (by decide +kernel) (pa_cons (pe_cmpR op_eq (pe_dget2 (hu_of hr) (pv 2) (pv 5) pe_int ⟨by rfl, by rfl, by rfl, by rfl⟩) pe_int (nomark _)) pa_nil))) (pg_sub (pv 7) (pv 5) (set_own M_Notes___setitem__ T.q_Notes (hr.mono (by omega)))))
      (pss_cons (ps_if (PW.pt (pw_or (pt_not (pt_val (pe_callD D__law_right (hr.mono (by omega)) (by rfl) (pa_cons (pv 8) (pa_cons (pv 2) (pa_cons (pv 3) pa_nil)))))) (pw_or1 (pt_not (pt_val (pe_callD D__law_right (hr.mono (by omega)) (by rfl) (pa_cons (pv 6) (pa_cons (pv 1) (pa_cons (pv 3) pa_nil)))))))))
        (pss_one (ps_ret pe_bl))
        pss_nil)
      (pss_cons (ps_asg (pe_op op_add pe_int (pe_callTy call_int1N (by rfl) T.z_int (by decide +kernel) (pa_cons (pe_cmpR op_eq (pe_dget2 (hu_of hr) (pv 2) (pv 5) pe_int ⟨by rfl, by rfl, by rfl, by rfl⟩) pe_int (nomark _)) pa_nil))) (pg_sub (pv 8) (pv 5) (set_own M_Notes___setitem__ T.q_Notes (hr.mono (by omega)))))
      (pss_cons (ps_if (pt_not (pt_val (pe_callD D__law_right (hr.mono (by omega)) (by rfl) (pa_cons (pv 6) (pa_cons (pv 1) (pa_cons (pv 3) pa_nil))))))
        (pss_one (ps_ret pe_bl))
        pss_nil)
      (pss_cons (ps_set (i := 9) sc__law_new_notes.nd rfl (Or.inl rfl) (pe_op (op_bin2 (op := .Add) M_Notes___add__ T.sf_Notes T.no_Change___add__ T.d_Notes_Change (hr.mono (by omega))) (pv 6) (pv 0)))
      (pss_cons (ps_set (i := 7) sc__law_new_notes.nd rfl (Or.inl rfl) (pe_callI (pv 0) M_Change___call__ (hr.mono (by omega)) (pa_cons (pv 6) pa_nil)))
      (pss_cons (ps_asg (pe_op op_add pe_int (pe_callTy call_int1N (by rfl) T.z_int (by decide +kernel) (pa_cons (pe_cmpR op_eq (pe_dget2 (hu_of hr) (pv 1) (pv 5) pe_int ⟨by rfl, by rfl, by rfl, by rfl⟩) pe_int (nomark _)) pa_nil))) (pg_sub (pv 6) (pv 5) (set_own M_Notes___setitem__ T.q_Notes (hr.mono (by omega)))))
      (pss_one (ps_ret (pe_and (pe_callD D__law_right (hr.mono (by omega)) (by rfl) (pa_cons (pv 9) (pa_cons (pv 2) (pa_cons (pv 3) pa_nil)))) (pe_one (pe_callD D__law_right (hr.mono (by omega)) (by rfl) (pa_cons (pv 7) (pa_cons (pv 2) (pa_cons (pv 3) pa_nil)))))))))))))))))), ?_⟩
    have hv := dr.hv
    have z6 := dr.z6
    have ll := dr.al.len
    have lm := dr.am.len
    walk_at "xs"
    refine fun p1 H1 np1 hp1 s1 => ?_
    walk_at "xs"
    refine mkN (.inr ⟨p1, rfl, hp1⟩) (by omega) dr.al.1 fun x D H2 nx nD xD s2 hX => ?_
    have aX := nz_among dr.al
    have aR := nz_among (chg_among aX dr.am)
    have lR := aR.len
    have eR : ∀ z, iAt (nz (chg (nz l) m)) z = iAt dl z := fun z => by
      rw [iAt_nz (chg_nodup _ _ aX.1), chg_at' _ _ _ dr.am.1, iAt_nz dr.al.1, dr.eq]
    have eX : ∀ z, iAt (nz l) z = iAt l z := fun z => iAt_nz dr.al.1 z
    have d2 := (dr.same s1).same s2
    obtain ⟨⟨dc, hc⟩, _⟩ := id d2.hC
    obtain ⟨dx, hx⟩ := hX.cell
    walk_at "xs"
    refine x_cut (fun σ' H' => ∃ rc Dc ad Da, σ' = [some (.ref ch), some (.ref va), some (.ref du), some (.ref nm), some (.int o), some (.str z), some (.ref x), some (.ref rc), some (.ref ad), none] ∧ Same H2 H' ∧ NoteAt CN H' rc Dc (nz (chg (nz l) m)) ∧ NoteAt CN H' ad Da (nz (chg (nz l) m)) ∧ rc ≠ ad ∧ H2 rc = none ∧ H2 ad = none) ?_ (fun σ' H3 hM => ?_)
    · walk_at "xs"
      refine ite2 (fun _ => ?_) (fun _ => ?_)
      · walk_at "xs"
        refine ⟨x, ch, rfl, x, ch, D, cd, nz l, m, rfl, hX, d2.hC, by omega, fun rc Dc H3 nrc nDc rcD s3 hR => ?_⟩
        have hX3 := hX.same s3
        have d3 := d2.same s3
        walk_at "xs"
        refine ⟨x, ch, D, cd, nz l, m, rfl, hX3, d3.hC, by omega, fun ad Da H4 nad nDa adD s4 hA => ?_⟩
        obtain ⟨dr1, hr1⟩ := hR.cell
        walk_at "xs"
        exact ⟨rc, Dc, ad, Da, rfl, s3.trans s4, hR.same s4, hA, ne_of_none hr1 nad, nrc, s3.free nad⟩
      · walk_at "xs"
        refine ⟨x, ch, D, cd, nz l, m, rfl, hX, d2.hC, by omega, fun ad Da H3 nad nDa adD s3 hA => ?_⟩
        have hX3 := hX.same s3
        have d3 := d2.same s3
        walk_at "xs"
        refine ⟨x, ch, rfl, x, ch, D, cd, nz l, m, rfl, hX3, d3.hC, by omega, fun rc Dc H4 nrc nDc rcD s4 hR => ?_⟩
        obtain ⟨dr1, hr1⟩ := hA.cell
        walk_at "xs"
        exact ⟨rc, Dc, ad, Da, rfl, s3.trans s4, hR, hA.same s4, (ne_of_none hr1 nrc).symm, s3.free nrc, nad⟩
    · obtain ⟨rc, Dc, ad, Da, rfl, s3, hR, hA, rca, nrc, nad⟩ := hM
      have d3 := d2.same s3
      have hX3 := hX.same s3
      walk_at "xs"
      refine right_at hR d3.hd d3.hn aR dr.ad z6 dr.nms eR fun H4 s4 => ?_
      walk_at "xs"
      have d4 := d3.same s4
      refine right_at (hA.same s4) d4.hd d4.hn aR dr.ad z6 dr.nms eR fun H5 s5 => ?_
      have d5 := d4.same s5
      have s45 : Sm H3 H5 := s4.trans s5
      have hR5 := hR.same s45
      have hA5 := hA.same s45
      have hX5 := hX3.same s45
      have s25 : Sm H2 H5 := Same.trans s3 s45
      obtain ⟨dr5, hr5⟩ := hR5.cell
      have hd5 := d5.hd
      walk_at "xs"
      rw [iget]
      walk_at "xs"
      refine ⟨rc, Dc, _, z, _, rfl, hR5, by omega, fun D6 H6 nD6 c6 hR6 => ?_⟩
      have s26 : Sm H2 H6 := Same.chg s25 nrc c6
      have d6 := d2.same s26
      have hA6 := hA5.chg c6 hr5 rca.symm
      have hX6 := hX5.chg c6 hr5 (ne_of_none hx nrc)
      walk_at "xs"
      refine right_at hA6 d6.hd d6.hn aR dr.ad z6 dr.nms eR fun H7 s7 => ?_
      have d7 := d6.same s7
      walk_at "xs"
      refine right_at (hX6.same s7) d7.hv d7.hn aX dr.al z6 dr.nms eX fun H8 s8 => ?_
      have d8 := d7.same s8
      have hA8 := (hA6.same s7).same s8
      have hX8 := (hX6.same s7).same s8
      obtain ⟨da8, ha8⟩ := hA8.cell
      have hd8 := d8.hd
      walk_at "xs"
      rw [iget]
      walk_at "xs"
      refine ⟨ad, Da, _, z, _, rfl, hA8, by omega, fun D9 H9 nD9 c9 hA9 => ?_⟩
      have s29 : Sm H2 H9 := Same.chg (Same.trans s26 (s7.trans s8)) nad c9
      have d9 := d2.same s29
      have hX9 := hX8.chg c9 ha8 (ne_of_none hx nad)
      walk_at "xs"
      refine right_at hX9 d9.hv d9.hn aX dr.al z6 dr.nms eX fun I0 t0 => ?_
      have e0 := d9.same t0
      have kX0 := hX9.same t0
      obtain ⟨dx0, hx0⟩ := kX0.cell
      obtain ⟨⟨dc0, hc0⟩, _⟩ := id e0.hC
      walk_at "xs"
      refine ⟨x, ch, _, cd, nz l, m, rfl, kX0, e0.hC, by omega, fun ag Dg I1 nag nDg agD t1 hG => ?_⟩
      have e1 := e0.same t1
      have kX1 := kX0.same t1
      walk_at "xs"
      refine ⟨x, ch, rfl, x, ch, _, cd, nz l, m, rfl, kX1, e1.hC, by omega, fun rb Db I2 nrb nDb rbD t2 hB => ?_⟩
      have e2 := e1.same t2
      have kX2 := kX1.same t2
      have kG2 := hG.same t2
      obtain ⟨dx2, hx2⟩ := kX2.cell
      have hv2 := e2.hv
      walk_at "xs"
      rw [iget]
      walk_at "xs"
      refine ⟨x, _, _, z, _, rfl, kX2, by have := aX.len; omega, fun D3 I3 nD3 c3 hX3' => ?_⟩
      have sA : Sm H1 I3 := Same.chg (Same.trans s2 (Same.trans s29 (t0.trans (t1.trans t2)))) nx c3
      have e3 := (dr.same s1).same sA
      have kG3 := kG2.chg c3 hx2 (ne_of_none hx0 nag).symm
      have kB3 := hB.chg c3 hx2 (ne_of_none (t1 _ _ hx0) nrb).symm
      walk_at "xs"
      refine right_at kG3 e3.hd e3.hn aR dr.ad z6 dr.nms eR fun I4 t4 => ?_
      have e4 := e3.same t4
      walk_at "xs"
      exact right_at (kB3.same t4) e4.hd e4.hn aR dr.ad z6 dr.nms eR fun I5 t5 => q I5 (Same.trans s1 (Same.trans sA (t4.trans t5)))
end
end T
namespace T
open PySem PySem.Spec PyProof.Rows L2 M
section
variable {P : Program} {w : World} {K : PySem.W.Frag} {mg : Str → Option Value} {base : Heap} {CN CC CP CS aNP aNL : Addr}
def spPlace (K : PySem.W.Frag) (CN CC : Addr) : Sp := fun vs H Q _ => ∃ (ch cd va du tw nm : Addr) (l dl tl : List (Str × Int)) (m : List (Str × Part)) (zs : List Str), vs = [.ref ch, .ref va, .ref du, .ref tw, .ref nm] ∧ Door K CN CC H ch cd va du nm l dl m zs ∧ H tw = some (.dK (sk (ik tl))) ∧ AmongP zs tl ∧ (∀ z, iAt tl z = dn (iAt dl z) (pAt m z)) ∧ ∀ H', Same H H' → Q (.bl true) H'
theorem ok_place {f : Addr} {fd : FuncData} {k : Nat} (F : Fun2 K "_law_in_place" "_law_in_place" s__law_in_place f fd) (T : Txt K mg CN CC CP CS aNP aNL) (D__law_right : DefOk P w K mg base k "_law_right" ["notes", "values", "names"] (spRight CN))
    (I_Notes : InitOk P w K mg base "Notes" CN k ["self", "values"] (spInit CN)) (M_Change___call__ : MethOk P w K mg base CC k "__call__" ["self", "notes"] (spCCall K CN CC)) (M_Notes___add__ : MethOk P w K mg base CN k "__add__" ["self", "other"] (spAdd K CN CC)) (M_Notes___iadd__ : MethOk P w K mg base CN k "__iadd__" ["self", "other"] (spIAdd K CN CC)) :
    FnOk P w K mg base CX0 (k + 2) f fd ["change", "values", "due", "twice", "names"] (spPlace K CN CC) := by
  refine F.ok sc__law_in_place (fun vs H Q E h => ?_) (fun cdv A outer s H vs Q E hr h => ?_)
  · obtain ⟨ch, cd, va, du, tw, nm, l, dl, tl, m, zs, rfl, _⟩ := h
    rfl
  · obtain ⟨ch, cd, va, du, tw, nm, l, dl, tl, m, zs, rfl, dr, htw, atl, etl, q⟩ := h
    refine ⟨_, (pss_cons (ps_set (i := 5) sc__law_in_place.nd rfl (Or.inl rfl) (pe_makeD I_Notes (hr.mono (by omega)) (by rfl) (pa_cons (pe_callTy call_dictN (by rfl) T.z_dict (by decide +kernel) (pa_cons (pv 1) pa_nil)) pa_nil)))
      (pss_cons (ps_set (i := 6) sc__law_in_place.nd rfl (Or.inl rfl) (pe_makeD I_Notes (hr.mono (by omega)) (by rfl) (pa_cons (pe_callTy call_dictN (by rfl) T.z_dict (by decide +kernel) (pa_cons (pv 1) pa_nil)) pa_nil)))
      (pss_cons (ps_set (i := 7) sc__law_in_place.nd rfl (Or.inl rfl) (pv 5))
      (pss_cons (ps_set (i := 8) sc__law_in_place.nd rfl (Or.inl rfl) (pe_op (op_bin2 (op := .Add) M_Notes___add__ T.sf_Notes T.no_Change___add__ T.d_Notes_Change (hr.mono (by omega))) (pv 5) (pv 0)))
      (pss_cons (ps_aug (i := 5) sc__law_in_place.nd rfl (Or.inl rfl) (pv 0) (ip_own (op := .Add) M_Notes___iadd__ T.sf_Notes (hr.mono (by omega))))
      (pss_cons (ps_if (PW.pt (pw_or (pt_not (pt_val (pe_callD D__law_right (hr.mono (by omega)) (by rfl) (pa_cons (pv 5) (pa_cons (pv 2) (pa_cons (pv 4) pa_nil)))))) (pw_or1 (pt_not (pt_val (pe_callD D__law_right (hr.mono (by omega)) (by rfl) (pa_cons (pv 7) (pa_cons (pv 2) (pa_cons (pv 4) pa_nil)))))))))
        (pss_one (ps_ret pe_bl))
        pss_nil)
      (pss_cons (ps_if (PW.pt (pw_or (pt_not (pt_val (pe_callD D__law_right (hr.mono (by omega)) (by rfl) (pa_cons (pv 6) (pa_cons (pv 1) (pa_cons (pv 4) pa_nil)))))) (pw_or1 (pt_not (pt_val (pe_callD D__law_right (hr.mono (by omega)) (by rfl) (pa_cons (pv 8) (pa_cons (pv 2) (pa_cons (pv 4) pa_nil)))))))))
        (pss_one (ps_ret pe_bl))
        pss_nil)
      (pss_cons (ps_aug (i := 5) sc__law_in_place.nd rfl (Or.inl rfl) (pv 0) (ip_own (op := .Add) M_Notes___iadd__ T.sf_Notes (hr.mono (by omega))))
      (pss_cons (ps_if (PW.pt (pw_or (pt_not (pt_val (pe_callD D__law_right (hr.mono (by omega)) (by rfl) (pa_cons (pv 7) (pa_cons (pv 3) (pa_cons (pv 4) pa_nil)))))) (pw_or1 (pt_not (pt_val (pe_callD D__law_right (hr.mono (by omega)) (by rfl) (pa_cons (pv 8) (pa_cons (pv 2) (pa_cons (pv 4) pa_nil)))))))))
        (pss_one (ps_ret pe_bl))
        pss_nil)
      (pss_one (ps_ret (pe_callD D__law_right (hr.mono (by omega)) (by rfl) (pa_cons (pe_callI (pv 0) M_Change___call__ (hr.mono (by omega)) (pa_cons (pv 6) pa_nil)) (pa_cons (pv 2) (pa_cons (pv 4) pa_nil))))))))))))))), ?_⟩
    have hv := dr.hv
    have z6 := dr.z6
    have ll := dr.al.len
    have lm := dr.am.len
    walk_at "xs"
    refine fun p1 H1 np1 hp1 s1 => ?_
    walk_at "xs"
    refine mkN (.inr ⟨p1, rfl, hp1⟩) (by omega) dr.al.1 fun x D H2 nx nD xD s2 hX => ?_
    have aX := nz_among dr.al
    have aR := nz_among (chg_among aX dr.am)
    have aS := nz_among (chg_among aR dr.am)
    have lR := aR.len
    have lS := aS.len
    have eR : ∀ z, iAt (nz (chg (nz l) m)) z = iAt dl z := fun z => by
      rw [iAt_nz (chg_nodup _ _ aX.1), chg_at' _ _ _ dr.am.1, iAt_nz dr.al.1, dr.eq]
    have eS : ∀ z, iAt (nz (chg (nz (chg (nz l) m)) m)) z = iAt tl z := fun z => by
      rw [iAt_nz (chg_nodup _ _ aR.1), chg_at' _ _ _ dr.am.1, eR, etl]
    have eX : ∀ z, iAt (nz l) z = iAt l z := fun z => iAt_nz dr.al.1 z
    have s02 : Sm H H2 := s1.trans s2
    have hv2 : H2 va = _ := s02 _ _ hv
    obtain ⟨dx, hx⟩ := hX.cell
    walk_at "xs"
    refine fun p3 H3 np3 hp3 s3 => ?_
    walk_at "xs"
    refine mkN (.inr ⟨p3, rfl, hp3⟩) (by omega) dr.al.1 fun y Dy H4 ny nDy yD s4 hY => ?_
    have s04 : Sm H H4 := Same.trans s02 (s3.trans s4)
    have d4 := dr.same s04
    have hX4 := (hX.same s3).same s4
    obtain ⟨dx4, hx4⟩ := hX4.cell
    obtain ⟨⟨dc4, hc4⟩, _⟩ := id d4.hC
    have xy : x ≠ y := ne_of_none (s3 _ _ hx) ny
    walk_at "xs"
    refine ⟨x, ch, _, cd, nz l, m, rfl, hX4, d4.hC, by omega, fun ad Da H5 nad nDa adD s5 hA => ?_⟩
    have d5 := d4.same s5
    have hX5 := hX4.same s5
    have hY5 := hY.same s5
    obtain ⟨dx5, hx5⟩ := hX5.cell
    obtain ⟨⟨dc5, hc5⟩, _⟩ := id d5.hC
    have xad : x ≠ ad := ne_of_none hx4 nad
    walk_at "xs"
    refine ⟨x, ch, _, cd, nz l, m, rfl, hX5, d5.hC, by omega, fun D6 H6 nD6 c6 hX6 => ?_⟩
    have s16 : Sm H1 H6 := Same.chg (s2.trans (s3.trans (s4.trans s5))) nx c6
    have d6 := (dr.same s1).same s16
    have hY6 := hY5.chg c6 hx5 xy.symm
    have hA6 := hA.chg c6 hx5 xad.symm
    walk_at "xs"
    refine right_at hX6 d6.hd d6.hn aR dr.ad z6 dr.nms eR fun H7 s7 => ?_
    have d7 := d6.same s7
    walk_at "xs"
    refine right_at (hX6.same s7) d7.hd d7.hn aR dr.ad z6 dr.nms eR fun H8 s8 => ?_
    have d8 := d7.same s8
    walk_at "xs"
    refine right_at ((hY6.same s7).same s8) d8.hv d8.hn aX dr.al z6 dr.nms eX fun H9 s9 => ?_
    have d9 := d8.same s9
    walk_at "xs"
    refine right_at (((hA6.same s7).same s8).same s9) d9.hd d9.hn aR dr.ad z6 dr.nms eR fun I0 t0 => ?_
    have s60 : Sm H6 I0 := s7.trans (s8.trans (s9.trans t0))
    have e0 := d6.same s60
    have kX0 := hX6.same s60
    have kY0 := hY6.same s60
    have kA0 := hA6.same s60
    obtain ⟨dx0, hx0⟩ := kX0.cell
    obtain ⟨⟨dc0, hc0⟩, _⟩ := id e0.hC
    walk_at "xs"
    refine ⟨x, ch, _, cd, _, m, rfl, kX0, e0.hC, by omega, fun D1 I1 nD1 c1 kX1 => ?_⟩
    have s11 : Sm H1 I1 := Same.chg (Same.trans s16 s60) nx c1
    have e1 := (dr.same s1).same s11
    have kY1 := kY0.chg c1 hx0 xy.symm
    have kA1 := kA0.chg c1 hx0 xad.symm
    walk_at "xs"
    refine right_at kX1 (s11 _ _ (s1 _ _ htw)) e1.hn aS atl z6 dr.nms eS fun I2 t2 => ?_
    have e2 := e1.same t2
    walk_at "xs"
    refine right_at (kA1.same t2) e2.hd e2.hn aR dr.ad z6 dr.nms eR fun I3 t3 => ?_
    have e3 := e2.same t3
    have kY3 := (kY1.same t2).same t3
    obtain ⟨⟨dc3, hc3⟩, _⟩ := id e3.hC
    walk_at "xs"
    refine ⟨y, ch, rfl, y, ch, _, cd, nz l, m, rfl, kY3, e3.hC, by omega, fun rb Db I4 nrb nDb rbD t4 hB => ?_⟩
    have e4 := e3.same t4
    walk_at "xs"
    exact right_at hB e4.hd e4.hn aR dr.ad z6 dr.nms eR fun I5 t5 => q I5 (Same.trans s1 (Same.trans s11 (t2.trans (t3.trans (t4.trans t5)))))
end
end T
namespace T
open PySem PySem.Spec PyProof.Rows L2 M
section
variable {P : Program} {w : World} {K : PySem.W.Frag} {mg : Str → Option Value} {base : Heap} {CN CC CP CS aNP aNL : Addr}
def tripD (t : Str × Part) : PyData := .tuple [.str t.1, .str (kd t.2.1), .int t.2.2]
theorem trip_lay {t : Str × Part} (h : Sgn t.1) : (tripD t).canLay0 = true := SeqAt.canLay_of_shaped (shaped_trip h (kd_sgn _) _)
theorem trips_lay : ∀ {ps : List (Str × Part)}, (∀ t ∈ ps, Sgn t.1) → PyData.canLayAll0 (ps.map tripD) = true
  | [], _ => rfl
  | t :: ps, h => by
    show (PyData.canLay0 (tripD t) && PyData.canLayAll0 (ps.map tripD)) = true
    rw [trip_lay (h t (List.mem_cons_self ..)), trips_lay fun u hu => h u (List.mem_cons_of_mem _ hu)]
    rfl
theorem trips_dp {H : Hp} {p : Addr} {ps : List (Str × Part)} (h : TripsAt H p ps) : Dp K H (.ref p) (.list (ps.map tripD)) := by
  obtain ⟨qs, hp, ts⟩ := h
  refine .lst (sql_of hp) ?_
  have h := ts.pair
  clear ts hp
  generalize hts : ps.map (fun t : Str × Part => [V.str t.1, V.str (kd t.2.1), V.int t.2.2]) = tt at h
  induction h generalizing ps with
  | nil =>
    cases ps with
    | nil => exact .nil
    | cons t ps => cases hts
  | @cons q t qs ts h _ ih =>
    cases ps with
    | nil => cases hts
    | cons u ps =>
      rw [List.map_cons] at hts
      injection hts with e1 e2
      subst e1
      exact .cons (.tup (sqt_of h) (.cons (.str _) (.cons (.str _) (.cons (.int _) .nil)))) (ih e2)
theorem trips_depth : ∀ (ps : List (Str × Part)), PyData.depthAll (ps.map tripD) ≤ 1
  | [] => by decide
  | t :: ps => by
    have := trips_depth ps
    show max (PyData.depth (tripD t)) (PyData.depthAll (ps.map tripD)) ≤ 1
    have e : PyData.depth (tripD t) = 1 := rfl
    omega
theorem trips_shaped {ps : List (Str × Part)} (h : ∀ t ∈ ps, Sgn t.1) : SeqAt.shaped (.list (ps.map tripD)) = true := by
  unfold SeqAt.shaped
  rw [show (PyData.list (ps.map tripD)).canLay0 = PyData.canLayAll0 (ps.map tripD) from rfl, trips_lay h]
  have := trips_depth ps
  show decide (PyData.depth (.list (ps.map tripD)) ≤ 64) = true
  refine decide_eq_true ?_
  show PyData.depthAll (ps.map tripD) + 1 ≤ 64
  omega
end
end T
namespace T
open PySem PySem.Spec PyProof.Rows L2 M
local macro_rules | `(tactic| walk_at "x") => `(tactic| (with_reducible apply x_draw; (with_unfolding_all walk_at "hp"); (first | omega | decide); (decide +kernel)))
local macro_rules | `(tactic| walk_at "x") => `(tactic| (with_reducible apply x_integer; with_unfolding_all walk_at "hp"))
local macro_rules | `(tactic| walk_at "x") => `(tactic| with_reducible apply x_pool)
local macro_rules | `(tactic| walk_at "x") => `(tactic| (with_reducible apply x_names; (with_unfolding_all walk_at "hp"); omega; omega))
section
variable {P : Program} {w : World} {K : PySem.W.Frag} {mg : Str → Option Value} {base : Heap} {CN CC CP CS aNP aNL : Addr}
def spLaw (K : PySem.W.Frag) : Sp := fun vs H Q _ => ∃ (a : Addr) (ns : List Int), vs = [.ref a] ∧ SqL K H a (ns.map V.int) ∧ ns.length ≤ 63 ∧ ∀ H', Q (.bl true) H'
theorem ok_law {f : Addr} {fd : FuncData} {k : Nat} (F : Fun2 K "law" "law" s_law f fd) (T : Txt K mg CN CC CP CS aNP aNL)
    (D__law_pool : DefOk P w K mg base k "_law_pool" ["cell"] spPool) (D__law_draw : DefOk P w K mg base k "_law_draw" ["pool", "many"] spDraw) (D__law_integer : DefOk P w K mg base k "_law_integer" ["pool"] spInteger)
    (D__law_names : DefOk P w K mg base k "_law_names" ["pool", "many"] spNames) (D__law_parts : DefOk P w K mg base k "_law_parts" ["pool", "names", "many"] (spLParts K)) (D__law_changed : DefOk P w K mg base k "_law_changed" ["values", "parts"] (spLChanged K))
    (D__law_new_notes : DefOk P w K mg base k "_law_new_notes" ["change", "values", "due", "names", "order", "name"] (spNew K CN CC)) (D__law_in_place : DefOk P w K mg base k "_law_in_place" ["change", "values", "due", "twice", "names"] (spPlace K CN CC))
    (I_Change : InitOk P w K mg base "Change" CC k ["self", "parts"] (spCInit K CC)) (M_Change_parts : MethOk P w K mg base CC k "parts" ["self"] (spParts K CC)) (M_Change___eq__ : MethOk P w K mg base CC k "__eq__" ["self", "other"] (spCEq K CC)) :
    FnOk P w K mg base CX0 (k + 2) f fd ["script"] (spLaw K) := by
  refine F.ok sc_law (fun vs H Q E h => ?_) (fun cdv A outer s H vs Q E hr h => ?_)
  · obtain ⟨a, ns, rfl, _⟩ := h
    rfl
  · obtain ⟨a, ns, rfl, hS, hlen, q⟩ := h
    refine ⟨_, (pss_cons (ps_for PassesOwn.never rfl (piL (K := K) rfl (pe_op (op_catS (K := K) rfl) (pe_lstN (pa_cons pe_int pa_nil)) (pv 0))) (pg_name (i := 1) sc_law.nd rfl (Or.inl rfl))
        (pss_cons (ps_set (i := 2) sc_law.nd rfl (Or.inl rfl) (pe_callD D__law_pool (hr.mono (by omega)) (by rfl) (pa_cons (pv 1) pa_nil)))
          (pss_cons (ps_set (i := 3) sc_law.nd rfl (Or.inl rfl) (pe_callD D__law_draw (hr.mono (by omega)) (by rfl) (pa_cons (pv 2) (pa_cons pe_int pa_nil))))
          (pss_cons (ps_set (i := 4) sc_law.nd rfl (Or.inl rfl) (pe_callD D__law_draw (hr.mono (by omega)) (by rfl) (pa_cons (pv 2) (pa_cons pe_int pa_nil))))
          (pss_cons (ps_set (i := 5) sc_law.nd rfl (Or.inl rfl) (pe_callD D__law_draw (hr.mono (by omega)) (by rfl) (pa_cons (pv 2) (pa_cons pe_int pa_nil))))
          (pss_cons (ps_set (i := 6) sc_law.nd rfl (Or.inl rfl) (pe_callD D__law_draw (hr.mono (by omega)) (by rfl) (pa_cons (pv 2) (pa_cons pe_int pa_nil))))
          (pss_cons (ps_set (i := 7) sc_law.nd rfl (Or.inl rfl) (pe_cmpR op_eq (pe_callD D__law_draw (hr.mono (by omega)) (by rfl) (pa_cons (pv 2) (pa_cons pe_int pa_nil))) pe_int (nomark _)))
          (pss_cons (ps_set (i := 8) sc_law.nd rfl (Or.inl rfl) (pe_callD D__law_names (hr.mono (by omega)) (by rfl) (pa_cons (pv 2) (pa_cons pe_int pa_nil))))
          (pss_cons (ps_set (i := 9) sc_law.nd rfl (Or.inl rfl) (pe_callD D__law_parts (hr.mono (by omega)) (by rfl) (pa_cons (pv 2) (pa_cons (pv 8) (pa_cons (pv 3) pa_nil)))))
          (pss_cons (ps_set (i := 10) sc_law.nd rfl (Or.inl rfl) pe_dnewK)
          (pss_cons (ps_for PassesOwn.never rfl (pi_range1 rfl T.z_range (pa_cons (pv 4) pa_nil)) (pg_name (i := 11) sc_law.nd rfl (Or.inl rfl))
            (pss_cons (ps_dput (hu_of hr) (pv 10) (pe_ix (ixLK (K := K) rfl) (pv 8) (pv 11) (fun _ _ => rfl)) (pe_callD D__law_integer (hr.mono (by omega)) (by rfl) (pa_cons (pv 2) pa_nil)) rfl)
              (pss_one (ps_if (pt_val (pv 7))
                (pss_one (ps_dput (hu_of hr) (pv 9) (pe_ix (ixLK (K := K) rfl) (pv 8) (pv 11) (fun _ _ => rfl)) (pe_tupN (pa_cons pe_str (pa_cons (pe_un un_neg (pe_dget (hu_of hr) (pv 10) (pe_ix (ixLK (K := K) rfl) (pv 8) (pv 11) (fun _ _ => rfl)) (fun _ _ => rfl))) pa_nil))) rfl))
                pss_nil))))
          (pss_cons (ps_set (i := 12) sc_law.nd rfl (Or.inl rfl) (pe_callD D__law_changed (hr.mono (by omega)) (by rfl) (pa_cons (pv 10) (pa_cons (pv 9) pa_nil))))
          (pss_cons (ps_set (i := 13) sc_law.nd rfl (Or.inl rfl) (pe_callTy call_dictN (by rfl) T.z_dict (by decide +kernel) (pa_cons (pv 9) pa_nil)))
          (pss_cons (ps_set (i := 14) sc_law.nd rfl (Or.inl rfl) (pe_makeD I_Change (hr.mono (by omega)) (by rfl) (pa_cons (pv 13) pa_nil)))
          (pss_cons (ps_if (pt_cmpR (op_neDD (K := K) rfl (hu66 hr)) (pv 13) (pv 9) (nomark _))
            (pss_one (ps_ret pe_bl))
            pss_nil)
          (pss_cons (ps_dput (hu_of hr) (pv 13) (pe_ix (ixLK (K := K) rfl) (pv 8) (pv 5) (fun _ _ => rfl)) (pe_tupN (pa_cons pe_str (pa_cons (pe_op op_add pe_int (pe_callTy call_int1N (by rfl) T.z_int (by decide +kernel) (pa_cons (pe_cmpR op_eq (pe_dget2 (hu_of hr) (pv 12) (pe_ix (ixLK (K := K) rfl) (pv 8) (pv 5) (fun _ _ => rfl)) pe_int ⟨by rfl, by rfl, by rfl, by rfl⟩) pe_int (nomark _)) pa_nil))) pa_nil))) rfl)
          (pss_cons (ps_set (i := 15) sc_law.nd rfl (Or.inl rfl) (pe_methD0 (pv 14) T.c_Change M_Change_parts (hr.mono (by omega))))
          (pss_cons (ps_if (pt_not (pt_val (pe_callD D__law_new_notes (hr.mono (by omega)) (by rfl) (pa_cons (pv 14) (pa_cons (pv 10) (pa_cons (pv 12) (pa_cons (pv 8) (pa_cons (pv 6) (pa_cons (pe_ix (ixLK (K := K) rfl) (pv 8) (pv 5) (fun _ _ => rfl)) pa_nil)))))))))
            (pss_one (ps_ret pe_bl))
            pss_nil)
          (pss_cons (ps_if (pt_not (pt_val (pe_callD D__law_in_place (hr.mono (by omega)) (by rfl) (pa_cons (pv 14) (pa_cons (pv 10) (pa_cons (pv 12) (pa_cons (pe_callD D__law_changed (hr.mono (by omega)) (by rfl) (pa_cons (pv 12) (pa_cons (pv 9) pa_nil))) (pa_cons (pv 8) pa_nil))))))))
            (pss_one (ps_ret pe_bl))
            pss_nil)
          (pss_one (ps_if (PW.pt (pw_or (pt_cmpR (neDK (K := K) rfl hr.units) (pe_methD0 (pv 14) T.c_Change M_Change_parts (hr.mono (by omega))) (pv 15) (nomark _)) (pw_or1 (pt_not (pt_cmpR (opCK (K := K) rfl (op_cmpO (op := .Eq) M_Change___eq__ (hr.mono (by omega)))) (pv 14) (pe_makeD I_Change (hr.mono (by omega)) (by rfl) (pa_cons (pe_callTy call_dictN (by rfl) T.z_dict (by decide +kernel) (pa_cons (pv 9) pa_nil)) pa_nil)) (nomark _))))))
            (pss_one (ps_ret pe_bl))
            pss_nil)))))))))))))))))))))
      (pss_one (ps_ret pe_bl))), ?_⟩
    walk_at "xs"
    refine fun z0 Hz nz0 hz0 sz0 => ?_
    walk_at "xs"
    refine fun c H1 nc hc s1 => ?_
    walk_at "xs"
    generalize hcs : ([V.int 0] ++ ns.map V.int) = cells at hc ⊢
    have hci : ∀ (i : Nat) v, cells[i]? = some v → ∃ n, v = V.int n := fun (i : Nat) v hv => by
      have m := List.mem_of_getElem? hv
      rw [← hcs] at m
      rcases List.mem_append.mp m with m | m
      · exact ⟨0, List.mem_singleton.mp m⟩
      · obtain ⟨n, _, e⟩ := List.mem_map.mp m
        exact ⟨n, e.symm⟩
    refine ⟨⟨_, sql_of hc⟩, for_list (K := K) (a := c) (xs := cells) (fun i σ' H' => H' c = some (.lst cells) ∧ ∃ v1 v2 v3 v4 v5 v6 v7 v8 v9 v10 v11 v12 v13 v14 v15, σ' = [some (.ref a), v1, v2, v3, v4, v5, v6, v7, v8, v9, v10, v11, v12, v13, v14, v15]) ⟨hc, _, _, _, _, _, _, _, _, _, _, _, _, _, _, _, rfl⟩ (fun i σ' H' _ pv => sql_of pv.1) (fun i v σ' H' hi pv => ?_) (fun σ' H' pv => ?_)⟩
    · obtain ⟨cell, rfl⟩ := hci i v hi
      obtain ⟨hc0, v1, v2, v3, v4, v5, v6, v7, v8, v9, v10, v11, v12, v13, v14, v15, rfl⟩ := pv
      walk_at "xs"
      refine fun p H2 n2 np hp2 s2 => ?_
      walk_at "xs"
      refine fun many n3 H3 d00 d03 hp3 c3 => ?_
      walk_at "xs"
      refine fun held n4 H4 d10 d17 hp4 c4 => ?_
      walk_at "xs"
      refine fun at' n5 H5 d20 d27 hp5 c5 => ?_
      walk_at "xs"
      refine fun order n6 H6 d30 d37 hp6 c6 => ?_
      walk_at "xs"
      refine fun bk n7 H7 d40 d47 hp7 c7 => ?_
      walk_at "xs"
      refine fun nm H8 n8 zs nnm c8 hp8 hnm hzl hzs => ?_
      walk_at "xs"
      have sm8 : Sm H' H8 := Same.chg (Same.chg (Same.chg (Same.chg (Same.chg (Same.chg s2 np c3) np c4) np c5) np c6) np c7) np c8
      refine ⟨p, nm, many, n8, zs, rfl, hp8, hnm, d00, by omega, hzl, fun o1 H9 n9 pl no1 c9 hp9 hd1 am1 => ?_⟩
      have hnm9 : H9 nm = some (.lst (zs.map V.str)) := by walk_at "hp"
      have sm9 : Sm H' H9 := Same.chg (H1 := H8) sm8 np c9
      have no10 : H' o1 = none := Same.free sm8 no1
      have pnm : p ≠ nm := ne_of hp8 hnm (fun e => by
        have h2 := congrArg List.length (HO.lst.inj e)
        rw [List.length_map, hzl] at h2
        exact absurd h2 (by simp))
      obtain ⟨rl0, ho1, _⟩ := id hd1
      walk_at "xs"
      refine fun vd I0 nvd hvd t0 => ?_
      have sI0 : Sm H' I0 := Same.trans sm9 t0
      have nvd0 : H' vd = none := Same.free sm9 nvd
      have ov : o1 ≠ vd := ne_of_none ho1 nvd
      walk_at "xs"
      refine ⟨held, rfl, by omega, by omega, for_range (lo := 0) (n := held.toNat) (fun i σ' J => ∃ n vl ql v10, σ' = [some (.ref a), some (.int cell), some (.ref p), some (.int many), some (.int held), some (.int at'), some (.int order), some (.bl (decide (bk = 2))), some (.ref nm), some (.ref o1), some (.ref vd), v10, v12, v13, v14, v15] ∧ Sm H' J ∧ J p = some (.lst [.int n]) ∧ J nm = some (.lst (zs.map V.str)) ∧ J vd = some (.dK (sk (ik vl))) ∧ DictP K J o1 ql ∧ AmongP zs vl ∧ AmongP zs ql) ?_ (fun i σ' J hi pv => ?_) (fun σ' J pv => ?_)⟩
      · exact ⟨n9, [], pl, _, rfl, sI0, by walk_at "hp", by walk_at "hp", hvd, hd1.same t0, .nil, am1⟩
      · obtain ⟨n, vl, ql, v11', rfl, sJ, hpJ, hnmJ, hvJ, ⟨rq, hqJ, hqq⟩, amv, amq⟩ := pv
        have lv := amv.len
        have lq := amq.len
        have hlt : i < zs.length := by omega
        have hzi : zs[i]? = some zs[i] := List.getElem?_eq_getElem hlt
        have ez : atI (zs.map V.str) (0 + (i : Int)) = some (.str zs[i]) := at_of (j := i) (by omega) (by rw [List.getElem?_map, hzi]; rfl)
        have mz : zs[i] ∈ zs := List.getElem_mem hlt
        generalize zs[i] = z at ez mz
        walk_at "xs"
        refine fun kn n2' J2 hpJ2 cJ => ?_
        walk_at "xs"
        have hnm2 : J2 nm = some (.lst (zs.map V.str)) := cJ _ _ (ni1 pnm.symm) hnmJ
        refine x_ixL (sql_of hnm2) ez ?_
        have hv2 : J2 vd = some (.dK (sk (ik vl))) := by walk_at "hp"
        obtain ⟨J3, e3, hv3, c3'⟩ := dput_g z (.int kn) hv2 (by rw [ik_len]; omega)
        rw [ik_put] at hv3
        refine ⟨vd, J3, rfl, e3, ?_⟩
        have sJ3 : Sm H' J3 := Same.chg (Same.chg sJ np cJ) nvd0 c3'
        have hq3 : J3 o1 = some (.dK (sk rq)) := c3' _ _ (ni1 ov) (cJ _ _ (ni1 (ne_of hqJ hpJ (by intro z; cases z))) hqJ)
        have hqq3 : PtsAt K J3 rq ql := hqq.keep fun b xs g => sqt_D c3' hv2 (sqt_L cJ hpJ g)
        have amv3 := iput_among amv kn mz
        have hp3 : J3 p = some (.lst [.int n2']) := by walk_at "hp"
        have hnm3 : J3 nm = some (.lst (zs.map V.str)) := c3' _ _ (ni1 (ne_of hnm2 hv2 (by intro z; cases z))) hnm2
        walk_at "xs"
        refine ite2 (fun _ => ?_) (fun _ => ?_)
        · have hvz : sVal (ik (iput vl z kn)) z = some (.int kn) := by rw [ik_val, iput_look, if_pos rfl]; rfl
          walk_at "xs"
          refine x_ixL (sql_of hnm3) ez ?_
          walk_at "xs"
          refine fun tt J4 ntt htt s4' => ?_
          walk_at "xs"
          refine x_ixL (sql_of (s4' _ _ hnm3)) ez ?_
          have hq4 := s4' _ _ hq3
          obtain ⟨J5, e5, hq5, c5'⟩ := dput_g z (.ref tt) hq4 (by rw [hqq3.len]; omega)
          refine ⟨o1, J5, rfl, e5, n2', _, aput ql z (false, -kn), _, rfl, Same.chg (Same.trans sJ3 s4') no10 c5', c5' _ _ (ni1 (ne_of (s4' _ _ hp3) hq4 (by intro z; cases z))) (s4' _ _ hp3), c5' _ _ (ni1 (ne_of (s4' _ _ hnm3) hq4 (by intro z; cases z))) (s4' _ _ hnm3), c5' _ _ (ni1 ov.symm) (s4' _ _ hv3), ⟨_, hq5, ((hqq3.same s4').put (p := (false, -kn)) (sqt_of htt)).keep fun b xs g => sqt_D c5' hq4 g⟩, amv3, amq.put _ mz⟩
        · walk_at "xs"
          exact ⟨n2', _, ql, _, rfl, sJ3, hp3, hnm3, hv3, ⟨rq, hq3, hqq3⟩, amv3, amq⟩
      · obtain ⟨n, vl, ql, v11', rfl, sJ, hpJ, hnmJ, hvJ, hdq, amv, amq⟩ := pv
        have lv := amv.len
        have lq := amq.len
        obtain ⟨rq, hqJ, hqq⟩ := id hdq
        walk_at "xs"
        refine ⟨vd, o1, vl, ql, rfl, hvJ, hdq, amv.1, amq.1, by omega, by omega, fun du J1 ndu t1 hdu => ?_⟩
        have hq1 := t1 _ _ hqJ
        walk_at "xs"
        refine fun ps J2 nps hps t2 => ?_
        walk_at "xs"
        have hqq2 := (hqq.same t1).same t2
        refine mkC (.inr ⟨ps, rfl, rq, hps, hqq2⟩) (by omega) amq.1 fun ch cd J3 nch ncd chcd t3 hCh => ?_
        have hqq3 := hqq2.same t3
        have hps3 := t3 _ _ hps
        have hq3 : J3 o1 = some (.dK (sk rq)) := t3 _ _ (t2 _ _ hq1)
        have hnm3 : J3 nm = some (.lst (zs.map V.str)) := t3 _ _ (t2 _ _ (t1 _ _ hnmJ))
        have hdu3 : J3 du = some (.dK (sk (ik (chg vl ql)))) := t3 _ _ (t2 _ _ hdu)
        obtain ⟨r, dh, er⟩ := dhits_of hqq3 hqq3
        have er1 : r = true := er.mpr fun q hq => al_of amq.1 hq
        subst er1
        walk_at "xs"
        refine ⟨ps, o1, sk rq, sk rq, true, rfl, rfl, .inl hps3, .inl hq3, dh, ?_⟩
        rw [if_pos rfl, beq_self_eq_true, show (!(true && true)) = false from rfl]
        have hlt : at'.toNat < zs.length := by omega
        have hzi : zs[at'.toNat]? = some zs[at'.toNat] := List.getElem?_eq_getElem hlt
        have eza : atI (zs.map V.str) at' = some (.str zs[at'.toNat]) := at_of (j := at'.toNat) (by omega) (by rw [List.getElem?_map, hzi]; rfl)
        have mza : zs[at'.toNat] ∈ zs := List.getElem_mem hlt
        generalize zs[at'.toNat] = za at eza mza
        walk_at "xs"
        refine x_ixL (sql_of hnm3) eza ?_
        walk_at "xs"
        rw [iget]
        walk_at "xs"
        refine fun tt J4 ntt htt t4 => ?_
        walk_at "xs"
        refine x_ixL (sql_of (t4 _ _ hnm3)) eza ?_
        have hps4 := t4 _ _ hps3
        obtain ⟨J5, e5, hps5, c5'⟩ := dput_g za (.ref tt) hps4 (by rw [hqq.len]; omega)
        refine ⟨ps, J5, rfl, e5, ?_⟩
        have u15 : Sm J1 J5 := Same.chg (t2.trans (t3.trans t4)) nps c5'
        have uJ5 : Sm J J5 := Same.trans t1 u15
        have hC4 := hCh.same t4
        obtain ⟨⟨dch, hch4⟩, ⟨rch, hcd4, _⟩, _⟩ := id hC4
        have hC5 := hC4.keep c5' (ni1 (ne_of hch4 hps4 (by intro z; cases z))) (ni1 (ne_of_none hps ncd).symm) (noTup_of hps4 (by intros; intro z; cases z) (by intros; intro z; cases z))
        obtain ⟨⟨dch5, hch5⟩, _⟩ := id hC5
        walk_at "xs"
        refine ⟨ch, cd, pz ql, rfl, hC5, fun kp J6 pss nkp t6 so6 hl6 hk6 => ?_⟩
        have hnm6 : J6 nm = some (.lst (zs.map V.str)) := t6 _ _ (uJ5 _ _ hnmJ)
        have amz := amq.pz
        have amd := chg_among amv amq
        have amt := chg_among amd amq
        have lz := amz.len
        have ld := amd.len
        have d6 : Door K CN CC J6 ch cd vd du nm vl (chg vl ql) (pz ql) zs := ⟨hC5.same t6, t6 _ _ (uJ5 _ _ hvJ), t6 _ _ (u15 _ _ hdu), hnm6, amv, amd, amz, hzl, hzs, fun z => by rw [chg_at' _ _ _ amq.1, pz_at amq.1]⟩
        walk_at "xs"
        refine x_ixL (sql_of hnm6) eza ?_
        walk_at "xs"
        refine ⟨ch, cd, vd, du, nm, vl, chg vl ql, pz ql, zs, order, za, rfl, d6, mza, fun J7 t7 => ?_⟩
        have d7 := d6.same t7
        have uJ7 : Sm J J7 := Same.trans uJ5 (t6.trans t7)
        have hdq7 := hdq.same uJ7
        walk_at "xs"
        refine ⟨du, o1, chg vl ql, ql, rfl, d7.hd, hdq7, amd.1, amq.1, by omega, by omega, fun tw J8 ntw t8 htw => ?_⟩
        have d8 := d7.same t8
        walk_at "xs"
        refine ⟨ch, cd, vd, du, tw, nm, vl, chg vl ql, chg (chg vl ql) ql, pz ql, zs, rfl, d8, htw, amt, fun z => by rw [chg_at' _ _ _ amq.1, pz_at amq.1], fun J9 t9 => ?_⟩
        have d9 := d8.same t9
        have uJ9 : Sm J J9 := Same.trans uJ7 (t8.trans t9)
        have hk9 := ((hk6.same t7).same t8).same t9
        obtain ⟨⟨dch9, hch9⟩, _⟩ := id d9.hC
        walk_at "xs"
        refine ⟨ch, cd, pz ql, rfl, d9.hC, fun kq L0 ps2 nkq r0 so10 hl10 hk10 => ?_⟩
        cases so10.uniq so6 fun _ => rfl
        have sg : ∀ t ∈ pss, Sgn t.1 := fun t ht => by
          obtain ⟨x1, x2⟩ := (so6.mem t.1 t.2).mp ht
          unfold pAt at x1
          cases e : (pz ql).lookup t.1 with
          | none => rw [e] at x1; exact (x2 x1.symm).elim
          | some v => exact (hzs _ (amz.2 (t.1, v) (al_mem e))).sgn
        walk_at "xs"
        refine x_neD_same (trips_dp hk10) (trips_dp (hk9.same r0)) (trips_shaped sg) ?_
        have hq10 : L0 o1 = some (.dK (sk rq)) := r0 _ _ (uJ9 _ _ hqJ)
        have uJL0 : Sm J L0 := Same.trans uJ9 r0
        have hqq10 := hqq.same uJL0
        walk_at "xs"
        refine fun pe L1 npe hpe r1 => ?_
        walk_at "xs"
        refine mkC (.inr ⟨pe, rfl, rq, hpe, hqq10.same r1⟩) (by omega) amq.1 fun c2 cd2 L2' nc2 ncd2 c2d r2 hC2 => ?_
        have hCL := ((d9.hC.same r0).same r1).same r2
        obtain ⟨⟨dq1, hq1'⟩, _⟩ := id hCL
        obtain ⟨⟨dq2, hq2'⟩, _⟩ := id hC2
        walk_at "xs"
        refine ⟨ch, c2, cd, cd2, pz ql, pz ql, rfl, hCL, hC2, fun rr hrr => ?_⟩
        have e1 : rr = true := hrr.mpr fun _ => rfl
        subst e1
        walk_at "xs"
        exact ⟨r2 _ _ (r1 _ _ (uJL0 _ _ (sJ _ _ hc0))), _, _, _, _, _, _, _, _, _, _, _, _, _, _, _, rfl⟩
    · obtain ⟨_, v1, v2, v3, v4, v5, v6, v7, v8, v9, v10, v11, v12, v13, v14, v15, rfl⟩ := pv
      walk_at "xs"
      exact q H'
end
end T
namespace T
open PySem PySem.Spec PyProof.Rows L2 M
theorem all_mk {l : PySem.W.OpenLaw} {w : World} {K : PySem.W.Frag} {h : Heap} {mg : Str → Option Value} {fa : Addr} (X : K.In h) (G : h.Ns mainGlobals mg) (hfa : mg "law" = some (.ref fa))
    {CNotes CChange ANO_PART f_law_pool f_law_draw f_law_integer f_law_names f_law_parts f_law_changed f_law_is_integer f_law_pairs f_law_same_pairs fNotes___getitem__ fNotes___contains__ fNotes___len__ fin_order fNotes_pairs f_law_right f_without_zeros fNotes___init__ tNotes___init__ f_done f_changed fNotes___add__ fChange___call__ fNotes___setitem__ f_law_new_notes fNotes___iadd__ f_law_in_place fChange___init__ tChange___init__ fChange_parts fChange___eq__ flaw : Addr} {oc_law_pool kV_law_pool dc_law_pool pm_law_pool cd_law_pool ct_law_pool oc_law_draw kV_law_draw dc_law_draw pm_law_draw cd_law_draw ct_law_draw oc_law_integer kV_law_integer dc_law_integer pm_law_integer cd_law_integer ct_law_integer oc_law_names kV_law_names dc_law_names pm_law_names cd_law_names ct_law_names oc_law_parts kV_law_parts dc_law_parts pm_law_parts cd_law_parts ct_law_parts oc_law_changed kV_law_changed dc_law_changed pm_law_changed cd_law_changed ct_law_changed oc_law_is_integer kV_law_is_integer dc_law_is_integer pm_law_is_integer cd_law_is_integer ct_law_is_integer oc_law_pairs kV_law_pairs dc_law_pairs pm_law_pairs cd_law_pairs ct_law_pairs oc_law_same_pairs kV_law_same_pairs dc_law_same_pairs pm_law_same_pairs cd_law_same_pairs ct_law_same_pairs ocNotes___getitem__ kVNotes___getitem__ dcNotes___getitem__ pmNotes___getitem__ cdNotes___getitem__ ctNotes___getitem__ ocNotes___contains__ kVNotes___contains__ dcNotes___contains__ pmNotes___contains__ cdNotes___contains__ ctNotes___contains__ ocNotes___len__ kVNotes___len__ dcNotes___len__ pmNotes___len__ cdNotes___len__ ctNotes___len__ ocin_order kVin_order dcin_order pmin_order cdin_order ctin_order ocNotes_pairs kVNotes_pairs dcNotes_pairs pmNotes_pairs cdNotes_pairs ctNotes_pairs oc_law_right kV_law_right dc_law_right pm_law_right cd_law_right ct_law_right oc_without_zeros kV_without_zeros dc_without_zeros pm_without_zeros cd_without_zeros ct_without_zeros ocNotes___init__ kVNotes___init__ dcNotes___init__ pmNotes___init__ cdNotes___init__ ctNotes___init__ tcNotes___init__ oc_done kV_done dc_done pm_done cd_done ct_done oc_changed kV_changed dc_changed pm_changed cd_changed ct_changed ocNotes___add__ kVNotes___add__ dcNotes___add__ pmNotes___add__ cdNotes___add__ ctNotes___add__ ocChange___call__ kVChange___call__ dcChange___call__ pmChange___call__ cdChange___call__ ctChange___call__ ocNotes___setitem__ kVNotes___setitem__ dcNotes___setitem__ pmNotes___setitem__ cdNotes___setitem__ ctNotes___setitem__ oc_law_new_notes kV_law_new_notes dc_law_new_notes pm_law_new_notes cd_law_new_notes ct_law_new_notes ocNotes___iadd__ kVNotes___iadd__ dcNotes___iadd__ pmNotes___iadd__ cdNotes___iadd__ ctNotes___iadd__ oc_law_in_place kV_law_in_place dc_law_in_place pm_law_in_place cd_law_in_place ct_law_in_place ocChange___init__ kVChange___init__ dcChange___init__ pmChange___init__ cdChange___init__ ctChange___init__ tcChange___init__ ocChange_parts kVChange_parts dcChange_parts pmChange_parts cdChange_parts ctChange_parts ocChange___eq__ kVChange___eq__ dcChange___eq__ pmChange___eq__ cdChange___eq__ ctChange___eq__ oclaw kVlaw dclaw pmlaw cdlaw ctlaw : Value} {doNO_PART od_law_pool an_law_pool od_law_draw an_law_draw od_law_integer an_law_integer od_law_names an_law_names od_law_parts an_law_parts od_law_changed an_law_changed od_law_is_integer an_law_is_integer od_law_pairs an_law_pairs od_law_same_pairs an_law_same_pairs odNotes___getitem__ anNotes___getitem__ odNotes___contains__ anNotes___contains__ odNotes___len__ anNotes___len__ odin_order anin_order odNotes_pairs anNotes_pairs od_law_right an_law_right od_without_zeros an_without_zeros odNotes___init__ anNotes___init__ tdNotes___init__ od_done an_done od_changed an_changed odNotes___add__ anNotes___add__ odChange___call__ anChange___call__ odNotes___setitem__ anNotes___setitem__ od_law_new_notes an_law_new_notes odNotes___iadd__ anNotes___iadd__ od_law_in_place an_law_in_place odChange___init__ anChange___init__ tdChange___init__ odChange_parts anChange_parts odChange___eq__ anChange___eq__ odlaw anlaw : Option Addr} {soNO_PART sl_law_pool sl_law_draw sl_law_integer sl_law_names sl_law_parts sl_law_changed sl_law_is_integer sl_law_pairs sl_law_same_pairs slNotes___getitem__ slNotes___contains__ slNotes___len__ slin_order slNotes_pairs sl_law_right sl_without_zeros slNotes___init__ tsNotes___init__ sl_done sl_changed slNotes___add__ slChange___call__ slNotes___setitem__ sl_law_new_notes slNotes___iadd__ sl_law_in_place slChange___init__ tsChange___init__ slChange_parts slChange___eq__ sllaw : Array (Option Value)} {noNO_PART tnNotes___init__ tnChange___init__ : Nat} {t1NO_PART t2NO_PART : Tok}
    (aCNotes : PySem.W.nsIn K mainGlobals "Notes" = some (some (.ref CNotes)))
    (pgNotes : PySem.W.plainGet K CNotes Str.empty = true)
    (hdNotes : PySem.W.hasDictIn K CNotes = true)
    (poNotes : PySem.W.plainOver K CNotes = true)
    (saNotes : PySem.W.findIn K (.ref CNotes) "__setattr__" = some (some (.builtin "object.__setattr__")))
    (mkNotes : PySem.W.makesIn K CNotes = true)
    (kcNotes : PySem.W.keepIn K (.ref CNotes) = true)
    (nsNotes : PySem.W.noSeq K CNotes = true)
    (sfNotes : PySem.W.selfFirst K CNotes = true)
    (clNotes : PySem.W.findIn K (.ref CNotes) "__class__" = some (some (.builtin "object.__class__")))
    (mrNotes : PySem.W.mroIn K CNotes (.type "object") = some true)
    (nNotes__values : PySem.W.findIn K (.ref CNotes) "_values" = some none)
    (aCChange : PySem.W.nsIn K mainGlobals "Change" = some (some (.ref CChange)))
    (pgChange : PySem.W.plainGet K CChange Str.empty = true)
    (hdChange : PySem.W.hasDictIn K CChange = true)
    (poChange : PySem.W.plainOver K CChange = true)
    (saChange : PySem.W.findIn K (.ref CChange) "__setattr__" = some (some (.builtin "object.__setattr__")))
    (mkChange : PySem.W.makesIn K CChange = true)
    (kcChange : PySem.W.keepIn K (.ref CChange) = true)
    (nsChange : PySem.W.noSeq K CChange = true)
    (sfChange : PySem.W.selfFirst K CChange = true)
    (clChange : PySem.W.findIn K (.ref CChange) "__class__" = some (some (.builtin "object.__class__")))
    (mrChange : PySem.W.mroIn K CChange (.type "object") = some true)
    (nChange__parts : PySem.W.findIn K (.ref CChange) "_parts" = some none)
    (hgd : PySem.W.specialIn K (.builtin "object.__class__") "__get__" = some (some (.builtin "getset_descriptor.__get__")))
    (htk : PySem.W.takesIn K (.builtin "object.__class__") = some true)
    (dNC : CNotes ≠ CChange)
    (x1 : PySem.W.findIn K (.ref CChange) "__add__" = some none)
    (x2 : PySem.W.findIn K (.ref CChange) "__radd__" = some none)
    (x3 : PySem.W.findIn K (.type "object") "__add__" = some none)
    (x4 : PySem.W.findIn K (.type "object") "__radd__" = some none)
    (xC : ∃ cd, PySem.W.clsIn K CChange = some cd ∧ cd.mro = [.ref CChange, .type "object"])
    (aANO_PART : PySem.W.nsIn K mainGlobals "NO_PART" = some (some (.ref ANO_PART)))
    (oANO_PART : K.lookup ANO_PART = some ⟨.type "tuple", doNO_PART, .seq #[.str "add" t1NO_PART, .int 0 t2NO_PART] noNO_PART, soNO_PART⟩)
    (z_abs : PySem.W.nsIn K mainGlobals "abs" = some none)
    (z_bool : PySem.W.nsIn K mainGlobals "bool" = some none)
    (z_dict : PySem.W.nsIn K mainGlobals "dict" = some none)
    (z_int : PySem.W.nsIn K mainGlobals "int" = some none)
    (z_isinstance : PySem.W.nsIn K mainGlobals "isinstance" = some none)
    (z_len : PySem.W.nsIn K mainGlobals "len" = some none)
    (z_list : PySem.W.nsIn K mainGlobals "list" = some none)
    (z_ord : PySem.W.nsIn K mainGlobals "ord" = some none)
    (z_range : PySem.W.nsIn K mainGlobals "range" = some none)
    (z_sorted : PySem.W.nsIn K mainGlobals "sorted" = some none)
    (z_str : PySem.W.nsIn K mainGlobals "str" = some none)
    (z_sum : PySem.W.nsIn K mainGlobals "sum" = some none)
    (z_tuple : PySem.W.nsIn K mainGlobals "tuple" = some none)
    (a_law_pool : PySem.W.nsIn K mainGlobals "_law_pool" = some (some (.ref f_law_pool)))
    (l_law_pool : K.lookup f_law_pool = some ⟨oc_law_pool, od_law_pool, .func (PySem.W.fnOf "_law_pool" "_law_pool" (defArgs s__law_pool) (defBody s__law_pool) (defScope s__law_pool) .none kV_law_pool dc_law_pool pm_law_pool an_law_pool cd_law_pool ct_law_pool), sl_law_pool⟩)
    (c_law_pool : PySem.W.codeIn K cd_law_pool "_law_pool" = true)
    (k_law_pool : PySem.W.keepIn K (.ref f_law_pool) = true)
    (a_law_draw : PySem.W.nsIn K mainGlobals "_law_draw" = some (some (.ref f_law_draw)))
    (l_law_draw : K.lookup f_law_draw = some ⟨oc_law_draw, od_law_draw, .func (PySem.W.fnOf "_law_draw" "_law_draw" (defArgs s__law_draw) (defBody s__law_draw) (defScope s__law_draw) .none kV_law_draw dc_law_draw pm_law_draw an_law_draw cd_law_draw ct_law_draw), sl_law_draw⟩)
    (c_law_draw : PySem.W.codeIn K cd_law_draw "_law_draw" = true)
    (k_law_draw : PySem.W.keepIn K (.ref f_law_draw) = true)
    (a_law_integer : PySem.W.nsIn K mainGlobals "_law_integer" = some (some (.ref f_law_integer)))
    (l_law_integer : K.lookup f_law_integer = some ⟨oc_law_integer, od_law_integer, .func (PySem.W.fnOf "_law_integer" "_law_integer" (defArgs s__law_integer) (defBody s__law_integer) (defScope s__law_integer) .none kV_law_integer dc_law_integer pm_law_integer an_law_integer cd_law_integer ct_law_integer), sl_law_integer⟩)
    (c_law_integer : PySem.W.codeIn K cd_law_integer "_law_integer" = true)
    (k_law_integer : PySem.W.keepIn K (.ref f_law_integer) = true)
    (a_law_names : PySem.W.nsIn K mainGlobals "_law_names" = some (some (.ref f_law_names)))
    (l_law_names : K.lookup f_law_names = some ⟨oc_law_names, od_law_names, .func (PySem.W.fnOf "_law_names" "_law_names" (defArgs s__law_names) (defBody s__law_names) (defScope s__law_names) .none kV_law_names dc_law_names pm_law_names an_law_names cd_law_names ct_law_names), sl_law_names⟩)
    (c_law_names : PySem.W.codeIn K cd_law_names "_law_names" = true)
    (k_law_names : PySem.W.keepIn K (.ref f_law_names) = true)
    (a_law_parts : PySem.W.nsIn K mainGlobals "_law_parts" = some (some (.ref f_law_parts)))
    (l_law_parts : K.lookup f_law_parts = some ⟨oc_law_parts, od_law_parts, .func (PySem.W.fnOf "_law_parts" "_law_parts" (defArgs s__law_parts) (defBody s__law_parts) (defScope s__law_parts) .none kV_law_parts dc_law_parts pm_law_parts an_law_parts cd_law_parts ct_law_parts), sl_law_parts⟩)
    (c_law_parts : PySem.W.codeIn K cd_law_parts "_law_parts" = true)
    (k_law_parts : PySem.W.keepIn K (.ref f_law_parts) = true)
    (a_law_changed : PySem.W.nsIn K mainGlobals "_law_changed" = some (some (.ref f_law_changed)))
    (l_law_changed : K.lookup f_law_changed = some ⟨oc_law_changed, od_law_changed, .func (PySem.W.fnOf "_law_changed" "_law_changed" (defArgs s__law_changed) (defBody s__law_changed) (defScope s__law_changed) .none kV_law_changed dc_law_changed pm_law_changed an_law_changed cd_law_changed ct_law_changed), sl_law_changed⟩)
    (c_law_changed : PySem.W.codeIn K cd_law_changed "_law_changed" = true)
    (k_law_changed : PySem.W.keepIn K (.ref f_law_changed) = true)
    (a_law_is_integer : PySem.W.nsIn K mainGlobals "_law_is_integer" = some (some (.ref f_law_is_integer)))
    (l_law_is_integer : K.lookup f_law_is_integer = some ⟨oc_law_is_integer, od_law_is_integer, .func (PySem.W.fnOf "_law_is_integer" "_law_is_integer" (defArgs s__law_is_integer) (defBody s__law_is_integer) (defScope s__law_is_integer) .none kV_law_is_integer dc_law_is_integer pm_law_is_integer an_law_is_integer cd_law_is_integer ct_law_is_integer), sl_law_is_integer⟩)
    (c_law_is_integer : PySem.W.codeIn K cd_law_is_integer "_law_is_integer" = true)
    (k_law_is_integer : PySem.W.keepIn K (.ref f_law_is_integer) = true)
    (a_law_pairs : PySem.W.nsIn K mainGlobals "_law_pairs" = some (some (.ref f_law_pairs)))
    (l_law_pairs : K.lookup f_law_pairs = some ⟨oc_law_pairs, od_law_pairs, .func (PySem.W.fnOf "_law_pairs" "_law_pairs" (defArgs s__law_pairs) (defBody s__law_pairs) (defScope s__law_pairs) .none kV_law_pairs dc_law_pairs pm_law_pairs an_law_pairs cd_law_pairs ct_law_pairs), sl_law_pairs⟩)
    (c_law_pairs : PySem.W.codeIn K cd_law_pairs "_law_pairs" = true)
    (k_law_pairs : PySem.W.keepIn K (.ref f_law_pairs) = true)
    (a_law_same_pairs : PySem.W.nsIn K mainGlobals "_law_same_pairs" = some (some (.ref f_law_same_pairs)))
    (l_law_same_pairs : K.lookup f_law_same_pairs = some ⟨oc_law_same_pairs, od_law_same_pairs, .func (PySem.W.fnOf "_law_same_pairs" "_law_same_pairs" (defArgs s__law_same_pairs) (defBody s__law_same_pairs) (defScope s__law_same_pairs) .none kV_law_same_pairs dc_law_same_pairs pm_law_same_pairs an_law_same_pairs cd_law_same_pairs ct_law_same_pairs), sl_law_same_pairs⟩)
    (c_law_same_pairs : PySem.W.codeIn K cd_law_same_pairs "_law_same_pairs" = true)
    (k_law_same_pairs : PySem.W.keepIn K (.ref f_law_same_pairs) = true)
    (aNotes___getitem__ : PySem.W.findIn K (.ref CNotes) "__getitem__" = some (some (.ref fNotes___getitem__)))
    (iNotes___getitem__ : PySem.W.isFn K (.ref fNotes___getitem__) = true)
    (gNotes___getitem__ : PySem.W.fnIn K fNotes___getitem__ = true)
    (lNotes___getitem__ : K.lookup fNotes___getitem__ = some ⟨ocNotes___getitem__, odNotes___getitem__, .func (PySem.W.fnOf "__getitem__" "Notes.__getitem__" (defArgs s_Notes___getitem__) (defBody s_Notes___getitem__) (defScope s_Notes___getitem__) .none kVNotes___getitem__ dcNotes___getitem__ pmNotes___getitem__ anNotes___getitem__ cdNotes___getitem__ ctNotes___getitem__), slNotes___getitem__⟩)
    (cNotes___getitem__ : PySem.W.codeIn K cdNotes___getitem__ "Notes.__getitem__" = true)
    (kNotes___getitem__ : PySem.W.keepIn K (.ref fNotes___getitem__) = true)
    (aNotes___contains__ : PySem.W.findIn K (.ref CNotes) "__contains__" = some (some (.ref fNotes___contains__)))
    (iNotes___contains__ : PySem.W.isFn K (.ref fNotes___contains__) = true)
    (gNotes___contains__ : PySem.W.fnIn K fNotes___contains__ = true)
    (lNotes___contains__ : K.lookup fNotes___contains__ = some ⟨ocNotes___contains__, odNotes___contains__, .func (PySem.W.fnOf "__contains__" "Notes.__contains__" (defArgs s_Notes___contains__) (defBody s_Notes___contains__) (defScope s_Notes___contains__) .none kVNotes___contains__ dcNotes___contains__ pmNotes___contains__ anNotes___contains__ cdNotes___contains__ ctNotes___contains__), slNotes___contains__⟩)
    (cNotes___contains__ : PySem.W.codeIn K cdNotes___contains__ "Notes.__contains__" = true)
    (kNotes___contains__ : PySem.W.keepIn K (.ref fNotes___contains__) = true)
    (aNotes___len__ : PySem.W.findIn K (.ref CNotes) "__len__" = some (some (.ref fNotes___len__)))
    (iNotes___len__ : PySem.W.isFn K (.ref fNotes___len__) = true)
    (gNotes___len__ : PySem.W.fnIn K fNotes___len__ = true)
    (lNotes___len__ : K.lookup fNotes___len__ = some ⟨ocNotes___len__, odNotes___len__, .func (PySem.W.fnOf "__len__" "Notes.__len__" (defArgs s_Notes___len__) (defBody s_Notes___len__) (defScope s_Notes___len__) .none kVNotes___len__ dcNotes___len__ pmNotes___len__ anNotes___len__ cdNotes___len__ ctNotes___len__), slNotes___len__⟩)
    (cNotes___len__ : PySem.W.codeIn K cdNotes___len__ "Notes.__len__" = true)
    (kNotes___len__ : PySem.W.keepIn K (.ref fNotes___len__) = true)
    (ain_order : PySem.W.nsIn K mainGlobals "in_order" = some (some (.ref fin_order)))
    (lin_order : K.lookup fin_order = some ⟨ocin_order, odin_order, .func (PySem.W.fnOf "in_order" "in_order" (defArgs s_in_order) (defBody s_in_order) (defScope s_in_order) .none kVin_order dcin_order pmin_order anin_order cdin_order ctin_order), slin_order⟩)
    (cin_order : PySem.W.codeIn K cdin_order "in_order" = true)
    (kin_order : PySem.W.keepIn K (.ref fin_order) = true)
    (aNotes_pairs : PySem.W.findIn K (.ref CNotes) "pairs" = some (some (.ref fNotes_pairs)))
    (iNotes_pairs : PySem.W.isFn K (.ref fNotes_pairs) = true)
    (gNotes_pairs : PySem.W.fnIn K fNotes_pairs = true)
    (lNotes_pairs : K.lookup fNotes_pairs = some ⟨ocNotes_pairs, odNotes_pairs, .func (PySem.W.fnOf "pairs" "Notes.pairs" (defArgs s_Notes_pairs) (defBody s_Notes_pairs) (defScope s_Notes_pairs) .none kVNotes_pairs dcNotes_pairs pmNotes_pairs anNotes_pairs cdNotes_pairs ctNotes_pairs), slNotes_pairs⟩)
    (cNotes_pairs : PySem.W.codeIn K cdNotes_pairs "Notes.pairs" = true)
    (kNotes_pairs : PySem.W.keepIn K (.ref fNotes_pairs) = true)
    (a_law_right : PySem.W.nsIn K mainGlobals "_law_right" = some (some (.ref f_law_right)))
    (l_law_right : K.lookup f_law_right = some ⟨oc_law_right, od_law_right, .func (PySem.W.fnOf "_law_right" "_law_right" (defArgs s__law_right) (defBody s__law_right) (defScope s__law_right) .none kV_law_right dc_law_right pm_law_right an_law_right cd_law_right ct_law_right), sl_law_right⟩)
    (c_law_right : PySem.W.codeIn K cd_law_right "_law_right" = true)
    (k_law_right : PySem.W.keepIn K (.ref f_law_right) = true)
    (a_without_zeros : PySem.W.nsIn K mainGlobals "_without_zeros" = some (some (.ref f_without_zeros)))
    (l_without_zeros : K.lookup f_without_zeros = some ⟨oc_without_zeros, od_without_zeros, .func (PySem.W.fnOf "_without_zeros" "_without_zeros" (defArgs s__without_zeros) (defBody s__without_zeros) (defScope s__without_zeros) .none kV_without_zeros dc_without_zeros pm_without_zeros an_without_zeros cd_without_zeros ct_without_zeros), sl_without_zeros⟩)
    (c_without_zeros : PySem.W.codeIn K cd_without_zeros "_without_zeros" = true)
    (k_without_zeros : PySem.W.keepIn K (.ref f_without_zeros) = true)
    (aNotes___init__ : PySem.W.findIn K (.ref CNotes) "__init__" = some (some (.ref fNotes___init__)))
    (iNotes___init__ : PySem.W.isFn K (.ref fNotes___init__) = true)
    (gNotes___init__ : PySem.W.fnIn K fNotes___init__ = true)
    (lNotes___init__ : K.lookup fNotes___init__ = some ⟨ocNotes___init__, odNotes___init__, .func (PySem.W.fnOf "__init__" "Notes.__init__" (defArgs s_Notes___init__) (defBody s_Notes___init__) (defScope s_Notes___init__) (.ref tNotes___init__) kVNotes___init__ dcNotes___init__ pmNotes___init__ anNotes___init__ cdNotes___init__ ctNotes___init__), slNotes___init__⟩)
    (cNotes___init__ : PySem.W.codeIn K cdNotes___init__ "Notes.__init__" = true)
    (kNotes___init__ : PySem.W.keepIn K (.ref fNotes___init__) = true)
    (uNotes___init__ : K.lookup tNotes___init__ = some ⟨tcNotes___init__, tdNotes___init__, .seq #[.none] tnNotes___init__, tsNotes___init__⟩)
    (a_done : PySem.W.nsIn K mainGlobals "_done" = some (some (.ref f_done)))
    (l_done : K.lookup f_done = some ⟨oc_done, od_done, .func (PySem.W.fnOf "_done" "_done" (defArgs s__done) (defBody s__done) (defScope s__done) .none kV_done dc_done pm_done an_done cd_done ct_done), sl_done⟩)
    (c_done : PySem.W.codeIn K cd_done "_done" = true)
    (k_done : PySem.W.keepIn K (.ref f_done) = true)
    (a_changed : PySem.W.nsIn K mainGlobals "_changed" = some (some (.ref f_changed)))
    (l_changed : K.lookup f_changed = some ⟨oc_changed, od_changed, .func (PySem.W.fnOf "_changed" "_changed" (defArgs s__changed) (defBody s__changed) (defScope s__changed) .none kV_changed dc_changed pm_changed an_changed cd_changed ct_changed), sl_changed⟩)
    (c_changed : PySem.W.codeIn K cd_changed "_changed" = true)
    (k_changed : PySem.W.keepIn K (.ref f_changed) = true)
    (aNotes___add__ : PySem.W.findIn K (.ref CNotes) "__add__" = some (some (.ref fNotes___add__)))
    (iNotes___add__ : PySem.W.isFn K (.ref fNotes___add__) = true)
    (gNotes___add__ : PySem.W.fnIn K fNotes___add__ = true)
    (lNotes___add__ : K.lookup fNotes___add__ = some ⟨ocNotes___add__, odNotes___add__, .func (PySem.W.fnOf "__add__" "Notes.__add__" (defArgs s_Notes___add__) (defBody s_Notes___add__) (defScope s_Notes___add__) .none kVNotes___add__ dcNotes___add__ pmNotes___add__ anNotes___add__ cdNotes___add__ ctNotes___add__), slNotes___add__⟩)
    (cNotes___add__ : PySem.W.codeIn K cdNotes___add__ "Notes.__add__" = true)
    (kNotes___add__ : PySem.W.keepIn K (.ref fNotes___add__) = true)
    (aChange___call__ : PySem.W.findIn K (.ref CChange) "__call__" = some (some (.ref fChange___call__)))
    (iChange___call__ : PySem.W.isFn K (.ref fChange___call__) = true)
    (gChange___call__ : PySem.W.fnIn K fChange___call__ = true)
    (lChange___call__ : K.lookup fChange___call__ = some ⟨ocChange___call__, odChange___call__, .func (PySem.W.fnOf "__call__" "Change.__call__" (defArgs s_Change___call__) (defBody s_Change___call__) (defScope s_Change___call__) .none kVChange___call__ dcChange___call__ pmChange___call__ anChange___call__ cdChange___call__ ctChange___call__), slChange___call__⟩)
    (cChange___call__ : PySem.W.codeIn K cdChange___call__ "Change.__call__" = true)
    (kChange___call__ : PySem.W.keepIn K (.ref fChange___call__) = true)
    (aNotes___setitem__ : PySem.W.findIn K (.ref CNotes) "__setitem__" = some (some (.ref fNotes___setitem__)))
    (iNotes___setitem__ : PySem.W.isFn K (.ref fNotes___setitem__) = true)
    (gNotes___setitem__ : PySem.W.fnIn K fNotes___setitem__ = true)
    (lNotes___setitem__ : K.lookup fNotes___setitem__ = some ⟨ocNotes___setitem__, odNotes___setitem__, .func (PySem.W.fnOf "__setitem__" "Notes.__setitem__" (defArgs s_Notes___setitem__) (defBody s_Notes___setitem__) (defScope s_Notes___setitem__) .none kVNotes___setitem__ dcNotes___setitem__ pmNotes___setitem__ anNotes___setitem__ cdNotes___setitem__ ctNotes___setitem__), slNotes___setitem__⟩)
    (cNotes___setitem__ : PySem.W.codeIn K cdNotes___setitem__ "Notes.__setitem__" = true)
    (kNotes___setitem__ : PySem.W.keepIn K (.ref fNotes___setitem__) = true)
    (a_law_new_notes : PySem.W.nsIn K mainGlobals "_law_new_notes" = some (some (.ref f_law_new_notes)))
    (l_law_new_notes : K.lookup f_law_new_notes = some ⟨oc_law_new_notes, od_law_new_notes, .func (PySem.W.fnOf "_law_new_notes" "_law_new_notes" (defArgs s__law_new_notes) (defBody s__law_new_notes) (defScope s__law_new_notes) .none kV_law_new_notes dc_law_new_notes pm_law_new_notes an_law_new_notes cd_law_new_notes ct_law_new_notes), sl_law_new_notes⟩)
    (c_law_new_notes : PySem.W.codeIn K cd_law_new_notes "_law_new_notes" = true)
    (k_law_new_notes : PySem.W.keepIn K (.ref f_law_new_notes) = true)
    (aNotes___iadd__ : PySem.W.findIn K (.ref CNotes) "__iadd__" = some (some (.ref fNotes___iadd__)))
    (iNotes___iadd__ : PySem.W.isFn K (.ref fNotes___iadd__) = true)
    (gNotes___iadd__ : PySem.W.fnIn K fNotes___iadd__ = true)
    (lNotes___iadd__ : K.lookup fNotes___iadd__ = some ⟨ocNotes___iadd__, odNotes___iadd__, .func (PySem.W.fnOf "__iadd__" "Notes.__iadd__" (defArgs s_Notes___iadd__) (defBody s_Notes___iadd__) (defScope s_Notes___iadd__) .none kVNotes___iadd__ dcNotes___iadd__ pmNotes___iadd__ anNotes___iadd__ cdNotes___iadd__ ctNotes___iadd__), slNotes___iadd__⟩)
    (cNotes___iadd__ : PySem.W.codeIn K cdNotes___iadd__ "Notes.__iadd__" = true)
    (kNotes___iadd__ : PySem.W.keepIn K (.ref fNotes___iadd__) = true)
    (a_law_in_place : PySem.W.nsIn K mainGlobals "_law_in_place" = some (some (.ref f_law_in_place)))
    (l_law_in_place : K.lookup f_law_in_place = some ⟨oc_law_in_place, od_law_in_place, .func (PySem.W.fnOf "_law_in_place" "_law_in_place" (defArgs s__law_in_place) (defBody s__law_in_place) (defScope s__law_in_place) .none kV_law_in_place dc_law_in_place pm_law_in_place an_law_in_place cd_law_in_place ct_law_in_place), sl_law_in_place⟩)
    (c_law_in_place : PySem.W.codeIn K cd_law_in_place "_law_in_place" = true)
    (k_law_in_place : PySem.W.keepIn K (.ref f_law_in_place) = true)
    (aChange___init__ : PySem.W.findIn K (.ref CChange) "__init__" = some (some (.ref fChange___init__)))
    (iChange___init__ : PySem.W.isFn K (.ref fChange___init__) = true)
    (gChange___init__ : PySem.W.fnIn K fChange___init__ = true)
    (lChange___init__ : K.lookup fChange___init__ = some ⟨ocChange___init__, odChange___init__, .func (PySem.W.fnOf "__init__" "Change.__init__" (defArgs s_Change___init__) (defBody s_Change___init__) (defScope s_Change___init__) (.ref tChange___init__) kVChange___init__ dcChange___init__ pmChange___init__ anChange___init__ cdChange___init__ ctChange___init__), slChange___init__⟩)
    (cChange___init__ : PySem.W.codeIn K cdChange___init__ "Change.__init__" = true)
    (kChange___init__ : PySem.W.keepIn K (.ref fChange___init__) = true)
    (uChange___init__ : K.lookup tChange___init__ = some ⟨tcChange___init__, tdChange___init__, .seq #[.none] tnChange___init__, tsChange___init__⟩)
    (aChange_parts : PySem.W.findIn K (.ref CChange) "parts" = some (some (.ref fChange_parts)))
    (iChange_parts : PySem.W.isFn K (.ref fChange_parts) = true)
    (gChange_parts : PySem.W.fnIn K fChange_parts = true)
    (lChange_parts : K.lookup fChange_parts = some ⟨ocChange_parts, odChange_parts, .func (PySem.W.fnOf "parts" "Change.parts" (defArgs s_Change_parts) (defBody s_Change_parts) (defScope s_Change_parts) .none kVChange_parts dcChange_parts pmChange_parts anChange_parts cdChange_parts ctChange_parts), slChange_parts⟩)
    (cChange_parts : PySem.W.codeIn K cdChange_parts "Change.parts" = true)
    (kChange_parts : PySem.W.keepIn K (.ref fChange_parts) = true)
    (aChange___eq__ : PySem.W.findIn K (.ref CChange) "__eq__" = some (some (.ref fChange___eq__)))
    (iChange___eq__ : PySem.W.isFn K (.ref fChange___eq__) = true)
    (gChange___eq__ : PySem.W.fnIn K fChange___eq__ = true)
    (lChange___eq__ : K.lookup fChange___eq__ = some ⟨ocChange___eq__, odChange___eq__, .func (PySem.W.fnOf "__eq__" "Change.__eq__" (defArgs s_Change___eq__) (defBody s_Change___eq__) (defScope s_Change___eq__) .none kVChange___eq__ dcChange___eq__ pmChange___eq__ anChange___eq__ cdChange___eq__ ctChange___eq__), slChange___eq__⟩)
    (cChange___eq__ : PySem.W.codeIn K cdChange___eq__ "Change.__eq__" = true)
    (kChange___eq__ : PySem.W.keepIn K (.ref fChange___eq__) = true)
    (alaw : PySem.W.nsIn K mainGlobals "law" = some (some (.ref flaw)))
    (llaw : K.lookup flaw = some ⟨oclaw, odlaw, .func (PySem.W.fnOf "law" "law" (defArgs s_law) (defBody s_law) (defScope s_law) .none kVlaw dclaw pmlaw anlaw cdlaw ctlaw), sllaw⟩)
    (claw : PySem.W.codeIn K cdlaw "law" = true)
    (klaw : PySem.W.keepIn K (.ref flaw) = true) :
    ∃ fd : FuncData, (∀ (s : Shared) (v : Value), BindsTo s fd ⟨[v], []⟩ [("script", v)]) ∧ ∀ base : Heap, K.In base → base.Ns mainGlobals mg → FnOk l.prog w K mg base CX0 9 fa fd ["script"] (spLaw K) := by
  have e := hfa.symm.trans (PySem.W.mg_of X G alaw)
  cases e
  have Z : ∀ {x : Str}, PySem.W.nsIn K mainGlobals x = some none → mg x = none := fun h => PySem.W.mg_none_of X G h
  have G1 : ∀ {x : Str} {a : Addr}, PySem.W.nsIn K mainGlobals x = some (some (.ref a)) → mg x = some (.ref a) := fun h => PySem.W.mg_of X G h
  have F_law_pool := fun2_mk (st := s__law_pool) l_law_pool c_law_pool
  have b_law_pool := (fun_mk (st := s__law_pool) l_law_pool c_law_pool k_law_pool).binds (ps := ["cell"]) fun _ _ _ _ _ _ us hl => match us, hl with | [_], _ => rfl
  have F_law_draw := fun2_mk (st := s__law_draw) l_law_draw c_law_draw
  have b_law_draw := (fun_mk (st := s__law_draw) l_law_draw c_law_draw k_law_draw).binds (ps := ["pool", "many"]) fun _ _ _ _ _ _ us hl => match us, hl with | [_, _], _ => rfl
  have F_law_integer := fun2_mk (st := s__law_integer) l_law_integer c_law_integer
  have b_law_integer := (fun_mk (st := s__law_integer) l_law_integer c_law_integer k_law_integer).binds (ps := ["pool"]) fun _ _ _ _ _ _ us hl => match us, hl with | [_], _ => rfl
  have F_law_names := fun2_mk (st := s__law_names) l_law_names c_law_names
  have b_law_names := (fun_mk (st := s__law_names) l_law_names c_law_names k_law_names).binds (ps := ["pool", "many"]) fun _ _ _ _ _ _ us hl => match us, hl with | [_, _], _ => rfl
  have F_law_parts := fun2_mk (st := s__law_parts) l_law_parts c_law_parts
  have b_law_parts := (fun_mk (st := s__law_parts) l_law_parts c_law_parts k_law_parts).binds (ps := ["pool", "names", "many"]) fun _ _ _ _ _ _ us hl => match us, hl with | [_, _, _], _ => rfl
  have F_law_changed := fun2_mk (st := s__law_changed) l_law_changed c_law_changed
  have b_law_changed := (fun_mk (st := s__law_changed) l_law_changed c_law_changed k_law_changed).binds (ps := ["values", "parts"]) fun _ _ _ _ _ _ us hl => match us, hl with | [_, _], _ => rfl
  have F_law_is_integer := fun2_mk (st := s__law_is_integer) l_law_is_integer c_law_is_integer
  have b_law_is_integer := (fun_mk (st := s__law_is_integer) l_law_is_integer c_law_is_integer k_law_is_integer).binds (ps := ["found"]) fun _ _ _ _ _ _ us hl => match us, hl with | [_], _ => rfl
  have F_law_pairs := fun2_mk (st := s__law_pairs) l_law_pairs c_law_pairs
  have b_law_pairs := (fun_mk (st := s__law_pairs) l_law_pairs c_law_pairs k_law_pairs).binds (ps := ["values"]) fun _ _ _ _ _ _ us hl => match us, hl with | [_], _ => rfl
  have F_law_same_pairs := fun2_mk (st := s__law_same_pairs) l_law_same_pairs c_law_same_pairs
  have b_law_same_pairs := (fun_mk (st := s__law_same_pairs) l_law_same_pairs c_law_same_pairs k_law_same_pairs).binds (ps := ["found", "due"]) fun _ _ _ _ _ _ us hl => match us, hl with | [_, _], _ => rfl
  have FNotes___getitem__ := fun2_mk (st := s_Notes___getitem__) lNotes___getitem__ cNotes___getitem__
  have bNotes___getitem__ := (fun_mk (st := s_Notes___getitem__) lNotes___getitem__ cNotes___getitem__ kNotes___getitem__).binds (ps := ["self", "at"]) fun _ _ _ _ _ _ us hl => match us, hl with | [_, _], _ => rfl
  have FNotes___contains__ := fun2_mk (st := s_Notes___contains__) lNotes___contains__ cNotes___contains__
  have bNotes___contains__ := (fun_mk (st := s_Notes___contains__) lNotes___contains__ cNotes___contains__ kNotes___contains__).binds (ps := ["self", "x"]) fun _ _ _ _ _ _ us hl => match us, hl with | [_, _], _ => rfl
  have FNotes___len__ := fun2_mk (st := s_Notes___len__) lNotes___len__ cNotes___len__
  have bNotes___len__ := (fun_mk (st := s_Notes___len__) lNotes___len__ cNotes___len__ kNotes___len__).binds (ps := ["self"]) fun _ _ _ _ _ _ us hl => match us, hl with | [_], _ => rfl
  have Fin_order := fun2_mk (st := s_in_order) lin_order cin_order
  have bin_order := (fun_mk (st := s_in_order) lin_order cin_order kin_order).binds (ps := ["names"]) fun _ _ _ _ _ _ us hl => match us, hl with | [_], _ => rfl
  have FNotes_pairs := fun2_mk (st := s_Notes_pairs) lNotes_pairs cNotes_pairs
  have bNotes_pairs := (fun_mk (st := s_Notes_pairs) lNotes_pairs cNotes_pairs kNotes_pairs).binds (ps := ["self"]) fun _ _ _ _ _ _ us hl => match us, hl with | [_], _ => rfl
  have F_law_right := fun2_mk (st := s__law_right) l_law_right c_law_right
  have b_law_right := (fun_mk (st := s__law_right) l_law_right c_law_right k_law_right).binds (ps := ["notes", "values", "names"]) fun _ _ _ _ _ _ us hl => match us, hl with | [_, _, _], _ => rfl
  have F_without_zeros := fun2_mk (st := s__without_zeros) l_without_zeros c_without_zeros
  have b_without_zeros := (fun_mk (st := s__without_zeros) l_without_zeros c_without_zeros k_without_zeros).binds (ps := ["values"]) fun _ _ _ _ _ _ us hl => match us, hl with | [_], _ => rfl
  have FNotes___init__ := fun2_mk (st := s_Notes___init__) lNotes___init__ cNotes___init__
  obtain ⟨bNotes___init__, wNotes___init__, rwNotes___init__, b0Notes___init__⟩ := dfl_binds (st := s_Notes___init__) (v := .non) (ps := ["self", "values"]) (m := 1) lNotes___init__ cNotes___init__ kNotes___init__ uNotes___init__ rfl rfl (fun _ _ _ _ _ _ _ us its hu hi => match us, its, hu, hi with | [_, _], [_], _, _ => ⟨_, rfl, rfl⟩) (fun _ _ _ _ _ _ _ us its hu hi => match us, its, hu, hi with | [_], [_], _, _ => ⟨_, rfl, rfl⟩)
  cases (show wNotes___init__ = Value.none from rwNotes___init__)
  have F_done := fun2_mk (st := s__done) l_done c_done
  have b_done := (fun_mk (st := s__done) l_done c_done k_done).binds (ps := ["k", "part"]) fun _ _ _ _ _ _ us hl => match us, hl with | [_, _], _ => rfl
  have F_changed := fun2_mk (st := s__changed) l_changed c_changed
  have b_changed := (fun_mk (st := s__changed) l_changed c_changed k_changed).binds (ps := ["values", "parts"]) fun _ _ _ _ _ _ us hl => match us, hl with | [_, _], _ => rfl
  have FNotes___add__ := fun2_mk (st := s_Notes___add__) lNotes___add__ cNotes___add__
  have bNotes___add__ := (fun_mk (st := s_Notes___add__) lNotes___add__ cNotes___add__ kNotes___add__).binds (ps := ["self", "other"]) fun _ _ _ _ _ _ us hl => match us, hl with | [_, _], _ => rfl
  have FChange___call__ := fun2_mk (st := s_Change___call__) lChange___call__ cChange___call__
  have bChange___call__ := (fun_mk (st := s_Change___call__) lChange___call__ cChange___call__ kChange___call__).binds (ps := ["self", "notes"]) fun _ _ _ _ _ _ us hl => match us, hl with | [_, _], _ => rfl
  have FNotes___setitem__ := fun2_mk (st := s_Notes___setitem__) lNotes___setitem__ cNotes___setitem__
  have bNotes___setitem__ := (fun_mk (st := s_Notes___setitem__) lNotes___setitem__ cNotes___setitem__ kNotes___setitem__).binds (ps := ["self", "at", "worth"]) fun _ _ _ _ _ _ us hl => match us, hl with | [_, _, _], _ => rfl
  have F_law_new_notes := fun2_mk (st := s__law_new_notes) l_law_new_notes c_law_new_notes
  have b_law_new_notes := (fun_mk (st := s__law_new_notes) l_law_new_notes c_law_new_notes k_law_new_notes).binds (ps := ["change", "values", "due", "names", "order", "name"]) fun _ _ _ _ _ _ us hl => match us, hl with | [_, _, _, _, _, _], _ => rfl
  have FNotes___iadd__ := fun2_mk (st := s_Notes___iadd__) lNotes___iadd__ cNotes___iadd__
  have bNotes___iadd__ := (fun_mk (st := s_Notes___iadd__) lNotes___iadd__ cNotes___iadd__ kNotes___iadd__).binds (ps := ["self", "other"]) fun _ _ _ _ _ _ us hl => match us, hl with | [_, _], _ => rfl
  have F_law_in_place := fun2_mk (st := s__law_in_place) l_law_in_place c_law_in_place
  have b_law_in_place := (fun_mk (st := s__law_in_place) l_law_in_place c_law_in_place k_law_in_place).binds (ps := ["change", "values", "due", "twice", "names"]) fun _ _ _ _ _ _ us hl => match us, hl with | [_, _, _, _, _], _ => rfl
  have FChange___init__ := fun2_mk (st := s_Change___init__) lChange___init__ cChange___init__
  obtain ⟨bChange___init__, wChange___init__, rwChange___init__, b0Change___init__⟩ := dfl_binds (st := s_Change___init__) (v := .non) (ps := ["self", "parts"]) (m := 1) lChange___init__ cChange___init__ kChange___init__ uChange___init__ rfl rfl (fun _ _ _ _ _ _ _ us its hu hi => match us, its, hu, hi with | [_, _], [_], _, _ => ⟨_, rfl, rfl⟩) (fun _ _ _ _ _ _ _ us its hu hi => match us, its, hu, hi with | [_], [_], _, _ => ⟨_, rfl, rfl⟩)
  cases (show wChange___init__ = Value.none from rwChange___init__)
  have FChange_parts := fun2_mk (st := s_Change_parts) lChange_parts cChange_parts
  have bChange_parts := (fun_mk (st := s_Change_parts) lChange_parts cChange_parts kChange_parts).binds (ps := ["self"]) fun _ _ _ _ _ _ us hl => match us, hl with | [_], _ => rfl
  have FChange___eq__ := fun2_mk (st := s_Change___eq__) lChange___eq__ cChange___eq__
  have bChange___eq__ := (fun_mk (st := s_Change___eq__) lChange___eq__ cChange___eq__ kChange___eq__).binds (ps := ["self", "other"]) fun _ _ _ _ _ _ us hl => match us, hl with | [_, _], _ => rfl
  have Flaw := fun2_mk (st := s_law) llaw claw
  refine ⟨PySem.W.fnOf "law" "law" (defArgs s_law) (defBody s_law) (defScope s_law) .none kVlaw dclaw pmlaw anlaw cdlaw ctlaw, fun s v => .of_eq rfl, fun base _ _ => ?_⟩
  have T : Txt K mg CNotes CChange 0 0 ANO_PART 0 := { z_abs := Z z_abs, z_bool := Z z_bool, z_dict := Z z_dict, z_int := Z z_int, z_isinstance := Z z_isinstance, z_len := Z z_len, z_list := Z z_list, z_ord := Z z_ord, z_range := Z z_range, z_sorted := Z z_sorted, z_str := Z z_str, z_sum := Z z_sum, z_tuple := Z z_tuple, c_Notes := ⟨pgNotes, hdNotes, poNotes, saNotes⟩, g_Notes := G1 aCNotes, q_Notes := nsNotes, sf_Notes := sfNotes, i_Notes := ⟨⟨pgNotes, hdNotes, poNotes, saNotes⟩, clNotes, hgd, htk, mrNotes, me_self⟩, n_Notes__values := nNotes__values, c_Change := ⟨pgChange, hdChange, poChange, saChange⟩, g_Change := G1 aCChange, q_Change := nsChange, sf_Change := sfChange, i_Change := ⟨⟨pgChange, hdChange, poChange, saChange⟩, clChange, hgd, htk, mrChange, me_self⟩, n_Change__parts := nChange__parts, no_Change___add__ := ⟨x1, x2, x3, x4, xC⟩, d_Notes_Change := dNC, g_NO_PART := G1 aANO_PART, t_NO_PART := sqt_pair oANO_PART ⟨_, rfl⟩ ⟨_, rfl⟩ }
  have D__law_pool := mkD (mg := mg) (ok_pool (P := l.prog) (w := w) (base := base) (k := 0) F_law_pool T ) k_law_pool (G1 a_law_pool) b_law_pool
  have D__law_draw := mkD (mg := mg) (ok_draw (P := l.prog) (w := w) (base := base) (k := 0) F_law_draw T ) k_law_draw (G1 a_law_draw) b_law_draw
  have D__law_integer := mkD (mg := mg) (ok_integer (P := l.prog) (w := w) (base := base) (k := 1) F_law_integer T (D__law_draw.mono (by decide))) k_law_integer (G1 a_law_integer) b_law_integer
  have D__law_names := mkD (mg := mg) (ok_names (P := l.prog) (w := w) (base := base) (k := 1) F_law_names T (D__law_draw.mono (by decide))) k_law_names (G1 a_law_names) b_law_names
  have D__law_parts := mkD (mg := mg) (ok_lparts (P := l.prog) (w := w) (base := base) (k := 2) F_law_parts T (D__law_draw.mono (by decide)) (D__law_integer.mono (by decide))) k_law_parts (G1 a_law_parts) b_law_parts
  have D__law_changed := mkD (mg := mg) (ok_lchanged (P := l.prog) (w := w) (base := base) (k := 0) F_law_changed T ) k_law_changed (G1 a_law_changed) b_law_changed
  have D__law_is_integer := mkD (mg := mg) (ok_isint (P := l.prog) (w := w) (base := base) (k := 0) F_law_is_integer T ) k_law_is_integer (G1 a_law_is_integer) b_law_is_integer
  have D__law_pairs := mkD (mg := mg) (ok_lpairs (P := l.prog) (w := w) (base := base) (k := 0) F_law_pairs T ) k_law_pairs (G1 a_law_pairs) b_law_pairs
  have D__law_same_pairs := mkD (mg := mg) (ok_same (P := l.prog) (w := w) (base := base) (k := 1) F_law_same_pairs T (D__law_is_integer.mono (by decide))) k_law_same_pairs (G1 a_law_same_pairs) b_law_same_pairs
  have M_Notes___getitem__ := mkM (ok_get (P := l.prog) (w := w) (base := base) (k := 0) FNotes___getitem__ T ) aNotes___getitem__ iNotes___getitem__ kNotes___getitem__ gNotes___getitem__ bNotes___getitem__
  have M_Notes___contains__ := mkM (ok_has (P := l.prog) (w := w) (base := base) (k := 0) FNotes___contains__ T ) aNotes___contains__ iNotes___contains__ kNotes___contains__ gNotes___contains__ bNotes___contains__
  have M_Notes___len__ := mkM (ok_len (P := l.prog) (w := w) (base := base) (k := 0) FNotes___len__ T ) aNotes___len__ iNotes___len__ kNotes___len__ gNotes___len__ bNotes___len__
  have D_in_order := mkD (mg := mg) (ok_in_order (P := l.prog) (w := w) (base := base) (k := 0) Fin_order T ) kin_order (G1 ain_order) bin_order
  have M_Notes_pairs := mkM (ok_pairs (P := l.prog) (w := w) (base := base) (k := 1) FNotes_pairs T (D_in_order.mono (by decide))) aNotes_pairs iNotes_pairs kNotes_pairs gNotes_pairs bNotes_pairs
  have D__law_right := mkD (mg := mg) (ok_right (P := l.prog) (w := w) (base := base) (k := 2) F_law_right T (D__law_is_integer.mono (by decide)) (D__law_pairs.mono (by decide)) (D__law_same_pairs.mono (by decide)) (M_Notes___getitem__.mono (by decide)) (M_Notes___contains__.mono (by decide)) (M_Notes___len__.mono (by decide)) (M_Notes_pairs.mono (by decide))) k_law_right (G1 a_law_right) b_law_right
  have D__without_zeros := mkD (mg := mg) (ok_wz (P := l.prog) (w := w) (base := base) (k := 0) F_without_zeros T ) k_without_zeros (G1 a_without_zeros) b_without_zeros
  have F_Notes___init__ := ok_init (P := l.prog) (w := w) (base := base) (k := 1) FNotes___init__ T (D__without_zeros.mono (by decide))
  have I_Notes : InitOk l.prog w K mg base "Notes" CNotes 2 ["self", "values"] _ := ⟨⟨pgNotes, hdNotes, poNotes, saNotes⟩, G1 aCNotes, mkNotes, kcNotes, _, _, F_Notes___init__, aNotes___init__, iNotes___init__, bNotes___init__⟩
  have I0_Notes : Init0 l.prog w K mg base "Notes" CNotes 2 ["self", "values"] _ := ⟨G1 aCNotes, mkNotes, kcNotes, _, _, F_Notes___init__, aNotes___init__, iNotes___init__, b0Notes___init__⟩
  have D__done := mkD (mg := mg) (ok_done (P := l.prog) (w := w) (base := base) (k := 0) F_done T ) k_done (G1 a_done) b_done
  have D__changed := mkD (mg := mg) (ok_changed (P := l.prog) (w := w) (base := base) (k := 1) F_changed T (D__done.mono (by decide)) (D__without_zeros.mono (by decide))) k_changed (G1 a_changed) b_changed
  have M_Notes___add__ := mkM (ok_add (P := l.prog) (w := w) (base := base) (k := 2) FNotes___add__ T (D__changed.mono (by decide)) (I_Notes.mono (by decide))) aNotes___add__ iNotes___add__ kNotes___add__ gNotes___add__ bNotes___add__
  have M_Change___call__ := mkM (ok_ccall (P := l.prog) (w := w) (base := base) (k := 4) FChange___call__ T (M_Notes___add__.mono (by decide))) aChange___call__ iChange___call__ kChange___call__ gChange___call__ bChange___call__
  have M_Notes___setitem__ := mkM (ok_set (P := l.prog) (w := w) (base := base) (k := 1) FNotes___setitem__ T (D__without_zeros.mono (by decide))) aNotes___setitem__ iNotes___setitem__ kNotes___setitem__ gNotes___setitem__ bNotes___setitem__
  have D__law_new_notes := mkD (mg := mg) (ok_new (P := l.prog) (w := w) (base := base) (k := 5) F_law_new_notes T (D__law_right.mono (by decide)) (I_Notes.mono (by decide)) (M_Change___call__.mono (by decide)) (M_Notes___add__.mono (by decide)) (M_Notes___setitem__.mono (by decide))) k_law_new_notes (G1 a_law_new_notes) b_law_new_notes
  have M_Notes___iadd__ := mkM (ok_iadd (P := l.prog) (w := w) (base := base) (k := 2) FNotes___iadd__ T (D__changed.mono (by decide))) aNotes___iadd__ iNotes___iadd__ kNotes___iadd__ gNotes___iadd__ bNotes___iadd__
  have D__law_in_place := mkD (mg := mg) (ok_place (P := l.prog) (w := w) (base := base) (k := 5) F_law_in_place T (D__law_right.mono (by decide)) (I_Notes.mono (by decide)) (M_Change___call__.mono (by decide)) (M_Notes___add__.mono (by decide)) (M_Notes___iadd__.mono (by decide))) k_law_in_place (G1 a_law_in_place) b_law_in_place
  have F_Change___init__ := ok_cinit (P := l.prog) (w := w) (base := base) (k := 0) FChange___init__ T 
  have I_Change : InitOk l.prog w K mg base "Change" CChange 1 ["self", "parts"] _ := ⟨⟨pgChange, hdChange, poChange, saChange⟩, G1 aCChange, mkChange, kcChange, _, _, F_Change___init__, aChange___init__, iChange___init__, bChange___init__⟩
  have I0_Change : Init0 l.prog w K mg base "Change" CChange 1 ["self", "parts"] _ := ⟨G1 aCChange, mkChange, kcChange, _, _, F_Change___init__, aChange___init__, iChange___init__, b0Change___init__⟩
  have M_Change_parts := mkM (ok_parts (P := l.prog) (w := w) (base := base) (k := 1) FChange_parts T (D_in_order.mono (by decide))) aChange_parts iChange_parts kChange_parts gChange_parts bChange_parts
  have M_Change___eq__ := mkM (ok_ceq (P := l.prog) (w := w) (base := base) (k := 0) FChange___eq__ T ) aChange___eq__ iChange___eq__ kChange___eq__ gChange___eq__ bChange___eq__
  exact ok_law (P := l.prog) (w := w) (base := base) (k := 7) Flaw T (D__law_pool.mono (by decide)) (D__law_draw.mono (by decide)) (D__law_integer.mono (by decide)) (D__law_names.mono (by decide)) (D__law_parts.mono (by decide)) (D__law_changed.mono (by decide)) (D__law_new_notes.mono (by decide)) (D__law_in_place.mono (by decide)) (I_Change.mono (by decide)) (M_Change_parts.mono (by decide)) (M_Change___eq__.mono (by decide))
end T
open PySem PySem.W PyProof.Rows in
set_option maxRecDepth 100000 in
set_option maxHeartbeats 0 in
theorem PySem.Challenge.cw_sceneskips_k04_changes_of_notes_holds : PySem.Challenge.rw_sceneskips_k04_changes_of_notes.Holds := by
  w_on; o_law; k_head; (case hw => w_witness2)
  k_fill
  refine L2.walk_of (l := PySem.Challenge.rw_sceneskips_k04_changes_of_notes) (n := 63) (k := 9) (x := "script") (CX := fun _ => L2.CX0) (sp := fun w => T.spLaw _) rfl (by decide) rfl ⟨rfl, by decide, by decide⟩ (fun w h Y => PySem.W.kIn_of Y) ?F (fun _ _ a ns hl _ hS => ⟨a, ns, rfl, hS, hl, fun _ => rfl⟩) (fun _ _ _ _ _ h => h)
  case F =>
    intro w mg fa h KX G hmg
    refine' T.all_mk KX G hmg ?aCNotes ?pgNotes ?hdNotes ?poNotes ?saNotes ?mkNotes ?kcNotes ?nsNotes ?sfNotes ?clNotes ?mrNotes ?nNotes__values ?aCChange ?pgChange ?hdChange ?poChange ?saChange ?mkChange ?kcChange ?nsChange ?sfChange ?clChange ?mrChange ?nChange__parts ?hgd ?htk ?dNC ?x1 ?x2 ?x3 ?x4 ?xC ?aANO_PART ?oANO_PART ?z_abs ?z_bool ?z_dict ?z_int ?z_isinstance ?z_len ?z_list ?z_ord ?z_range ?z_sorted ?z_str ?z_sum ?z_tuple ?a_law_pool ?l_law_pool ?c_law_pool ?k_law_pool ?a_law_draw ?l_law_draw ?c_law_draw ?k_law_draw ?a_law_integer ?l_law_integer ?c_law_integer ?k_law_integer ?a_law_names ?l_law_names ?c_law_names ?k_law_names ?a_law_parts ?l_law_parts ?c_law_parts ?k_law_parts ?a_law_changed ?l_law_changed ?c_law_changed ?k_law_changed ?a_law_is_integer ?l_law_is_integer ?c_law_is_integer ?k_law_is_integer ?a_law_pairs ?l_law_pairs ?c_law_pairs ?k_law_pairs ?a_law_same_pairs ?l_law_same_pairs ?c_law_same_pairs ?k_law_same_pairs ?aNotes___getitem__ ?iNotes___getitem__ ?gNotes___getitem__ ?lNotes___getitem__ ?cNotes___getitem__ ?kNotes___getitem__ ?aNotes___contains__ ?iNotes___contains__ ?gNotes___contains__ ?lNotes___contains__ ?cNotes___contains__ ?kNotes___contains__ ?aNotes___len__ ?iNotes___len__ ?gNotes___len__ ?lNotes___len__ ?cNotes___len__ ?kNotes___len__ ?ain_order ?lin_order ?cin_order ?kin_order ?aNotes_pairs ?iNotes_pairs ?gNotes_pairs ?lNotes_pairs ?cNotes_pairs ?kNotes_pairs ?a_law_right ?l_law_right ?c_law_right ?k_law_right ?a_without_zeros ?l_without_zeros ?c_without_zeros ?k_without_zeros ?aNotes___init__ ?iNotes___init__ ?gNotes___init__ ?lNotes___init__ ?cNotes___init__ ?kNotes___init__ ?uNotes___init__ ?a_done ?l_done ?c_done ?k_done ?a_changed ?l_changed ?c_changed ?k_changed ?aNotes___add__ ?iNotes___add__ ?gNotes___add__ ?lNotes___add__ ?cNotes___add__ ?kNotes___add__ ?aChange___call__ ?iChange___call__ ?gChange___call__ ?lChange___call__ ?cChange___call__ ?kChange___call__ ?aNotes___setitem__ ?iNotes___setitem__ ?gNotes___setitem__ ?lNotes___setitem__ ?cNotes___setitem__ ?kNotes___setitem__ ?a_law_new_notes ?l_law_new_notes ?c_law_new_notes ?k_law_new_notes ?aNotes___iadd__ ?iNotes___iadd__ ?gNotes___iadd__ ?lNotes___iadd__ ?cNotes___iadd__ ?kNotes___iadd__ ?a_law_in_place ?l_law_in_place ?c_law_in_place ?k_law_in_place ?aChange___init__ ?iChange___init__ ?gChange___init__ ?lChange___init__ ?cChange___init__ ?kChange___init__ ?uChange___init__ ?aChange_parts ?iChange_parts ?gChange_parts ?lChange_parts ?cChange_parts ?kChange_parts ?aChange___eq__ ?iChange___eq__ ?gChange___eq__ ?lChange___eq__ ?cChange___eq__ ?kChange___eq__ ?alaw ?llaw ?claw ?klaw
    (case aCNotes => k_is)
    (case pgNotes => k_is)
    (case hdNotes => k_is)
    (case poNotes => k_is)
    (case saNotes => k_is)
    (case mkNotes => k_is)
    (case kcNotes => k_is)
    (case nsNotes => k_is)
    (case sfNotes => k_is)
    (case clNotes => k_is)
    (case mrNotes => k_is)
    (case nNotes__values => k_is)
    (case aCChange => k_is)
    (case pgChange => k_is)
    (case hdChange => k_is)
    (case poChange => k_is)
    (case saChange => k_is)
    (case mkChange => k_is)
    (case kcChange => k_is)
    (case nsChange => k_is)
    (case sfChange => k_is)
    (case clChange => k_is)
    (case mrChange => k_is)
    (case nChange__parts => k_is)
    (case hgd => k_is)
    (case htk => k_is)
    (case dNC => decide)
    (case x1 => k_is)
    (case x2 => k_is)
    (case x3 => k_is)
    (case x4 => k_is)
    (case xC => exact ⟨_, by k_is, rfl⟩)
    (case aANO_PART => k_is)
    (case oANO_PART => k_is)
    (case z_abs => k_is)
    (case z_bool => k_is)
    (case z_dict => k_is)
    (case z_int => k_is)
    (case z_isinstance => k_is)
    (case z_len => k_is)
    (case z_list => k_is)
    (case z_ord => k_is)
    (case z_range => k_is)
    (case z_sorted => k_is)
    (case z_str => k_is)
    (case z_sum => k_is)
    (case z_tuple => k_is)
    (case a_law_pool => k_is)
    (case l_law_pool => k_is)
    (case c_law_pool => k_is)
    (case k_law_pool => k_is)
    (case a_law_draw => k_is)
    (case l_law_draw => k_is)
    (case c_law_draw => k_is)
    (case k_law_draw => k_is)
    (case a_law_integer => k_is)
    (case l_law_integer => k_is)
    (case c_law_integer => k_is)
    (case k_law_integer => k_is)
    (case a_law_names => k_is)
    (case l_law_names => k_is)
    (case c_law_names => k_is)
    (case k_law_names => k_is)
    (case a_law_parts => k_is)
    (case l_law_parts => k_is)
    (case c_law_parts => k_is)
    (case k_law_parts => k_is)
    (case a_law_changed => k_is)
    (case l_law_changed => k_is)
    (case c_law_changed => k_is)
    (case k_law_changed => k_is)
    (case a_law_is_integer => k_is)
    (case l_law_is_integer => k_is)
    (case c_law_is_integer => k_is)
    (case k_law_is_integer => k_is)
    (case a_law_pairs => k_is)
    (case l_law_pairs => k_is)
    (case c_law_pairs => k_is)
    (case k_law_pairs => k_is)
    (case a_law_same_pairs => k_is)
    (case l_law_same_pairs => k_is)
    (case c_law_same_pairs => k_is)
    (case k_law_same_pairs => k_is)
    (case aNotes___getitem__ => k_is)
    (case iNotes___getitem__ => k_is)
    (case gNotes___getitem__ => k_is)
    (case lNotes___getitem__ => k_is)
    (case cNotes___getitem__ => k_is)
    (case kNotes___getitem__ => k_is)
    (case aNotes___contains__ => k_is)
    (case iNotes___contains__ => k_is)
    (case gNotes___contains__ => k_is)
    (case lNotes___contains__ => k_is)
    (case cNotes___contains__ => k_is)
    (case kNotes___contains__ => k_is)
    (case aNotes___len__ => k_is)
    (case iNotes___len__ => k_is)
    (case gNotes___len__ => k_is)
    (case lNotes___len__ => k_is)
    (case cNotes___len__ => k_is)
    (case kNotes___len__ => k_is)
    (case ain_order => k_is)
    (case lin_order => k_is)
    (case cin_order => k_is)
    (case kin_order => k_is)
    (case aNotes_pairs => k_is)
    (case iNotes_pairs => k_is)
    (case gNotes_pairs => k_is)
    (case lNotes_pairs => k_is)
    (case cNotes_pairs => k_is)
    (case kNotes_pairs => k_is)
    (case a_law_right => k_is)
    (case l_law_right => k_is)
    (case c_law_right => k_is)
    (case k_law_right => k_is)
    (case a_without_zeros => k_is)
    (case l_without_zeros => k_is)
    (case c_without_zeros => k_is)
    (case k_without_zeros => k_is)
    (case aNotes___init__ => k_is)
    (case iNotes___init__ => k_is)
    (case gNotes___init__ => k_is)
    (case lNotes___init__ => k_is)
    (case cNotes___init__ => k_is)
    (case kNotes___init__ => k_is)
    (case uNotes___init__ => k_is)
    (case a_done => k_is)
    (case l_done => k_is)
    (case c_done => k_is)
    (case k_done => k_is)
    (case a_changed => k_is)
    (case l_changed => k_is)
    (case c_changed => k_is)
    (case k_changed => k_is)
    (case aNotes___add__ => k_is)
    (case iNotes___add__ => k_is)
    (case gNotes___add__ => k_is)
    (case lNotes___add__ => k_is)
    (case cNotes___add__ => k_is)
    (case kNotes___add__ => k_is)
    (case aChange___call__ => k_is)
    (case iChange___call__ => k_is)
    (case gChange___call__ => k_is)
    (case lChange___call__ => k_is)
    (case cChange___call__ => k_is)
    (case kChange___call__ => k_is)
    (case aNotes___setitem__ => k_is)
    (case iNotes___setitem__ => k_is)
    (case gNotes___setitem__ => k_is)
    (case lNotes___setitem__ => k_is)
    (case cNotes___setitem__ => k_is)
    (case kNotes___setitem__ => k_is)
    (case a_law_new_notes => k_is)
    (case l_law_new_notes => k_is)
    (case c_law_new_notes => k_is)
    (case k_law_new_notes => k_is)
    (case aNotes___iadd__ => k_is)
    (case iNotes___iadd__ => k_is)
    (case gNotes___iadd__ => k_is)
    (case lNotes___iadd__ => k_is)
    (case cNotes___iadd__ => k_is)
    (case kNotes___iadd__ => k_is)
    (case a_law_in_place => k_is)
    (case l_law_in_place => k_is)
    (case c_law_in_place => k_is)
    (case k_law_in_place => k_is)
    (case aChange___init__ => k_is)
    (case iChange___init__ => k_is)
    (case gChange___init__ => k_is)
    (case lChange___init__ => k_is)
    (case cChange___init__ => k_is)
    (case kChange___init__ => k_is)
    (case uChange___init__ => k_is)
    (case aChange_parts => k_is)
    (case iChange_parts => k_is)
    (case gChange_parts => k_is)
    (case lChange_parts => k_is)
    (case cChange_parts => k_is)
    (case kChange_parts => k_is)
    (case aChange___eq__ => k_is)
    (case iChange___eq__ => k_is)
    (case gChange___eq__ => k_is)
    (case lChange___eq__ => k_is)
    (case cChange___eq__ => k_is)
    (case kChange___eq__ => k_is)
    (case alaw => k_is)
    (case llaw => k_is)
    (case claw => k_is)
    (case klaw => k_is)
