import PyProof.Rows.All
import Wide.All
import OpenK.AllK
import Wide.FinOn
import PyProof.EqAt
import PyProof.EqKinds
import PyProof.TupleCall
import HandS.Base
import HandS.Call
import KE.KOpsOwn
import HandS.List
import HandS.Iter
import HandS.More
import HandS.IterNext
import HandS.Words
import KE.KOwnIter
import HandS.Ends
import HandS.Exc
import HandS.ExcInit
import HandS.Nested
import KE.KExcSuper
import HandS.WordsExc
import HandS.Defaults
import HandS.Head0
import HandS.Head1
import HandS.Head2
import HandS.HeadEnd
import HandS.HeadHook1
import HandS.HeadHook2
import HandS.ClsMeth
import HandS.ExcOwn
import HandS.ExcIs
import HandS.ExcField
import HandS.ForMost
import HandS.Codes
import HandS.Walk
import HandS.IsInst
import HandS.Style
import HandS.Wide
import HandS.Deep
import PySem.Challenge.RW_pagebureau_k00_marks_as_sets
set_option Elab.async false
set_option linter.all false
set_option maxRecDepth 100000
set_option maxHeartbeats 2000000
/-! Operators of one's own classes over the hand layer: x op y, -x, ~x, x == y, x <= y, y in x, x[i], by the class's own method. -/
namespace OwnO
open PySem PySem.Spec PyProof.Rows L2

/-- the class has the name as a plain def of its own -/
structure Own (K : PySem.W.Frag) (C : Addr) (m : Str) (f : Addr) : Prop where
  at_ : PySem.W.findIn K (.ref C) m = some (some (.ref f))
  fn : PySem.W.isFn K (.ref f) = true

theorem rel_back {Q : Value → Shared → Prop} {u : Value} {v : V} {s : Shared} (r : RelV v u) (h : Q u s) : PySem.W.CmpBack Q u s := by
  cases v <;> first | (cases (show u = _ from r); exact h) | (obtain ⟨t, rfl⟩ := r; exact h)

section
variable {X : Cx} {CX : CXT} {k : Nat} {f C D : Addr} {fd : FuncData} {ps : List Str} {sp : Sp} {dvs : List V} {ds : List Value} {E : XK}

/-- x op y of two instances: the first one's method (which does not give NotImplemented) -/
def rBin (C D : Addr) (sp : Sp) (dvs : List V) (E : XK) : R2 := fun x y H Q => ∃ a b dx dy fs gs, x = .ref a ∧ y = .ref b ∧ H a = some (.ins C dx fs) ∧ H b = some (.ins D dy gs) ∧ sp ([.ref a, .ref b] ++ dvs) H Q E

theorem op_own {op : Operator} (F : FnOk X.prog X.w X.K X.mg X.base CX k f fd ps sp) (hr : Room k X.A) (o : Own X.K C (PySem.dunder op.info.2) f) (hc : PySem.W.selfFirst X.K C = true) (hb : Binds X.K fd ps ds) (hd : Vals dvs ds) (hx : Passes CX X E) :
    OpR X (binaryOp op) (rBin C C sp dvs E) := by
  intro pins s σ H x y v u Q I rx ry hq
  obtain ⟨a, b, dx, dy, fs, gs, rfl, rfl, ha, hb', q⟩ := hq
  cases rx
  cases ry
  obtain ⟨mA, J, _⟩ := ins_get I.hok ha
  obtain ⟨mB, J', _⟩ := ins_get I.hok hb'
  obtain ⟨od, J, _⟩ := J.look
  obtain ⟨od', J', _⟩ := J'.look
  obtain ⟨m, hF⟩ := I.fr
  refine PySem.W.binop_K hF I.ok.mod.kin J J'.type hc o.at_ o.fn ?_
  exact wpAny_mono (run_fn (us := [.ref a, .ref b]) (vs := [.ref a, .ref b]) F hr hb hd hx I (.cons rfl (.cons rfl .nil)) q) (fun r s' h => by
    obtain ⟨z, H', I', rz, q'⟩ := h
    exact rel_back rz ⟨z, H', I', rz, q'⟩) fun _ _ h => h

/-- -x, ~x -/
def rUn (C : Addr) (sp : Sp) (dvs : List V) (E : XK) : V → Hp → VK → Prop := fun x H Q => ∃ a dx fs, x = .ref a ∧ H a = some (.ins C dx fs) ∧ sp ([.ref a] ++ dvs) H Q E
theorem un_own_neg (F : FnOk X.prog X.w X.K X.mg X.base CX k f fd ps sp) (hr : Room k X.A) (o : Own X.K C "__neg__" f) (hb : Binds X.K fd ps ds) (hd : Vals dvs ds) (hx : Passes CX X E) : UnR X (unaryOp .USub) (rUn C sp dvs E) := by
  intro pins s σ H x v Q I rx hq
  obtain ⟨a, dx, fs, rfl, ha, q⟩ := hq
  cases rx
  obtain ⟨mA, J, _⟩ := ins_get I.hok ha
  obtain ⟨od, J, _⟩ := J.look
  obtain ⟨m, hF⟩ := I.fr
  exact PySem.W.ksp_neg hF I.ok.mod.kin J o.at_ o.fn (run_fn (us := [.ref a]) (vs := [.ref a]) F hr hb hd hx I (.cons rfl .nil) q)
theorem un_own_inv (F : FnOk X.prog X.w X.K X.mg X.base CX k f fd ps sp) (hr : Room k X.A) (o : Own X.K C "__invert__" f) (hb : Binds X.K fd ps ds) (hd : Vals dvs ds) (hx : Passes CX X E) : UnR X (unaryOp .Invert) (rUn C sp dvs E) := by
  intro pins s σ H x v Q I rx hq
  obtain ⟨a, dx, fs, rfl, ha, q⟩ := hq
  cases rx
  obtain ⟨mA, J, _⟩ := ins_get I.hok ha
  obtain ⟨od, J, _⟩ := J.look
  obtain ⟨m, hF⟩ := I.fr
  exact PySem.W.ksp_inv hF I.ok.mod.kin J o.at_ o.fn (run_fn (us := [.ref a]) (vs := [.ref a]) F hr hb hd hx I (.cons rfl .nil) q)

/-- what the other side of a comparison may be: an instance of the same class, or a thing of a built-in class that is no subclass -/
def Other (K : PySem.W.Frag) (C : Addr) (y : V) (H : Hp) : Prop :=
  (∃ b dy gs, y = .ref b ∧ H b = some (.ins C dy gs)) ∨ (∃ t, TyOf K H y t ∧ PySem.W.notFirst K C t = true ∧ ∀ (P : Program) (w : World) (h : Heap) (u : Value), HOk P w H h → K.In h → RelV y u → PySem.W.Looks (model P w) h (typeOf u) t)
/-- x == y, x <= y: the first one's method, which gives a bool -/
def rCmp (K : PySem.W.Frag) (C : Addr) (sp : Sp) (dvs : List V) (E : XK) : R2 := fun x y H Q => ∃ a dx fs, x = .ref a ∧ H a = some (.ins C dx fs) ∧ Other K C y H ∧ sp ([.ref a, y] ++ dvs) H Q E
theorem op_cmp {op : CmpOp} (ho : ∀ v u, compareOp op v u = richCompare op v u) (F : FnOk X.prog X.w X.K X.mg X.base CX k f fd ps sp) (hr : Room k X.A) (o : Own X.K C (PySem.cmpInfo op).2.1 f) (hb : Binds X.K fd ps ds) (hd : Vals dvs ds) (hx : Passes CX X E) :
    OpR X (compareOp op) (rCmp X.K C sp dvs E) := by
  intro pins s σ H x y v u Q I rx ry hq
  obtain ⟨a, dx, fs, rfl, ha, ot, q⟩ := hq
  cases rx
  obtain ⟨mA, J, _⟩ := ins_get I.hok ha
  obtain ⟨od, J, _⟩ := J.look
  obtain ⟨m, hF⟩ := I.fr
  rw [ho]
  have run := wpAny_mono (run_fn (us := [.ref a, u]) (vs := [.ref a, y]) F hr hb hd hx I (.cons rfl (.cons ry .nil)) q) (fun r s' h => by
    obtain ⟨z, H', I', rz, q'⟩ := h
    exact rel_back (Q := EP X pins σ Q) rz ⟨z, H', I', rz, q'⟩) fun _ _ h => h
  rcases ot with ⟨b, dy, gs, rfl, hb'⟩ | ⟨t, _, hn, hl⟩
  · cases ry
    obtain ⟨mB, J', _⟩ := ins_get I.hok hb'
    obtain ⟨od', J', _⟩ := J'.look
    exact PySem.W.cmp_K (tb := .ref C) hr.units0 hF I.ok.mod.kin J J'.type (by simp [PySem.W.notFirst]) o.at_ o.fn run
  · exact PySem.W.cmp_K (tb := t) hr.units0 hF I.ok.mod.kin J (hl _ _ _ _ I.hok I.kIn ry) hn o.at_ o.fn run

/-- y in x -/
def rIn (C : Addr) (sp : Sp) (dvs : List V) (E : XK) (neg : Bool) : R2 := fun y x H Q => ∃ a dx fs, x = .ref a ∧ H a = some (.ins C dx fs) ∧ sp ([.ref a, y] ++ dvs) H (fun v H' => ∃ b, v = .bl b ∧ Q (.bl (neg ^^ b)) H') E
theorem op_in_own (F : FnOk X.prog X.w X.K X.mg X.base CX k f fd ps sp) (hr : Room k X.A) (o : Own X.K C "__contains__" f) (hb : Binds X.K fd ps ds) (hd : Vals dvs ds) (hx : Passes CX X E) : OpR X (compareOp .In) (rIn C sp dvs E false) := by
  intro pins s σ H y x v u Q I ry rx hq
  obtain ⟨a, dx, fs, rfl, ha, q⟩ := hq
  cases rx
  obtain ⟨mA, J, _⟩ := ins_get I.hok ha
  obtain ⟨od, J, _⟩ := J.look
  obtain ⟨m, hF⟩ := I.fr
  refine PySem.W.in_K hF I.ok.mod.kin J o.at_ o.fn (wpAny_mono (run_fn (us := [.ref a, v]) (vs := [.ref a, y]) F hr hb hd hx I (.cons rfl (.cons ry .nil)) q) (fun r s' h => ?_) fun _ _ h => h)
  obtain ⟨z, H', I', rz, b, rfl, q'⟩ := h
  cases rz
  exact wpAny_truthy_bool ⟨.bl b, H', I', rfl, by simpa using q'⟩
theorem op_notin_own (F : FnOk X.prog X.w X.K X.mg X.base CX k f fd ps sp) (hr : Room k X.A) (o : Own X.K C "__contains__" f) (hb : Binds X.K fd ps ds) (hd : Vals dvs ds) (hx : Passes CX X E) : OpR X (compareOp .NotIn) (rIn C sp dvs E true) := by
  intro pins s σ H y x v u Q I ry rx hq
  obtain ⟨a, dx, fs, rfl, ha, q⟩ := hq
  cases rx
  obtain ⟨mA, J, _⟩ := ins_get I.hok ha
  obtain ⟨od, J, _⟩ := J.look
  obtain ⟨m, hF⟩ := I.fr
  refine PySem.W.notIn_K hF I.ok.mod.kin J o.at_ o.fn (wpAny_mono (run_fn (us := [.ref a, v]) (vs := [.ref a, y]) F hr hb hd hx I (.cons rfl (.cons ry .nil)) q) (fun r s' h => ?_) fun _ _ h => h)
  obtain ⟨z, H', I', rz, b, rfl, q'⟩ := h
  cases rz
  exact wpAny_truthy_bool ⟨.bl (!b), H', I', rfl, by simpa using q'⟩
end
end OwnO

set_option Elab.async false
set_option linter.all false
set_option maxRecDepth 100000
set_option maxHeartbeats 2000000
/-! Walking objects of one's own classes whose __iter__ hands out iter(self.field). -/
namespace OwnO
open PySem PySem.Spec PyProof.Rows L2

/-- a def's promise that may speak of the heap's size at its entry -/
def FnN (P : Program) (w : World) (K : PySem.W.Frag) (mg : Str → Option Value) (base : Heap) (CX : CXT) (k : Nat) (f : Addr) (sp : Nat → Sp) : Prop :=
  ∀ (A : Around) (o : List Env) (s : Shared) (H : Hp) (us : List Value) (vs : List V) (Q : VK) (E : XK), Room k A → Env0 P w K mg base A o s H → Vals vs us →
    sp s.heap.objs.size vs H Q E → codeAny (model P w) A (.call (.ref f) ⟨us, []⟩) (CR CX o P w H s Q E) s

section
variable {P : Program} {w : World} {K : PySem.W.Frag} {mg : Str → Option Value} {base : Heap}
theorem fnN_of {name qual : Str} {st : Stmt} {k : Nat} {f : Addr} {fd : FuncData} {N ps : List Str} {sp : Nat → Sp} (F : Fun K name qual st f fd) (S : FnScope N ps (defScope st)) (hb : Binds K fd ps [])
    (len : ∀ n vs H Q E, sp n vs H Q E → vs.length = ps.length)
    (body : ∀ (cdv : Value) (A : Around) (o : List Env) (s : Shared) (H : Hp) (vs : List V) (Q : VK) (E : XK), Room k (A.deeper (envOfC qual (defScope st) s.heap.objs.size f cdv)) → sp s.heap.objs.size vs H Q E →
      ∃ t, PSs (cxOf CX0 P w K mg base N qual (defScope st) f cdv A o s H E).nox (defBody st) t ∧ t { nx := fun _ H' => Q .non H', rt := Q } (start N vs) H) : FnN P w K mg base CX0 (k + 1) f sp := by
  intro A o s H us vs Q E hr e0 r hs
  obtain ⟨oc, od, kV, doc, pm, an, cdv, ct, osl, rfl, lk, hcd⟩ := F.ex
  have n1 : vs.length = ps.length := len _ _ _ _ _ hs
  have n2 : us.length = ps.length := by rw [← r.length]; exact n1
  have kin : K.In s.heap := e0.mod.kin.keeps fun b x z => (e0.bs b x z).1
  have nolim : s.heap.NoLimit := e0.mod.nolimit.keeps fun b x z => (e0.bs b x z).1
  have kinds : ∀ y ∈ ps.zip us, (defScope st).names.lookup y.1 = some .local ∨ ((defScope st).names.lookup y.1 = some .cell ∧ ((cellsFrom (s.heap.objs.size + 1) (defScope st).names []).lookup y.1).isSome = true) := by
    rintro ⟨x, v⟩ hy
    rcases S.par x (List.of_mem_zip hy).1 with q | q
    · exact Or.inl q
    · exact Or.inr ⟨q, PySem.W.cellsFrom_some _ _ _ (Or.inl q)⟩
  have bt := hb s us kin (by simpa using n2)
  rw [List.append_nil] at bt
  refine codeAny_call_function hr.depth (kin _ _ lk) rfl S.co S.gen rfl (PySem.W.codeRec_of kin hcd) (bt _ _ _ _ ?_)
  refine wpAny_newFunctionEnv_cells S.kind kinds fun env he s1 x => ?_
  subst he
  refine ⟨nolim.keeps x.toInCall.keep, codeAny_func ?_⟩
  obtain ⟨t, ht, hq⟩ := body cdv A o s H vs Q E (hr.deeper _) hs
  have I0 := inv_start (CX := CX0) (P := P) (w := w) (K := K) (mg := mg) (base := base) (f := f) (E := E) S hr.hd e0 n1 r x
  refine wpAny_mono (ht.nox.run [] s1 (start N vs) H _ I0 hq) (fun fl s' hs' => ?_) fun e s' z => z
  cases fl with
  | ret u =>
    obtain ⟨v, σ', H', J, rv, q⟩ := hs'
    exact ⟨v, H', J.os, J.bare, J.base, J.hok, rv, q⟩
  | next =>
    obtain ⟨σ', H', J, q⟩ := hs'
    exact ⟨V.non, H', J.os, J.bare, J.base, J.hok, rfl, q⟩
  | brk =>
    obtain ⟨_, _, _, q⟩ := hs'
    exact q.elim
  | cont =>
    obtain ⟨_, _, _, q⟩ := hs'
    exact q.elim
end

/-! ### a tracked iterator is forgotten -/
def gone (H : Hp) (a : Addr) : Hp := fun b => if b = a then Option.none else H b
theorem gone_upd {H : Hp} {a : Addr} {o : HO} (h : H a = Option.none) : gone (upd H a o) a = H := by
  funext b
  unfold gone
  by_cases hb : b = a
  · rw [if_pos hb, hb, h]
  · rw [if_neg hb, upd_ne hb]
section
variable {X : Cx} {pins : List (Addr × Obj)} {σ : L2.St} {H : Hp} {s : Shared} {a : Addr} {φ : Heap → Prop}
theorem inv_gone (I : Inv X pins σ (upd H a (.ext φ)) s) (h : H a = Option.none) : Inv X pins σ H s := by
  have same : ∀ b u, upd H a (.ext φ) b = some u → (∀ ψ, u ≠ .ext ψ) → H b = some u := fun b u e n => by
    by_cases hb : b = a
    · rw [hb, upd_same] at e
      exact absurd (Option.some.inj e).symm (n φ)
    · rwa [upd_ne hb] at e
  have hok : HOk X.prog X.w H s.heap := fun b u e => by
    have hb : b ≠ a := fun z => by
      rw [z, h] at e
      cases e
    have z := I.hok b u (by rw [upd_ne hb]; exact e)
    exact z.stay (fun _ _ _ y => y) (fun c y => same c _ y (fun _ q => nomatch q)) fun c xs y => same c _ y fun _ q => nomatch q
  refine I.un (t' := s.toks) ⟨fun _ _ z _ _ _ => z, fun _ x z _ _ _ => ⟨x.slots, z⟩, fun b _ _ z _ => ?_, fun _ x z _ => ⟨x, z⟩, fun b xs z => same b _ z (fun _ q => nomatch q), fun b o x z => same b _ z (fun _ q => nomatch q), fun b ps z => ⟨#[], by rw [same b _ z (fun _ q => nomatch q)]; simp⟩⟩ hok
  by_cases hb : b = a
  · rw [hb]; exact h
  · rwa [upd_ne hb] at z
theorem fp_gone {u : HO} (I : Inv X pins σ (upd H a u) s) (h : H a = Option.none) (hn : X.s_0.heap.objs.size ≤ a) : FpOk X pins H a := by
  refine ⟨h, fun z => ?_, fun z => ?_, .inr hn, fun x c e z => ?_, fun p hp z => ?_⟩
  · have q := I.free
    rw [← z, upd_same] at q
    cases q
  · obtain ⟨_, o, ho, _⟩ := I.ok.funs.mem z
    exact absurd (Nat.lt_of_lt_of_le (Heap.lt_size ho) hn) (Nat.lt_irrefl _)
  · have q := I.freeC x c e
    rw [z, upd_same] at q
    cases q
  · have q := (I.pin p hp).2.1
    rw [z, upd_same] at q
    cases q
end

/-! ### iter(x) -/
def SitO (ty : String) (z : Str) (t : Tok) (it : Addr) : HO := .ext fun h => h.IsStrIter it ty z t 0
/-- iter(x), x a list or a text: a young iterator -/
def rIterY (K : PySem.W.Frag) (n : Nat) : List V → Hp → VK → Prop := fun xs H Q =>
  (∃ (l : Addr) (zs : List V), xs = [.ref l] ∧ SqL K H l zs ∧ ∀ it, H it = Option.none → n ≤ it → Q (.ref it) (upd H it (ItO l it 0))) ∨
  (∃ z : Str, xs = [.str z] ∧ ∀ it ty t, (ty = "str_ascii_iterator" ∨ ty = "str_iterator") → H it = Option.none → n ≤ it → Q (.ref it) (upd H it (SitO ty z t it)))
theorem call_iter_str {prog : Program} {w : World} {A : Around} {E : Value → Shared → Prop} {s : Shared} {z : Str} {t : Tok} {Q : Value → Shared → Prop}
    (h : ∀ ty, (ty = "str_ascii_iterator" ∨ ty = "str_iterator") → Q (.ref s.heap.objs.size) { s with heap := s.heap.push { cls := .type ty, data := .fields #[.str z t, .int 0 0] } }) :
    wpAny (model prog w) A (call (.builtin "iter") [.str z t]) Q E s := by
  refine Calls.call_function_entry (by decide +kernel) (by decide +kernel) PySem.W.kdk_entry_iter (PySem.W.kdk_args_iter _) ?_
  unfold Builtin.«iter»
  refine wpAny_bind (m := someArgs "iter" 1 2 _) (wpAny_of_eq (a := [Value.str z t]) (by first | rfl | kernel_rfl!) ?_)
  show wpAny _ _ (pyIter (.str z t) >>= _) _ _ _
  cases ha : z.cps.all (· < 128)
  · exact wpAny_bind (wpAny_pyIter_wide ha (wpAny_pure ⟨_, rfl, h _ (Or.inr rfl)⟩))
  · exact wpAny_bind (wpAny_pyIter_ascii ha (wpAny_pure ⟨_, rfl, h _ (Or.inl rfl)⟩))
theorem call_iterY {X : Cx} : CallR X (.builtin "iter") (rIterY X.K X.s_0.heap.objs.size) := by
  intro pins s σ H xs us Q I r h
  rcases h with ⟨l, zs, rfl, hq, q⟩ | ⟨z, rfl, q⟩
  · obtain ⟨u, rfl, ru⟩ := vals1 r
    cases ru
    obtain ⟨its, rv, pl, hz⟩ := I.list hq
    refine GNX.call_iter pl.isList ⟨.ref s.heap.objs.size, _, I.laid (t' := s.toks) (fun b u e => Heap.get?_push_of_some _ e) (Nat.le_refl _) (itO_ok (Heap.get?_push_size _ rfl)), rfl, q _ (I.hok.fresh (Nat.le_refl _)) I.sz⟩
  · obtain ⟨u, rfl, ru⟩ := vals1 r
    obtain ⟨t, rfl⟩ := (show ∃ t, u = Value.str z t from ru)
    refine call_iter_str fun ty hty => ⟨.ref s.heap.objs.size, _, I.laid (t' := s.toks) (fun b u e => Heap.get?_push_of_some _ e) (Nat.le_refl _) ?_, rfl, q _ ty t hty (I.hok.fresh (Nat.le_refl _)) I.sz⟩
    have e := Heap.get?_push_size s.heap (o := { cls := .type ty, data := .fields #[.str z t, .int 0 0] }) rfl
    exact ⟨⟨_, e, rfl, rfl⟩, ⟨_, e⟩, fun h1 h2 ⟨o, q1, q2⟩ k => ⟨o, k o q1, q2⟩⟩

/-! ### for x in o -/
/-- what the __iter__ promises: iter(self.f) -/
def spIt (K : PySem.W.Frag) (C : Addr) (fld : Str) (n : Nat) : Sp := fun vs H Q _ => ∃ a dx fs y, vs = [.ref a] ∧ H a = some (.ins C dx fs) ∧ fs.lookup fld = some y ∧ rIterY K n [y] H Q
/-- the walk over o: o.f is a list, or a text -/
def iOwn (K : PySem.W.Frag) (C : Addr) (fld : Str) (te : TE) : TI := fun σ H R => te σ H fun x H1 => ∃ a dx fs y, x = .ref a ∧ H1 a = some (.ins C dx fs) ∧ fs.lookup fld = some y ∧
  ((∃ l, y = .ref l ∧ (∃ xs, SqL K H1 l xs) ∧ R (Itl K l) H1) ∨ (∃ z, y = .str z ∧ R (Its z) H1))
section
variable {X : Cx} {k : Nat} {f C : Addr} {fld : Str} {e tg : Expr} {te : TE}
theorem pi_own (he : PE X e te) (N : FnN X.prog X.w X.K X.mg X.base CX0 k f (spIt X.K C fld)) (hr : Room k X.A) (o : Own X.K C "__iter__" f) : PI X tg e (iOwn X.K C fld te) := by
  refine ⟨fun pins s σ H R I h => ?_⟩
  refine thn (he.run pins s σ H _ I h) fun v s1 ⟨x, H1, I1, r1, a, dx, fs, y, ex, ha, hl, q⟩ => ?_
  subst ex
  cases r1
  obtain ⟨mA, J, _⟩ := ins_get I1.hok ha
  obtain ⟨od, J, _⟩ := J.look
  obtain ⟨m, hF⟩ := I1.fr
  refine PySem.W.owit_iter hF I1.ok.mod.kin J o.at_ o.fn ?_
  have go : ∀ Q : VK, rIterY X.K s1.heap.objs.size [y] H1 Q → wpAny (model X.prog X.w) X.A (call (.ref f) [.ref a]) (EP X pins σ Q) X.xe s1 := fun Q hq => by
    refine wpAny_call (codeAny_mono (N X.A X.stack s1 H1 [.ref a] [.ref a] Q (fun _ _ _ => False) hr I1.env0 (.cons rfl .nil) ⟨a, dx, fs, y, rfl, ha, hl, hq⟩) fun r s' z => ?_)
    cases r with
    | error er => exact z.elim
    | ok fl =>
      cases fl with
      | ret u => exact I1.after z
      | next => exact z.elim
      | brk => exact z.elim
      | cont => exact z.elim
  rcases q with ⟨l, rfl, ⟨xs, hxs⟩, q⟩ | ⟨z, rfl, q⟩
  · refine wpAny_mono (go (fun v H' => ∃ it, v = .ref it ∧ H1 it = Option.none ∧ s1.heap.objs.size ≤ it ∧ H' = upd H1 it (ItO l it 0)) (Or.inl ⟨l, xs, rfl, hxs, fun it h1 h2 => ⟨it, rfl, h1, h2, rfl⟩⟩)) (fun u s2 z => ?_) fun _ _ z => z
    obtain ⟨v, H2, I2, r2, it, rfl, hn, hle, rfl⟩ := z
    cases r2
    have eo := itO_get I2 upd_same
    have st : s2.heap.IsListIter it l 0 := ⟨_, eo, rfl, rfl⟩
    unfold PySem.W.OwitIt
    refine wpAny_specialOf (name := Str.ofString "__next__") ⟨_, eo, rfl⟩ slot_listiter_next.lookup ?_
    have I2' := I2
    unfold ItO at I2'
    exact ⟨it, [it], _, _, H1, rfl, inv_gone I2' hn, turn_list l it, st, fun b hb => by rw [show b = it by simpa using hb]; exact fp_gone I2 hn (Nat.le_trans I1.sz hle), q⟩
  · refine wpAny_mono (go (fun v H' => ∃ it ty t, v = .ref it ∧ (ty = "str_ascii_iterator" ∨ ty = "str_iterator") ∧ H1 it = Option.none ∧ s1.heap.objs.size ≤ it ∧ H' = upd H1 it (SitO ty z t it)) (Or.inr ⟨z, rfl, fun it ty t h0 h1 h2 => ⟨it, ty, t, rfl, h0, h1, h2, rfl⟩⟩)) (fun u s2 zz => ?_) fun _ _ z => z
    obtain ⟨v, H2, I2, r2, it, ty, t, rfl, hty, hn, hle, rfl⟩ := zz
    cases r2
    have eo : s2.heap.IsStrIter it ty z t 0 := (I2.hok it _ upd_same).1
    unfold PySem.W.OwitIt
    have I2' := I2
    unfold SitO at I2'
    have fin : PIE X pins σ tg R (.ref it) s2 := ⟨it, [it], _, _, H1, rfl, inv_gone I2' hn, turn_str it z t ty hty, eo, fun b hb => by rw [show b = it by simpa using hb]; exact fp_gone I2 hn (Nat.le_trans I1.sz hle), q⟩
    rcases hty with rfl | rfl
    · exact wpAny_specialOf (name := Str.ofString "__next__") eo.typeIs F.slot_str_ascii_iterator_next.lookup fin
    · exact wpAny_specialOf (name := Str.ofString "__next__") eo.typeIs F.slot_str_iterator_next.lookup fin
end
end OwnO

set_option Elab.async false
set_option linter.all false
set_option maxRecDepth 100000
set_option maxHeartbeats 4000000
/-! Exceptions of one's own whose __init__ says super().__init__('..') and then stores its fields. -/
namespace OwnX
open PySem PySem.Spec PyProof.Rows L2

/-- what the written part says of such a class at C and its __init__ at f -/
structure XInit (P : Program) (K : PySem.W.Frag) (mg : Str → Option Value) (C f cda cc : Addr) (qual : Str) (st : Stmt) (fd : FuncData) : Prop where
  ex : ∃ (oc : Value) (od : Option Addr) (kV doc pm : Value) (an : Option Addr) (ct : Value) (osl : Array (Option Value)),
    fd = PySem.W.fnX "__init__" qual (defArgs st) (defBody st) (defScope st) [("__class__", cc)] .none kV doc pm an (.ref cda) ct ∧ K.lookup f = some ⟨oc, od, .func fd, osl⟩
  cd : PySem.W.codeIn K (.ref cda) qual = true
  cell : ∃ cl cld csl, K.lookup cc = some ⟨cl, cld, .cell (some (.ref C)), csl⟩
  code : ∃ ccl cdd vs ccs file tf, K.lookup cda = some ⟨ccl, cdd, .fields vs, ccs⟩ ∧ vs[2]? = some (.str file tf) ∧ ((P.main.file : Str) == file) = true
  sup : PySem.W.ks_superIn K C C "__init__" = some (some (.builtin "ValueError.__init__"))
  sub : PySem.W.mroIn K C (.ref C) = some true
  subV : PySem.W.subIn K (.ref C) (.type "ValueError") = some true
  free : mg "super" = none
  opq : PySem.W.nsIn K cStatics "thirdparty.any" = some none
  top : (P.main.scope.names.lookup ("super" : Str)).isSome = false
  oex : OexC K C

section
variable {prog : Program} {w : World} {A : Around} {E : Value → Shared → Prop} {h : Heap} {g : Array GenState} {d : Drawn} {t : Nat} {os : OsState}
variable {nm q : Str} {C N : Addr} {bs bm : List Value} {hdct : Bool} {sn : List Str} {sub : List Value} {ab : Bool} {col : Option Bool} {dd : Option Addr} {k0 k1 k2 k3 k5 : Option Value}
/-- the bound ValueError.__init__ is called: the exception's args are laid anew -/
theorem call_mw {u e t0 : Addr} {rest : List Value} {Q : Value → Shared → Prop}
    (hC : h.get? C = some (excClassObj nm q C N bs bm hdct sn sub ab col dd k0 k1 k2 k3 k5 "ValueError.__new__")) (he : h.get? e = some (PySem.HandSPX.excO C t0))
    (hu : h.get? u = some (PySem.W.kxs_mw "ValueError.__init__" e)) (hz : rest.length ≤ sizeLine)
    (hq : ∀ h' t1, (∀ b o, b ≠ e → h.get? b = some o → h'.get? b = some o) → h'.get? e = some (PySem.HandSPX.excO C t1) → Q .none ⟨h', g, d, t, os⟩) :
    wpAny (model prog w) A (call (.ref u) rest) Q E ⟨h, g, d, t, os⟩ := by
  refine wpAny_call (codeAny_of_tree ?_)
  show wpAny _ A.in1 (callAny (.ref u) ⟨rest, []⟩) _ _ _
  simp only [callAny]
  refine wpAny_bind (wpAny_load hu ?_)
  simp only [PySem.W.kxs_mw]
  refine PySem.W.KFB.if_so (by decide) ?_
  refine wpAny_bind (PySem.W.check_bound_init (PySem.F.excBase_ValueError).toExcCallFacts hC he rfl ?_)
  refine wpAny_bind (wpAny_pure (wpAny_pure ⟨Code.quiet_builtin _ (by decide +kernel), ?_⟩))
  refine codeAny_builtin (PySem.F.excBase_ValueError).initEntry ?_
  rw [Around.under_plainId (PySem.F.excBase_ValueError).init.plain _]
  wp_walk
  refine hq _ h.objs.size (fun b o hb ho => ?_) ?_
  · rw [Heap.get?_update_other _ _ (Ne.symm hb)]
    exact Heap.get?_push_of_some _ ho
  · rw [Heap.get?_update_self _ (Heap.get?_push_of_some _ he) rfl]
    rfl
end

/-- the def's words -/
abbrev xnf (qual : Str) (st : Stmt) (cc cda : Addr) : NdefX.NF := ⟨"__init__", qual, defArgs st, defBody st, defScope st, [("__class__", cc)], cda⟩
section
variable {P : Program} {w : World} {K : PySem.W.Frag} {mg : Str → Option Value} {base : Heap} {N ps : List Str} {qual : Str} {st : Stmt} {f C cda cc : Addr} {fd : FuncData} {k : Nat} {sp : Sp} {rest : List Stmt} {x0 : Str} {par : Arg} {z : Str} {j0 : Nat} {p0 p1 p2 p3 p4 p5 : Pos}
/-- THE RULE: super().__init__('..') is done; what is left is a body -/
theorem fn_xinit (T : XInit P K mg C f cda cc qual st fd) (S : NdefX.NScope N (x0 :: ps) ["__class__"] (defScope st)) (hb : Binds K fd (x0 :: ps) [])
    (hst : defBody st = .Expr (.Call (.Attribute (.Call (.Name "super" p0) [] [] p1) "__init__" p2) [.Constant (.str z) j0 p3] [] p4) p5 :: rest)
    (hc : ∃ pl : Env → Sem Bool, ∀ env : Env, eval (.Call (.Attribute (.Call (.Name "super" p0) [] [] p1) "__init__" p2) [.Constant (.str z) j0 p3] [] p4) env = (do
      let ov ← attributeBase (.Call (.Name "super" p0) [] [] p1) "__init__" env (eval (.Call (.Name "super" p0) [] [] p1) env)
      standAt p2.atName
      let (g, first) ← holding [ov] (getMethod ov "__init__" (pl env))
      callWith p4 g first (backTo p4 (starEach [.Constant (.str z) j0 p3] env)) []))
    (hpar : ((defArgs st).posonlyargs ++ (defArgs st).args).head? = some par) (hp0 : par.arg = x0) (hks : (defScope st).names.lookup ("super" : Str) = some .globalImplicit)
    (len : ∀ vs H Q E, sp vs H Q E → vs.length = (x0 :: ps).length)
    (self : ∀ vs H Q E, sp vs H Q E → ∃ a xs, vs = .ref a :: xs ∧ H a = some (exo a C none))
    (body : ∀ (A : Around) (o : List Env) (s : Shared) (H : Hp) (vs : List V) (Q : VK) (E : XK), sp vs H Q E →
      ∃ t, PSs (NdefX.ncx CX0 P w K mg base N (xnf qual st cc cda) f A o s H E) rest t ∧ t { nx := fun _ H' => Q .non H', rt := Q } (NdefX.startF N vs [some (.ref C)]) H) : FnOk P w K mg base CX0 (k + 1) f fd (x0 :: ps) sp := by
  refine ⟨len, fun A o s H args us vs Q E hr e0 hbind r hs => ?_⟩
  obtain ⟨oc, od, kV, doc, pm, an, ct, osl, rfl, lk⟩ := T.ex
  obtain ⟨a, xs, rfl, ha⟩ := self _ _ _ _ hs
  have n1 := len _ _ _ _ hs
  have kin : K.In s.heap := e0.mod.kin.keeps fun b x y => (e0.bs b x y).1
  have nolim : s.heap.NoLimit := e0.mod.nolimit.keeps fun b x y => (e0.bs b x y).1
  obtain ⟨cl, cld, csl, hcell⟩ := T.cell
  obtain ⟨ccl, cdd, fv, ccs, file, tf, hcode, hv2, hfile⟩ := T.code
  have hin : ∀ {b : Addr} {x : Obj}, K.lookup b = some x → H b = none := fun {b x} y => (e0.bs b x (e0.mod.kin _ _ y)).2
  have cells : NdefX.CellsAt [("__class__", cc)] ["__class__"] [some (.ref C)] s.heap H := by
    have one : ∀ y c, ([(("__class__" : Str), cc)]).lookup y = some c → y = "__class__" ∧ c = cc := fun y c e => by
      have m := PySem.mem_of_lookup e
      simp only [List.mem_singleton, Prod.mk.injEq] at m
      exact m
    refine ⟨rfl, fun y c e => ?_, fun x y c e1 e2 => (one _ _ e1).1.trans (one _ _ e2).1.symm, fun i y e => ?_⟩
    · obtain ⟨rfl, rfl⟩ := one y c e
      exact ⟨hin hcell, some (.ref C), _, kin _ _ hcell, rfl⟩
    · have e' : y = "__class__" ∧ i = 0 := by
        cases i with
        | zero => exact ⟨(Option.some.inj e).symm, rfl⟩
        | succ i => simp at e
      obtain ⟨rfl, rfl⟩ := e'
      refine ⟨cc, by simp [List.lookup], fun v e => ?_⟩
      obtain rfl : V.ref C = v := by simpa using e
      exact ⟨.ref C, rfl, _, kin _ _ hcell, rfl⟩
  refine PySem.ks_codeAny_call_defAt hr.depth (kin _ _ lk) rfl nolim (PySem.W.codeRec_of kin T.cd) rfl hbind S.nocell (fun y hy => S.par y.1 (List.of_mem_zip hy).1) (fun h0 hns hk => ?_) S.co S.gen S.kind
  have I0 := NdefX.inv_startN (CX := CX0) (F := xnf qual st cc cda) (f := f) (N := N) (E := E) (mg := mg) (tk := s.toks + ((x0 :: ps).zip us).length) S hr.hd e0 n1 r cells hns hk
  obtain ⟨t, ht, hq⟩ := body A o s H (.ref a :: xs) Q E hs
  generalize hX : NdefX.ncx CX0 P w K mg base N (xnf qual st cc cda) f A o s H E = X at I0 ht
  obtain ⟨t0, hexo⟩ := exo_at I0.hok ha
  obtain ⟨nm, q, NN, bs, bm, sn, sub, ab, col, dd, k0, k1, k2, k3, k5, hC, hbm⟩ := T.oex.cls
  have hCcls : ∃ cd, PySem.W.clsIn K C = some cd ∧ (excClassObj nm q C NN bs bm true sn sub ab col dd k0 k1 k2 k3 k5 "ValueError.__new__").data = .cls cd := by
    unfold PySem.W.clsIn
    rw [hC]
    exact ⟨_, rfl, rfl⟩
  obtain ⟨cd, hcd, hdata⟩ := hCcls
  cases r with
  | @cons _ u0 _ us' r0 r' =>
  obtain rfl : u0 = Value.ref a := r0
  have nd : (x0 :: ps).Nodup := by
    have z : (List.take ((x0 :: ps).length + (["__class__"] : List Str).length) N).Nodup := S.nd.sublist (List.take_sublist _ _)
    rw [S.pre] at z
    exact (List.nodup_append.mp z).1
  have hself : (((x0 :: ps).zip (Value.ref a :: us')).reverse).lookup x0 = some (.ref a) := NdefX.zip_look (i := 0) nd rfl rfl
  have Xk : X.K = K := by rw [← hX]; rfl
  have Xp : X.prog = P := by rw [← hX]; rfl
  have Xw : X.w = w := by rw [← hX]; rfl
  have kin1 : K.In h0 := by
    have z := I0.kIn
    rw [Xk] at z
    exact z
  show _root_.PySem.wpAt (model P w) (A.deeper (NdefX.envF (xnf qual st cc cda) f s.heap.objs.size)) (.func (defBody st) (NdefX.envF (xnf qual st cc cda) f s.heap.objs.size)) (execs (defBody st) (NdefX.envF (xnf qual st cc cda) f s.heap.objs.size)) _ _ _
  rw [show execs (defBody st) (NdefX.envF (xnf qual st cc cda) f s.heap.objs.size) = execs (Stmt.Expr (.Call (.Attribute (.Call (.Name "super" p0) [] [] p1) "__init__" p2) [.Constant (.str z) j0 p3] [] p4) p5 :: rest) (NdefX.envF (xnf qual st cc cda) f s.heap.objs.size) from by rw [hst]]
  obtain ⟨pl, hc⟩ := hc
  refine ks_wpAt_execs_cons (ks_wpAt_Expr_any (ks_wpAt_MethodCall ?_ (hc _)) (by
    unfold interactive
    rw [show (NdefX.envF (xnf qual st cc cda) f s.heap.objs.size).scope.kind = .function from S.kind]
    rfl))
  have hkc : (defScope st).names.lookup ("__class__" : Str) = some .free := S.frk _ (List.mem_singleton.mpr rfl)
  have hka : (defScope st).names.lookup x0 = some .local := S.par _ List.mem_cons_self
  obtain ⟨mb, hmb, hbb⟩ := e0.mod.blt
  have bk : ∀ b x, base.get? b = some x → h0.get? b = some x := fun b x y => hk b x (e0.bs b x y).1
  refine ks_wpAt_super_base (env := NdefX.envF (xnf qual st cc cda) f s.heap.objs.size) hks hkc (by decide) rfl (kin1 _ _ lk) rfl hpar rfl (kin1 _ _ hcode) rfl hv2 hfile T.top ?_
  refine PySem.W.ks_loadName_global S.kind hks (Calls.loadGlobal_builtin (env := NdefX.envF (xnf qual st cc cda) f s.heap.objs.size) (e0.mod.glob.keeps bk) T.free (hmb.keeps bk) ((hbb "super" (by decide +kernel)).trans (by decide +kernel : bootBuiltins "super" = some (.type "super"))) ⟨rfl, ?_⟩)
  refine wpAny_loadName_free S.kind hkc rfl ⟨_, kin1 _ _ hcell, rfl⟩ ?_
  rw [hp0]
  refine wpAny_loadName_local S.kind hka hns hself ?_
  refine ks_wpAny_isType_cls (kin1 _ _ hC) hdata ⟨rfl, ?_⟩
  refine ks_wpAny_call_super (kin1 _ _ hC) hdata hexo rfl (fun c e => by cases e) (PySem.W.looks_mroIn kin1 T.sub) (fun h' hso hk' => ?_)
  have kin2 : K.In h' := kin1.keeps hk'
  have J : PySem.W.InstAt h' a _ C none := ⟨hk' _ _ hexo, rfl, rfl, trivial⟩
  have hsup := T.sup
  unfold PySem.W.ks_superIn at hsup
  rw [hcd] at hsup
  have hmro : PySem.W.Looks (model P w) h' (mroOf (.ref C)) cd.mro := fun A Q E s k y => wpAny_bind ((PySem.W.looks_clsIn kin2 hcd) A _ E s k (wpAny_pure y))
  refine PySem.W.kxs_getMethod PySem.W.kxs_ValueError hso (PySem.W.looks_opaque kin2 T.opq) hmro rfl kin2 hsup (J.type.andThen (PySem.W.looks_subIn kin2 T.subV)) (PySem.W.ks_ne kin2 J hcd) (by decide) ?_
  refine PySem.W.kxs_callWith (i := "ValueError.__init__") (x := a) (by rfl) ?_
  have hmw : (h'.push (PySem.W.kxs_mw "ValueError.__init__" a)).get? h'.objs.size = some (PySem.W.kxs_mw "ValueError.__init__" a) := Heap.get?_push_size _ rfl
  have k2 : ∀ b x, h0.get? b = some x → (h'.push (PySem.W.kxs_mw "ValueError.__init__" a)).get? b = some x := fun b x y => Heap.get?_push_of_some _ (hk' b x y)
  refine Calls.evalArgs_plain (Calls.spliced_cons (Calls.Constant_str (k := j0) (pos := p3) (Calls.spliced_nil ⟨hmw, ?_⟩)))
  refine call_mw (k2 _ _ (kin1 _ _ hC)) (k2 _ _ hexo) hmw (by rw [sizeLine_eq]; show 1 ≤ 16777216; decide) fun h3 t1 kk hx => ?_
  have I1 := I0.kept (t' := s.toks + ((x0 :: ps).zip (Value.ref a :: us')).length + 1 + 1) k2
  have mu : Mut (H a) := by rw [ha]; exact True.intro
  have J3 := I1.write (t' := s.toks + ((x0 :: ps).zip (Value.ref a :: us')).length + 1 + 1) (x := a) (e := a) (o := exo a C none) mu (.inl rfl) kk ⟨_, hx⟩ (exo_ok hx)
  have eu : upd H a (exo a C none) = H := by
    funext b
    by_cases hb : b = a
    · rw [hb, upd_same, ha]
    · rw [upd_ne hb]
  rw [eu] at J3
  subst hX
  refine wpAt_of_wpAny ?_
  refine wpAny_mono (ht.run [] _ _ H _ J3 hq) (fun fl s' hs' => ?_) fun e s' y => y
  cases fl with
  | ret u =>
    obtain ⟨v, σ', H', J, rv, q⟩ := hs'
    exact ⟨v, H', J.os, J.bare, J.base, J.hok, rv, q⟩
  | next =>
    obtain ⟨σ', H', J, q⟩ := hs'
    exact ⟨V.non, H', J.os, J.bare, J.base, J.hok, rfl, q⟩
  | brk =>
    obtain ⟨_, _, _, q⟩ := hs'
    exact q.elim
  | cont =>
    obtain ⟨_, _, _, q⟩ := hs'
    exact q.elim
end
end OwnX

set_option Elab.async false
set_option linter.all false
set_option maxRecDepth 100000
set_option maxHeartbeats 2000000
/-! len(o), the truth of o, C(..) by a local name that holds the class, o[i]: all by the class's own methods. -/
namespace OwnO
open PySem PySem.Spec PyProof.Rows L2

section
variable {X : Cx} {CX : CXT} {k : Nat} {f C D : Addr} {fd : FuncData} {ps : List Str} {sp : Sp} {dvs : List V} {ds : List Value} {E : XK}

/-- len(o) -/
def rLenO (C : Addr) (sp : Sp) (dvs : List V) (E : XK) : List V → Hp → VK → Prop := fun xs H Q => ∃ a dx fs, xs = [.ref a] ∧ H a = some (.ins C dx fs) ∧
  sp ([.ref a] ++ dvs) H (fun v H' => ∃ n : Int, v = .int n ∧ 0 ≤ n ∧ n < 2 ^ 63 ∧ Q (.int n) H') E
theorem call_len_own (F : FnOk X.prog X.w X.K X.mg X.base CX k f fd ps sp) (hr : Room (k + 1) X.A) (o : Own X.K C "__len__" f) (hb : Binds X.K fd ps ds) (hd : Vals dvs ds) (hx : Passes CX X E) :
    CallR X (.builtin "len") (rLenO C sp dvs E) := by
  intro pins s σ H xs us Q I r hq
  obtain ⟨a, dx, fs, rfl, ha, q⟩ := hq
  obtain ⟨u, rfl, ru⟩ := vals1 r
  cases ru
  obtain ⟨mA, J, _⟩ := ins_get I.hok ha
  obtain ⟨od, J, _⟩ := J.look
  obtain ⟨m, hF⟩ := I.fr
  refine PySem.W.len_K hF I.ok.mod.kin J o.at_ o.fn ?_
  have r2 : Vals ([V.ref a] ++ dvs) ([Value.ref a] ++ ds) := Vals.append (.cons rfl .nil) hd
  have hl : ([Value.ref a] ++ ds).length = ps.length := by rw [← r2.length]; exact F.len _ _ _ _ q
  refine wpAny_call (codeAny_mono (F.run X.A.in1 X.stack s H ⟨[.ref a], []⟩ _ _ _ E hr.in1 I.env0.in1 (hb s [.ref a] I.kIn hl) r2 q) fun r s' hq' => ?_)
  cases r with
  | error e => exact hx pins σ H s e s' I hq'
  | ok fl =>
    cases fl with
    | ret u =>
      obtain ⟨v, H', I3, rv, n, rfl, h0, h1, q3⟩ := I.after hq'
      obtain ⟨t, rfl⟩ := (show ∃ t, u = Value.int n t from rv)
      exact ⟨⟨h0, h1⟩, .int n, H', I3.tok _, ⟨_, rfl⟩, q3⟩
    | next => exact hq'.elim
    | brk => exact hq'.elim
    | cont => exact hq'.elim

/-- an expression's truth, by __bool__ -/
def tTruO (C : Addr) (sp : Sp) (dvs : List V) (E : XK) (ta : TE) : TT := fun σ H Q => ta σ H fun x H1 => ∃ a dx fs, x = .ref a ∧ H1 a = some (.ins C dx fs) ∧ sp ([.ref a] ++ dvs) H1 (fun v H' => ∃ b, v = .bl b ∧ Q b H') E
theorem tru_own (F : FnOk X.prog X.w X.K X.mg X.base CX k f fd ps sp) (hr : Room k X.A) (o : Own X.K C "__bool__" f) (hb : Binds X.K fd ps ds) (hd : Vals dvs ds) (hx : Passes CX X E)
    {pins : List (Addr × Obj)} {σ : L2.St} {H : Hp} {s : Shared} {a dx : Addr} {fs : List (Str × V)} {Q : Bool → Hp → Prop} (I : Inv X pins σ H s) (ha : H a = some (.ins C dx fs)) (q : sp ([.ref a] ++ dvs) H (fun v H' => ∃ b, v = .bl b ∧ Q b H') E) :
    wpAny (model X.prog X.w) X.A (truthy (.ref a)) (TP X pins σ Q) X.xe s := by
  obtain ⟨mA, J, _⟩ := ins_get I.hok ha
  obtain ⟨od, J, _⟩ := J.look
  obtain ⟨m, hF⟩ := I.fr
  refine PySem.W.truthy_K hF I.ok.mod.kin J o.at_ o.fn (wpAny_mono (run_fn (us := [.ref a]) (vs := [.ref a]) F hr hb hd hx I (.cons rfl .nil) q) (fun r s' h => ?_) fun _ _ h => h)
  obtain ⟨z, H', I', rz, b, rfl, q'⟩ := h
  cases rz
  exact ⟨H', I', q'⟩
theorem pt_own {e : Expr} {ta : TE} (he : PE X e ta) (F : FnOk X.prog X.w X.K X.mg X.base CX k f fd ps sp) (hr : Room k X.A) (o : Own X.K C "__bool__" f) (hb : Binds X.K fd ps ds) (hd : Vals dvs ds) (hx : Passes CX X E)
    (ht : ∀ whole, isTrue e X.env whole = (do let v ← whole; standAt e.pos; holding [v] (truthy v))) : PT X e (tTruO C sp dvs E ta) := by
  refine ⟨fun pins s σ H Q I h => ?_⟩
  refine isTrue_plain (thn (he.run pins s σ H _ I h) fun v s1 ⟨x, H1, I1, r1, a, dx, fs, ex, ha, q⟩ => ?_) (ht _)
  subst ex
  cases r1
  exact tru_own F hr o hb hd hx I1 ha q
/-- not o, as a value -/
theorem pe_not_own {e : Expr} {ta : TE} {pos : Pos} (he : PE X e ta) (F : FnOk X.prog X.w X.K X.mg X.base CX k f fd ps sp) (hr : Room k X.A) (o : Own X.K C "__bool__" f) (hb : Binds X.K fd ps ds) (hd : Vals dvs ds) (hx : Passes CX X E) :
    PE X (.UnaryOp .Not e pos) (fun σ H Q => tTruO C sp dvs E ta σ H fun b H' => Q (.bl (!b)) H') := by
  refine ⟨fun pins s σ H Q I h => ?_⟩
  refine UnaryOp_ (thn (he.run pins s σ H _ I h) fun v s1 ⟨x, H1, I1, r1, a, dx, fs, ex, ha, q⟩ => ?_)
  subst ex
  cases r1
  refine not_of (wpAny_mono (tru_own (Q := fun b H' => Q (.bl (!b)) H') F hr o hb hd hx I1 ha q) (fun b s' h => ?_) fun _ _ h => h)
  obtain ⟨H', I', q'⟩ := h
  exact ⟨.bl (!b), H', I', rfl, q'⟩

/-- x(e, ..), x a local name that holds the class at C -/
def tMakeL (i : Nat) (C : Addr) (sp : Sp) (dvs : List V) (E : XK) (t : TA) : TE := fun σ H Q => σ[i]? = some (some (.ref C)) ∧ tMake C sp dvs E t σ H Q
theorem pe_makeL {i : Nat} {x : Str} {e : Expr} {es : List Expr} {t : TA} {p pos : Pos} (M : Mk X.K C f) (F : FnOk X.prog X.w X.K X.mg X.base CX k f fd ps sp) (hr : Room (k + 1) X.A) (hb : Binds X.K fd ps ds) (hd : Vals dvs ds) (hx : Passes CX X E)
    (hN : X.N[i]? = some x) (hv : Vis X.env.scope x) (ha : PA X (e :: es) t) (h1 : (x == ("__debug__" : Str)) = false := by decide) (h2 : (x == ("__classdict__" : Str)) = false := by decide)
    (he : starEach (e :: es) X.env = (false, eval e X.env) :: starEach es X.env := by rfl) (hpl : (backTo pos (starEach es X.env)).any (·.1) = false := by rfl) : PE X (.Call (.Name x p) (e :: es) [] pos) (tMakeL i C sp dvs E t) := by
  refine ⟨fun pins s σ H Q I h => ?_⟩
  obtain ⟨hs, h⟩ := h
  refine wpAny_Call_Name_kw (thn ((pe_var (pos := p) (i := i) hN hv h1 h2).run pins s σ H (fun v H1 => v = .ref C ∧ H1 = H) I ⟨.ref C, hs, rfl, rfl⟩) fun u s1 ⟨v, H1, I1, r1, ev, eH⟩ => ?_)
  subst ev
  subst eH
  cases r1
  refine PySem.W.callWith_K (h₀ := X.base) I.ok.mod.kin M.kp (thn (ha.run pos pins s1 σ _ _ I1 h) fun us s2 ⟨vs, H2, I2, r, q⟩ => ⟨I2.kIn, ?_⟩) he hpl
  exact run_make M F hr hb hd hx I2 r q

/-- o[i] -/
def rIxO (C : Addr) (sp : Sp) (dvs : List V) (E : XK) : R2 := fun x y H Q => ∃ a dx fs, x = .ref a ∧ H a = some (.ins C dx fs) ∧ sp ([.ref a, y] ++ dvs) H Q E
end
end OwnO

set_option Elab.async false
set_option linter.all false
set_option maxRecDepth 100000
set_option maxHeartbeats 2000000
/-! A head by any Bool over the written part, and the defs told by where they stand (a class's methods, class methods, properties, the __init__ of an error). -/
namespace MH
open PySem PySem.Spec PyProof.Rows L2

abbrev Fg := PySem.W.Frag
abbrev At := Fg → Addr
/-! ### where things stand -/
def gl (x : Str) : At := fun K => He.ga K x
def mt (x m : Str) : At := fun K => He.ma K (He.ga K x) m
/-- what a record (a class method, a static method, a property) holds first -/
def inner (T : String) (p : At) : At := fun K => match PySem.W.recIn K (p K) T with
  | some (.ref g :: _) => g
  | _ => 0
def cm (x m : Str) : At := inner "classmethod" (mt x m)
def sm (x m : Str) : At := inner "staticmethod" (mt x m)
def pr (x m : Str) : At := inner "property" (mt x m)
/-- the cell __class__ of a def -/
def cellOf (p : At) : At := fun K => match K.lookup (p K) with
  | some ⟨_, _, .func fd, _⟩ => (match fd.closure with
    | [(_, c)] => c
    | _ => 0)
  | _ => 0
def codeAt (p : At) : At := fun K => match K.lookup (p K) with
  | some ⟨_, _, .func fd, _⟩ => (match fd.code with
    | .ref c => c
    | _ => 0)
  | _ => 0

/-! ### the defs -/
structure DefM where
  at_ : At
  name : Str
  qual : Str
  params : Arguments
  body : List Stmt
  scope : Scope
  dfl : List He.Dv := []
  kwd : List (Str × He.Dv) := []
  caps : List Str := []
abbrev FnV : Type := Option (Str × Str × Arguments × FuncBody × Scope × Addr × List Str × Addr)
def fnV (K : Fg) (a : Addr) : FnV := match K.lookup a with
  | some ⟨_, _, .func fd, _⟩ => some (fd.name, fd.qualname, fd.params, fd.body, fd.scope, fd.globals, fd.closure.map (·.1), fd.builtins)
  | _ => none
def DefM.val (d : DefM) : FnV := some (d.name, d.qual, d.params, .stmts d.body, d.scope, mainGlobals, d.caps, builtinsNs)
def DefM.dvs (K : Fg) (d : DefM) : List V := d.dfl.map (He.Dv.v K)
def DefM.kws (K : Fg) (d : DefM) : List (Str × V) := d.kwd.map fun q => (q.1, q.2.v K)
def DefM.ok (K : Fg) (d : DefM) : Bool := PySem.W.keepIn K (.ref (d.at_ K)) && (match K.lookup (d.at_ K) with
  | some ⟨_, _, .func fd, _⟩ => PySem.W.codeIn K fd.code d.qual && (He.dflB K fd.defaults (d.dvs K) && He.kwdB K fd.kwdefaults (d.kws K))
  | _ => false)
theorem two {a b : Bool} (h : (a && b) = true) : a = true ∧ b = true := by
  cases a
  · cases h
  · exact ⟨rfl, h⟩
/-- any def that captures the names caps -/
theorem DefM.any {K : Fg} {d : DefM} (e : fnV K (d.at_ K) = d.val) (c : d.ok K = true) : ∃ (oc : Value) (od : Option Addr) (cl : List (Str × Addr)) (dV kV doc pm : Value) (an : Option Addr) (cdv ct : Value) (osl : Array (Option Value)),
    cl.map (·.1) = d.caps ∧ K.lookup (d.at_ K) = some ⟨oc, od, .func (PySem.W.fnX d.name d.qual d.params d.body d.scope cl dV kV doc pm an cdv ct), osl⟩ ∧ PySem.W.codeIn K cdv d.qual = true ∧ DflV K dV (d.dvs K) ∧ KwdV K kV (d.kws K) ∧ PySem.W.keepIn K (.ref (d.at_ K)) = true := by
  unfold fnV at e
  unfold DefM.ok at c
  obtain ⟨kp, c⟩ := two c
  revert e c
  cases K.lookup (d.at_ K) with
  | none => exact fun _ c => nomatch c
  | some o =>
    obtain ⟨oc, od, dt, osl⟩ := o
    cases dt with
    | func fd =>
      intro e c
      obtain ⟨n1, n2, n3, n4, n5, n6, n7, n8, n9, n10, n11, n12, n13, n14, n15⟩ := fd
      obtain ⟨c1, c2⟩ := two c
      obtain ⟨c2, c3⟩ := two c2
      have e' := Option.some.inj e
      simp only [Prod.mk.injEq] at e'
      obtain ⟨h1, h2, h3, h4, h5, h6, h7, h8⟩ := e'
      subst h1 h2 h3 h4 h5 h6 h8
      exact ⟨oc, od, n7, n8, n9, n10, n11, n12, n13, n14, osl, h7, rfl, c1, He.dflB_ok c2, He.kwdB_ok c3, kp⟩
    | _ => exact fun _ c => nomatch c
theorem DefM.funD {K : Fg} {d : DefM} (h0 : d.caps = []) (e : fnV K (d.at_ K) = d.val) (c : d.ok K = true) : ∃ fd, FunD K d.name d.qual d.params d.body d.scope (d.dvs K) (d.kws K) (d.at_ K) fd := by
  obtain ⟨oc, od, cl, dV, kV, doc, pm, an, cdv, ct, osl, h1, h2, h3, h4, h5, h6⟩ := d.any e c
  rw [h0] at h1
  obtain rfl := List.map_eq_nil_iff.mp h1
  exact ⟨_, ⟨oc, od, dV, kV, doc, pm, an, cdv, ct, osl, rfl, h2, h3, h4, h5⟩, h6⟩

/-! ### the Hook -/
def asM (g : Addr → Option Obj) : Nat → List Addr
  | 0 => [mainGlobals, cStatics]
  | n + 1 => He.growD g (asM g n)
abbrev AlM : Type := Bool × Bool × List FnV
def obsM (ex : List (Fg → Bool)) (fn : List DefM) (K : Fg) : AlM := (ex.all fun f => f K, fn.all fun d => d.ok K, fn.map fun d => fnV K (d.at_ K))
def valM (fn : List DefM) : AlM := (true, true, fn.map DefM.val)
def Says (ex : List (Fg → Bool)) (fn : List DefM) (K : Fg) : Prop := obsM ex fn K = valM fn
def obsG (n : Nat) (ex : List (Fg → Bool)) (fn : List DefM) (g : Addr → Option Obj) : AlM := obsM ex fn (He.frG g (asM g n))
def hook (n : Nat) (ex : List (Fg → Bool)) (fn : List DefM) : PySem.W.Hook where
  α := AlM
  obs := fun s => obsG n ex fn s.heap.get?
  val := fun _ => valM fn
  says := fun _ h => ∃ K : Fg, K.In h ∧ Says ex fn K
  of := fun _ _ e => ⟨_, He.frG_in, e⟩
  keeps := fun _ _ _ ⟨K, hK, c⟩ k => ⟨K, hK.keeps k, c⟩
theorem obs_eq {n : Nat} {ex : List (Fg → Bool)} {fn : List DefM} {s : PySem.W.SharedT} : obsG n ex fn (HandSHeadRun.getT s) = (hook n ex fn).obs s.abs := by
  have e : HandSHeadRun.getT s = s.abs.heap.get? := funext (HandSHeadRun.getT_eq s)
  rw [e]
  rfl
section
variable {ex : List (Fg → Bool)} {fn : List DefM} {K : Fg}
theorem Says.fact (c : Says ex fn K) (i : Nat) {f : Fg → Bool} (h : ex[i]? = some f := by rfl) : f K = true := by
  have z : (ex.all fun f => f K) = true := congrArg Prod.fst c
  exact List.all_eq_true.mp z f (List.mem_of_getElem? h)
theorem Says.raw (c : Says ex fn K) (i : Nat) {d : DefM} (h : fn[i]? = some d := by rfl) : fnV K (d.at_ K) = d.val ∧ d.ok K = true := by
  have z : (fn.all fun d => d.ok K) = true := congrArg (fun q : AlM => q.2.1) c
  have y : (fn.map fun d => fnV K (d.at_ K)) = fn.map DefM.val := congrArg (fun q : AlM => q.2.2) c
  have y2 := congrArg (fun l => l[i]?) y
  simp only [List.getElem?_map, h, Option.map_some] at y2
  exact ⟨Option.some.inj y2, List.all_eq_true.mp z d (List.mem_of_getElem? h)⟩
theorem Says.fun_ (c : Says ex fn K) (i : Nat) {d : DefM} (h : fn[i]? = some d := by rfl) (h0 : d.caps = [] := by rfl) : ∃ fd, FunD K d.name d.qual d.params d.body d.scope (d.dvs K) (d.kws K) (d.at_ K) fd :=
  let ⟨a, b⟩ := c.raw i h
  DefM.funD h0 a b
end

/-! ### facts as Bools -/
def isV (a b : Option (Option Value)) : Bool := decide (a = b)
/-- the module has no such name -/
def fFree (x : Str) : Fg → Bool := fun K => isV (PySem.W.nsIn K mainGlobals x) (some none)
def fGlo (x : Str) : Fg → Bool := fun K => isV (PySem.W.nsIn K mainGlobals x) (some (some (.ref (He.ga K x))))
/-- a class of instances with dicts -/
def fCls (x : Str) : Fg → Bool := fun K => PySem.W.plainGet K (He.ga K x) Str.empty && (PySem.W.hasDictIn K (He.ga K x) && (PySem.W.plainOver K (He.ga K x) && isV (PySem.W.findIn K (.ref (He.ga K x)) "__setattr__") (some (some (.builtin "object.__setattr__")))))
def fNoAt (x f : Str) : Fg → Bool := fun K => isV (PySem.W.findIn K (.ref (He.ga K x)) f) (some none)
def fMeth (x m : Str) : Fg → Bool := fun K => isV (PySem.W.findIn K (.ref (He.ga K x)) m) (some (some (.ref (He.ma K (He.ga K x) m)))) && (PySem.W.isFn K (.ref (He.ma K (He.ga K x) m)) && PySem.W.keepIn K (.ref (He.ma K (He.ga K x) m)))
def fMk (x : Str) : Fg → Bool := fun K => PySem.W.makesIn K (He.ga K x) && PySem.W.keepIn K (.ref (He.ga K x))
def fFirst (x : Str) : Fg → Bool := fun K => PySem.W.selfFirst K (He.ga K x)
section
variable {K : Fg} {h : Heap} {mg : Str → Option Value} {x m f : Str}
theorem free_of (X : K.In h) (G : h.Ns mainGlobals mg) (c : fFree x K = true) : mg x = none := PySem.W.mg_none_of X G (of_decide_eq_true c)
theorem glo_of (X : K.In h) (G : h.Ns mainGlobals mg) (c : fGlo x K = true) : mg x = some (.ref (He.ga K x)) := PySem.W.mg_of X G (of_decide_eq_true c)
theorem cls_of (c : fCls x K = true) : Cls K (He.ga K x) := by
  obtain ⟨a, c⟩ := two c
  obtain ⟨b, c⟩ := two c
  obtain ⟨c, d⟩ := two c
  exact ⟨a, b, c, of_decide_eq_true d⟩
theorem noAt_of (c : fNoAt x f K = true) : NoAttr K (He.ga K x) f := by
  unfold NoAttr
  exact of_decide_eq_true c
theorem meth_of (c : fMeth x m K = true) : Meth K (He.ga K x) m (mt x m K) := by
  obtain ⟨a, c⟩ := two c
  obtain ⟨b, c⟩ := two c
  exact ⟨of_decide_eq_true a, b, c⟩
theorem mk_of (c : fMk x K = true) (d : fMeth x "__init__" K = true) : Mk K (He.ga K x) (mt x "__init__" K) := by
  obtain ⟨a, b⟩ := two c
  have M := meth_of d
  exact ⟨a, M.at_, M.fn, b⟩
end

/-! ### errors -/
/-- an error class of one's own (over ValueError, through classes of one's own) -/
def fOex (x : Str) : Fg → Bool := fun K => (match K.lookup (He.ga K x) with
  | some ⟨.type "type", _, .cls cd, sl⟩ => (match cd.mro, sl.toList with
    | .ref b :: bm, [_, _, _, _, some (.builtin n), _] => decide (b = He.ga K x) && (decide (n = "ValueError.__new__") && (!cd.hasDel && (cd.hasDict && PySem.HandSPX.refsVE bm)))
    | _, _ => false)
  | _ => false) && (isV (PySem.W.findIn K (.ref (He.ga K x)) "__setattr__") (some (some (.builtin "object.__setattr__"))) && (decide (PySem.W.subIn K (.ref (He.ga K x)) (.type "BaseException") = some true) &&
    (decide (PySem.W.typeIn K (.ref (He.ga K x)) = some (.type "type")) && PySem.W.keepIn K (.ref (He.ga K x)))))
theorem oex_of {K : Fg} {x : Str} (c : fOex x K = true) : OexC K (He.ga K x) := by
  obtain ⟨a, c⟩ := two c
  obtain ⟨b, c⟩ := two c
  obtain ⟨c, d⟩ := two c
  obtain ⟨d, e⟩ := two d
  refine ⟨?_, of_decide_eq_true b, of_decide_eq_true c, of_decide_eq_true d, e⟩
  revert a
  split
  · rename_i dd cd sl ho
    split
    · rename_i b' bm k0 k1 k2 k3 n k5 hm hs
      intro a
      obtain ⟨a1, a⟩ := two a
      obtain ⟨a2, a⟩ := two a
      obtain ⟨a3, a⟩ := two a
      obtain ⟨a4, a5⟩ := two a
      obtain rfl := of_decide_eq_true a1
      obtain rfl := of_decide_eq_true a2
      obtain ⟨nm, bs, mro, ns, qn, hd, sn, sub, ab, col, del⟩ := cd
      simp only [Bool.not_eq_true'] at a3
      simp only at hm a3 a4
      subst hm a3 a4
      have e : sl = #[k0, k1, k2, k3, some (.builtin "ValueError.__new__"), k5] := by
        obtain ⟨l⟩ := sl
        simp only at hs
        rw [hs]
      subst e
      exact ⟨nm, qn, ns, bs, bm, sn, sub, ab, col, dd, k0, k1, k2, k3, k5, ho, a5⟩
    · exact fun a => nomatch a
  · exact fun a => nomatch a
/-- what an __init__ with super() leans on besides -/
def fXin (x : Str) (file : Str) : Fg → Bool := fun K => (match K.lookup (cellOf (mt x "__init__") K) with
  | some ⟨_, _, .cell (some (.ref a)), _⟩ => decide (a = He.ga K x)
  | _ => false) && ((match K.lookup (codeAt (mt x "__init__") K) with
  | some ⟨_, _, .fields vs, _⟩ => (match (vs[2]? : Option Value) with
    | some (Value.str z _) => decide (z = file)
    | _ => false)
  | _ => false) && (isV (PySem.W.ks_superIn K (He.ga K x) (He.ga K x) "__init__") (some (some (.builtin "ValueError.__init__"))) && (decide (PySem.W.mroIn K (He.ga K x) (.ref (He.ga K x)) = some true) &&
    (decide (PySem.W.subIn K (.ref (He.ga K x)) (.type "ValueError") = some true) && isV (PySem.W.nsIn K cStatics "thirdparty.any") (some none)))))
theorem xin_of {P : Program} {K : Fg} {mg : Str → Option Value} {x : Str} {d : DefM} {st : Stmt} (o : OexC K (He.ga K x)) (c : fXin x P.main.file K = true) (g : mg "super" = none) (t : (P.main.scope.names.lookup ("super" : Str)).isSome = false)
    (e : fnV K (d.at_ K) = d.val) (k : d.ok K = true) (h0 : d.caps = [("__class__" : Str)]) (h1 : d.at_ = mt x "__init__") (h2 : d.name = "__init__") (h3 : d.params = defArgs st) (h4 : d.body = defBody st) (h5 : d.scope = defScope st) (h6 : d.dfl = []) :
    ∃ fd, OwnX.XInit P K mg (He.ga K x) (mt x "__init__" K) (codeAt (mt x "__init__") K) (cellOf (mt x "__init__") K) d.qual st fd ∧
      ∃ (kV doc pm : Value) (an : Option Addr) (ct : Value), fd = PySem.W.fnX "__init__" d.qual (defArgs st) (defBody st) (defScope st) [("__class__", cellOf (mt x "__init__") K)] .none kV doc pm an (.ref (codeAt (mt x "__init__") K)) ct := by
  obtain ⟨c1, c⟩ := two c
  obtain ⟨c2, c⟩ := two c
  obtain ⟨c3, c⟩ := two c
  obtain ⟨c4, c⟩ := two c
  obtain ⟨c5, c6⟩ := two c
  obtain ⟨oc, od, cl, dV, kV, doc, pm, an, cdv, ct, osl, q1, q2, q3, q4, q5, q6⟩ := d.any e k
  rw [h0] at q1
  obtain ⟨cc, rfl⟩ : ∃ cc : Addr, cl = [(("__class__" : Str), cc)] := by
    cases cl with
    | nil => cases q1
    | cons y r =>
      cases r with
      | nil =>
        obtain ⟨y1, y2⟩ := y
        simp only [List.map_cons, List.map_nil, List.cons.injEq, and_true] at q1
        rw [q1]
        exact ⟨y2, rfl⟩
      | cons _ _ => simp at q1
  have hdv : d.dvs K = [] := by
    unfold DefM.dvs
    rw [h6]
    rfl
  rw [hdv] at q4
  have q4' : dV = .none := by
    rcases q4 with ⟨_, z⟩ | ⟨z, _⟩
    · exact z
    · exact absurd rfl z
  subst q4'
  rw [h1] at q2 q6
  rw [h2, h3, h4, h5] at q2
  have ec : cellOf (mt x "__init__") K = cc := by
    unfold cellOf
    rw [q2]
  have ed : ∃ c, cdv = .ref c ∧ codeAt (mt x "__init__") K = c := by
    cases cdv with
    | ref c =>
      refine ⟨c, rfl, ?_⟩
      unfold codeAt
      rw [q2]
    | _ => cases q3
  obtain ⟨c, rfl, ed⟩ := ed
  rw [ec, ed]
  rw [ec] at c1
  rw [ed] at c2
  refine ⟨_, ⟨⟨oc, od, kV, doc, pm, an, ct, osl, rfl, q2⟩, q3, ?_, ?_, of_decide_eq_true c3, of_decide_eq_true c4, of_decide_eq_true c5, g, of_decide_eq_true c6, t, o⟩, kV, doc, pm, an, ct, rfl⟩
  · revert c1
    split
    · rename_i a b c d e
      intro c1
      have z := of_decide_eq_true c1
      subst z
      exact ⟨_, _, _, e⟩
    · exact fun z => nomatch z
  · revert c2
    split
    · rename_i a b vs d e
      split
      · rename_i z tk hz
        intro c2
        have y := of_decide_eq_true c2
        subst y
        exact ⟨_, _, vs, _, _, tk, e, hz, by simp⟩
      · exact fun z => nomatch z
    · exact fun z => nomatch z
end MH

set_option Elab.async false
set_option linter.all false
set_option maxRecDepth 100000
set_option maxHeartbeats 2000000
/-! Errors that are caught: isinstance of one that has fields; a class, a class method called within a try. -/
namespace PySem.W
open PySem PySem.Spec PySem.Calls PyProof.Rows
namespace OwnT
section
variable {prog : Program} {w : World} {A : Around} {E : Value → Shared → Prop} {s : Shared} {K : Frag} {x D : Addr} {ox : Obj} {od : Option Obj}
/-- what the class says, so that an instance's __class__ is read by object's own way -/
structure Asks (K : Frag) (D : Addr) : Prop where
  ga : findIn K (.ref D) "__getattribute__" = some (some (.builtin "BaseException.__getattribute__"))
  gt : findIn K (.ref D) "__getattr__" = some none
  sub : subIn K (.ref D) (.type "BaseException") = some true
  dct : hasDictIn K D = true
  at_ : findIn K (.ref D) "__class__" = some (some (.builtin "object.__class__"))
  get : specialIn K (.builtin "object.__class__") "__get__" = some (some (.builtin "getset_descriptor.__get__"))
  tak : takesIn K (.builtin "object.__class__") = some true
  obj : mroIn K D (.type "object") = some true
theorem found (T : Asks K D) : findObj K D od "__class__" = some (.bind (.builtin "getset_descriptor.__get__") (.builtin "object.__class__")) := by
  obtain ⟨cd, hc, _⟩ := any_some T.dct
  unfold findObj
  rw [hc, Option.bind_some, T.at_, Option.bind_some]
  simp only [T.get, T.tak, Option.bind_some]
theorem class_of_exc {Q : Option Value → Shared → Prop} (T : Asks K D) (X : K.In s.heap) (I : InstAt s.heap x ox D od) (h : Q (some (.ref D)) { s with toks := s.toks + 1 }) : wpAny (model prog w) A (getAttr? (.ref x) "__class__") Q E s := by
  have hf := found (od := od) T
  obtain ⟨hp, g, d, t, os⟩ := s
  have l0 := I.type (M := model prog w)
  have l1 := looks_findIn (M := model prog w) X T.ga
  have l2 := looks_findIn (M := model prog w) X T.gt
  have l3 := looks_find (M := model prog w) X I hf
  have isb : Looks (model prog w) hp (isInstance (.ref x) (.type "BaseException")) true := l0.andThen (looks_subIn X T.sub)
  have n0 : (false && onTheHeap (Value.builtin "BaseException.__getattribute__")) = false := rfl
  have n2 : (Value.builtin "BaseException.__getattribute__" == Value.builtin "object.__getattribute__") = false := by decide +kernel
  have n1 : (onTheHeap (Value.ref D) && Value.builtin "BaseException.__getattribute__" == Value.builtin "object.__getattribute__") = false := by
    rw [n2]
    rfl
  unfold getAttr? getAttrBy? getAttrBy
  refine wpAny_bind (wpAny_mkText (wpAny_bind (wpAny_attempt (wpAny_holding ?_))))
  refine wpAny_bind (l0.at (wpAny_bind (l1.at ?_)))
  show wpAny _ _ (if (onTheHeap (Value.ref D) && Value.builtin "BaseException.__getattribute__" == Value.builtin "object.__getattribute__") = true then _ else _) _ _ _
  rw [n1, if_neg Bool.false_ne_true]
  unfold getAttrByItsOwn hookBefore
  refine wpAny_bind ?_
  rw [if_pos (show onTheHeap (Value.ref D) = true from rfl)]
  refine l2.at (wpAny_bind (wpAny_attempt (wpAny_holding ?_)))
  unfold callGetattribute
  rw [n0, if_neg Bool.false_ne_true]
  unfold boundAndCalled
  rw [PySem.F.excAttr_ValueError.ga.bind (.ref x)]
  refine wpAny_bind (wpAny_pure ?_)
  show wpAny _ _ (call (.builtin "BaseException.__getattribute__") [.ref x, .str "__class__" t]) _ _ _
  refine wpAny_call (codeAny_call_builtin PySem.F.excAttr_ValueError.ga.plain PySem.F.entry_bexc_ga ?_)
  refine @check_slot (model prog w) _ _ ⟨hp, g, d, t + 1, os⟩ "BaseException.__getattribute__" "BaseException" "__getattribute__" (.ref x) [.str "__class__" t] [] _ (by decide +kernel) (by decide +kernel) isb (PySem.F.args_bexc_ga (.ref x) (.str "__class__" t)) ?_
  unfold Builtin.«object.__getattribute__»
  refine wpAny_bind (wpAny_of_eq (a := ((Value.ref x : Value), [Value.str "__class__" t])) (by first | rfl | (simp only [slotArgs]; rfl)) ?_)
  refine wpAny_bind (wpAny_pure (wpAny_bind (l0.at (wpAny_bind (l3.at ?_)))))
  show wpAny _ _ (holding [Value.builtin "object.__class__"] (call (.builtin "getset_descriptor.__get__") [.builtin "object.__class__", .ref x, .ref D]) >>= ret) _ _ _
  refine wpAny_bind (wpAny_holding (wpAny_call (class_get (s := ⟨hp, g, d, t + 1, os⟩) (ox := ox) (od := od) X I T.obj ?_)))
  refine wpAny_pure ?_
  show wpAny _ _ (handedOut (.ref D)) _ _ _
  rw [handedOut_of (v := .ref D) rfl]
  first
    | exact wpAny_pure h
    | exact wpAny_pure (wpAny_pure h)
    | exact wpAny_pure (wpAny_bind (wpAny_pure (wpAny_pure h)))
theorem kit_exc (T : Asks K D) : KitX K (.ref x) (.ref D) (fun h => InstAt h x ox D od) where
  ty := fun _ _ _ I => I.type
  it := fun _ _ X _ => by
    obtain ⟨cd, hc, _⟩ := any_some T.dct
    unfold clsIn at hc
    split at hc
    · rename_i a1 a2 a3 a4 ho
      intro A' Q' E' s' k q
      unfold isType loadHead
      exact wpAny_bind (wpAny_loadPart (k _ _ (X _ _ ho)) (wpAny_pure q))
    · cases hc
  ne := fun h tp dd its n sl X htp => by
    obtain ⟨cd, hc, _⟩ := any_some T.dct
    refine Bool.eq_false_iff.mpr fun q => ?_
    obtain rfl : D = tp := Value.ref.inj (beq_iff_eq.mp q)
    unfold clsIn at hc
    split at hc
    · rename_i a1 a2 a3 a4 ho
      exact nomatch (X _ _ ho).symm.trans htp
    · cases hc
  ca := fun X I k => class_of_exc T X I k
end
end OwnT
end PySem.W

namespace OwnX
open PySem PySem.Spec PyProof.Rows L2 ClX
/-- isinstance(e, c), e the caught error (of the class cls, with the dict d) -/
def rIsX (K : PySem.W.Frag) (a : Addr) (cls : Value) (d : Option Addr) : List V → Hp → VK → Prop := fun xs H Q => ∃ (D : Addr) (c : V) (cv : Value) (b : Bool), xs = [.ref a, c] ∧ cls = .ref D ∧ PySem.W.OwnT.Asks K D ∧ (∀ u, RelV c u → u = cv) ∧ (∀ dd, d = some dd → ∃ fs, H dd = some (.xd fs)) ∧ PySem.W.kitOne K (.ref D) cv = some b ∧ Q (.bl b) H
theorem call_isX {X : Cx} {a : Addr} {cls : Value} {oe : Obj} {d : Option Addr} {pn : List (Addr × Obj)} (hz : Zc cls d oe) (hf : ∃ vs, oe.data = .fields vs) : CallR (X.suite a ((a, oe) :: pn)) (.builtin "isinstance") (rIsX X.K a cls d) := by
  intro pins s σ H xs us Q I r h
  obtain ⟨D, c, cv, b, rfl, rfl, T, hcv, hd, e, q⟩ := h
  cases r with
  | cons rx rr =>
  cases rr with
  | cons rt rr =>
  cases rr
  cases rx
  obtain rfl := hcv _ rt
  obtain ⟨hget, _⟩ := I.pin (a, oe) (List.mem_append.mpr (.inl List.mem_cons_self))
  obtain ⟨vs, hv⟩ := hf
  obtain ⟨od, J⟩ : ∃ od, PySem.W.InstAt s.heap a oe D od := by
    cases d with
    | none => exact ⟨none, hget, hz.1, by unfold PySem.W.notCls; rw [hv] <;> rfl, by rw [hz.2]; exact True.intro⟩
    | some dd =>
      obtain ⟨fs, hfs⟩ := hd dd rfl
      obtain ⟨mA, hns, _⟩ := (show ObjOk X.prog X.w H s.heap dd (.xd fs) from I.hok dd _ hfs)
      obtain ⟨o2, ho, _⟩ := lookIn_ns hns
      exact ⟨some o2, hget, hz.1, by unfold PySem.W.notCls; rw [hv] <;> rfl, by rw [hz.2]; exact ho⟩
  exact PySem.W.kia_one (PySem.W.OwnT.kit_exc T) I.kIn J e (fun z => nomatch z) fun tk => ⟨.bl b, H, I.kept (t' := tk) fun _ _ z => z, rfl, q⟩
/-- e.n of the caught error -/
def tXfA (K : PySem.W.Frag) (a : Addr) (cls : Value) (d : Option Addr) (n : Str) (te : TE) : TE := fun σ H Q => te σ H fun x H1 => x = .ref a ∧ ∃ (C : Addr) (dd : Addr) (fs : List (Str × V)) (v : V), cls = .ref C ∧ PySem.W.OwnT.Asks K C ∧ NoAttr K C n ∧ d = some dd ∧ H1 dd = some (.xd fs) ∧ fs.lookup n = some v ∧ Q v H1
theorem pe_xfA {X : Cx} {a : Addr} {oe : Obj} {cls : Value} {d : Option Addr} {pn : List (Addr × Obj)} {e : Expr} {te : TE} {pos : Pos} {n : Str}
    (hz : Zc cls d oe) (hf : ∃ vs, oe.data = .fields vs) (he : PE (X.suite a ((a, oe) :: pn)) e te) (hb : attributeBase e n X.env (eval e X.env) = eval e X.env := by rfl) :
    PE (X.suite a ((a, oe) :: pn)) (.Attribute e n pos) (tXfA X.K a cls d n te) := by
  refine ⟨fun pins s σ H Q I h => ?_⟩
  refine attr_of hb (thn (he.run pins s σ H _ I h) fun u s1 hh => ?_)
  obtain ⟨x, H1, I1, rx, ex, C, dd, fs, v, ec, T, hno, ed, ea, l, q⟩ := hh
  subst ex
  obtain rfl : u = Value.ref a := rx
  subst ec
  subst ed
  obtain ⟨ha, _⟩ := I1.pin (a, oe) (List.mem_append_left _ List.mem_cons_self)
  obtain ⟨vs, hd⟩ := hf
  have hx : ObjOk X.prog X.w H1 s1.heap dd (.xd fs) := I1.hok dd _ ea
  obtain ⟨mA, hns, hr⟩ := hx
  obtain ⟨od, ho, hl⟩ := lookIn_ns hns
  obtain ⟨u, hu, ru⟩ := RelO.some_of (v := v) (o := mA n) (by rw [← l]; exact hr n)
  have J : PySem.W.InstAt s1.heap a oe C (some od) := ⟨ha, hz.1, by unfold PySem.W.notCls; rw [hd] <;> rfl, by rw [hz.2]; exact ho⟩
  exact HandSPX.exc_get I1.kIn J T.ga T.gt T.sub (PySem.W.findObj_own T.dct hno rfl (by rw [hl, hu])) (handed_of ru) ⟨v, H1, I1.tok _, ru, q⟩

/-- what cannot be wished for is not let out -/
theorem passF {P : Program} {w : World} {X : Cx} : Passes (L2.CX P w) X (fun _ _ _ => False) := fun _ _ _ _ _ _ _ h => by
  obtain ⟨_, _, _, _, _, _, _, _, _, _, _, _, z⟩ := h
  exact z.elim

section
variable {X : Cx} {CX : CXT} {k : Nat} {f C p g : Addr} {mc : Value} {fd : FuncData} {ps : List Str} {sp : Sp} {E : L2.St → XK} {ds : List Value} {dvs : List V} {x m : Str} {q pos apos : Pos} {e o : Expr} {es : List Expr} {ta : TE} {t : TA}
theorem run_makeS {pins : List (Addr × Obj)} {σ : L2.St} {H : Hp} {s : Shared} {Q : VK} {us : List Value} {vs : List V} (M : Mk X.K C f) (F : FnOk X.prog X.w X.K X.mg X.base CX k f fd ps sp) (hr : Room (k + 1) X.A) (hb : Binds X.K fd ps ds) (hd : Vals dvs ds)
    (hx : PassesAt CX X σ (E σ)) (I : Inv X pins σ H s) (r : Vals vs us)
    (h : ∀ a dx, H a = none → H dx = none → dx ≠ a → sp (.ref a :: (vs ++ dvs)) (upd (upd H dx (.own a)) a (.ins C dx [])) (fun v H2 => v = .non ∧ Q (.ref a) H2) (E σ)) :
    wpAny (model X.prog X.w) X.A (call (.ref C) us) (EP X pins σ Q) X.xe s := by
  have hq := h (s.heap.objs.size + 1) s.heap.objs.size (I.hok.fresh (Nat.le_succ _)) (I.hok.fresh (Nat.le_refl _)) (Nat.ne_of_lt (Nat.lt_succ_self _))
  have J := Inv.made (C := C) I
  have rr : Vals (V.ref (s.heap.objs.size + 1) :: (vs ++ dvs)) (Value.ref (s.heap.objs.size + 1) :: (us ++ ds)) := .cons rfl (r.append hd)
  have n1 : (Value.ref (s.heap.objs.size + 1) :: us ++ ds).length = ps.length := by
    have z := rr.length
    rw [F.len _ _ _ _ hq] at z
    exact z.symm
  have bt := hb _ (Value.ref (s.heap.objs.size + 1) :: us) J.kIn n1
  have run := F.run _ X.stack _ _ ⟨Value.ref (s.heap.objs.size + 1) :: us, []⟩ (Value.ref (s.heap.objs.size + 1) :: (us ++ ds)) _ _ (E σ) (hr.make C us []) (J.env0.make C us []) bt rr hq
  refine wpAny_call (make_map (f := f) I.kIn M.makes M.init (beq_iff_eq.mp M.fn) (codeAny_mono run fun r s' z => ?_))
  cases r with
  | error er => exact hx pins _ _ er s' J z
  | ok fl =>
    cases fl with
    | ret u =>
      obtain ⟨v, H', I3, rv, ev, q3⟩ := J.after z
      subst ev
      exact ⟨rv, ⟨V.ref (s.heap.objs.size + 1), H', I3, rfl, q3⟩⟩
    | next => exact z.elim
    | brk => exact z.elim
    | cont => exact z.elim
/-- C(e, ..) within a try: the wish may speak of the slots -/
def tMakeS (C : Addr) (sp : Sp) (dvs : List V) (E : L2.St → XK) (t : TA) : TE := fun σ H Q => t σ H fun vs H1 => ∀ a dx, H1 a = none → H1 dx = none → dx ≠ a →
  sp (.ref a :: (vs ++ dvs)) (upd (upd H1 dx (.own a)) a (.ins C dx [])) (fun v H2 => v = .non ∧ Q (.ref a) H2) (E σ)
theorem pe_makeS (M : Mk X.K C f) (F : FnOk X.prog X.w X.K X.mg X.base CX k f fd ps sp) (hr : Room (k + 1) X.A) (hg : Gl X x) (hm : X.mg x = some (.ref C)) (hb : Binds X.K fd ps ds) (hd : Vals dvs ds) (hx : ∀ σ, PassesAt CX X σ (E σ))
    (ha : PA X (e :: es) t) (h1 : (x == ("__debug__" : Str)) = false := by decide) (he : starEach (e :: es) X.env = (false, eval e X.env) :: starEach es X.env := by rfl) (hp : (backTo pos (starEach es X.env)).any (·.1) = false := by rfl) :
    PE X (.Call (.Name x q) (e :: es) [] pos) (tMakeS C sp dvs E t) := by
  refine ⟨fun pins s σ H Q I h => ?_⟩
  refine wpAny_Call_Name_kw (ld_glob I hg hm ?_ h1)
  exact PySem.W.callWith_K (h₀ := X.base) I.ok.mod.kin M.kp (thn (ha.run pos pins s σ H _ I h) fun us s1 ⟨vs, H1, I1, r, q⟩ => ⟨I1.kIn, run_makeS M F hr hb hd (hx σ) I1 r q⟩) he hp

/-- C.m(..), m a class method, within a try -/
def tCMethS (C : Addr) (sp : Sp) (E : L2.St → XK) (ta : TE) (t : TA) : TE := fun σ H Q => ta σ H fun x H1 => x = .ref C ∧ t σ H1 fun vs H2 => sp (.ref C :: vs) H2 Q (E σ)
theorem pe_cmethS {pl : Sem Bool} (he : PE X o ta) (r : CRead X.K C mc) (c : CMet X.K C mc m p g) (F : FnR X.prog X.w X.K X.mg X.base CX k g sp) (hr : Room k X.A) (hx : ∀ σ pins H s e s', Inv X pins σ H s → CX X.stack H s (E σ) e s' → X.xe e s') (ha : PA X (e :: es) t)
    (hst : starEach (e :: es) X.env = (false, eval e X.env) :: starEach es X.env := by rfl) (hpl : (backTo pos (starEach es X.env)).any (·.1) = false := by rfl)
    (ht : eval (.Call (.Attribute o m apos) (e :: es) [] pos) X.env = (do
      let ov ← eval o X.env
      standAt apos.atName
      let (h, first) ← holding [ov] (getMethod ov m pl)
      callWith pos h first (backTo pos (starEach (e :: es) X.env)) (backToKw pos (keywordEach [] X.env))) := by rfl) :
    PE X (.Call (.Attribute o m apos) (e :: es) [] pos) (tCMethS C sp E ta t) := by
  refine ⟨fun pins s σ H Q I h => ?_⟩
  refine PySem.W.methodCall_KW (pl := pl) (thn (he.run pins s σ H _ I h) fun u s1 ⟨x, H1, I1, rx, ex, q⟩ => ?_) ht
  subst ex
  obtain rfl : u = Value.ref C := rx
  refine getmethcm_ok I1 r c fun s2 I2 => ?_
  refine callwith_cm I2 (base_none I1 (Nat.le_refl _)) c.fi (thn (ha.run pos _ s2 σ H1 _ I2 q) fun us s3 ⟨vs, H2, I3, rv, q2⟩ => ?_) hst hpl
  refine ⟨⟨pin_at I3, I3.kIn⟩, thn (Q := EP X ((s1.heap.objs.size, PySem.W.methodObj (.ref g) (.ref C)) :: pins) σ Q) (wpAny_call (PySem.W.method_call (pin_at I3) (codeAny_mono (F X.A X.stack s3 H2 (.ref C :: us) (.ref C :: vs) Q (E σ) hr I3.env0 (.cons rfl rv) q2) fun r s' z => ?_))) fun _ _ y => unpinE y⟩
  cases r with
  | error er => exact hx σ _ _ _ _ _ I3 z
  | ok fl =>
    cases fl with
    | ret u => exact I3.after z
    | next => exact z.elim
    | brk => exact z.elim
    | cont => exact z.elim
end
end OwnX

set_option Elab.async false
set_option linter.all false
set_option maxRecDepth 100000
set_option maxHeartbeats 2000000
/-! Small things for every law: heaps that grow, comprehensions over texts, a def that may be called. -/
namespace Z
open PySem PySem.Spec PyProof.Rows L2 SX

/-! ### heaps -/
theorem same_new {H : Hp} {p : Addr} {o : HO} (h : H p = none) : Same H (upd H p o) := fun b x e => by
  rw [upd_ne (ne_of_none e h)]
  exact e
theorem same_to {H H1 : Hp} {p : Addr} {o : HO} (s : Same H H1) (h : H p = none) : Same H (upd H1 p o) := fun b x e => by
  rw [upd_ne (ne_of_none e h)]
  exact s _ _ e
/-- all but a is as it was -/
def But (a : Addr) (H H' : Hp) : Prop := ∀ b o, b ≠ a → H b = some o → H' b = some o
theorem But.of {a : Addr} {H H' : Hp} (s : Same H H') : But a H H' := fun b o _ e => s b o e
theorem But.trans {a : Addr} {H H1 H2 : Hp} (s : But a H H1) (t : But a H1 H2) : But a H H2 := fun b o n e => t b o n (s b o n e)
theorem But.put {a : Addr} {H H1 : Hp} {o : HO} (s : But a H H1) : But a H (upd H1 a o) := fun b x n e => by
  rw [upd_ne n]
  exact s b x n e
theorem But.same {a : Addr} {H H' : Hp} (s : But a H H') (h : H a = none) : Same H H' := fun b o e => s b o (ne_of_none e h) e
theorem But.seq {a l : Addr} {K : PySem.W.Frag} {H H' : Hp} {xs : List V} (s : But a H H') (h : SqL K H l xs) (n : l ≠ a) : SqL K H' l xs := by
  rcases h with (h | ⟨o, h⟩) | h
  · exact .inl (.inl (s _ _ n h))
  · exact .inl (.inr ⟨o, s _ _ n h⟩)
  · exact .inr h
theorem free_put {H : Hp} {a b : Addr} {o : HO} (h : upd H a o b = none) : b ≠ a ∧ H b = none := by
  by_cases e : b = a
  · rw [e, upd_same] at h
    cases h
  · rw [upd_ne e] at h
    exact ⟨e, h⟩

/-- an error laid in full: all that was before stands -/
theorem same_err {H H1 : Hp} {a d : Addr} {x y o z : HO} (s : Same H H1) (ha : H1 a = none) (hd : (upd H1 a x) d = none) : Same H (upd (del (upd (upd (upd H1 a x) d y) a o) a) d z) := fun b u e => by
  have e1 := s _ _ e
  obtain ⟨nd, hd1⟩ := free_put hd
  have ba := ne_of_none e1 ha
  have bd := ne_of_none e1 hd1
  rw [upd_ne bd]
  show (if b = a then none else _) = _
  rw [if_neg ba, upd_ne ba, upd_ne bd, upd_ne ba]
  exact e1

/-! ### calls -/
/-- the def at a may be called: its promise, with the defaults dvs -/
structure Ok (P : Program) (w : World) (K : PySem.W.Frag) (mg : Str → Option Value) (base : Heap) (CX : CXT) (k : Nat) (a : Addr) (sp : Sp) (dvs : List V) : Prop where
  ex : ∃ fd ps ds, FnOk P w K mg base CX k a fd ps sp ∧ Binds K fd ps ds ∧ Vals dvs ds
  kp : PySem.W.keepIn K (.ref a) = true
section
variable {X : Cx} {CX : CXT} {j k : Nat} {a C : Addr} {sp : Sp} {dvs : List V} {E : XK} {x m : Str} {p pos apos : Pos} {e o : Expr} {es : List Expr} {ta : TE} {t : TA}
theorem pe_f (c : Ok X.prog X.w X.K X.mg X.base CX k a sp dvs) (hr : Room j X.A) (hm : X.mg x = some (.ref a)) (hx : Passes CX X E) (ha : PA X (e :: es) t) (hk : k ≤ j := by decide) (hg : Gl X x := by rfl)
    (hd : (x == ("__debug__" : Str)) = false := by decide) (he : starEach (e :: es) X.env = (false, eval e X.env) :: starEach es X.env := by rfl) (hp : (backTo pos (starEach es X.env)).any (·.1) = false := by rfl) :
    PE X (.Call (.Name x p) (e :: es) [] pos) (tCall sp dvs E t) := by
  obtain ⟨fd, ps, ds, F, b, d⟩ := c.ex
  exact pe_call F (hr.mono hk) hg hm c.kp b d hx ha hd he hp
theorem pe_f0 (c : Ok X.prog X.w X.K X.mg X.base CX k a sp dvs) (hr : Room j X.A) (hm : X.mg x = some (.ref a)) (hx : Passes CX X E) (hk : k ≤ j := by decide) (hg : Gl X x := by rfl) (hd : (x == ("__debug__" : Str)) = false := by decide) :
    PE X (.Call (.Name x p) [] [] pos) (tCall sp dvs E tNil) := by
  obtain ⟨fd, ps, ds, F, b, d⟩ := c.ex
  exact pe_call0 F (hr.mono hk) hg hm c.kp b d hx hd
theorem pe_m {pl : Sem Bool} (he : PE X o ta) (cl : Cls X.K C) (hm : Meth X.K C m a) (c : Ok X.prog X.w X.K X.mg X.base CX k a sp dvs) (hr : Room j X.A) (hx : Passes CX X E) (ha : PA X (e :: es) t) (hk : k ≤ j := by decide)
    (hst : starEach (e :: es) X.env = (false, eval e X.env) :: starEach es X.env := by rfl) (hpl : (backTo pos (starEach es X.env)).any (·.1) = false := by rfl)
    (ht : eval (.Call (.Attribute o m apos) (e :: es) [] pos) X.env = (do
      let ov ← eval o X.env
      standAt apos.atName
      let (g, first) ← holding [ov] (getMethod ov m pl)
      callWith pos g first (backTo pos (starEach (e :: es) X.env)) (backToKw pos (keywordEach [] X.env))) := by rfl) :
    PE X (.Call (.Attribute o m apos) (e :: es) [] pos) (tMeth C m sp dvs E ta t) := by
  obtain ⟨fd, ps, ds, F, b, d⟩ := c.ex
  exact pe_meth (pl := pl) he cl hm F (hr.mono hk) b d hx ha hst hpl ht
theorem pe_m0 {pl : Sem Bool} (he : PE X o ta) (cl : Cls X.K C) (hm : Meth X.K C m a) (c : Ok X.prog X.w X.K X.mg X.base CX k a sp dvs) (hr : Room j X.A) (hx : Passes CX X E) (hk : k ≤ j := by decide)
    (ht : eval (.Call (.Attribute o m apos) [] [] pos) X.env = (do
      let ov ← eval o X.env
      standAt apos.atName
      let (g, first) ← holding [ov] (getMethod ov m pl)
      callWith pos g first (backTo pos (starEach [] X.env)) (backToKw pos (keywordEach [] X.env))) := by rfl) :
    PE X (.Call (.Attribute o m apos) [] [] pos) (tMeth C m sp dvs E ta tNil) := by
  obtain ⟨fd, ps, ds, F, b, d⟩ := c.ex
  exact pe_meth0 (pl := pl) he cl hm F (hr.mono hk) b d hx ht
end
/-- a promise of a def, from its words -/
theorem ok_of {P : Program} {w : World} {K : PySem.W.Frag} {mg : Str → Option Value} {base : Heap} {CX : CXT} {k : Nat} {a : Addr} {sp : Sp} {x qual : Str} {ar : Arguments} {bd : List Stmt} {sc : Scope} {kws : List (Str × V)} {fd : FuncData} {ps : List Str}
    (F : FunD K x qual ar bd sc [] kws a fd) (h : FnOk P w K mg base CX k a fd ps sp)
    (hb : ∀ (kV doc pm : Value) (an : Option Addr) (cdv ct : Value) (us : List Value), us.length = ps.length → bindArgs (PySem.W.fnOf x qual ar bd sc .none kV doc pm an cdv ct) ⟨us, []⟩ = pure (ps.zip us)) : Ok P w K mg base CX k a sp [] :=
  ⟨⟨fd, ps, [], h, F.bindsN hb, .nil⟩, F.kp⟩

/-- .. with defaults that are all left out or all given -/
theorem ok_d {P : Program} {w : World} {K : PySem.W.Frag} {mg : Str → Option Value} {base : Heap} {CX : CXT} {k : Nat} {a : Addr} {sp : Sp} {x qual : Str} {ar : Arguments} {bd : List Stmt} {sc : Scope} {dvs : List V} {kws : List (Str × V)} {fd : FuncData} {ps : List Str}
    (F : FunD K x qual ar bd sc dvs kws a fd) (h : FnOk P w K mg base CX k a fd ps sp) (n j : Nat) (hd : dvs ≠ []) (hn : n + (dvs.length - j) = ps.length)
    (hb : ∀ (t : Addr) (kV doc pm : Value) (an : Option Addr) (cdv ct : Value) (us its : List Value), us.length = n → its.length = dvs.length →
      ∃ g, bindArgs (PySem.W.fnOf x qual ar bd sc (.ref t) kV doc pm an cdv ct) ⟨us, []⟩ = seqItems? (.ref t) >>= g ∧ g (some its.toArray) = pure (ps.zip (us ++ its.drop j))) : Ok P w K mg base CX k a sp (dvs.drop j) := by
  obtain ⟨ds, d, b⟩ := F.binds1 n j hd hn hb
  exact ⟨⟨fd, ps, ds, h, b, d⟩, F.kp⟩
/-- a def without defaults -/
theorem toFun {K : PySem.W.Frag} {x qual : Str} {st : Stmt} {a : Addr} {fd : FuncData} (F : FunD K x qual (defArgs st) (defBody st) (defScope st) [] [] a fd) : Fun K x qual st a fd := by
  obtain ⟨oc, od, dV, kV, doc, pm, an, cdv, ct, osl, e, lk, hcd, hD, _⟩ := F.ex
  rcases hD with ⟨_, rfl⟩ | ⟨z, _⟩
  · exact ⟨⟨oc, od, kV, doc, pm, an, cdv, ct, osl, e, lk, hcd⟩, F.kp⟩
  · exact absurd rfl z

/-! ### own operators by Ok -/
section
variable {X : Cx} {CX : CXT} {j k : Nat} {a C f : Addr} {sp : Sp} {dvs : List V} {E : XK} {x nm : Str} {p pos : Pos} {e : Expr} {es : List Expr} {ta : TE} {t : TA}
theorem op_o {op : Operator} (c : Ok X.prog X.w X.K X.mg X.base CX k f sp dvs) (hr : Room k X.A) (m : Meth X.K C nm f) (h1 : PySem.W.selfFirst X.K C = true) (hx : Passes CX X E) (hn : PySem.dunder op.info.2 = nm := by decide +kernel) : OpR X (binaryOp op) (OwnO.rBin C C sp dvs E) := by
  obtain ⟨fd, ps, ds, F, b, d⟩ := c.ex
  subst hn
  exact OwnO.op_own F hr ⟨m.at_, m.fn⟩ h1 b d hx
theorem un_neg (c : Ok X.prog X.w X.K X.mg X.base CX k f sp dvs) (hr : Room k X.A) (m : Meth X.K C "__neg__" f) (hx : Passes CX X E) : UnR X (unaryOp .USub) (OwnO.rUn C sp dvs E) := by
  obtain ⟨fd, ps, ds, F, b, d⟩ := c.ex
  exact OwnO.un_own_neg F hr ⟨m.at_, m.fn⟩ b d hx
theorem un_invert (c : Ok X.prog X.w X.K X.mg X.base CX k f sp dvs) (hr : Room k X.A) (m : Meth X.K C "__invert__" f) (hx : Passes CX X E) : UnR X (unaryOp .Invert) (OwnO.rUn C sp dvs E) := by
  obtain ⟨fd, ps, ds, F, b, d⟩ := c.ex
  exact OwnO.un_own_inv F hr ⟨m.at_, m.fn⟩ b d hx
theorem op_ceq (c : Ok X.prog X.w X.K X.mg X.base CX k f sp dvs) (hr : Room k X.A) (m : Meth X.K C "__eq__" f) (hx : Passes CX X E) : OpR X (compareOp .Eq) (OwnO.rCmp X.K C sp dvs E) := by
  obtain ⟨fd, ps, ds, F, b, d⟩ := c.ex
  exact OwnO.op_cmp (fun _ _ => rfl) F hr ⟨m.at_, m.fn⟩ b d hx
theorem op_cle (c : Ok X.prog X.w X.K X.mg X.base CX k f sp dvs) (hr : Room k X.A) (m : Meth X.K C "__le__" f) (hx : Passes CX X E) : OpR X (compareOp .LtE) (OwnO.rCmp X.K C sp dvs E) := by
  obtain ⟨fd, ps, ds, F, b, d⟩ := c.ex
  exact OwnO.op_cmp (fun _ _ => rfl) F hr ⟨m.at_, m.fn⟩ b d hx
theorem op_clt (c : Ok X.prog X.w X.K X.mg X.base CX k f sp dvs) (hr : Room k X.A) (m : Meth X.K C "__lt__" f) (hx : Passes CX X E) : OpR X (compareOp .Lt) (OwnO.rCmp X.K C sp dvs E) := by
  obtain ⟨fd, ps, ds, F, b, d⟩ := c.ex
  exact OwnO.op_cmp (fun _ _ => rfl) F hr ⟨m.at_, m.fn⟩ b d hx
theorem op_cgt (c : Ok X.prog X.w X.K X.mg X.base CX k f sp dvs) (hr : Room k X.A) (m : Meth X.K C "__gt__" f) (hx : Passes CX X E) : OpR X (compareOp .Gt) (OwnO.rCmp X.K C sp dvs E) := by
  obtain ⟨fd, ps, ds, F, b, d⟩ := c.ex
  exact OwnO.op_cmp (fun _ _ => rfl) F hr ⟨m.at_, m.fn⟩ b d hx
theorem op_cge (c : Ok X.prog X.w X.K X.mg X.base CX k f sp dvs) (hr : Room k X.A) (m : Meth X.K C "__ge__" f) (hx : Passes CX X E) : OpR X (compareOp .GtE) (OwnO.rCmp X.K C sp dvs E) := by
  obtain ⟨fd, ps, ds, F, b, d⟩ := c.ex
  exact OwnO.op_cmp (fun _ _ => rfl) F hr ⟨m.at_, m.fn⟩ b d hx
theorem op_in (c : Ok X.prog X.w X.K X.mg X.base CX k f sp dvs) (hr : Room k X.A) (m : Meth X.K C "__contains__" f) (hx : Passes CX X E) : OpR X (compareOp .In) (OwnO.rIn C sp dvs E false) := by
  obtain ⟨fd, ps, ds, F, b, d⟩ := c.ex
  exact OwnO.op_in_own F hr ⟨m.at_, m.fn⟩ b d hx
theorem op_nin (c : Ok X.prog X.w X.K X.mg X.base CX k f sp dvs) (hr : Room k X.A) (m : Meth X.K C "__contains__" f) (hx : Passes CX X E) : OpR X (compareOp .NotIn) (OwnO.rIn C sp dvs E true) := by
  obtain ⟨fd, ps, ds, F, b, d⟩ := c.ex
  exact OwnO.op_notin_own F hr ⟨m.at_, m.fn⟩ b d hx
theorem call_len (c : Ok X.prog X.w X.K X.mg X.base CX k f sp dvs) (hr : Room (k + 1) X.A) (m : Meth X.K C "__len__" f) (hx : Passes CX X E) : CallR X (.builtin "len") (OwnO.rLenO C sp dvs E) := by
  obtain ⟨fd, ps, ds, F, b, d⟩ := c.ex
  exact OwnO.call_len_own F hr ⟨m.at_, m.fn⟩ b d hx
theorem pt_o (he : PE X e ta) (c : Ok X.prog X.w X.K X.mg X.base CX k f sp dvs) (hr : Room k X.A) (m : Meth X.K C "__bool__" f) (hx : Passes CX X E) (ht : ∀ whole, isTrue e X.env whole = (do let v ← whole; standAt e.pos; holding [v] (truthy v))) : PT X e (OwnO.tTruO C sp dvs E ta) := by
  obtain ⟨fd, ps, ds, F, b, d⟩ := c.ex
  exact OwnO.pt_own he F hr ⟨m.at_, m.fn⟩ b d hx ht
theorem pe_not_o (he : PE X e ta) (c : Ok X.prog X.w X.K X.mg X.base CX k f sp dvs) (hr : Room k X.A) (m : Meth X.K C "__bool__" f) (hx : Passes CX X E) : PE X (.UnaryOp .Not e pos) (fun σ H Q => OwnO.tTruO C sp dvs E ta σ H fun b H' => Q (.bl (!b)) H') := by
  obtain ⟨fd, ps, ds, F, b, d⟩ := c.ex
  exact OwnO.pe_not_own he F hr ⟨m.at_, m.fn⟩ b d hx
/-- C(..) -/
theorem pe_mk (M : Mk X.K C f) (c : Ok X.prog X.w X.K X.mg X.base CX k f sp dvs) (hr : Room (k + 1) X.A) (hm : X.mg x = some (.ref C)) (hx : Passes CX X E) (ha : PA X (e :: es) t) (hg : Gl X x := by rfl)
    (hd : (x == ("__debug__" : Str)) = false := by decide) (he : starEach (e :: es) X.env = (false, eval e X.env) :: starEach es X.env := by rfl) (hp : (backTo pos (starEach es X.env)).any (·.1) = false := by rfl) :
    PE X (.Call (.Name x p) (e :: es) [] pos) (tMake C sp dvs E t) := by
  obtain ⟨fd, ps, ds, F, b, d⟩ := c.ex
  exact pe_make M F hr hg hm b d hx ha hd he hp
theorem pe_mk0 (M : Mk X.K C f) (c : Ok X.prog X.w X.K X.mg X.base CX k f sp dvs) (hr : Room (k + 1) X.A) (hm : X.mg x = some (.ref C)) (hx : Passes CX X E) (hg : Gl X x := by rfl) (hd : (x == ("__debug__" : Str)) = false := by decide) :
    PE X (.Call (.Name x p) [] [] pos) (tMake C sp dvs E tNil) := by
  obtain ⟨fd, ps, ds, F, b, d⟩ := c.ex
  exact pe_make0 M F hr hg hm b d hx hd
theorem pe_mkL {i : Nat} (M : Mk X.K C f) (c : Ok X.prog X.w X.K X.mg X.base CX k f sp dvs) (hr : Room (k + 1) X.A) (hx : Passes CX X E) (ha : PA X (e :: es) t) (hN : X.N[i]? = some x := by rfl) (hv : Vis X.env.scope x := by first | exact Or.inl rfl | exact Or.inr (Or.inl rfl) | exact Or.inr (Or.inr rfl))
    (h1 : (x == ("__debug__" : Str)) = false := by decide) (h2 : (x == ("__classdict__" : Str)) = false := by decide)
    (he : starEach (e :: es) X.env = (false, eval e X.env) :: starEach es X.env := by rfl) (hp : (backTo pos (starEach es X.env)).any (·.1) = false := by rfl) :
    PE X (.Call (.Name x p) (e :: es) [] pos) (OwnO.tMakeL i C sp dvs E t) := by
  obtain ⟨fd, ps, ds, F, b, d⟩ := c.ex
  exact OwnO.pe_makeL M F hr b d hx hN hv ha h1 h2 he hp
/-- an error is made, for raise -/
theorem pmk {x : Str} (T : OexC X.K C) (m : Meth X.K C "__init__" f) (tI : PySem.W.typeIn X.K (.ref f) = some (.type "function")) (c : Ok X.prog X.w X.K X.mg X.base CX k f sp dvs) (hr : Room (k + 1) X.A) (hx : Passes CX X (fun _ _ _ => False)) (hm : X.mg x = some (.ref C)) (ha : PA X (e :: es) t) (hg : Gl X x := by rfl)
    (hd : (x == ("__debug__" : Str)) = false := by decide) (he : starEach (e :: es) X.env = (false, eval e X.env) :: starEach es X.env := by rfl) (hp : (backTo pos (starEach es X.env)).any (·.1) = false := by rfl) :
    PMk X (.Call (.Name x p) (e :: es) [] pos) (tMkO C sp dvs t) := by
  obtain ⟨fd, ps, ds, F, b, d⟩ := c.ex
  exact pmk_oex T m.at_ tI F hr b d hx hg hm ha hd he hp
theorem pe_mkS {C : Addr} {x : Str} {p : Pos} {E : L2.St → XK} (M : Mk X.K C f) (c : Ok X.prog X.w X.K X.mg X.base CX k f sp dvs) (hr : Room (k + 1) X.A) (hm : X.mg x = some (.ref C)) (hx : ∀ σ, PassesAt CX X σ (E σ)) (ha : PA X (e :: es) t) (hg : Gl X x := by rfl)
    (hd : (x == ("__debug__" : Str)) = false := by decide) (he : starEach (e :: es) X.env = (false, eval e X.env) :: starEach es X.env := by rfl) (hp : (backTo pos (starEach es X.env)).any (·.1) = false := by rfl) :
    PE X (.Call (.Name x p) (e :: es) [] pos) (OwnX.tMakeS C sp dvs E t) := by
  obtain ⟨fd, ps, ds, F, b, d⟩ := c.ex
  exact OwnX.pe_makeS M F hr hg hm b d hx ha hd he hp
/-- f(..) within a try -/
theorem pe_fS {a : Addr} {x : Str} {p : Pos} {E : L2.St → XK} (c : Ok X.prog X.w X.K X.mg X.base CX k a sp []) (hr : Room k X.A) (hm : X.mg x = some (.ref a)) (hx : ∀ σ, PassesAt CX X σ (E σ)) (ha : PA X (e :: es) t) (hg : Gl X x := by rfl)
    (hd : (x == ("__debug__" : Str)) = false := by decide) (he : starEach (e :: es) X.env = (false, eval e X.env) :: starEach es X.env := by rfl) (hp : (backTo pos (starEach es X.env)).any (·.1) = false := by rfl) :
    PE X (.Call (.Name x p) (e :: es) [] pos) (tCallS sp E t) := by
  obtain ⟨fd, ps, ds, F, b, d⟩ := c.ex
  cases d
  exact pe_callS F hr hg hm c.kp b hx ha hd he hp
/-- its promise for a call by hand -/
theorem Ok.raw (c : Ok X.prog X.w X.K X.mg X.base CX k f sp dvs) : FnR X.prog X.w X.K X.mg X.base CX k f (fun vs H Q E => sp (vs ++ dvs) H Q E) := by
  obtain ⟨fd, ps, ds, F, b, d⟩ := c.ex
  exact F.raw b d
end
theorem pw {X : Cx} {W : WX} {E : XK} (tk : Takes X W) (hW : ∀ cls d σ H, E cls d H → W cls d σ H) : Passes (L2.CX X.prog X.w) X E := passes_call tk hW
theorem fn_type {K : PySem.W.Frag} {f : Addr} (h : PySem.W.isFn K (.ref f) = true) : PySem.W.typeIn K (.ref f) = some (.type "function") := beq_iff_eq.mp h

/-! ### comprehensions over a text -/
theorem gname {i : Nat} {v : V} {σ : L2.St} {H : Hp} {Q : L2.St → Hp → Prop} (h : Q (σ.set i (some v)) H) : gName i v σ H Q := h
/-- [f(c) for c in z if p(c)]: what the element and the test call may lay new things -/
theorem lc_txt {i : Nat} {tt : TT} {tE : TE} {vs : List Nat} {σ : L2.St} {H1 : Hp} {D : Addr} {Qd : Hp → Prop} {z : List Nat} (p : Nat → Bool) (f : Nat → V) (hz : z.length < sizeLine) (hD : H1 D = none)
    (hw : ∀ v, wipe ((wipe σ vs).set i (some v)) vs = wipe σ vs)
    (ht : ∀ c H' (Q : Bool → Hp → Prop), c ∈ z → Same H1 H' → (∀ H2, Same H' H2 → Q (p c) H2) → tt ((wipe σ vs).set i (some (.str ⟨#[c]⟩))) H' Q)
    (he : ∀ c H' (Q : VK), c ∈ z → Same H1 H' → (∀ H2, Same H' H2 → Q (f c) H2) → tE ((wipe σ vs).set i (some (.str ⟨#[c]⟩))) H' Q)
    (hd : ∀ H', Same H1 H' → H' D = some (.lst ((z.filter p).map f)) → Qd H') :
    ∃ W : Nat → Nat → Hp → Prop, (∃ m, W 0 m (upd H1 D (.lst []))) ∧ ∀ j m H, W j m H →
      ((Its (S z)).stop j H ∧ Qd H) ∨ ((Its (S z)).go j H ∧ ∃ Nx : Hp → Prop, (∀ H', Nx H' → ∃ m', m' < m ∧ W (j + 1) m' H') ∧ ∀ x H', (Its (S z)).yld j H x H' → gName i x (wipe σ vs) H' fun σ2 H2 => wipe σ2 vs = wipe σ vs ∧ tt σ2 H2 fun b H3 =>
        if b = true then tE σ2 H3 fun y H4 => ∃ acc, H4 D = some (.lst acc) ∧ acc.length < sizeLine ∧ Nx (upd H4 D (.lst (acc ++ [y]))) else Nx H3) := by
  refine lc_it (w := walk_str (z := S z)) (fun j H => Same H1 H ∧ H D = some (.lst (((z.take j).filter p).map f))) ⟨same_new hD, by rw [upd_same]; rfl⟩ (fun _ _ _ _ => trivial) ?_ (fun H' h => ?_)
  · rintro j x H H' hj ⟨s, e⟩ ⟨rfl, c, hc, rfl⟩
    have hc' : z[j]? = some c := by simpa using hc
    have hmem : c ∈ z := List.mem_of_getElem? hc'
    refine gname ⟨hw _, ht c _ _ hmem s fun H2 s2 => ?_⟩
    have e2 : H2 D = some (.lst (((z.take j).filter p).map f)) := s2 _ _ e
    have tk : z.take (j + 1) = z.take j ++ [c] := by rw [List.take_add_one, hc']; rfl
    cases hp : p c with
    | false =>
      rw [if_neg Bool.false_ne_true]
      refine ⟨s.trans s2, ?_⟩
      rw [tk, List.filter_append, List.filter_cons_of_neg (by rw [hp]; exact Bool.false_ne_true)]
      simpa using e2
    | true =>
      rw [if_pos rfl]
      refine he c _ _ hmem (s.trans s2) fun H3 s3 => ⟨_, s3 _ _ e2, ?_, ?_, ?_⟩
      · rw [List.length_map]
        have y1 := List.length_filter_le p (z.take j)
        have y2 : (z.take j).length ≤ z.length := by rw [List.length_take]; exact Nat.min_le_right _ _
        omega
      · exact same_to ((s.trans s2).trans s3) hD
      · rw [upd_same, tk, List.filter_append, List.filter_cons_of_pos hp]
        simp
  · obtain ⟨s, e⟩ := h
    refine hd _ s ?_
    have n : (S z).cps.size = z.length := by simp
    rw [n, List.take_length] at e
    exact e
end Z

set_option Elab.async false
set_option linter.all false
set_option maxRecDepth 100000
set_option maxHeartbeats 2000000
/-! Two words on texts: a text times an int, a text turned round. -/
namespace Z
open PySem PySem.Spec PyProof.Rows L2 SX

theorem all_got (l : List Nat) : (List.range l.length).filterMap (fun i => l[i]?) = l := by
  induction l with
  | nil => rfl
  | cons a r ih =>
    rw [List.length_cons, List.range_succ_eq_map, List.filterMap_cons]
    simp only [List.getElem?_cons_zero, List.filterMap_map]
    exact congrArg (a :: ·) ih
theorem fold_rep (x : List Nat) : ∀ (k : Nat) (acc : List Nat), (List.replicate k x.toArray).foldl (· ++ ·) acc.toArray = (acc ++ (List.replicate k x).flatten).toArray := by
  intro k
  induction k with
  | zero => intro acc; simp
  | succ k ih =>
    intro acc
    rw [List.replicate_succ, List.foldl_cons, List.append_toArray, ih (acc ++ x), List.replicate_succ, List.flatten_cons, List.append_assoc]
/-- text * int -/
def rMulS : R2 := fun x y H Q => ∃ l k, x = .str (S l) ∧ y = .int k ∧ -(2 ^ 63) ≤ k ∧ k < 2 ^ 63 ∧ l.length * k.toNat ≤ sizeLine ∧ Q (.str (S (List.replicate k.toNat l).flatten)) H
section
variable {X : Cx}
theorem op_mul_str : OpR X (binaryOp .Mult) rMulS := by
  intro pins s σ H x y v u Q I rx ry h
  obtain ⟨l, k, rfl, rfl, h1, h2, hz, q⟩ := h
  obtain ⟨t, rfl⟩ := rx
  obtain ⟨t', rfl⟩ := ry
  have hz' : (S l).length * k.toNat ≤ sizeLine := by rw [S_len]; exact hz
  have sl : sizeLine = sizeLine := rfl
  refine P.mul_str ?_ ?_ ?_ ?_
  · rw [decide_eq_false (by omega), decide_eq_false (by omega)]
    rfl
  · intro hk _ hgt
    have hk0 : (0 : Int) < k := by omega
    have : (2 ^ 63 - 1 : Int) / k < ((S l).length : Int) := hgt
    have h3 : ((S l).length : Int) * k ≤ (2 ^ 63 - 1) := by
      have e : (k : Int) = (k.toNat : Int) := by omega
      rw [e, ← Int.natCast_mul]
      have : sizeLine ≤ 2 ^ 63 - 1 := by decide
      omega
    have := (Int.le_ediv_iff_mul_le hk0).mpr h3
    omega
  · intro hk _
    have : Builtin.Str.tooLong ((S l).length * k.toNat) = false := by
      unfold Builtin.Str.tooLong
      simp only [decide_eq_false_iff_not]
      first | omega | (unfold sizeLine at *; omega) | (simp [sizeLine] at *; omega)
    exact this
  · by_cases c1 : k < 1
    · rw [if_pos c1]
      have e : (List.replicate k.toNat l).flatten = [] := by
        rw [show k.toNat = 0 by omega]
        rfl
      rw [e] at q
      exact ⟨by decide, .str _, H, I.tok _, ⟨_, rfl⟩, q⟩
    · rw [if_neg c1]
      by_cases c2 : (k == 1 || (S l).length == 0) = true
      · rw [if_pos c2]
        have e : (List.replicate k.toNat l).flatten = l := by
          rcases Bool.or_eq_true_iff.mp c2 with c | c
          · rw [show k.toNat = 1 by have := of_decide_eq_true c; omega]
            simp
          · have e0 : l = [] := by
              have := of_decide_eq_true c
              rw [S_len] at this
              exact List.length_eq_zero_iff.mp this
            rw [e0]
            induction k.toNat with
            | zero => rfl
            | succ m ih => rw [List.replicate_succ, List.flatten_cons, ih]; rfl
        rw [e] at q
        exact ⟨.str (S l), H, I, ⟨_, rfl⟩, q⟩
      · rw [if_neg c2]
        have e : (⟨(List.replicate k.toNat (S l).cps).foldl (· ++ ·) #[]⟩ : Str) = S (List.replicate k.toNat l).flatten := by
          have := fold_rep l k.toNat []
          rw [List.nil_append] at this
          exact congrArg Str.mk this
        rw [e]
        refine ⟨?_, .str _, H, I.tok _, ⟨_, rfl⟩, q⟩
        rw [S_len]
        have : (List.replicate k.toNat l).flatten.length = k.toNat * l.length := by simp
        rw [this, Nat.mul_comm]
        exact hz

/-- bool(text) -/
theorem call_boolS : CallR X (.type "bool") (fun xs H Q => ∃ z, xs = [.str z] ∧ z.length ≤ sizeLine ∧ Q (.bl ((z.length : Int) != 0)) H) := by
  intro pins s σ H xs us Q I r h
  obtain ⟨z, rfl, hz, q⟩ := h
  obtain ⟨u, rfl, t, rfl⟩ := vals1 r
  have hl := line63
  exact call_bool_str (by omega) ⟨.bl _, H, I.tok _, rfl, q⟩
/-! ### z[::-1] -/
def tRevS (te : TE) : TE := fun σ H Q => te σ H fun x H1 => ∃ l, x = .str (S l) ∧ l.length ≤ sizeLine ∧ Q (.str (S l.reverse)) H1
theorem pe_revS {e : Expr} {te : TE} {k : Nat} {p1 p2 p3 pos : Pos} (he : PE X e te) : PE X (.Subscript e (.Slice none none (some (.UnaryOp .USub (.Constant (.int 1) k p1) p2)) p3) pos) (tRevS te) := by
  refine ⟨fun pins s σ H Q I h => ?_⟩
  refine Subscript_ (thn (he.run pins s σ H _ I h) fun v s1 ⟨x, H1, I1, r1, q1⟩ => ?_)
  obtain ⟨z, ex, hz, q⟩ := q1
  subst ex
  obtain ⟨t, rfl⟩ := r1
  have hst : PO X (some (.UnaryOp .USub (.Constant (.int 1) k p1) p2)) (tPart (tUn (rU fun i => .int (-i)) (tC (.int 1)))) := po_some (pe_un L2.un_neg pe_int)
  refine wpAny_Slice (thn (po_none.run pins s1 σ H1 (fun o H2 => o = none ∧ H2 = H1) I1 ⟨rfl, rfl⟩) fun vl s2 ⟨l, H2, I2, pl, el, e2⟩ => ?_)
  subst el e2
  refine thn (po_none.run pins s2 σ H2 (fun o H3 => o = none ∧ H3 = H2) I2 ⟨rfl, rfl⟩) fun vu s3 ⟨u, H3, I3, pu, eu, e3⟩ => ?_
  subst eu e3
  refine thn (hst.run pins s3 σ H3 (fun o H4 => o = some (-1) ∧ H4 = H3) I3 ⟨1, rfl, -1, rfl, rfl, rfl⟩) fun vs s4 ⟨o, H4, I4, ps, eo, e4⟩ => ?_
  subst eo e4
  have I5 : Inv X pins σ H4 { s4 with heap := s4.heap.push { cls := .type "slice", data := .fields #[vl, vu, vs] } } := I4.kept (t' := s4.toks) fun b ob q => Heap.get?_push_of_some _ q
  obtain ⟨l, rfl, el⟩ := IsPart.raw pl
  obtain ⟨u, rfl, eu⟩ := IsPart.raw pu
  obtain ⟨w, rfl, ew⟩ := IsPart.raw ps
  have el0 : l.map (·.1) = none := el
  have eu0 : u.map (·.1) = none := eu
  have ew0 : w.map (·.1) = some (-1) := ew
  show wpAny (model X.prog X.w) X.A (subscriptTail e (.Slice none none (some (.UnaryOp .USub (.Constant (.int 1) k p1) p2)) p3) (.str (S z) t) (.ref s4.heap.objs.size)) (EP X pins σ Q) X.xe _
  refine tail_any (ops := [.str (S z) t, .ref s4.heap.objs.size]) (typeIs_str _ _ _) (PySem.F.slot_str_getitem.lookup) ?_ (by with_unfolding_all rfl)
  refine wpAny_getItem_str_slice (l := l) (u := u) (st := w) ⟨_, Heap.get?_push_size _ rfl, rfl, rfl⟩ (by rw [ew0]; rfl) ?_
  unfold PySem.sliceMade slicePicked
  rw [el0, eu0, ew0]
  show Made.post (if (((-1 : Int) == 1) && _) = true then Made.val (.str (S z) t) else Made.str ⟨((Builtin.Str.strSliceIndices none none (-1) (S z).length).filterMap ((S z).cps[·]?)).toArray⟩) (EP X pins σ Q) _
  rw [if_neg (by rw [show (((-1 : Int) == 1)) = false by decide, Bool.false_and]; exact Bool.false_ne_true)]
  have e9 : (⟨((Builtin.Str.strSliceIndices none none (-1) (S z).length).filterMap ((S z).cps[·]?)).toArray⟩ : Str) = S z.reverse := by
    have : (Builtin.Str.strSliceIndices none none (-1) (S z).length).filterMap ((S z).cps[·]?) = z.reverse := by
      unfold Builtin.Str.strSliceIndices
      have h1 : ¬ ((-1 : Int) > 0) := by decide
      simp only [h1, if_false]
      rw [PySem.W.krv_sliceRange, PySem.W.krv_range, List.filterMap_reverse, S_len]
      congr 1
      refine Eq.trans ?_ (all_got z)
      simp [S]
    exact congrArg (fun l : List Nat => Str.mk l.toArray) this
  rw [e9]
  refine ⟨?_, .str _, H4, I5.tok _, ⟨_, rfl⟩, q⟩
  rw [S_len, List.length_reverse]
  exact hz
/-! ### rules within a comprehension: the written part by its name -/
theorem pe_fldK (K : PySem.W.Frag) {e : Expr} {ta : TE} {f : Str} {pos : Pos} (he : PE X e ta) (hb : attributeBase e f X.env (eval e X.env) = eval e X.env) (hK : X.K = K := by rfl) : PE X (.Attribute e f pos) (tFld K ta f) := by
  subst hK
  exact pe_fld he hb
theorem call_isiK (K : PySem.W.Frag) (hK : X.K = K := by rfl) : CallR X (.builtin "isinstance") (rIsi K) := by
  subst hK
  exact call_isi
end
end Z

set_option Elab.async false
set_option linter.all false
set_option maxRecDepth 100000
set_option maxHeartbeats 2000000
/-! ''.join([c for c in z if p(c)]), all([p(c) for c in z]), and what tests read. -/
namespace Z
open PySem PySem.Spec PyProof.Rows L2 SX

theorem joinL_one : ∀ l : List Nat, TL.joinL [] (l.map fun c => [c]) = l
  | [] => rfl
  | [c] => rfl
  | c :: d :: r => by
    have := joinL_one (d :: r)
    show [c] ++ [] ++ TL.joinL [] ((d :: r).map fun c => [c]) = _
    rw [this]
    rfl
theorem join_one (l : List Nat) : Txt.join (S []) (l.map fun c => S [c]) = S l := by
  have := join_S [] (l.map fun c => [c])
  rw [joinL_one, List.map_map] at this
  exact this
theorem sum_one (l : List Nat) : ((l.map fun c => S [c]).map (·.length)).sum = l.length := by
  induction l with
  | nil => rfl
  | cons a r ih =>
    rw [List.map_cons, List.map_cons, List.sum_cons, ih, List.length_cons, Nat.add_comm]
    rfl
theorem kit_same {K : PySem.W.Frag} {t : Value} : PySem.W.kitOne K t t = some true := by
  unfold PySem.W.kitOne
  rw [if_pos (beq_self_eq_true t)]
/-- what pe_join asks -/
def rJoin (K : PySem.W.Frag) : V → List V → Hp → VK → Prop := fun x xs H Q => ∃ a p, ∃ ys : List Str, x = .str a ∧ xs = [.ref p] ∧ (SqL K H p (ys.map V.str) ∨ SqT K H p (ys.map V.str)) ∧
  (ys.map (·.length)).sum + ys.length * a.length ≤ 16777216 ∧ Q (.str (Txt.join a ys)) H
/-- what [.. for c in z ..] asks, D the new list -/
def LcG (z : List Nat) (i : Nat) (tt : TT) (tE : TE) (σ : L2.St) (vs : List Nat) (H1 : Hp) (D : Addr) (Qd : Hp → Prop) : Prop :=
  ∃ W : Nat → Nat → Hp → Prop, (∃ m, W 0 m (upd H1 D (.lst []))) ∧ ∀ j m H, W j m H →
    ((Its (S z)).stop j H ∧ Qd H) ∨ ((Its (S z)).go j H ∧ ∃ Nx : Hp → Prop, (∀ H', Nx H' → ∃ m', m' < m ∧ W (j + 1) m' H') ∧ ∀ x H', (Its (S z)).yld j H x H' → gName i x (wipe σ vs) H' fun σ2 H2 => wipe σ2 vs = wipe σ vs ∧ tt σ2 H2 fun b H3 =>
      if b = true then tE σ2 H3 fun y H4 => ∃ acc, H4 D = some (.lst acc) ∧ acc.length < sizeLine ∧ Nx (upd H4 D (.lst (acc ++ [y]))) else Nx H3)
/-- ''.join([c for c in z if p(c)]), z a text -/
theorem join_txt (K : PySem.W.Frag) {i : Nat} {tt : TT} {vs : List Nat} {σ : L2.St} {H1 : Hp} {Qd : Addr → Hp → Prop} {z : List Nat} (p : Nat → Bool) (hz : z.length < 16777216) (hi : i < σ.length) (hw : ∀ v, wipe ((wipe σ vs).set i (some v)) vs = wipe σ vs)
    (ht : ∀ c H' (R : Bool → Hp → Prop), c ∈ z → Same H1 H' → (∀ H2, Same H' H2 → R (p c) H2) → tt ((wipe σ vs).set i (some (.str (S [c])))) H' R)
    (hd : ∀ D H' (ys : List Str), Same H1 H' → SqL K H' D (ys.map V.str) → (ys.map (·.length)).sum + ys.length * 0 ≤ 16777216 → Txt.join (S []) ys = S (z.filter p) → Qd D H') :
    ∀ D, H1 D = none → LcG z i tt (tVar i) σ vs H1 D (Qd D) := by
  intro D hD
  refine lc_txt p (fun c => .str (S [c])) hz hD hw ht (fun c H' R _ _ kk => ⟨_, ?_, kk _ (Same.refl _)⟩) fun H' s e => ?_
  · have hl : ∀ vs : List Nat, (wipe σ vs).length = σ.length := wipe_length σ
    rw [List.getElem?_set_self (by rw [hl]; exact hi)]
  · refine hd D H' ((z.filter p).map fun c => S [c]) s (SqL.of (by rw [e, List.map_map]; rfl)) ?_ (join_one _)
    rw [sum_one]
    have := List.length_filter_le p z
    omega
/-- all([p(c) for c in z]), z a text -/
theorem all_txt (K : PySem.W.Frag) {i : Nat} {tE : TE} {vs : List Nat} {σ : L2.St} {H1 : Hp} {Qd : Addr → Hp → Prop} {z : List Nat} (p : Nat → Bool) (hz : z.length < 16777216) (hw : ∀ v, wipe ((wipe σ vs).set i (some v)) vs = wipe σ vs)
    (he : ∀ c H' (R : VK), c ∈ z → Same H1 H' → (∀ H2, Same H' H2 → R (.bl (p c)) H2) → tE ((wipe σ vs).set i (some (.str (S [c])))) H' R)
    (hd : ∀ D H' (bs : List Bool), Same H1 H' → SqL K H' D (bs.map V.bl) → bs.all id = z.all p → Qd D H') :
    ∀ D, H1 D = none → LcG z i tYes tE σ vs H1 D (Qd D) := by
  intro D hD
  refine lc_txt (fun _ => true) (fun c => .bl (p c)) hz hD hw (fun c H' R _ _ kk => kk _ (Same.refl _)) he fun H' s e => ?_
  rw [List.filter_eq_self.mpr fun _ _ => rfl] at e
  refine hd D H' (z.map p) s (SqL.of (by rw [e, List.map_map]; rfl)) ?_
  rw [List.all_map]
  rfl
/-- [c for c in z if p(c)] -/
theorem list_txt {i : Nat} {tt : TT} {vs : List Nat} {σ : L2.St} {H1 : Hp} {Qd : Addr → Hp → Prop} {z : List Nat} (p : Nat → Bool) (hz : z.length < 16777216) (hi : i < σ.length) (hw : ∀ v, wipe ((wipe σ vs).set i (some v)) vs = wipe σ vs)
    (ht : ∀ c H' (R : Bool → Hp → Prop), c ∈ z → Same H1 H' → (∀ H2, Same H' H2 → R (p c) H2) → tt ((wipe σ vs).set i (some (.str (S [c])))) H' R)
    (hd : ∀ D H', Same H1 H' → H1 D = none → H' D = some (.lst ((z.filter p).map fun c => .str (S [c]))) → Qd D H') :
    ∀ D, H1 D = none → LcG z i tt (tVar i) σ vs H1 D (Qd D) := by
  intro D hD
  refine lc_txt p (fun c => .str (S [c])) hz hD hw ht (fun c H' R _ _ kk => ⟨_, ?_, kk _ (Same.refl _)⟩) fun H' s e => hd D H' s hD e
  have hl : ∀ vs : List Nat, (wipe σ vs).length = σ.length := wipe_length σ
  rw [List.getElem?_set_self (by rw [hl]; exact hi)]
end Z

set_option Elab.async false
set_option linter.all false
set_option maxRecDepth 100000
set_option maxHeartbeats 2000000
/-! Lists of ints, of signs, of bools as data, for == of lists. -/
namespace Z
open PySem PySem.Spec PyProof.Rows L2 SX

/-- plain data: no list within -/
def Flat (d : PyData) : Prop := PyData.canLay0 d = true ∧ PyData.depth d = 0
theorem flat_int (i : Int) : Flat (.int i) := by constructor <;> simp [PyData.canLay0, PyData.depth]
theorem flat_bl (b : Bool) : Flat (.bool b) := by constructor <;> simp [PyData.canLay0, PyData.depth]
/-- all signs can be laid -/
def Cp (l : List Nat) : Prop := ∀ c ∈ l, c < 1114112
theorem flat_str {l : List Nat} (h : Cp l) : Flat (.str (S l)) := by
  constructor
  · simp only [PyData.canLay0]
    show (l.toArray).all (fun c => decide (c < 1114112)) = true
    rw [List.all_toArray]
    exact List.all_eq_true.mpr fun c hc => decide_eq_true (h c hc)
  · simp [PyData.depth]
theorem flat_lay : ∀ ds : List PyData, (∀ d ∈ ds, Flat d) → PyData.canLayAll0 ds = true ∧ PyData.depthAll ds = 0
  | [], _ => by constructor <;> simp [PyData.canLayAll0, PyData.depthAll]
  | d :: ds, h => by
    obtain ⟨a, b⟩ := h d List.mem_cons_self
    obtain ⟨c, e⟩ := flat_lay ds fun x hx => h x (List.mem_cons_of_mem _ hx)
    constructor
    · simp [PyData.canLayAll0, a, c]
    · simp [PyData.depthAll, b, e]
theorem shaped_flat {ds : List PyData} (h : ∀ d ∈ ds, Flat d) : SeqAt.shaped (.list ds) = true := by
  obtain ⟨a, b⟩ := flat_lay ds h
  show (PyData.canLay0 (.list ds) && decide (PyData.depth (.list ds) ≤ 64)) = true
  simp only [PyData.canLay0, PyData.depth, a, b]
  decide
theorem dpAll_int {K : PySem.W.Frag} {H : Hp} : ∀ xs : List Int, DpAll K H (xs.map V.int) (xs.map PyData.int)
  | [] => .nil
  | x :: xs => .cons (.int x) (dpAll_int xs)
theorem dpAll_signs {K : PySem.W.Frag} {H : Hp} : ∀ l : List Nat, DpAll K H (l.map fun c => V.str (S [c])) (l.map fun c => PyData.str (S [c]))
  | [] => .nil
  | x :: xs => .cons (.str _) (dpAll_signs xs)
theorem shaped_ints (xs : List Int) : SeqAt.shaped (.list (xs.map PyData.int)) = true := shaped_flat fun d hd => by
  obtain ⟨i, _, rfl⟩ := List.mem_map.mp hd
  exact flat_int i
theorem shaped_signs {l : List Nat} (h : Cp l) : SeqAt.shaped (.list (l.map fun c => PyData.str (S [c]))) = true := shaped_flat fun d hd => by
  obtain ⟨c, hc, rfl⟩ := List.mem_map.mp hd
  exact flat_str fun x hx => by rw [List.mem_singleton.mp hx]; exact h c hc
theorem shaped_nil : SeqAt.shaped (.list []) = true := shaped_flat fun d hd => nomatch hd
theorem eqv_nil (ds : List PyData) : PyData.eqv (.list ds) (.list []) = ds.isEmpty := by
  cases ds <;> simp [PyData.eqv, PyData.eqvAll]
theorem eqv_signs : ∀ a b : List Nat, PyData.eqv (.list (a.map fun c => PyData.str (S [c]))) (.list (b.map fun c => PyData.str (S [c]))) = decide (a = b)
  | [], [] => by simp [PyData.eqv, PyData.eqvAll]
  | [], b :: r => by simp [PyData.eqv, PyData.eqvAll]
  | a :: r, [] => by simp [PyData.eqv, PyData.eqvAll]
  | a :: r, b :: q => by
    have ih := eqv_signs r q
    simp only [PyData.eqv, List.map_cons, PyData.eqvAll] at ih ⊢
    rw [ih, S_beq_eq]
    by_cases h : a = b
    · subst h
      simp
    · simp [h]
/-- xs == [] of ints -/
theorem rd_int_nil {K : PySem.W.Frag} {H : Hp} {p e : Addr} {xs : List Int} {Q : VK} (h1 : H p = some (.lst (xs.map V.int))) (h2 : H e = some (.lst [])) (q : Q (.bl xs.isEmpty) H) : rEqD K (.ref p) (.ref e) H Q := by
  refine ⟨_, _, .lst (SqL.of h1) (dpAll_int xs), .lst (SqL.of h2) .nil, shaped_ints xs, shaped_nil, ?_⟩
  rw [eqv_nil]
  cases xs
  · exact q
  · exact q
/-- .. of signs -/
theorem rd_signs_nil {K : PySem.W.Frag} {H : Hp} {p e : Addr} {l : List Nat} {Q : VK} (hc : Cp l) (h1 : H p = some (.lst (l.map fun c => V.str (S [c])))) (h2 : H e = some (.lst [])) (q : Q (.bl l.isEmpty) H) : rEqD K (.ref p) (.ref e) H Q := by
  refine ⟨_, _, .lst (SqL.of h1) (dpAll_signs l), .lst (SqL.of h2) .nil, shaped_signs hc, shaped_nil, ?_⟩
  rw [eqv_nil]
  cases l
  · exact q
  · exact q
theorem rd_signs_ne {K : PySem.W.Frag} {H : Hp} {p e : Addr} {a b : List Nat} {Q : VK} (ha : Cp a) (hb : Cp b) (h1 : H p = some (.lst (a.map fun c => V.str (S [c])))) (h2 : H e = some (.lst (b.map fun c => V.str (S [c])))) (q : Q (.bl (!decide (a = b))) H) : rNeD K (.ref p) (.ref e) H Q := by
  refine ⟨_, _, .lst (SqL.of h1) (dpAll_signs a), .lst (SqL.of h2) (dpAll_signs b), shaped_signs ha, shaped_signs hb, ?_⟩
  rw [eqv_signs]
  exact q
/-! ### the other side of a comparison -/
theorem other_str {K : PySem.W.Frag} {C : Addr} {z : Str} {H : Hp} (h : PySem.W.notFirst K C (.type "str") = true) : OwnO.Other K C (.str z) H := .inr ⟨_, .str z, h, fun P w hp u _ _ r => by
  obtain ⟨t, rfl⟩ := r
  exact PySem.W.Looks.of_pure rfl⟩
theorem other_int {K : PySem.W.Frag} {C : Addr} {i : Int} {H : Hp} (h : PySem.W.notFirst K C (.type "int") = true) : OwnO.Other K C (.int i) H := .inr ⟨_, .int i, h, fun P w hp u _ _ r => by
  obtain ⟨t, rfl⟩ := r
  exact PySem.W.Looks.of_pure rfl⟩
theorem other_lst {K : PySem.W.Frag} {C l : Addr} {xs : List V} {H : Hp} (e : H l = some (.lst xs)) (h : PySem.W.notFirst K C (.type "list") = true) : OwnO.Other K C (.ref l) H := .inr ⟨_, .lst e, h, fun P w hp u ok _ r => by
  cases r
  obtain ⟨_, its, n, _, ho⟩ := (show ObjOk P w H hp l (.lst xs) from ok l _ e)
  exact fun A Q E s k q => wpAny_typeOf (T := "list") ⟨_, k _ _ ho, rfl⟩ q⟩
end Z

set_option Elab.async false
set_option linter.all false
set_option maxRecDepth 100000
set_option maxHeartbeats 2000000
namespace Z
open PySem PySem.Spec PyProof.Rows L2 SX
section
variable {X : Cx}
/-- an int is no bool -/
theorem op_isIB : OpR X (compareOp .Is) (fun x y H Q => ∃ (i : Int) (b : Bool), x = .int i ∧ y = .bl b ∧ Q (.bl false) H) := by
  intro pins s σ H x y v u Q I rx ry h
  obtain ⟨a, b, rfl, rfl, q⟩ := h
  obtain ⟨t, rfl⟩ := rx
  cases (show u = Value.bool b from ry)
  exact wpAny_is_other rfl (fun z => nomatch z) ⟨.bl false, H, I, rfl, q⟩
theorem op_notIB : OpR X (compareOp .IsNot) (fun x y H Q => ∃ (i : Int) (b : Bool), x = .int i ∧ y = .bl b ∧ Q (.bl true) H) := by
  intro pins s σ H x y v u Q I rx ry h
  obtain ⟨a, b, rfl, rfl, q⟩ := h
  obtain ⟨t, rfl⟩ := rx
  cases (show u = Value.bool b from ry)
  exact wpAny_isNot_other rfl (fun z => nomatch z) ⟨.bl true, H, I, rfl, q⟩
end
end Z

set_option Elab.async false
set_option linter.all false
set_option maxRecDepth 100000
set_option maxHeartbeats 2000000
/-! More of what a head is asked: class methods, class constants, errors that are told apart. -/
namespace MH
open PySem PySem.Spec PyProof.Rows L2

/-- a plain class is read by its name -/
def fRead (x : Str) : Fg → Bool := fun K => PySem.W.readsIn K (He.ga K x) (.type "type") && isV (PySem.W.specialIn K (.ref (He.ga K x)) "__getattribute__") (some (some (.builtin "type.__getattribute__")))
theorem read_of {K : Fg} {x : Str} (c : fRead x K = true) : ClX.CRead K (He.ga K x) (.type "type") := by
  obtain ⟨a, b⟩ := two c
  exact ⟨a, of_decide_eq_true b⟩
/-- x.f is the text z -/
def fText (x f z : Str) : Fg → Bool := fun K => match PySem.W.findCls K (.ref (He.ga K x)) (.type "type") f with
  | some (.val (.str y _)) => decide (y = z)
  | _ => false
theorem text_of {K : Fg} {x f z : Str} (c : fText x f z K = true) : ∃ u, ClX.CVal K (He.ga K x) (.type "type") f (.str z) u := by
  unfold fText at c
  revert c
  split
  · rename_i y t h
    intro c
    obtain rfl := of_decide_eq_true c
    exact ⟨_, h, t, rfl⟩
  · exact fun c => nomatch c
/-- o.f of an instance is the text z of its class -/
def fCMet (x m : Str) : Fg → Bool := fun K => (match PySem.W.findCls K (.ref (He.ga K x)) (.type "type") m with
  | some (.get (.builtin g) (.ref p) .none (.ref C)) => decide (g = "classmethod.__get__") && (decide (p = He.ma K (He.ga K x) m) && decide (C = He.ga K x))
  | _ => false) && ((match PySem.W.recIn K (He.ma K (He.ga K x) m) "classmethod" with
  | some (.ref g :: _) => decide (g = cm x m K)
  | _ => false) && PySem.W.fnIn K (cm x m K))
theorem cmet_of {K : Fg} {x m : Str} (c : fCMet x m K = true) : ClX.CMet K (He.ga K x) (.type "type") m (He.ma K (He.ga K x) m) (cm x m K) := by
  obtain ⟨a, c⟩ := two c
  obtain ⟨b, d⟩ := two c
  refine ⟨?_, ?_, d⟩
  · revert a
    split
    · rename_i g p C h
      intro a
      obtain ⟨a1, a⟩ := two a
      obtain ⟨a2, a3⟩ := two a
      obtain rfl := of_decide_eq_true a1
      obtain rfl := of_decide_eq_true a2
      obtain rfl := of_decide_eq_true a3
      exact h
    · exact fun a => nomatch a
  · revert b
    split
    · rename_i g rest h
      intro b
      obtain rfl := of_decide_eq_true b
      exact ⟨_, h⟩
    · exact fun a => nomatch a
/-- what isinstance asks of a class with dicts -/
def fTyI (x : Str) : Fg → Bool := fun K => isV (PySem.W.findIn K (.ref (He.ga K x)) "__class__") (some (some (.builtin "object.__class__"))) && (isV (PySem.W.specialIn K (.builtin "object.__class__") "__get__") (some (some (.builtin "getset_descriptor.__get__"))) &&
  (decide (PySem.W.takesIn K (.builtin "object.__class__") = some true) && decide (PySem.W.mroIn K (He.ga K x) (.type "object") = some true)))
theorem tyI_of {K : Fg} {x : Str} (c : fTyI x K = true) (cl : Cls K (He.ga K x)) {H : Hp} {a dx : Addr} {fs : List (Str × V)} (e : H a = some (.ins (He.ga K x) dx fs)) : TyX K H (.ref a) (.ref (He.ga K x)) := by
  obtain ⟨a1, c⟩ := two c
  obtain ⟨a2, c⟩ := two c
  obtain ⟨a3, a4⟩ := two c
  exact .base (.ins e cl (of_decide_eq_true a1) (of_decide_eq_true a2) (of_decide_eq_true a3) (of_decide_eq_true a4))
/-- things of the type t are no x -/
def fNotF (x : Str) (t : String) : Fg → Bool := fun K => PySem.W.notFirst K (He.ga K x) (.type t)
/-- an error of class x may be asked for its class -/
def fAsks (x : Str) : Fg → Bool := fun K => isV (PySem.W.findIn K (.ref (He.ga K x)) "__getattribute__") (some (some (.builtin "BaseException.__getattribute__"))) && (isV (PySem.W.findIn K (.ref (He.ga K x)) "__getattr__") (some none) &&
  (decide (PySem.W.subIn K (.ref (He.ga K x)) (.type "BaseException") = some true) && (PySem.W.hasDictIn K (He.ga K x) && (isV (PySem.W.findIn K (.ref (He.ga K x)) "__class__") (some (some (.builtin "object.__class__"))) &&
  (isV (PySem.W.specialIn K (.builtin "object.__class__") "__get__") (some (some (.builtin "getset_descriptor.__get__"))) && (decide (PySem.W.takesIn K (.builtin "object.__class__") = some true) &&
  decide (PySem.W.mroIn K (He.ga K x) (.type "object") = some true)))))))
theorem asks_of {K : Fg} {x : Str} (c : fAsks x K = true) : PySem.W.OwnT.Asks K (He.ga K x) := by
  obtain ⟨a1, c⟩ := two c
  obtain ⟨a2, c⟩ := two c
  obtain ⟨a3, c⟩ := two c
  obtain ⟨a4, c⟩ := two c
  obtain ⟨a5, c⟩ := two c
  obtain ⟨a6, c⟩ := two c
  obtain ⟨a7, a8⟩ := two c
  exact ⟨of_decide_eq_true a1, of_decide_eq_true a2, of_decide_eq_true a3, a4, of_decide_eq_true a5, of_decide_eq_true a6, of_decide_eq_true a7, of_decide_eq_true a8⟩
/-- except y: does it catch an error of class x? -/
def fExm (x : Str) (y : Str) (b : Bool) : Fg → Bool := fun K => decide (PySem.W.exmOne K (.ref (He.ga K x)) (.ref (He.ga K y)) = some b)
/-- isinstance(an x, y) -/
def fKit (x : Str) (y : Str) (b : Bool) : Fg → Bool := fun K => decide (PySem.W.kitOne K (.ref (He.ga K x)) (.ref (He.ga K y)) = some b)
def fKitT (x : Str) (y : String) (b : Bool) : Fg → Bool := fun K => decide (PySem.W.kitOne K (.ref (He.ga K x)) (.type y) = some b)
def fKitB (t : String) (y : Str) (b : Bool) : Fg → Bool := fun K => decide (PySem.W.kitOne K (.type t) (.ref (He.ga K y)) = some b)
def fExmT (x : Str) (y : String) (b : Bool) : Fg → Bool := fun K => decide (PySem.W.exmOne K (.ref (He.ga K x)) (.type y) = some b)
theorem kitB_of {K : Fg} {t : String} {y : Str} {b : Bool} (c : fKitB t y b K = true) : PySem.W.kitOne K (.type t) (.ref (He.ga K y)) = some b := of_decide_eq_true c
theorem exmT_of {K : Fg} {x : Str} {y : String} {b : Bool} (c : fExmT x y b K = true) : PySem.W.exmOne K (.ref (He.ga K x)) (.type y) = some b := of_decide_eq_true c
theorem exm_of {K : Fg} {x y : Str} {b : Bool} (c : fExm x y b K = true) : PySem.W.exmOne K (.ref (He.ga K x)) (.ref (He.ga K y)) = some b := of_decide_eq_true c
theorem kit_of {K : Fg} {x y : Str} {b : Bool} (c : fKit x y b K = true) : PySem.W.kitOne K (.ref (He.ga K x)) (.ref (He.ga K y)) = some b := of_decide_eq_true c
theorem kitT_of {K : Fg} {x : Str} {y : String} {b : Bool} (c : fKitT x y b K = true) : PySem.W.kitOne K (.ref (He.ga K x)) (.type y) = some b := of_decide_eq_true c
end MH

set_option Elab.async false
set_option linter.all false
set_option maxRecDepth 100000
set_option maxHeartbeats 0
namespace K00
open PySem PySem.Spec PyProof.Rows L2
/-! ### the text by places -/
def top (i : Nat) : Stmt := PySem.Challenge.pw_pagebureau_k00_marks_as_sets.main.body.getD i (.Pass ⟨0, 0, 0, 0⟩)
abbrev s_BadMarks_init : Stmt := inClass (top 2) 0
abbrev s_BadText_init : Stmt := inClass (top 3) 0
abbrev s_is_mark : Stmt := top 5
abbrev s_is_marks_text : Stmt := top 6
abbrev s_Marks_init : Stmt := inClass (top 7) 1
abbrev s_Marks_read : Stmt := inClass (top 7) 2
abbrev s_Marks_text : Stmt := inClass (top 7) 3
abbrev s_Marks_len : Stmt := inClass (top 7) 4
abbrev s_Marks_iter : Stmt := inClass (top 7) 5
abbrev s_Marks_bool : Stmt := inClass (top 7) 6
abbrev s_Marks_contains : Stmt := inClass (top 7) 7
abbrev s_Marks_and : Stmt := inClass (top 7) 8
abbrev s_Marks_or : Stmt := inClass (top 7) 9
abbrev s_Marks_sub : Stmt := inClass (top 7) 10
abbrev s_Marks_xor : Stmt := inClass (top 7) 11
abbrev s_Marks_invert : Stmt := inClass (top 7) 12
abbrev s_Marks_le : Stmt := inClass (top 7) 13
abbrev s_Marks_eq : Stmt := inClass (top 7) 14
abbrev s_L_draws : Stmt := top 9
abbrev s_L_draw : Stmt := top 10
abbrev s_L_letters : Stmt := top 11
abbrev s_L_letters_beside : Stmt := top 12
abbrev s_L_char : Stmt := top 13
abbrev s_L_bent : Stmt := top 14
abbrev s_L_set : Stmt := top 15
abbrev s_L_is : Stmt := top 16
abbrev s_L_members : Stmt := top 17
abbrev s_L_results : Stmt := top 18
abbrev s_L_equal : Stmt := top 19
abbrev s_L_made_right : Stmt := top 20
abbrev s_L_read_right : Stmt := top 21
abbrev s_law : Stmt := top 22
theorem sc_BadMarks_init : NdefX.NScope ["self", "given", "__class__"] ["self", "given"] ["__class__"] (defScope s_BadMarks_init) := NdefX.nscope_by (by decide +kernel)
theorem sc_BadText_init : NdefX.NScope ["self", "at", "__class__"] ["self", "at"] ["__class__"] (defScope s_BadText_init) := NdefX.nscope_by (by decide +kernel)
theorem sc_is_mark : FnScope ["thing"] ["thing"] (defScope s_is_mark) := ⟨rfl, rfl, rfl, by decide +kernel, rfl, by decide +kernel, by decide +kernel⟩
theorem sc_is_marks_text : FnScope ["thing", "mark"] ["thing"] (defScope s_is_marks_text) := ⟨rfl, rfl, rfl, by decide +kernel, rfl, by decide +kernel, by decide +kernel⟩
theorem sc_Marks_init : FnScope ["self", "letters", "mark", "letter"] ["self", "letters"] (defScope s_Marks_init) := ⟨rfl, rfl, rfl, by decide +kernel, rfl, by decide +kernel, by decide +kernel⟩
theorem sc_Marks_read : FnScope ["cls", "text"] ["cls", "text"] (defScope s_Marks_read) := ⟨rfl, rfl, rfl, by decide +kernel, rfl, by decide +kernel, by decide +kernel⟩
theorem sc_Marks_text : FnScope ["self"] ["self"] (defScope s_Marks_text) := ⟨rfl, rfl, rfl, by decide +kernel, rfl, by decide +kernel, by decide +kernel⟩
theorem sc_Marks_len : FnScope ["self"] ["self"] (defScope s_Marks_len) := ⟨rfl, rfl, rfl, by decide +kernel, rfl, by decide +kernel, by decide +kernel⟩
theorem sc_Marks_iter : FnScope ["self"] ["self"] (defScope s_Marks_iter) := ⟨rfl, rfl, rfl, by decide +kernel, rfl, by decide +kernel, by decide +kernel⟩
theorem sc_Marks_bool : FnScope ["self"] ["self"] (defScope s_Marks_bool) := ⟨rfl, rfl, rfl, by decide +kernel, rfl, by decide +kernel, by decide +kernel⟩
theorem sc_Marks_contains : FnScope ["self", "x"] ["self", "x"] (defScope s_Marks_contains) := ⟨rfl, rfl, rfl, by decide +kernel, rfl, by decide +kernel, by decide +kernel⟩
theorem sc_Marks_and : FnScope ["self", "other", "mark"] ["self", "other"] (defScope s_Marks_and) := ⟨rfl, rfl, rfl, by decide +kernel, rfl, by decide +kernel, by decide +kernel⟩
theorem sc_Marks_or : FnScope ["self", "other"] ["self", "other"] (defScope s_Marks_or) := ⟨rfl, rfl, rfl, by decide +kernel, rfl, by decide +kernel, by decide +kernel⟩
theorem sc_Marks_sub : FnScope ["self", "other", "mark"] ["self", "other"] (defScope s_Marks_sub) := ⟨rfl, rfl, rfl, by decide +kernel, rfl, by decide +kernel, by decide +kernel⟩
theorem sc_Marks_xor : FnScope ["self", "other"] ["self", "other"] (defScope s_Marks_xor) := ⟨rfl, rfl, rfl, by decide +kernel, rfl, by decide +kernel, by decide +kernel⟩
theorem sc_Marks_invert : FnScope ["self"] ["self"] (defScope s_Marks_invert) := ⟨rfl, rfl, rfl, by decide +kernel, rfl, by decide +kernel, by decide +kernel⟩
theorem sc_Marks_le : FnScope ["self", "other", "mark"] ["self", "other"] (defScope s_Marks_le) := ⟨rfl, rfl, rfl, by decide +kernel, rfl, by decide +kernel, by decide +kernel⟩
theorem sc_Marks_eq : FnScope ["self", "other"] ["self", "other"] (defScope s_Marks_eq) := ⟨rfl, rfl, rfl, by decide +kernel, rfl, by decide +kernel, by decide +kernel⟩
theorem sc_L_draws : FnScope ["_law_script", "_law_pool", "_law_cell", "_law_rest", "_law_k", "_law_once"] ["_law_script"] (defScope s_L_draws) := ⟨rfl, rfl, rfl, by decide +kernel, rfl, by decide +kernel, by decide +kernel⟩
theorem sc_L_draw : FnScope ["_law_pool", "_law_many"] ["_law_pool", "_law_many"] (defScope s_L_draw) := ⟨rfl, rfl, rfl, by decide +kernel, rfl, by decide +kernel, by decide +kernel⟩
theorem sc_L_letters : FnScope ["_law_pool", "_law_many", "_law_k"] ["_law_pool"] (defScope s_L_letters) := ⟨rfl, rfl, rfl, by decide +kernel, rfl, by decide +kernel, by decide +kernel⟩
theorem sc_L_letters_beside : FnScope ["_law_pool", "_law_first", "_law_kind", "_law_mark"] ["_law_pool", "_law_first"] (defScope s_L_letters_beside) := ⟨rfl, rfl, rfl, by decide +kernel, rfl, by decide +kernel, by decide +kernel⟩
theorem sc_L_char : FnScope ["_law_pool", "_law_chars"] ["_law_pool"] (defScope s_L_char) := ⟨rfl, rfl, rfl, by decide +kernel, rfl, by decide +kernel, by decide +kernel⟩
theorem sc_L_bent : FnScope ["_law_pool", "_law_text", "_law_kind", "_law_at", "_law_char_here", "_law_here"] ["_law_pool", "_law_text"] (defScope s_L_bent) := ⟨rfl, rfl, rfl, by decide +kernel, rfl, by decide +kernel, by decide +kernel⟩
theorem sc_L_set : FnScope ["_law_text", "_law_mark"] ["_law_text"] (defScope s_L_set) := ⟨rfl, rfl, rfl, by decide +kernel, rfl, by decide +kernel, by decide +kernel⟩
theorem sc_L_is : FnScope ["_law_marks", "_law_due", "_law_mark"] ["_law_marks", "_law_due"] (defScope s_L_is) := ⟨rfl, rfl, rfl, by decide +kernel, rfl, by decide +kernel, by decide +kernel⟩
theorem sc_L_members : FnScope ["_law_marks", "_law_due", "_law_longer", "_law_mark", "_law_text"] ["_law_marks", "_law_due", "_law_longer"] (defScope s_L_members) := ⟨rfl, rfl, rfl, by decide +kernel, rfl, by decide +kernel, by decide +kernel⟩
theorem sc_L_results : FnScope ["_law_a", "_law_b", "_law_one", "_law_two", "_law_both", "_law_left", "_law_right", "_law_either", "_law_odd", "_law_rest", "_law_rows", "_law_told", "_law_due", "_law_mark"] ["_law_a", "_law_b", "_law_one", "_law_two"] (defScope s_L_results) := ⟨rfl, rfl, rfl, by decide +kernel, rfl, by decide +kernel, by decide +kernel⟩
theorem sc_L_equal : FnScope ["_law_a", "_law_b", "_law_one", "_law_two", "_law_less", "_law_more", "_law_rows", "_law_told", "_law_due", "_law_mark"] ["_law_a", "_law_b", "_law_one", "_law_two"] (defScope s_L_equal) := ⟨rfl, rfl, rfl, by decide +kernel, rfl, by decide +kernel, by decide +kernel⟩
theorem sc_L_made_right : FnScope ["_law_text", "_law_good", "e", "_law_marks", "_law_char_here"] ["_law_text"] (defScope s_L_made_right) := ⟨rfl, rfl, rfl, by decide +kernel, rfl, by decide +kernel, by decide +kernel⟩
theorem sc_L_read_right : FnScope ["_law_text", "_law_due", "_law_good", "e", "_law_marks"] ["_law_text"] (defScope s_L_read_right) := ⟨rfl, rfl, rfl, by decide +kernel, rfl, by decide +kernel, by decide +kernel⟩
theorem sc_law : FnScope ["_law_script", "_law_pool", "_law_first", "_law_second", "_law_a", "_law_b", "_law_one", "_law_two", "_law_plain", "_law_texts", "_law_text"] ["_law_script"] (defScope s_law) := ⟨rfl, rfl, rfl, by decide +kernel, rfl, by decide +kernel, by decide +kernel⟩
/-! ### the defs, for the head -/
def d_BadMarks_init : MH.DefM := ⟨MH.mt "BadMarks" "__init__", "__init__", "BadMarks.__init__", defArgs s_BadMarks_init, defBody s_BadMarks_init, defScope s_BadMarks_init, [], [], ["__class__"]⟩
def d_BadText_init : MH.DefM := ⟨MH.mt "BadText" "__init__", "__init__", "BadText.__init__", defArgs s_BadText_init, defBody s_BadText_init, defScope s_BadText_init, [], [], ["__class__"]⟩
def d_is_mark : MH.DefM := ⟨MH.gl "is_mark", "is_mark", "is_mark", defArgs s_is_mark, defBody s_is_mark, defScope s_is_mark, [], [], []⟩
def d_is_marks_text : MH.DefM := ⟨MH.gl "is_marks_text", "is_marks_text", "is_marks_text", defArgs s_is_marks_text, defBody s_is_marks_text, defScope s_is_marks_text, [], [], []⟩
def d_Marks_init : MH.DefM := ⟨MH.mt "Marks" "__init__", "__init__", "Marks.__init__", defArgs s_Marks_init, defBody s_Marks_init, defScope s_Marks_init, [(.str "")], [], []⟩
def d_Marks_read : MH.DefM := ⟨MH.cm "Marks" "read", "read", "Marks.read", defArgs s_Marks_read, defBody s_Marks_read, defScope s_Marks_read, [], [], []⟩
def d_Marks_text : MH.DefM := ⟨MH.mt "Marks" "text", "text", "Marks.text", defArgs s_Marks_text, defBody s_Marks_text, defScope s_Marks_text, [], [], []⟩
def d_Marks_len : MH.DefM := ⟨MH.mt "Marks" "__len__", "__len__", "Marks.__len__", defArgs s_Marks_len, defBody s_Marks_len, defScope s_Marks_len, [], [], []⟩
def d_Marks_iter : MH.DefM := ⟨MH.mt "Marks" "__iter__", "__iter__", "Marks.__iter__", defArgs s_Marks_iter, defBody s_Marks_iter, defScope s_Marks_iter, [], [], []⟩
def d_Marks_bool : MH.DefM := ⟨MH.mt "Marks" "__bool__", "__bool__", "Marks.__bool__", defArgs s_Marks_bool, defBody s_Marks_bool, defScope s_Marks_bool, [], [], []⟩
def d_Marks_contains : MH.DefM := ⟨MH.mt "Marks" "__contains__", "__contains__", "Marks.__contains__", defArgs s_Marks_contains, defBody s_Marks_contains, defScope s_Marks_contains, [], [], []⟩
def d_Marks_and : MH.DefM := ⟨MH.mt "Marks" "__and__", "__and__", "Marks.__and__", defArgs s_Marks_and, defBody s_Marks_and, defScope s_Marks_and, [], [], []⟩
def d_Marks_or : MH.DefM := ⟨MH.mt "Marks" "__or__", "__or__", "Marks.__or__", defArgs s_Marks_or, defBody s_Marks_or, defScope s_Marks_or, [], [], []⟩
def d_Marks_sub : MH.DefM := ⟨MH.mt "Marks" "__sub__", "__sub__", "Marks.__sub__", defArgs s_Marks_sub, defBody s_Marks_sub, defScope s_Marks_sub, [], [], []⟩
def d_Marks_xor : MH.DefM := ⟨MH.mt "Marks" "__xor__", "__xor__", "Marks.__xor__", defArgs s_Marks_xor, defBody s_Marks_xor, defScope s_Marks_xor, [], [], []⟩
def d_Marks_invert : MH.DefM := ⟨MH.mt "Marks" "__invert__", "__invert__", "Marks.__invert__", defArgs s_Marks_invert, defBody s_Marks_invert, defScope s_Marks_invert, [], [], []⟩
def d_Marks_le : MH.DefM := ⟨MH.mt "Marks" "__le__", "__le__", "Marks.__le__", defArgs s_Marks_le, defBody s_Marks_le, defScope s_Marks_le, [], [], []⟩
def d_Marks_eq : MH.DefM := ⟨MH.mt "Marks" "__eq__", "__eq__", "Marks.__eq__", defArgs s_Marks_eq, defBody s_Marks_eq, defScope s_Marks_eq, [], [], []⟩
def d_L_draws : MH.DefM := ⟨MH.gl "_law_draws", "_law_draws", "_law_draws", defArgs s_L_draws, defBody s_L_draws, defScope s_L_draws, [], [], []⟩
def d_L_draw : MH.DefM := ⟨MH.gl "_law_draw", "_law_draw", "_law_draw", defArgs s_L_draw, defBody s_L_draw, defScope s_L_draw, [], [], []⟩
def d_L_letters : MH.DefM := ⟨MH.gl "_law_letters", "_law_letters", "_law_letters", defArgs s_L_letters, defBody s_L_letters, defScope s_L_letters, [], [], []⟩
def d_L_letters_beside : MH.DefM := ⟨MH.gl "_law_letters_beside", "_law_letters_beside", "_law_letters_beside", defArgs s_L_letters_beside, defBody s_L_letters_beside, defScope s_L_letters_beside, [], [], []⟩
def d_L_char : MH.DefM := ⟨MH.gl "_law_char", "_law_char", "_law_char", defArgs s_L_char, defBody s_L_char, defScope s_L_char, [], [], []⟩
def d_L_bent : MH.DefM := ⟨MH.gl "_law_bent", "_law_bent", "_law_bent", defArgs s_L_bent, defBody s_L_bent, defScope s_L_bent, [], [], []⟩
def d_L_set : MH.DefM := ⟨MH.gl "_law_set", "_law_set", "_law_set", defArgs s_L_set, defBody s_L_set, defScope s_L_set, [], [], []⟩
def d_L_is : MH.DefM := ⟨MH.gl "_law_is", "_law_is", "_law_is", defArgs s_L_is, defBody s_L_is, defScope s_L_is, [], [], []⟩
def d_L_members : MH.DefM := ⟨MH.gl "_law_members", "_law_members", "_law_members", defArgs s_L_members, defBody s_L_members, defScope s_L_members, [], [], []⟩
def d_L_results : MH.DefM := ⟨MH.gl "_law_results", "_law_results", "_law_results", defArgs s_L_results, defBody s_L_results, defScope s_L_results, [], [], []⟩
def d_L_equal : MH.DefM := ⟨MH.gl "_law_equal", "_law_equal", "_law_equal", defArgs s_L_equal, defBody s_L_equal, defScope s_L_equal, [], [], []⟩
def d_L_made_right : MH.DefM := ⟨MH.gl "_law_made_right", "_law_made_right", "_law_made_right", defArgs s_L_made_right, defBody s_L_made_right, defScope s_L_made_right, [], [], []⟩
def d_L_read_right : MH.DefM := ⟨MH.gl "_law_read_right", "_law_read_right", "_law_read_right", defArgs s_L_read_right, defBody s_L_read_right, defScope s_L_read_right, [], [], []⟩
def d_law : MH.DefM := ⟨MH.gl "law", "law", "law", defArgs s_law, defBody s_law, defScope s_law, [], [], []⟩
def fn : List MH.DefM := [d_BadMarks_init, d_BadText_init, d_is_mark, d_is_marks_text, d_Marks_init, d_Marks_read, d_Marks_text, d_Marks_len, d_Marks_iter, d_Marks_bool, d_Marks_contains, d_Marks_and, d_Marks_or, d_Marks_sub, d_Marks_xor, d_Marks_invert, d_Marks_le, d_Marks_eq, d_L_draws, d_L_draw, d_L_letters, d_L_letters_beside, d_L_char, d_L_bent, d_L_set, d_L_is, d_L_members, d_L_results, d_L_equal, d_L_made_right, d_L_read_right, d_law]
/-! ### what the head is asked -/
def ex : List (MH.Fg → Bool) := [
  MH.fFree "super",
  MH.fFree "isinstance",
  MH.fFree "str",
  MH.fFree "len",
  MH.fFree "all",
  MH.fFree "classmethod",
  MH.fFree "iter",
  MH.fFree "bool",
  MH.fFree "NotImplemented",
  MH.fFree "abs",
  MH.fFree "int",
  MH.fFree "range",
  MH.fFree "ValueError",
  MH.fGlo "BadMarks",
  MH.fGlo "BadText",
  MH.fGlo "BureauError",
  MH.fGlo "Marks",
  MH.fGlo "_law_bent",
  MH.fGlo "_law_char",
  MH.fGlo "_law_draw",
  MH.fGlo "_law_draws",
  MH.fGlo "_law_equal",
  MH.fGlo "_law_is",
  MH.fGlo "_law_letters",
  MH.fGlo "_law_letters_beside",
  MH.fGlo "_law_made_right",
  MH.fGlo "_law_members",
  MH.fGlo "_law_read_right",
  MH.fGlo "_law_results",
  MH.fGlo "_law_set",
  MH.fGlo "is_mark",
  MH.fGlo "is_marks_text",
  MH.fGlo "law",
  MH.fCls "Marks",
  MH.fMk "Marks",
  MH.fFirst "Marks",
  MH.fMeth "Marks" "__init__",
  MH.fMeth "Marks" "text",
  MH.fMeth "Marks" "__len__",
  MH.fMeth "Marks" "__iter__",
  MH.fMeth "Marks" "__bool__",
  MH.fMeth "Marks" "__contains__",
  MH.fMeth "Marks" "__and__",
  MH.fMeth "Marks" "__or__",
  MH.fMeth "Marks" "__sub__",
  MH.fMeth "Marks" "__xor__",
  MH.fMeth "Marks" "__invert__",
  MH.fMeth "Marks" "__le__",
  MH.fMeth "Marks" "__eq__",
  MH.fNoAt "Marks" "letters",
  MH.fOex "BureauError",
  MH.fOex "BadMarks",
  MH.fXin "BadMarks" (PySem.Challenge.pw_pagebureau_k00_marks_as_sets.main.file),
  MH.fMeth "BadMarks" "__init__",
  MH.fNoAt "BadMarks" "given",
  MH.fOex "BadText",
  MH.fXin "BadText" (PySem.Challenge.pw_pagebureau_k00_marks_as_sets.main.file),
  MH.fMeth "BadText" "__init__",
  MH.fNoAt "BadText" "at",
  MH.fRead "Marks",
  MH.fTyI "Marks",
  MH.fText "Marks" "ALL" "abcdef",
  MH.fCMet "Marks" "read",
  MH.fNotF "Marks" "str",
  MH.fNotF "Marks" "int",
  MH.fNotF "Marks" "bool",
  MH.fNotF "Marks" "list",
  MH.fNotF "Marks" "tuple",
  MH.fNotF "Marks" "NoneType",
  MH.fAsks "BadMarks",
  MH.fExm "BadMarks" "BureauError" true,
  MH.fKitT "BadMarks" "str" false,
  MH.fKit "BadMarks" "Marks" false,
  MH.fKit "BadMarks" "BadText" false,
  MH.fKitT "BadMarks" "ValueError" true,
  MH.fKit "BadMarks" "BadMarks" true,
  MH.fAsks "BadText",
  MH.fExm "BadText" "BureauError" true,
  MH.fKitT "BadText" "str" false,
  MH.fKit "BadText" "Marks" false,
  MH.fKit "BadText" "BadText" true,
  MH.fKitT "BadText" "ValueError" true,
  MH.fKit "BadText" "BadMarks" false,
  MH.fKitT "Marks" "str" false,
  MH.fKit "Marks" "Marks" true,
  MH.fKitB "str" "Marks" false,
  MH.fKitB "int" "Marks" false,
  MH.fKitB "bool" "Marks" false,
  MH.fKitB "list" "Marks" false,
  MH.fKitB "tuple" "Marks" false,
  MH.fKitB "NoneType" "Marks" false,
  MH.fKitT "Marks" "ValueError" false]
abbrev R : PySem.W.OpenRow := PySem.W.OpenLaw.row PySem.Challenge.rw_pagebureau_k00_marks_as_sets
abbrev hk : PySem.W.Hook := MH.hook 7 ex fn
def ob (s : PySem.W.SharedT) : MH.AlM := MH.obsG 7 ex fn (HandSHeadRun.getT s)
def names : List Str := (["__name__", "BureauError", "BadMarks", "BadText", "is_mark", "is_marks_text", "Marks", "_law_draws", "_law_draw", "_law_letters", "_law_letters_beside", "_law_char"] : List Str) ++ (["_law_bent", "_law_set", "_law_is", "_law_members", "_law_results", "_law_equal", "_law_made_right", "_law_read_right"] : List Str)
abbrev qv : Program := PySem.W.view R.prog [22]
theorem run (w : World) : HandSHeadRun.RunEq R qv hk ob 20000 names w := by
  intro os
  kernel_rfl
end K00

set_option Elab.async false
set_option linter.all false
set_option maxRecDepth 100000
set_option maxHeartbeats 2000000
namespace K00
open PySem PySem.Spec PyProof.Rows L2
/-! ### the facts by name -/
structure Tx (K : PySem.W.Frag) (mg : Str → Option Value) : Prop where
  says : MH.Says ex fn K
  ns : ∃ h, K.In h ∧ h.Ns mainGlobals mg
namespace Tx
variable {K : PySem.W.Frag} {mg : Str → Option Value}
theorem free_super (T : Tx K mg) : mg "super" = none := let ⟨_, X, G⟩ := T.ns; MH.free_of X G (T.says.fact 0)
theorem free_isinstance (T : Tx K mg) : mg "isinstance" = none := let ⟨_, X, G⟩ := T.ns; MH.free_of X G (T.says.fact 1)
theorem free_str (T : Tx K mg) : mg "str" = none := let ⟨_, X, G⟩ := T.ns; MH.free_of X G (T.says.fact 2)
theorem free_len (T : Tx K mg) : mg "len" = none := let ⟨_, X, G⟩ := T.ns; MH.free_of X G (T.says.fact 3)
theorem free_all (T : Tx K mg) : mg "all" = none := let ⟨_, X, G⟩ := T.ns; MH.free_of X G (T.says.fact 4)
theorem free_classmethod (T : Tx K mg) : mg "classmethod" = none := let ⟨_, X, G⟩ := T.ns; MH.free_of X G (T.says.fact 5)
theorem free_iter (T : Tx K mg) : mg "iter" = none := let ⟨_, X, G⟩ := T.ns; MH.free_of X G (T.says.fact 6)
theorem free_bool (T : Tx K mg) : mg "bool" = none := let ⟨_, X, G⟩ := T.ns; MH.free_of X G (T.says.fact 7)
theorem free_NotImplemented (T : Tx K mg) : mg "NotImplemented" = none := let ⟨_, X, G⟩ := T.ns; MH.free_of X G (T.says.fact 8)
theorem free_abs (T : Tx K mg) : mg "abs" = none := let ⟨_, X, G⟩ := T.ns; MH.free_of X G (T.says.fact 9)
theorem free_int (T : Tx K mg) : mg "int" = none := let ⟨_, X, G⟩ := T.ns; MH.free_of X G (T.says.fact 10)
theorem free_range (T : Tx K mg) : mg "range" = none := let ⟨_, X, G⟩ := T.ns; MH.free_of X G (T.says.fact 11)
theorem free_ValueError (T : Tx K mg) : mg "ValueError" = none := let ⟨_, X, G⟩ := T.ns; MH.free_of X G (T.says.fact 12)
theorem g_BadMarks (T : Tx K mg) : mg "BadMarks" = some (.ref (MH.gl "BadMarks" K)) := let ⟨_, X, G⟩ := T.ns; MH.glo_of X G (T.says.fact 13)
theorem g_BadText (T : Tx K mg) : mg "BadText" = some (.ref (MH.gl "BadText" K)) := let ⟨_, X, G⟩ := T.ns; MH.glo_of X G (T.says.fact 14)
theorem g_BureauError (T : Tx K mg) : mg "BureauError" = some (.ref (MH.gl "BureauError" K)) := let ⟨_, X, G⟩ := T.ns; MH.glo_of X G (T.says.fact 15)
theorem g_Marks (T : Tx K mg) : mg "Marks" = some (.ref (MH.gl "Marks" K)) := let ⟨_, X, G⟩ := T.ns; MH.glo_of X G (T.says.fact 16)
theorem g_L_bent (T : Tx K mg) : mg "_law_bent" = some (.ref (MH.gl "_law_bent" K)) := let ⟨_, X, G⟩ := T.ns; MH.glo_of X G (T.says.fact 17)
theorem g_L_char (T : Tx K mg) : mg "_law_char" = some (.ref (MH.gl "_law_char" K)) := let ⟨_, X, G⟩ := T.ns; MH.glo_of X G (T.says.fact 18)
theorem g_L_draw (T : Tx K mg) : mg "_law_draw" = some (.ref (MH.gl "_law_draw" K)) := let ⟨_, X, G⟩ := T.ns; MH.glo_of X G (T.says.fact 19)
theorem g_L_draws (T : Tx K mg) : mg "_law_draws" = some (.ref (MH.gl "_law_draws" K)) := let ⟨_, X, G⟩ := T.ns; MH.glo_of X G (T.says.fact 20)
theorem g_L_equal (T : Tx K mg) : mg "_law_equal" = some (.ref (MH.gl "_law_equal" K)) := let ⟨_, X, G⟩ := T.ns; MH.glo_of X G (T.says.fact 21)
theorem g_L_is (T : Tx K mg) : mg "_law_is" = some (.ref (MH.gl "_law_is" K)) := let ⟨_, X, G⟩ := T.ns; MH.glo_of X G (T.says.fact 22)
theorem g_L_letters (T : Tx K mg) : mg "_law_letters" = some (.ref (MH.gl "_law_letters" K)) := let ⟨_, X, G⟩ := T.ns; MH.glo_of X G (T.says.fact 23)
theorem g_L_letters_beside (T : Tx K mg) : mg "_law_letters_beside" = some (.ref (MH.gl "_law_letters_beside" K)) := let ⟨_, X, G⟩ := T.ns; MH.glo_of X G (T.says.fact 24)
theorem g_L_made_right (T : Tx K mg) : mg "_law_made_right" = some (.ref (MH.gl "_law_made_right" K)) := let ⟨_, X, G⟩ := T.ns; MH.glo_of X G (T.says.fact 25)
theorem g_L_members (T : Tx K mg) : mg "_law_members" = some (.ref (MH.gl "_law_members" K)) := let ⟨_, X, G⟩ := T.ns; MH.glo_of X G (T.says.fact 26)
theorem g_L_read_right (T : Tx K mg) : mg "_law_read_right" = some (.ref (MH.gl "_law_read_right" K)) := let ⟨_, X, G⟩ := T.ns; MH.glo_of X G (T.says.fact 27)
theorem g_L_results (T : Tx K mg) : mg "_law_results" = some (.ref (MH.gl "_law_results" K)) := let ⟨_, X, G⟩ := T.ns; MH.glo_of X G (T.says.fact 28)
theorem g_L_set (T : Tx K mg) : mg "_law_set" = some (.ref (MH.gl "_law_set" K)) := let ⟨_, X, G⟩ := T.ns; MH.glo_of X G (T.says.fact 29)
theorem g_is_mark (T : Tx K mg) : mg "is_mark" = some (.ref (MH.gl "is_mark" K)) := let ⟨_, X, G⟩ := T.ns; MH.glo_of X G (T.says.fact 30)
theorem g_is_marks_text (T : Tx K mg) : mg "is_marks_text" = some (.ref (MH.gl "is_marks_text" K)) := let ⟨_, X, G⟩ := T.ns; MH.glo_of X G (T.says.fact 31)
theorem g_law (T : Tx K mg) : mg "law" = some (.ref (MH.gl "law" K)) := let ⟨_, X, G⟩ := T.ns; MH.glo_of X G (T.says.fact 32)
theorem cl_Marks (T : Tx K mg) : Cls K (MH.gl "Marks" K) := MH.cls_of (T.says.fact 33)
theorem mk_Marks (T : Tx K mg) : Mk K (MH.gl "Marks" K) (MH.mt "Marks" "__init__" K) := MH.mk_of (T.says.fact 34) (T.says.fact 36)
theorem first_Marks (T : Tx K mg) : PySem.W.selfFirst K (MH.gl "Marks" K) = true := (T.says.fact 35)
theorem m_Marks_init (T : Tx K mg) : Meth K (MH.gl "Marks" K) "__init__" (MH.mt "Marks" "__init__" K) := MH.meth_of (T.says.fact 36)
theorem m_Marks_text (T : Tx K mg) : Meth K (MH.gl "Marks" K) "text" (MH.mt "Marks" "text" K) := MH.meth_of (T.says.fact 37)
theorem m_Marks_len (T : Tx K mg) : Meth K (MH.gl "Marks" K) "__len__" (MH.mt "Marks" "__len__" K) := MH.meth_of (T.says.fact 38)
theorem m_Marks_iter (T : Tx K mg) : Meth K (MH.gl "Marks" K) "__iter__" (MH.mt "Marks" "__iter__" K) := MH.meth_of (T.says.fact 39)
theorem m_Marks_bool (T : Tx K mg) : Meth K (MH.gl "Marks" K) "__bool__" (MH.mt "Marks" "__bool__" K) := MH.meth_of (T.says.fact 40)
theorem m_Marks_contains (T : Tx K mg) : Meth K (MH.gl "Marks" K) "__contains__" (MH.mt "Marks" "__contains__" K) := MH.meth_of (T.says.fact 41)
theorem m_Marks_and (T : Tx K mg) : Meth K (MH.gl "Marks" K) "__and__" (MH.mt "Marks" "__and__" K) := MH.meth_of (T.says.fact 42)
theorem m_Marks_or (T : Tx K mg) : Meth K (MH.gl "Marks" K) "__or__" (MH.mt "Marks" "__or__" K) := MH.meth_of (T.says.fact 43)
theorem m_Marks_sub (T : Tx K mg) : Meth K (MH.gl "Marks" K) "__sub__" (MH.mt "Marks" "__sub__" K) := MH.meth_of (T.says.fact 44)
theorem m_Marks_xor (T : Tx K mg) : Meth K (MH.gl "Marks" K) "__xor__" (MH.mt "Marks" "__xor__" K) := MH.meth_of (T.says.fact 45)
theorem m_Marks_invert (T : Tx K mg) : Meth K (MH.gl "Marks" K) "__invert__" (MH.mt "Marks" "__invert__" K) := MH.meth_of (T.says.fact 46)
theorem m_Marks_le (T : Tx K mg) : Meth K (MH.gl "Marks" K) "__le__" (MH.mt "Marks" "__le__" K) := MH.meth_of (T.says.fact 47)
theorem m_Marks_eq (T : Tx K mg) : Meth K (MH.gl "Marks" K) "__eq__" (MH.mt "Marks" "__eq__" K) := MH.meth_of (T.says.fact 48)
theorem na_Marks_letters (T : Tx K mg) : NoAttr K (MH.gl "Marks" K) "letters" := MH.noAt_of (T.says.fact 49)
theorem ox_BureauError (T : Tx K mg) : OexC K (MH.gl "BureauError" K) := MH.oex_of (T.says.fact 50)
theorem ox_BadMarks (T : Tx K mg) : OexC K (MH.gl "BadMarks" K) := MH.oex_of (T.says.fact 51)
theorem m_BadMarks_init (T : Tx K mg) : Meth K (MH.gl "BadMarks" K) "__init__" (MH.mt "BadMarks" "__init__" K) := MH.meth_of (T.says.fact 53)
theorem na_BadMarks_given (T : Tx K mg) : NoAttr K (MH.gl "BadMarks" K) "given" := MH.noAt_of (T.says.fact 54)
theorem ox_BadText (T : Tx K mg) : OexC K (MH.gl "BadText" K) := MH.oex_of (T.says.fact 55)
theorem m_BadText_init (T : Tx K mg) : Meth K (MH.gl "BadText" K) "__init__" (MH.mt "BadText" "__init__" K) := MH.meth_of (T.says.fact 57)
theorem na_BadText_at (T : Tx K mg) : NoAttr K (MH.gl "BadText" K) "at" := MH.noAt_of (T.says.fact 58)
theorem rd_Marks (T : Tx K mg) : ClX.CRead K (MH.gl "Marks" K) (.type "type") := MH.read_of (T.says.fact 59)
theorem ty_Marks (T : Tx K mg) {H : Hp} {a dx : Addr} {fs : List (Str × V)} (e : H a = some (.ins (MH.gl "Marks" K) dx fs)) : TyX K H (.ref a) (.ref (MH.gl "Marks" K)) := MH.tyI_of (T.says.fact 60) T.cl_Marks e
theorem tx_Marks_ALL (T : Tx K mg) : ∃ u, ClX.CVal K (MH.gl "Marks" K) (.type "type") "ALL" (.str "abcdef") u := MH.text_of (T.says.fact 61)
theorem cm_Marks_read (T : Tx K mg) : ClX.CMet K (MH.gl "Marks" K) (.type "type") "read" (He.ma K (He.ga K "Marks") "read") (MH.cm "Marks" "read" K) := MH.cmet_of (T.says.fact 62)
theorem nf_Marks_str (T : Tx K mg) : PySem.W.notFirst K (MH.gl "Marks" K) (.type "str") = true := (T.says.fact 63)
theorem nf_Marks_int (T : Tx K mg) : PySem.W.notFirst K (MH.gl "Marks" K) (.type "int") = true := (T.says.fact 64)
theorem nf_Marks_bool (T : Tx K mg) : PySem.W.notFirst K (MH.gl "Marks" K) (.type "bool") = true := (T.says.fact 65)
theorem nf_Marks_list (T : Tx K mg) : PySem.W.notFirst K (MH.gl "Marks" K) (.type "list") = true := (T.says.fact 66)
theorem nf_Marks_tuple (T : Tx K mg) : PySem.W.notFirst K (MH.gl "Marks" K) (.type "tuple") = true := (T.says.fact 67)
theorem nf_Marks_NoneType (T : Tx K mg) : PySem.W.notFirst K (MH.gl "Marks" K) (.type "NoneType") = true := (T.says.fact 68)
theorem as_BadMarks (T : Tx K mg) : PySem.W.OwnT.Asks K (MH.gl "BadMarks" K) := MH.asks_of (T.says.fact 69)
theorem em_BadMarks_BureauError (T : Tx K mg) : PySem.W.exmOne K (.ref (MH.gl "BadMarks" K)) (.ref (MH.gl "BureauError" K)) = some true := MH.exm_of (T.says.fact 70)
theorem ki_BadMarks_str (T : Tx K mg) : PySem.W.kitOne K (.ref (MH.gl "BadMarks" K)) (.type "str") = some false := MH.kitT_of (T.says.fact 71)
theorem ki_BadMarks_Marks (T : Tx K mg) : PySem.W.kitOne K (.ref (MH.gl "BadMarks" K)) (.ref (MH.gl "Marks" K)) = some false := MH.kit_of (T.says.fact 72)
theorem ki_BadMarks_BadText (T : Tx K mg) : PySem.W.kitOne K (.ref (MH.gl "BadMarks" K)) (.ref (MH.gl "BadText" K)) = some false := MH.kit_of (T.says.fact 73)
theorem ki_BadMarks_ValueError (T : Tx K mg) : PySem.W.kitOne K (.ref (MH.gl "BadMarks" K)) (.type "ValueError") = some true := MH.kitT_of (T.says.fact 74)
theorem ki_BadMarks_BadMarks (T : Tx K mg) : PySem.W.kitOne K (.ref (MH.gl "BadMarks" K)) (.ref (MH.gl "BadMarks" K)) = some true := MH.kit_of (T.says.fact 75)
theorem as_BadText (T : Tx K mg) : PySem.W.OwnT.Asks K (MH.gl "BadText" K) := MH.asks_of (T.says.fact 76)
theorem em_BadText_BureauError (T : Tx K mg) : PySem.W.exmOne K (.ref (MH.gl "BadText" K)) (.ref (MH.gl "BureauError" K)) = some true := MH.exm_of (T.says.fact 77)
theorem ki_BadText_str (T : Tx K mg) : PySem.W.kitOne K (.ref (MH.gl "BadText" K)) (.type "str") = some false := MH.kitT_of (T.says.fact 78)
theorem ki_BadText_Marks (T : Tx K mg) : PySem.W.kitOne K (.ref (MH.gl "BadText" K)) (.ref (MH.gl "Marks" K)) = some false := MH.kit_of (T.says.fact 79)
theorem ki_BadText_BadText (T : Tx K mg) : PySem.W.kitOne K (.ref (MH.gl "BadText" K)) (.ref (MH.gl "BadText" K)) = some true := MH.kit_of (T.says.fact 80)
theorem ki_BadText_ValueError (T : Tx K mg) : PySem.W.kitOne K (.ref (MH.gl "BadText" K)) (.type "ValueError") = some true := MH.kitT_of (T.says.fact 81)
theorem ki_BadText_BadMarks (T : Tx K mg) : PySem.W.kitOne K (.ref (MH.gl "BadText" K)) (.ref (MH.gl "BadMarks" K)) = some false := MH.kit_of (T.says.fact 82)
theorem ki_Marks_str (T : Tx K mg) : PySem.W.kitOne K (.ref (MH.gl "Marks" K)) (.type "str") = some false := MH.kitT_of (T.says.fact 83)
theorem ki_Marks_Marks (T : Tx K mg) : PySem.W.kitOne K (.ref (MH.gl "Marks" K)) (.ref (MH.gl "Marks" K)) = some true := MH.kit_of (T.says.fact 84)
theorem ki_str_Marks (T : Tx K mg) : PySem.W.kitOne K (.type "str") (.ref (MH.gl "Marks" K)) = some false := MH.kitB_of (T.says.fact 85)
theorem ki_int_Marks (T : Tx K mg) : PySem.W.kitOne K (.type "int") (.ref (MH.gl "Marks" K)) = some false := MH.kitB_of (T.says.fact 86)
theorem ki_bool_Marks (T : Tx K mg) : PySem.W.kitOne K (.type "bool") (.ref (MH.gl "Marks" K)) = some false := MH.kitB_of (T.says.fact 87)
theorem ki_list_Marks (T : Tx K mg) : PySem.W.kitOne K (.type "list") (.ref (MH.gl "Marks" K)) = some false := MH.kitB_of (T.says.fact 88)
theorem ki_tuple_Marks (T : Tx K mg) : PySem.W.kitOne K (.type "tuple") (.ref (MH.gl "Marks" K)) = some false := MH.kitB_of (T.says.fact 89)
theorem ki_NoneType_Marks (T : Tx K mg) : PySem.W.kitOne K (.type "NoneType") (.ref (MH.gl "Marks" K)) = some false := MH.kitB_of (T.says.fact 90)
theorem ki_Marks_ValueError (T : Tx K mg) : PySem.W.kitOne K (.ref (MH.gl "Marks" K)) (.type "ValueError") = some false := MH.kitT_of (T.says.fact 91)
theorem xi_BadMarks (T : Tx K mg) : ∃ fd, OwnX.XInit PySem.Challenge.pw_pagebureau_k00_marks_as_sets K mg (MH.gl "BadMarks" K) ((MH.mt "BadMarks" "__init__") K) (MH.codeAt (MH.mt "BadMarks" "__init__") K) (MH.cellOf (MH.mt "BadMarks" "__init__") K) "BadMarks.__init__" s_BadMarks_init fd ∧ ∃ (kV doc pm : Value) (an : Option Addr) (ct : Value), fd = PySem.W.fnX "__init__" "BadMarks.__init__" (defArgs s_BadMarks_init) (defBody s_BadMarks_init) (defScope s_BadMarks_init) [("__class__", MH.cellOf (MH.mt "BadMarks" "__init__") K)] .none kV doc pm an (.ref (MH.codeAt (MH.mt "BadMarks" "__init__") K)) ct := MH.xin_of (d := d_BadMarks_init) (st := s_BadMarks_init) (P := PySem.Challenge.pw_pagebureau_k00_marks_as_sets) (MH.oex_of (T.says.fact 51)) (T.says.fact 52) T.free_super (by decide +kernel) (T.says.raw (d := d_BadMarks_init) 0).1 (T.says.raw (d := d_BadMarks_init) 0).2 rfl rfl rfl rfl rfl rfl rfl
theorem xi_BadText (T : Tx K mg) : ∃ fd, OwnX.XInit PySem.Challenge.pw_pagebureau_k00_marks_as_sets K mg (MH.gl "BadText" K) ((MH.mt "BadText" "__init__") K) (MH.codeAt (MH.mt "BadText" "__init__") K) (MH.cellOf (MH.mt "BadText" "__init__") K) "BadText.__init__" s_BadText_init fd ∧ ∃ (kV doc pm : Value) (an : Option Addr) (ct : Value), fd = PySem.W.fnX "__init__" "BadText.__init__" (defArgs s_BadText_init) (defBody s_BadText_init) (defScope s_BadText_init) [("__class__", MH.cellOf (MH.mt "BadText" "__init__") K)] .none kV doc pm an (.ref (MH.codeAt (MH.mt "BadText" "__init__") K)) ct := MH.xin_of (d := d_BadText_init) (st := s_BadText_init) (P := PySem.Challenge.pw_pagebureau_k00_marks_as_sets) (MH.oex_of (T.says.fact 55)) (T.says.fact 56) T.free_super (by decide +kernel) (T.says.raw (d := d_BadText_init) 1).1 (T.says.raw (d := d_BadText_init) 1).2 rfl rfl rfl rfl rfl rfl rfl
theorem f_is_mark (T : Tx K mg) : ∃ fd, FunD K "is_mark" "is_mark" (defArgs s_is_mark) (defBody s_is_mark) (defScope s_is_mark) [] (d_is_mark.kws K) (MH.gl "is_mark" K) fd := T.says.fun_ (d := d_is_mark) 2
theorem f_is_marks_text (T : Tx K mg) : ∃ fd, FunD K "is_marks_text" "is_marks_text" (defArgs s_is_marks_text) (defBody s_is_marks_text) (defScope s_is_marks_text) [] (d_is_marks_text.kws K) (MH.gl "is_marks_text" K) fd := T.says.fun_ (d := d_is_marks_text) 3
theorem f_Marks_init (T : Tx K mg) : ∃ fd, FunD K "__init__" "Marks.__init__" (defArgs s_Marks_init) (defBody s_Marks_init) (defScope s_Marks_init) [(.str "")] (d_Marks_init.kws K) (MH.mt "Marks" "__init__" K) fd := T.says.fun_ (d := d_Marks_init) 4
theorem f_Marks_read (T : Tx K mg) : ∃ fd, FunD K "read" "Marks.read" (defArgs s_Marks_read) (defBody s_Marks_read) (defScope s_Marks_read) [] (d_Marks_read.kws K) (MH.cm "Marks" "read" K) fd := T.says.fun_ (d := d_Marks_read) 5
theorem f_Marks_text (T : Tx K mg) : ∃ fd, FunD K "text" "Marks.text" (defArgs s_Marks_text) (defBody s_Marks_text) (defScope s_Marks_text) [] (d_Marks_text.kws K) (MH.mt "Marks" "text" K) fd := T.says.fun_ (d := d_Marks_text) 6
theorem f_Marks_len (T : Tx K mg) : ∃ fd, FunD K "__len__" "Marks.__len__" (defArgs s_Marks_len) (defBody s_Marks_len) (defScope s_Marks_len) [] (d_Marks_len.kws K) (MH.mt "Marks" "__len__" K) fd := T.says.fun_ (d := d_Marks_len) 7
theorem f_Marks_iter (T : Tx K mg) : ∃ fd, FunD K "__iter__" "Marks.__iter__" (defArgs s_Marks_iter) (defBody s_Marks_iter) (defScope s_Marks_iter) [] (d_Marks_iter.kws K) (MH.mt "Marks" "__iter__" K) fd := T.says.fun_ (d := d_Marks_iter) 8
theorem f_Marks_bool (T : Tx K mg) : ∃ fd, FunD K "__bool__" "Marks.__bool__" (defArgs s_Marks_bool) (defBody s_Marks_bool) (defScope s_Marks_bool) [] (d_Marks_bool.kws K) (MH.mt "Marks" "__bool__" K) fd := T.says.fun_ (d := d_Marks_bool) 9
theorem f_Marks_contains (T : Tx K mg) : ∃ fd, FunD K "__contains__" "Marks.__contains__" (defArgs s_Marks_contains) (defBody s_Marks_contains) (defScope s_Marks_contains) [] (d_Marks_contains.kws K) (MH.mt "Marks" "__contains__" K) fd := T.says.fun_ (d := d_Marks_contains) 10
theorem f_Marks_and (T : Tx K mg) : ∃ fd, FunD K "__and__" "Marks.__and__" (defArgs s_Marks_and) (defBody s_Marks_and) (defScope s_Marks_and) [] (d_Marks_and.kws K) (MH.mt "Marks" "__and__" K) fd := T.says.fun_ (d := d_Marks_and) 11
theorem f_Marks_or (T : Tx K mg) : ∃ fd, FunD K "__or__" "Marks.__or__" (defArgs s_Marks_or) (defBody s_Marks_or) (defScope s_Marks_or) [] (d_Marks_or.kws K) (MH.mt "Marks" "__or__" K) fd := T.says.fun_ (d := d_Marks_or) 12
theorem f_Marks_sub (T : Tx K mg) : ∃ fd, FunD K "__sub__" "Marks.__sub__" (defArgs s_Marks_sub) (defBody s_Marks_sub) (defScope s_Marks_sub) [] (d_Marks_sub.kws K) (MH.mt "Marks" "__sub__" K) fd := T.says.fun_ (d := d_Marks_sub) 13
theorem f_Marks_xor (T : Tx K mg) : ∃ fd, FunD K "__xor__" "Marks.__xor__" (defArgs s_Marks_xor) (defBody s_Marks_xor) (defScope s_Marks_xor) [] (d_Marks_xor.kws K) (MH.mt "Marks" "__xor__" K) fd := T.says.fun_ (d := d_Marks_xor) 14
theorem f_Marks_invert (T : Tx K mg) : ∃ fd, FunD K "__invert__" "Marks.__invert__" (defArgs s_Marks_invert) (defBody s_Marks_invert) (defScope s_Marks_invert) [] (d_Marks_invert.kws K) (MH.mt "Marks" "__invert__" K) fd := T.says.fun_ (d := d_Marks_invert) 15
theorem f_Marks_le (T : Tx K mg) : ∃ fd, FunD K "__le__" "Marks.__le__" (defArgs s_Marks_le) (defBody s_Marks_le) (defScope s_Marks_le) [] (d_Marks_le.kws K) (MH.mt "Marks" "__le__" K) fd := T.says.fun_ (d := d_Marks_le) 16
theorem f_Marks_eq (T : Tx K mg) : ∃ fd, FunD K "__eq__" "Marks.__eq__" (defArgs s_Marks_eq) (defBody s_Marks_eq) (defScope s_Marks_eq) [] (d_Marks_eq.kws K) (MH.mt "Marks" "__eq__" K) fd := T.says.fun_ (d := d_Marks_eq) 17
theorem f_L_draws (T : Tx K mg) : ∃ fd, FunD K "_law_draws" "_law_draws" (defArgs s_L_draws) (defBody s_L_draws) (defScope s_L_draws) [] (d_L_draws.kws K) (MH.gl "_law_draws" K) fd := T.says.fun_ (d := d_L_draws) 18
theorem f_L_draw (T : Tx K mg) : ∃ fd, FunD K "_law_draw" "_law_draw" (defArgs s_L_draw) (defBody s_L_draw) (defScope s_L_draw) [] (d_L_draw.kws K) (MH.gl "_law_draw" K) fd := T.says.fun_ (d := d_L_draw) 19
theorem f_L_letters (T : Tx K mg) : ∃ fd, FunD K "_law_letters" "_law_letters" (defArgs s_L_letters) (defBody s_L_letters) (defScope s_L_letters) [] (d_L_letters.kws K) (MH.gl "_law_letters" K) fd := T.says.fun_ (d := d_L_letters) 20
theorem f_L_letters_beside (T : Tx K mg) : ∃ fd, FunD K "_law_letters_beside" "_law_letters_beside" (defArgs s_L_letters_beside) (defBody s_L_letters_beside) (defScope s_L_letters_beside) [] (d_L_letters_beside.kws K) (MH.gl "_law_letters_beside" K) fd := T.says.fun_ (d := d_L_letters_beside) 21
theorem f_L_char (T : Tx K mg) : ∃ fd, FunD K "_law_char" "_law_char" (defArgs s_L_char) (defBody s_L_char) (defScope s_L_char) [] (d_L_char.kws K) (MH.gl "_law_char" K) fd := T.says.fun_ (d := d_L_char) 22
theorem f_L_bent (T : Tx K mg) : ∃ fd, FunD K "_law_bent" "_law_bent" (defArgs s_L_bent) (defBody s_L_bent) (defScope s_L_bent) [] (d_L_bent.kws K) (MH.gl "_law_bent" K) fd := T.says.fun_ (d := d_L_bent) 23
theorem f_L_set (T : Tx K mg) : ∃ fd, FunD K "_law_set" "_law_set" (defArgs s_L_set) (defBody s_L_set) (defScope s_L_set) [] (d_L_set.kws K) (MH.gl "_law_set" K) fd := T.says.fun_ (d := d_L_set) 24
theorem f_L_is (T : Tx K mg) : ∃ fd, FunD K "_law_is" "_law_is" (defArgs s_L_is) (defBody s_L_is) (defScope s_L_is) [] (d_L_is.kws K) (MH.gl "_law_is" K) fd := T.says.fun_ (d := d_L_is) 25
theorem f_L_members (T : Tx K mg) : ∃ fd, FunD K "_law_members" "_law_members" (defArgs s_L_members) (defBody s_L_members) (defScope s_L_members) [] (d_L_members.kws K) (MH.gl "_law_members" K) fd := T.says.fun_ (d := d_L_members) 26
theorem f_L_results (T : Tx K mg) : ∃ fd, FunD K "_law_results" "_law_results" (defArgs s_L_results) (defBody s_L_results) (defScope s_L_results) [] (d_L_results.kws K) (MH.gl "_law_results" K) fd := T.says.fun_ (d := d_L_results) 27
theorem f_L_equal (T : Tx K mg) : ∃ fd, FunD K "_law_equal" "_law_equal" (defArgs s_L_equal) (defBody s_L_equal) (defScope s_L_equal) [] (d_L_equal.kws K) (MH.gl "_law_equal" K) fd := T.says.fun_ (d := d_L_equal) 28
theorem f_L_made_right (T : Tx K mg) : ∃ fd, FunD K "_law_made_right" "_law_made_right" (defArgs s_L_made_right) (defBody s_L_made_right) (defScope s_L_made_right) [] (d_L_made_right.kws K) (MH.gl "_law_made_right" K) fd := T.says.fun_ (d := d_L_made_right) 29
theorem f_L_read_right (T : Tx K mg) : ∃ fd, FunD K "_law_read_right" "_law_read_right" (defArgs s_L_read_right) (defBody s_L_read_right) (defScope s_L_read_right) [] (d_L_read_right.kws K) (MH.gl "_law_read_right" K) fd := T.says.fun_ (d := d_L_read_right) 30
theorem f_law (T : Tx K mg) : ∃ fd, FunD K "law" "law" (defArgs s_law) (defBody s_law) (defScope s_law) [] (d_law.kws K) (MH.gl "law" K) fd := T.says.fun_ (d := d_law) 31
end Tx
end K00

set_option Elab.async false
set_option linter.all false
set_option maxRecDepth 100000
set_option maxHeartbeats 2000000
namespace K00
open PySem PySem.Spec PyProof.Rows L2 SX Z
abbrev P : Program := PySem.Challenge.pw_pagebureau_k00_marks_as_sets
/-! ### what is said -/
abbrev cM (K : PySem.W.Frag) : Addr := MH.gl "Marks" K
abbrev cBM (K : PySem.W.Frag) : Addr := MH.gl "BadMarks" K
abbrev cBT (K : PySem.W.Frag) : Addr := MH.gl "BadText" K
def AL : List Nat := [97, 98, 99, 100, 101, 102]
def setOf (l : List Nat) : List Nat := AL.filter fun c => decide (c ∈ l)
def isM (l : List Nat) : Bool := match l with
  | [c] => decide (c ∈ AL)
  | _ => false
def allM (l : List Nat) : Bool := l.all fun c => decide (c ∈ AL)
def txt (l : List Nat) : List Nat := if l = [] then [45] else l
/-- a Marks with the letters l -/
def MkAt (K : PySem.W.Frag) (H : Hp) (a : Addr) (l : List Nat) : Prop := ∃ dx, H a = some (.ins (cM K) dx [(("letters" : Str), .str (S l))])
theorem MkAt.to {K : PySem.W.Frag} {H H' : Hp} {a : Addr} {l : List Nat} (m : MkAt K H a l) (s : Same H H') : MkAt K H' a l := let ⟨dx, e⟩ := m; ⟨dx, s _ _ e⟩

def spErr (C : Addr) (f : Str) : Sp := fun vs H Q E => ∃ a v, vs = [.ref a, v] ∧ H a = some (exo a C none) ∧ ∀ d, H d = none → d ≠ a → Q .non (upd (upd H d (exd d [(f, v)])) a (exo a C (some d)))
def spIsMark : Sp := fun vs H Q E => ∃ l, vs = [.str (S l)] ∧ l.length ≤ 16777216 ∧ Q (.bl (isM l)) H
def spInit (K : PySem.W.Frag) : Sp := fun vs H Q E => ∃ a dx l, vs = [.ref a, .str (S l)] ∧ H a = some (.ins (cM K) dx []) ∧ l.length < sizeLine ∧
  (allM l = true → ∀ H', But a H H' → MkAt K H' a (setOf l) → Q .non H') ∧
  (allM l = false → ∀ d H', Same H H' → H' d = some (.xd [(("given" : Str), .str (S l))]) → E (.ref (cBM K)) (some d) H')
section
variable {w : World} {K : PySem.W.Frag} {mg : Str → Option Value} {base : Heap}
/-! ### the defs -/
theorem Tx.all (T : Tx K mg) : ∃ u, ClX.CVal K (cM K) (.type "type") "ALL" (.str (S AL)) u := by
  obtain ⟨u, hu⟩ := T.tx_Marks_ALL
  have e : ("abcdef" : Str) = S AL := by decide +kernel
  rw [← e]
  exact ⟨u, hu⟩
theorem ok_BadMarks_init (T : Tx K mg) : Ok P w K mg base CX0 1 (MH.mt "BadMarks" "__init__" K) (spErr (cBM K) "given") [] := by
  obtain ⟨fd, X, kV, doc, pm, an, ct, rfl⟩ := T.xi_BadMarks
  refine ⟨⟨_, ["self", "given"], [], OwnX.fn_xinit (k := 0) X sc_BadMarks_init (.all fun us hl => match us, hl with | [_, _], _ => rfl) rfl ⟨_, fun env => rfl⟩ rfl rfl (by decide +kernel) ?_ ?_ ?_, .all fun us hl => match us, hl with | [_, _], _ => rfl, .nil⟩, T.m_BadMarks_init.kp⟩
  · rintro vs H Q E ⟨a, v, rfl, _⟩
    rfl
  · rintro vs H Q E ⟨a, v, rfl, h, _⟩
    exact ⟨a, _, rfl, h⟩
  · rintro A o s H vs Q E ⟨a, v, rfl, h, k⟩
    refine ⟨_, ((pss_one (ps_ost (pv 0) (pv 1)))), ?_⟩
    exact ⟨_, rfl, _, rfl, a, cBM K, rfl, T.ox_BadMarks, T.na_BadMarks_given, .inl ⟨h, fun d hd hn => k d hd hn⟩⟩
theorem ok_BadText_init (T : Tx K mg) : Ok P w K mg base CX0 1 (MH.mt "BadText" "__init__" K) (spErr (cBT K) "at") [] := by
  obtain ⟨fd, X, kV, doc, pm, an, ct, rfl⟩ := T.xi_BadText
  refine ⟨⟨_, ["self", "at"], [], OwnX.fn_xinit (k := 0) X sc_BadText_init (.all fun us hl => match us, hl with | [_, _], _ => rfl) rfl ⟨_, fun env => rfl⟩ rfl rfl (by decide +kernel) ?_ ?_ ?_, .all fun us hl => match us, hl with | [_, _], _ => rfl, .nil⟩, T.m_BadText_init.kp⟩
  · rintro vs H Q E ⟨a, v, rfl, _⟩
    rfl
  · rintro vs H Q E ⟨a, v, rfl, h, _⟩
    exact ⟨a, _, rfl, h⟩
  · rintro A o s H vs Q E ⟨a, v, rfl, h, k⟩
    refine ⟨_, ((pss_one (ps_ost (pv 0) (pv 1)))), ?_⟩
    exact ⟨_, rfl, _, rfl, a, cBT K, rfl, T.ox_BadText, T.na_BadText_at, .inl ⟨h, fun d hd hn => k d hd hn⟩⟩
theorem ok_is_mark (T : Tx K mg) : Ok P w K mg base CX0 1 (MH.gl "is_mark" K) spIsMark [] := by
  obtain ⟨fd, F⟩ := T.f_is_mark
  refine ok_of F (F.ok sc_is_mark ?_ ?_) fun _ _ _ _ _ _ us hl => match us, hl with | [_], _ => rfl
  · rintro vs H Q E ⟨l, rfl, _⟩
    rfl
  · rintro cdv A outer s H vs Q E hr ⟨l, rfl, hz, k⟩
    refine ⟨_, ((pss_one (ps_ret (pe_and (pe_callB call_isi (by rfl) T.free_isinstance (by decide +kernel) (pa_cons (pv 0) (pa_cons (pe_bltn (v := .ty "str") (u := .type "str") rfl T.free_str (by decide +kernel) rfl) pa_nil))) (pe_and (pe_cmpR op_eq (pe_callB call_len_str (by rfl) T.free_len (by decide +kernel) (pa_cons (pv 0) pa_nil)) pe_int (nomark _)) (pe_one (pe_cmpR op_in_sign (pv 0) (ClX.pe_cval (pe_glob (v := .ref (MH.gl "Marks" _)) rfl T.g_Marks rfl)) (by rfl)))))))), ?_⟩
    obtain ⟨u, hu⟩ := T.tx_Marks_ALL
    refine ⟨_, rfl, _, _, _, _, true, rfl, .ty _, .base (.str _), kit_same, true, rfl, ?_⟩
    refine ⟨_, rfl, _, rfl, by rw [S_len]; exact hz, rfl, _, rfl, ?_⟩
    by_cases h1 : l.length = 1
    · obtain ⟨c, rfl⟩ := List.length_eq_one_iff.mp h1
      refine ⟨_, rfl, _, _, _, _, rfl, T.rd_Marks, hu, c, _, rfl, rfl, ?_⟩
      exact k
    · have e : decide (V.int ((S l).length : Nat) = V.int 1) = false := decide_eq_false fun q => h1 (by
        rw [S_len] at q
        exact Int.ofNat_inj.mp (V.int.inj q))
      rw [e]
      have e2 : isM l = false := by
        unfold isM
        split
        · exact absurd rfl h1
        · rfl
      rw [e2] at k
      exact k
/-- Marks(letters) -/
theorem ok_Marks_init0 (T : Tx K mg) : FnOk P w K mg base (L2.CX P w) 3 (MH.mt "Marks" "__init__" K) (Classical.choose T.f_Marks_init) ["self", "letters"] (spInit K) := by
  have F := Classical.choose_spec T.f_Marks_init
  refine F.ok sc_Marks_init ?_ ?_
  · rintro vs H Q E ⟨a, dx, l, rfl, _⟩
    rfl
  · rintro cdv A outer s H vs Q E hr ⟨a, dx, l, rfl, ha, hz, hy, hn⟩
    refine ⟨_, ((pss_cons (ps_if (pt_not (pt_val (pe_callB (cr_all rfl) (by rfl) T.free_all (by decide +kernel) (pa_cons (pe_lc (own := [("letter", 3)]) (g := gName 3) (tt := tYes) rfl sc_Marks_init.nd (pi_str (pv 1)) (blkOk_by (own := [("letter", 3)]) (N := ["self", "letters", "mark", "letter"]) (sc := defScope s_Marks_init) (by decide +kernel)) (fun _ _ _ _ _ => (pg_name (i := 3) sc_Marks_init.nd rfl (Or.inl rfl))) (fun _ _ _ _ _ => pts_nil) (fun _ _ _ _ _ => (Z.pe_f (ok_is_mark T) hr T.g_is_mark pass0 (pa_cons (pv 3) pa_nil)))) pa_nil))))
    (pss_one (ps_raise rfl (takes_of rfl rfl rfl rfl) (Z.pmk T.ox_BadMarks T.m_BadMarks_init (Z.fn_type T.m_BadMarks_init.fn) (ok_BadMarks_init T) (hr.mono (by decide)) pass0 T.g_BadMarks (pa_cons (pv 1) pa_nil))))
    pss_nil)
  (pss_one (ps_fld (pv 0) (pe_join pe_str (pe_lc (own := [("mark", 2)]) (g := gName 2) rfl sc_Marks_init.nd (pi_str (ClX.pe_cval (pe_glob (v := .ref (MH.gl "Marks" _)) rfl T.g_Marks rfl))) (blkOk_by (own := [("mark", 2)]) (N := ["self", "letters", "mark", "letter"]) (sc := defScope s_Marks_init) (by decide +kernel)) (fun _ _ _ _ _ => (pg_name (i := 2) sc_Marks_init.nd rfl (Or.inl rfl))) (fun _ _ _ _ _ => (pts_one (pt_cmpR op_in_sign (pv 2) (pv 1) (by rfl)))) (fun _ _ _ _ _ => (pv 2)))) rfl)))), ?_⟩
    obtain ⟨u, hu⟩ := T.all
    refine ⟨_, rfl, _, rfl, all_txt K (fun c => decide (c ∈ AL)) hz (fun _ => rfl) (fun c H' R _ _ kk => ⟨_, rfl, [c], rfl, (Nat.le_of_ble_eq_true rfl), kk _ (Same.refl _)⟩) fun D1 H1 bs s1 hb eb => ⟨D1, bs, rfl, hb, _, rfl, ?_⟩⟩
    rw [eb]
    rcases h : allM l with _ | _
    · rw [show (l.all fun c => decide (c ∈ AL)) = false from h]
      refine ⟨_, rfl, (Nat.le_of_ble_eq_true rfl), fun a0 h0 => ⟨a0, _, rfl, upd_same, fun d hd hne => ⟨rfl, d, _, upd_same, (upd_ne hne).trans upd_same, (free_put hd).2, hn h d _ (same_err s1 h0 hd) upd_same⟩⟩⟩
    · rw [show (l.all fun c => decide (c ∈ AL)) = true from h]
      refine ⟨⟨_, rfl⟩, _, _, _, _, rfl, T.rd_Marks, hu, _, rfl, join_txt K (z := AL) (fun c => decide (c ∈ l)) (Nat.le_of_ble_eq_true rfl) (Nat.le_of_ble_eq_true rfl) (fun _ => rfl) (fun c H' R _ _ kk => ⟨_, rfl, _, rfl, c, S l, rfl, rfl, _, rfl, kk _ (Same.refl _)⟩) fun D2 H2 ys s2 h2 h3 h4 => ⟨_, D2, ys, rfl, rfl, .inl h2, h3, ?_⟩⟩
      rw [show Txt.join ("" : Str) ys = S (setOf l) from h4]
      have s := s1.trans s2
      refine ⟨_, rfl, a, _, dx, [], rfl, s _ _ ha, T.cl_Marks, T.na_Marks_letters, (Nat.le_of_ble_eq_true rfl), ?_⟩
      exact hy h _ (But.put (But.of s)) ⟨dx, upd_same⟩
end
end K00

set_option Elab.async false
set_option linter.all false
set_option maxRecDepth 100000
set_option maxHeartbeats 2000000
namespace K00
open PySem PySem.Spec PyProof.Rows L2 SX Z
theorem lk1 {f : Str} {v : V} : ([(f, v)] : List (Str × V)).lookup f = some v := by simp [List.lookup]
theorem AL_len (f : Nat → Bool) : (AL.filter f).length ≤ 6 := List.length_filter_le f AL
theorem AL_setOf (f : Nat → Bool) : setOf (AL.filter f) = AL.filter f := by
  unfold setOf
  refine List.filter_congr fun c hc => ?_
  rw [Bool.eq_iff_iff, decide_eq_true_iff, List.mem_filter]
  exact ⟨fun h => h.2, fun h => ⟨hc, h⟩⟩
theorem AL_all (f : Nat → Bool) (g : Nat → Bool) : allM ((AL.filter f).filter g) = true := List.all_eq_true.mpr fun c hc => decide_eq_true (List.mem_filter.mp (List.mem_filter.mp hc).1).1
theorem bne0 (l : List Nat) : (((S l).length : Int) != 0) = !l.isEmpty := by
  rw [S_len]
  cases l with
  | nil => rfl
  | cons a r =>
    show _ = true
    rw [bne_iff_ne]
    simp only [List.length_cons]
    omega
theorem AL_all2 (f g : Nat → Bool) : allM (AL.filter f ++ AL.filter g) = true := List.all_eq_true.mpr fun c hc => by
  rcases List.mem_append.mp hc with h | h
  · exact decide_eq_true (List.mem_filter.mp h).1
  · exact decide_eq_true (List.mem_filter.mp h).1
theorem AL_in {f : Nat → Bool} {c : Nat} (hc : c ∈ AL) : decide (c ∈ AL.filter f) = f c := by
  rw [Bool.eq_iff_iff, decide_eq_true_iff, List.mem_filter]
  exact ⟨fun h => h.2, fun h => ⟨hc, h⟩⟩
theorem AL_and (f g : Nat → Bool) : setOf ((AL.filter f).filter fun c => decide (c ∈ AL.filter g)) = AL.filter fun c => f c && g c := by
  rw [List.filter_filter, AL_setOf]
  refine List.filter_congr fun c hc => ?_
  rw [AL_in hc, Bool.and_comm]
theorem AL_sub (f g : Nat → Bool) : setOf ((AL.filter f).filter fun c => !decide (c ∈ AL.filter g)) = AL.filter fun c => f c && !g c := by
  rw [List.filter_filter, AL_setOf]
  refine List.filter_congr fun c hc => ?_
  rw [AL_in hc, Bool.and_comm]
theorem AL_or (f g : Nat → Bool) : setOf (AL.filter f ++ AL.filter g) = AL.filter fun c => f c || g c := by
  unfold setOf
  refine List.filter_congr fun c hc => ?_
  rw [Bool.eq_iff_iff, decide_eq_true_iff, List.mem_append, List.mem_filter, List.mem_filter, Bool.or_eq_true]
  exact ⟨fun h => h.imp (·.2) (·.2), fun h => h.imp (⟨hc, ·⟩) (⟨hc, ·⟩)⟩
/-- a Marks with the letters for which f says yes -/
abbrev MkF (K : PySem.W.Frag) (H : Hp) (a : Addr) (f : Nat → Bool) : Prop := MkAt K H a (AL.filter f)
def spText (K : PySem.W.Frag) : Sp := fun vs H Q E => ∃ a f, vs = [.ref a] ∧ MkF K H a f ∧ Q (.str (S (txt (AL.filter f)))) H
def spLen (K : PySem.W.Frag) : Sp := fun vs H Q E => ∃ a f, vs = [.ref a] ∧ MkF K H a f ∧ Q (.int ((AL.filter f).length : Nat)) H
def spBool (K : PySem.W.Frag) : Sp := fun vs H Q E => ∃ a f, vs = [.ref a] ∧ MkF K H a f ∧ Q (.bl (!(AL.filter f).isEmpty)) H
def isIn (x l : List Nat) : Bool := match x with
  | [c] => decide (c ∈ AL) && decide (c ∈ l)
  | _ => false
def spContains (K : PySem.W.Frag) : Sp := fun vs H Q E => ∃ a f x, vs = [.ref a, .str (S x)] ∧ MkF K H a f ∧ x.length ≤ 16777216 ∧ Q (.bl (isIn x (AL.filter f))) H
def spTwo (K : PySem.W.Frag) (op : Bool → Bool → Bool) : Sp := fun vs H Q E => ∃ a b f g, vs = [.ref a, .ref b] ∧ MkF K H a f ∧ MkF K H b g ∧ ∀ p H', Same H H' → H p = none → MkF K H' p (fun c => op (f c) (g c)) → Q (.ref p) H'
def spInv (K : PySem.W.Frag) : Sp := fun vs H Q E => ∃ a f, vs = [.ref a] ∧ MkF K H a f ∧ ∀ p H', Same H H' → H p = none → MkF K H' p (fun c => !f c) → Q (.ref p) H'
theorem made {H H1 H2 : Hp} {p d : Addr} {o1 o2 : HO} (s : Same H H1) (hp : H1 p = none) (hd : H1 d = none) (b : But p (upd (upd H1 d o1) p o2) H2) : Same H H2 := fun x u e => by
  have e1 := s _ _ e
  have n1 := ne_of_none e1 hp
  exact b x u n1 (by rw [upd_ne n1, upd_ne (ne_of_none e1 hd)]; exact e1)
/-- Marks(l), where l has marks alone -/
theorem mk_read {K : PySem.W.Frag} {H H1 : Hp} {l : List Nat} {Q : VK} {E : XK} (s : Same H H1) (hl : l.length < 16777216) (ha : allM l = true) (k : ∀ p H', Same H H' → H p = none → MkAt K H' p (setOf l) → Q (.ref p) H') (x dx : Addr) (hx : H1 x = none) (hd : H1 dx = none) (_ : dx ≠ x) :
    spInit K (.ref x :: ([.str (S l)] ++ [])) (upd (upd H1 dx (.own x)) x (.ins (cM K) dx [])) (fun v H2 => v = .non ∧ Q (.ref x) H2) E :=
  ⟨x, dx, l, rfl, upd_same, hl, fun _ H2 b m => ⟨rfl, k x H2 (made s hx hd b) (s.free hx) m⟩, fun e => by rw [ha] at e; cases e⟩
theorem mk_at {K : PySem.W.Frag} {H H1 : Hp} {l : List Nat} {R : VK} {E : XK} {x dx : Addr} (s : Same H H1) (hl : l.length < 16777216) (ha : allM l = true) (hx : H1 x = none) (hd : H1 dx = none) (k : ∀ H', Same H H' → MkAt K H' x (setOf l) → R .non H') :
    spInit K (.ref x :: ([.str (S l)] ++ [])) (upd (upd H1 dx (.own x)) x (.ins (cM K) dx [])) R E :=
  ⟨x, dx, l, rfl, upd_same, hl, fun _ H2 b m => k H2 (made s hx hd b) m, fun e => by rw [ha] at e; cases e⟩
section
variable {w : World} {K : PySem.W.Frag} {mg : Str → Option Value} {base : Heap}
theorem ok_Marks_init (T : Tx K mg) : Ok P w K mg base (L2.CX P w) 3 (MH.mt "Marks" "__init__" K) (spInit K) [] :=
  ok_d (Classical.choose_spec T.f_Marks_init) (ok_Marks_init0 T) 2 1 (fun z => nomatch z) rfl fun t kV doc pm an cdv ct us its h1 h2 => match us, its, h1, h2 with | [_, _], [_], _, _ => ⟨_, rfl, rfl⟩
theorem ok_Marks_init1 (T : Tx K mg) : Ok P w K mg base (L2.CX P w) 3 (MH.mt "Marks" "__init__" K) (spInit K) [.str ""] :=
  ok_d (Classical.choose_spec T.f_Marks_init) (ok_Marks_init0 T) 1 0 (fun z => nomatch z) rfl fun t kV doc pm an cdv ct us its h1 h2 => match us, its, h1, h2 with | [_], [_], _, _ => ⟨_, rfl, rfl⟩
theorem ok_Marks_text (T : Tx K mg) : Ok P w K mg base CX0 1 (MH.mt "Marks" "text" K) (spText K) [] := by
  obtain ⟨fd, F⟩ := T.f_Marks_text
  refine ok_of F (F.ok sc_Marks_text ?_ ?_) fun _ _ _ _ _ _ us hl => match us, hl with | [_], _ => rfl
  · rintro vs H Q E ⟨a, f, rfl, _⟩
    rfl
  · rintro cdv A outer s H vs Q E hr ⟨a, f, rfl, ⟨dx, h⟩, k⟩
    refine ⟨_, ((pss_one (ps_ret (pe_ifExp (pt_truth (pe_fld (pv 0) rfl) (by intro _; rfl)) (pe_fld (pv 0) rfl) pe_str)))), ?_⟩
    have hl := AL_len f
    refine ⟨_, rfl, a, _, dx, _, _, rfl, h, T.cl_Marks, T.na_Marks_letters, lk1, _, ⟨(by rw [S_len]; show _ ≤ 16777216; omega), rfl⟩, ?_⟩
    rw [bne0]
    revert k
    unfold txt
    cases e : AL.filter f with
    | nil => exact fun k => k
    | cons x r =>
      intro k
      rw [e] at h
      exact ⟨_, rfl, a, _, dx, _, _, rfl, h, T.cl_Marks, T.na_Marks_letters, lk1, k⟩
theorem ok_Marks_len (T : Tx K mg) : Ok P w K mg base CX0 1 (MH.mt "Marks" "__len__" K) (spLen K) [] := by
  obtain ⟨fd, F⟩ := T.f_Marks_len
  refine ok_of F (F.ok sc_Marks_len ?_ ?_) fun _ _ _ _ _ _ us hl => match us, hl with | [_], _ => rfl
  · rintro vs H Q E ⟨a, f, rfl, _⟩
    rfl
  · rintro cdv A outer s H vs Q E hr ⟨a, f, rfl, ⟨dx, h⟩, k⟩
    refine ⟨_, ((pss_one (ps_ret (pe_callB call_len_str (by rfl) T.free_len (by decide +kernel) (pa_cons (pe_fld (pv 0) rfl) pa_nil))))), ?_⟩
    have hl := AL_len f
    refine ⟨_, rfl, a, _, dx, _, _, rfl, h, T.cl_Marks, T.na_Marks_letters, lk1, _, rfl, by rw [S_len]; show _ ≤ 16777216; omega, ?_⟩
    rw [S_len]
    exact k
theorem it_Marks (T : Tx K mg) : OwnO.FnN P w K mg base CX0 1 (MH.mt "Marks" "__iter__" K) (OwnO.spIt K (cM K) "letters") := by
  obtain ⟨fd, F⟩ := T.f_Marks_iter
  refine OwnO.fnN_of (toFun F) sc_Marks_iter ((toFun F).binds fun _ _ _ _ _ _ us hl => match us, hl with | [_], _ => rfl) ?_ ?_
  · rintro n vs H Q E ⟨a, dx, fs, y, rfl, _⟩
    rfl
  · rintro cdv A outer s H vs Q E hr ⟨a, dx, fs, y, rfl, h, hl, k⟩
    refine ⟨_, ((pss_one (ps_ret (pe_callB OwnO.call_iterY (by rfl) T.free_iter (by decide +kernel) (pa_cons (pe_fld (pv 0) rfl) pa_nil))))), ?_⟩
    exact ⟨_, rfl, a, _, dx, _, _, rfl, h, T.cl_Marks, T.na_Marks_letters, hl, k⟩
theorem ok_Marks_bool (T : Tx K mg) : Ok P w K mg base CX0 1 (MH.mt "Marks" "__bool__" K) (spBool K) [] := by
  obtain ⟨fd, F⟩ := T.f_Marks_bool
  refine ok_of F (F.ok sc_Marks_bool ?_ ?_) fun _ _ _ _ _ _ us hl => match us, hl with | [_], _ => rfl
  · rintro vs H Q E ⟨a, f, rfl, _⟩
    rfl
  · rintro cdv A outer s H vs Q E hr ⟨a, f, rfl, ⟨dx, h⟩, k⟩
    refine ⟨_, ((pss_one (ps_ret (pe_callTy Z.call_boolS (by rfl) T.free_bool (by decide +kernel) (pa_cons (pe_fld (pv 0) rfl) pa_nil))))), ?_⟩
    have hl := AL_len f
    refine ⟨_, rfl, a, _, dx, _, _, rfl, h, T.cl_Marks, T.na_Marks_letters, lk1, _, rfl, by rw [S_len]; show _ ≤ 16777216; omega, ?_⟩
    rw [bne0]
    exact k
theorem ok_Marks_contains (T : Tx K mg) : Ok P w K mg base CX0 2 (MH.mt "Marks" "__contains__" K) (spContains K) [] := by
  obtain ⟨fd, F⟩ := T.f_Marks_contains
  refine ok_of F (F.ok sc_Marks_contains ?_ ?_) fun _ _ _ _ _ _ us hl => match us, hl with | [_, _], _ => rfl
  · rintro vs H Q E ⟨a, f, x, rfl, _⟩
    rfl
  · rintro cdv A outer s H vs Q E hr ⟨a, f, x, rfl, ⟨dx, h⟩, hx, k⟩
    refine ⟨_, ((pss_one (ps_ret (pe_and (Z.pe_f (ok_is_mark T) hr T.g_is_mark pass0 (pa_cons (pv 1) pa_nil)) (pe_one (pe_cmpR op_in_sign (pv 1) (pe_fld (pv 0) rfl) (by rfl))))))), ?_⟩
    refine ⟨_, rfl, x, rfl, hx, _, rfl, ?_⟩
    match x, k with
    | [], k => exact k
    | _ :: _ :: _, k => exact k
    | [c], k =>
      show (if decide (c ∈ AL) = true then _ else _)
      have k' : Q (.bl (decide (c ∈ AL) && decide (c ∈ AL.filter f))) H := k
      cases e : decide (c ∈ AL) with
      | false =>
        rw [e] at k'
        exact k'
      | true =>
        rw [e] at k'
        exact ⟨_, rfl, _, rfl, a, _, dx, _, _, rfl, h, T.cl_Marks, T.na_Marks_letters, lk1, c, _, rfl, rfl, k'⟩
theorem ok_Marks_and (T : Tx K mg) : Ok P w K mg base CX0 5 (MH.mt "Marks" "__and__" K) (spTwo K fun a b => a && b) [] := by
  obtain ⟨fd, F⟩ := T.f_Marks_and
  refine ok_of F (F.ok sc_Marks_and ?_ ?_) fun _ _ _ _ _ _ us hl => match us, hl with | [_, _], _ => rfl
  · rintro vs H Q E ⟨a, b, f, g, rfl, _⟩
    rfl
  · rintro cdv A outer s H vs Q E hr ⟨a, b, f, g, rfl, ⟨dx, h⟩, ⟨dy, hb⟩, k⟩
    refine ⟨_, ((pss_one (ps_ret (Z.pe_mk T.mk_Marks (ok_Marks_init T) (hr.mono (by decide)) T.g_Marks OwnX.passF (pa_cons (pe_join pe_str (pe_lc (own := [("mark", 2)]) (g := gName 2) rfl sc_Marks_and.nd (pi_str (pe_fld (pv 0) rfl)) (blkOk_by (own := [("mark", 2)]) (N := ["self", "other", "mark"]) (sc := defScope s_Marks_and) (by decide +kernel)) (fun _ _ _ _ _ => (pg_name (i := 2) sc_Marks_and.nd rfl (Or.inl rfl))) (fun _ _ _ _ _ => (pts_one (pt_cmpR op_in_sign (pv 2) (Z.pe_fldK K (pv 1) rfl) (by rfl)))) (fun _ _ _ _ _ => (pv 2)))) pa_nil))))), ?_⟩
    have hl := AL_len f
    refine ⟨⟨_, rfl⟩, _, rfl, a, _, dx, _, _, rfl, h, T.cl_Marks, T.na_Marks_letters, lk1, _, rfl, join_txt K (fun c => decide (c ∈ AL.filter g)) (by show _ < _; omega) (Nat.le_of_ble_eq_true rfl) (fun _ => rfl) (fun c H' R _ s kk => ⟨_, rfl, _, rfl, b, _, dy, _, _, rfl, s _ _ hb, T.cl_Marks, T.na_Marks_letters, lk1, c, _, rfl, rfl, _, rfl, kk _ (Same.refl _)⟩) fun D1 H1 ys s1 h2 h3 h4 => ⟨_, D1, ys, rfl, rfl, .inl h2, h3, ?_⟩⟩
    rw [show Txt.join ("" : Str) ys = _ from h4]
    refine mk_read s1 (by have := List.length_filter_le (fun c => decide (c ∈ AL.filter g)) (AL.filter f); omega) (AL_all _ _) fun p H' s hp m => k p H' s hp ?_
    rw [AL_and] at m
    exact m
theorem ok_Marks_sub (T : Tx K mg) : Ok P w K mg base CX0 5 (MH.mt "Marks" "__sub__" K) (spTwo K fun a b => a && !b) [] := by
  obtain ⟨fd, F⟩ := T.f_Marks_sub
  refine ok_of F (F.ok sc_Marks_sub ?_ ?_) fun _ _ _ _ _ _ us hl => match us, hl with | [_, _], _ => rfl
  · rintro vs H Q E ⟨a, b, f, g, rfl, _⟩
    rfl
  · rintro cdv A outer s H vs Q E hr ⟨a, b, f, g, rfl, ⟨dx, h⟩, ⟨dy, hb⟩, k⟩
    refine ⟨_, ((pss_one (ps_ret (Z.pe_mk T.mk_Marks (ok_Marks_init T) (hr.mono (by decide)) T.g_Marks OwnX.passF (pa_cons (pe_join pe_str (pe_lc (own := [("mark", 2)]) (g := gName 2) rfl sc_Marks_sub.nd (pi_str (pe_fld (pv 0) rfl)) (blkOk_by (own := [("mark", 2)]) (N := ["self", "other", "mark"]) (sc := defScope s_Marks_sub) (by decide +kernel)) (fun _ _ _ _ _ => (pg_name (i := 2) sc_Marks_sub.nd rfl (Or.inl rfl))) (fun _ _ _ _ _ => (pts_one (pt_cmpR op_notIn_sign (pv 2) (Z.pe_fldK K (pv 1) rfl) (by rfl)))) (fun _ _ _ _ _ => (pv 2)))) pa_nil))))), ?_⟩
    have hl := AL_len f
    refine ⟨⟨_, rfl⟩, _, rfl, a, _, dx, _, _, rfl, h, T.cl_Marks, T.na_Marks_letters, lk1, _, rfl, join_txt K (fun c => !decide (c ∈ AL.filter g)) (by show _ < _; omega) (Nat.le_of_ble_eq_true rfl) (fun _ => rfl) (fun c H' R _ s kk => ⟨_, rfl, _, rfl, b, _, dy, _, _, rfl, s _ _ hb, T.cl_Marks, T.na_Marks_letters, lk1, c, _, rfl, rfl, _, rfl, kk _ (Same.refl _)⟩) fun D1 H1 ys s1 h2 h3 h4 => ⟨_, D1, ys, rfl, rfl, .inl h2, h3, ?_⟩⟩
    rw [show Txt.join ("" : Str) ys = _ from h4]
    refine mk_read s1 (by have := List.length_filter_le (fun c => !decide (c ∈ AL.filter g)) (AL.filter f); omega) (AL_all _ _) fun p H' s hp m => k p H' s hp ?_
    rw [AL_sub] at m
    exact m
theorem ok_Marks_or (T : Tx K mg) : Ok P w K mg base CX0 5 (MH.mt "Marks" "__or__" K) (spTwo K fun a b => a || b) [] := by
  obtain ⟨fd, F⟩ := T.f_Marks_or
  refine ok_of F (F.ok sc_Marks_or ?_ ?_) fun _ _ _ _ _ _ us hl => match us, hl with | [_, _], _ => rfl
  · rintro vs H Q E ⟨a, b, f, g, rfl, _⟩
    rfl
  · rintro cdv A outer s H vs Q E hr ⟨a, b, f, g, rfl, ⟨dx, h⟩, ⟨dy, hb⟩, k⟩
    refine ⟨_, ((pss_one (ps_ret (Z.pe_mk T.mk_Marks (ok_Marks_init T) (hr.mono (by decide)) T.g_Marks OwnX.passF (pa_cons (pe_op op_add_str (pe_fld (pv 0) rfl) (pe_fld (pv 1) rfl)) pa_nil))))), ?_⟩
    have hl := AL_len f
    have hl' := AL_len g
    refine ⟨_, rfl, a, _, dx, _, _, rfl, h, T.cl_Marks, T.na_Marks_letters, lk1, _, rfl, b, _, dy, _, _, rfl, hb, T.cl_Marks, T.na_Marks_letters, lk1, _, _, rfl, rfl, by rw [S_len, S_len]; show _ ≤ 16777216; omega, ?_⟩
    rw [S_cat]
    refine mk_read (Same.refl _) (by rw [List.length_append]; omega) (AL_all2 _ _) fun p H' s hp m => k p H' s hp ?_
    rw [AL_or] at m
    exact m
theorem ok_Marks_xor (T : Tx K mg) : Ok P w K mg base CX0 6 (MH.mt "Marks" "__xor__" K) (spTwo K fun a b => (a && !b) || (b && !a)) [] := by
  obtain ⟨fd, F⟩ := T.f_Marks_xor
  refine ok_of F (F.ok sc_Marks_xor ?_ ?_) fun _ _ _ _ _ _ us hl => match us, hl with | [_, _], _ => rfl
  · rintro vs H Q E ⟨a, b, f, g, rfl, _⟩
    rfl
  · rintro cdv A outer s H vs Q E hr ⟨a, b, f, g, rfl, ⟨dx, h⟩, ⟨dy, hb⟩, k⟩
    refine ⟨_, ((pss_one (ps_ret (pe_op (Z.op_o (ok_Marks_or T) (hr.mono (by decide)) T.m_Marks_or T.first_Marks pass0) (pe_op (Z.op_o (ok_Marks_sub T) (hr.mono (by decide)) T.m_Marks_sub T.first_Marks pass0) (pv 0) (pv 1)) (pe_op (Z.op_o (ok_Marks_sub T) (hr.mono (by decide)) T.m_Marks_sub T.first_Marks pass0) (pv 1) (pv 0)))))), ?_⟩
    refine ⟨_, rfl, _, rfl, a, b, _, _, _, _, rfl, rfl, h, hb, a, b, f, g, rfl, ⟨dx, h⟩, ⟨dy, hb⟩, fun p1 H1 s1 n1 m1 => ?_⟩
    refine ⟨_, rfl, _, rfl, b, a, _, _, _, _, rfl, rfl, s1 _ _ hb, s1 _ _ h, b, a, g, f, rfl, ⟨dy, s1 _ _ hb⟩, ⟨dx, s1 _ _ h⟩, fun p2 H2 s2 n2 m2 => ?_⟩
    obtain ⟨d1, m1⟩ := m1
    obtain ⟨d2, m2⟩ := m2
    exact ⟨p1, p2, _, _, _, _, rfl, rfl, s2 _ _ m1, m2, p1, p2, _, _, rfl, ⟨_, s2 _ _ m1⟩, ⟨_, m2⟩, fun p3 H3 s3 n3 m3 => k p3 H3 ((s1.trans s2).trans s3) ((s1.trans s2).free n3) m3⟩
theorem ok_Marks_invert (T : Tx K mg) : Ok P w K mg base CX0 6 (MH.mt "Marks" "__invert__" K) (spInv K) [] := by
  obtain ⟨fd, F⟩ := T.f_Marks_invert
  refine ok_of F (F.ok sc_Marks_invert ?_ ?_) fun _ _ _ _ _ _ us hl => match us, hl with | [_], _ => rfl
  · rintro vs H Q E ⟨a, f, rfl, _⟩
    rfl
  · rintro cdv A outer s H vs Q E hr ⟨a, f, rfl, ⟨dx, h⟩, k⟩
    refine ⟨_, ((pss_one (ps_ret (pe_op (Z.op_o (ok_Marks_sub T) (hr.mono (by decide)) T.m_Marks_sub T.first_Marks pass0) (Z.pe_mk T.mk_Marks (ok_Marks_init T) (hr.mono (by decide)) T.g_Marks OwnX.passF (pa_cons (ClX.pe_cval (pe_glob (v := .ref (MH.gl "Marks" _)) rfl T.g_Marks rfl)) pa_nil)) (pv 0))))), ?_⟩
    obtain ⟨u, hu⟩ := T.all
    refine ⟨_, _, _, _, rfl, T.rd_Marks, hu, ?_⟩
    intro p dp hp hdp _
    refine mk_at (l := AL) (Same.refl _) (Nat.le_of_ble_eq_true rfl) (by decide) hp hdp fun H1 s1 m => ⟨rfl, ?_⟩
    obtain ⟨d1, m⟩ := m
    have m' : H1 p = some (.ins (cM K) d1 [(("letters" : Str), .str (S (AL.filter fun _ => true)))]) := m
    exact ⟨_, rfl, p, a, _, _, _, _, rfl, rfl, m', s1 _ _ h, p, a, _, f, rfl, ⟨_, m'⟩, ⟨_, s1 _ _ h⟩, fun p3 H3 s3 n3 m3 => k p3 H3 (s1.trans s3) (s1.free n3) m3⟩
end
end K00

set_option Elab.async false
set_option linter.all false
set_option maxRecDepth 100000
set_option maxHeartbeats 2000000
namespace K00
open PySem PySem.Spec PyProof.Rows L2 SX Z
theorem S_eq {a b : List Nat} : decide (V.str (S a) = V.str (S b)) = decide (a = b) := by
  rw [Bool.eq_iff_iff, decide_eq_true_iff, decide_eq_true_iff]
  exact ⟨fun h => S_inj (V.str.inj h), fun h => by rw [h]⟩
theorem lkno {f g : Str} {v : V} (h : (g == f) = false) : ([(f, v)] : List (Str × V)).lookup g = none := by
  simp [List.lookup, h]
/-- what read takes -/
def readOk (l : List Nat) : Bool := decide (l = [45]) || (allM l && decide (txt (setOf l) = l))
def readOf (l : List Nat) : List Nat := if l = [45] then [] else setOf l
def spRead (K : PySem.W.Frag) : Sp := fun vs H Q E => ∃ l, vs = [.ref (cM K), .str (S l)] ∧ l.length < 16777216 ∧
  (readOk l = true → ∀ p H', Same H H' → H p = none → MkAt K H' p (readOf l) → Q (.ref p) H') ∧
  (readOk l = false → ∀ d H', Same H H' → H' d = some (.xd [(("at" : Str), .int 0)]) → E (.ref (cBT K)) (some d) H')
def spLe (K : PySem.W.Frag) : Sp := fun vs H Q E => ∃ a b f g, vs = [.ref a, .ref b] ∧ MkF K H a f ∧ MkF K H b g ∧ ∀ H', Same H H' → Q (.bl ((AL.filter f).all fun c => decide (c ∈ AL.filter g))) H'
def spEq (K : PySem.W.Frag) : Sp := fun vs H Q E => ∃ a f v, vs = [.ref a, v] ∧ MkF K H a f ∧
  ((∃ b g, v = .ref b ∧ MkF K H b g ∧ Q (.bl (decide (AL.filter f = AL.filter g))) H) ∨ (∃ t, TyX K H v t ∧ PySem.W.kitOne K t (.ref (cM K)) = some false ∧ Q (.bl false) H))
section
variable {w : World} {K : PySem.W.Frag} {mg : Str → Option Value} {base : Heap}
theorem ok_Marks_le (T : Tx K mg) : Ok P w K mg base CX0 2 (MH.mt "Marks" "__le__" K) (spLe K) [] := by
  obtain ⟨fd, F⟩ := T.f_Marks_le
  refine ok_of F (F.ok sc_Marks_le ?_ ?_) fun _ _ _ _ _ _ us hl => match us, hl with | [_, _], _ => rfl
  · rintro vs H Q E ⟨a, b, f, g, rfl, _⟩
    rfl
  · rintro cdv A outer s H vs Q E hr ⟨a, b, f, g, rfl, ⟨dx, h⟩, ⟨dy, hb⟩, k⟩
    refine ⟨_, ((pss_cons (ps_if (pt_not (pt_val (pe_callB call_isi (by rfl) T.free_isinstance (by decide +kernel) (pa_cons (pv 1) (pa_cons (pe_glob (v := .ref (MH.gl "Marks" _)) rfl T.g_Marks rfl) pa_nil)))))
    (pss_one ps_never)
    pss_nil)
  (pss_one (ps_ret (pe_callB (cr_all rfl) (by rfl) T.free_all (by decide +kernel) (pa_cons (pe_lc (own := [("mark", 2)]) (g := gName 2) (tt := tYes) rfl sc_Marks_le.nd (pi_str (pe_fld (pv 0) rfl)) (blkOk_by (own := [("mark", 2)]) (N := ["self", "other", "mark"]) (sc := defScope s_Marks_le) (by decide +kernel)) (fun _ _ _ _ _ => (pg_name (i := 2) sc_Marks_le.nd rfl (Or.inl rfl))) (fun _ _ _ _ _ => pts_nil) (fun _ _ _ _ _ => (pe_cmpR op_in_sign (pv 2) (Z.pe_fldK K (pv 1) rfl) (by rfl)))) pa_nil)))))), ?_⟩
    have hl := AL_len f
    refine ⟨_, rfl, _, _, _, _, true, rfl, .own _, T.ty_Marks hb, T.ki_Marks_Marks, _, rfl, ?_⟩
    refine ⟨_, rfl, a, _, dx, _, _, rfl, h, T.cl_Marks, T.na_Marks_letters, lk1, _, rfl, all_txt K (fun c => decide (c ∈ AL.filter g)) (by show _ < _; omega) (fun _ => rfl) (fun c H' R _ s kk => ⟨_, rfl, _, rfl, b, _, dy, _, _, rfl, s _ _ hb, T.cl_Marks, T.na_Marks_letters, lk1, c, _, rfl, rfl, kk _ (Same.refl _)⟩) fun D1 H1 bs s1 hb eb => ⟨D1, bs, rfl, hb, ?_⟩⟩
    rw [eb]
    exact k _ s1
theorem ok_Marks_eq (T : Tx K mg) : Ok P w K mg base CX0 2 (MH.mt "Marks" "__eq__" K) (spEq K) [] := by
  obtain ⟨fd, F⟩ := T.f_Marks_eq
  refine ok_of F (F.ok sc_Marks_eq ?_ ?_) fun _ _ _ _ _ _ us hl => match us, hl with | [_, _], _ => rfl
  · rintro vs H Q E ⟨a, f, v, rfl, _⟩
    rfl
  · rintro cdv A outer s H vs Q E hr ⟨a, f, v, rfl, ⟨dx, h⟩, k⟩
    refine ⟨_, ((pss_one (ps_ret (pe_and (pe_callB call_isi (by rfl) T.free_isinstance (by decide +kernel) (pa_cons (pv 1) (pa_cons (pe_glob (v := .ref (MH.gl "Marks" _)) rfl T.g_Marks rfl) pa_nil))) (pe_one (pe_cmpR op_eq (pe_fld (pv 0) rfl) (pe_fld (pv 1) rfl) (nomark _))))))), ?_⟩
    rcases k with ⟨b, g, rfl, ⟨dy, hb⟩, k⟩ | ⟨t, ty, e, k⟩
    · refine ⟨_, rfl, _, _, _, _, true, rfl, .own _, T.ty_Marks hb, T.ki_Marks_Marks, _, rfl, ?_⟩
      refine ⟨_, rfl, a, _, dx, _, _, rfl, h, T.cl_Marks, T.na_Marks_letters, lk1, _, rfl, b, _, dy, _, _, rfl, hb, T.cl_Marks, T.na_Marks_letters, lk1, rfl, ?_⟩
      rw [S_eq]
      exact k
    · exact ⟨_, rfl, _, _, _, _, false, rfl, .own _, ty, e, _, rfl, k⟩
/-- is_marks_text of a text -/
def isMT (l : List Nat) : Bool := !l.isEmpty && (decide (l = [45]) || decide (l = setOf l))
def spIsMT : Sp := fun vs H Q E => ∃ l, vs = [.str (S l)] ∧ l.length < 16777216 ∧ ∀ H', Same H H' → Q (.bl (isMT l)) H'
theorem isMT_read (l : List Nat) : isMT l = readOk l := by
  unfold isMT readOk
  by_cases h0 : l = []
  · subst h0; decide
  · have he : l.isEmpty = false := by simpa using h0
    rw [he]
    by_cases h1 : l = [45]
    · rw [decide_eq_true h1]; rfl
    · rw [decide_eq_false h1]
      show (true && (false || decide (l = setOf l))) = (false || (allM l && decide (txt (setOf l) = l)))
      rw [Bool.false_or, Bool.false_or, Bool.true_and]
      by_cases h2 : l = setOf l
      · have ha : allM l = true := by
          rw [h2]
          exact List.all_eq_true.mpr fun c hc => decide_eq_true (List.mem_filter.mp hc).1
        have ht : txt (setOf l) = l := by
          rw [← h2]
          unfold txt
          cases l with
          | nil => exact absurd rfl h0
          | cons a r => rfl
        rw [decide_eq_true h2, ha, decide_eq_true ht]
        rfl
      · have ht : txt (setOf l) ≠ l := by
          intro q
          unfold txt at q
          cases e : setOf l with
          | nil => rw [e] at q; exact h1 q.symm
          | cons a r => rw [e] at q; exact h2 (by rw [e]; exact q.symm)
        rw [decide_eq_false h2, decide_eq_false ht, Bool.and_false]
theorem ok_is_marks_text (T : Tx K mg) : Ok P w K mg base CX0 1 (MH.gl "is_marks_text" K) spIsMT [] := by
  obtain ⟨fd, F⟩ := T.f_is_marks_text
  refine ok_of F (F.ok sc_is_marks_text ?_ ?_) fun _ _ _ _ _ _ us hl => match us, hl with | [_], _ => rfl
  · rintro vs H Q E ⟨l, rfl, _⟩
    rfl
  · rintro cdv A outer s H vs Q E hr ⟨l, rfl, hz, k⟩
    refine ⟨_, ((pss_cons (ps_if (PW.pt (pw_or (pt_not (pt_val (pe_callB call_isi (by rfl) T.free_isinstance (by decide +kernel) (pa_cons (pv 0) (pa_cons (pe_bltn (v := .ty "str") (u := .type "str") rfl T.free_str (by decide +kernel) rfl) pa_nil))))) (pw_or1 (pt_cmpR op_eq (pv 0) pe_str (nomark _)))))
    (pss_one (ps_ret pe_bl))
    pss_nil)
  (pss_one (ps_ret (pe_or (pe_cmpR op_eq (pv 0) pe_str (nomark _)) (pe_one (pe_cmpR op_eq (pv 0) (pe_join pe_str (pe_lc (own := [("mark", 1)]) (g := gName 1) rfl sc_is_marks_text.nd (pi_str (ClX.pe_cval (pe_glob (v := .ref (MH.gl "Marks" _)) rfl T.g_Marks rfl))) (blkOk_by (own := [("mark", 1)]) (N := ["thing", "mark"]) (sc := defScope s_is_marks_text) (by decide +kernel)) (fun _ _ _ _ _ => (pg_name (i := 1) sc_is_marks_text.nd rfl (Or.inl rfl))) (fun _ _ _ _ _ => (pts_one (pt_cmpR op_in_sign (pv 1) (pv 0) (by rfl)))) (fun _ _ _ _ _ => (pv 1)))) (nomark _)))))))), ?_⟩
    obtain ⟨u, hu⟩ := T.all
    have k0 : decide (V.str (S l) = V.str ("" : Str)) = decide (l = []) := by
      rw [show ("" : Str) = S [] by decide +kernel]
      exact S_eq
    have k1 : decide (V.str (S l) = V.str ("-" : Str)) = decide (l = [45]) := by
      rw [show ("-" : Str) = S [45] by decide +kernel]
      exact S_eq
    refine ⟨_, rfl, _, _, _, _, true, rfl, .ty _, .base (.str _), kit_same, true, rfl, ?_⟩
    refine ⟨_, rfl, rfl, _, rfl, ?_⟩
    rw [k0]
    by_cases e0 : l = []
    · have : isMT l = false := by subst e0; decide
      rw [this] at k
      rw [decide_eq_true e0]
      exact k H (Same.refl _)
    · rw [decide_eq_false e0]
      refine ⟨_, rfl, rfl, ?_⟩
      rw [k1]
      refine ⟨_, rfl, ?_⟩
      by_cases e1 : l = [45]
      · have : isMT l = true := by subst e1; decide
        rw [this] at k
        rw [decide_eq_true e1]
        exact k H (Same.refl _)
      · rw [decide_eq_false e1]
        refine ⟨_, rfl, ⟨_, rfl⟩, _, _, _, _, rfl, T.rd_Marks, hu, _, rfl, join_txt K (z := AL) (fun c => decide (c ∈ l)) (Nat.le_of_ble_eq_true rfl) (Nat.le_of_ble_eq_true rfl) (fun _ => rfl) (fun c H' R _ _ kk => ⟨_, rfl, _, rfl, c, S l, rfl, rfl, _, rfl, kk _ (Same.refl _)⟩) fun D2 H2 ys s2 h2 h3 h4 => ⟨_, D2, ys, rfl, rfl, .inl h2, h3, rfl, ?_⟩⟩
        rw [show Txt.join ("" : Str) ys = S (setOf l) from h4, S_eq]
        have : isMT l = decide (l = setOf l) := by
          unfold isMT
          rw [decide_eq_false e1, show l.isEmpty = false by simpa using e0]
          rfl
        rw [this] at k
        exact k H2 s2
theorem ok_Marks_read (T : Tx K mg) : Ok P w K mg base (L2.CX P w) 5 (MH.cm "Marks" "read" K) (spRead K) [] := by
  obtain ⟨fd, F⟩ := T.f_Marks_read
  refine ok_of F (F.ok sc_Marks_read ?_ ?_) fun _ _ _ _ _ _ us hl => match us, hl with | [_, _], _ => rfl
  · rintro vs H Q E ⟨l, rfl, _⟩
    rfl
  · rintro cdv A outer s H vs Q E hr ⟨l, rfl, hz, hy, hn⟩
    refine ⟨_, ((pss_cons (ps_if (pt_not (pt_val (Z.pe_f (ok_is_marks_text T) hr T.g_is_marks_text pass0 (pa_cons (pv 1) pa_nil))))
    (pss_one (ps_raise rfl (takes_of rfl rfl rfl rfl) (Z.pmk T.ox_BadText T.m_BadText_init (Z.fn_type T.m_BadText_init.fn) (ok_BadText_init T) (hr.mono (by decide)) pass0 T.g_BadText (pa_cons pe_int pa_nil))))
    pss_nil)
  (pss_one (ps_ret (Z.pe_mkL T.mk_Marks (ok_Marks_init T) (hr.mono (by decide)) (i := 0) (Z.pw (takes_of rfl rfl rfl rfl) (fun _ _ _ _ z => z)) (pa_cons (pe_ifExp (pt_cmpR op_eq (pv 1) pe_str (nomark _)) pe_str (pv 1)) pa_nil)))))), ?_⟩
    have key : decide (V.str (S l) = V.str ("-" : Str)) = decide (l = [45]) := by
      rw [show ("-" : Str) = S [45] by decide +kernel]
      exact S_eq
    refine ⟨_, rfl, l, rfl, hz, fun H1 s1 => ⟨_, rfl, ?_⟩⟩
    rw [isMT_read]
    cases e : readOk l with
    | false =>
      refine ⟨(Nat.le_of_ble_eq_true rfl), fun a0 h0 => ⟨a0, _, rfl, upd_same, fun d hd hne => ⟨rfl, d, _, upd_same, (upd_ne hne).trans upd_same, (free_put hd).2, hn e d _ (same_err s1 h0 hd) upd_same⟩⟩⟩
    | true =>
      refine ⟨rfl, _, rfl, rfl, _, rfl, ?_⟩
      rw [key]
      by_cases e1 : l = [45]
      · rw [decide_eq_true e1]
        have hof : readOf l = setOf [] := if_pos e1
        refine fun p dp hp hdp _ => mk_at (l := []) s1 (Nat.le_of_ble_eq_true rfl) rfl hp hdp fun H2 s2 m2 => ⟨rfl, hy e p H2 s2 (s1.free hp) ?_⟩
        rw [hof]
        exact m2
      · rw [decide_eq_false e1]
        have hof : readOf l = setOf l := if_neg e1
        have ha : allM l = true := by
          unfold readOk at e
          rw [decide_eq_false e1, Bool.false_or] at e
          exact (Bool.and_eq_true_iff.mp e).1
        refine ⟨_, rfl, fun p dp hp hdp _ => mk_at (l := l) s1 hz ha hp hdp fun H2 s2 m2 => ⟨rfl, hy e p H2 s2 (s1.free hp) ?_⟩⟩
        rw [hof]
        exact m2
end
end K00

set_option Elab.async false
set_option linter.all false
set_option maxRecDepth 100000
set_option maxHeartbeats 2000000
namespace K00
open PySem PySem.Spec PyProof.Rows L2 SX Z
theorem mulW {i j : Int} (hi : i.natAbs < 2 ^ 64) (hj : j.natAbs < 2 ^ 64) : CMulW i j := by
  have f : ∀ n : Nat, n < 2 ^ 64 → n.log2 < 64 := fun n h => by
    by_cases h0 : n = 0
    · rw [h0]
      decide
    · exact (Nat.log2_lt h0).mpr h
  have h1 := f _ hi
  have h2 := f _ hj
  show _ + _ < 1000000
  omega
theorem ite2' {b : Bool} {p q : Prop} (h1 : b = true → p) (h2 : b = false → q) : if b = true then p else q := by
  cases b
  · exact h2 rfl
  · exact h1 rfl
theorem _root_.L2.Same.trans' {H H1 H2 : Hp} {p : Addr} (s : Same H H1) (b : But p H1 H2) (h : H p = none) : Same H H2 := fun x o e => b x o (ne_of_none e h) (s x o e)
theorem seq0 {α : Type} (x : α) (r : List α) : seqIndex? 0 (x :: r).length = some 0 := by
  unfold seqIndex?
  simp
/-! ### the pool of draws -/
def PoolN (n : Nat) (H : Hp) (p : Addr) : Prop := ∃ xs : List Int, H p = some (.lst (xs.map V.int)) ∧ xs.length ≤ n
theorem PoolN.put {n m : Nat} {H : Hp} {p : Addr} (h : PoolN n H p) (hm : n + 1 ≤ m) (hs : m ≤ 16777216) (i : Int) {Q : Hp → Prop} (q : ∀ H', But p H H' → PoolN m H' p → Q H') :
    ∃ xs, H p = some (.lst xs) ∧ xs.length < sizeLine ∧ Q (upd H p (.lst (xs ++ [.int i]))) := by
  obtain ⟨xs, e, hl⟩ := h
  refine ⟨_, e, by rw [List.length_map]; show _ < 16777216; omega, q _ (fun b o hb e => (upd_ne hb).trans e) ⟨xs ++ [i], by rw [upd_same, List.map_append]; rfl, by rw [List.length_append, List.length_singleton]; omega⟩⟩
theorem PoolN.le {n m : Nat} {H : Hp} {p : Addr} (h : PoolN n H p) (hm : n ≤ m) : PoolN m H p := let ⟨xs, e, hl⟩ := h; ⟨xs, e, Nat.le_trans hl hm⟩
theorem PoolN.to {n : Nat} {H H' : Hp} {p : Addr} (h : PoolN n H p) (s : Same H H') : PoolN n H' p := let ⟨xs, e, hl⟩ := h; ⟨xs, s _ _ e, hl⟩
def spDraws (K : PySem.W.Frag) : Sp := fun vs H Q E => ∃ (a : Addr) (ns : List Int), vs = [.ref a] ∧ SqL K H a (ns.map V.int) ∧ ns.length ≤ 63 ∧ ∀ p H', Same H H' → H p = none → PoolN 4000 H' p → Q (.ref p) H'
def spDraw : Sp := fun vs H Q E => ∃ p n m, vs = [.ref p, .int m] ∧ 0 < m ∧ PoolN n H p ∧ n ≤ 16777216 ∧ ∀ i H', 0 ≤ i → i < m → But p H H' → PoolN n H' p → Q (.int i) H'
section
variable {w : World} {K : PySem.W.Frag} {mg : Str → Option Value} {base : Heap}
theorem ok_L_draws (T : Tx K mg) : Ok P w K mg base CX0 1 (MH.gl "_law_draws" K) (spDraws K) [] := by
  obtain ⟨fd, F⟩ := T.f_L_draws
  refine ok_of F (F.ok sc_L_draws ?_ ?_) fun _ _ _ _ _ _ us hl => match us, hl with | [_], _ => rfl
  · rintro vs H Q E ⟨a, ns, rfl, _⟩
    rfl
  · rintro cdv A outer s H vs Q E hr ⟨a, ns, rfl, hS, hn, k⟩
    refine ⟨_, PSs.nox ((pss_cons (ps_set (i := 1) sc_L_draws.nd rfl (by first | exact Or.inl rfl | exact Or.inr rfl) (pe_lst pa_nil))
  (pss_cons (ps_for PassesOwn.never rfl (pi_list (pv 0)) (pg_name (i := 2) sc_L_draws.nd rfl (Or.inl rfl))
    (pss_cons (ps_set (i := 3) sc_L_draws.nd rfl (by first | exact Or.inl rfl | exact Or.inr rfl) (pe_callB call_abs (by rfl) T.free_abs (by decide +kernel) (pa_cons (pe_callTy call_int1 (by rfl) T.free_int (by decide +kernel) (pa_cons (pv 2) pa_nil)) pa_nil)))
    (pss_one (ps_if (pt_cmpR op_lt (pv 3) (pe_op op_pow pe_int pe_int) (nomark _))
      (pss_one (ps_for PassesOwn.never rfl (pi_range1 rfl T.free_range (pa_cons pe_int pa_nil)) (pg_name (i := 4) sc_L_draws.nd rfl (Or.inl rfl))
        (pss_cons (ps_set (i := 5) sc_L_draws.nd rfl (by first | exact Or.inl rfl | exact Or.inr rfl) (pe_op op_mod (pe_callTy call_int1 (by rfl) T.free_int (by decide +kernel) (pa_cons (pe_op op_add (pe_op op_add (pe_op op_mulW (pv 2) pe_int) (pe_op op_mulW (pv 4) pe_int)) pe_int) pa_nil)) pe_int))
        (pss_one (ps_expr (pe_bm PySem.F.plainAttrs_list PySem.F.slot_list_append PySem.F.type_list_append mt_append (pv 1) (pa_cons (pe_op op_mod (pe_callTy call_int1 (by rfl) T.free_int (by decide +kernel) (pa_cons (pe_op op_add (pe_op op_add (pe_op op_mulW (pv 5) (pv 5)) (pe_op op_mulW (pv 4) pe_int)) (pe_op op_fdiv (pv 3) pe_int)) pa_nil)) pe_int) pa_nil)))))))
      (pss_one (ps_for PassesOwn.never rfl (pi_range1 rfl T.free_range (pa_cons pe_int pa_nil)) (pg_name (i := 4) sc_L_draws.nd rfl (Or.inl rfl))
        (pss_one (ps_if (pt_cmpR op_gt (pv 3) pe_int (nomark _))
          (pss_cons (ps_expr (pe_bm PySem.F.plainAttrs_list PySem.F.slot_list_append PySem.F.type_list_append mt_append (pv 1) (pa_cons (pe_op op_mod (pe_callTy call_int1 (by rfl) T.free_int (by decide +kernel) (pa_cons (pv 3) pa_nil)) pe_int) pa_nil)))
          (pss_one (ps_set (i := 3) sc_L_draws.nd rfl (by first | exact Or.inl rfl | exact Or.inr rfl) (pe_op op_fdiv (pv 3) pe_int))))
          pss_nil))))))))
  (pss_one (ps_ret (pv 1)))))), ?_⟩
    refine ⟨Nat.zero_le _, fun p hp => ?_⟩
    refine ⟨_, rfl, a, rfl, ⟨_, (same_new hp).seq hS⟩, for_list (K := K) (a := a) (xs := ns.map V.int) (fun i σ H' => ∃ v2 v3 v4 v5, σ = [some (.ref a), some (.ref p), v2, v3, v4, v5] ∧ Same H H' ∧ PoolN (i * 60) H' p)
      ⟨_, _, _, _, rfl, same_new hp, [], upd_same, Nat.le_refl _⟩ (fun i σ H' _ ⟨_, _, _, _, _, s, _⟩ => s.seq hS) ?_ ?_⟩
    · rintro i y σ H' hi ⟨v2, v3, v4, v5, rfl, s, pl⟩
      have hi63 : i < ns.length := by
        have q := (List.getElem?_eq_some_iff.mp hi).1
        rw [List.length_map] at q
        exact q
      obtain ⟨u, rfl⟩ : ∃ u, y = V.int u := by
        rw [List.getElem?_map] at hi
        cases e : ns[i]? with
        | none =>
          rw [e] at hi
          cases hi
        | some u =>
          rw [e] at hi
          exact ⟨u, (Option.some.inj hi).symm⟩
      refine ⟨_, rfl, .inl ⟨_, rfl, _, rfl, ?_⟩⟩
      refine ⟨_, rfl, _, _, rfl, rfl, ⟨by decide, by decide, by decide⟩, _, _, rfl, rfl, _, rfl, ?_⟩
      refine ite2' (fun hc => ?_) (fun hc => ?_)
      · have hu : u.natAbs < 2 ^ 64 := by
          have : (if u < 0 then -u else u) < 10 ^ (18 : Int).toNat := of_decide_eq_true hc
          have e : (10 : Int) ^ (18 : Int).toNat = 1000000000000000000 := by decide
          rw [e] at this
          split at this <;> omega
        refine ⟨_, rfl, by decide, by decide, for_range (fun j σ H' => ∃ v4 v5, σ = [some (.ref a), some (.ref p), some (.int u), some (.int (if u < 0 then -u else u)), v4, v5] ∧ Same H H' ∧ PoolN (i * 60 + j) H' p) ⟨_, _, rfl, s, pl⟩ ?_ ?_⟩
        · rintro j σ H1 hj ⟨v4, v5, rfl, s1, pl1⟩
          have hj : j < 8 := hj
          refine ⟨_, rfl, _, _, rfl, rfl, mulW hu (by decide), _, rfl, _, _, rfl, rfl, mulW (by omega) (by decide), _, _, rfl, rfl, _, _, rfl, rfl, .inl ⟨_, rfl, _, _, rfl, rfl, (by show (0 : Int) < 65521; decide), ?_⟩⟩
          obtain ⟨once, ho⟩ : ∃ z : Int, z = (u * 7919 + (0 + (j : Int)) * 104729 + 17) % 65521 := ⟨_, rfl⟩
          have ho1 : 0 ≤ once ∧ once < 65521 := by omega
          show gName 5 (V.int ((u * 7919 + (0 + (j : Int)) * 104729 + 17) % 65521)) _ _ _
          rw [← ho]
          obtain ⟨xs, e1, e2, q⟩ := pl1.put (m := i * 60 + (j + 1)) (by omega) (by omega) ((once * once + (0 + (j : Int)) * 31 + (if u < 0 then -u else u) / 97) % 1000003) (Q := fun H' => ∃ v4 v5, ([some (.ref a), some (.ref p), some (.int u), some (.int (if u < 0 then -u else u)), some (.int (0 + (j : Int))), some (.int once)] : L2.St) = [some (.ref a), some (.ref p), some (.int u), some (.int (if u < 0 then -u else u)), v4, v5] ∧ Same H H' ∧ PoolN (i * 60 + (j + 1)) H' p) (fun H' b m => ⟨_, _, rfl, s1.trans' b hp, m⟩)
          refine ⟨_, rfl, .inl ⟨rfl, _, SqL.of e1⟩, _, rfl, _, rfl, _, _, rfl, rfl, mulW (by omega) (by omega), _, rfl, _, _, rfl, rfl, mulW (by omega) (by decide), _, _, rfl, rfl, _, rfl, _, _, rfl, rfl, ⟨by decide, by decide⟩, _, _, rfl, rfl, .inl ⟨_, rfl, _, _, rfl, rfl, (by show (0 : Int) < 1000003; decide), p, xs, _, rfl, rfl, e1, e2, q⟩⟩
        · rintro σ H1 ⟨v4, v5, rfl, s1, pl1⟩
          exact ⟨_, _, _, _, rfl, s1, pl1.le (by show i * 60 + 8 ≤ _; omega)⟩
      · refine ⟨_, rfl, by decide, by decide, for_range (fun j σ H' => ∃ (v4 v5 : Option V) (r : Int), σ = [some (.ref a), some (.ref p), some (.int u), some (.int r), v4, v5] ∧ Same H H' ∧ PoolN (i * 60 + j) H' p) ⟨_, _, _, rfl, s, pl⟩ ?_ ?_⟩
        · rintro j σ H1 hj ⟨v4, v5, r, rfl, s1, pl1⟩
          have hj : j < 60 := hj
          refine ⟨_, rfl, _, _, rfl, rfl, _, rfl, ?_⟩
          refine ite2' (fun _ => ?_) (fun _ => ?_)
          · obtain ⟨xs, e1, e2, q⟩ := pl1.put (m := i * 60 + (j + 1)) (by omega) (by omega) (r % 1000000) (Q := fun H' => Same H H' ∧ PoolN (i * 60 + (j + 1)) H' p) (fun H' b m => ⟨s1.trans' b hp, m⟩)
            refine ⟨_, rfl, .inl ⟨rfl, _, SqL.of e1⟩, _, rfl, .inl ⟨_, rfl, _, _, rfl, rfl, (by show (0 : Int) < 1000000; decide), p, xs, _, rfl, rfl, e1, e2, _, rfl, _, _, rfl, rfl, ⟨by decide, by decide⟩, ?_⟩⟩
            exact ⟨_, _, _, rfl, q.1, q.2⟩
          · exact ⟨_, _, _, rfl, s1, pl1.le (by omega)⟩
        · rintro σ H1 ⟨v4, v5, r, rfl, s1, pl1⟩
          exact ⟨_, _, _, _, rfl, s1, pl1.le (by show i * 60 + 60 ≤ _; omega)⟩
    · rintro σ H' ⟨v2, v3, v4, v5, rfl, s, pl⟩
      rw [List.length_map] at pl
      exact ⟨_, rfl, k p H' s hp (pl.le (by omega))⟩
theorem ok_L_draw (T : Tx K mg) : Ok P w K mg base CX0 1 (MH.gl "_law_draw" K) spDraw [] := by
  obtain ⟨fd, F⟩ := T.f_L_draw
  refine ok_of F (F.ok sc_L_draw ?_ ?_) fun _ _ _ _ _ _ us hl => match us, hl with | [_, _], _ => rfl
  · rintro vs H Q E ⟨p, n, m, rfl, _⟩
    rfl
  · rintro cdv A outer s H vs Q E hr ⟨p, n, m, rfl, hm, ⟨xs, hp, hn⟩, hz, k⟩
    refine ⟨_, ((pss_cons (ps_if (pt_cmpR (op_eqD hr.units) (pv 0) (pe_lst pa_nil) (nomark _))
    (pss_one (ps_ret pe_int))
    pss_nil)
  (pss_one (ps_ret (pe_op op_modN (pe_callTy call_int1 (by rfl) T.free_int (by decide +kernel) (pa_cons (pe_bm PySem.F.plainAttrs_list PySem.F.slot_list_pop PySem.F.type_list_pop mt_popAt (pv 0) (pa_cons pe_int pa_nil)) pa_nil)) (pv 1)))))), ?_⟩
    refine ⟨_, rfl, Nat.zero_le _, fun e he => rd_int_nil ((same_new he) _ _ hp) upd_same ⟨_, rfl, ?_⟩⟩
    have s1 : Same H (upd H e (.lst [])) := same_new he
    match xs, hp, hn with
    | [], hp, hn => exact k 0 _ (Int.le_refl _) hm (But.of s1) ⟨[], s1 _ _ hp, hn⟩
    | x :: r, hp, hn =>
      refine ⟨_, rfl, .inl ⟨rfl, _, SqL.of (s1 _ _ hp)⟩, p, _, 0, 0, .int x, rfl, rfl, s1 _ _ hp, by decide, by decide, seq0 _ _, rfl, ?_⟩
      refine .inl ⟨_, rfl, _, rfl, _, _, rfl, rfl, by show m ≠ 0; omega, ?_⟩
      show Q (V.int (x.fmod m)) _
      rw [Int.fmod_eq_emod_of_nonneg _ (Int.le_of_lt hm)]
      exact k _ _ (Int.emod_nonneg _ (by omega)) (Int.emod_lt_of_pos _ hm) (But.put (But.of s1)) ⟨r, upd_same, by rw [List.length_cons] at hn; omega⟩
end
end K00

set_option Elab.async false
set_option linter.all false
set_option maxRecDepth 100000
set_option maxHeartbeats 2000000
namespace K00
open PySem PySem.Spec PyProof.Rows L2 SX Z
/-! ### texts drawn -/
/-- a text is drawn: the pool p alone changes -/
def spTxt (M : Nat) (ok : List Nat → Prop) : Sp := fun vs H Q E => ∃ p n, vs = [.ref p] ∧ PoolN n H p ∧ n ≤ 16777216 ∧ ∀ l H', l.length ≤ M → ok l → But p H H' → PoolN n H' p → Q (.str (S l)) H'
def spTxt2 (M N : Nat) (ok : List Nat → Prop) : Sp := fun vs H Q E => ∃ p n z, vs = [.ref p, .str (S z)] ∧ PoolN n H p ∧ n ≤ 16777216 ∧ z.length ≤ M ∧ ok z ∧ ∀ l H', l.length ≤ N → ok l → But p H H' → PoolN n H' p → Q (.str (S l)) H'
def InAL (l : List Nat) : Prop := ∀ c ∈ l, c ∈ AL
theorem InAL.cp {l : List Nat} (h : InAL l) : Cp l := fun c hc => by
  have := h c hc
  simp [AL] at this
  omega
theorem atI_AL {i : Int} (h0 : 0 ≤ i) (h1 : i < 6) : ∃ c, c ∈ AL ∧ atI (S AL).cps.toList i = some c := by
  have : i = 0 ∨ i = 1 ∨ i = 2 ∨ i = 3 ∨ i = 4 ∨ i = 5 := by omega
  rcases this with rfl | rfl | rfl | rfl | rfl | rfl
  · exact ⟨97, by decide, by decide⟩
  · exact ⟨98, by decide, by decide⟩
  · exact ⟨99, by decide, by decide⟩
  · exact ⟨100, by decide, by decide⟩
  · exact ⟨101, by decide, by decide⟩
  · exact ⟨102, by decide, by decide⟩
theorem cut_some (l : List Nat) (a b : Option Int) : ∃ l', cutS (S l) a b = S l' ∧ l'.length ≤ l.length ∧ ∀ c ∈ l', c ∈ l := by
  refine ⟨_, rfl, ?_, fun c hc => ?_⟩
  · rw [List.length_take, List.length_drop]
    have : (S l).cps.toList.length = l.length := by simp [S]
    omega
  · have := List.mem_of_mem_drop (List.mem_of_mem_take hc)
    simpa [S] using this
section
variable {w : World} {K : PySem.W.Frag} {mg : Str → Option Value} {base : Heap}
theorem ok_L_letters (T : Tx K mg) : Ok P w K mg base CX0 2 (MH.gl "_law_letters" K) (spTxt 40 InAL) [] := by
  obtain ⟨fd, F⟩ := T.f_L_letters
  refine ok_of F (F.ok sc_L_letters ?_ ?_) fun _ _ _ _ _ _ us hl => match us, hl with | [_], _ => rfl
  · rintro vs H Q E ⟨p, n, rfl, _⟩
    rfl
  · rintro cdv A outer s H vs Q E hr ⟨p, n, rfl, hp, hz, k⟩
    refine ⟨_, ((pss_cons (ps_set (i := 1) sc_L_letters.nd rfl (by first | exact Or.inl rfl | exact Or.inr rfl) (pe_op op_mod (pe_op op_add pe_int (Z.pe_f (ok_L_draw T) hr T.g_L_draw pass0 (pa_cons (pv 0) (pa_cons pe_int pa_nil)))) pe_int))
  (pss_cons (ps_if (pt_cmpR op_eq (Z.pe_f (ok_L_draw T) hr T.g_L_draw pass0 (pa_cons (pv 0) (pa_cons pe_int pa_nil))) pe_int (nomark _))
    (pss_one (ps_set (i := 1) sc_L_letters.nd rfl (by first | exact Or.inl rfl | exact Or.inr rfl) (pe_op op_add (pv 1) pe_int)))
    pss_nil)
  (pss_one (ps_ret (pe_join pe_str (pe_lc (own := [("_law_k", 2)]) (g := gName 2) (tt := tYes) rfl sc_L_letters.nd (pi_range1 rfl T.free_range (pa_cons (pv 1) pa_nil)) (blkOk_by (own := [("_law_k", 2)]) (N := ["_law_pool", "_law_many", "_law_k"]) (sc := defScope s_L_letters) (by decide +kernel)) (fun _ _ _ _ _ => (pg_name (i := 2) sc_L_letters.nd rfl (Or.inl rfl))) (fun _ _ _ _ _ => pts_nil) (fun _ _ _ _ _ => (pe_ix ix_str pe_str (Z.pe_f (ok_L_draw T) hr T.g_L_draw pass0 (pa_cons (pv 0) (pa_cons pe_int pa_nil))) (fun _ _ => rfl)))))))))), ?_⟩
    refine ⟨_, rfl, p, n, 9, rfl, by decide, hp, hz, fun i1 H1 g0 g1 b1 p1 => ?_⟩
    refine ⟨_, _, rfl, rfl, _, _, rfl, rfl, (by show (0 : Int) < 9; decide), ?_⟩
    refine ⟨_, rfl, p, n, 8, rfl, by decide, p1, hz, fun i2 H2 _ _ b2 p2 => ?_⟩
    refine ⟨rfl, _, rfl, ?_⟩
    have fin : ∀ (m : Int), 0 ≤ m → m ≤ 39 → ∀ v2, (tRet (tM1 (rJoin K) (tC (.str "")) (tLc (iRng1 (tCons (tVar 1) tNil)) (gName 2) tYes (tOp rIxS (tC (.str "abcdef")) (tCall spDraw [] E0 (tCons (tVar 0) (tCons (tC (.int 6)) tNil)))) [2]))) { nx := fun _ H' => Q .non H', rt := Q } [some (.ref p), some (.int m), v2] H2 := by
      intro m m0 m1 v2
      have pne : ∀ D, H2 D = none → D ≠ p := fun D hD e => by
        obtain ⟨xs, q, _⟩ := p2
        rw [e, q] at hD
        cases hD
      refine ⟨⟨_, rfl⟩, _, rfl, m, rfl, by omega, by omega, fun D hD => ?_⟩
      refine lc_range (fun i H' => ∃ acc : List Nat, H' D = some (.lst (acc.map fun c => .str (S [c]))) ∧ InAL acc ∧ acc.length = i ∧ But p H2 H' ∧ PoolN n H' p) ⟨[], upd_same, fun c hc => (nomatch hc), rfl, But.of (same_new hD), p2.to (same_new hD)⟩ ?_ ?_
      · rintro i H' hi ⟨acc, e1, e2, e3, e4, e5⟩
        have hi : i < m.toNat := hi
        refine ⟨rfl, _, rfl, p, n, 6, rfl, by decide, e5, hz, fun i3 H3 g0 g1 b3 p3 => ?_⟩
        obtain ⟨c, hc1, hc2⟩ := atI_AL g0 g1
        refine ⟨S AL, i3, c, rfl, rfl, by decide, hc2, _, b3 D _ (pne D hD) e1, by rw [List.length_map, e3]; show _ < 16777216; omega, acc ++ [c], by rw [upd_same, List.map_append]; rfl, ?_, by rw [List.length_append, List.length_singleton, e3], ?_, ?_⟩
        · intro x hx
          rcases List.mem_append.mp hx with h | h
          · exact e2 x h
          · rw [List.mem_singleton.mp h]
            exact hc1
        · exact fun b o hb e => by
            have nD : b ≠ D := ne_of_none e hD
            rw [upd_ne nD]
            exact b3 b o hb (e4 b o hb e)
        · obtain ⟨xs, q1, q2⟩ := p3
          exact ⟨xs, by rw [upd_ne (pne D hD).symm]; exact q1, q2⟩
      · rintro H' ⟨acc, e1, e2, e3, e4, e5⟩
        have e3 : acc.length = m.toNat := e3
        refine ⟨S [], D, acc.map fun c => S [c], rfl, rfl, .inl (SqL.of (by rw [e1, List.map_map]; rfl)), by rw [sum_one]; show _ + _ * 0 ≤ _; omega, ?_⟩
        rw [Z.join_one]
        exact k acc H' (by omega) e2 ((b1.trans b2).trans e4) e5
    refine ite2' (fun _ => ?_) (fun _ => ?_)
    · refine ⟨_, rfl, _, _, rfl, rfl, ?_⟩
      exact fin _ (by omega) (by omega) _
    · exact fin _ (by omega) (by omega) _
theorem ok_L_letters_beside (T : Tx K mg) : Ok P w K mg base CX0 3 (MH.gl "_law_letters_beside" K) (spTxt2 40 80 InAL) [] := by
  obtain ⟨fd, F⟩ := T.f_L_letters_beside
  refine ok_of F (F.ok sc_L_letters_beside ?_ ?_) fun _ _ _ _ _ _ us hl => match us, hl with | [_, _], _ => rfl
  · rintro vs H Q E ⟨p, n, z, rfl, _⟩
    rfl
  · rintro cdv A outer s H vs Q E hr ⟨p, n, z, rfl, hp, hz, hl, ha, k⟩
    refine ⟨_, ((pss_cons (ps_set (i := 2) sc_L_letters_beside.nd rfl (by first | exact Or.inl rfl | exact Or.inr rfl) (Z.pe_f (ok_L_draw T) hr T.g_L_draw pass0 (pa_cons (pv 0) (pa_cons pe_int pa_nil))))
  (pss_cons (ps_if (pt_cmpR op_eq (pv 2) pe_int (nomark _))
    (pss_one (ps_ret (Z.pe_revS (pv 1))))
    pss_nil)
  (pss_cons (ps_if (pt_cmpR op_eq (pv 2) pe_int (nomark _))
    (pss_one (ps_ret (pe_slice sl_str (pv 1) (po_some (Z.pe_f (ok_L_draw T) hr T.g_L_draw pass0 (pa_cons (pv 0) (pa_cons (pe_op op_add (pe_callB call_len_str (by rfl) T.free_len (by decide +kernel) (pa_cons (pv 1) pa_nil)) pe_int) pa_nil)))) po_none)))
    pss_nil)
  (pss_cons (ps_if (pt_cmpR op_eq (pv 2) pe_int (nomark _))
    (pss_one (ps_ret (pe_op op_add_str (pv 1) (Z.pe_f (ok_L_letters T) hr T.g_L_letters pass0 (pa_cons (pv 0) pa_nil)))))
    pss_nil)
  (pss_cons (ps_if (pt_cmpR op_eq (pv 2) pe_int (nomark _))
    (pss_one (ps_ret (pe_join pe_str (pe_lc (own := [("_law_mark", 3)]) (g := gName 3) rfl sc_L_letters_beside.nd (pi_str pe_str) (blkOk_by (own := [("_law_mark", 3)]) (N := ["_law_pool", "_law_first", "_law_kind", "_law_mark"]) (sc := defScope s_L_letters_beside) (by decide +kernel)) (fun _ _ _ _ _ => (pg_name (i := 3) sc_L_letters_beside.nd rfl (Or.inl rfl))) (fun _ _ _ _ _ => (pts_one (pt_cmpR op_notIn_sign (pv 3) (pv 1) (by rfl)))) (fun _ _ _ _ _ => (pv 3))))))
    pss_nil)
  (pss_one (ps_ret (Z.pe_f (ok_L_letters T) hr T.g_L_letters pass0 (pa_cons (pv 0) pa_nil)))))))))), ?_⟩
    refine ⟨_, rfl, p, n, 5, rfl, by decide, hp, hz, fun i1 H1 g0 g1 b1 p1 => ?_⟩
    refine ⟨_, rfl, rfl, _, rfl, ite2' (fun _ => ?_) (fun _ => ?_)⟩
    · refine ⟨_, rfl, z, rfl, by show _ ≤ 16777216; omega, k _ H1 (by rw [List.length_reverse]; omega) (fun c hc => ha c (List.mem_reverse.mp hc)) b1 p1⟩
    refine ⟨_, rfl, rfl, _, rfl, ite2' (fun _ => ?_) (fun _ => ?_)⟩
    · refine ⟨_, rfl, _, rfl, _, rfl, _, rfl, by rw [S_len]; show _ ≤ 16777216; omega, _, _, rfl, rfl, p, n, _, rfl, by rw [S_len]; omega, p1, hz, fun i2 H2 _ _ b2 p2 => ?_⟩
      refine ⟨_, rfl, _, rfl, by rw [S_len]; show _ ≤ 16777216; omega, ?_⟩
      obtain ⟨l', e1, e2, e3⟩ := cut_some z (some i2) none
      rw [e1]
      exact k _ H2 (by omega) (fun c hc => ha c (e3 c hc)) (b1.trans b2) p2
    refine ⟨_, rfl, rfl, _, rfl, ite2' (fun _ => ?_) (fun _ => ?_)⟩
    · refine ⟨_, rfl, _, rfl, p, n, rfl, p1, hz, fun l H2 l1 l2 b2 p2 => ?_⟩
      refine ⟨_, _, rfl, rfl, by rw [S_len, S_len]; show _ ≤ 16777216; omega, ?_⟩
      rw [S_cat]
      refine k _ H2 (by rw [List.length_append]; omega) (fun c hc => ?_) (b1.trans b2) p2
      rcases List.mem_append.mp hc with h | h
      · exact ha c h
      · exact l2 c h
    refine ⟨_, rfl, rfl, _, rfl, ite2' (fun _ => ?_) (fun _ => ?_)⟩
    · have e : ("fedcba" : Str) = S [102, 101, 100, 99, 98, 97] := by decide +kernel
      refine ⟨⟨_, rfl⟩, S [102, 101, 100, 99, 98, 97], congrArg V.str e, join_txt K (z := [102, 101, 100, 99, 98, 97]) (fun c => !decide (c ∈ z)) (Nat.le_of_ble_eq_true rfl) (Nat.le_of_ble_eq_true rfl) (fun _ => rfl) (fun c H' R _ _ kk => ⟨_, rfl, _, rfl, c, S z, rfl, rfl, _, rfl, kk _ (Same.refl _)⟩) fun D1 H2 ys s1 h2 h3 h4 => ⟨_, D1, ys, rfl, rfl, .inl h2, h3, ?_⟩⟩
      rw [show Txt.join ("" : Str) ys = _ from h4]
      have hl := List.length_filter_le (fun c => !decide (c ∈ z)) [102, 101, 100, 99, 98, 97]
      exact k _ H2 (Nat.le_trans hl (Nat.le_of_ble_eq_true rfl)) (fun c hc => by
        have := (List.mem_filter.mp hc).1
        simp at this
        simp [AL]
        omega) (b1.trans (But.of s1)) (p1.to s1)
    · exact ⟨_, rfl, p, n, rfl, p1, hz, fun l H2 l1 l2 b2 p2 => k l H2 (by omega) l2 (b1.trans b2) p2⟩
theorem atI_some {l : List Nat} {i : Int} (h0 : 0 ≤ i) (h1 : i < l.length) : ∃ c, c ∈ l ∧ atI l i = some c := by
  have hlt : i.toNat < l.length := by omega
  refine ⟨l[i.toNat], List.getElem_mem hlt, ?_⟩
  unfold atI ixN
  rw [if_pos h0]
  have : (if i.toNat < l.length then some i.toNat else none) = some i.toNat := if_pos hlt
  first
    | (rw [this]; exact List.getElem?_eq_getElem hlt)
    | (simp [h1, hlt])
theorem ok_L_char (T : Tx K mg) : Ok P w K mg base CX0 2 (MH.gl "_law_char" K) (spTxt 1 Cp) [] := by
  obtain ⟨fd, F⟩ := T.f_L_char
  refine ok_of F (F.ok sc_L_char ?_ ?_) fun _ _ _ _ _ _ us hl => match us, hl with | [_], _ => rfl
  · rintro vs H Q E ⟨p, n, rfl, _⟩
    rfl
  · rintro cdv A outer s H vs Q E hr ⟨p, n, rfl, hp, hz, k⟩
    refine ⟨_, ((pss_cons (ps_set (i := 1) sc_L_char.nd rfl (by first | exact Or.inl rfl | exact Or.inr rfl) pe_str)
  (pss_cons (ps_set (i := 1) sc_L_char.nd rfl (by first | exact Or.inl rfl | exact Or.inr rfl) (pe_op op_add_str (pv 1) pe_str))
  (pss_one (ps_ret (pe_ix ix_str (pv 1) (Z.pe_f (ok_L_draw T) hr T.g_L_draw pass0 (pa_cons (pv 0) (pa_cons pe_int pa_nil))) (fun _ _ => rfl))))))), ?_⟩
    refine ⟨_, rfl, _, _, rfl, rfl, by decide +kernel, ?_⟩
    refine ⟨_, rfl, _, rfl, p, n, 95, rfl, by decide, hp, hz, fun i1 H1 g0 g1 b1 p1 => ?_⟩
    obtain ⟨c, h1, h2⟩ := atI_some (l := ((" !\"#$&'()*+,-./0123456789:;<=>?@ABCDEFGHIJKLMNOPQRSTUVWXYZ[\\]^_`" : Str) ++ ("abcdefghijklmnopqrstuvwxyz{|}~\n" : Str)).cps.toList) g0 (by
      have e : (((" !\"#$&'()*+,-./0123456789:;<=>?@ABCDEFGHIJKLMNOPQRSTUVWXYZ[\\]^_`" : Str) ++ ("abcdefghijklmnopqrstuvwxyz{|}~\n" : Str)).cps.toList.length : Int) = 95 := by decide +kernel
      rw [e]
      exact g1)
    refine ⟨_, i1, c, rfl, rfl, by decide +kernel, h2, k [c] H1 (Nat.le_of_ble_eq_true rfl) (fun x hx => ?_) b1 p1⟩
    rw [List.mem_singleton.mp hx]
    have : ∀ x ∈ ((" !\"#$&'()*+,-./0123456789:;<=>?@ABCDEFGHIJKLMNOPQRSTUVWXYZ[\\]^_`" : Str) ++ ("abcdefghijklmnopqrstuvwxyz{|}~\n" : Str)).cps.toList, x < 1114112 := by decide +kernel
    exact this c h1
theorem _root_.Z.Cp.cat {a b : List Nat} (h1 : Cp a) (h2 : Cp b) : Cp (a ++ b) := fun c hc => by
  rcases List.mem_append.mp hc with h | h
  · exact h1 c h
  · exact h2 c h
theorem _root_.Z.Cp.sub {a b : List Nat} (h1 : Cp a) (h : ∀ c ∈ b, c ∈ a) : Cp b := fun c hc => h1 c (h c hc)
def spBent : Sp := fun vs H Q E => ∃ p n z, vs = [.ref p, .str (S z)] ∧ PoolN n H p ∧ n ≤ 16777216 ∧ z.length ≤ 200 ∧ Cp z ∧ ∀ l H', l.length ≤ 4 * z.length + 4 → Cp l → But p H H' → PoolN n H' p → Q (.str (S l)) H'
theorem ok_L_bent (T : Tx K mg) : Ok P w K mg base CX0 3 (MH.gl "_law_bent" K) spBent [] := by
  obtain ⟨fd, F⟩ := T.f_L_bent
  refine ok_of F (F.ok sc_L_bent ?_ ?_) fun _ _ _ _ _ _ us hl => match us, hl with | [_, _], _ => rfl
  · rintro vs H Q E ⟨p, n, z, rfl, _⟩
    rfl
  · rintro cdv A outer s H vs Q E hr ⟨p, n, z, rfl, hp, hz, hl, ha, k⟩
    refine ⟨_, ((pss_cons (ps_set (i := 2) sc_L_bent.nd rfl (by first | exact Or.inl rfl | exact Or.inr rfl) (Z.pe_f (ok_L_draw T) hr T.g_L_draw pass0 (pa_cons (pv 0) (pa_cons pe_int pa_nil))))
  (pss_cons (ps_set (i := 3) sc_L_bent.nd rfl (by first | exact Or.inl rfl | exact Or.inr rfl) (Z.pe_f (ok_L_draw T) hr T.g_L_draw pass0 (pa_cons (pv 0) (pa_cons (pe_op op_add (pe_callB call_len_str (by rfl) T.free_len (by decide +kernel) (pa_cons (pv 1) pa_nil)) pe_int) pa_nil))))
  (pss_cons (ps_set (i := 4) sc_L_bent.nd rfl (by first | exact Or.inl rfl | exact Or.inr rfl) (Z.pe_f (ok_L_char T) hr T.g_L_char pass0 (pa_cons (pv 0) pa_nil)))
  (pss_cons (ps_set (i := 5) sc_L_bent.nd rfl (by first | exact Or.inl rfl | exact Or.inr rfl) (pe_slice sl_str (pv 1) (po_some (pv 3)) (po_some (pe_op op_add (pv 3) pe_int))))
  (pss_cons (ps_if (pt_cmpR op_eq (pv 2) pe_int (nomark _))
    (pss_one (ps_ret (pe_op op_add_str (pe_op op_add_str (pe_slice sl_str (pv 1) po_none (po_some (pv 3))) (pv 4)) (pe_slice sl_str (pv 1) (po_some (pv 3)) po_none))))
    pss_nil)
  (pss_cons (ps_if (pt_cmpR op_eq (pv 2) pe_int (nomark _))
    (pss_one (ps_ret (pe_op op_add_str (pe_slice sl_str (pv 1) po_none (po_some (pv 3))) (pe_slice sl_str (pv 1) (po_some (pe_op op_add (pv 3) pe_int)) po_none))))
    pss_nil)
  (pss_cons (ps_if (pt_cmpR op_eq (pv 2) pe_int (nomark _))
    (pss_one (ps_ret (pe_op op_add_str (pe_op op_add_str (pe_slice sl_str (pv 1) po_none (po_some (pv 3))) (pv 5)) (pe_slice sl_str (pv 1) (po_some (pv 3)) po_none))))
    pss_nil)
  (pss_cons (ps_if (pt_cmpR op_eq (pv 2) pe_int (nomark _))
    (pss_one (ps_ret (pe_op op_add_str (pe_op op_add_str (pe_op op_add_str (pe_slice sl_str (pv 1) po_none (po_some (pv 3))) (pe_slice sl_str (pv 1) (po_some (pe_op op_add (pv 3) pe_int)) (po_some (pe_op op_add (pv 3) pe_int)))) (pv 5)) (pe_slice sl_str (pv 1) (po_some (pe_op op_add (pv 3) pe_int)) po_none))))
    pss_nil)
  (pss_cons (ps_if (pt_cmpR op_eq (pv 2) pe_int (nomark _))
    (pss_one (ps_ret (Z.pe_revS (pv 1))))
    pss_nil)
  (pss_one (ps_ret (pe_op op_add_str (pe_op op_add_str (pe_slice sl_str (pv 1) po_none (po_some (pv 3))) (pv 4)) (pe_slice sl_str (pv 1) (po_some (pe_op op_add (pv 3) pe_int)) po_none)))))))))))))), ?_⟩
    have hz6 : (S z).length ≤ sizeLine := by rw [S_len]; show _ ≤ 16777216; omega
    refine ⟨_, rfl, p, n, 6, rfl, by decide, hp, hz, fun i1 H1 _ _ b1 p1 => ?_⟩
    refine ⟨_, rfl, _, rfl, _, rfl, hz6, _, _, rfl, rfl, p, n, _, rfl, by rw [S_len]; omega, p1, hz, fun i2 H2 _ _ b2 p2 => ?_⟩
    refine ⟨_, rfl, p, n, rfl, p2, hz, fun ch H3 c1 c2 b3 p3 => ?_⟩
    refine ⟨_, rfl, _, rfl, _, rfl, _, rfl, _, _, rfl, rfl, _, rfl, _, rfl, hz6, ?_⟩
    obtain ⟨h, he, h1, h2⟩ := cut_some z (some i2) (some (i2 + 1))
    obtain ⟨u, ue, u1, u2⟩ := cut_some z none (some i2)
    obtain ⟨v, ve, v1, v2⟩ := cut_some z (some i2) none
    obtain ⟨x, xe, x1, x2⟩ := cut_some z (some (i2 + 1)) none
    obtain ⟨y, ye, y1, y2⟩ := cut_some z (some (i2 + 1)) (some (i2 + 2))
    obtain ⟨t, te, t1, t2⟩ := cut_some z (some (i2 + 2)) none
    have bb := (b1.trans b2).trans b3
    have sz : ∀ a b : List Nat, a.length + b.length ≤ 4000 → (S a).length + (S b).length ≤ sizeLine := fun a b h => by
      rw [S_len, S_len]
      show _ ≤ 16777216
      omega
    have fin : ∀ l : List Nat, l.length ≤ 4 * z.length + 4 → Cp l → Q (.str (S l)) H3 := fun l h1 h2 => k l H3 h1 h2 bb p3
    rw [he]
    refine ⟨_, rfl, rfl, _, rfl, ite2' (fun _ => ?_) (fun _ => ?_)⟩
    · refine ⟨_, rfl, _, rfl, _, rfl, _, rfl, hz6, ?_⟩
      rw [ue]
      refine ⟨_, rfl, _, _, rfl, rfl, sz _ _ (by omega), ?_⟩
      rw [S_cat]
      refine ⟨_, rfl, _, rfl, _, rfl, _, rfl, hz6, ?_⟩
      rw [ve]
      refine ⟨_, _, rfl, rfl, sz _ _ (by rw [List.length_append]; omega), ?_⟩
      rw [S_cat]
      exact fin _ (by simp only [List.length_append]; omega) (((Cp.sub ha u2).cat c2).cat (Cp.sub ha v2))
    refine ⟨_, rfl, rfl, _, rfl, ite2' (fun _ => ?_) (fun _ => ?_)⟩
    · refine ⟨_, rfl, _, rfl, _, rfl, _, rfl, hz6, ?_⟩
      rw [ue]
      refine ⟨_, rfl, _, rfl, _, _, rfl, rfl, _, rfl, _, rfl, hz6, ?_⟩
      rw [xe]
      refine ⟨_, _, rfl, rfl, sz _ _ (by omega), ?_⟩
      rw [S_cat]
      exact fin _ (by simp only [List.length_append]; omega) ((Cp.sub ha u2).cat (Cp.sub ha x2))
    refine ⟨_, rfl, rfl, _, rfl, ite2' (fun _ => ?_) (fun _ => ?_)⟩
    · refine ⟨_, rfl, _, rfl, _, rfl, _, rfl, hz6, ?_⟩
      rw [ue]
      refine ⟨_, rfl, _, _, rfl, rfl, sz _ _ (by omega), ?_⟩
      rw [S_cat]
      refine ⟨_, rfl, _, rfl, _, rfl, _, rfl, hz6, ?_⟩
      rw [ve]
      refine ⟨_, _, rfl, rfl, sz _ _ (by rw [List.length_append]; omega), ?_⟩
      rw [S_cat]
      exact fin _ (by simp only [List.length_append]; omega) (((Cp.sub ha u2).cat (Cp.sub ha h2)).cat (Cp.sub ha v2))
    refine ⟨_, rfl, rfl, _, rfl, ite2' (fun _ => ?_) (fun _ => ?_)⟩
    · refine ⟨_, rfl, _, rfl, _, rfl, _, rfl, hz6, ?_⟩
      rw [ue]
      refine ⟨_, rfl, _, rfl, _, _, rfl, rfl, _, rfl, _, rfl, _, _, rfl, rfl, _, rfl, _, rfl, hz6, ?_⟩
      rw [ye]
      refine ⟨_, _, rfl, rfl, sz _ _ (by omega), ?_⟩
      rw [S_cat]
      refine ⟨_, rfl, _, _, rfl, rfl, sz _ _ (by rw [List.length_append]; omega), ?_⟩
      rw [S_cat]
      refine ⟨_, rfl, _, rfl, _, _, rfl, rfl, _, rfl, _, rfl, hz6, ?_⟩
      rw [te]
      refine ⟨_, _, rfl, rfl, sz _ _ (by simp only [List.length_append]; omega), ?_⟩
      rw [S_cat]
      exact fin _ (by simp only [List.length_append]; omega) ((((Cp.sub ha u2).cat (Cp.sub ha y2)).cat (Cp.sub ha h2)).cat (Cp.sub ha t2))
    refine ⟨_, rfl, rfl, _, rfl, ite2' (fun _ => ?_) (fun _ => ?_)⟩
    · exact ⟨_, rfl, z, rfl, by show _ ≤ 16777216; omega, fin _ (by rw [List.length_reverse]; omega) (Cp.sub ha fun c hc => List.mem_reverse.mp hc)⟩
    · refine ⟨_, rfl, _, rfl, _, rfl, _, rfl, hz6, ?_⟩
      rw [ue]
      refine ⟨_, rfl, _, _, rfl, rfl, sz _ _ (by omega), ?_⟩
      rw [S_cat]
      refine ⟨_, rfl, _, rfl, _, _, rfl, rfl, _, rfl, _, rfl, hz6, ?_⟩
      rw [xe]
      refine ⟨_, _, rfl, rfl, sz _ _ (by rw [List.length_append]; omega), ?_⟩
      rw [S_cat]
      exact fin _ (by simp only [List.length_append]; omega) (((Cp.sub ha u2).cat c2).cat (Cp.sub ha x2))
end
end K00

set_option Elab.async false
set_option linter.all false
set_option maxRecDepth 100000
set_option maxHeartbeats 2000000
namespace K00
open PySem PySem.Spec PyProof.Rows L2 SX Z
def spSet : Sp := fun vs H Q E => ∃ l, vs = [.str (S l)] ∧ ∀ H', Same H H' → Q (.str (S (setOf l))) H'
/-- it is a Marks of the letters due -/
def spIs (K : PySem.W.Frag) : Sp := fun vs H Q E => ∃ a f, vs = [.ref a, .str (S (AL.filter f))] ∧ MkF K H a f ∧ ∀ H', Same H H' → Q (.bl true) H'
theorem txt_eq (l : List Nat) : l ++ (List.replicate (if l.isEmpty = true then (1 : Int) else 0).toNat [45]).flatten = txt l := by
  cases l with
  | nil => rfl
  | cons a r => simp [txt]
section
variable {w : World} {K : PySem.W.Frag} {mg : Str → Option Value} {base : Heap}
theorem ok_L_set (T : Tx K mg) : Ok P w K mg base CX0 1 (MH.gl "_law_set" K) spSet [] := by
  obtain ⟨fd, F⟩ := T.f_L_set
  refine ok_of F (F.ok sc_L_set ?_ ?_) fun _ _ _ _ _ _ us hl => match us, hl with | [_], _ => rfl
  · rintro vs H Q E ⟨l, rfl, _⟩
    rfl
  · rintro cdv A outer s H vs Q E hr ⟨l, rfl, k⟩
    refine ⟨_, ((pss_one (ps_ret (pe_join pe_str (pe_lc (own := [("_law_mark", 1)]) (g := gName 1) rfl sc_L_set.nd (pi_str pe_str) (blkOk_by (own := [("_law_mark", 1)]) (N := ["_law_text", "_law_mark"]) (sc := defScope s_L_set) (by decide +kernel)) (fun _ _ _ _ _ => (pg_name (i := 1) sc_L_set.nd rfl (Or.inl rfl))) (fun _ _ _ _ _ => (pts_one (pt_cmpR op_in_sign (pv 1) (pv 0) (by rfl)))) (fun _ _ _ _ _ => (pv 1))))))), ?_⟩
    have e : ("abcdef" : Str) = S AL := by decide +kernel
    refine ⟨⟨_, rfl⟩, S AL, congrArg V.str e, join_txt K (z := AL) (fun c => decide (c ∈ l)) (Nat.le_of_ble_eq_true rfl) (Nat.le_of_ble_eq_true rfl) (fun _ => rfl) (fun c H' R _ _ kk => ⟨_, rfl, _, rfl, c, S l, rfl, rfl, _, rfl, kk _ (Same.refl _)⟩) fun D1 H2 ys s1 h2 h3 h4 => ⟨_, D1, ys, rfl, rfl, .inl h2, h3, ?_⟩⟩
    rw [show Txt.join ("" : Str) ys = _ from h4]
    exact k _ s1
theorem ok_L_is (T : Tx K mg) : Ok P w K mg base CX0 3 (MH.gl "_law_is" K) (spIs K) [] := by
  obtain ⟨fd, F⟩ := T.f_L_is
  refine ok_of F (F.ok sc_L_is ?_ ?_) fun _ _ _ _ _ _ us hl => match us, hl with | [_, _], _ => rfl
  · rintro vs H Q E ⟨a, f, rfl, _⟩
    rfl
  · rintro cdv A outer s H vs Q E hr ⟨a, f, rfl, ⟨dx, h⟩, k⟩
    refine ⟨_, ((pss_cons (ps_if (PW.pt (pw_or (pt_not (pt_val (pe_callB call_isi (by rfl) T.free_isinstance (by decide +kernel) (pa_cons (pv 0) (pa_cons (pe_glob (v := .ref (MH.gl "Marks" _)) rfl T.g_Marks rfl) pa_nil))))) (pw_or1 (pt_not (pt_val (pe_callB call_isi (by rfl) T.free_isinstance (by decide +kernel) (pa_cons (pe_fld (pv 0) rfl) (pa_cons (pe_bltn (v := .ty "str") (u := .type "str") rfl T.free_str (by decide +kernel) rfl) pa_nil))))))))
    (pss_one (ps_ret pe_bl))
    pss_nil)
  (pss_cons (ps_if (PW.pt (pw_or (pt_cmpR op_ne (pe_fld (pv 0) rfl) (pv 1) (nomark _)) (pw_or1 (pt_cmpR op_ne (pe_callB (Z.call_len (ok_Marks_len T) (hr.mono (by decide)) T.m_Marks_len pass0) (by rfl) T.free_len (by decide +kernel) (pa_cons (pv 0) pa_nil)) (pe_callB call_len_str (by rfl) T.free_len (by decide +kernel) (pa_cons (pv 1) pa_nil)) (nomark _)))))
    (pss_one (ps_ret pe_bl))
    pss_nil)
  (pss_cons (ps_if (PW.pt (pw_or (pt_not (pt_val (pe_callB call_isi (by rfl) T.free_isinstance (by decide +kernel) (pa_cons (Z.pe_m0 (pv 0) T.cl_Marks T.m_Marks_text (ok_Marks_text T) hr pass0) (pa_cons (pe_bltn (v := .ty "str") (u := .type "str") rfl T.free_str (by decide +kernel) rfl) pa_nil))))) (pw_or1 (pt_cmpR op_ne (Z.pe_m0 (pv 0) T.cl_Marks T.m_Marks_text (ok_Marks_text T) hr pass0) (pe_op op_add_str (pv 1) (pe_op Z.op_mul_str pe_str (pe_callTy call_int1 (by rfl) T.free_int (by decide +kernel) (pa_cons (pe_cmpR op_eq (pv 1) pe_str (nomark _)) pa_nil)))) (nomark _)))))
    (pss_one (ps_ret pe_bl))
    pss_nil)
  (pss_cons (ps_if (pt_cmpR (op_neD hr.units) (pe_lc (own := [("_law_mark", 2)]) (g := gName 2) (tt := tYes) rfl sc_L_is.nd (OwnO.pi_own (pv 0) (it_Marks T) (hr.mono (by decide)) ⟨T.m_Marks_iter.at_, T.m_Marks_iter.fn⟩) (blkOk_by (own := [("_law_mark", 2)]) (N := ["_law_marks", "_law_due", "_law_mark"]) (sc := defScope s_L_is) (by decide +kernel)) (fun _ _ _ _ _ => (pg_name (i := 2) sc_L_is.nd rfl (Or.inl rfl))) (fun _ _ _ _ _ => pts_nil) (fun _ _ _ _ _ => (pv 2))) (pe_lc (own := [("_law_mark", 2)]) (g := gName 2) (tt := tYes) rfl sc_L_is.nd (pi_str (pv 1)) (blkOk_by (own := [("_law_mark", 2)]) (N := ["_law_marks", "_law_due", "_law_mark"]) (sc := defScope s_L_is) (by decide +kernel)) (fun _ _ _ _ _ => (pg_name (i := 2) sc_L_is.nd rfl (Or.inl rfl))) (fun _ _ _ _ _ => pts_nil) (fun _ _ _ _ _ => (pv 2))) (nomark _))
    (pss_one (ps_ret pe_bl))
    pss_nil)
  (pss_one (ps_ret (pe_cmpR op_eq (Z.pe_not_o (pv 0) (ok_Marks_bool T) (hr.mono (by decide)) T.m_Marks_bool pass0) (pe_cmpR op_eq (pv 1) pe_str (nomark _)) (nomark _))))))))), ?_⟩
    have hl := AL_len f
    refine ⟨_, rfl, _, _, _, _, true, rfl, .own _, T.ty_Marks h, T.ki_Marks_Marks, _, rfl, ?_⟩
    refine ⟨_, rfl, a, _, dx, _, _, rfl, h, T.cl_Marks, T.na_Marks_letters, lk1, _, _, _, _, true, rfl, .ty _, .base (.str _), kit_same, _, rfl, ?_⟩
    have sz : (S (AL.filter f)).length ≤ sizeLine := by
      rw [S_len]
      show _ ≤ 16777216
      omega
    have ee : decide (V.str (S (AL.filter f)) = V.str ("" : Str)) = (AL.filter f).isEmpty := by
      rw [show ("" : Str) = S [] by decide +kernel, S_eq]
      cases AL.filter f <;> rfl
    refine ⟨_, rfl, a, _, dx, _, _, rfl, h, T.cl_Marks, T.na_Marks_letters, lk1, _, rfl, rfl, ?_⟩
    rw [decide_eq_true (rfl : V.str (S (AL.filter f)) = V.str (S (AL.filter f)))]
    refine ⟨_, rfl, _, rfl, a, dx, _, rfl, h, a, f, rfl, ⟨dx, h⟩, _, rfl, by omega, by omega, _, rfl, _, rfl, sz, rfl, ?_⟩
    rw [S_len, decide_eq_true (rfl : V.int ((AL.filter f).length : Nat) = V.int ((AL.filter f).length : Nat))]
    refine ⟨_, rfl, ?_⟩
    refine ⟨_, rfl, a, dx, _, rfl, h, lkno (by decide), a, f, rfl, ⟨dx, h⟩, _, _, _, _, true, rfl, .ty _, .base (.str _), kit_same, _, rfl, ?_⟩
    refine ⟨_, rfl, a, dx, _, rfl, h, lkno (by decide), a, f, rfl, ⟨dx, h⟩, _, rfl, _, rfl, rfl, .inr ⟨_, rfl, ?_⟩⟩
    rw [ee]
    refine ⟨[45], _, congrArg V.str (by decide +kernel), rfl, by split <;> decide, by split <;> decide, by split <;> decide, _, _, rfl, rfl, ?_, ?_⟩
    · rw [S_len, S_len, List.length_flatten, List.map_replicate, List.sum_replicate_nat]
      show _ ≤ 16777216
      split <;> (simp; omega)
    rw [S_cat, txt_eq]
    refine ⟨rfl, ?_⟩
    rw [decide_eq_true (rfl : V.str (S (txt (AL.filter f))) = V.str (S (txt (AL.filter f))))]
    refine ⟨_, rfl, ?_⟩
    have cp : Cp (AL.filter f) := InAL.cp fun c hc => (List.mem_filter.mp hc).1
    refine ⟨_, rfl, a, dx, _, _, rfl, h, lk1, .inr ⟨S (AL.filter f), rfl, list_txt (fun _ => true) (by show _ < _; omega) (Nat.le_of_ble_eq_true rfl) (fun _ => rfl) (fun c H' R _ _ kk => kk _ (Same.refl _)) fun D1 H1 s1 n1 e1 => ?_⟩⟩
    refine ⟨_, rfl, S (AL.filter f), rfl, list_txt (fun _ => true) (by show _ < _; omega) (Nat.le_of_ble_eq_true rfl) (fun _ => rfl) (fun c H' R _ _ kk => kk _ (Same.refl _)) fun D2 H2 s2 n2 e2 => ?_⟩
    refine rd_signs_ne (a := (AL.filter f).filter fun _ => true) (b := (AL.filter f).filter fun _ => true) (Cp.sub cp fun c hc => (List.mem_filter.mp hc).1) (Cp.sub cp fun c hc => (List.mem_filter.mp hc).1) (s2 _ _ e1) e2 ?_
    rw [decide_eq_true rfl]
    refine ⟨_, rfl, ?_⟩
    have h2 := (s1.trans s2) _ _ h
    refine ⟨_, rfl, a, dx, _, rfl, h2, a, f, rfl, ⟨dx, h2⟩, _, rfl, _, rfl, rfl, rfl, ?_⟩
    rw [ee, Bool.not_not, decide_eq_true rfl]
    exact k _ (s1.trans s2)
end
end K00

set_option Elab.async false
set_option linter.all false
set_option maxRecDepth 100000
set_option maxHeartbeats 2000000
namespace K00
open PySem PySem.Spec PyProof.Rows L2 SX Z
def spMembers (K : PySem.W.Frag) : Sp := fun vs H Q E => ∃ a f l, vs = [.ref a, .str (S (AL.filter f)), .str (S l)] ∧ MkF K H a f ∧ l.length ≤ 1000 ∧ ∀ H', Same H H' → Q (.bl true) H'
section
variable {w : World} {K : PySem.W.Frag} {mg : Str → Option Value} {base : Heap}
theorem ok_L_members (T : Tx K mg) : Ok P w K mg base CX0 3 (MH.gl "_law_members" K) (spMembers K) [] := by
  obtain ⟨fd, F⟩ := T.f_L_members
  refine ok_of F (F.ok sc_L_members ?_ ?_) fun _ _ _ _ _ _ us hl => match us, hl with | [_, _, _], _ => rfl
  · rintro vs H Q E ⟨a, f, l, rfl, _⟩
    rfl
  · rintro cdv A outer s H vs Q E hr ⟨a, f, l, rfl, ⟨dx, h⟩, hl, k⟩
    refine ⟨_, PSs.nox ((pss_cons (ps_for PassesOwn.never rfl (pi_str pe_str) (pg_name (i := 3) sc_L_members.nd rfl (Or.inl rfl))
    (pss_one (ps_if (pt_cmpR op_ne (pe_cmpR (Z.op_in (ok_Marks_contains T) (hr.mono (by decide)) T.m_Marks_contains pass0) (pv 3) (pv 0) rfl) (pe_cmpR op_in_sign (pv 3) (pv 1) (by rfl)) (nomark _))
      (pss_one (ps_ret pe_bl))
      pss_nil)))
  (pss_cons (ps_for PassesOwn.never rfl (pi_list (pe_lst (pa_cons pe_str (pa_cons pe_str (pa_cons pe_str (pa_cons pe_str (pa_cons pe_str (pa_cons pe_str (pa_cons pe_str (pa_cons pe_str (pa_cons pe_str (pa_cons (pe_op op_add_str (pv 2) pe_str) pa_nil)))))))))))) (pg_name (i := 4) sc_L_members.nd rfl (Or.inl rfl))
    (pss_one (ps_if (pt_cmpR (Z.op_in (ok_Marks_contains T) (hr.mono (by decide)) T.m_Marks_contains pass0) (pv 4) (pv 0) rfl)
      (pss_one (ps_ret pe_bl))
      pss_nil)))
  (pss_one (ps_ret pe_bl))))), ?_⟩
    refine ⟨S AL, congrArg V.str (by decide +kernel), for_it (w := walk_str (z := S AL)) (fun i σ H' => ∃ v3 v4, σ = [some (.ref a), some (.str (S (AL.filter f))), some (.str (S l)), v3, v4] ∧ H' = H) ⟨_, _, rfl, rfl⟩ (fun _ _ _ _ _ => trivial) ?_ ?_⟩
    · rintro i x σ H' H1 hi ⟨v3, v4, rfl, rfl⟩ ⟨rfl, c, hc, rfl⟩
      have hc' : AL[i]? = some c := by simpa [S] using hc
      have hm : c ∈ AL := List.mem_of_getElem? hc'
      refine ⟨_, rfl, _, rfl, a, dx, _, rfl, h, a, f, [c], rfl, ⟨dx, h⟩, (Nat.le_of_ble_eq_true rfl), _, rfl, _, rfl, _, rfl, c, _, rfl, rfl, rfl, ?_⟩
      have e : (false ^^ isIn [c] (AL.filter f)) = decide (c ∈ (S (AL.filter f)).cps.toList) := by
        show (false ^^ (decide (c ∈ AL) && decide (c ∈ AL.filter f))) = decide (c ∈ AL.filter f)
        rw [decide_eq_true hm, Bool.true_and, Bool.false_xor]
      rw [e, decide_eq_true rfl]
      exact ⟨_, rfl, _, _, rfl, rfl⟩
    · rintro σ H' ⟨v3, v4, rfl, rfl⟩
      refine ⟨_, rfl, _, _, rfl, rfl, by rw [S_len]; show _ + 2 ≤ 16777216; omega, (Nat.le_of_ble_eq_true rfl), fun D hD => ⟨D, rfl, ⟨_, SqL.of upd_same⟩, ?_⟩⟩
      have hall : ∀ x ∈ ([.str "", .str "-", .str "A", .str "g", .str "aa", .str "ab", .str "fa", .str "a\n", .str "abcdef", .str (S l ++ "a-")] : List V), ∃ t, x = .str (S t) ∧ t.length ≤ 16777216 ∧ ∀ m, isIn t m = false := by
        intro x hx
        simp only [List.mem_cons, List.not_mem_nil, or_false] at hx
        rcases hx with rfl | rfl | rfl | rfl | rfl | rfl | rfl | rfl | rfl | rfl
        · exact ⟨[], congrArg V.str (by decide +kernel), (Nat.le_of_ble_eq_true rfl), fun _ => rfl⟩
        · exact ⟨[45], congrArg V.str (by decide +kernel), (Nat.le_of_ble_eq_true rfl), fun _ => rfl⟩
        · exact ⟨[65], congrArg V.str (by decide +kernel), (Nat.le_of_ble_eq_true rfl), fun _ => rfl⟩
        · exact ⟨[103], congrArg V.str (by decide +kernel), (Nat.le_of_ble_eq_true rfl), fun _ => rfl⟩
        · exact ⟨[97, 97], congrArg V.str (by decide +kernel), (Nat.le_of_ble_eq_true rfl), fun _ => rfl⟩
        · exact ⟨[97, 98], congrArg V.str (by decide +kernel), (Nat.le_of_ble_eq_true rfl), fun _ => rfl⟩
        · exact ⟨[102, 97], congrArg V.str (by decide +kernel), (Nat.le_of_ble_eq_true rfl), fun _ => rfl⟩
        · exact ⟨[97, 10], congrArg V.str (by decide +kernel), (Nat.le_of_ble_eq_true rfl), fun _ => rfl⟩
        · exact ⟨AL, congrArg V.str (by decide +kernel), (Nat.le_of_ble_eq_true rfl), fun _ => rfl⟩
        · refine ⟨l ++ [97, 45], congrArg V.str ?_, by rw [List.length_append]; show _ + 2 ≤ _; omega, fun m => ?_⟩
          · rw [show ("a-" : Str) = S [97, 45] by decide +kernel, S_cat]
          · unfold isIn
            split
            · rename_i c e
              have := congrArg List.length e
              rw [List.length_append] at this
              have e2 : ([97, 45] : List Nat).length = 2 := rfl
              have e3 : ([c] : List Nat).length = 1 := rfl
              omega
            · rfl
      refine for_list (K := K) (a := D) (xs := [.str "", .str "-", .str "A", .str "g", .str "aa", .str "ab", .str "fa", .str "a\n", .str "abcdef", .str (S l ++ "a-")]) (fun i σ H1 => ∃ v3 v4, σ = [some (.ref a), some (.str (S (AL.filter f))), some (.str (S l)), v3, v4] ∧ H1 = upd H' D (.lst [.str "", .str "-", .str "A", .str "g", .str "aa", .str "ab", .str "fa", .str "a\n", .str "abcdef", .str (S l ++ "a-")])) ⟨_, _, rfl, rfl⟩ (fun i σ H1 _ ⟨_, _, _, e⟩ => by rw [e]; exact SqL.of upd_same) ?_ ?_
      · rintro i x σ H1 hi ⟨v3, v4, rfl, rfl⟩
        obtain ⟨t, rfl, t1, t2⟩ := hall x (List.mem_of_getElem? hi)
        have h1 := same_new (o := .lst [.str "", .str "-", .str "A", .str "g", .str "aa", .str "ab", .str "fa", .str "a\n", .str "abcdef", .str (S l ++ "a-")]) hD _ _ h
        refine ⟨_, rfl, _, rfl, a, dx, _, rfl, h1, a, f, t, rfl, ⟨dx, h1⟩, t1, _, rfl, ?_⟩
        rw [t2]
        exact ⟨_, rfl, _, _, rfl, rfl⟩
      · rintro σ H1 ⟨v3, v4, rfl, rfl⟩
        exact k _ (same_new hD)
end
end K00

set_option Elab.async false
set_option linter.all false
set_option maxRecDepth 100000
set_option maxHeartbeats 2000000
namespace K00
open PySem PySem.Spec PyProof.Rows L2 SX Z
/-! ### expressions that make things, by what they make -/
/-- from H on, t makes something of which φ holds, and leaves all that was -/
def Mks (φ : Hp → V → Prop) (t : TE) (σ : L2.St) (H : Hp) : Prop := ∀ H1, Same H H1 → ∀ R : VK, (∀ x H', Same H1 H' → φ H' x → R x H') → t σ H1 R
theorem Mks.to {φ : Hp → V → Prop} {t : TE} {σ : L2.St} {H H' : Hp} (h : Mks φ t σ H) (s : Same H H') : Mks φ t σ H' := fun H1 s1 => h H1 (s.trans s1)
theorem Mks.mono {φ ψ : Hp → V → Prop} {t : TE} {σ : L2.St} {H : Hp} (h : Mks φ t σ H) (k : ∀ H x, φ H x → ψ H x) : Mks ψ t σ H := fun H1 s R q => h H1 s R fun x H' s' p => q x H' s' (k _ _ p)
def IsM (K : PySem.W.Frag) (f : Nat → Bool) : Hp → V → Prop := fun H x => ∃ a, x = .ref a ∧ MkF K H a f
def IsV (v : V) : Hp → V → Prop := fun _ x => x = v
theorem IsM.to {K : PySem.W.Frag} {f : Nat → Bool} {H H' : Hp} {x : V} (h : IsM K f H x) (s : Same H H') : IsM K f H' x := let ⟨a, e, m⟩ := h; ⟨a, e, m.to s⟩
def Row (K : PySem.W.Frag) : Hp → V → Prop := fun H x => ∃ t a f, x = .ref t ∧ H t = some (.tup [.ref a, .str (S (AL.filter f))]) ∧ MkF K H a f
theorem Row.to {K : PySem.W.Frag} {H H' : Hp} {x : V} (h : Row K H x) (s : Same H H') : Row K H' x := let ⟨t, a, f, e, q, m⟩ := h; ⟨t, a, f, e, s _ _ q, m.to s⟩
section
variable {K : PySem.W.Frag} {σ : L2.St} {H : Hp} {f g : Nat → Bool} {t u : TE}
theorem mVarM {i : Nat} {a : Addr} (e : σ[i]? = some (some (.ref a))) (m : MkF K H a f) : Mks (IsM K f) (tVar i) σ H := fun H1 s R q => ⟨_, e, q _ _ (Same.refl _) ⟨a, rfl, m.to s⟩⟩
theorem mVar {i : Nat} {v : V} (e : σ[i]? = some (some v)) : Mks (IsV v) (tVar i) σ H := fun H1 s R q => ⟨_, e, q _ _ (Same.refl _) rfl⟩
theorem mC {v : V} : Mks (IsV v) (tC v) σ H := fun H1 s R q => q _ _ (Same.refl _) rfl
theorem mTwo {op : Bool → Bool → Bool} (ht : Mks (IsM K f) t σ H) (hu : Mks (IsM K g) u σ H) : Mks (IsM K fun c => op (f c) (g c)) (tOp (OwnO.rBin (cM K) (cM K) (spTwo K op) [] E0) t u) σ H := by
  intro H1 s R q
  refine ht H1 s _ fun x H2 s2 ⟨a, ea, ma⟩ => ?_
  refine hu H2 (s.trans s2) _ fun y H3 s3 ⟨b, eb, mb⟩ => ?_
  subst ea eb
  have ma' := ma.to s3
  obtain ⟨dx, h1⟩ := ma'
  obtain ⟨dy, h2⟩ := mb
  exact ⟨a, b, dx, dy, _, _, rfl, rfl, h1, h2, a, b, f, g, rfl, ⟨dx, h1⟩, ⟨dy, h2⟩, fun p H4 s4 _ m => q _ _ ((s2.trans s3).trans s4) ⟨p, rfl, m⟩⟩
theorem mInv (ht : Mks (IsM K f) t σ H) : Mks (IsM K fun c => !f c) (tUn (OwnO.rUn (cM K) (spInv K) [] E0) t) σ H := by
  intro H1 s R q
  refine ht H1 s _ fun x H2 s2 ⟨a, ea, ma⟩ => ?_
  subst ea
  obtain ⟨dx, h1⟩ := ma
  exact ⟨a, dx, _, rfl, h1, a, f, rfl, ⟨dx, h1⟩, fun p H4 s4 _ m => q _ _ (s2.trans s4) ⟨p, rfl, m⟩⟩
theorem mRow {z : V} (ht : Mks (IsM K f) t σ H) (hu : Mks (IsV z) u σ H) (hz : z = .str (S (AL.filter f))) : Mks (Row K) (tTup (tCons t (tCons u tNil))) σ H := by
  subst hz
  intro H1 s R q
  refine ht H1 s _ fun x H2 s2 ⟨a, ea, ma⟩ => ?_
  refine hu H2 (s.trans s2) _ fun y H3 s3 e => ?_
  subst ea e
  exact ⟨(Nat.le_of_ble_eq_true rfl), fun p hp => q _ _ ((s2.trans s3).trans (same_new hp)) ⟨p, a, f, rfl, upd_same, (ma.to s3).to (same_new hp)⟩⟩
/-! ### lists of such -/
def RowsOf (φ : Hp → V → Prop) (n : Nat) : Hp → V → Prop := fun H x => ∃ l xs, x = .ref l ∧ H l = some (.lst xs) ∧ xs.length ≤ n ∧ ∀ x ∈ xs, φ H x
def Keeps (φ : Hp → V → Prop) : Prop := ∀ H H' x, φ H x → Same H H' → φ H' x
theorem RowsOf.keeps {φ : Hp → V → Prop} (hφ : Keeps φ) (n : Nat) : Keeps (RowsOf φ n) := fun H H' x ⟨l, xs, e, h, hl, ha⟩ s => ⟨l, xs, e, s _ _ h, hl, fun y hy => hφ _ _ _ (ha y hy) s⟩
/-- the values of a list of expressions -/
def Mka (φ : Hp → V → Prop) (n : Nat) (t : TA) (σ : L2.St) (H : Hp) : Prop := ∀ H1, Same H H1 → ∀ R : List V → Hp → Prop, (∀ xs H', Same H1 H' → xs.length = n → (∀ x ∈ xs, φ H' x) → R xs H') → t σ H1 R
theorem maNil {φ : Hp → V → Prop} : Mka φ 0 tNil σ H := fun H1 s R q => q [] _ (Same.refl _) rfl fun x hx => nomatch hx
theorem maCons {φ : Hp → V → Prop} (hφ : Keeps φ) {n : Nat} {r : TA} (ht : Mks φ t σ H) (hr : Mka φ n r σ H) : Mka φ (n + 1) (tCons t r) σ H := by
  intro H1 s R q
  refine ht H1 s _ fun x H2 s2 hx => ?_
  refine hr H2 (s.trans s2) _ fun xs H3 s3 hl hxs => ?_
  refine q _ _ (s2.trans s3) (by rw [List.length_cons, hl]) fun y hy => ?_
  rcases List.mem_cons.mp hy with rfl | hy
  · exact hφ _ _ _ hx s3
  · exact hxs y hy
theorem mLst {φ : Hp → V → Prop} (hφ : Keeps φ) {n : Nat} {r : TA} (hn : n ≤ 16777216) (hr : Mka φ n r σ H) : Mks (RowsOf φ n) (tLst r) σ H := by
  intro H1 s R q
  refine hr H1 s _ fun xs H2 s2 hl hxs => ?_
  exact ⟨by rw [hl]; exact hn, fun p hp => q _ _ (s2.trans (same_new hp)) ⟨p, xs, rfl, upd_same, Nat.le_of_eq hl, fun x hx => hφ _ _ _ (hxs x hx) (same_new hp)⟩⟩
theorem mCat {φ : Hp → V → Prop} (hφ : Keeps φ) {n m : Nat} (hn : n + m ≤ 16777216) (ht : Mks (RowsOf φ n) t σ H) (hu : Mks (RowsOf φ m) u σ H) : Mks (RowsOf φ (n + m)) (tOp rCat t u) σ H := by
  intro H1 s R q
  refine ht H1 s _ fun x H2 s2 hx => ?_
  refine hu H2 (s.trans s2) _ fun y H3 s3 hy => ?_
  obtain ⟨l, xs, rfl, h1, h2, h3⟩ := RowsOf.keeps hφ n _ _ _ hx s3
  obtain ⟨l', ys, rfl, g1, g2, g3⟩ := hy
  refine ⟨l, l', xs, ys, rfl, rfl, h1, g1, by show _ ≤ 16777216; omega, fun p hp => q _ _ ((s2.trans s3).trans (same_new hp)) ⟨p, xs ++ ys, rfl, upd_same, by rw [List.length_append]; omega, fun x hx => ?_⟩⟩
  rcases List.mem_append.mp hx with h | h
  · exact hφ _ _ _ (h3 x h) (same_new hp)
  · exact hφ _ _ _ (g3 x h) (same_new hp)
/-- a name is set to what is made -/
theorem mSet {φ : Hp → V → Prop} {i : Nat} {D : Ends} (ht : Mks φ t σ H) (k : ∀ x H', Same H H' → φ H' x → D.nx (σ.set i (some x)) H') : tAsg t (gName i) D σ H := ht H (Same.refl _) _ fun x H' s h => k x H' s h
end
end K00

set_option Elab.async false
set_option linter.all false
set_option maxRecDepth 100000
set_option maxHeartbeats 4000000
namespace K00
open PySem PySem.Spec PyProof.Rows L2 SX Z
section
variable {K : PySem.W.Frag} {σ : L2.St} {H : Hp} {f g : Nat → Bool} {t u : TE}
theorem mSeq {φ : Hp → V → Prop} {i : Nat} {D : Ends} {r : TS} (ht : Mks φ t σ H) (k : ∀ x H', Same H H' → φ H' x → r D (σ.set i (some x)) H') : tSeq (tAsg t (gName i)) r D σ H := ht H (Same.refl _) _ fun x H' s h => k x H' s h
theorem mAdd {a b : List Nat} (hl : a.length + b.length ≤ 16777216) (ht : Mks (IsV (.str (S a))) t σ H) (hu : Mks (IsV (.str (S b))) u σ H) :
    Mks (IsV (.str (S (a ++ b)))) (tOp (fun x y H Q => ∃ i j, x = V.str i ∧ y = V.str j ∧ i.length + j.length ≤ sizeLine ∧ Q (V.str (i ++ j)) H) t u) σ H := by
  intro H1 s R q
  refine ht H1 s _ fun x H2 s2 e1 => ?_
  refine hu H2 (s.trans s2) _ fun y H3 s3 e2 => ?_
  refine ⟨_, _, e1, e2, by rw [S_len, S_len]; exact hl, ?_⟩
  rw [S_cat]
  exact q _ _ (s2.trans s3) rfl
theorem mSetOf {l : List Nat} (ht : Mks (IsV (.str (S l))) t σ H) : Mks (IsV (.str (S (setOf l)))) (tCall spSet [] E0 (tCons t tNil)) σ H := by
  intro H1 s R q
  refine ht H1 s _ fun x H2 s2 e1 => ?_
  subst e1
  exact ⟨l, rfl, fun H3 s3 => q _ _ (s2.trans s3) rfl⟩
theorem mJoin {z : List Nat} {i : Nat} {tt : TT} {vs : List Nat} {e : Str} (he : e = S []) (p : Nat → Bool) (hz : z.length < 16777216) (hi : i < σ.length) (hw : ∀ v, wipe ((wipe σ vs).set i (some v)) vs = wipe σ vs)
    (ht : ∀ c H' (R : Bool → Hp → Prop), c ∈ z → (∀ H2, Same H' H2 → R (p c) H2) → tt ((wipe σ vs).set i (some (.str (S [c])))) H' R) (hu : Mks (IsV (.str (S z))) t σ H) :
    Mks (IsV (.str (S (z.filter p)))) (tM1 (rJoin K) (tC (.str e)) (tLc (iStr t) (gName i) tt (tVar i) vs)) σ H := by
  subst he
  intro H1 s R q
  refine ⟨⟨_, rfl⟩, ?_⟩
  refine hu H1 s _ fun x H2 s2 e1 => ?_
  subst e1
  refine ⟨_, rfl, join_txt K p hz hi hw (fun c H' R hc _ kk => ht c H' R hc kk) fun D H' ys s3 h2 h3 h4 => ⟨S [], D, ys, rfl, rfl, .inl h2, h3, ?_⟩⟩
  rw [h4]
  exact q _ _ (s2.trans s3) rfl
theorem mCs {e : Str} {l : List Nat} (he : e = S l) : Mks (IsV (.str (S l))) (tC (.str e)) σ H := by
  subst he
  exact mC
theorem mVarK {φ : Hp → V → Prop} (hφ : Keeps φ) {i : Nat} {x : V} (e : σ[i]? = some (some x)) (h : φ H x) : Mks φ (tVar i) σ H := fun H1 s R q => ⟨_, e, q _ _ (Same.refl _) (hφ _ _ _ h s)⟩
theorem mFor {φ : Hp → V → Prop} (hφ : Keeps φ) {n : Nat} {gg : TG} {tb r : TS} {D : Ends} (ht : Mks (RowsOf φ n) t σ H)
    (k : ∀ l xs H1, Same H H1 → H1 l = some (.lst xs) → (∀ x ∈ xs, φ H1 x) → ∃ Pv : Nat → L2.St → Hp → Prop, Pv 0 σ H1 ∧ (∀ i σ' H', Pv i σ' H' → Same H1 H') ∧
      (∀ i x σ' H', x ∈ xs → Pv i σ' H' → gg x σ' H' fun σ2 H2 => tb { nx := Pv (i + 1), rt := D.rt, bk := r D, ct := Pv (i + 1) } σ2 H2) ∧ ∀ i σ' H', Pv i σ' H' → r D σ' H') : tSeq (tFor (iList K t) gg tb) r D σ H := by
  refine ht H (Same.refl _) _ fun x H1 s1 ⟨l, xs, e, h1, _, h3⟩ => ?_
  subst e
  obtain ⟨Pv, p0, p1, p2, p3⟩ := k l xs H1 s1 h1 h3
  exact ⟨l, rfl, ⟨_, SqL.of h1⟩, for_list (K := K) (a := l) (xs := xs) Pv p0 (fun i σ' H' _ p => (p1 i σ' H' p).seq (SqL.of h1)) (fun i x σ' H' hi p => p2 i x σ' H' (List.mem_of_getElem? hi) p) fun σ' H' p => p3 _ _ _ p⟩
theorem rd_in {i j : Nat} {c : Nat} {z : List Nat} {σ' : L2.St} {H' : Hp} {R : Bool → Hp → Prop} (e1 : σ'[i]? = some (some (.str (S [c])))) (e2 : σ'[j]? = some (some (.str (S z)))) (q : R (decide (c ∈ z)) H') :
    tTest (tOp (fun x y H Q => ∃ c z, x = V.str { cps := #[c] } ∧ y = V.str z ∧ Q (V.bl (decide (c ∈ z.cps.toList))) H) (tVar i) (tVar j)) σ' H' R := ⟨_, e1, _, e2, c, S z, rfl, rfl, _, rfl, q⟩
theorem rd_nin {i j : Nat} {c : Nat} {z : List Nat} {σ' : L2.St} {H' : Hp} {R : Bool → Hp → Prop} (e1 : σ'[i]? = some (some (.str (S [c])))) (e2 : σ'[j]? = some (some (.str (S z)))) (q : R (!decide (c ∈ z)) H') :
    tTest (tOp (fun x y H Q => ∃ c z, x = V.str { cps := #[c] } ∧ y = V.str z ∧ Q (V.bl (!decide (c ∈ z.cps.toList))) H) (tVar i) (tVar j)) σ' H' R := ⟨_, e1, _, e2, c, S z, rfl, rfl, _, rfl, q⟩
end
theorem ALe {f g : Nat → Bool} (h : ∀ c ∈ AL, f c = g c) : V.str (S (AL.filter f)) = V.str (S (AL.filter g)) := congrArg (fun l => V.str (S l)) (List.filter_congr h)
theorem ALb {f g : Nat → Bool} (h : ∀ x y : Bool, ∀ c, f c = x → g c = y → True) : True := trivial
theorem Row.keeps {K : PySem.W.Frag} : Keeps (Row K) := fun _ _ _ h s => h.to s
theorem f_and (f g : Nat → Bool) : (AL.filter f).filter (fun c => decide (c ∈ AL.filter g)) = AL.filter fun c => f c && g c := by
  rw [List.filter_filter]
  refine List.filter_congr fun c hc => ?_
  rw [AL_in hc, Bool.and_comm]
theorem f_sub (f g : Nat → Bool) : (AL.filter f).filter (fun c => !decide (c ∈ AL.filter g)) = AL.filter fun c => f c && !g c := by
  rw [List.filter_filter]
  refine List.filter_congr fun c hc => ?_
  rw [AL_in hc, Bool.and_comm]
theorem f_not (f : Nat → Bool) : AL.filter (fun c => !decide (c ∈ AL.filter f)) = AL.filter fun c => !f c := List.filter_congr fun c hc => by rw [AL_in hc]
def spFour (K : PySem.W.Frag) : Sp := fun vs H Q E => ∃ a b f g, vs = [.ref a, .ref b, .str (S (AL.filter f)), .str (S (AL.filter g))] ∧ MkF K H a f ∧ MkF K H b g ∧ ∀ H', Same H H' → Q (.bl true) H'
end K00

set_option Elab.async false
set_option linter.all false
set_option maxRecDepth 100000
set_option maxHeartbeats 4000000
namespace K00
open PySem PySem.Spec PyProof.Rows L2 SX Z
def Row2 : Hp → V → Prop := fun H x => ∃ t b, x = .ref t ∧ H t = some (.tup [.bl b, .bl b])
theorem Row2.keeps : Keeps Row2 := fun _ _ _ ⟨t, b, e, h⟩ s => ⟨t, b, e, s _ _ h⟩
theorem none_left (l : List Nat) (p : Nat → Bool) : (l.filter fun c => !p c).isEmpty = l.all p := by
  induction l with
  | nil => rfl
  | cons a r ih =>
    rw [List.all_cons, ← ih]
    cases h : p a with
    | true => rw [List.filter_cons_of_neg (by rw [h]; exact Bool.false_ne_true), Bool.true_and]
    | false => rw [List.filter_cons_of_pos (by rw [h]; rfl), Bool.false_and]; rfl
section
variable {K : PySem.W.Frag} {σ : L2.St} {H : Hp} {f g : Nat → Bool} {t u : TE}
theorem mRow2 {b : Bool} {v : V} (ht : Mks (IsV (.bl b)) t σ H) (hu : Mks (IsV v) u σ H) (hv : v = .bl b) : Mks Row2 (tTup (tCons t (tCons u tNil))) σ H := by
  subst hv
  intro H1 s R q
  refine ht H1 s _ fun x H2 s2 e1 => ?_
  refine hu H2 (s.trans s2) _ fun y H3 s3 e => ?_
  subst e1 e
  exact ⟨(Nat.le_of_ble_eq_true rfl), fun p hp => q _ _ ((s2.trans s3).trans (same_new hp)) ⟨p, b, rfl, upd_same⟩⟩
theorem mLe (ht : Mks (IsM K f) t σ H) (hu : Mks (IsM K g) u σ H) : Mks (IsV (.bl ((AL.filter f).all fun c => decide (c ∈ AL.filter g)))) (tOp (OwnO.rCmp K (cM K) (spLe K) [] E0) t u) σ H := by
  intro H1 s R q
  refine ht H1 s _ fun x H2 s2 ⟨a, ea, ma⟩ => ?_
  refine hu H2 (s.trans s2) _ fun y H3 s3 ⟨b, eb, mb⟩ => ?_
  subst ea eb
  obtain ⟨dx, h1⟩ := ma.to s3
  obtain ⟨dy, h2⟩ := mb
  exact ⟨a, dx, _, rfl, h1, .inl ⟨b, dy, _, rfl, h2⟩, a, b, f, g, rfl, ⟨dx, h1⟩, ⟨dy, h2⟩, fun H4 s4 => q _ _ ((s2.trans s3).trans s4) rfl⟩
theorem mEqM (ht : Mks (IsM K f) t σ H) (hu : Mks (IsM K g) u σ H) : Mks (IsV (.bl (decide (AL.filter f = AL.filter g)))) (tOp (OwnO.rCmp K (cM K) (spEq K) [] E0) t u) σ H := by
  intro H1 s R q
  refine ht H1 s _ fun x H2 s2 ⟨a, ea, ma⟩ => ?_
  refine hu H2 (s.trans s2) _ fun y H3 s3 ⟨b, eb, mb⟩ => ?_
  subst ea eb
  obtain ⟨dx, h1⟩ := ma.to s3
  obtain ⟨dy, h2⟩ := mb
  exact ⟨a, dx, _, rfl, h1, .inl ⟨b, dy, _, rfl, h2⟩, a, f, _, rfl, ⟨dx, h1⟩, .inl ⟨b, g, rfl, ⟨dy, h2⟩, q _ _ (s2.trans s3) rfl⟩⟩
theorem mEqO {φ : Hp → V → Prop} (ht : Mks (IsM K f) t σ H) (hu : Mks φ u σ H) (ho : ∀ H x, φ H x → OwnO.Other K (cM K) x H ∧ ∃ ty, TyX K H x ty ∧ PySem.W.kitOne K ty (.ref (cM K)) = some false) :
    Mks (IsV (.bl false)) (tOp (OwnO.rCmp K (cM K) (spEq K) [] E0) t u) σ H := by
  intro H1 s R q
  refine ht H1 s _ fun x H2 s2 ⟨a, ea, ma⟩ => ?_
  refine hu H2 (s.trans s2) _ fun y H3 s3 hy => ?_
  subst ea
  obtain ⟨dx, h1⟩ := ma.to s3
  obtain ⟨o, ty, h2, h3⟩ := ho _ _ hy
  exact ⟨a, dx, _, rfl, h1, o, a, f, _, rfl, ⟨dx, h1⟩, .inr ⟨ty, h2, h3, q _ _ (s2.trans s3) rfl⟩⟩
theorem mMake {l : List Nat} {E : XK} (hl : l.length < 16777216) (ha : allM l = true) (ht : Mks (IsV (.str (S l))) t σ H) : Mks (IsM K fun c => decide (c ∈ l)) (tMake (cM K) (spInit K) [] E (tCons t tNil)) σ H := by
  intro H1 s R q
  refine ht H1 s _ fun x H2 s2 e1 => ?_
  subst e1
  exact fun p dp hp hdp _ => mk_at (s2) hl ha hp hdp fun H3 s3 m => ⟨rfl, q _ _ s3 ⟨p, rfl, m⟩⟩
theorem mMake0 {E : XK} {e : Str} (he : e = S []) : Mks (IsM K fun _ => false) (tMake (cM K) (spInit K) [.str e] E tNil) σ H := by
  subst he
  intro H1 s R q
  exact fun p dp hp hdp _ => mk_at (l := []) (Same.refl _) (Nat.le_of_ble_eq_true rfl) rfl hp hdp fun H3 s3 m => ⟨rfl, q _ _ s3 ⟨p, rfl, m⟩⟩
theorem mEqS {a b : List Nat} (ht : Mks (IsV (.str (S a))) t σ H) (hu : Mks (IsV (.str (S b))) u σ H) : Mks (IsV (.bl (decide (a = b)))) (tOp rEq t u) σ H := by
  intro H1 s R q
  refine ht H1 s _ fun x H2 s2 e1 => ?_
  refine hu H2 (s.trans s2) _ fun y H3 s3 e2 => ?_
  subst e1 e2
  refine ⟨rfl, ?_⟩
  rw [S_eq]
  exact q _ _ (s2.trans s3) rfl
theorem mEqNil {z : List Nat} {i : Nat} {tt : TT} {vs : List Nat} (p : Nat → Bool) (hc : Cp z) (hz : z.length < 16777216) (hi : i < σ.length) (hw : ∀ v, wipe ((wipe σ vs).set i (some v)) vs = wipe σ vs)
    (ht : ∀ c H' (R : Bool → Hp → Prop), c ∈ z → (∀ H2, Same H' H2 → R (p c) H2) → tt ((wipe σ vs).set i (some (.str (S [c])))) H' R) (hu : Mks (IsV (.str (S z))) t σ H) :
    Mks (IsV (.bl (z.filter p).isEmpty)) (tOp (rEqD K) (tLc (iStr t) (gName i) tt (tVar i) vs) (tLst tNil)) σ H := by
  intro H1 s R q
  refine hu H1 s _ fun x H2 s2 e1 => ?_
  subst e1
  refine ⟨_, rfl, list_txt p hz hi hw (fun c H' R hc _ kk => ht c H' R hc kk) fun D H' s3 nD eD => ⟨Nat.zero_le _, fun e he => ?_⟩⟩
  exact rd_signs_nil (Cp.sub hc fun c h => (List.mem_filter.mp h).1) ((same_new he) _ _ eD) upd_same (q _ _ ((s2.trans s3).trans (same_new he)) rfl)
end
theorem ALe' {f g : Nat → Bool} (h : ∀ c ∈ AL, f c = g c) : AL.filter f = AL.filter g := List.filter_congr h
theorem sub_all {f g : Nat → Bool} (h : ∀ c ∈ AL, f c = true → g c = true) : ((AL.filter f).all fun c => decide (c ∈ AL.filter g)) = true := List.all_eq_true.mpr fun c hc => by
  obtain ⟨h1, h2⟩ := List.mem_filter.mp hc
  exact decide_eq_true (List.mem_filter.mpr ⟨h1, h c h1 h2⟩)
theorem not_self (f : Nat → Bool) : decide (AL.filter f = AL.filter fun c => !f c) = false := decide_eq_false fun e => by
  have h1 : decide ((97 : Nat) ∈ AL.filter f) = f 97 := AL_in (by decide)
  have h2 : decide ((97 : Nat) ∈ AL.filter fun c => !f c) = !f 97 := AL_in (by decide)
  rw [e, h2] at h1
  cases h : f 97 <;> rw [h] at h1 <;> cases h1
section
variable {w : World} {K : PySem.W.Frag} {mg : Str → Option Value} {base : Heap}
set_option maxHeartbeats 0 in
theorem ok_L_equal (T : Tx K mg) : Ok P w K mg base CX0 7 (MH.gl "_law_equal" K) (spFour K) [] := by
  obtain ⟨fd, F⟩ := T.f_L_equal
  refine ok_of F (F.ok sc_L_equal ?_ ?_) fun _ _ _ _ _ _ us hl => match us, hl with | [_, _, _, _], _ => rfl
  · rintro vs H Q E ⟨a, b, f, g, rfl, _⟩
    rfl
  · rintro cdv A outer s H vs Q E hr ⟨a, b, f, g, rfl, ha, hb, k⟩
    refine ⟨_, PSs.nox ((pss_cons (ps_set (i := 4) sc_L_equal.nd rfl (by first | exact Or.inl rfl | exact Or.inr rfl) (pe_cmpR (op_eqD hr.units) (pe_lc (own := [("_law_mark", 9)]) (g := gName 9) rfl sc_L_equal.nd (pi_str (pv 2)) (blkOk_by (own := [("_law_mark", 9)]) (N := ["_law_a", "_law_b", "_law_one", "_law_two", "_law_less", "_law_more", "_law_rows", "_law_told", "_law_due", "_law_mark"]) (sc := defScope s_L_equal) (by decide +kernel)) (fun _ _ _ _ _ => (pg_name (i := 9) sc_L_equal.nd rfl (Or.inl rfl))) (fun _ _ _ _ _ => (pts_one (pt_cmpR op_notIn_sign (pv 9) (pv 3) (by rfl)))) (fun _ _ _ _ _ => (pv 9))) (pe_lst pa_nil) (nomark _)))
  (pss_cons (ps_set (i := 5) sc_L_equal.nd rfl (by first | exact Or.inl rfl | exact Or.inr rfl) (pe_cmpR (op_eqD hr.units) (pe_lc (own := [("_law_mark", 9)]) (g := gName 9) rfl sc_L_equal.nd (pi_str (pv 3)) (blkOk_by (own := [("_law_mark", 9)]) (N := ["_law_a", "_law_b", "_law_one", "_law_two", "_law_less", "_law_more", "_law_rows", "_law_told", "_law_due", "_law_mark"]) (sc := defScope s_L_equal) (by decide +kernel)) (fun _ _ _ _ _ => (pg_name (i := 9) sc_L_equal.nd rfl (Or.inl rfl))) (fun _ _ _ _ _ => (pts_one (pt_cmpR op_notIn_sign (pv 9) (pv 2) (by rfl)))) (fun _ _ _ _ _ => (pv 9))) (pe_lst pa_nil) (nomark _)))
  (pss_cons (ps_set (i := 6) sc_L_equal.nd rfl (by first | exact Or.inl rfl | exact Or.inr rfl) (pe_lst (pa_cons (pe_tup (pa_cons (pe_cmpR (Z.op_cle (ok_Marks_le T) (hr.mono (by decide)) T.m_Marks_le pass0) (pv 0) (pv 1) (nomark _)) (pa_cons (pv 4) pa_nil))) (pa_cons (pe_tup (pa_cons (pe_cmpR (Z.op_cle (ok_Marks_le T) (hr.mono (by decide)) T.m_Marks_le pass0) (pv 1) (pv 0) (nomark _)) (pa_cons (pv 5) pa_nil))) (pa_cons (pe_tup (pa_cons (pe_cmpR (Z.op_cle (ok_Marks_le T) (hr.mono (by decide)) T.m_Marks_le pass0) (pv 0) (pv 0) (nomark _)) (pa_cons pe_bl pa_nil))) pa_nil)))))
  (pss_cons (ps_set (i := 6) sc_L_equal.nd rfl (by first | exact Or.inl rfl | exact Or.inr rfl) (pe_op op_cat (pv 6) (pe_lst (pa_cons (pe_tup (pa_cons (pe_cmpR (Z.op_cle (ok_Marks_le T) (hr.mono (by decide)) T.m_Marks_le pass0) (Z.pe_mk0 T.mk_Marks (ok_Marks_init1 T) (hr.mono (by decide)) T.g_Marks OwnX.passF) (pv 0) (nomark _)) (pa_cons pe_bl pa_nil))) (pa_cons (pe_tup (pa_cons (pe_cmpR (Z.op_cle (ok_Marks_le T) (hr.mono (by decide)) T.m_Marks_le pass0) (pv 0) (Z.pe_mk T.mk_Marks (ok_Marks_init T) (hr.mono (by decide)) T.g_Marks OwnX.passF (pa_cons pe_str pa_nil)) (nomark _)) (pa_cons pe_bl pa_nil))) pa_nil)))))
  (pss_cons (ps_set (i := 6) sc_L_equal.nd rfl (by first | exact Or.inl rfl | exact Or.inr rfl) (pe_op op_cat (pv 6) (pe_lst (pa_cons (pe_tup (pa_cons (pe_cmpR (Z.op_ceq (ok_Marks_eq T) (hr.mono (by decide)) T.m_Marks_eq pass0) (pv 0) (pv 1) (nomark _)) (pa_cons (pe_cmpR op_eq (pv 2) (pv 3) (nomark _)) pa_nil))) (pa_cons (pe_tup (pa_cons (pe_cmpR (Z.op_ceq (ok_Marks_eq T) (hr.mono (by decide)) T.m_Marks_eq pass0) (pv 1) (pv 0) (nomark _)) (pa_cons (pe_cmpR op_eq (pv 2) (pv 3) (nomark _)) pa_nil))) pa_nil)))))
  (pss_cons (ps_set (i := 6) sc_L_equal.nd rfl (by first | exact Or.inl rfl | exact Or.inr rfl) (pe_op op_cat (pv 6) (pe_lst (pa_cons (pe_tup (pa_cons (pe_cmpR (Z.op_ceq (ok_Marks_eq T) (hr.mono (by decide)) T.m_Marks_eq pass0) (pv 0) (pv 0) (nomark _)) (pa_cons pe_bl pa_nil))) (pa_cons (pe_tup (pa_cons (pe_cmpR (Z.op_ceq (ok_Marks_eq T) (hr.mono (by decide)) T.m_Marks_eq pass0) (pv 0) (Z.pe_mk T.mk_Marks (ok_Marks_init T) (hr.mono (by decide)) T.g_Marks OwnX.passF (pa_cons (pv 2) pa_nil)) (nomark _)) (pa_cons pe_bl pa_nil))) pa_nil)))))
  (pss_cons (ps_set (i := 6) sc_L_equal.nd rfl (by first | exact Or.inl rfl | exact Or.inr rfl) (pe_op op_cat (pv 6) (pe_lst (pa_cons (pe_tup (pa_cons (pe_cmpR (Z.op_ceq (ok_Marks_eq T) (hr.mono (by decide)) T.m_Marks_eq pass0) (pv 0) (pe_un (Z.un_invert (ok_Marks_invert T) (hr.mono (by decide)) T.m_Marks_invert pass0) (pv 0)) (nomark _)) (pa_cons pe_bl pa_nil))) (pa_cons (pe_tup (pa_cons (pe_cmpR (Z.op_ceq (ok_Marks_eq T) (hr.mono (by decide)) T.m_Marks_eq pass0) (pv 0) (pv 2) (nomark _)) (pa_cons pe_bl pa_nil))) pa_nil)))))
  (pss_cons (ps_set (i := 6) sc_L_equal.nd rfl (by first | exact Or.inl rfl | exact Or.inr rfl) (pe_op op_cat (pv 6) (pe_lst (pa_cons (pe_tup (pa_cons (pe_cmpR (Z.op_ceq (ok_Marks_eq T) (hr.mono (by decide)) T.m_Marks_eq pass0) (pv 0) (pe_lst (pa_cons (pv 2) pa_nil)) (nomark _)) (pa_cons pe_bl pa_nil))) (pa_cons (pe_tup (pa_cons (pe_cmpR (Z.op_ceq (ok_Marks_eq T) (hr.mono (by decide)) T.m_Marks_eq pass0) (pv 0) pe_int (nomark _)) (pa_cons pe_bl pa_nil))) pa_nil)))))
  (pss_cons (ps_for PassesOwn.never rfl (pi_list (pv 6)) (pg_tup rfl (pgs_cons (pg_name (i := 7) sc_L_equal.nd rfl (Or.inl rfl)) (pgs_cons (pg_name (i := 8) sc_L_equal.nd rfl (Or.inl rfl)) pgs_nil)))
    (pss_one (ps_if (pt_cmpR op_ne (pe_cmpR op_isBl (pv 7) pe_bl (nomark _)) (pv 8) (nomark _))
      (pss_one (ps_ret pe_bl))
      pss_nil)))
  (pss_one (ps_ret pe_bl)))))))))))), ?_⟩
    have lf := AL_len f
    have lg := AL_len g
    have cf : Cp (AL.filter f) := InAL.cp fun c hc => (List.mem_filter.mp hc).1
    have cg : Cp (AL.filter g) := InAL.cp fun c hc => (List.mem_filter.mp hc).1
    refine mSeq (mEqNil (z := AL.filter f) (fun c => !decide (c ∈ AL.filter g)) cf (by omega) (Nat.le_of_ble_eq_true rfl) (fun _ => rfl) (fun c H' R _ kk => rd_nin rfl rfl (kk _ (Same.refl _))) (mVar rfl)) fun v1 H1 s1 e1 => ?_
    rw [none_left] at e1
    subst e1
    refine mSeq (mEqNil (z := AL.filter g) (fun c => !decide (c ∈ AL.filter f)) cg (by omega) (Nat.le_of_ble_eq_true rfl) (fun _ => rfl) (fun c H' R _ kk => rd_nin rfl rfl (kk _ (Same.refl _))) (mVar rfl)) fun v2 H2 s2 e2 => ?_
    rw [none_left] at e2
    subst e2
    have ha2 := (ha.to s1).to s2
    have hb2 := (hb.to s1).to s2
    refine mSeq (mLst Row2.keeps (n := 3) (Nat.le_of_ble_eq_true rfl) (maCons Row2.keeps (mRow2 (mLe (mVarM rfl ha2) (mVarM rfl hb2)) (mVar rfl) rfl) (maCons Row2.keeps (mRow2 (mLe (mVarM rfl hb2) (mVarM rfl ha2)) (mVar rfl) rfl) (maCons Row2.keeps (mRow2 (mLe (mVarM rfl ha2) (mVarM rfl ha2)) mC (congrArg V.bl (sub_all fun c _ h => h).symm)) maNil)))) fun v3 H3 s3 e3 => ?_
    have ha3 := ha2.to s3
    have hb3 := hb2.to s3
    refine mSeq (mCat Row2.keeps (m := 2) (Nat.le_of_ble_eq_true rfl) (mVarK (RowsOf.keeps Row2.keeps 3) rfl e3) (mLst Row2.keeps (n := 2) (Nat.le_of_ble_eq_true rfl) (maCons Row2.keeps (mRow2 (mLe (mMake0 (by decide +kernel)) (mVarM rfl ha3)) mC (congrArg V.bl (sub_all (f := fun _ => false) fun c _ h => (Bool.false_ne_true h).elim).symm)) (maCons Row2.keeps (mRow2 (mLe (mVarM rfl ha3) (mMake (l := [102, 101, 100, 99, 98, 97]) (Nat.le_of_ble_eq_true rfl) (by decide) (mCs (by decide +kernel)))) mC (congrArg V.bl (sub_all fun c hc _ => by simp [AL] at hc; simp; omega).symm)) maNil)))) fun v4 H4 s4 e4 => ?_
    have ha4 := ha3.to s4
    have hb4 := hb3.to s4
    refine mSeq (mCat Row2.keeps (m := 2) (Nat.le_of_ble_eq_true rfl) (mVarK (RowsOf.keeps Row2.keeps (3 + 2)) rfl e4) (mLst Row2.keeps (n := 2) (Nat.le_of_ble_eq_true rfl) (maCons Row2.keeps (mRow2 (mEqM (mVarM rfl ha4) (mVarM rfl hb4)) (mEqS (mVar rfl) (mVar rfl)) rfl) (maCons Row2.keeps (mRow2 (mEqM (mVarM rfl hb4) (mVarM rfl ha4)) (mEqS (a := AL.filter f) (b := AL.filter g) (mVar rfl) (mVar rfl)) (congrArg V.bl (by rw [Bool.eq_iff_iff, decide_eq_true_iff, decide_eq_true_iff]; exact eq_comm))) maNil)))) fun v5 H5 s5 e5 => ?_
    have ha5 := ha4.to s5
    have hb5 := hb4.to s5
    refine mSeq (mCat Row2.keeps (m := 2) (Nat.le_of_ble_eq_true rfl) (mVarK (RowsOf.keeps Row2.keeps (3 + 2 + 2)) rfl e5) (mLst Row2.keeps (n := 2) (Nat.le_of_ble_eq_true rfl) (maCons Row2.keeps (mRow2 (mEqM (mVarM rfl ha5) (mVarM rfl ha5)) mC (congrArg V.bl (decide_eq_true rfl).symm)) (maCons Row2.keeps (mRow2 (mEqM (mVarM rfl ha5) (mMake (l := AL.filter f) (by omega) (List.all_eq_true.mpr fun c hc => decide_eq_true (List.mem_filter.mp hc).1) (mVar rfl))) mC (congrArg V.bl (decide_eq_true (AL_setOf f).symm).symm)) maNil)))) fun v6 H6 s6 e6 => ?_
    have ha6 := ha5.to s6
    have hb6 := hb5.to s6
    refine mSeq (mCat Row2.keeps (m := 2) (Nat.le_of_ble_eq_true rfl) (mVarK (RowsOf.keeps Row2.keeps (3 + 2 + 2 + 2)) rfl e6) (mLst Row2.keeps (n := 2) (Nat.le_of_ble_eq_true rfl) (maCons Row2.keeps (mRow2 (mEqM (mVarM rfl ha6) (mInv (mVarM rfl ha6))) mC (congrArg V.bl (not_self f).symm)) (maCons Row2.keeps (mRow2 (mEqO (φ := IsV (.str (S (AL.filter f)))) (mVarM rfl ha6) (mVar rfl) (fun H x e => by subst e; exact ⟨other_str T.nf_Marks_str, _, .base (.str _), T.ki_str_Marks⟩)) mC rfl) maNil)))) fun v7 H7 s7 e7 => ?_
    have ha7 := ha6.to s7
    have hb7 := hb6.to s7
    refine mSeq (mCat Row2.keeps (m := 2) (Nat.le_of_ble_eq_true rfl) (mVarK (RowsOf.keeps Row2.keeps (3 + 2 + 2 + 2 + 2)) rfl e7) (mLst Row2.keeps (n := 2) (Nat.le_of_ble_eq_true rfl) (maCons Row2.keeps (mRow2 (mEqO (φ := RowsOf (IsV (.str (S (AL.filter f)))) 1) (mVarM rfl ha7) (mLst (fun _ _ _ h _ => h) (n := 1) (Nat.le_of_ble_eq_true rfl) (maCons (fun _ _ _ h _ => h) (mVar rfl) maNil)) (fun H x ⟨l, xs, e, h, _, _⟩ => by subst e; exact ⟨other_lst h T.nf_Marks_list, _, .base (.lst h), T.ki_list_Marks⟩)) mC rfl) (maCons Row2.keeps (mRow2 (mEqO (φ := IsV (.int 0)) (mVarM rfl ha7) mC (fun H x e => by subst e; exact ⟨other_int T.nf_Marks_int, _, .base (.int _), T.ki_int_Marks⟩)) mC rfl) maNil)))) fun v8 H8 s8 e8 => ?_
    have s08 := ((((((s1.trans s2).trans s3).trans s4).trans s5).trans s6).trans s7).trans s8
    refine mFor Row2.keeps (mVarK (RowsOf.keeps Row2.keeps (3 + 2 + 2 + 2 + 2 + 2)) rfl e8) fun l xs H9 s9 hl hx => ?_
    refine ⟨fun _ σ' H' => σ'.length = 10 ∧ H' = H9, ⟨rfl, rfl⟩, fun _ _ _ p => by rw [p.2]; exact Same.refl _, ?_, ?_⟩
    · rintro i x σ' H' hm ⟨p1, rfl⟩
      obtain ⟨t, b, rfl, h1⟩ := hx x hm
      have g7 : ((σ'.set 7 (some (V.bl b))).set 8 (some (V.bl b)))[7]? = some (some (V.bl b)) := by
        rw [List.getElem?_set_ne (by decide), List.getElem?_set_self (by omega)]
      have g8 : ((σ'.set 7 (some (V.bl b))).set 8 (some (V.bl b)))[8]? = some (some (V.bl b)) := by
        rw [List.getElem?_set_self (by rw [List.length_set]; omega)]
      refine ⟨t, _, rfl, SqT.of h1, rfl, _, _, rfl, _, _, rfl, rfl, _, g7, b, true, rfl, rfl, _, g8, rfl, ?_⟩
      have e : (!decide (V.bl (decide (b = true)) = V.bl b)) = false := by cases b <;> rfl
      rw [e]
      exact ⟨_, rfl, by rw [List.length_set, List.length_set]; exact p1, rfl⟩
    · rintro i σ' H' ⟨_, rfl⟩
      exact k _ (s08.trans s9)
end
end K00

set_option Elab.async false
set_option linter.all false
set_option maxRecDepth 100000
set_option maxHeartbeats 4000000
namespace K00
open PySem PySem.Spec PyProof.Rows L2 SX Z
section
variable {σ : L2.St} {H : Hp} {t u : TE}
theorem mNeS {a b : List Nat} (ht : Mks (IsV (.str (S a))) t σ H) (hu : Mks (IsV (.str (S b))) u σ H) : Mks (IsV (.bl (!decide (a = b)))) (tOp rNe t u) σ H := by
  intro H1 s R q
  refine ht H1 s _ fun x H2 s2 e1 => ?_
  refine hu H2 (s.trans s2) _ fun y H3 s3 e2 => ?_
  subst e1 e2
  refine ⟨rfl, ?_⟩
  rw [S_eq]
  exact q _ _ (s2.trans s3) rfl
theorem mOrV {a b : Bool} (ht : Mks (IsV (.bl a)) t σ H) (hu : Mks (IsV (.bl b)) u σ H) : Mks (IsV (.bl (a || b))) (tOrV t u) σ H := by
  intro H1 s R q
  refine ht H1 s _ fun x H2 s2 e1 => ⟨a, e1, ?_⟩
  cases a with
  | true => exact q _ _ s2 rfl
  | false => exact hu H2 (s.trans s2) _ fun y H3 s3 e2 => q _ _ (s2.trans s3) e2
theorem mAndV {a b : Bool} (ht : Mks (IsV (.bl a)) t σ H) (hu : Mks (IsV (.bl b)) u σ H) : Mks (IsV (.bl (a && b))) (tAndV t u) σ H := by
  intro H1 s R q
  refine ht H1 s _ fun x H2 s2 e1 => ⟨a, e1, ?_⟩
  cases a with
  | false => exact q _ _ s2 rfl
  | true => exact hu H2 (s.trans s2) _ fun y H3 s3 e2 => q _ _ (s2.trans s3) e2
end
theorem read_of (l : List Nat) : readOf l = setOf l := by
  unfold readOf
  by_cases h : l = [45]
  · rw [if_pos h, h]
    decide
  · rw [if_neg h]
theorem read_good (l : List Nat) : readOk l = (decide (l = [45]) || (!decide (l = []) && decide (setOf l = l))) := by
  unfold readOk
  by_cases h : l = [45]
  · rw [decide_eq_true h, Bool.true_or, Bool.true_or]
  · rw [decide_eq_false h, Bool.false_or, Bool.false_or]
    by_cases hs : setOf l = l
    · have ha : allM l = true := by
        rw [← hs]
        exact List.all_eq_true.mpr fun c hc => decide_eq_true (List.mem_filter.mp hc).1
      rw [ha, hs, Bool.true_and, decide_eq_true rfl, Bool.and_true]
      unfold txt
      by_cases h0 : l = []
      · subst h0
        decide
      · rw [if_neg h0, decide_eq_true rfl, decide_eq_false h0]
        rfl
    · rw [decide_eq_false hs, Bool.and_false]
      have : decide (txt (setOf l) = l) = false := decide_eq_false fun e => by
        unfold txt at e
        by_cases h0 : setOf l = []
        · rw [if_pos h0] at e
          exact h e.symm
        · rw [if_neg h0] at e
          exact hs e
      rw [this, Bool.and_false]
/-- a text that may be drawn -/
def spRight : Sp := fun vs H Q E => ∃ l, vs = [.str (S l)] ∧ l.length ≤ 1000 ∧ Cp l ∧ ∀ H', Same H H' → Q (.bl true) H'
section
variable {w : World} {K : PySem.W.Frag} {mg : Str → Option Value} {base : Heap}
theorem ok_L_made_right (T : Tx K mg) : Ok P w K mg base CX0 5 (MH.gl "_law_made_right" K) spRight [] := by
  obtain ⟨fd, F⟩ := T.f_L_made_right
  refine ok_of F (F.ok sc_L_made_right ?_ ?_) fun _ _ _ _ _ _ us hl => match us, hl with | [_], _ => rfl
  · rintro vs H Q E ⟨l, rfl, _⟩
    rfl
  · rintro cdv A outer s H vs Q E hr ⟨l, rfl, hl, hc, k⟩
    refine ⟨_, ((pss_cons (ps_set (i := 1) sc_L_made_right.nd rfl (by first | exact Or.inl rfl | exact Or.inr rfl) (pe_cmpR (op_eqD hr.units) (pe_lc (own := [("_law_char_here", 4)]) (g := gName 4) rfl sc_L_made_right.nd (pi_str (pv 0)) (blkOk_by (own := [("_law_char_here", 4)]) (N := ["_law_text", "_law_good", "e", "_law_marks", "_law_char_here"]) (sc := defScope s_L_made_right) (by decide +kernel)) (fun _ _ _ _ _ => (pg_name (i := 4) sc_L_made_right.nd rfl (Or.inl rfl))) (fun _ _ _ _ _ => (pts_one (pt_cmpR op_notIn_sign (pv 4) pe_str (by rfl)))) (fun _ _ _ _ _ => (pv 4))) (pe_lst pa_nil) (nomark _)))
  (pss_cons (ps_try_as (i := 2) rfl rfl sc_L_made_right.nd rfl rfl ⟨rfl, by decide, Or.inl T.g_BureauError⟩ takes0
    (fun W pn xe tk _ => (pss_one (ps_set (i := 3) sc_L_made_right.nd rfl (by first | exact Or.inl rfl | exact Or.inr rfl) (Z.pe_mkS T.mk_Marks (ok_Marks_init T) (hr.mono (by decide)) T.g_Marks (fun σ => passAt tk σ) (pa_cons (pv 0) pa_nil)))))
    (fun a oe cls d pn hz hf => (pss_cons (ps_if (PW.pt (pw_or (pt_val (pv 1)) (pw_or (pt_not (pt_val (pe_callB (OwnX.call_isX hz hf) (by rfl) T.free_isinstance (by decide +kernel) (pa_cons (pv 2) (pa_cons (pe_glob (v := .ref (MH.gl "BadMarks" _)) rfl T.g_BadMarks rfl) pa_nil))))) (pw_or1 (pt_val (pe_callB (OwnX.call_isX hz hf) (by rfl) T.free_isinstance (by decide +kernel) (pa_cons (pv 2) (pa_cons (pe_glob (v := .ref (MH.gl "BadText" _)) rfl T.g_BadText rfl) pa_nil))))))))
        (pss_one (ps_ret pe_bl))
        pss_nil)
      (pss_one (ps_ret (pe_and (pe_callB (OwnX.call_isX hz hf) (by rfl) T.free_isinstance (by decide +kernel) (pa_cons (pv 2) (pa_cons (pe_bltn (v := .ty "ValueError") (u := .type "ValueError") rfl T.free_ValueError (by decide +kernel) rfl) pa_nil))) (pe_one (pe_cmpR op_eq (OwnX.pe_xfA hz hf (pv 2)) (pv 0) (nomark _)))))))))
  (pss_one (ps_ret (pe_and (pv 1) (pe_one (Z.pe_f (ok_L_is T) hr T.g_L_is pass0 (pa_cons (pv 3) (pa_cons (Z.pe_f (ok_L_set T) hr T.g_L_set pass0 (pa_cons (pv 0) pa_nil)) pa_nil)))))))))), ?_⟩
    have ef : ("abcdef" : Str) = S AL := by decide +kernel
    refine mSeq (mEqNil (z := l) (fun c => !decide (c ∈ AL)) hc (by omega) (Nat.le_of_ble_eq_true rfl) (fun _ => rfl) (fun c H' R _ kk => ⟨_, rfl, c, S AL, rfl, congrArg V.str ef, _, rfl, kk _ (Same.refl _)⟩) (mVar rfl)) fun v1 H1 s1 e1 => ?_
    rw [none_left] at e1
    subst e1
    refine ⟨_, rfl, fun p dp hp hdp hne => ?_⟩
    refine ⟨p, dp, l, rfl, upd_same, by show _ < 16777216; omega, fun e H2 b2 m2 => ⟨rfl, ?_⟩, fun e d H2 s2 hd => ?_⟩
    · have s2 := made (Same.refl H1) hp hdp b2
      refine ⟨_, rfl, _, rfl, ?_⟩
      rw [show (l.all fun c => decide (c ∈ AL)) = true from e]
      exact ⟨_, rfl, _, rfl, l, rfl, fun H3 s3 => ⟨p, fun c => decide (c ∈ l), rfl, m2.to s3, fun H4 s4 => k _ (((s1.trans s2).trans s3).trans s4)⟩⟩
    · have s2' := made (Same.refl H1) hp hdp (But.of s2)
      refine ⟨true, T.em_BadMarks_BureauError, fun _ a ha => ?_, fun q => Bool.noConfusion q⟩
      rw [show (l.all fun c => decide (c ∈ AL)) = false from e]
      have hx : ∀ d2, some d = some d2 → ∃ fs, H2 d2 = some (.xd fs) := fun d2 q => by
        cases q
        exact ⟨_, hd⟩
      refine ⟨_, rfl, _, rfl, _, rfl, cBM K, _, .ref (cBM K), true, rfl, rfl, T.as_BadMarks, fun _ r => r, hx, T.ki_BadMarks_BadMarks, _, rfl, ?_⟩
      refine ⟨_, rfl, cBM K, _, .ref (cBT K), false, rfl, rfl, T.as_BadMarks, fun _ r => r, hx, T.ki_BadMarks_BadText, _, rfl, ?_⟩
      refine ⟨_, rfl, cBM K, _, .type "ValueError", true, rfl, rfl, T.as_BadMarks, fun _ r => r, hx, T.ki_BadMarks_ValueError, _, rfl, ?_⟩
      refine ⟨_, rfl, rfl, cBM K, d, _, _, rfl, T.as_BadMarks, T.na_BadMarks_given, rfl, hd, lk1, _, rfl, rfl, ?_⟩
      rw [decide_eq_true (rfl : V.str (S l) = V.str (S l))]
      exact k _ (s1.trans s2')
theorem ok_L_read_right (T : Tx K mg) : Ok P w K mg base CX0 6 (MH.gl "_law_read_right" K) spRight [] := by
  obtain ⟨fd, F⟩ := T.f_L_read_right
  refine ok_of F (F.ok sc_L_read_right ?_ ?_) fun _ _ _ _ _ _ us hl => match us, hl with | [_], _ => rfl
  · rintro vs H Q E ⟨l, rfl, _⟩
    rfl
  · rintro cdv A outer s H vs Q E hr ⟨l, rfl, hl, hc, k⟩
    refine ⟨_, ((pss_cons (ps_set (i := 1) sc_L_read_right.nd rfl (by first | exact Or.inl rfl | exact Or.inr rfl) (Z.pe_f (ok_L_set T) hr T.g_L_set pass0 (pa_cons (pv 0) pa_nil)))
  (pss_cons (ps_set (i := 2) sc_L_read_right.nd rfl (by first | exact Or.inl rfl | exact Or.inr rfl) (pe_or (pe_cmpR op_eq (pv 0) pe_str (nomark _)) (pe_one (pe_and (pe_cmpR op_ne (pv 0) pe_str (nomark _)) (pe_one (pe_cmpR op_eq (pv 1) (pv 0) (nomark _)))))))
  (pss_cons (ps_try_as (i := 3) rfl rfl sc_L_read_right.nd rfl rfl ⟨rfl, by decide, Or.inl T.g_BureauError⟩ takes0
    (fun W pn xe tk _ => (pss_one (ps_set (i := 4) sc_L_read_right.nd rfl (by first | exact Or.inl rfl | exact Or.inr rfl) (OwnX.pe_cmethS (pe_glob (v := .ref (MH.gl "Marks" _)) rfl T.g_Marks rfl) T.rd_Marks T.cm_Marks_read (ok_Marks_read T).raw (hr.mono (by decide)) (fun σ pins H s e s' I z => passAt tk σ pins H s e s' I z) (pa_cons (pv 0) pa_nil)))))
    (fun a oe cls d pn hz hf => (pss_cons (ps_if (PW.pt (pw_or (pt_val (pv 2)) (pw_or (pt_not (pt_val (pe_callB (OwnX.call_isX hz hf) (by rfl) T.free_isinstance (by decide +kernel) (pa_cons (pv 3) (pa_cons (pe_glob (v := .ref (MH.gl "BadText" _)) rfl T.g_BadText rfl) pa_nil))))) (pw_or1 (pt_val (pe_callB (OwnX.call_isX hz hf) (by rfl) T.free_isinstance (by decide +kernel) (pa_cons (pv 3) (pa_cons (pe_glob (v := .ref (MH.gl "BadMarks" _)) rfl T.g_BadMarks rfl) pa_nil))))))))
        (pss_one (ps_ret pe_bl))
        pss_nil)
      (pss_one (ps_ret (pe_and (pe_callB (OwnX.call_isX hz hf) (by rfl) T.free_isinstance (by decide +kernel) (pa_cons (pv 3) (pa_cons (pe_bltn (v := .ty "ValueError") (u := .type "ValueError") rfl T.free_ValueError (by decide +kernel) rfl) pa_nil))) (pe_and (pe_cmpR op_eq (OwnX.pe_xfA hz hf (pv 3)) pe_int (nomark _)) (pe_one (pe_cmpR Z.op_notIB (OwnX.pe_xfA hz hf (pv 3)) pe_bl (nomark _))))))))))
  (pss_one (ps_ret (pe_and (pv 2) (pe_one (Z.pe_f (ok_L_is T) hr T.g_L_is pass0 (pa_cons (pv 4) (pa_cons (pv 1) pa_nil))))))))))), ?_⟩
    refine mSeq (mSetOf (l := l) (mVar rfl)) fun v1 H1 s1 e1 => ?_
    subst e1
    refine mSeq (mOrV (mEqS (b := [45]) (mVar rfl) (mCs (by decide +kernel))) (mAndV (mNeS (b := []) (mVar rfl) (mCs (by decide +kernel))) (mEqS (mVar rfl) (mVar rfl)))) fun v2 H1' s1' e2 => ?_
    rw [← read_good] at e2
    subst e2
    have s11 := s1.trans s1'
    refine ⟨rfl, _, rfl, l, rfl, by omega, fun e p H2 s2 n2 m2 => ?_, fun e d H2 s2 hd => ?_⟩
    · refine ⟨_, rfl, _, rfl, ?_⟩
      rw [e]
      rw [read_of] at m2
      exact ⟨_, rfl, _, rfl, p, fun c => decide (c ∈ l), rfl, m2, fun H4 s4 => k _ ((s11.trans s2).trans s4)⟩
    · refine ⟨true, T.em_BadText_BureauError, fun _ a ha => ?_, fun q => Bool.noConfusion q⟩
      rw [e]
      have hx : ∀ d2, some d = some d2 → ∃ fs, H2 d2 = some (.xd fs) := fun d2 q => by
        cases q
        exact ⟨_, hd⟩
      refine ⟨_, rfl, _, rfl, _, rfl, cBT K, _, .ref (cBT K), true, rfl, rfl, T.as_BadText, fun _ r => r, hx, T.ki_BadText_BadText, _, rfl, ?_⟩
      refine ⟨_, rfl, cBT K, _, .ref (cBM K), false, rfl, rfl, T.as_BadText, fun _ r => r, hx, T.ki_BadText_BadMarks, _, rfl, ?_⟩
      refine ⟨_, rfl, cBT K, _, .type "ValueError", true, rfl, rfl, T.as_BadText, fun _ r => r, hx, T.ki_BadText_ValueError, _, rfl, ?_⟩
      refine ⟨_, rfl, rfl, cBT K, d, _, _, rfl, T.as_BadText, T.na_BadText_at, rfl, hd, lk1, rfl, ?_⟩
      rw [decide_eq_true (rfl : V.int 0 = V.int 0)]
      exact ⟨_, rfl, _, rfl, rfl, cBT K, d, _, _, rfl, T.as_BadText, T.na_BadText_at, rfl, hd, lk1, _, _, rfl, rfl, k _ (s11.trans s2)⟩
end
end K00

set_option Elab.async false
set_option linter.all false
set_option maxRecDepth 100000
set_option maxHeartbeats 4000000
namespace K00
open PySem PySem.Spec PyProof.Rows L2 SX Z
section
variable {w : World} {K : PySem.W.Frag} {mg : Str → Option Value} {base : Heap}
theorem ok_L_results (T : Tx K mg) : Ok P w K mg base CX0 7 (MH.gl "_law_results" K) (spFour K) [] := by
  obtain ⟨fd, F⟩ := T.f_L_results
  refine ok_of F (F.ok sc_L_results ?_ ?_) fun _ _ _ _ _ _ us hl => match us, hl with | [_, _, _, _], _ => rfl
  · rintro vs H Q E ⟨a, b, f, g, rfl, _⟩
    rfl
  · rintro cdv A outer s H vs Q E hr ⟨a, b, f, g, rfl, ha, hb, k⟩
    refine ⟨_, PSs.nox ((pss_cons (ps_set (i := 4) sc_L_results.nd rfl (by first | exact Or.inl rfl | exact Or.inr rfl) (pe_join pe_str (pe_lc (own := [("_law_mark", 13)]) (g := gName 13) rfl sc_L_results.nd (pi_str (pv 2)) (blkOk_by (own := [("_law_mark", 13)]) (N := ["_law_a", "_law_b", "_law_one", "_law_two", "_law_both", "_law_left", "_law_right", "_law_either", "_law_odd", "_law_rest", "_law_rows", "_law_told", "_law_due", "_law_mark"]) (sc := defScope s_L_results) (by decide +kernel)) (fun _ _ _ _ _ => (pg_name (i := 13) sc_L_results.nd rfl (Or.inl rfl))) (fun _ _ _ _ _ => (pts_one (pt_cmpR op_in_sign (pv 13) (pv 3) (by rfl)))) (fun _ _ _ _ _ => (pv 13)))))
  (pss_cons (ps_set (i := 5) sc_L_results.nd rfl (by first | exact Or.inl rfl | exact Or.inr rfl) (pe_join pe_str (pe_lc (own := [("_law_mark", 13)]) (g := gName 13) rfl sc_L_results.nd (pi_str (pv 2)) (blkOk_by (own := [("_law_mark", 13)]) (N := ["_law_a", "_law_b", "_law_one", "_law_two", "_law_both", "_law_left", "_law_right", "_law_either", "_law_odd", "_law_rest", "_law_rows", "_law_told", "_law_due", "_law_mark"]) (sc := defScope s_L_results) (by decide +kernel)) (fun _ _ _ _ _ => (pg_name (i := 13) sc_L_results.nd rfl (Or.inl rfl))) (fun _ _ _ _ _ => (pts_one (pt_cmpR op_notIn_sign (pv 13) (pv 3) (by rfl)))) (fun _ _ _ _ _ => (pv 13)))))
  (pss_cons (ps_set (i := 6) sc_L_results.nd rfl (by first | exact Or.inl rfl | exact Or.inr rfl) (pe_join pe_str (pe_lc (own := [("_law_mark", 13)]) (g := gName 13) rfl sc_L_results.nd (pi_str (pv 3)) (blkOk_by (own := [("_law_mark", 13)]) (N := ["_law_a", "_law_b", "_law_one", "_law_two", "_law_both", "_law_left", "_law_right", "_law_either", "_law_odd", "_law_rest", "_law_rows", "_law_told", "_law_due", "_law_mark"]) (sc := defScope s_L_results) (by decide +kernel)) (fun _ _ _ _ _ => (pg_name (i := 13) sc_L_results.nd rfl (Or.inl rfl))) (fun _ _ _ _ _ => (pts_one (pt_cmpR op_notIn_sign (pv 13) (pv 2) (by rfl)))) (fun _ _ _ _ _ => (pv 13)))))
  (pss_cons (ps_set (i := 7) sc_L_results.nd rfl (by first | exact Or.inl rfl | exact Or.inr rfl) (Z.pe_f (ok_L_set T) hr T.g_L_set pass0 (pa_cons (pe_op op_add_str (pv 2) (pv 3)) pa_nil)))
  (pss_cons (ps_set (i := 8) sc_L_results.nd rfl (by first | exact Or.inl rfl | exact Or.inr rfl) (Z.pe_f (ok_L_set T) hr T.g_L_set pass0 (pa_cons (pe_op op_add_str (pv 5) (pv 6)) pa_nil)))
  (pss_cons (ps_set (i := 9) sc_L_results.nd rfl (by first | exact Or.inl rfl | exact Or.inr rfl) (pe_join pe_str (pe_lc (own := [("_law_mark", 13)]) (g := gName 13) rfl sc_L_results.nd (pi_str pe_str) (blkOk_by (own := [("_law_mark", 13)]) (N := ["_law_a", "_law_b", "_law_one", "_law_two", "_law_both", "_law_left", "_law_right", "_law_either", "_law_odd", "_law_rest", "_law_rows", "_law_told", "_law_due", "_law_mark"]) (sc := defScope s_L_results) (by decide +kernel)) (fun _ _ _ _ _ => (pg_name (i := 13) sc_L_results.nd rfl (Or.inl rfl))) (fun _ _ _ _ _ => (pts_one (pt_cmpR op_notIn_sign (pv 13) (pv 2) (by rfl)))) (fun _ _ _ _ _ => (pv 13)))))
  (pss_cons (ps_set (i := 10) sc_L_results.nd rfl (by first | exact Or.inl rfl | exact Or.inr rfl) (pe_lst (pa_cons (pe_tup (pa_cons (pe_op (Z.op_o (ok_Marks_and T) (hr.mono (by decide)) T.m_Marks_and T.first_Marks pass0) (pv 0) (pv 1)) (pa_cons (pv 4) pa_nil))) (pa_cons (pe_tup (pa_cons (pe_op (Z.op_o (ok_Marks_and T) (hr.mono (by decide)) T.m_Marks_and T.first_Marks pass0) (pv 1) (pv 0)) (pa_cons (pv 4) pa_nil))) (pa_cons (pe_tup (pa_cons (pe_op (Z.op_o (ok_Marks_and T) (hr.mono (by decide)) T.m_Marks_and T.first_Marks pass0) (pv 0) (pv 0)) (pa_cons (pv 2) pa_nil))) pa_nil)))))
  (pss_cons (ps_set (i := 10) sc_L_results.nd rfl (by first | exact Or.inl rfl | exact Or.inr rfl) (pe_op op_cat (pv 10) (pe_lst (pa_cons (pe_tup (pa_cons (pe_op (Z.op_o (ok_Marks_or T) (hr.mono (by decide)) T.m_Marks_or T.first_Marks pass0) (pv 0) (pv 1)) (pa_cons (pv 7) pa_nil))) (pa_cons (pe_tup (pa_cons (pe_op (Z.op_o (ok_Marks_or T) (hr.mono (by decide)) T.m_Marks_or T.first_Marks pass0) (pv 1) (pv 0)) (pa_cons (pv 7) pa_nil))) pa_nil)))))
  (pss_cons (ps_set (i := 10) sc_L_results.nd rfl (by first | exact Or.inl rfl | exact Or.inr rfl) (pe_op op_cat (pv 10) (pe_lst (pa_cons (pe_tup (pa_cons (pe_op (Z.op_o (ok_Marks_sub T) (hr.mono (by decide)) T.m_Marks_sub T.first_Marks pass0) (pv 0) (pv 1)) (pa_cons (pv 5) pa_nil))) (pa_cons (pe_tup (pa_cons (pe_op (Z.op_o (ok_Marks_sub T) (hr.mono (by decide)) T.m_Marks_sub T.first_Marks pass0) (pv 1) (pv 0)) (pa_cons (pv 6) pa_nil))) pa_nil)))))
  (pss_cons (ps_set (i := 10) sc_L_results.nd rfl (by first | exact Or.inl rfl | exact Or.inr rfl) (pe_op op_cat (pv 10) (pe_lst (pa_cons (pe_tup (pa_cons (pe_op (Z.op_o (ok_Marks_sub T) (hr.mono (by decide)) T.m_Marks_sub T.first_Marks pass0) (pv 0) (pv 0)) (pa_cons pe_str pa_nil))) (pa_cons (pe_tup (pa_cons (pe_op (Z.op_o (ok_Marks_or T) (hr.mono (by decide)) T.m_Marks_or T.first_Marks pass0) (pv 0) (pv 0)) (pa_cons (pv 2) pa_nil))) pa_nil)))))
  (pss_cons (ps_set (i := 10) sc_L_results.nd rfl (by first | exact Or.inl rfl | exact Or.inr rfl) (pe_op op_cat (pv 10) (pe_lst (pa_cons (pe_tup (pa_cons (pe_op (Z.op_o (ok_Marks_xor T) (hr.mono (by decide)) T.m_Marks_xor T.first_Marks pass0) (pv 0) (pv 1)) (pa_cons (pv 8) pa_nil))) (pa_cons (pe_tup (pa_cons (pe_op (Z.op_o (ok_Marks_xor T) (hr.mono (by decide)) T.m_Marks_xor T.first_Marks pass0) (pv 1) (pv 0)) (pa_cons (pv 8) pa_nil))) (pa_cons (pe_tup (pa_cons (pe_op (Z.op_o (ok_Marks_xor T) (hr.mono (by decide)) T.m_Marks_xor T.first_Marks pass0) (pv 0) (pv 0)) (pa_cons pe_str pa_nil))) pa_nil))))))
  (pss_cons (ps_set (i := 10) sc_L_results.nd rfl (by first | exact Or.inl rfl | exact Or.inr rfl) (pe_op op_cat (pv 10) (pe_lst (pa_cons (pe_tup (pa_cons (pe_un (Z.un_invert (ok_Marks_invert T) (hr.mono (by decide)) T.m_Marks_invert pass0) (pv 0)) (pa_cons (pv 9) pa_nil))) (pa_cons (pe_tup (pa_cons (pe_un (Z.un_invert (ok_Marks_invert T) (hr.mono (by decide)) T.m_Marks_invert pass0) (pe_un (Z.un_invert (ok_Marks_invert T) (hr.mono (by decide)) T.m_Marks_invert pass0) (pv 0))) (pa_cons (pv 2) pa_nil))) (pa_cons (pe_tup (pa_cons (pe_op (Z.op_o (ok_Marks_or T) (hr.mono (by decide)) T.m_Marks_or T.first_Marks pass0) (pv 0) (pe_un (Z.un_invert (ok_Marks_invert T) (hr.mono (by decide)) T.m_Marks_invert pass0) (pv 0))) (pa_cons pe_str pa_nil))) pa_nil))))))
  (pss_cons (ps_for PassesOwn.never rfl (pi_list (pe_op op_cat (pv 10) (pe_lst (pa_cons (pe_tup (pa_cons (pe_op (Z.op_o (ok_Marks_and T) (hr.mono (by decide)) T.m_Marks_and T.first_Marks pass0) (pv 0) (pe_un (Z.un_invert (ok_Marks_invert T) (hr.mono (by decide)) T.m_Marks_invert pass0) (pv 0))) (pa_cons pe_str pa_nil))) (pa_cons (pe_tup (pa_cons (pe_op (Z.op_o (ok_Marks_sub T) (hr.mono (by decide)) T.m_Marks_sub T.first_Marks pass0) (pv 1) (pe_un (Z.un_invert (ok_Marks_invert T) (hr.mono (by decide)) T.m_Marks_invert pass0) (pv 0))) (pa_cons (pv 4) pa_nil))) pa_nil))))) (pg_tup rfl (pgs_cons (pg_name (i := 11) sc_L_results.nd rfl (Or.inl rfl)) (pgs_cons (pg_name (i := 12) sc_L_results.nd rfl (Or.inl rfl)) pgs_nil)))
    (pss_one (ps_if (pt_not (pt_val (Z.pe_f (ok_L_is T) hr T.g_L_is pass0 (pa_cons (pv 11) (pa_cons (pv 12) pa_nil)))))
      (pss_one (ps_ret pe_bl))
      pss_nil)))
  (pss_one (ps_ret pe_bl)))))))))))))))), ?_⟩
    have lf := AL_len f
    have lg := AL_len g
    refine mSeq (mJoin (K := K) (z := AL.filter f) (by decide +kernel) (fun c => decide (c ∈ AL.filter g)) (by omega) (Nat.le_of_ble_eq_true rfl) (fun _ => rfl) (fun c H' R _ kk => rd_in rfl rfl (kk _ (Same.refl _))) (mVar rfl)) fun v1 H1 s1 e1 => ?_
    rw [f_and] at e1
    subst e1
    refine mSeq (mJoin (K := K) (z := AL.filter f) (by decide +kernel) (fun c => !decide (c ∈ AL.filter g)) (by omega) (Nat.le_of_ble_eq_true rfl) (fun _ => rfl) (fun c H' R _ kk => rd_nin rfl rfl (kk _ (Same.refl _))) (mVar rfl)) fun v2 H2 s2 e2 => ?_
    rw [f_sub] at e2
    subst e2
    refine mSeq (mJoin (K := K) (z := AL.filter g) (by decide +kernel) (fun c => !decide (c ∈ AL.filter f)) (by omega) (Nat.le_of_ble_eq_true rfl) (fun _ => rfl) (fun c H' R _ kk => rd_nin rfl rfl (kk _ (Same.refl _))) (mVar rfl)) fun v3 H3 s3 e3 => ?_
    rw [f_sub] at e3
    subst e3
    refine mSeq (mSetOf (mAdd (by omega) (mVar rfl) (mVar rfl))) fun v4 H4 s4 e4 => ?_
    rw [AL_or] at e4
    subst e4
    have l2 := AL_len fun c => f c && !g c
    have l3 := AL_len fun c => g c && !f c
    refine mSeq (mSetOf (mAdd (by omega) (mVar rfl) (mVar rfl))) fun v5 H5 s5 e5 => ?_
    rw [AL_or] at e5
    subst e5
    refine mSeq (mJoin (K := K) (z := AL) (by decide +kernel) (fun c => !decide (c ∈ AL.filter f)) (Nat.le_of_ble_eq_true rfl) (Nat.le_of_ble_eq_true rfl) (fun _ => rfl) (fun c H' R _ kk => rd_nin rfl rfl (kk _ (Same.refl _))) (mCs (by decide +kernel))) fun v6 H6 s6 e6 => ?_
    rw [f_not] at e6
    subst e6
    have s06 := ((((s1.trans s2).trans s3).trans s4).trans s5).trans s6
    have ha6 := ha.to s06
    have hb6 := hb.to s06
    have em : V.str ("" : Str) = V.str (S (AL.filter fun _ => false)) := congrArg V.str (by decide +kernel)
    have ef : V.str ("abcdef" : Str) = V.str (S (AL.filter fun _ => true)) := congrArg V.str (by decide +kernel)
    refine mSeq (mLst Row.keeps (n := 3) (Nat.le_of_ble_eq_true rfl) (maCons Row.keeps (mRow (mTwo (mVarM rfl ha6) (mVarM rfl hb6)) (mVar rfl) rfl) (maCons Row.keeps (mRow (mTwo (mVarM rfl hb6) (mVarM rfl ha6)) (mVar rfl) (ALe fun c _ => Bool.and_comm _ _)) (maCons Row.keeps (mRow (mTwo (mVarM rfl ha6) (mVarM rfl ha6)) (mVar rfl) (ALe fun c _ => (Bool.and_self _).symm)) maNil)))) fun v7 H7 s7 e7 => ?_
    have ha7 := ha6.to s7
    have hb7 := hb6.to s7
    refine mSeq (mCat Row.keeps (m := 2) (Nat.le_of_ble_eq_true rfl) (mVarK (RowsOf.keeps Row.keeps 3) rfl e7) (mLst Row.keeps (n := 2) (Nat.le_of_ble_eq_true rfl) (maCons Row.keeps (mRow (mTwo (mVarM rfl ha7) (mVarM rfl hb7)) (mVar rfl) rfl) (maCons Row.keeps (mRow (mTwo (mVarM rfl hb7) (mVarM rfl ha7)) (mVar rfl) (ALe fun c _ => Bool.or_comm _ _)) maNil)))) fun v8 H8 s8 e8 => ?_
    have ha8 := ha7.to s8
    have hb8 := hb7.to s8
    refine mSeq (mCat Row.keeps (m := 2) (Nat.le_of_ble_eq_true rfl) (mVarK (RowsOf.keeps Row.keeps (3 + 2)) rfl e8) (mLst Row.keeps (n := 2) (Nat.le_of_ble_eq_true rfl) (maCons Row.keeps (mRow (mTwo (mVarM rfl ha8) (mVarM rfl hb8)) (mVar rfl) rfl) (maCons Row.keeps (mRow (mTwo (mVarM rfl hb8) (mVarM rfl ha8)) (mVar rfl) rfl) maNil)))) fun v9 H9 s9 e9 => ?_
    have ha9 := ha8.to s9
    have hb9 := hb8.to s9
    refine mSeq (mCat Row.keeps (m := 2) (Nat.le_of_ble_eq_true rfl) (mVarK (RowsOf.keeps Row.keeps (3 + 2 + 2)) rfl e9) (mLst Row.keeps (n := 2) (Nat.le_of_ble_eq_true rfl) (maCons Row.keeps (mRow (mTwo (mVarM rfl ha9) (mVarM rfl ha9)) mC (em.trans (ALe fun c _ => (Bool.and_not_self _).symm))) (maCons Row.keeps (mRow (mTwo (mVarM rfl ha9) (mVarM rfl ha9)) (mVar rfl) (ALe fun c _ => (Bool.or_self _).symm)) maNil)))) fun v10 H10 s10 e10 => ?_
    have ha10 := ha9.to s10
    have hb10 := hb9.to s10
    refine mSeq (mCat Row.keeps (m := 3) (Nat.le_of_ble_eq_true rfl) (mVarK (RowsOf.keeps Row.keeps (3 + 2 + 2 + 2)) rfl e10) (mLst Row.keeps (n := 3) (Nat.le_of_ble_eq_true rfl) (maCons Row.keeps (mRow (mTwo (mVarM rfl ha10) (mVarM rfl hb10)) (mVar rfl) rfl) (maCons Row.keeps (mRow (mTwo (mVarM rfl hb10) (mVarM rfl ha10)) (mVar rfl) (ALe fun c _ => Bool.or_comm _ _)) (maCons Row.keeps (mRow (mTwo (mVarM rfl ha10) (mVarM rfl ha10)) mC (em.trans (ALe fun c _ => by cases f c <;> rfl))) maNil))))) fun v11 H11 s11 e11 => ?_
    have ha11 := ha10.to s11
    have hb11 := hb10.to s11
    refine mSeq (mCat Row.keeps (m := 3) (Nat.le_of_ble_eq_true rfl) (mVarK (RowsOf.keeps Row.keeps (3 + 2 + 2 + 2 + 3)) rfl e11) (mLst Row.keeps (n := 3) (Nat.le_of_ble_eq_true rfl) (maCons Row.keeps (mRow (mInv (mVarM rfl ha11)) (mVar rfl) rfl) (maCons Row.keeps (mRow (mInv (mInv (mVarM rfl ha11))) (mVar rfl) (ALe fun c _ => (Bool.not_not _).symm)) (maCons Row.keeps (mRow (mTwo (mVarM rfl ha11) (mInv (mVarM rfl ha11))) mC (ef.trans (ALe fun c _ => by cases f c <;> rfl))) maNil))))) fun v12 H12 s12 e12 => ?_
    have ha12 := ha11.to s12
    have hb12 := hb11.to s12
    have s012 := ((((((s06.trans s7).trans s8).trans s9).trans s10).trans s11).trans s12)
    refine mFor Row.keeps (mCat Row.keeps (m := 2) (Nat.le_of_ble_eq_true rfl) (mVarK (RowsOf.keeps Row.keeps (3 + 2 + 2 + 2 + 3 + 3)) rfl e12) (mLst Row.keeps (n := 2) (Nat.le_of_ble_eq_true rfl) (maCons Row.keeps (mRow (mTwo (mVarM rfl ha12) (mInv (mVarM rfl ha12))) mC (em.trans (ALe fun c _ => by cases f c <;> rfl))) (maCons Row.keeps (mRow (mTwo (mVarM rfl hb12) (mInv (mVarM rfl ha12))) (mVar rfl) (ALe fun c _ => by cases f c <;> cases g c <;> rfl)) maNil)))) fun l xs H13 s13 hl hx => ?_
    refine ⟨fun _ σ' H' => σ'.length = 14 ∧ Same H13 H', ⟨rfl, Same.refl _⟩, fun _ _ _ p => p.2, ?_, ?_⟩
    · rintro i x σ' H' hm ⟨p1, p2⟩
      obtain ⟨t, a', f', rfl, h1, h2⟩ := (hx x hm).to p2
      refine ⟨t, _, rfl, SqT.of h1, rfl, ?_⟩
      have g11 : ((σ'.set 11 (some (V.ref a'))).set 12 (some (V.str (S (AL.filter f')))))[11]? = some (some (V.ref a')) := by
        rw [List.getElem?_set_ne (by decide), List.getElem?_set_self (by omega)]
      have g12 : ((σ'.set 11 (some (V.ref a'))).set 12 (some (V.str (S (AL.filter f')))))[12]? = some (some (V.str (S (AL.filter f')))) := by
        rw [List.getElem?_set_self (by rw [List.length_set]; omega)]
      exact ⟨_, _, rfl, _, _, rfl, rfl, _, g11, _, g12, a', f', rfl, h2, fun H3 s3 => ⟨_, rfl, by rw [List.length_set, List.length_set]; exact p1, p2.trans s3⟩⟩
    · rintro i σ' H' ⟨_, p⟩
      exact k _ ((s012.trans s13).trans p)
end
end K00

set_option Elab.async false
set_option linter.all false
set_option maxRecDepth 100000
set_option maxHeartbeats 4000000
namespace K00
open PySem PySem.Spec PyProof.Rows L2 SX Z
/-! ### tests -/
def MkT (b : Bool) (t : TT) (σ : L2.St) (H : Hp) : Prop := ∀ H1, Same H H1 → ∀ R : Bool → Hp → Prop, (∀ H', Same H1 H' → R b H') → t σ H1 R
section
variable {K : PySem.W.Frag} {σ : L2.St} {H : Hp} {f : Nat → Bool} {t u : TE} {a c : TT}
theorem tNotB {b : Bool} (h : Mks (IsV (.bl b)) t σ H) : MkT (!b) (tNot (tB t)) σ H := fun H1 s R q => h H1 s _ fun x H2 s2 e => ⟨b, e, q _ s2⟩
theorem tOrF {b : Bool} (h : MkT false a σ H) (k : MkT b c σ H) : MkT b (tOr a c) σ H := fun H1 s R q => h H1 s _ fun H2 s2 => k H2 (s.trans s2) _ fun H3 s3 => q _ (s2.trans s3)
theorem mIfF {x r : TS} {D : Ends} (h : MkT false a σ H) (k : ∀ H', Same H H' → r D σ H') : tSeq (tIfS a x tNext) r D σ H := h H (Same.refl _) _ fun H' s => k H' s
theorem mIs {z : V} (ht : Mks (IsM K f) t σ H) (hu : Mks (IsV z) u σ H) (hz : z = .str (S (AL.filter f))) : Mks (IsV (.bl true)) (tCall (spIs K) [] E0 (tCons t (tCons u tNil))) σ H := by
  subst hz
  intro H1 s R q
  refine ht H1 s _ fun x H2 s2 ⟨a, ea, ma⟩ => ?_
  refine hu H2 (s.trans s2) _ fun y H3 s3 e => ?_
  subst ea e
  exact ⟨a, f, rfl, ma.to s3, fun H4 s4 => q _ _ ((s2.trans s3).trans s4) rfl⟩
end
section
variable {K : PySem.W.Frag} {σ : L2.St} {H : Hp} {f g : Nat → Bool} {t u v r : TE} {a c : TT}
theorem mTest {b : Bool} (h : Mks (IsV (.bl b)) t σ H) : MkT b (tTest t) σ H := fun H1 s R q => h H1 s _ fun x H2 s2 e => ⟨b, e, q _ s2⟩
theorem mMembers {z : V} {l : List Nat} (hl : l.length ≤ 1000) (ht : Mks (IsM K f) t σ H) (hu : Mks (IsV z) u σ H) (hz : z = .str (S (AL.filter f))) (hv : Mks (IsV (.str (S l))) v σ H) : Mks (IsV (.bl true)) (tCall (spMembers K) [] E0 (tCons t (tCons u (tCons v tNil)))) σ H := by
  subst hz
  intro H1 s R q
  refine ht H1 s _ fun x H2 s2 ⟨a, ea, ma⟩ => ?_
  refine hu H2 (s.trans s2) _ fun y H3 s3 e => ?_
  refine hv H3 ((s.trans s2).trans s3) _ fun y' H4 s4 e' => ?_
  subst ea e e'
  exact ⟨a, f, l, rfl, (ma.to s3).to s4, hl, fun H5 s5 => q _ _ (((s2.trans s3).trans s4).trans s5) rfl⟩
theorem mFour {z z' : V} (ht : Mks (IsM K f) t σ H) (hu : Mks (IsM K g) u σ H) (hv : Mks (IsV z) v σ H) (hr : Mks (IsV z') r σ H) (hz : z = .str (S (AL.filter f))) (hz' : z' = .str (S (AL.filter g))) : Mks (IsV (.bl true)) (tCall (spFour K) [] E0 (tCons t (tCons u (tCons v (tCons r tNil))))) σ H := by
  subst hz hz'
  intro H1 s R q
  refine ht H1 s _ fun x H2 s2 ⟨a, ea, ma⟩ => ?_
  refine hu H2 (s.trans s2) _ fun y H3 s3 ⟨b, eb, mb⟩ => ?_
  refine hv H3 ((s.trans s2).trans s3) _ fun y' H4 s4 e' => ?_
  refine hr H4 (((s.trans s2).trans s3).trans s4) _ fun y' H5 s5 e'' => ?_
  subst ea eb e' e''
  exact ⟨a, b, f, g, rfl, ((ma.to s3).to s4).to s5, (mb.to s4).to s5, fun H6 s6 => q _ _ ((((s2.trans s3).trans s4).trans s5).trans s6) rfl⟩
theorem mPlain {i : Nat} {l : List Nat} {e1 e2 : Str} (h1 : e1 = S [45]) (h2 : e2 = S []) (hl : l.length ≤ 1000) (hs : σ[i]? = some (some (.str (S l)))) :
    Mks (IsV (.str (S (txt l)))) (tOp (fun x y H Q => ∃ i j, x = V.str i ∧ y = V.str j ∧ i.length + j.length ≤ sizeLine ∧ Q (V.str (i ++ j)) H) (tVar i) (tOp rMulS (tC (.str e1)) (tCB (fun xs H Q => (∃ i, xs = [V.int i] ∧ Q (V.int i) H) ∨ ∃ k, xs = [V.bl k] ∧ Q (V.int (if k then 1 else 0)) H) (tCons (tOp rEq (tVar i) (tC (.str e2))) tNil)))) σ H := by
  subst h1 h2
  intro H1 s R q
  refine ⟨_, hs, _, hs, rfl, .inr ⟨_, rfl, ?_⟩⟩
  have ee : decide (V.str (S l) = V.str (S [])) = l.isEmpty := by
    rw [S_eq]
    cases l <;> rfl
  rw [ee]
  refine ⟨[45], _, rfl, rfl, by split <;> decide, by split <;> decide, by split <;> decide, _, _, rfl, rfl, ?_, ?_⟩
  · rw [S_len, S_len, List.length_flatten, List.map_replicate, List.sum_replicate_nat]
    show _ ≤ 16777216
    split <;> (simp; omega)
  · rw [S_cat, txt_eq]
    exact q _ _ (Same.refl _) rfl
def RowsEq (φ : Hp → V → Prop) (n : Nat) : Hp → V → Prop := fun H x => ∃ l xs, x = .ref l ∧ H l = some (.lst xs) ∧ xs.length = n ∧ ∀ x ∈ xs, φ H x
theorem mLstE {φ : Hp → V → Prop} (hφ : Keeps φ) {n : Nat} {r : TA} (hn : n ≤ 16777216) (hr : Mka φ n r σ H) : Mks (RowsEq φ n) (tLst r) σ H := by
  intro H1 s R q
  refine hr H1 s _ fun xs H2 s2 hl hxs => ?_
  exact ⟨by rw [hl]; exact hn, fun p hp => q _ _ (s2.trans (same_new hp)) ⟨p, xs, rfl, upd_same, hl, fun x hx => hφ _ _ _ (hxs x hx) (same_new hp)⟩⟩
end
theorem at_last {xs : List V} {a b : V} (h : xs.length = 8) : atI (xs ++ [a, b]) 9 = some b := by
  have hl : (xs ++ [a, b]).length = 10 := by rw [List.length_append, h]; rfl
  unfold atI
  rw [hl]
  show (xs ++ [a, b])[9]? = _
  rw [List.getElem?_append_right (by omega), h]
  rfl
theorem MkAt.but {n : Nat} {K : PySem.W.Frag} {H H' : Hp} {a p : Addr} {l : List Nat} (m : MkAt K H a l) (q : PoolN n H p) (b : But p H H') : MkAt K H' a l := by
  obtain ⟨dx, e⟩ := m
  refine ⟨dx, b _ _ (fun h => ?_) e⟩
  obtain ⟨xs, e2, _⟩ := q
  rw [h, e2] at e
  cases e
def IsTx (n : Nat) : V → Prop := fun x => ∃ l, x = .str (S l) ∧ l.length ≤ n ∧ Cp l
abbrev IsTxH (n : Nat) : Hp → V → Prop := fun _ x => IsTx n x
theorem mTx {n : Nat} {l : List Nat} {t : TE} {σ : L2.St} {H : Hp} (hl : l.length ≤ n) (hc : Cp l) (h : Mks (IsV (.str (S l))) t σ H) : Mks (IsTxH n) t σ H := h.mono fun _ _ e => ⟨l, e, hl, hc⟩
def spLaw (K : PySem.W.Frag) : Sp := fun vs H Q E => ∃ (a : Addr) (ns : List Int), vs = [.ref a] ∧ SqL K H a (ns.map V.int) ∧ ns.length ≤ 63 ∧ ∀ H', Q (.bl true) H'
section
variable {w : World} {K : PySem.W.Frag} {mg : Str → Option Value} {base : Heap}
theorem ok_law (T : Tx K mg) : ∃ fd, FunD K "law" "law" (defArgs s_law) (defBody s_law) (defScope s_law) [] (d_law.kws K) (MH.gl "law" K) fd ∧ FnOk P w K mg base CX0 8 (MH.gl "law" K) fd ["_law_script"] (spLaw K) := by
  obtain ⟨fd, F⟩ := T.f_law
  refine ⟨fd, F, F.ok sc_law ?_ ?_⟩
  · rintro vs H Q E ⟨a, ns, rfl, _⟩
    rfl
  · rintro cdv A outer s H vs Q E hr ⟨a, ns, rfl, hS, hn, k⟩
    refine ⟨_, PSs.nox ((pss_cons (ps_set (i := 1) sc_law.nd rfl (by first | exact Or.inl rfl | exact Or.inr rfl) (Z.pe_f (ok_L_draws T) hr T.g_L_draws pass0 (pa_cons (pv 0) pa_nil)))
  (pss_cons (ps_set (i := 2) sc_law.nd rfl (by first | exact Or.inl rfl | exact Or.inr rfl) (Z.pe_f (ok_L_letters T) hr T.g_L_letters pass0 (pa_cons (pv 1) pa_nil)))
  (pss_cons (ps_set (i := 3) sc_law.nd rfl (by first | exact Or.inl rfl | exact Or.inr rfl) (Z.pe_f (ok_L_letters_beside T) hr T.g_L_letters_beside pass0 (pa_cons (pv 1) (pa_cons (pv 2) pa_nil))))
  (pss_cons (ps_set (i := 4) sc_law.nd rfl (by first | exact Or.inl rfl | exact Or.inr rfl) (Z.pe_mk T.mk_Marks (ok_Marks_init T) (hr.mono (by decide)) T.g_Marks OwnX.passF (pa_cons (pv 2) pa_nil)))
  (pss_cons (ps_set (i := 5) sc_law.nd rfl (by first | exact Or.inl rfl | exact Or.inr rfl) (Z.pe_mk T.mk_Marks (ok_Marks_init T) (hr.mono (by decide)) T.g_Marks OwnX.passF (pa_cons (pv 3) pa_nil)))
  (pss_cons (ps_set (i := 6) sc_law.nd rfl (by first | exact Or.inl rfl | exact Or.inr rfl) (Z.pe_f (ok_L_set T) hr T.g_L_set pass0 (pa_cons (pv 2) pa_nil)))
  (pss_cons (ps_set (i := 7) sc_law.nd rfl (by first | exact Or.inl rfl | exact Or.inr rfl) (Z.pe_f (ok_L_set T) hr T.g_L_set pass0 (pa_cons (pv 3) pa_nil)))
  (pss_cons (ps_if (PW.pt (pw_or (pt_not (pt_val (Z.pe_f (ok_L_is T) hr T.g_L_is pass0 (pa_cons (pv 4) (pa_cons (pv 6) pa_nil))))) (pw_or (pt_not (pt_val (Z.pe_f (ok_L_is T) hr T.g_L_is pass0 (pa_cons (pv 5) (pa_cons (pv 7) pa_nil))))) (pw_or1 (pt_not (pt_val (Z.pe_f (ok_L_is T) hr T.g_L_is pass0 (pa_cons (Z.pe_mk0 T.mk_Marks (ok_Marks_init1 T) (hr.mono (by decide)) T.g_Marks OwnX.passF) (pa_cons pe_str pa_nil)))))))))
    (pss_one (ps_ret pe_bl))
    pss_nil)
  (pss_cons (ps_if (PW.pt (pw_or (pt_cmpR op_ne (ClX.pe_cval (pe_glob (v := .ref (MH.gl "Marks" _)) rfl T.g_Marks rfl)) pe_str (nomark _)) (pw_or1 (pt_not (pt_val (Z.pe_f (ok_L_members T) hr T.g_L_members pass0 (pa_cons (pv 4) (pa_cons (pv 6) (pa_cons (pe_op op_add_str (pv 2) (pv 3)) pa_nil)))))))))
    (pss_one (ps_ret pe_bl))
    pss_nil)
  (pss_cons (ps_if (PW.pt (pw_or (pt_not (pt_val (Z.pe_f (ok_L_results T) hr T.g_L_results pass0 (pa_cons (pv 4) (pa_cons (pv 5) (pa_cons (pv 6) (pa_cons (pv 7) pa_nil))))))) (pw_or1 (pt_not (pt_val (Z.pe_f (ok_L_equal T) hr T.g_L_equal pass0 (pa_cons (pv 4) (pa_cons (pv 5) (pa_cons (pv 6) (pa_cons (pv 7) pa_nil))))))))))
    (pss_one (ps_ret pe_bl))
    pss_nil)
  (pss_cons (ps_set (i := 8) sc_law.nd rfl (by first | exact Or.inl rfl | exact Or.inr rfl) (pe_op op_add_str (pv 6) (pe_op Z.op_mul_str pe_str (pe_callTy call_int1 (by rfl) T.free_int (by decide +kernel) (pa_cons (pe_cmpR op_eq (pv 6) pe_str (nomark _)) pa_nil)))))
  (pss_cons (ps_set (i := 9) sc_law.nd rfl (by first | exact Or.inl rfl | exact Or.inr rfl) (pe_lst (pa_cons (pv 2) (pa_cons (pv 3) (pa_cons (pv 8) (pa_cons (pv 7) (pa_cons pe_str (pa_cons pe_str (pa_cons (pe_op op_add_str (pv 8) pe_str) (pa_cons (pe_op op_add_str pe_str (pv 8)) pa_nil))))))))))
  (pss_cons (ps_set (i := 9) sc_law.nd rfl (by first | exact Or.inl rfl | exact Or.inr rfl) (pe_op op_cat (pv 9) (pe_lst (pa_cons (Z.pe_f (ok_L_bent T) hr T.g_L_bent pass0 (pa_cons (pv 1) (pa_cons (pv 2) pa_nil))) (pa_cons (Z.pe_f (ok_L_bent T) hr T.g_L_bent pass0 (pa_cons (pv 1) (pa_cons (pv 8) pa_nil))) pa_nil)))))
  (pss_cons (ps_set (i := 9) sc_law.nd rfl (by first | exact Or.inl rfl | exact Or.inr rfl) (pe_op op_cat (pv 9) (pe_lst (pa_cons (Z.pe_f (ok_L_bent T) hr T.g_L_bent pass0 (pa_cons (pv 1) (pa_cons pe_str pa_nil))) (pa_cons (Z.pe_f (ok_L_bent T) hr T.g_L_bent pass0 (pa_cons (pv 1) (pa_cons (pe_ix ix_list (pv 9) pe_int (fun _ _ => rfl)) pa_nil))) pa_nil)))))
  (pss_cons (ps_for PassesOwn.never rfl (pi_list (pv 9)) (pg_name (i := 10) sc_law.nd rfl (Or.inl rfl))
    (pss_one (ps_if (PW.pt (pw_or (pt_not (pt_val (Z.pe_f (ok_L_made_right T) hr T.g_L_made_right pass0 (pa_cons (pv 10) pa_nil)))) (pw_or1 (pt_not (pt_val (Z.pe_f (ok_L_read_right T) hr T.g_L_read_right pass0 (pa_cons (pv 10) pa_nil)))))))
      (pss_one (ps_ret pe_bl))
      pss_nil)))
  (pss_one (ps_ret (pe_and (Z.pe_f (ok_L_members T) hr T.g_L_members pass0 (pa_cons (pv 5) (pa_cons (pv 7) (pa_cons (pv 3) pa_nil)))) (pe_and (Z.pe_f (ok_L_is T) hr T.g_L_is pass0 (pa_cons (pv 4) (pa_cons (pv 6) pa_nil))) (pe_one (Z.pe_f (ok_L_is T) hr T.g_L_is pass0 (pa_cons (pv 5) (pa_cons (pv 7) pa_nil)))))))))))))))))))))))), ?_⟩
    refine ⟨_, rfl, a, ns, rfl, hS, hn, fun p H1 s1 n1 p1 => ?_⟩
    refine ⟨_, rfl, p, _, rfl, p1, by decide, fun l1 H2 a1 c1 b2 p2 => ?_⟩
    refine ⟨_, rfl, _, rfl, p, _, l1, rfl, p2, by decide, a1, c1, fun l2 H3 a2 c2 b3 p3 => ?_⟩
    have A1 : allM l1 = true := List.all_eq_true.mpr fun c hc => decide_eq_true (c1 c hc)
    have A2 : allM l2 = true := List.all_eq_true.mpr fun c hc => decide_eq_true (c2 c hc)
    refine mSeq (mMake (K := K) (l := l1) (by omega) A1 (mVar rfl)) fun v4 H4 s4 ⟨xa, e4, ma⟩ => ?_
    subst e4
    refine mSeq (mMake (K := K) (l := l2) (by omega) A2 (mVar rfl)) fun v5 H5 s5 ⟨xb, e5, mb⟩ => ?_
    subst e5
    refine mSeq (mSetOf (l := l1) (mVar rfl)) fun v6 H6 s6 e6 => ?_
    subst e6
    refine mSeq (mSetOf (l := l2) (mVar rfl)) fun v7 H7 s7 e7 => ?_
    subst e7
    have s47 := ((s4.trans s5).trans s6).trans s7
    have ma7 := ((ma.to s5).to s6).to s7
    have mb7 := (mb.to s6).to s7
    have p7 := p3.to s47
    refine mIfF (tOrF (tNotB (mIs (mVarM rfl ma7) (mVar rfl) rfl)) (tOrF (tNotB (mIs (mVarM rfl mb7) (mVar rfl) rfl)) (tNotB (mIs (mMake0 (by decide +kernel)) mC (congrArg V.str (by decide +kernel)))))) fun H8 s8 => ?_
    obtain ⟨uA, hA⟩ := T.all
    have mA : ∀ {σ : L2.St} {H : Hp}, Mks (IsV (.str (S AL))) (ClX.tCVal K (tC (.ref (cM K))) "ALL") σ H := fun H1 s R q => ⟨_, _, _, _, rfl, T.rd_Marks, hA, q _ _ (Same.refl _) rfl⟩
    have ma8 := ma7.to s8
    have mb8 := mb7.to s8
    refine mIfF (tOrF (mTest (b := !decide (AL = AL)) (mNeS mA (mCs (by decide +kernel)))) (tNotB (mMembers (by rw [List.length_append]; omega) (mVarM rfl ma8) (mVar rfl) rfl (mAdd (a := l1) (b := l2) (by omega) (mVar rfl) (mVar rfl))))) fun H9 s9 => ?_
    have ma9 := ma8.to s9
    have mb9 := mb8.to s9
    refine mIfF (tOrF (tNotB (mFour (mVarM rfl ma9) (mVarM rfl mb9) (mVar rfl) (mVar rfl) rfl rfl)) (tNotB (mFour (mVarM rfl ma9) (mVarM rfl mb9) (mVar rfl) (mVar rfl) rfl rfl))) fun H10 s10 => ?_
    have hl1 := AL_len fun c => decide (c ∈ l1)
    have hl2 := AL_len fun c => decide (c ∈ l2)
    refine mSeq (mPlain (l := setOf l1) (by decide +kernel) (by decide +kernel) (by show (AL.filter _).length ≤ _; omega) rfl) fun v8 H11 s11 e8 => ?_
    subst e8
    have kt : Keeps (IsTxH 900) := fun _ _ _ h _ => h
    have q1 : Cp l1 := InAL.cp c1
    have q2 : Cp l2 := InAL.cp c2
    have qs : ∀ f, Cp (AL.filter f) := fun f => InAL.cp fun c hc => (List.mem_filter.mp hc).1
    have lp : (txt (setOf l1)).length ≤ 6 := by
      unfold txt
      split
      · decide
      · exact hl1
    have qp : Cp (txt (setOf l1)) := by
      unfold txt
      split
      · intro c hc
        rw [List.mem_singleton.mp hc]
        decide
      · exact qs _
    have q10 : Cp [10] := fun c hc => by rw [List.mem_singleton.mp hc]; decide
    have q32 : Cp [32] := fun c hc => by rw [List.mem_singleton.mp hc]; decide
    have q45 : Cp [45] := fun c hc => by rw [List.mem_singleton.mp hc]; decide
    refine mSeq (mLstE kt (n := 8) (Nat.le_of_ble_eq_true rfl) (maCons kt (mTx (l := l1) (by omega) q1 (mVar rfl)) (maCons kt (mTx (l := l2) (by omega) q2 (mVar rfl)) (maCons kt (mTx (l := txt (setOf l1)) (by omega) qp (mVar rfl)) (maCons kt (mTx (l := setOf l2) (by show (AL.filter _).length ≤ _; omega) (qs _) (mVar rfl))
      (maCons kt (mTx (l := [45]) (Nat.le_of_ble_eq_true rfl) q45 (mCs (by decide +kernel))) (maCons kt (mTx (l := []) (Nat.le_of_ble_eq_true rfl) (fun c hc => nomatch hc) (mCs (by decide +kernel))) (maCons kt (mTx (l := txt (setOf l1) ++ [10]) (by rw [List.length_append]; show _ + 1 ≤ _; omega) (qp.cat q10) (mAdd (by show _ + 1 ≤ _; omega) (mVar rfl) (mCs (by decide +kernel))))
      (maCons kt (mTx (l := [32] ++ txt (setOf l1)) (by rw [List.length_append]; show 1 + _ ≤ _; omega) (q32.cat qp) (mAdd (by show 1 + _ ≤ _; omega) (mCs (by decide +kernel)) (mVar rfl))) maNil))))))))) fun v9 H12 s12 ⟨k1, xs1, e9, hk1, hx1, hy1⟩ => ?_
    subst e9
    have p12 := (((p7.to s8).to s9).to s10).to (s11.trans s12)
    -- two more texts, two times
    have ne : ∀ {n : Nat} {H' : Hp} {k : Addr} {xs : List V}, PoolN n H' p → H' k = some (.lst xs) → xs ≠ [] → (∀ x ∈ xs, IsTx 900 x) → k ≠ p := fun ⟨ys, e1, _⟩ e2 hn ha e => by
      rw [e, e1] at e2
      cases e2
      cases ys with
      | nil => exact hn rfl
      | cons y ys =>
        obtain ⟨t, e, _⟩ := ha (V.int y) List.mem_cons_self
        cases e
    have n1 : k1 ≠ p := ne p12 hk1 (fun e => by rw [e] at hx1; cases hx1) hy1
    refine ⟨_, rfl, _, rfl, _, rfl, p, _, l1, rfl, p12, by decide, by omega, q1, fun t1 H13 a13 c13 b13 p13 => ?_⟩
    refine ⟨_, rfl, _, rfl, p, _, txt (setOf l1), rfl, p13, by decide, by omega, qp, fun t2 H14 a14 c14 b14 p14 => ⟨(Nat.le_of_ble_eq_true rfl), fun k2 hk2 => ?_⟩⟩
    have hk1' := same_new (o := .lst [.str (S t1), .str (S t2)]) hk2 _ _ (b14 _ _ n1 (b13 _ _ n1 hk1))
    refine ⟨k1, k2, xs1, _, rfl, rfl, hk1', upd_same, by rw [hx1]; exact (Nat.le_of_ble_eq_true rfl), fun k3 hk3 => ?_⟩
    have p15 := (p14.to (same_new (o := .lst [.str (S t1), .str (S t2)]) hk2)).to (same_new (o := .lst (xs1 ++ [.str (S t1), .str (S t2)])) hk3)
    have hy3 : ∀ x ∈ xs1 ++ [V.str (S t1), V.str (S t2)], IsTx 900 x := fun x hx => by
      rcases List.mem_append.mp hx with h | h
      · exact hy1 x h
      · simp only [List.mem_cons, List.not_mem_nil, or_false] at h
        rcases h with rfl | rfl
        · exact ⟨t1, rfl, by omega, c13⟩
        · exact ⟨t2, rfl, by omega, c14⟩
    have n3 : k3 ≠ p := ne p15 upd_same (fun e => by have := congrArg List.length e; rw [List.length_append, hx1] at this; cases this) hy3
    refine ⟨_, rfl, _, rfl, p, _, [45], congrArg (fun z => [V.ref p, V.str z]) (by decide +kernel), p15, by decide, (Nat.le_of_ble_eq_true rfl), q45, fun t3 H16 a16 c16 b16 p16 => ?_⟩
    have hk3' := b16 _ _ n3 upd_same
    have at9 : atI (xs1 ++ [V.str (S t1), V.str (S t2)]) 9 = some (.str (S t2)) := at_last hx1
    refine ⟨_, rfl, _, rfl, k3, _, 9, _, rfl, rfl, SqL.of hk3', at9, p, _, t2, rfl, p16, by decide, by omega, c14, fun t4 H17 a17 c17 b17 p17 => ⟨(Nat.le_of_ble_eq_true rfl), fun k4 hk4 => ?_⟩⟩
    have hk3'' := same_new (o := .lst [.str (S t3), .str (S t4)]) hk4 _ _ (b17 _ _ n3 hk3')
    refine ⟨k3, k4, _, _, rfl, rfl, hk3'', upd_same, by rw [List.length_append, hx1]; exact (Nat.le_of_ble_eq_true rfl), fun k5 hk5 => ?_⟩
    have hy5 : ∀ x ∈ (xs1 ++ [V.str (S t1), V.str (S t2)]) ++ [V.str (S t3), V.str (S t4)], IsTx 900 x := fun x hx => by
      rcases List.mem_append.mp hx with h | h
      · exact hy3 x h
      · simp only [List.mem_cons, List.not_mem_nil, or_false] at h
        rcases h with rfl | rfl
        · exact ⟨t3, rfl, by have : ([45] : List Nat).length = 1 := rfl; omega, c16⟩
        · exact ⟨t4, rfl, by omega, c17⟩
    refine ⟨_, rfl, k5, rfl, ⟨_, SqL.of upd_same⟩, for_list (K := K) (a := k5) (xs := (xs1 ++ [V.str (S t1), V.str (S t2)]) ++ [V.str (S t3), V.str (S t4)]) (fun i σ H' => σ.take 8 = [some (.ref a), some (.ref p), some (.str (S l1)), some (.str (S l2)), some (.ref xa), some (.ref xb), some (.str (S (setOf l1))), some (.str (S (setOf l2)))] ∧ σ.length = 11 ∧ Same (upd (upd H17 k4 (.lst [.str (S t3), .str (S t4)])) k5 (.lst ((xs1 ++ [V.str (S t1), V.str (S t2)]) ++ [V.str (S t3), V.str (S t4)]))) H')
      ⟨rfl, rfl, Same.refl _⟩ (fun i σ H' _ q => q.2.2.seq (SqL.of upd_same)) ?_ ?_⟩
    · rintro i x σ H' hi ⟨z1, z2, z3⟩
      obtain ⟨t, rfl, ht, hc⟩ := hy5 x (List.mem_of_getElem? hi)
      have g10 : (σ.set 10 (some (V.str (S t))))[10]? = some (some (.str (S t))) := List.getElem?_set_self (by omega)
      refine ⟨_, g10, t, rfl, by omega, hc, fun H18 s18 => ⟨_, rfl, ?_⟩⟩
      refine ⟨_, g10, t, rfl, by omega, hc, fun H19 s19 => ⟨_, rfl, ?_⟩⟩
      exact ⟨by rw [List.take_set_of_le (by decide)]; exact z1, by rw [List.length_set]; exact z2, (z3.trans s18).trans s19⟩
    · rintro σ H' ⟨z1, z2, z3⟩
      have g : ∀ i, i < 8 → σ[i]? = (σ.take 8)[i]? := fun i hi => (List.getElem?_take_of_lt hi).symm
      have go : ∀ {x : Addr} {l : List Nat}, MkAt K H12 x l → MkAt K H' x l := fun m =>
        MkAt.to (MkAt.to (MkAt.to (((((m.but p12 b13).but p13 b14).to (same_new hk2)).to (same_new hk3)).but p15 b16 |>.but p16 b17) (same_new hk4)) (same_new hk5)) z3
      have maE := go (((ma9.to s10).to s11).to s12)
      have mbE := go (((mb9.to s10).to s11).to s12)
      have g3 : σ[3]? = some (some (.str (S l2))) := (g 3 (by decide)).trans (by rw [z1]; rfl)
      have g4 : σ[4]? = some (some (.ref xa)) := (g 4 (by decide)).trans (by rw [z1]; rfl)
      have g5 : σ[5]? = some (some (.ref xb)) := (g 5 (by decide)).trans (by rw [z1]; rfl)
      have g6 : σ[6]? = some (some (.str (S (setOf l1)))) := (g 6 (by decide)).trans (by rw [z1]; rfl)
      have g7 : σ[7]? = some (some (.str (S (setOf l2)))) := (g 7 (by decide)).trans (by rw [z1]; rfl)
      refine (mAndV (mMembers (l := l2) (by omega) (mVarM g5 mbE) (mVar g7) rfl (mVar g3)) (mAndV (mIs (mVarM g4 maE) (mVar g6) rfl) (mIs (mVarM g5 mbE) (mVar g7) rfl))) H' (Same.refl _) _ fun x H'' _ e => ?_
      subst e
      exact k H''
end
end K00

set_option Elab.async false
set_option linter.all false
set_option maxRecDepth 100000
set_option maxHeartbeats 4000000
namespace K00
open PySem PySem.Spec PyProof.Rows L2 SX Z
theorem facts {w : World} {K : PySem.W.Frag} {h : Heap} {mg : Str → Option Value} {f : Addr} (X : K.In h) (G : h.Ns mainGlobals mg) (hfa : mg ("law" : Str) = some (.ref f)) (c : MH.Says ex fn K) :
    ∃ fd : FuncData, (∀ (s : Shared) (v : Value), BindsTo s fd ⟨[v], []⟩ [("_law_script", v)]) ∧ ∀ base : Heap, K.In base → base.Ns mainGlobals mg → FnOk P w K mg base CX0 8 f fd ["_law_script"] (spLaw K) := by
  have T : Tx K mg := ⟨c, h, X, G⟩
  have e := hfa.symm.trans T.g_law
  cases e
  obtain ⟨fd0, F0⟩ := T.f_law
  refine ⟨fd0, fun s v => ?_, fun base _ _ => ?_⟩
  · exact FunD.bindsA (ps := ["_law_script"]) F0 (fun _ _ _ _ _ _ us hl => match us, hl with | [_], _ => rfl) s [v] rfl
  · obtain ⟨fd, F, h⟩ := ok_law (w := w) (base := base) T
    have : fd = fd0 := by
      obtain ⟨_, _, _, _, _, _, _, _, _, _, rfl, l1, _⟩ := F.ex
      obtain ⟨_, _, _, _, _, _, _, _, _, _, rfl, l2, _⟩ := F0.ex
      rw [l1] at l2
      cases l2
      rfl
    subst this
    exact h
end K00
open PySem PySem.W PySem.Calls PyProof.Rows
set_option maxHeartbeats 0 in
theorem PySem.Challenge.cw_pagebureau_k00_marks_as_sets_holds : PySem.Challenge.rw_pagebureau_k00_marks_as_sets.Holds := by
  w_on; o_law
  refine HandSHeadRun.head_any (r := OpenLaw.row PySem.Challenge.rw_pagebureau_k00_marks_as_sets) (q := view (OpenLaw.row PySem.Challenge.rw_pagebureau_k00_marks_as_sets).prog [22]) (H := K00.hk) (ob := K00.ob) (M := 20000) (loose := K00.names) (d := HandSHeadRun.topDef (OpenLaw.row PySem.Challenge.rw_pagebureau_k00_marks_as_sets).prog 22) (kwd := []) (fun s => MH.obs_eq)
    (by kernel_rfl) (fun s => by kernel_rfl) K00.run (by kernel_rfl) (by kernel_rfl) (by kernel_rfl) (by rfl) (by first | assumption | decide +kernel) (by decide +kernel) ⟨rfl, rfl, rfl, rfl, rfl, by decide +kernel⟩ ?hw ?hc
  case hw => w_witness2
  case hc =>
    refine L2.walk_ofE (l := PySem.Challenge.rw_pagebureau_k00_marks_as_sets) (n := 63) (k := 8) (x := "_law_script") (CX := L2.CX0) rfl (by decide) (by kernel_rfl) ⟨rfl, by decide, by decide⟩ ?F (fun _ _ _ _ z => z)
    intro w mg fa h Y G hmg0
    obtain ⟨K, KX, c⟩ := Y
    have hmg : mg ("law" : PySem.Str) = some (.ref fa) := by
      have e : (HandSHeadRun.topDef (OpenLaw.row PySem.Challenge.rw_pagebureau_k00_marks_as_sets).prog 22).name = ("law" : PySem.Str) := by kernel_rfl
      rw [← e]
      exact hmg0
    obtain ⟨fd, hb, hF⟩ := K00.facts (w := w) KX G hmg c
    exact ⟨K, fd, K00.spLaw K, KX, hb, fun H a ns hl _ hS => ⟨a, ns, rfl, hS, hl, fun _ => rfl⟩, hF⟩

