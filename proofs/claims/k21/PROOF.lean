import PyProof.Rows.All
import Wide.All
import OpenK.AllK
import Wide.FinOn
import HandS.ForMost
import HandS.Walk
import HandS.IsInst
import HandS.Conv
import PySem.Challenge.RW_cutfolds_k21_whole_weights
set_option Elab.async false
set_option linter.all false
set_option maxRecDepth 100000
set_option maxHeartbeats 8000000
/-! A def's promise where no repr of a list runs around the call (so that repr itself may be asked). -/
namespace Cf
open PySem PySem.Spec PyProof.Rows L2

/-- no list, tuple or dict is being shown around -/
def Calm (A : Around) : Prop := A.guards = some []

structure FnG (P : Program) (w : World) (K : PySem.W.Frag) (mg : Str → Option Value) (base : Heap) (CX : CXT) (lev : Nat) (f : Addr) (fd : FuncData) (ps : List Str) (sp : Sp) : Prop where
  len : ∀ vs H Q E, sp vs H Q E → vs.length = ps.length
  go : ∀ (A : Around) (out : List Env) (s : Shared) (H : Hp) (args : Args) (us : List Value) (vs : List V) (Q : VK) (E : XK), Calm A → Room lev A →
    Env0 P w K mg base A out s H → BindsTo s fd args (ps.zip us) → Vals vs us → sp vs H Q E → codeAny (model P w) A (.call (.ref f) args) (CR CX out P w H s Q E) s

section
variable {P : Program} {w : World} {K : PySem.W.Frag} {mg : Str → Option Value} {base : Heap} {CX : CXT} {f : Addr} {fd : FuncData} {ps : List Str} {sp sp' : Sp} {j lev : Nat}
theorem FnG.of (F : FnOk P w K mg base CX lev f fd ps sp) : FnG P w K mg base CX lev f fd ps sp :=
  ⟨F.len, fun A out s H args us vs Q E _ r => F.run A out s H args us vs Q E r⟩
/-- nothing is promised where nothing can be asked -/
theorem FnG.vain (h : ∀ vs H Q E, ¬ sp vs H Q E) : FnG P w K mg base CX lev f fd ps sp :=
  ⟨fun vs H Q E q => absurd q (h vs H Q E), fun A out s H args us vs Q E _ _ _ _ _ q => absurd q (h vs H Q E)⟩
theorem FnG.up (F : FnG P w K mg base CX j f fd ps sp) (h : j ≤ lev) : FnG P w K mg base CX lev f fd ps sp :=
  ⟨F.len, fun A out s H args us vs Q E c r => F.go A out s H args us vs Q E c (r.mono h)⟩
theorem FnG.imp (F : FnG P w K mg base CX lev f fd ps sp) (h : ∀ vs H Q E, sp' vs H Q E → sp vs H Q E) : FnG P w K mg base CX lev f fd ps sp' :=
  ⟨fun vs H Q E q => F.len vs H Q E (h _ _ _ _ q), fun A out s H args us vs Q E c r e b v z => F.go A out s H args us vs Q E c r e b v (h _ _ _ _ z)⟩

theorem end_of {out : List Env} {H : Hp} {s : Shared} {Q : VK} {E : XK} {N : List Str} {qual : Str} {sc : Scope} {cdv : Value} {A : Around} {fl : Flow} {s2 : Shared}
    (h : SP (cxOf CX P w K mg base N qual sc f cdv A out s H E) [] { nx := fun _ H2 => Q .non H2, rt := Q } fl s2) :
    match (match fl with | .next => Flow.ret Value.none | z => z) with | .ret u => CE out P w H s Q u s2 | _ => False := by
  cases fl with
  | ret u =>
    obtain ⟨v, _, H2, J, rv, q⟩ := h
    exact ⟨v, H2, J.os, J.bare, J.base, J.hok, rv, q⟩
  | next =>
    obtain ⟨_, H2, J, q⟩ := h
    exact ⟨V.non, H2, J.os, J.bare, J.base, J.hok, rfl, q⟩
  | brk =>
    obtain ⟨_, _, _, q⟩ := h
    exact q
  | cont =>
    obtain ⟨_, _, _, q⟩ := h
    exact q

/-- a def by its body -/
theorem okG {x qual : Str} {st : Stmt} {N : List Str} (F : Fun K x qual st f fd) (S : FnScope N ps (defScope st)) (hl : ∀ vs H Q E, sp vs H Q E → vs.length = ps.length)
    (hb : ∀ (cdv : Value) (A : Around) (out : List Env) (s : Shared) (H : Hp) (vs : List V) (Q : VK) (E : XK), Calm A → Room lev (A.deeper (envOfC qual (defScope st) s.heap.objs.size f cdv)) → sp vs H Q E →
      ∃ t, PSs (cxOf CX P w K mg base N qual (defScope st) f cdv A out s H E) (defBody st) t ∧ t { nx := fun _ H2 => Q .non H2, rt := Q } (start N vs) H) : FnG P w K mg base CX (lev + 1) f fd ps sp := by
  obtain ⟨oc, od, kV, doc, pm, an, cdv, ct, osl, rfl, lk, hcd⟩ := F.ex
  refine ⟨hl, fun A out s H args us vs Q E hc hr e0 hbind rv hs => ?_⟩
  have hlen := hl _ _ _ _ hs
  have inK : K.In s.heap := e0.mod.kin.keeps fun b o e => (e0.bs b o e).1
  have nolim : s.heap.NoLimit := e0.mod.nolimit.keeps fun b o e => (e0.bs b o e).1
  have kinds : ∀ y ∈ ps.zip us, (defScope st).names.lookup y.1 = some .local ∨ ((defScope st).names.lookup y.1 = some .cell ∧ ((cellsFrom (s.heap.objs.size + 1) (defScope st).names []).lookup y.1).isSome = true) := by
    rintro ⟨n, v⟩ hy
    rcases S.par n (List.of_mem_zip hy).1 with q | q
    · exact .inl q
    · exact .inr ⟨q, PySem.W.cellsFrom_some _ _ _ (.inl q)⟩
  refine codeAny_call_function hr.depth (inK _ _ lk) rfl S.co S.gen rfl (PySem.W.codeRec_of inK hcd) (hbind _ _ _ _ ?_)
  refine wpAny_newFunctionEnv_cells S.kind kinds fun env he s1 z => ?_
  subst he
  refine ⟨nolim.keeps z.toInCall.keep, codeAny_func ?_⟩
  obtain ⟨t, ht, hq⟩ := hb cdv A out s H vs Q E hc (hr.deeper _) hs
  refine wpAny_mono (ht.run [] s1 (start N vs) H _ (inv_start S hr.hd e0 hlen rv z) hq) (fun fl s2 h2 => ?_) fun e s2 h2 => h2
  have q := end_of h2
  cases fl with
  | ret u => exact q
  | next => exact q
  | brk => exact False.elim q
  | cont => exact False.elim q
/-- a def that lets nothing out -/
theorem okN {x qual : Str} {st : Stmt} {N : List Str} (F : Fun K x qual st f fd) (S : FnScope N ps (defScope st)) (hl : ∀ vs H Q E, sp vs H Q E → vs.length = ps.length)
    (hb : ∀ (cdv : Value) (A : Around) (out : List Env) (s : Shared) (H : Hp) (vs : List V) (Q : VK) (E : XK), Calm A → Room lev (A.deeper (envOfC qual (defScope st) s.heap.objs.size f cdv)) → sp vs H Q E →
      ∃ t, PSs (cxOf CX P w K mg base N qual (defScope st) f cdv A out s H E).nox (defBody st) t ∧ t { nx := fun _ H2 => Q .non H2, rt := Q } (start N vs) H) : FnG P w K mg base CX (lev + 1) f fd ps sp :=
  okG F S hl fun cdv A out s H vs Q E hc hr hs => by
    obtain ⟨t, h, q⟩ := hb cdv A out s H vs Q E hc hr hs
    exact ⟨t, h.nox, q⟩
end

section
variable {X : Cx} {CX : CXT} {lev : Nat} {f : Addr} {fd : FuncData} {ps ks : List Str} {sp : Sp} {E : XK} {x : Str} {p pos : Pos} {e : Expr} {es : List Expr} {kws : List Keyword} {te : TE} {t tk : TA}
  {g : List Value → List Value → List Value} {gV : List V → List V → List V}
theorem run_g {pins : List (Addr × Obj)} {σ : L2.St} {H : Hp} {s : Shared} {Q : VK} {args : Args} {us : List Value} {vs : List V} (F : FnG X.prog X.w X.K X.mg X.base CX lev f fd ps sp) (hc : Calm X.A) (hr : Room lev X.A)
    (hb : us.length = ps.length → BindsTo s fd args (ps.zip us)) (hx : Passes CX X E) (I : Inv X pins σ H s) (r : Vals vs us) (h : sp vs H Q E) :
    wpAny (model X.prog X.w) X.A (call (.ref f) args.pos args.kw) (EP X pins σ Q) X.xe s := by
  have hl : us.length = ps.length := by rw [← r.length]; exact F.len _ _ _ _ h
  refine wpAny_call (codeAny_mono (F.go X.A X.stack s H args us vs Q E hc hr I.env0 (hb hl) r h) fun z s2 hq => ?_)
  cases z with
  | error u => exact hx pins σ H s u s2 I hq
  | ok fl =>
    cases fl with
    | ret u => exact I.after hq
    | next => exact False.elim hq
    | brk => exact False.elim hq
    | cont => exact False.elim hq
end
section
variable {X : Cx} {CX : CXT} {lev : Nat} {f : Addr} {fd : FuncData} {ps ks : List Str} {sp : Sp} {E : XK} {x : Str} {p pos : Pos} {e : Expr} {es : List Expr} {kws : List Keyword} {te : TE} {t tk : TA}
  {g : List Value → List Value → List Value} {gV : List V → List V → List V}
/-- f(e, ..) -/
theorem pg_call (F : FnG X.prog X.w X.K X.mg X.base CX lev f fd ps sp) (hc : Calm X.A) (hr : Room lev X.A) (hg : Gl X x) (hm : X.mg x = some (.ref f)) (hk : PySem.W.keepIn X.K (.ref f) = true) (hb : Binds X.K fd ps []) (hx : Passes CX X E)
    (ha : PA X (e :: es) t) (hdb : (x == ("__debug__" : Str)) = false := by decide) (he : starEach (e :: es) X.env = (false, eval e X.env) :: starEach es X.env := by rfl) (hpl : (backTo pos (starEach es X.env)).any (·.1) = false := by rfl) :
    PE X (.Call (.Name x p) (e :: es) [] pos) (tCall sp [] E t) := by
  refine ⟨fun pins s σ H Q I h => wpAny_Call_Name_kw (ld_glob I hg hm ?_ hdb)⟩
  refine PySem.W.callWith_K (h₀ := X.base) I.ok.mod.kin hk (thn (ha.run pos pins s σ H _ I h) fun us s1 ⟨vs, H1, I1, r, q⟩ => ⟨I1.kIn, ?_⟩) he hpl
  have q1 : sp (vs ++ []) H1 Q E := q
  rw [List.append_nil] at q1
  exact run_g (args := ⟨us, []⟩) F hc hr (fun hl => by have z := hb s1 us I1.kIn (by rw [List.append_nil]; exact hl); rw [List.append_nil] at z; exact z) hx I1 r q1
/-- f() -/
theorem pg_call0 (F : FnG X.prog X.w X.K X.mg X.base CX lev f fd ps sp) (hc : Calm X.A) (hr : Room lev X.A) (hg : Gl X x) (hm : X.mg x = some (.ref f)) (hk : PySem.W.keepIn X.K (.ref f) = true) (hb : Binds X.K fd ps []) (hx : Passes CX X E)
    (hdb : (x == ("__debug__" : Str)) = false := by decide) : PE X (.Call (.Name x p) [] [] pos) (tCall sp [] E tNil) := by
  refine ⟨fun pins s σ H Q I h => wpAny_Call_Name_kw (ld_glob I hg hm ?_ hdb)⟩
  exact PySem.W.callWith_K0 I.kIn hk (run_g (args := ⟨[], []⟩) F hc hr (fun hl => hb s [] I.kIn hl) hx I .nil h)
/-- how keywords alone bind -/
structure KBindsE (K : PySem.W.Frag) (fd : FuncData) (ps ks : List Str) (g : List Value → List Value) (gV : List V → List V) : Prop where
  to : ∀ (s : Shared) (ws : List Value), K.In s.heap → (g ws).length = ps.length → BindsTo s fd ⟨[], ks.zip ws⟩ (ps.zip (g ws))
  rel : ∀ {zs : List V} {ws : List Value}, Vals zs ws → Vals (gV zs) (g ws)
def tCallE (sp : Sp) (gV : List V → List V) (E : XK) (tk : TA) : TE := fun σ H Q => tk σ H fun zs H1 => sp (gV zs) H1 Q E
/-- f(k = v, ..), keywords alone -/
theorem pg_callK {g : List Value → List Value} {gV : List V → List V} (F : FnG X.prog X.w X.K X.mg X.base CX lev f fd ps sp) (hc : Calm X.A) (hr : Room lev X.A) (hg : Gl X x) (hm : X.mg x = some (.ref f)) (hk : PySem.W.keepIn X.K (.ref f) = true) (hb : KBindsE X.K fd ps ks g gV) (hx : Passes CX X E)
    (hkw : PK X kws tk) (hall : (backToKw pos (keywordEach kws X.env)).all (·.1.isSome) = true := by rfl) (hks : (backToKw pos (keywordEach kws X.env)).filterMap (·.1) = ks := by rfl) (hdb : (x == ("__debug__" : Str)) = false := by decide)
    (hpl : ((backTo pos (starEach [] X.env)).any (·.1) || (backToKw pos (keywordEach kws X.env)).any (·.1.isNone)) = false := by rfl) :
    PE X (.Call (.Name x p) [] kws pos) (tCallE sp gV E tk) := by
  refine ⟨fun pins s σ H Q I h => wpAny_Call_Name_kw (ld_glob I hg hm ?_ hdb)⟩
  refine PySem.W.callWith_KW0 (h₀ := X.base) I.ok.mod.kin hk hall (thn (hkw.run pos pins s σ H _ I h) fun ws s2 ⟨zs, H2, I2, rz, q2⟩ => ⟨I2.kIn, ?_⟩) hpl
  rw [hks]
  exact run_g (args := ⟨[], ks.zip ws⟩) F hc hr (hb.to s2 ws I2.kIn) hx I2 (hb.rel rz) q2
end

/-! ### repr of data, of any depth -/
section
variable {X : Cx}
/-- what can be shown here: small ints, no dicts, a text within the line -/
def Shown (d : PyData) : Prop := d.showable = true ∧ d.hasDict = false ∧ d.depth ≤ 100 ∧ d.shown.length ≤ sizeLine
theorem repr_val {pins : List (Addr × Obj)} {σ : L2.St} {H : Hp} {s : Shared} {Q : VK} {v : V} {u : Value} {d : PyData} (hc : Calm X.A) (hu : X.A.units + 200 < cLine) (I : Inv X pins σ H s) (r : RelV v u) (hd : Dp X.K H v d) (hs : Shown d) (q : Q (.str d.shown) H) :
    wpAny (model X.prog X.w) X.A (call (.builtin "repr") [u]) (EP X pins σ Q) X.xe s := by
  obtain ⟨as, rd⟩ := Dp.reads I d v u hd r
  obtain ⟨h1, h2, h3, h4⟩ := hs
  have fin : ∀ (h' : Heap) (t : Tok) (tk : Nat), (∀ b o, s.heap.get? b = some o → h'.get? b = some o) → EP X pins σ Q (Value.str d.shown t) { s with heap := h', toks := tk } := fun h' t tk k => ⟨.str d.shown, H, I.kept k, ⟨_, rfl⟩, q⟩
  cases hd with
  | non =>
    cases r
    exact PySem.P.repr_of_none ⟨.str _, H, I.tok _, ⟨_, rfl⟩, (by rw [PyData.shown_none] at q; exact q)⟩
  | bl b =>
    cases r
    exact PySem.P.repr_of_bool ⟨.str _, H, I.tok _, ⟨_, rfl⟩, (by rw [PyData.shown_bool] at q; exact q)⟩
  | int i =>
    obtain ⟨t, rfl⟩ := r
    have hi : i.natAbs.log2 < 1920 := of_decide_eq_true (by unfold PyData.showable at h1; exact h1)
    exact PySem.P.repr_of_int hi ⟨.str _, H, I.tok _, ⟨_, rfl⟩, (by rw [PyData.shown_int] at q; exact q)⟩
  | str x =>
    obtain ⟨t, rfl⟩ := r
    refine PySem.P.repr_of_str ⟨.str _, H, I.tok _, ⟨_, rfl⟩, (by rw [PyData.shown_str] at q; exact q)⟩ (by rw [PyData.shown_str] at h4; exact h4)
  | lst h5 h6 =>
    cases r
    exact repr_of_reads' rd h1 (fun z => by rw [h2] at z; cases z) hc (by omega) (fun b o e => e) (fun h' t tk k => fin h' t tk k) h4
  | tup h5 h6 =>
    cases r
    exact repr_of_reads' rd h1 (fun z => by rw [h2] at z; cases z) hc (by omega) (fun b o e => e) (fun h' t tk k => fin h' t tk k) h4
def rRepr (K : PySem.W.Frag) : List V → Hp → VK → Prop := fun xs H Q => ∃ v d, xs = [v] ∧ Dp K H v d ∧ Shown d ∧ Q (.str d.shown) H
theorem call_repr (hc : Calm X.A) (hu : X.A.units + 200 < cLine) : CallR X (.builtin "repr") (rRepr X.K) := by
  intro pins s σ H xs us Q I r h
  obtain ⟨v, d, rfl, hd, hs, q⟩ := h
  cases r with
  | cons r1 r2 =>
    cases r2
    exact repr_val hc hu I r1 hd hs q
end

/-! ### a power of great ints -/
section
variable {X : Cx}
def CPowW (i j : Int) : Prop := 0 ≤ j ∧ (Builtin.Int.intBits i : Int) * j ≤ 2 ^ 27
theorem op_powW : OpR X (binaryOp .Pow) (rI CPowW fun i j => .int (i ^ j.toNat)) := opI fun _ _ _ _ _ _ _ hc q => pow_int hc.1 hc.2 q
end
/-! ### the law's own head -/
theorem entry {P : Program} {w : World} {K : PySem.W.Frag} {mg mb : Str → Option Value} {CX : CXT} {lev : Nat} {fa at1 : Addr} {fd : FuncData} {x : Str} {sp : Sp} {s1 : Shared} {us : List Value} {ns : List Int}
    (KX : K.In s1.heap) (hns : s1.heap.Ns mainGlobals mg) (hb : s1.heap.Ns builtinsNs mb) (hbb : ∀ y : Str, y ≠ "__name__" → mb y = bootBuiltins y) (hlim : s1.heap.NoLimit) (hgen : s1.gens = #[])
    (ha : s1.heap.get? at1 = some { cls := .type "list", data := .seq us.toArray }) (hi : IntsAre us ns) (hl : ns.length ≤ sizeLine) (hr : Room lev callerA)
    (F : ∀ base : Heap, K.In base → base.Ns mainGlobals mg → FnG P w K mg base CX lev fa fd [x] sp) (hbind : ∀ (s : Shared) (u : Value), BindsTo s fd ⟨[u], []⟩ [(x, u)])
    (hsp : ∀ H : Hp, Only H → SqL K H at1 (ns.map V.int) → sp [.ref at1] H (fun v _ => v = .bl true) fun _ _ _ => False) (hCX : ∀ H e s2, CX [] H s1 (fun _ _ _ => False) e s2 → False) :
    codeAny (model P w) callerA (.call (.ref fa) ⟨[.ref at1], []⟩) (fun r s2 => r = .ok (.ret (.bool true)) ∧ OldK s1.heap s2.heap ∧ s2.os = s1.os ∧ AllBare s2.gens) s1 := by
  have rv := vals_ints hi
  have lenV := hi.length
  have main : ∀ H : Hp, Only H → SqL K H at1 (ns.map V.int) → HOk P w H s1.heap → (∀ b, H b ≠ none → b = at1) → (H at1 ≠ none → K.lookup at1 = none) →
      codeAny (model P w) callerA (.call (.ref fa) ⟨[.ref at1], []⟩) (fun r s2 => r = .ok (.ret (.bool true)) ∧ OldK s1.heap s2.heap ∧ s2.os = s1.os ∧ AllBare s2.gens) s1 := by
    intro H hO hS hok only hK
    have dictOut : ∀ {b : Addr} {o : Obj} {es : Array DictEntry} {ep : Nat}, s1.heap.get? b = some o → o.data = .dict es ep → H b = none := by
      intro b o es ep e d
      cases z : H b with
      | none => rfl
      | some u =>
        have eb : b = at1 := only b (by rw [z]; exact fun q => nomatch q)
        rw [eb, ha] at e
        cases e
        exact nomatch d
    have nsBase : ∀ {b : Addr} {m : Str → Option Value}, s1.heap.Ns b m → (hidT s1.heap H).Ns b m := by
      rintro b m ⟨o, es, ep, e, d, r⟩
      exact ⟨o, es, ep, hidT_get e (dictOut e d), d, r⟩
    have kBase : K.In (hidT s1.heap H) := by
      intro b o e
      refine hidT_get (KX b o e) ?_
      cases z : H b with
      | none => rfl
      | some u =>
        have eb : b = at1 := only b (by rw [z]; exact fun q => nomatch q)
        rw [eb] at z e
        rw [hK (by rw [z]; exact fun q => nomatch q)] at e
        cases e
    have md : Mod K mg (hidT s1.heap H) := by
      obtain ⟨mc, h1, h2⟩ := hlim
      exact ⟨kBase, nsBase hns, ⟨mb, nsBase hb, hbb⟩, ⟨mc, nsBase h1, h2⟩⟩
    have e0 : Env0 P w K mg (hidT s1.heap H) callerA [] s1 H :=
      ⟨rfl, md, fun b o e => of_hidT e, Nat.le_of_eq (hidT_size _ _), trivial, fun b z => (List.not_mem_nil (show b ∈ ([] : List Addr) from z)).elim, hok, .of_eq hgen⟩
    refine codeAny_mono ((F _ kBase (nsBase hns)).go callerA [] s1 H ⟨[.ref at1], []⟩ [.ref at1] [.ref at1] _ _ rfl hr e0 (hbind s1 (.ref at1)) (.cons rfl .nil) (hsp H hO hS)) fun r s2 h => ?_
    cases r with
    | error e => exact (hCX H e s2 h).elim
    | ok fl =>
      cases fl with
      | ret u =>
        obtain ⟨v, H2, os, bare, un, hok2, r2, q⟩ := h
        have q2 : v = .bl true := q
        subst q2
        obtain rfl : u = Value.bool true := r2
        refine ⟨rfl, OldK.of_keep fun b o e => ?_, os, bare⟩
        cases z : H b with
        | none => exact un.keep b o e z (fun y => (List.not_mem_nil (show b ∈ ([] : List Addr) from y)).elim) (by simp)
        | some u =>
          rcases hO b with y | ⟨ob, xs, y⟩
          · rw [z] at y
            cases y
          · obtain ⟨e1, _⟩ := hok b _ y
            obtain ⟨e2, _⟩ := hok2 b _ (un.frzs b ob _ y)
            rw [e] at e1
            cases e1
            exact e2
      | next => exact False.elim h
      | brk => exact False.elim h
      | cont => exact False.elim h
  cases hk : K.lookup at1 with
  | some o =>
    have e := KX at1 o hk
    rw [ha] at e
    cases e
    refine main (fun _ => none) (fun _ => .inl rfl) (.inr ⟨_, us.toArray, _, hk, rfl, rfl, rfl, by rw [List.size_toArray, lenV]; exact hl, by simpa using rv⟩) (fun b u z => nomatch (show (none : Option HO) = some u from z)) (fun b z => absurd rfl z) fun z => absurd rfl z
  | none =>
    have yes : ∀ b, b = at1 → (if b = at1 then some (HO.frz { cls := .type "list", data := .seq us.toArray } (.lst (ns.map V.int))) else none) = some (HO.frz { cls := .type "list", data := .seq us.toArray } (.lst (ns.map V.int))) := fun b e => if_pos e
    refine main (fun b => if b = at1 then some (.frz { cls := .type "list", data := .seq us.toArray } (.lst (ns.map V.int))) else none) (fun b => ?_) (.inl (.inr ⟨_, yes at1 rfl⟩)) (fun b u z => ?_) (fun b z => ?_) fun _ => hk
    · by_cases eb : b = at1
      · exact .inr ⟨_, _, yes b eb⟩
      · exact .inl (if_neg eb)
    · by_cases eb : b = at1
      · have z2 := (yes b eb).symm.trans z
        cases z2
        rw [eb]
        exact ⟨ha, by rw [List.length_map]; exact hl, us, _, rv, ha⟩
      · have z2 := (if_neg eb).symm.trans z
        cases z2
    · by_cases eb : b = at1
      · exact eb
      · exact absurd (if_neg eb) z

/-- what k_head leaves, from the law's promise -/
theorem walkG {l : PySem.W.OpenLaw} {n lev : Nat} {q : Program} {loose : List Str} {XP : (Str → Option Value) → Heap → Prop} {YP : World → Heap → Prop} {d : DefRec} {K : Params → PySem.W.Frag} {CX : World → CXT} {sp : World → Sp} {x : Str}
    (hn : l.most = some n) (hn2 : n ≤ sizeLine) (hdf : d.params.defaults = []) (hr : Room lev callerA) (hY : ∀ (w : World) (h : Heap), YP w h → (K w.params).In h)
    (F : ∀ (w : World) (mg : Str → Option Value) (fa : Addr) (h : Heap), (K w.params).In h → h.Ns mainGlobals mg → mg d.name = some (.ref fa) →
      ∃ fd : FuncData, (∀ (s : Shared) (u : Value), BindsTo s fd ⟨[u], []⟩ [(x, u)]) ∧ ∀ base : Heap, (K w.params).In base → base.Ns mainGlobals mg → FnG l.prog w (K w.params) mg base (CX w) lev fa fd [x] (sp w))
    (hsp : ∀ (w : World) (H : Hp) (at1 : Addr) (ns : List Int), ns.length ≤ n → Only H → SqL (K w.params) H at1 (ns.map V.int) → sp w [.ref at1] H (fun v _ => v = .bl true) fun _ _ _ => False)
    (hCX : ∀ (w : World) (H : Hp) (s : Shared) (e : Value) (s2 : Shared), CX w [] H s (fun _ _ _ => False) e s2 → False) :
    PySem.W.WalkO q loose XP YP l.row.toRowW d [] (fun f vs => PySem.call f vs) := by
  refine Att.attach_call hn hdf fun w s0 s1 mg mb fa o pm cd doc at1 us ns G Y ho hd hcd hmg hobj hints hlen hg => ?_
  have KX := hY w _ Y
  obtain ⟨fd, hb, hF⟩ := F w mg fa _ KX G.T.g hmg
  exact entry KX G.T.g G.T.b G.T.builtins G.T.nolimit hg hobj hints (Nat.le_trans hlen hn2) hr hF hb (fun H hO hS => hsp w H at1 ns hlen hO hS) fun H e s2 => hCX w H s1 e s2

end Cf

/-! Data as a whole: what a value is worth at a heap, and what stays of it. -/
namespace Cf
open PySem PySem.Spec PyProof.Rows L2

mutual
inductive At (H : Hp) : V → PyData → Prop
  | non : At H .non .none
  | bl (b : Bool) : At H (.bl b) (.bool b)
  | int (i : Int) : At H (.int i) (.int i)
  | str (x : Str) : At H (.str x) (.str x)
  | lst {p : Addr} {xs : List V} {ds : List PyData} : H p = some (.lst xs) → AtL H xs ds → At H (.ref p) (.list ds)
  | tup {p : Addr} {xs : List V} {ds : List PyData} : H p = some (.tup xs) → AtL H xs ds → At H (.ref p) (.tuple ds)
inductive AtL (H : Hp) : List V → List PyData → Prop
  | nil : AtL H [] []
  | cons {v : V} {vs : List V} {d : PyData} {ds : List PyData} : At H v d → AtL H vs ds → AtL H (v :: vs) (d :: ds)
end

mutual
theorem At.mono {H H2 : Hp} (s : Same H H2) : ∀ (d : PyData) (v : V), At H v d → At H2 v d
  | .none, _, h => by cases h; exact .non
  | .bool b, _, h => by cases h; exact .bl b
  | .int i, _, h => by cases h; exact .int i
  | .str x, _, h => by cases h; exact .str x
  | .list ds, _, h => by
    cases h with
    | lst e a => exact .lst (s _ _ e) (AtL.mono s ds _ a)
  | .tuple ds, _, h => by
    cases h with
    | tup e a => exact .tup (s _ _ e) (AtL.mono s ds _ a)
  | .dict _, _, h => by cases h
theorem AtL.mono {H H2 : Hp} (s : Same H H2) : ∀ (ds : List PyData) (vs : List V), AtL H vs ds → AtL H2 vs ds
  | [], _, h => by cases h; exact .nil
  | d :: ds, _, h => by
    cases h with
    | cons a r => exact .cons (At.mono s d _ a) (AtL.mono s ds _ r)
end
theorem At.up {H H2 : Hp} {d : PyData} {v : V} (h : At H v d) (s : Same H H2) : At H2 v d := At.mono s d v h
theorem AtL.up {H H2 : Hp} {ds : List PyData} {vs : List V} (h : AtL H vs ds) (s : Same H H2) : AtL H2 vs ds := AtL.mono s ds vs h

mutual
theorem At.dp {K : PySem.W.Frag} {H : Hp} : ∀ (d : PyData) (v : V), At H v d → Dp K H v d
  | .none, _, h => by cases h; exact .non
  | .bool b, _, h => by cases h; exact .bl b
  | .int i, _, h => by cases h; exact .int i
  | .str x, _, h => by cases h; exact .str x
  | .list ds, _, h => by
    cases h with
    | lst e a => exact .lst (SqL.of e) (AtL.dp ds _ a)
  | .tuple ds, _, h => by
    cases h with
    | tup e a => exact .tup (SqT.of e) (AtL.dp ds _ a)
  | .dict _, _, h => by cases h
theorem AtL.dp {K : PySem.W.Frag} {H : Hp} : ∀ (ds : List PyData) (vs : List V), AtL H vs ds → DpAll K H vs ds
  | [], _, h => by cases h; exact .nil
  | d :: ds, _, h => by
    cases h with
    | cons a r => exact .cons (At.dp d _ a) (AtL.dp ds _ r)
end

section
variable {H H2 : Hp} {v : V} {p : Addr} {vs ws : List V} {d e : PyData} {ds es : List PyData} {i : Int} {b : Bool} {x : Str}
theorem At.int_eq (h : At H v (.int i)) : v = .int i := by cases h; rfl
theorem At.bl_eq (h : At H v (.bool b)) : v = .bl b := by cases h; rfl
theorem At.str_eq (h : At H v (.str x)) : v = .str x := by cases h; rfl
theorem At.non_eq (h : At H v .none) : v = .non := by cases h; rfl
theorem At.lst_ex (h : At H v (.list ds)) : ∃ p xs, v = .ref p ∧ H p = some (.lst xs) ∧ AtL H xs ds := by
  cases h with
  | lst e a => exact ⟨_, _, rfl, e, a⟩
theorem At.tup_ex (h : At H v (.tuple ds)) : ∃ p xs, v = .ref p ∧ H p = some (.tup xs) ∧ AtL H xs ds := by
  cases h with
  | tup e a => exact ⟨_, _, rfl, e, a⟩
theorem AtL.length : ∀ {vs : List V} {ds : List PyData}, AtL H vs ds → vs.length = ds.length
  | [], _, h => by cases h; rfl
  | v :: vs, _, h => by
    cases h with
    | cons a r => rw [List.length_cons, List.length_cons, AtL.length r]
theorem AtL.append : ∀ {vs ws : List V} {ds es : List PyData}, AtL H vs ds → AtL H ws es → AtL H (vs ++ ws) (ds ++ es)
  | [], _, _, _, h, k => by cases h; exact k
  | v :: vs, _, _, _, h, k => by
    cases h with
    | cons a r => exact .cons a (AtL.append r k)
theorem AtL.get : ∀ {vs : List V} {ds : List PyData} {n : Nat} {d : PyData}, AtL H vs ds → ds[n]? = some d → ∃ v, vs[n]? = some v ∧ At H v d
  | [], _, _, _, h, e => by cases h; simp at e
  | v :: vs, _, 0, _, h, e => by
    cases h with
    | cons a r => exact ⟨v, rfl, by have e2 := Option.some.inj e; rw [← e2]; exact a⟩
  | v :: vs, _, n + 1, d, h, e => by
    cases h with
    | cons a r =>
      obtain ⟨w, h1, h2⟩ := AtL.get (n := n) (d := d) r (by simpa using e)
      exact ⟨w, by simpa using h1, h2⟩
theorem AtL.get2 : ∀ {vs : List V} {ds : List PyData} {n : Nat} {v : V}, AtL H vs ds → vs[n]? = some v → ∃ d, ds[n]? = some d ∧ At H v d
  | [], _, _, _, h, e => by simp at e
  | w :: vs, _, 0, _, h, e => by
    cases h with
    | cons a r => exact ⟨_, rfl, by have e2 := Option.some.inj e; rw [← e2]; exact a⟩
  | w :: vs, _, n + 1, v, h, e => by
    cases h with
    | cons a r =>
      obtain ⟨d, h1, h2⟩ := AtL.get2 (n := n) (v := v) r (by simpa using e)
      exact ⟨d, by simpa using h1, h2⟩
theorem AtL.take : ∀ {vs : List V} {ds : List PyData} (n : Nat), AtL H vs ds → AtL H (vs.take n) (ds.take n)
  | _, _, 0, _ => .nil
  | [], _, n + 1, h => by cases h; exact .nil
  | v :: vs, _, n + 1, h => by
    cases h with
    | cons a r => exact .cons a (AtL.take n r)
theorem AtL.drop : ∀ {vs : List V} {ds : List PyData} (n : Nat), AtL H vs ds → AtL H (vs.drop n) (ds.drop n)
  | _, _, 0, h => h
  | [], _, n + 1, h => by cases h; exact .nil
  | v :: vs, _, n + 1, h => by
    cases h with
    | cons a r => exact AtL.drop n r
theorem AtL.ints : ∀ {ns : List Int}, AtL H (ns.map V.int) (ns.map PyData.int)
  | [] => .nil
  | n :: ns => .cons (.int n) AtL.ints
theorem AtL.ints_eq : ∀ {ns : List Int} {vs : List V}, AtL H vs (ns.map PyData.int) → vs = ns.map V.int
  | [], _, h => by cases h; rfl
  | n :: ns, _, h => by
    cases h with
    | cons a r => rw [At.int_eq a, AtL.ints_eq r]; rfl
theorem AtL.one (h : At H v d) : AtL H [v] [d] := .cons h .nil
end

/-- a list of ints, as data -/
def intsD (ns : List Int) : PyData := .list (ns.map .int)
theorem ints_ex {H : Hp} {v : V} {ns : List Int} (h : At H v (intsD ns)) : ∃ p, v = .ref p ∧ H p = some (.lst (ns.map V.int)) := by
  obtain ⟨p, xs, e, hp, a⟩ := At.lst_ex h
  rw [AtL.ints_eq a] at hp
  exact ⟨p, e, hp⟩
theorem ints_at {H : Hp} {p : Addr} {ns : List Int} (h : H p = some (.lst (ns.map V.int))) : At H (.ref p) (intsD ns) := .lst h AtL.ints

/-! ### what grows: B is the part that stays, H all that is tracked -/
structure Grow (B H B2 H2 : Hp) : Prop where
  bb : Same B B2
  bh : Same B2 H2
  hh : Same H H2
  fr : ∀ b, H b ≠ none → B b = none → B2 b = none
theorem Grow.refl {B H : Hp} (s : Same B H) : Grow B H B H := ⟨Same.refl _, s, Same.refl _, fun _ _ h => h⟩
theorem ne_none_of {H H2 : Hp} (s : Same H H2) {b : Addr} (h : H b ≠ none) : H2 b ≠ none := fun e => by
  cases q : H b with
  | none => exact h q
  | some o => rw [s b o q] at e; cases e
theorem Grow.trans {B H B1 H1 B2 H2 : Hp} (g : Grow B H B1 H1) (k : Grow B1 H1 B2 H2) : Grow B H B2 H2 :=
  ⟨g.bb.trans k.bb, k.bh, g.hh.trans k.hh, fun b h e => k.fr b (ne_none_of g.hh h) (g.fr b h e)⟩
theorem same_new {H : Hp} {p : Addr} {o : HO} (h : H p = none) : Same H (upd H p o) := fun b u q => by
  rw [upd_ne (ne_of_none q h)]
  exact q
theorem Grow.new {B H : Hp} {p : Addr} {o : HO} (s : Same B H) (h : H p = none) : Grow B H (upd B p o) (upd H p o) := by
  refine ⟨same_new (s.free h), fun b u q => ?_, same_new h, fun b hb e => ?_⟩
  · by_cases eb : b = p
    · rw [eb, upd_same] at q
      rw [eb, upd_same]
      exact q
    · rw [upd_ne eb] at q
      rw [upd_ne eb]
      exact s b u q
  · have eb : b ≠ p := fun z => by
      rw [z] at hb
      exact hb h
    rw [upd_ne eb]
    exact e
/-- the same, where the new object is kept apart (it will be changed) -/
theorem Grow.own {B H : Hp} {p : Addr} {o : HO} (s : Same B H) (h : H p = none) : Grow B H B (upd H p o) :=
  ⟨Same.refl _, s.trans (same_new h), same_new h, fun _ _ e => e⟩

/-! ### the leaves of a reading -/
section
variable {K : PySem.W.Frag} {B H : Hp} {Q : VK} {x y v : V} {vs : List V} {ds es : List PyData} {d e : PyData} {i : Int} {n : Nat}
/-- a new list, a new tuple, of items that are data -/
theorem q_lst (s : Same B H) (a : AtL B vs ds) (hl : vs.length ≤ 100000) (q : ∀ v B2 H2, Grow B H B2 H2 → At B2 v (.list ds) → Q v H2) : vs.length ≤ sizeLine ∧ ∀ p, H p = none → Q (.ref p) (upd H p (.lst vs)) :=
  ⟨Nat.le_trans hl (by decide), fun p hp => q _ _ _ (Grow.new s hp) (.lst upd_same (a.up (same_new (s.free hp))))⟩
theorem q_tup (s : Same B H) (a : AtL B vs ds) (hl : vs.length ≤ 100000) (q : ∀ v B2 H2, Grow B H B2 H2 → At B2 v (.tuple ds) → Q v H2) : vs.length ≤ sizeLine ∧ ∀ p, H p = none → Q (.ref p) (upd H p (.tup vs)) :=
  ⟨Nat.le_trans hl (by decide), fun p hp => q _ _ _ (Grow.new s hp) (.tup upd_same (a.up (same_new (s.free hp))))⟩
theorem q_cat (s : Same B H) (a : At B x (.list ds)) (b : At B y (.list es)) (hl : ds.length + es.length ≤ 100000) (q : ∀ v B2 H2, Grow B H B2 H2 → At B2 v (.list (ds ++ es)) → Q v H2) : rCat x y H Q := by
  obtain ⟨p, xs, rfl, hp, ax⟩ := a.lst_ex
  obtain ⟨r, zs, rfl, hr, az⟩ := b.lst_ex
  refine ⟨p, r, xs, zs, rfl, rfl, s _ _ hp, s _ _ hr, ?_, fun t ht => ?_⟩
  · rw [ax.length, az.length]
    exact Nat.le_trans hl (by decide)
  · exact q _ _ _ (Grow.new s ht) (.lst upd_same ((ax.append az).up (same_new (s.free ht))))
theorem q_ix (s : Same B H) (a : At B x (.list ds)) (h0 : 0 ≤ i) (hd : ds[i.toNat]? = some d) (q : ∀ v, At B v d → Q v H) : rIxL K x (.int i) H Q := by
  obtain ⟨p, xs, rfl, hp, ax⟩ := a.lst_ex
  obtain ⟨w, h1, h2⟩ := ax.get hd
  refine ⟨p, xs, i, w, rfl, rfl, SqL.of (s _ _ hp), ?_, q w h2⟩
  have z := atI_nat h1
  rw [show ((i.toNat : Nat) : Int) = i by omega] at z
  exact z
theorem q_ixT (s : Same B H) (a : At B x (.tuple ds)) (h0 : 0 ≤ i) (hd : ds[i.toNat]? = some d) (q : ∀ v, At B v d → Q v H) : rIxT K x (.int i) H Q := by
  obtain ⟨p, xs, rfl, hp, ax⟩ := a.tup_ex
  obtain ⟨w, h1, h2⟩ := ax.get hd
  refine ⟨p, xs, i, w, rfl, rfl, SqT.of (s _ _ hp), ?_, q w h2⟩
  have z := atI_nat h1
  rw [show ((i.toNat : Nat) : Int) = i by omega] at z
  exact z
theorem q_len (s : Same B H) (a : At B x (.list ds)) (q : Q (.int (ds.length : Int)) H) : ∃ p ys, [x] = [V.ref p] ∧ (SqL K H p ys ∨ SqT K H p ys) ∧ Q (.int ys.length) H := by
  obtain ⟨p, xs, rfl, hp, ax⟩ := a.lst_ex
  exact ⟨p, xs, rfl, .inl (SqL.of (s _ _ hp)), by rw [ax.length]; exact q⟩
theorem q_repr (s : Same B H) (a : At B x d) (hs : Shown d) (q : Q (.str d.shown) H) : rRepr K [x] H Q := ⟨x, d, rfl, (a.up s).dp, hs, q⟩
theorem q_eq (s : Same B H) (a : At B x d) (b : At B y e) (h1 : SeqAt.shaped d = true) (h2 : SeqAt.shaped e = true) (q : Q (.bl (PyData.eqv d e)) H) : rEqD K x y H Q := ⟨d, e, (a.up s).dp, (b.up s).dp, h1, h2, q⟩
theorem q_ne (s : Same B H) (a : At B x d) (b : At B y e) (h1 : SeqAt.shaped d = true) (h2 : SeqAt.shaped e = true) (q : Q (.bl (!PyData.eqv d e)) H) : rNeD K x y H Q := ⟨d, e, (a.up s).dp, (b.up s).dp, h1, h2, q⟩
end
end Cf

/-! More leaves: a stepped range as a list, isinstance of data, draws that are turned. -/
namespace Cf
open PySem PySem.Spec PyProof.Rows L2

section
variable {X : Cx}
/-- list(range(a, b, c)) -/
def tStep (ta : TA) : TE := fun σ H Q => ta σ H fun vs H1 => ∃ (i j c : Int) (n : Nat), vs = [.int i, .int j, .int c] ∧ RgC i j c n ∧ n ≤ 2 ^ 24 ∧ ∀ p, H1 p = none → Q (.ref p) (upd H1 p (.lst ((List.range n).map fun k => V.int (i + (k : Nat) * c))))
theorem vals_step {i c : Int} {n : Nat} {acc : Array Value} (h : ItemsOf (fun k v => ∃ t, v = .int (i + k * c) t) acc n) : Vals ((List.range n).map fun k => V.int (i + (k : Nat) * c)) acc.toList := by
  have e : acc.toList.length = n := by
    rw [Array.length_toList]
    exact h.1
  rw [← e]
  refine vals_of_get acc.toList (fun k => V.int (i + (k : Nat) * c)) fun j u hj => ?_
  obtain ⟨t, rfl⟩ := h.2 j u (by rw [← hj, Array.getElem?_toList])
  exact ⟨t, rfl⟩
theorem pe_list_range {a b c : Expr} {ta : TA} {p pos p2 pos2 : Pos} (h1 : X.mg "list" = none) (h2 : X.mg "range" = none) (ha : PA X [a, b, c] ta) (hc : X.calm = true := by rfl) (g1 : Gl X "list" := by rfl) (g2 : Gl X "range" := by rfl)
    (hs : starEach [a, b, c] X.env = (false, eval a X.env) :: starEach [b, c] X.env := by rfl) (hpl : (backTo pos2 (starEach [b, c] X.env)).any (·.1) = false := by rfl)
    (na : starEach [.Call (.Name "range" p2) [a, b, c] [] pos2] X.env = (false, eval (.Call (.Name "range" p2) [a, b, c] [] pos2) X.env) :: starEach [] X.env := by rfl) :
    PE X (.Call (.Name "list" p) [.Call (.Name "range" p2) [a, b, c] [] pos2] [] pos) (tStep ta) := by
  have inner : ∀ (pins : List (Addr × Obj)) (s : Shared) (σ : L2.St) (H : Hp) (R : Int → Int → Int → Nat → Hp → Prop), Inv X pins σ H s → ta σ H (fun vs H1 => ∃ (i j c : Int) (n : Nat), vs = [.int i, .int j, .int c] ∧ RgC i j c n ∧ R i j c n H1) →
      wpAny (model X.prog X.w) X.A (eval (.Call (.Name "range" p2) [a, b, c] [] pos2) X.env) (fun x s2 => ∃ r i j c n t u v H2, x = .ref r ∧ IsRange s2.heap r i j c t u v ∧ RgC i j c n ∧ Inv X pins σ H2 s2 ∧ R i j c n H2) X.xe s := by
    intro pins s σ H R I h
    refine Call_ (ld_blt I g2 h2 boot_range (PyProof.Rows.callWith_type1 (thn (ha.run pos2 pins s σ H _ I h) fun us s1 ⟨vs, H1, I1, r1, q1⟩ => ?_) hs hpl))
    obtain ⟨i, j, k, n, e, rc, q⟩ := q1
    subst e
    cases r1 with
    | cons r rr =>
      cases rr with
      | cons r' rr =>
        cases rr with
        | cons r'' rr =>
          cases rr
          obtain ⟨t, rfl⟩ := r
          obtain ⟨t', rfl⟩ := r'
          obtain ⟨t'', rfl⟩ := r''
          exact call_range_3 rc.1 ⟨_, i, j, k, n, _, _, _, H1, rfl, IsRange.new _ _ _ _ _ _ _, rc, I1.kept fun b u e => Heap.get?_push_of_some _ e, q⟩ (.inl (PyProof.noPylong_small rc.2.1))
  refine ⟨fun pins s σ H Q I h => ?_⟩
  have h3 : ta σ H (fun vs H1 => ∃ (i j c : Int) (n : Nat), vs = [.int i, .int j, .int c] ∧ RgC i j c n ∧ (n ≤ 2 ^ 24 ∧ ∀ p, H1 p = none → Q (.ref p) (upd H1 p (.lst ((List.range n).map fun k => V.int (i + (k : Nat) * c)))))) := h
  refine Call_ (ld_blt I g1 h1 boot_list (PyProof.Rows.callWith_type1 (args_cons (thn (inner pins s σ H _ I h3) fun x s1 ⟨r, i, j, c, n, t, u, v, H1, ex, hr, rc, I1, hn, q⟩ => args_nil ?_) na) na))
  subst ex
  refine call_list_range (n := n) (I1.ok.hd hc) hr rc.2.2.1 rc.2.2.2 hn fun h' tk acc c' hk e' hi => ?_
  refine ⟨.ref s1.heap.objs.size, upd H1 s1.heap.objs.size (.lst ((List.range n).map fun k => V.int (i + (k : Nat) * c))), I1.laid hk (Nat.le_refl _) (show ObjOk X.prog X.w _ _ _ (.lst ((List.range n).map fun k => V.int (i + (k : Nat) * c))) from ⟨?_, acc.toList, c', vals_step hi, ?_⟩), rfl, q _ (I1.hok.fresh (Nat.le_refl _))⟩
  · rw [List.length_map, List.length_range, sizeLine_eq]
    omega
  · rw [Array.toArray_toList]
    exact e'
end

/-! ### kinds of data -/
def kindD : PyData → String
  | .none => "NoneType" | .bool _ => "bool" | .int _ => "int" | .str _ => "str" | .list _ => "list" | .tuple _ => "tuple" | .dict _ => "dict"
theorem At.ty {K : PySem.W.Frag} {H : Hp} {v : V} {d : PyData} (h : At H v d) : TyX K H v (.type (kindD d)) := by
  cases h with
  | non => exact .base .non
  | bl b => exact .base (.bl b)
  | int i => exact .base (.int i)
  | str x => exact .base (.str x)
  | lst e _ => exact .base (.lst e)
  | tup e _ => exact .base (.tup e)
theorem q_isi {K : PySem.W.Frag} {B H : Hp} {Q : VK} {x : V} {d : PyData} {n : String} {b : Bool} (s : Same B H) (a : At B x d) (h : kitB (kindD d) n = some b) (q : Q (.bl b) H) : rIsi K [x, .ty n] H Q :=
  ⟨x, .ty n, _, _, b, rfl, .ty n, (a.up s).ty, kit_ty h, q⟩

/-! ### where one object is turned: p is that object, B holds the rest -/
structure GrowP (p : Addr) (B H B2 H2 : Hp) : Prop where
  bb : Same B B2
  bh : Same B2 H2
  hh : ∀ b o, b ≠ p → H b = some o → H2 b = some o
  fr : ∀ b, H b ≠ none → B b = none → B2 b = none
  th : ∀ b, H b ≠ none → H2 b ≠ none
theorem GrowP.refl {p : Addr} {B H : Hp} (s : Same B H) : GrowP p B H B H := ⟨Same.refl _, s, fun _ _ _ h => h, fun _ _ h => h, fun _ h => h⟩
theorem GrowP.trans {p : Addr} {B H B1 H1 B2 H2 : Hp} (g : GrowP p B H B1 H1) (k : GrowP p B1 H1 B2 H2) : GrowP p B H B2 H2 :=
  ⟨g.bb.trans k.bb, k.bh, fun b o n h => k.hh b o n (g.hh b o n h), fun b h e => k.fr b (g.th b h) (g.fr b h e), fun b h => k.th b (g.th b h)⟩
theorem Grow.p {B H B2 H2 : Hp} (p : Addr) (g : Grow B H B2 H2) : GrowP p B H B2 H2 := ⟨g.bb, g.bh, fun b o _ h => g.hh b o h, g.fr, fun b h => ne_none_of g.hh h⟩
/-- p alone was turned -/
structure Turn (p : Addr) (H H2 : Hp) : Prop where
  hh : ∀ b o, b ≠ p → H b = some o → H2 b = some o
  th : ∀ b, H b ≠ none → H2 b ≠ none
theorem Turn.p {p : Addr} {B H H2 : Hp} (t : Turn p H H2) (s : Same B H) (h : B p = none) : GrowP p B H B H2 :=
  ⟨Same.refl _, fun b o e => t.hh b o (ne_of_none e h) (s b o e), t.hh, fun _ _ e => e, t.th⟩
theorem Turn.same {p : Addr} {H H2 : Hp} (t : Same H H2) : Turn p H H2 := ⟨fun b o _ e => t b o e, fun b h => ne_none_of t h⟩
theorem Turn.trans {p : Addr} {H H1 H2 : Hp} (t : Turn p H H1) (u : Turn p H1 H2) : Turn p H H2 := ⟨fun b o n e => u.hh b o n (t.hh b o n e), fun b h => u.th b (t.th b h)⟩
theorem Turn.upd {p : Addr} {H : Hp} {o u : HO} (h : H p = some u) : Turn p H (upd H p o) := ⟨fun b x n e => by rw [upd_ne n]; exact e, fun b hb => by
  by_cases e : b = p
  · rw [e, upd_same]; exact fun q => nomatch q
  · rw [upd_ne e]; exact hb⟩
theorem GrowP.turn {p : Addr} {B H B2 H2 : Hp} (g : GrowP p B H B2 H2) : Turn p H H2 := ⟨g.hh, g.th⟩

/-- the draws of a law: how much is left, how many were made (at most n), of what kind -/
def DrawsAt (H : Hp) (p : Addr) (n : Int) : Prop := ∃ (a k : Int) (b : Bool), H p = some (.lst [.int a, .int k, .bl b]) ∧ 0 ≤ k ∧ k ≤ n
theorem DrawsAt.some {H : Hp} {p : Addr} {n : Int} (h : DrawsAt H p n) : H p ≠ none := by
  obtain ⟨a, k, b, e, _⟩ := h
  rw [e]
  exact fun q => nomatch q
theorem DrawsAt.mono {H : Hp} {p : Addr} {n m : Int} (h : DrawsAt H p n) (l : n ≤ m) : DrawsAt H p m := by
  obtain ⟨a, k, b, e, h1, h2⟩ := h
  exact ⟨a, k, b, e, h1, by omega⟩
theorem DrawsAt.up {H H2 : Hp} {p : Addr} {n : Int} (h : DrawsAt H p n) (s : Same H H2) : DrawsAt H2 p n := by
  obtain ⟨a, k, b, e, h1⟩ := h
  exact ⟨a, k, b, s _ _ e, h1⟩
theorem DrawsAt.other {H H2 : Hp} {p q : Addr} {n : Int} (h : DrawsAt H q n) (t : Turn p H H2) (ne : q ≠ p) : DrawsAt H2 q n := by
  obtain ⟨a, k, b, e, h1⟩ := h
  exact ⟨a, k, b, t.hh _ _ ne e, h1⟩
theorem GrowP.more {p : Addr} {B H B2 H2 H3 : Hp} (g : GrowP p B H B2 H2) (s : Same H2 H3) : GrowP p B H B2 H3 :=
  ⟨g.bb, g.bh.trans s, fun b o n e => s b o (g.hh b o n e), g.fr, fun b h => ne_none_of s (g.th b h)⟩
theorem GrowP.add {p q : Addr} {o : HO} {B H B2 H2 : Hp} (g : GrowP p B H B2 H2) (h : H2 q = none) : GrowP p B H (upd B2 q o) (upd H2 q o) := g.trans ((Grow.new g.bh h).p p)
theorem GrowP.low {p : Addr} {B H B2 H2 H3 : Hp} (g : GrowP p B H B2 H2) (t : Turn p H2 H3) (h : B2 p = none) : GrowP p B H B2 H3 := g.trans (t.p g.bh h)
theorem GrowP.free {p : Addr} {B H B2 H2 : Hp} (g : GrowP p B H B2 H2) (h : H p ≠ none) (e : B p = none) : B2 p = none := g.fr p h e
theorem Same.ne {H H2 : Hp} {b : Addr} (s : Same H H2) (h : H b ≠ none) : H2 b ≠ none := ne_none_of s h

/-- an object q that came after Bd is changed: what was before stands -/
theorem GrowP.mut {p q : Addr} {o : HO} {B H Bd Hd H4 : Hp} (g : GrowP p B H Bd Hd) (s : Same Hd H4) (hq : Hd q = none) : GrowP p B H Bd (upd H4 q o) := by
  refine ⟨g.bb, fun b u e => ?_, fun b u n e => ?_, g.fr, fun b hb => ?_⟩
  · have e1 := g.bh b u e
    rw [upd_ne (ne_of_none e1 hq)]
    exact s b u e1
  · have e1 := g.hh b u n e
    rw [upd_ne (ne_of_none e1 hq)]
    exact s b u e1
  · have h1 := g.th b hb
    have n : b ≠ q := fun z => by rw [z] at h1; exact h1 hq
    rw [upd_ne n]
    exact ne_none_of s h1
theorem Grow.mut {q : Addr} {o : HO} {B H Bd Hd H4 : Hp} (g : Grow B H Bd Hd) (s : Same Hd H4) (hq : Hd q = none) : Grow B H Bd (upd H4 q o) := by
  refine ⟨g.bb, fun b u e => ?_, fun b u e => ?_, g.fr⟩
  · have e1 := g.bh b u e
    rw [upd_ne (ne_of_none e1 hq)]
    exact s b u e1
  · have e1 := g.hh b u e
    rw [upd_ne (ne_of_none e1 hq)]
    exact s b u e1

/-! ### a comprehension whose items are data -/
/-- over anything that is walked; the items may make objects -/
theorem lc_gen {J : It} {n : Nat} {G : Hp → Prop} {Y : Nat → Hp → V → Hp → Prop} (w : Walk J n G Y) {g : TG} {te : TE} {vs : List Nat} {σ : L2.St} {B H1 : Hp} {D : Addr} {Qd : Hp → Prop} (m : Nat → PyData)
    (hB : Same B H1) (hD : H1 D = none) (hn : n ≤ 100000) (hG : ∀ H2, Same H1 H2 → G H2) (hY : ∀ i H x H2, Y i H x H2 → Same H H2)
    (hs : ∀ i x B2 H2 H3, i < n → Y i H2 x H3 → Same B B2 → Same B2 H3 → Same H1 H3 → (∀ b, H1 b ≠ none → B b = none → B2 b = none) → ∀ R : VK, (∀ v B4 H4, Grow B2 H3 B4 H4 → At B4 v (m i) → R v H4) →
      g x (wipe σ vs) H3 fun σ2 H4 => wipe σ2 vs = wipe σ vs ∧ te σ2 H4 R)
    (hd : ∀ B2 H2, Grow B H1 B2 H2 → At B2 (.ref D) (.list ((List.range n).map m)) → Qd H2) :
    ∃ W : Nat → Nat → Hp → Prop, (∃ k, W 0 k (upd H1 D (.lst []))) ∧ ∀ i k H, W i k H →
      (J.stop i H ∧ Qd H) ∨ (J.go i H ∧ ∃ Nx : Hp → Prop, (∀ H2, Nx H2 → ∃ k2, k2 < k ∧ W (i + 1) k2 H2) ∧ ∀ x H2, J.yld i H x H2 → g x (wipe σ vs) H2 fun σ2 H3 => wipe σ2 vs = wipe σ vs ∧ tYes σ2 H3 fun b H4 =>
        if b = true then te σ2 H4 fun y H5 => ∃ acc, H5 D = some (.lst acc) ∧ acc.length < sizeLine ∧ Nx (upd H5 D (.lst (acc ++ [y]))) else Nx H4) := by
  refine lc_it w (fun i H2 => ∃ B2 acc, Same B B2 ∧ Same B2 H2 ∧ Same H1 H2 ∧ B2 D = none ∧ H2 D = some (.lst acc) ∧ AtL B2 acc ((List.range i).map m) ∧ ∀ b, H1 b ≠ none → B b = none → B2 b = none)
    ⟨B, [], Same.refl _, hB.trans (same_new hD), same_new hD, hB.free hD, upd_same, .nil, fun _ _ e => e⟩ (fun i H2 _ ⟨_, _, _, _, s, _⟩ => hG H2 s) ?_ ?_
  · rintro i x H2 H3 hi ⟨B2, acc, s1, s2, s3, hBD, hDa, ha, fr⟩ hy
    have s4 := hY i H2 x H3 hy
    have q := hs i x B2 H2 H3 hi hy s1 (s2.trans s4) (s3.trans s4) fr (fun y H5 => ∃ acc, H5 D = some (.lst acc) ∧ acc.length < sizeLine ∧ (∃ B2 acc2, Same B B2 ∧ Same B2 (upd H5 D (.lst (acc ++ [y]))) ∧ Same H1 (upd H5 D (.lst (acc ++ [y]))) ∧ B2 D = none ∧ upd H5 D (.lst (acc ++ [y])) D = some (.lst acc2) ∧ AtL B2 acc2 ((List.range (i + 1)).map m) ∧ ∀ b, H1 b ≠ none → B b = none → B2 b = none)) ?_
    · exact q
    · intro v B4 H4 g4 hv
      have h4 : H4 D = some (.lst acc) := g4.hh _ _ (s4 _ _ hDa)
      have hne : H3 D ≠ none := by
        rw [s4 _ _ hDa]
        exact fun z => nomatch z
      have b4 : B4 D = none := g4.fr D hne hBD
      refine ⟨acc, h4, ?_, B4, acc ++ [v], s1.trans g4.bb, fun b o e => ?_, fun b o e => ?_, b4, upd_same, ?_, fun b hb e => g4.fr b (ne_none_of (s3.trans s4) hb) (fr b hb e)⟩
      · have el := ha.length
        rw [List.length_map, List.length_range] at el
        exact Nat.lt_of_lt_of_le (show acc.length < 100000 by omega) (by decide)
      · rw [upd_ne (ne_of_none e b4)]
        exact g4.bh b o e
      · rw [upd_ne (ne_of_none e hD)]
        exact g4.hh b o (s4 _ _ (s3 b o e))
      · rw [List.range_succ, List.map_append]
        exact (ha.up g4.bb).append (AtL.one hv)
  · rintro H2 ⟨B2, acc, s1, s2, s3, hBD, hDa, ha, fr⟩
    refine hd (upd B2 D (.lst acc)) H2 ⟨s1.trans (same_new hBD), fun b o e => ?_, s3, fun b hb e => ?_⟩ (.lst upd_same (ha.up (same_new hBD)))
    · by_cases z : b = D
      · rw [z, upd_same] at e
        rw [z, hDa]
        exact e
      · rw [upd_ne z] at e
        exact s2 b o e
    · have z : b ≠ D := fun z => by
        rw [z] at hb
        exact hb hD
      rw [upd_ne z]
      exact fr b hb e
theorem one_kept {kp : Nat → Bool} {i : Nat} (h : kp i = true) : List.filter kp [i] = [i] := by simp [h]
theorem one_left {kp : Nat → Bool} {i : Nat} (h : kp i = false) : List.filter kp [i] = [] := by simp [h]
/-- the same, where a test says what is kept -/
theorem lc_genF {J : It} {n : Nat} {G : Hp → Prop} {Y : Nat → Hp → V → Hp → Prop} (w : Walk J n G Y) {g : TG} {tt : TT} {te : TE} {vs : List Nat} {σ : L2.St} {B H1 : Hp} {D : Addr} {Qd : Hp → Prop} (m : Nat → PyData) (kp : Nat → Bool)
    (hB : Same B H1) (hD : H1 D = none) (hn : n ≤ 100000) (hG : ∀ H2, Same H1 H2 → G H2) (hY : ∀ i H x H2, Y i H x H2 → Same H H2)
    (hs : ∀ i x B2 H2 H3, i < n → Y i H2 x H3 → Same B B2 → Same B2 H3 → Same H1 H3 → (∀ b, H1 b ≠ none → B b = none → B2 b = none) → ∀ (R : VK) (N : Hp → Prop), (kp i = true → ∀ v B4 H4, Grow B2 H3 B4 H4 → At B4 v (m i) → R v H4) → (kp i = false → ∀ B4 H4, Grow B2 H3 B4 H4 → N H4) →
      g x (wipe σ vs) H3 fun σ2 H4 => wipe σ2 vs = wipe σ vs ∧ tt σ2 H4 fun b H5 => if b = true then te σ2 H5 R else N H5)
    (hd : ∀ B2 H2, Grow B H1 B2 H2 → At B2 (.ref D) (.list (((List.range n).filter kp).map m)) → Qd H2) :
    ∃ W : Nat → Nat → Hp → Prop, (∃ k, W 0 k (upd H1 D (.lst []))) ∧ ∀ i k H, W i k H →
      (J.stop i H ∧ Qd H) ∨ (J.go i H ∧ ∃ Nx : Hp → Prop, (∀ H2, Nx H2 → ∃ k2, k2 < k ∧ W (i + 1) k2 H2) ∧ ∀ x H2, J.yld i H x H2 → g x (wipe σ vs) H2 fun σ2 H3 => wipe σ2 vs = wipe σ vs ∧ tt σ2 H3 fun b H4 =>
        if b = true then te σ2 H4 fun y H5 => ∃ acc, H5 D = some (.lst acc) ∧ acc.length < sizeLine ∧ Nx (upd H5 D (.lst (acc ++ [y]))) else Nx H4) := by
  refine lc_it w (fun i H2 => ∃ B2 acc, Same B B2 ∧ Same B2 H2 ∧ Same H1 H2 ∧ B2 D = none ∧ H2 D = some (.lst acc) ∧ AtL B2 acc (((List.range i).filter kp).map m) ∧ ∀ b, H1 b ≠ none → B b = none → B2 b = none)
    ⟨B, [], Same.refl _, hB.trans (same_new hD), same_new hD, hB.free hD, upd_same, .nil, fun _ _ e => e⟩ (fun i H2 _ ⟨_, _, _, _, s, _⟩ => hG H2 s) ?_ ?_
  · rintro i x H2 H3 hi ⟨B2, acc, s1, s2, s3, hBD, hDa, ha, fr⟩ hy
    have s4 := hY i H2 x H3 hy
    have hne : H3 D ≠ none := by
      rw [s4 _ _ hDa]
      exact fun z => nomatch z
    refine hs i x B2 H2 H3 hi hy s1 (s2.trans s4) (s3.trans s4) fr _ _ (fun hk v B4 H4 g4 hv => ?_) (fun hk B4 H4 g4 => ?_)
    · have h4 : H4 D = some (.lst acc) := g4.hh _ _ (s4 _ _ hDa)
      have b4 : B4 D = none := g4.fr D hne hBD
      refine ⟨acc, h4, ?_, B4, acc ++ [v], s1.trans g4.bb, fun b o e => ?_, fun b o e => ?_, b4, upd_same, ?_, fun b hb e => g4.fr b (ne_none_of (s3.trans s4) hb) (fr b hb e)⟩
      · have el := ha.length
        rw [List.length_map] at el
        have ef := List.length_filter_le kp (List.range i)
        rw [List.length_range] at ef
        exact Nat.lt_of_lt_of_le (show acc.length < 100000 by omega) (by decide)
      · rw [upd_ne (ne_of_none e b4)]
        exact g4.bh b o e
      · rw [upd_ne (ne_of_none e hD)]
        exact g4.hh b o (s4 _ _ (s3 b o e))
      · rw [List.range_succ, List.filter_append, List.map_append, one_kept hk]
        exact (ha.up g4.bb).append (AtL.one hv)
    · refine ⟨B4, acc, s1.trans g4.bb, g4.bh, (s3.trans s4).trans g4.hh, g4.fr D hne hBD, g4.hh _ _ (s4 _ _ hDa), ?_, fun b hb e => g4.fr b (ne_none_of (s3.trans s4) hb) (fr b hb e)⟩
      rw [List.range_succ, List.filter_append, one_left hk, List.append_nil]
      exact ha.up g4.bb
  · rintro H2 ⟨B2, acc, s1, s2, s3, hBD, hDa, ha, fr⟩
    refine hd (upd B2 D (.lst acc)) H2 ⟨s1.trans (same_new hBD), fun b o e => ?_, s3, fun b hb e => ?_⟩ (.lst upd_same (ha.up (same_new hBD)))
    · by_cases z : b = D
      · rw [z, upd_same] at e
        rw [z, hDa]
        exact e
      · rw [upd_ne z] at e
        exact s2 b o e
    · have z : b ≠ D := fun z => by
        rw [z] at hb
        exact hb hD
      rw [upd_ne z]
      exact fr b hb e
theorem same_YAt {xs : List V} : ∀ i H x H2, YAt xs i H x H2 → Same H H2 := fun i H x H2 h => by
  rw [h.1]
  exact Same.refl _
theorem same_YFn {f : Nat → V} : ∀ i H x H2, YFn f i H x H2 → Same H H2 := fun i H x H2 h => by
  rw [h.1]
  exact Same.refl _
/-- over a list of ints -/
theorem lc_ints {K : PySem.W.Frag} {a : Addr} {ns : List Int} {g : TG} {te : TE} {vs : List Nat} {σ : L2.St} {B H1 : Hp} {D : Addr} {Qd : Hp → Prop} (f : Int → PyData)
    (hB : Same B H1) (hD : H1 D = none) (hn : ns.length ≤ 100000) (ha : SqL K H1 a (ns.map V.int))
    (hs : ∀ d B2 H3, d ∈ ns → Same B B2 → Same B2 H3 → Same H1 H3 → (∀ b, H1 b ≠ none → B b = none → B2 b = none) → ∀ R : VK, (∀ v B4 H4, Grow B2 H3 B4 H4 → At B4 v (f d) → R v H4) →
      g (.int d) (wipe σ vs) H3 fun σ2 H4 => wipe σ2 vs = wipe σ vs ∧ te σ2 H4 R)
    (hd : ∀ B2 H2, Grow B H1 B2 H2 → At B2 (.ref D) (.list (ns.map f)) → Qd H2) :
    ∃ W : Nat → Nat → Hp → Prop, (∃ k, W 0 k (upd H1 D (.lst []))) ∧ ∀ i k H, W i k H →
      ((Itl K a).stop i H ∧ Qd H) ∨ ((Itl K a).go i H ∧ ∃ Nx : Hp → Prop, (∀ H2, Nx H2 → ∃ k2, k2 < k ∧ W (i + 1) k2 H2) ∧ ∀ x H2, (Itl K a).yld i H x H2 → g x (wipe σ vs) H2 fun σ2 H3 => wipe σ2 vs = wipe σ vs ∧ tYes σ2 H3 fun b H4 =>
        if b = true then te σ2 H4 fun y H5 => ∃ acc, H5 D = some (.lst acc) ∧ acc.length < sizeLine ∧ Nx (upd H5 D (.lst (acc ++ [y]))) else Nx H4) := by
  have hl : (ns.map V.int).length = ns.length := List.length_map _
  refine lc_gen (walk_list (K := K) (a := a) (xs := ns.map V.int)) (fun i => f (ns.getD i 0)) hB hD (by rw [hl]; exact hn) (fun H2 s => s.seq ha) same_YAt (fun i x B2 H2 H3 hi hy s1 s2 s3 fr R k => ?_) (fun B2 H2 g2 h2 => hd B2 H2 g2 ?_)
  · obtain ⟨rfl, hx⟩ := hy
    rw [List.getElem?_map] at hx
    cases z : ns[i]? with
    | none => rw [z] at hx; cases hx
    | some d =>
      rw [z] at hx
      have ex : x = V.int d := (Option.some.inj hx).symm
      rw [ex]
      refine hs d B2 H3 (List.mem_of_getElem? z) s1 s2 s3 fr R fun v B4 H4 g4 hv => k v B4 H4 g4 ?_
      rw [List.getD_eq_getElem?_getD, z]
      exact hv
  · have e : (List.range (ns.map V.int).length).map (fun i => f (ns.getD i 0)) = ns.map f := by
      rw [hl]
      apply List.ext_getElem?
      intro i
      rw [List.getElem?_map, List.getElem?_map]
      by_cases h : i < ns.length
      · rw [List.getElem?_range h, List.getElem?_eq_getElem h]
        show some (f (ns.getD i 0)) = some (f ns[i])
        rw [List.getD_eq_getElem?_getD, List.getElem?_eq_getElem h]
        rfl
      · rw [List.getElem?_eq_none (by simpa using h), List.getElem?_eq_none (by simpa using h)]
        rfl
    rw [e] at h2
    exact h2
/-- over range(lo, ..) -/
theorem lc_rng {lo : Int} {n : Nat} {g : TG} {te : TE} {vs : List Nat} {σ : L2.St} {B H1 : Hp} {D : Addr} {Qd : Hp → Prop} (f : Nat → PyData)
    (hB : Same B H1) (hD : H1 D = none) (hn : n ≤ 100000)
    (hs : ∀ (i : Nat) B2 H3, i < n → Same B B2 → Same B2 H3 → Same H1 H3 → (∀ b, H1 b ≠ none → B b = none → B2 b = none) → ∀ R : VK, (∀ v B4 H4, Grow B2 H3 B4 H4 → At B4 v (f i) → R v H4) →
      g (.int (lo + i)) (wipe σ vs) H3 fun σ2 H4 => wipe σ2 vs = wipe σ vs ∧ te σ2 H4 R)
    (hd : ∀ B2 H2, Grow B H1 B2 H2 → At B2 (.ref D) (.list ((List.range n).map f)) → Qd H2) :
    ∃ W : Nat → Nat → Hp → Prop, (∃ k, W 0 k (upd H1 D (.lst []))) ∧ ∀ i k H, W i k H →
      ((Itr lo n).stop i H ∧ Qd H) ∨ ((Itr lo n).go i H ∧ ∃ Nx : Hp → Prop, (∀ H2, Nx H2 → ∃ k2, k2 < k ∧ W (i + 1) k2 H2) ∧ ∀ x H2, (Itr lo n).yld i H x H2 → g x (wipe σ vs) H2 fun σ2 H3 => wipe σ2 vs = wipe σ vs ∧ tYes σ2 H3 fun b H4 =>
        if b = true then te σ2 H4 fun y H5 => ∃ acc, H5 D = some (.lst acc) ∧ acc.length < sizeLine ∧ Nx (upd H5 D (.lst (acc ++ [y]))) else Nx H4) :=
  lc_gen (walk_range (lo := lo) (n := n)) f hB hD hn (fun _ _ => trivial) same_YFn (fun i x B2 H2 H3 hi hy s1 s2 s3 fr R k => by
    obtain ⟨rfl, rfl⟩ := hy
    exact hs i B2 H3 hi s1 s2 s3 fr R k) hd

/-! ### how long a text is that shows data -/
structure Sm (k n : Nat) (d : PyData) : Prop where
  sh : d.showable = true
  ly : d.canLay0 = true
  dp : d.depth ≤ k
  ln : d.shown.length ≤ n
theorem Sm.shown {k n : Nat} {d : PyData} (h : Sm k n d) (hk : k ≤ 100) (hn : n ≤ 16777216) : Shown d := ⟨h.sh, PyData.hasDict_of_canLay d h.ly, Nat.le_trans h.dp hk, Nat.le_trans h.ln hn⟩
theorem log2_12 {i : Int} (h : i.natAbs < 10 ^ 12) : i.natAbs.log2 < 1920 := by
  by_cases z : i.natAbs = 0
  · rw [z]
    decide
  · have h2 : i.natAbs < 2 ^ 40 := Nat.lt_of_lt_of_le h (by decide)
    have := (Nat.log2_lt z).mpr h2
    omega
theorem Sm.int {i : Int} (h : i.natAbs < 10 ^ 12) : Sm 0 13 (.int i) :=
  ⟨by simp only [PyData.showable]; exact decide_eq_true (log2_12 h), by simp only [PyData.canLay0], by simp only [PyData.depth]; exact Nat.le_refl _, PyData.shown_int_le h⟩
theorem Sm.non : Sm 0 13 .none := ⟨by simp only [PyData.showable], by simp only [PyData.canLay0], by simp only [PyData.depth]; exact Nat.le_refl _, by rw [PyData.shown_none]; decide⟩
theorem Sm.bl (b : Bool) : Sm 0 13 (.bool b) := ⟨by simp only [PyData.showable], by simp only [PyData.canLay0], by simp only [PyData.depth]; exact Nat.le_refl _, by rw [PyData.shown_bool]; cases b <;> decide⟩
theorem sm_all {k n : Nat} : ∀ {ds : List PyData}, (∀ d ∈ ds, Sm k n d) → PyData.showableAll ds = true ∧ PyData.canLayAll0 ds = true ∧ PyData.depthAll ds ≤ k ∧ ((PyData.shownAll ds).map (·.length)).sum ≤ ds.length * n
  | [], _ => ⟨by simp only [PyData.showableAll], by simp only [PyData.canLayAll0], by simp only [PyData.depthAll]; exact Nat.zero_le _, by simp [PyData.shownAll_nil]⟩
  | d :: ds, h => by
    have h1 := h d List.mem_cons_self
    obtain ⟨a, b, c, e⟩ := sm_all (ds := ds) fun x hx => h x (List.mem_cons_of_mem _ hx)
    refine ⟨by simp only [PyData.showableAll, h1.sh, a, Bool.and_self], by simp only [PyData.canLayAll0, h1.ly, b, Bool.and_self], by simp only [PyData.depthAll]; exact Nat.max_le.mpr ⟨h1.dp, c⟩, ?_⟩
    rw [PyData.shownAll_cons, List.map_cons, List.sum_cons, List.length_cons, Nat.succ_mul]
    have := h1.ln
    omega
theorem Sm.list {k n m : Nat} {ds : List PyData} (h : ∀ d ∈ ds, Sm k n d) (hl : ds.length ≤ m) : Sm (k + 1) (m * (n + 2) + 3) (.list ds) := by
  obtain ⟨a, b, c, e⟩ := sm_all h
  refine ⟨by simp only [PyData.showable]; exact a, by simp only [PyData.canLay0]; exact b, by simp only [PyData.depth]; omega, ?_⟩
  have q := listText_len_le (PyData.shownAll ds)
  rw [PyData.shownAll_length] at q
  have e2 : (PyData.list ds).shown = listText (PyData.shownAll ds) := by simp only [PyData.shown]
  have e3 : ds.length * (n + 2) = ds.length * n + 2 * ds.length := by rw [Nat.mul_add]; omega
  have e4 : ds.length * (n + 2) ≤ m * (n + 2) := Nat.mul_le_mul_right _ hl
  rw [e2]
  omega
theorem Sm.tuple {k n m : Nat} {ds : List PyData} (h : ∀ d ∈ ds, Sm k n d) (hl : ds.length ≤ m) : Sm (k + 1) (m * (n + 2) + 3) (.tuple ds) := by
  obtain ⟨a, b, c, e⟩ := sm_all h
  refine ⟨by simp only [PyData.showable]; exact a, by simp only [PyData.canLay0]; exact b, by simp only [PyData.depth]; omega, ?_⟩
  have q := tupleText_len_le (PyData.shownAll ds)
  rw [PyData.shownAll_length] at q
  have e2 : (PyData.tuple ds).shown = tupleText (PyData.shownAll ds) := by simp only [PyData.shown]
  have e3 : ds.length * (n + 2) = ds.length * n + 2 * ds.length := by rw [Nat.mul_add]; omega
  have e4 : ds.length * (n + 2) ≤ m * (n + 2) := Nat.mul_le_mul_right _ hl
  rw [e2]
  omega
theorem Sm.mono {k n k2 n2 : Nat} {d : PyData} (h : Sm k n d) (hk : k ≤ k2) (hn : n ≤ n2) : Sm k2 n2 d := ⟨h.sh, h.ly, Nat.le_trans h.dp hk, Nat.le_trans h.ln hn⟩
theorem Sm.ints {ns : List Int} {m : Nat} (h : ∀ n ∈ ns, n.natAbs < 10 ^ 12) (hl : ns.length ≤ m) : Sm 1 (m * 15 + 3) (intsD ns) := by
  refine Sm.list (k := 0) (n := 13) (fun d hd => ?_) (by rw [List.length_map]; exact hl)
  obtain ⟨n, hn, rfl⟩ := List.mem_map.mp hd
  exact Sm.int (h n hn)
theorem Sm.pair {k n : Nat} {a b : PyData} (h1 : Sm k n a) (h2 : Sm k n b) : Sm (k + 1) (2 * (n + 2) + 3) (.list [a, b]) :=
  Sm.list (fun d hd => by
    rcases List.mem_cons.mp hd with e | hd
    · rw [e]; exact h1
    · rcases List.mem_cons.mp hd with e | hd
      · rw [e]; exact h2
      · cases hd) (Nat.le_refl 2)

/-! ### data that can be compared -/
theorem Sm.shaped {k n : Nat} {d : PyData} (h : Sm k n d) (hk : k ≤ 64) : SeqAt.shaped d = true := by
  have e : decide (d.depth ≤ 64) = true := decide_eq_true (Nat.le_trans h.dp hk)
  unfold SeqAt.shaped
  rw [h.ly, e]
  rfl
theorem eqv_same {k n : Nat} {d : PyData} (h : Sm k n d) : PyData.eqv d d = true := SeqAt.eqv_refl d h.ly
/-! ### the rules that name the written part, with its name given -/
section
variable {X : Cx} {K : PySem.W.Frag}
theorem kx_list (e : X.K = K) : IxR X (rIxL K) := by subst e; exact ix_list
theorem kx_tup (e : X.K = K) : IxR X (rIxT K) := by subst e; exact ix_tup
theorem k_len (e : X.K = K) : CallR X (.builtin "len") (fun xs H Q => ∃ p ys, xs = [.ref p] ∧ (SqL K H p ys ∨ SqT K H p ys) ∧ Q (.int ys.length) H) := by subst e; exact call_len_seq
theorem k_eqD (e : X.K = K) (hu : X.A.units + 64 < cLine) : OpR X (compareOp .Eq) (rEqD K) := by subst e; exact op_eqD hu
theorem k_neD (e : X.K = K) (hu : X.A.units + 64 < cLine) : OpR X (compareOp .NotEq) (rNeD K) := by subst e; exact op_neD hu
theorem k_in (e : X.K = K) : OpR X (compareOp .In) (rIn K false) := by subst e; exact op_in_seq
theorem k_notin (e : X.K = K) : OpR X (compareOp .NotIn) (rIn K true) := by subst e; exact op_notIn_seq
theorem k_sl (e : X.K = K) : SlR X (rSlL K) := by subst e; exact sl_list
theorem k_slT (e : X.K = K) : SlR X (rSlT K) := by subst e; exact sl_tup
theorem k_repr (e : X.K = K) (hc : Calm X.A) (hu : X.A.units + 200 < cLine) : CallR X (.builtin "repr") (rRepr K) := by subst e; exact call_repr hc hu
theorem k_isi (e : X.K = K) : CallR X (.builtin "isinstance") (rIsi K) := by subst e; exact call_isi
theorem k_list_of (e : X.K = K) : CallR X (.type "list") (fun xs H Q => ∃ p ys, xs = [.ref p] ∧ (SqL K H p ys ∨ SqT K H p ys) ∧ ∀ l, H l = none → Q (.ref l) (upd H l (.lst ys))) := by subst e; exact call_list_of
theorem k_tuple_of (e : X.K = K) : CallR X (.type "tuple") (fun xs H Q => ∃ p ys, xs = [.ref p] ∧ ((SqL K H p ys ∧ ∀ l, H l = none → Q (.ref l) (upd H l (.tup ys))) ∨ (SqT K H p ys ∧ Q (.ref p) H))) := by subst e; exact call_tuple_of
theorem k_index (e : X.K = K) : MtR X "list.index" (rIndex K) := by subst e; exact mt_index

end
theorem Sm.big {i : Int} (h : i.natAbs < 10 ^ 30) : Sm 0 31 (.int i) := by
  have h1 : i.natAbs.log2 < 1920 := by
    by_cases z : i.natAbs = 0
    · rw [z]
      decide
    · have h2 : i.natAbs < 2 ^ 100 := Nat.lt_of_lt_of_le h (by decide)
      have := (Nat.log2_lt z).mpr h2
      omega
  refine ⟨by simp only [PyData.showable]; exact decide_eq_true h1, by simp only [PyData.canLay0], by simp only [PyData.depth]; exact Nat.le_refl _, ?_⟩
  rw [PyData.shown_int, PySem.ofString_length]
  exact int_text_length_le10 (k := 30) (by decide) h
section
variable {X : Cx} {K : PySem.W.Frag}
theorem k_sum (e : X.K = K) (hc : X.calm = true) : CallR X (.builtin "sum") (rSum K) := by subst e; exact cr_sum hc
end
theorem u200 {k : Nat} {A : Around} (r : Room k A) : A.units + 200 < cLine := by
  have := r.un
  omega
end Cf

namespace Cf
open PySem PySem.Spec PyProof.Rows L2

/-! ### the mathematics -/
def isI : PyData → Bool
  | .int _ => true
  | _ => false
/-- a tree's left depths, from the right -/
inductive Tr : List Int → Prop
  | leaf : Tr [0]
  | cons {d e : Int} {r : List Int} : Tr (e :: r) → 1 ≤ d → d ≤ e + 1 → Tr (d :: e :: r)
theorem Tr.pos {ns : List Int} (h : Tr ns) : 0 < ns.length := by cases h <;> simp
theorem Tr.last : ∀ {ns : List Int}, Tr ns → ns[ns.length - 1]? = some 0
  | _, .leaf => rfl
  | _, .cons (r := r) h _ _ => by
    have q := Tr.last h
    simpa using q
theorem Tr.ge : ∀ {ns : List Int}, Tr ns → ∀ (i : Nat) (d : Int), ns[i]? = some d → (if i = ns.length - 1 then 0 else 1) ≤ d
  | _, .leaf, i, d, h => by
    cases i with
    | zero => simp at h; simp [h]
    | succ i => simp at h
  | _, .cons (d := a) (e := e) (r := r) t h1 h2, 0, d, h => by
    simp at h
    simp
    omega
  | _, .cons (d := a) (e := e) (r := r) t h1 h2, i + 1, d, h => by
    have q := Tr.ge t i d (by simpa using h)
    simp at q ⊢
    exact q
theorem Tr.nonneg {ns : List Int} (h : Tr ns) {d : Int} (m : d ∈ ns) : 0 ≤ d := by
  obtain ⟨i, hi⟩ := List.mem_iff_getElem?.mp m
  have q := h.ge i d hi
  split at q <;> omega
theorem Tr.step : ∀ {ns : List Int}, Tr ns → ∀ (i : Nat) (d e : Int), ns[i]? = some d → ns[i + 1]? = some e → d ≤ e + 1
  | _, .leaf, i, d, e, h, k => by simp at k
  | _, .cons (d := a) (e := b) (r := r) t h1 h2, 0, d, e, h, k => by
    simp at h k
    omega
  | _, .cons (d := a) (e := b) (r := r) t h1 h2, i + 1, d, e, h, k => Tr.step t i d e (by simpa using h) (by simpa using k)
theorem Tr.bound : ∀ {ns : List Int}, Tr ns → ∀ d ∈ ns, d < (ns.length : Int)
  | _, .leaf, d, h => by simp at h; simp [h]
  | _, .cons (d := a) (e := e) (r := r) t h1 h2, d, h => by
    have q := Tr.bound t
    rcases List.mem_cons.mp h with z | z
    · have q1 := q e (List.mem_cons_self)
      simp only [List.length_cons] at q1 ⊢
      omega
    · have q1 := q d z
      simp only [List.length_cons] at q1 ⊢
      omega
/-- n - 1, .., 1, 0 -/
def downs : Nat → List Int
  | 0 => []
  | n + 1 => (n : Int) :: downs n
theorem downs_len : ∀ n, (downs n).length = n
  | 0 => rfl
  | n + 1 => by rw [downs, List.length_cons, downs_len n]
theorem downs_tr : ∀ n, Tr (downs (n + 1))
  | 0 => .leaf
  | n + 1 => by
    have q := downs_tr n
    rw [downs] at q ⊢
    rw [downs]
    exact .cons q (by omega) (by omega)
theorem downs_get : ∀ (n i : Nat), i < n → (downs n)[i]? = some ((n : Int) - 1 - i)
  | 0, i, h => by omega
  | n + 1, 0, h => by simp [downs]
  | n + 1, i + 1, h => by
    rw [downs, List.getElem?_cons_succ, downs_get n i (by omega)]
    congr 1
    omega
theorem downs_range (n : Nat) : (List.range n).map (fun k => V.int ((n : Int) - 1 + (k : Nat) * (-1))) = (downs n).map V.int := by
  apply List.ext_getElem?
  intro i
  rw [List.getElem?_map, List.getElem?_map]
  by_cases h : i < n
  · rw [List.getElem?_range h, downs_get n i h]
    simp
    omega
  · rw [List.getElem?_eq_none (by simpa using h), List.getElem?_eq_none (by rw [downs_len]; omega)]
    rfl
theorem ex_int {ns : List Int} {i : Nat} {x : V} (h : (ns.map V.int)[i]? = some x) : ∃ d, ns[i]? = some d ∧ x = V.int d := by
  rw [List.getElem?_map] at h
  cases z : ns[i]? with
  | none => rw [z] at h; cases h
  | some d => rw [z] at h; exact ⟨d, rfl, (Option.some.inj h).symm⟩
/-- the mark of a left depth -/
def mk (d t r : Int) : Int := if d < t then d else t + (d - t) % r

/-- the powers of a factor by a modulus -/
def pw (f m : Int) : Nat → Int
  | 0 => 1 % m
  | n + 1 => pw f m n * f % m
theorem pw_nonneg {f m : Int} (hm : 0 < m) : ∀ n, 0 ≤ pw f m n
  | 0 => Int.emod_nonneg _ (by omega)
  | n + 1 => Int.emod_nonneg _ (by omega)
theorem pw_lt {f m : Int} (hm : 0 < m) : ∀ n, pw f m n < m
  | 0 => Int.emod_lt_of_pos _ hm
  | n + 1 => Int.emod_lt_of_pos _ hm
def wts (ns : List Int) (f m : Int) : List Int := ns.map fun d => pw f m d.toNat
theorem wts_len {ns : List Int} {f m : Int} : (wts ns f m).length = ns.length := List.length_map _
def dot (cs vs : List Int) : Int := (List.zipWith (· * ·) cs vs).sum
theorem dot_nil : dot [] [] = 0 := rfl
theorem dot_cons {c v : Int} {cs vs : List Int} : dot (c :: cs) (v :: vs) = c * v + dot cs vs := by
  unfold dot
  rw [List.zipWith_cons_cons, List.sum_cons]
theorem dot_append : ∀ {as bs xs ys : List Int}, as.length = xs.length → dot (as ++ bs) (xs ++ ys) = dot as xs + dot bs ys
  | [], bs, [], ys, _ => by
    rw [dot_nil]
    simp
  | [], _, _ :: _, _, h => by simp at h
  | _ :: _, _, [], _, h => by simp at h
  | a :: as, bs, x :: xs, ys, h => by
    have ih := dot_append (as := as) (bs := bs) (xs := xs) (ys := ys) (by simpa using h)
    rw [List.cons_append, List.cons_append, dot_cons, dot_cons, ih]
    omega
theorem dot_cong {a b c d m : Int} (h : a % m = b % m) (k : c % m = d % m) : (a + c) % m = (b + d) % m := by
  rw [Int.add_emod, h, k, ← Int.add_emod]
theorem scale1 (c f m v : Int) : (c * f % m) * v % m = f * (c * v) % m := by
  rw [Int.mul_emod, Int.emod_emod_of_dvd _ (Int.dvd_refl m), ← Int.mul_emod]
  congr 1
  rw [Int.mul_comm c f, Int.mul_assoc]
theorem dot_scale (f m : Int) : ∀ (cs vs : List Int), dot (cs.map fun c => c * f % m) vs % m = f * dot cs vs % m
  | [], vs => by simp [dot]
  | _ :: _, [] => by simp [dot]
  | c :: cs, v :: vs => by
    have ih := dot_scale f m cs vs
    rw [List.map_cons, dot_cons, dot_cons, Int.mul_add]
    exact dot_cong (scale1 c f m v) ih
/-- one turn more of the left part -/
theorem wts_up {ns : List Int} {f m : Int} (h : ∀ d ∈ ns, 0 ≤ d) : wts (ns.map (· + 1)) f m = (wts ns f m).map fun c => c * f % m := by
  unfold wts
  rw [List.map_map, List.map_map]
  apply List.map_congr_left
  intro d hd
  have h0 := h d hd
  show pw f m (d + 1).toNat = pw f m d.toNat * f % m
  rw [show (d + 1).toNat = d.toNat + 1 by omega]
  rfl
theorem wts_nonneg {ns : List Int} {f m : Int} (hm : 0 < m) {c : Int} (h : c ∈ wts ns f m) : 0 ≤ c ∧ c < m := by
  obtain ⟨d, _, rfl⟩ := List.mem_map.mp h
  exact ⟨pw_nonneg hm _, pw_lt hm _⟩
/-- a row of nothing but one 1 -/
def unit (n k : Nat) : List Int := List.replicate k 0 ++ [1] ++ List.replicate (n - 1 - k) 0
theorem unit_len {n k : Nat} (h : k < n) : (unit n k).length = n := by
  unfold unit
  rw [List.length_append, List.length_append, List.length_replicate, List.length_replicate]
  simp only [List.length_singleton]
  omega
theorem dot_zero : ∀ (cs : List Int) (k : Nat), dot cs (List.replicate k 0) = 0
  | [], k => by simp [dot]
  | c :: cs, 0 => by simp [dot]
  | c :: cs, k + 1 => by rw [List.replicate_succ, dot_cons, dot_zero cs k]; omega
theorem dot_unit : ∀ (cs : List Int) (n k : Nat) (c : Int), cs.length = n → cs[k]? = some c → dot cs (unit n k) = c
  | [], n, k, c, _, h => by simp at h
  | a :: cs, n, 0, c, hl, h => by
    simp at h
    subst h
    unfold unit
    rw [List.replicate_zero, List.nil_append, List.singleton_append, dot_cons, dot_zero]
    omega
  | a :: cs, n, k + 1, c, hl, h => by
    cases n with
    | zero => simp at hl
    | succ n =>
      have ih := dot_unit cs n k c (by simpa using hl) (by simpa using h)
      unfold unit at ih ⊢
      rw [List.replicate_succ, List.cons_append, List.cons_append, dot_cons, show n + 1 - 1 - (k + 1) = n - 1 - k by omega, ih]
      omega
theorem pw_mod {f m : Int} (n : Nat) : pw f m n % m = pw f m n := by
  cases n with
  | zero => exact Int.emod_emod_of_dvd _ (Int.dvd_refl m)
  | succ n => exact Int.emod_emod_of_dvd _ (Int.dvd_refl m)
theorem wts_mod {ns : List Int} {f m c : Int} (h : c ∈ wts ns f m) : c % m = c := by
  obtain ⟨d, _, rfl⟩ := List.mem_map.mp h
  exact pw_mod _

def topS (i : Nat) : Stmt := PySem.Challenge.pw_cutfolds_k21_whole_weights.main.body.getD i (.Pass ⟨0, 0, 0, 0⟩)
abbrev s_is_whole : Stmt := topS 7
abbrev N_is_whole : List Str := ["thing"]
theorem sc_is_whole : FnScope ["thing"] ["thing"] (defScope s_is_whole) := ⟨rfl, rfl, rfl, by decide +kernel, rfl, by decide +kernel, by decide +kernel⟩
abbrev s_is_whole_within : Stmt := topS 8
abbrev N_is_whole_within : List Str := ["thing", "least", "most"]
theorem sc_is_whole_within : FnScope ["thing", "least", "most"] ["thing", "least", "most"] (defScope s_is_whole_within) := ⟨rfl, rfl, rfl, by decide +kernel, rfl, by decide +kernel, by decide +kernel⟩
abbrev s_check_tree : Stmt := topS 9
abbrev N_check_tree : List Str := ["tree", "last", "index", "depth"]
theorem sc_check_tree : FnScope ["tree", "last", "index", "depth"] ["tree"] (defScope s_check_tree) := ⟨rfl, rfl, rfl, by decide +kernel, rfl, by decide +kernel, by decide +kernel⟩
abbrev s_check_factor : Stmt := topS 14
abbrev N_check_factor : List Str := ["factor"]
theorem sc_check_factor : FnScope ["factor"] ["factor"] (defScope s_check_factor) := ⟨rfl, rfl, rfl, by decide +kernel, rfl, by decide +kernel, by decide +kernel⟩
abbrev s_check_modulus : Stmt := topS 15
abbrev N_check_modulus : List Str := ["modulus"]
theorem sc_check_modulus : FnScope ["modulus"] ["modulus"] (defScope s_check_modulus) := ⟨rfl, rfl, rfl, by decide +kernel, rfl, by decide +kernel, by decide +kernel⟩
abbrev s_check_row : Stmt := topS 16
abbrev N_check_row : List Str := ["values", "many"]
theorem sc_check_row : FnScope ["values", "many"] ["values", "many"] (defScope s_check_row) := ⟨rfl, rfl, rfl, by decide +kernel, rfl, by decide +kernel, by decide +kernel⟩
abbrev s_weights : Stmt := topS 12
abbrev N_weights : List Str := ["tree", "factor", "modulus", "powers", "depth"]
theorem sc_weights : FnScope ["tree", "factor", "modulus", "powers", "depth"] ["tree", "factor", "modulus"] (defScope s_weights) := ⟨rfl, rfl, rfl, by decide +kernel, rfl, by decide +kernel, by decide +kernel⟩
abbrev s_fold_numbers : Stmt := topS 13
abbrev N_fold_numbers : List Str := ["tree", "factor", "modulus", "values", "counts", "index", "value", "count"]
theorem sc_fold_numbers : FnScope ["tree", "factor", "modulus", "values", "counts", "index", "value", "count"] ["tree", "factor", "modulus", "values"] (defScope s_fold_numbers) := ⟨rfl, rfl, rfl, by decide +kernel, rfl, by decide +kernel, by decide +kernel⟩
abbrev s_l_draws : Stmt := topS 18
abbrev N_l_draws : List Str := ["_law_cell"]
theorem sc_l_draws : FnScope ["_law_cell"] ["_law_cell"] (defScope s_l_draws) := ⟨rfl, rfl, rfl, by decide +kernel, rfl, by decide +kernel, by decide +kernel⟩
abbrev s_l_next : Stmt := topS 19
abbrev N_l_next : List Str := ["_law_draws_here", "_law_k", "_law_number"]
theorem sc_l_next : FnScope ["_law_draws_here", "_law_k", "_law_number"] ["_law_draws_here"] (defScope s_l_next) := ⟨rfl, rfl, rfl, by decide +kernel, rfl, by decide +kernel, by decide +kernel⟩
abbrev s_l_tree : Stmt := topS 20
abbrev N_l_tree : List Str := ["_law_draws_here", "_law_many", "_law_told", "_law_kind", "_law_k", "_law_pick", "_law_far", "_law_depth"]
theorem sc_l_tree : FnScope ["_law_draws_here", "_law_many", "_law_told", "_law_kind", "_law_k", "_law_pick", "_law_far", "_law_depth"] ["_law_draws_here", "_law_many"] (defScope s_l_tree) := ⟨rfl, rfl, rfl, by decide +kernel, rfl, by decide +kernel, by decide +kernel⟩
abbrev s_l_halves : Stmt := topS 21
abbrev N_l_halves : List Str := ["_law_row", "_law_last", "_law_depth"]
theorem sc_l_halves : FnScope ["_law_row", "_law_last", "_law_depth"] ["_law_row"] (defScope s_l_halves) := ⟨rfl, rfl, rfl, by decide +kernel, rfl, by decide +kernel, by decide +kernel⟩
abbrev s_l_fold : Stmt := topS 22
abbrev N_l_fold : List Str := ["_law_row", "_law_some", "_law_step", "_law_by", "_law_left", "_law_right_here", "_law_one"]
theorem sc_l_fold : FnScope ["_law_row", "_law_some", "_law_step", "_law_by", "_law_left", "_law_right_here", "_law_one"] ["_law_row", "_law_some", "_law_step", "_law_by"] (defScope s_l_fold) := ⟨rfl, rfl, rfl, by decide +kernel, rfl, by decide +kernel, by decide +kernel⟩
abbrev s_l_power : Stmt := topS 23
abbrev N_l_power : List Str := ["_law_step", "_law_depth", "_law_by", "_law_told", "_law_k"]
theorem sc_l_power : FnScope ["_law_step", "_law_depth", "_law_by", "_law_told", "_law_k"] ["_law_step", "_law_depth", "_law_by"] (defScope s_l_power) := ⟨rfl, rfl, rfl, by decide +kernel, rfl, by decide +kernel, by decide +kernel⟩
abbrev s_l_values : Stmt := topS 24
abbrev N_l_values : List Str := ["_law_draws_here", "_law_many", "_law_told", "_law_k", "_law_far"]
theorem sc_l_values : FnScope ["_law_draws_here", "_law_many", "_law_told", "_law_k", "_law_far"] ["_law_draws_here", "_law_many"] (defScope s_l_values) := ⟨rfl, rfl, rfl, by decide +kernel, rfl, by decide +kernel, by decide +kernel⟩
abbrev s_l_right : Stmt := topS 25
abbrev N_l_right : List Str := ["_law_draws_here", "_law_row", "_law_step", "_law_by", "_law_some", "_law_kept", "_law_due", "_law_told", "_law_came", "_law_at", "_law_unit", "_law_depth", "_law_value", "_law_weight"]
theorem sc_l_right : FnScope ["_law_draws_here", "_law_row", "_law_step", "_law_by", "_law_some", "_law_kept", "_law_due", "_law_told", "_law_came", "_law_at", "_law_unit", "_law_depth", "_law_value", "_law_weight"] ["_law_draws_here", "_law_row", "_law_step", "_law_by"] (defScope s_l_right) := ⟨rfl, rfl, rfl, by decide +kernel, rfl, by decide +kernel, by decide +kernel⟩
abbrev s_l_two_right : Stmt := topS 26
abbrev N_l_two_right : List Str := ["_law_draws_here", "_law_row", "_law_other", "_law_step", "_law_by", "_law_alike", "_law_turn", "_law_some", "_law_told", "_law_units", "_law_one", "_law_two", "_law_at", "_law_unit"]
theorem sc_l_two_right : FnScope ["_law_draws_here", "_law_row", "_law_other", "_law_step", "_law_by", "_law_alike", "_law_turn", "_law_some", "_law_told", "_law_units", "_law_one", "_law_two", "_law_at", "_law_unit"] ["_law_draws_here", "_law_row", "_law_other", "_law_step", "_law_by"] (defScope s_l_two_right) := ⟨rfl, rfl, rfl, by decide +kernel, rfl, by decide +kernel, by decide +kernel⟩
abbrev s_law : Stmt := topS 27
abbrev N_law : List Str := ["_law_script", "_law_draws_here", "_law_many", "_law_step", "_law_few", "_law_many_more", "_law_by", "_law_row", "_law_other", "_law_far", "_law_cell"]
theorem sc_law : FnScope ["_law_script", "_law_draws_here", "_law_many", "_law_step", "_law_few", "_law_many_more", "_law_by", "_law_row", "_law_other", "_law_far", "_law_cell"] ["_law_script"] (defScope s_law) := ⟨rfl, rfl, rfl, by decide +kernel, rfl, by decide +kernel, by decide +kernel⟩
/-- the built-ins and constants that are meant -/
structure Bt (mg : Str → Option Value) : Prop where
  b_bool : mg "bool" = none
  b_enumerate : mg "enumerate" = none
  b_int : mg "int" = none
  b_isinstance : mg "isinstance" = none
  b_len : mg "len" = none
  b_list : mg "list" = none
  b_range : mg "range" = none
  b_repr : mg "repr" = none
  b_sum : mg "sum" = none
  b_zip : mg "zip" = none
  x_MOST_LEAVES : ∃ t, mg "MOST_LEAVES" = some (.int 40 t)
  x_MOST_MODULUS : ∃ t, mg "MOST_MODULUS" = some (.int 10000 t)
theorem Bt.c_MOST_LEAVES {mg : Str → Option Value} (T : Bt mg) : mg "MOST_LEAVES" = some (.int 40 (Classical.choose T.x_MOST_LEAVES)) := Classical.choose_spec T.x_MOST_LEAVES
theorem Bt.c_MOST_MODULUS {mg : Str → Option Value} (T : Bt mg) : mg "MOST_MODULUS" = some (.int 10000 (Classical.choose T.x_MOST_MODULUS)) := Classical.choose_spec T.x_MOST_MODULUS
/-- a def that is called, with its promise -/
structure Callee (P : Program) (w : World) (K : PySem.W.Frag) (mg : Str → Option Value) (base : Heap) (CX : CXT) (lev : Nat) (x : Str) (ps : List Str) (sp : Sp) where
  f : Addr
  fd : FuncData
  ok : FnG P w K mg base CX lev f fd ps sp
  mg : mg x = some (.ref f)
  kp : PySem.W.keepIn K (.ref f) = true
  bd : Binds K fd ps []
def pk_weights_modulus_factor_tree {α : Type} : List α → List α | [a0, a1, a2] => [a2, a1, a0] | _ => []
def pk_fold_numbers_values_modulus_factor_tree {α : Type} : List α → List α | [a0, a1, a2, a3] => [a3, a2, a1, a0] | _ => []
section
variable {P : Program} {w : World} {K : PySem.W.Frag} {mg : Str → Option Value} {base : Heap}
theorem kit_ii : kitB "int" "int" = some true := by decide +kernel
theorem kit_ib : kitB "int" "bool" = some false := by decide +kernel
theorem kit_bi : kitB "bool" "int" = some true := by decide +kernel
theorem kit_bb : kitB "bool" "bool" = some true := by decide +kernel
theorem kit_ni : kitB "NoneType" "int" = some false := by decide +kernel
theorem kit_si : kitB "str" "int" = some false := by decide +kernel
theorem kit_li : kitB "list" "int" = some false := by decide +kernel
theorem kit_ti : kitB "tuple" "int" = some false := by decide +kernel
theorem kit_ll : kitB "list" "list" = some true := by decide +kernel
def sp_is_whole (K : PySem.W.Frag) : Sp := fun vs H Q _ => ∃ (B : Hp) (x : V) (d : PyData), vs = [x] ∧ Same B H ∧ At B x d ∧ Q (.bl (isI d)) H
theorem ok_is_whole {f : Addr} {fd : FuncData} (F : Fun K "is_whole" "is_whole" s_is_whole f fd) (T : Bt mg) : FnG P w K mg base CX0 1 f fd ["thing"] (sp_is_whole K) := by
  refine okN F sc_is_whole (fun vs H Q E h => ?_) (fun cdv A out s H vs Q E hc hr h => ?_)
  · obtain ⟨B, x, d, rfl, hB, hx, q⟩ := h
    rfl
  obtain ⟨B, x, d, rfl, hB, hx, q⟩ := h
  have hu200 := u200 hr
  have hu64 := hr.units
  refine ⟨_, (pss_one (ps_ret (pe_and (pe_callB (k_isi (K := K) rfl) (by rfl) T.b_isinstance (by decide +kernel) (pa_cons (pv 0) (pa_cons (pe_bltn (v := .ty "int") (u := .type "int") (by rfl) T.b_int (by decide +kernel) rfl) pa_nil))) (pe_one (pe_not (pe_callB (k_isi (K := K) rfl) (by rfl) T.b_isinstance (by decide +kernel) (pa_cons (pv 0) (pa_cons (pe_bltn (v := .ty "bool") (u := .type "bool") (by rfl) T.b_bool (by decide +kernel) rfl) pa_nil)))))))), ?_⟩

  refine ⟨_, rfl, ?_⟩
  cases d with
  | int i =>
    refine ⟨x, .ty "int", _, _, true, rfl, .ty "int", (hx.up hB).ty, kit_ty kit_ii, ?_⟩
    refine ⟨true, rfl, iteT ⟨_, rfl, ?_⟩⟩
    refine ⟨x, .ty "bool", _, _, false, rfl, .ty "bool", (hx.up hB).ty, kit_ty kit_ib, ?_⟩
    exact ⟨_, rfl, q⟩
  | bool b =>
    refine ⟨x, .ty "int", _, _, true, rfl, .ty "int", (hx.up hB).ty, kit_ty kit_bi, ?_⟩
    refine ⟨true, rfl, iteT ⟨_, rfl, ?_⟩⟩
    refine ⟨x, .ty "bool", _, _, true, rfl, .ty "bool", (hx.up hB).ty, kit_ty kit_bb, ?_⟩
    exact ⟨_, rfl, q⟩
  | none => exact ⟨x, .ty "int", _, _, false, rfl, .ty "int", (hx.up hB).ty, kit_ty kit_ni, false, rfl, iteF q⟩
  | str b => exact ⟨x, .ty "int", _, _, false, rfl, .ty "int", (hx.up hB).ty, kit_ty kit_si, false, rfl, iteF q⟩
  | list b => exact ⟨x, .ty "int", _, _, false, rfl, .ty "int", (hx.up hB).ty, kit_ty kit_li, false, rfl, iteF q⟩
  | tuple b => exact ⟨x, .ty "int", _, _, false, rfl, .ty "int", (hx.up hB).ty, kit_ty kit_ti, false, rfl, iteF q⟩
  | dict b => cases hx
def withinD (lo hi : Int) : PyData → Bool
  | .int i => decide (lo ≤ i) && decide (i ≤ hi)
  | _ => false
theorem within_yes {lo hi i : Int} (h1 : lo ≤ i) (h2 : i ≤ hi) : withinD lo hi (.int i) = true := by
  show (decide (lo ≤ i) && decide (i ≤ hi)) = true
  rw [decide_eq_true h1, decide_eq_true h2]
  rfl
def sp_is_whole_within (K : PySem.W.Frag) : Sp := fun vs H Q _ => ∃ (B : Hp) (x : V) (d : PyData) (lo hi : Int), vs = [x, .int lo, .int hi] ∧ Same B H ∧ At B x d ∧ Q (.bl (withinD lo hi d)) H
theorem ok_is_whole_within {f : Addr} {fd : FuncData} (F : Fun K "is_whole_within" "is_whole_within" s_is_whole_within f fd) (T : Bt mg) (D_is_whole : Callee P w K mg base CX0 1 "is_whole" ["thing"] (sp_is_whole K)) : FnG P w K mg base CX0 2 f fd ["thing", "least", "most"] (sp_is_whole_within K) := by
  refine okN F sc_is_whole_within (fun vs H Q E h => ?_) (fun cdv A out s H vs Q E hc hr h => ?_)
  · obtain ⟨B, x, d, lo, hi, rfl, hB, hx, q⟩ := h
    rfl
  obtain ⟨B, x, d, lo, hi, rfl, hB, hx, q⟩ := h
  have hu200 := u200 hr
  have hu64 := hr.units
  refine ⟨_, (pss_one (ps_ret (pe_and (pg_call D_is_whole.ok hc (hr.mono (by decide)) (by rfl) D_is_whole.mg D_is_whole.kp D_is_whole.bd pass0 (pa_cons (pv 0) pa_nil)) (pe_one (pe_chain op_le op_le (pv 1) (pv 0) (pv 2)))))), ?_⟩

  refine ⟨_, rfl, B, x, d, rfl, hB, hx, ?_⟩
  cases d with
  | int i =>
    obtain rfl := hx.int_eq
    refine ⟨true, rfl, iteT ?_⟩
    refine ⟨_, rfl, _, rfl, _, _, rfl, rfl, _, rfl, ite2 (fun c => ?_) (fun c => ?_)⟩
    · refine ⟨_, rfl, _, _, rfl, rfl, ?_⟩
      have q2 : Q (.bl (decide (lo ≤ i) && decide (i ≤ hi))) H := q
      rw [show decide (lo ≤ i) = true from c, Bool.true_and] at q2
      exact q2
    · have q2 : Q (.bl (decide (lo ≤ i) && decide (i ≤ hi))) H := q
      rw [show decide (lo ≤ i) = false from Bool.eq_false_iff.mpr c, Bool.false_and] at q2
      exact q2
  | none => exact ⟨false, rfl, iteF q⟩
  | bool b => exact ⟨false, rfl, iteF q⟩
  | str b => exact ⟨false, rfl, iteF q⟩
  | list b => exact ⟨false, rfl, iteF q⟩
  | tuple b => exact ⟨false, rfl, iteF q⟩
  | dict b => exact ⟨false, rfl, iteF q⟩
def sp_check_tree (K : PySem.W.Frag) : Sp := fun vs H Q _ => ∃ (B : Hp) (x : V) (ns : List Int), vs = [x] ∧ Same B H ∧ At B x (intsD ns) ∧ Tr ns ∧ ns.length ≤ 40 ∧ ∀ H2, Same H H2 → Q .non H2
theorem ok_check_tree {f : Addr} {fd : FuncData} (F : Fun K "check_tree" "check_tree" s_check_tree f fd) (T : Bt mg) (D_is_whole : Callee P w K mg base CX0 1 "is_whole" ["thing"] (sp_is_whole K)) : FnG P w K mg base CX0 2 f fd ["tree"] (sp_check_tree K) := by
  refine okN F sc_check_tree (fun vs H Q E h => ?_) (fun cdv A out s H vs Q E hc hr h => ?_)
  · obtain ⟨B, x, ns, rfl, hB, hx, ht, hl, q⟩ := h
    rfl
  obtain ⟨B, x, ns, rfl, hB, hx, ht, hl, q⟩ := h
  have hu200 := u200 hr
  have hu64 := hr.units
  refine ⟨_, (pss_cons (ps_if (PW.pt (pw_or (pt_not (pt_val (pe_callB (k_isi (K := K) rfl) (by rfl) T.b_isinstance (by decide +kernel) (pa_cons (pv 0) (pa_cons (pe_bltn (v := .ty "list") (u := .type "list") (by rfl) T.b_list (by decide +kernel) rfl) pa_nil))))) (pw_or1 (pt_not (pt_chain op_le op_le pe_int (pe_callB (k_len (K := K) rfl) (by rfl) T.b_len PySem.boot_len (pa_cons (pv 0) pa_nil)) (pe_glob (v := .int 40) rfl (T.c_MOST_LEAVES) ⟨_, rfl⟩)))))) pss_never pss_nil)
    (pss_cons (ps_set (i := 1) sc_check_tree.nd rfl (.inl rfl) (pe_op op_sub (pe_callB (k_len (K := K) rfl) (by rfl) T.b_len PySem.boot_len (pa_cons (pv 0) pa_nil)) pe_int))
    (pss_cons (ps_for PassesOwn.never rfl (pi_enum (by rfl) T.b_enumerate (pa_cons (pv 0) pa_nil)) (pg_tup rfl (pgs_cons (pg_name (i := 2) sc_check_tree.nd rfl (.inl rfl)) (pgs_cons (pg_name (i := 3) sc_check_tree.nd rfl (.inl rfl)) pgs_nil))) (pss_cons (ps_if (PW.pt (pw_or (pt_not (pt_val (pg_call D_is_whole.ok hc (hr.mono (by decide)) (by rfl) D_is_whole.mg D_is_whole.kp D_is_whole.bd pass0 (pa_cons (pv 3) pa_nil)))) (pw_or1 (pt_cmpR op_lt (pv 3) (pe_ifExp (pt_cmpR op_eq (pv 2) (pv 1) (nomark _)) pe_int pe_int) (nomark _))))) pss_never pss_nil)
    (pss_one (ps_if (PW.pt (pw_and (pt_cmpR op_gt (pv 2) pe_int (nomark _)) (pw_and1 (pt_cmpR op_lt (pv 3) (pe_op op_sub (pe_ix (kx_list (K := K) rfl) (pv 0) (pe_op op_sub (pv 2) pe_int) (fun _ _ => rfl)) pe_int) (nomark _))))) pss_never pss_nil))))
    (pss_one (ps_if (pt_cmpR op_ne (pe_ix (kx_list (K := K) rfl) (pv 0) (pv 1) (fun _ _ => rfl)) pe_int (nomark _)) pss_never pss_nil))))), ?_⟩

  obtain ⟨p, rfl, hp⟩ := ints_ex hx
  have hp1 := hB _ _ hp
  have h0 := ht.pos
  have hlen : (ns.map V.int).length = ns.length := List.length_map _
  refine ⟨_, rfl, ?_⟩
  refine ⟨_, .ty "list", _, _, true, rfl, .ty "list", (hx.up hB).ty, kit_ty kit_ll, ?_⟩
  refine ⟨true, rfl, iteF ?_⟩
  refine ⟨_, rfl, p, _, rfl, .inl (SqL.of hp1), _, _, rfl, rfl, _, rfl, ite2 (fun c => ?_) (fun c => ?_)⟩
  rotate_left
  · exact absurd (decide_eq_true (show (1 : Int) ≤ ((ns.map V.int).length : Nat) by rw [hlen]; omega)) c
  refine ⟨_, _, rfl, rfl, _, rfl, ?_⟩
  rw [show decide ((((ns.map V.int).length : Nat) : Int) ≤ 40) = true from decide_eq_true (by rw [hlen]; omega)]
  refine iteF ?_
  refine ⟨_, rfl, p, _, rfl, .inl (SqL.of hp1), _, _, rfl, rfl, ?_⟩
  rw [hlen]
  refine ⟨_, rfl, p, ns.map V.int, rfl, SqL.of hp1, for_it walk_enum (fun i σ H2 => ∃ v2 v3, σ = [some (.ref p), some (.int ((ns.length : Int) - 1)), v2, v3] ∧ Same H H2) ⟨none, none, rfl, Same.refl _⟩ (fun i σ H2 _ ⟨_, _, _, s⟩ => SqL.of (s _ _ hp1)) ?_ ?_⟩
  · rintro i x σ H2 H3 hi ⟨v2, v3, rfl, s⟩ ⟨T1, x1, x2, rfl, nT, rfl, e1, e2⟩
    cases e1
    obtain ⟨d, hd, rfl⟩ := ex_int e2
    have s3 : Same H (upd H2 T1 (.tup [.int (i : Nat), .int d])) := s.trans (same_new nT)
    refine ⟨T1, _, rfl, SqT.of upd_same, rfl, _, _, rfl, _, _, rfl, rfl, ?_⟩
    have hi2 : i < ns.length := by rw [← hlen]; exact hi
    have hge := ht.ge i d hd
    refine ⟨_, rfl, _, _, _, rfl, Same.refl _, .int d, _, rfl, iteF ?_⟩
    refine ⟨_, rfl, _, rfl, _, rfl, rfl, _, rfl, ?_⟩
    have last : decide (V.int ((i : Nat) : Int) = V.int ((ns.length : Int) - 1)) = decide (i = ns.length - 1) := by
      by_cases z : i = ns.length - 1
      · rw [decide_eq_true z]
        exact decide_eq_true (by congr 1; omega)
      · rw [decide_eq_false z]
        exact decide_eq_false fun y => z (by have := V.int.inj y; omega)
    have nolow : ∀ b : Int, (if i = ns.length - 1 then 0 else 1) = b → ¬ (decide (d < b) = true) := fun b e z => by
      have := of_decide_eq_true z
      rw [← e] at this
      omega
    rw [last]
    refine ite2 (fun c => ?_) (fun c => ?_)
    all_goals
      refine ⟨_, _, rfl, rfl, _, rfl, ?_⟩
      first
        | refine ite2 (fun c2 => absurd c2 (nolow 0 (if_pos (of_decide_eq_true c)))) (fun c2 => ?_)
        | refine ite2 (fun c2 => absurd c2 (nolow 1 (if_neg fun z => c (decide_eq_true z)))) (fun c2 => ?_)
      refine ⟨_, rfl, _, _, rfl, rfl, _, rfl, ite2 (fun c3 => ?_) (fun c3 => ?_)⟩
      · have ipos : 0 < i := by
          have := of_decide_eq_true c3
          omega
        obtain ⟨d0, hd0⟩ : ∃ d0, ns[i - 1]? = some d0 := ⟨ns[i - 1], List.getElem?_eq_getElem (by omega)⟩
        have hst := ht.step (i - 1) d0 d hd0 (by rw [show i - 1 + 1 = i by omega]; exact hd)
        refine ⟨_, rfl, _, rfl, _, rfl, _, _, rfl, rfl, p, _, _, _, rfl, rfl, SqL.of (s3 _ _ hp1), at_of (j := i - 1) (v := V.int d0) (by omega) (by rw [List.getElem?_map, hd0]; rfl), _, _, rfl, rfl, _, _, rfl, rfl, _, rfl, ?_⟩
        refine ite2 (fun c4 => absurd (of_decide_eq_true c4) (by omega)) (fun c4 => ?_)
        exact ⟨_, _, rfl, s3⟩
      · exact ⟨_, _, rfl, s3⟩
  · rintro σ H2 ⟨v2, v3, rfl, s⟩
    refine ⟨_, rfl, _, rfl, p, _, _, _, rfl, rfl, SqL.of (s _ _ hp1), at_of (j := ns.length - 1) (v := V.int 0) (by omega) (by rw [List.getElem?_map, ht.last]; rfl), rfl, _, rfl, ?_⟩
    exact iteF (q _ s)
def sp_check_factor (K : PySem.W.Frag) : Sp := fun vs H Q _ => ∃ (i : Int), vs = [.int i] ∧ Q .non H
theorem ok_check_factor {f : Addr} {fd : FuncData} (F : Fun K "_check_factor" "_check_factor" s_check_factor f fd) (T : Bt mg) (D_is_whole : Callee P w K mg base CX0 1 "is_whole" ["thing"] (sp_is_whole K)) : FnG P w K mg base CX0 2 f fd ["factor"] (sp_check_factor K) := by
  refine okN F sc_check_factor (fun vs H Q E h => ?_) (fun cdv A out s H vs Q E hc hr h => ?_)
  · obtain ⟨i, rfl, q⟩ := h
    rfl
  obtain ⟨i, rfl, q⟩ := h
  have hu200 := u200 hr
  have hu64 := hr.units
  refine ⟨_, (pss_one (ps_if (pt_not (pt_val (pg_call D_is_whole.ok hc (hr.mono (by decide)) (by rfl) D_is_whole.mg D_is_whole.kp D_is_whole.bd pass0 (pa_cons (pv 0) pa_nil)))) pss_never pss_nil)), ?_⟩

  exact ⟨_, rfl, H, _, _, rfl, Same.refl _, .int i, _, rfl, iteF q⟩
def sp_check_modulus (K : PySem.W.Frag) : Sp := fun vs H Q _ => ∃ (i : Int), vs = [.int i] ∧ 1 ≤ i ∧ i ≤ 10000 ∧ Q .non H
theorem ok_check_modulus {f : Addr} {fd : FuncData} (F : Fun K "_check_modulus" "_check_modulus" s_check_modulus f fd) (T : Bt mg) (D_is_whole_within : Callee P w K mg base CX0 2 "is_whole_within" ["thing", "least", "most"] (sp_is_whole_within K)) : FnG P w K mg base CX0 3 f fd ["modulus"] (sp_check_modulus K) := by
  refine okN F sc_check_modulus (fun vs H Q E h => ?_) (fun cdv A out s H vs Q E hc hr h => ?_)
  · obtain ⟨i, rfl, h1, h2, q⟩ := h
    rfl
  obtain ⟨i, rfl, h1, h2, q⟩ := h
  have hu200 := u200 hr
  have hu64 := hr.units
  refine ⟨_, (pss_one (ps_if (pt_not (pt_val (pg_call D_is_whole_within.ok hc (hr.mono (by decide)) (by rfl) D_is_whole_within.mg D_is_whole_within.kp D_is_whole_within.bd pass0 (pa_cons (pv 0) (pa_cons pe_int (pa_cons (pe_glob (v := .int 10000) rfl (T.c_MOST_MODULUS) ⟨_, rfl⟩) pa_nil)))))) pss_never pss_nil)), ?_⟩

  refine ⟨_, rfl, H, _, _, _, _, rfl, Same.refl _, .int i, ?_⟩
  rw [within_yes h1 h2]
  exact ⟨_, rfl, iteF q⟩
def sp_check_row (K : PySem.W.Frag) : Sp := fun vs H Q _ => ∃ (B : Hp) (x : V) (ns : List Int) (k : Int), vs = [x, .int k] ∧ Same B H ∧ At B x (intsD ns) ∧ (ns.length : Int) = k ∧ Q .non H
theorem ok_check_row {f : Addr} {fd : FuncData} (F : Fun K "_check_row" "_check_row" s_check_row f fd) (T : Bt mg) : FnG P w K mg base CX0 1 f fd ["values", "many"] (sp_check_row K) := by
  refine okN F sc_check_row (fun vs H Q E h => ?_) (fun cdv A out s H vs Q E hc hr h => ?_)
  · obtain ⟨B, x, ns, k, rfl, hB, hx, hk, q⟩ := h
    rfl
  obtain ⟨B, x, ns, k, rfl, hB, hx, hk, q⟩ := h
  have hu200 := u200 hr
  have hu64 := hr.units
  refine ⟨_, (pss_one (ps_if (PW.pt (pw_or (pt_not (pt_val (pe_callB (k_isi (K := K) rfl) (by rfl) T.b_isinstance (by decide +kernel) (pa_cons (pv 0) (pa_cons (pe_bltn (v := .ty "list") (u := .type "list") (by rfl) T.b_list (by decide +kernel) rfl) pa_nil))))) (pw_or1 (pt_cmpR op_ne (pe_callB (k_len (K := K) rfl) (by rfl) T.b_len PySem.boot_len (pa_cons (pv 0) pa_nil)) (pv 1) (nomark _))))) pss_never pss_nil)), ?_⟩

  obtain ⟨p, rfl, hp⟩ := ints_ex hx
  have hp1 := hB _ _ hp
  refine ⟨_, rfl, ?_⟩
  refine ⟨_, .ty "list", _, _, true, rfl, .ty "list", (hx.up hB).ty, kit_ty kit_ll, ?_⟩
  refine ⟨true, rfl, iteF ?_⟩
  refine ⟨_, rfl, p, _, rfl, .inl (SqL.of hp1), _, rfl, rfl, _, rfl, ?_⟩
  rw [show decide (V.int ((ns.map V.int).length : Nat) = V.int k) = true from decide_eq_true (by rw [List.length_map, hk])]
  exact iteF q
/-- the base that takes in one object more which stands at the heap -/
theorem Grow.with {B H H2 : Hp} {q : Addr} {o : HO} (hB : Same B H) (s : Same H H2) (hq : H q = none) (e : H2 q = some o) : Grow B H (upd B q o) H2 := by
  refine ⟨same_new (hB.free hq), fun b u h => ?_, s, fun b hb h => ?_⟩
  · by_cases z : b = q
    · rw [z, upd_same] at h
      rw [z, e]
      exact h
    · rw [upd_ne z] at h
      exact s _ _ (hB _ _ h)
  · rw [upd_ne (fun z => hb (by rw [z]; exact hq))]
    exact h
theorem pws_last {f m : Int} {i : Nat} : atI (((List.range (i + 1)).map fun j => pw f m j).map V.int) (-1) = some (.int (pw f m i)) := by
  rw [List.range_succ, List.map_append, List.map_append]
  exact atI_last _ _
theorem pws_more {f m : Int} {i : Nat} : ((List.range (i + 1)).map fun j => pw f m j).map V.int ++ [V.int (pw f m i * f % m)] = ((List.range (i + 1 + 1)).map fun j => pw f m j).map V.int := by
  rw [List.range_succ (n := i + 1), List.map_append, List.map_append]
  rfl
theorem wts_data {ns : List Int} {f m : Int} : PyData.list (ns.map fun d => PyData.int (pw f m d.toNat)) = intsD (wts ns f m) := by
  unfold intsD wts
  rw [List.map_map]
  rfl
def sp_weights (K : PySem.W.Frag) : Sp := fun vs H Q _ => ∃ (B : Hp) (x : V) (ns : List Int) (f m : Int), vs = [x, .int f, .int m] ∧ Same B H ∧ At B x (intsD ns) ∧ Tr ns ∧ ns.length ≤ 40 ∧ 1 ≤ m ∧ m ≤ 10000 ∧
  ∀ p B2 H2, H p = Option.none → Grow B H B2 H2 → At B2 (.ref p) (intsD (wts ns f m)) → Q (.ref p) H2
theorem ok_weights {f : Addr} {fd : FuncData} (F : Fun K "weights" "weights" s_weights f fd) (T : Bt mg) (D_check_tree : Callee P w K mg base CX0 2 "check_tree" ["tree"] (sp_check_tree K)) (D__check_factor : Callee P w K mg base CX0 2 "_check_factor" ["factor"] (sp_check_factor K)) (D__check_modulus : Callee P w K mg base CX0 3 "_check_modulus" ["modulus"] (sp_check_modulus K)) : FnG P w K mg base CX0 4 f fd ["tree", "factor", "modulus"] (sp_weights K) := by
  refine okN F sc_weights (fun vs H Q E h => ?_) (fun cdv A out s H vs Q E hc hr h => ?_)
  · obtain ⟨B, x, ns, f, m, rfl, hB, hx, ht, hl, m0, m1, q⟩ := h
    rfl
  obtain ⟨B, x, ns, f, m, rfl, hB, hx, ht, hl, m0, m1, q⟩ := h
  have hu200 := u200 hr
  have hu64 := hr.units
  refine ⟨_, (pss_cons (ps_expr (pg_call D_check_tree.ok hc (hr.mono (by decide)) (by rfl) D_check_tree.mg D_check_tree.kp D_check_tree.bd pass0 (pa_cons (pv 0) pa_nil)))
    (pss_cons (ps_expr (pg_call D__check_factor.ok hc (hr.mono (by decide)) (by rfl) D__check_factor.mg D__check_factor.kp D__check_factor.bd pass0 (pa_cons (pv 1) pa_nil)))
    (pss_cons (ps_expr (pg_call D__check_modulus.ok hc (hr.mono (by decide)) (by rfl) D__check_modulus.mg D__check_modulus.kp D__check_modulus.bd pass0 (pa_cons (pv 2) pa_nil)))
    (pss_cons (ps_set (i := 3) sc_weights.nd rfl (.inr rfl) (pe_lst (pa_cons (pe_op op_mod pe_int (pv 2)) pa_nil)))
    (pss_cons (ps_while PassesOwn.never (pt_cmpR op_lt (pe_callB (k_len (K := K) rfl) (by rfl) T.b_len PySem.boot_len (pa_cons (pv 3) pa_nil)) (pe_callB (k_len (K := K) rfl) (by rfl) T.b_len PySem.boot_len (pa_cons (pv 0) pa_nil)) (nomark _)) (pss_one (ps_expr (pe_bm PySem.F.plainAttrs_list PySem.F.slot_list_append PySem.F.type_list_append mt_append (pv 3) (pa_cons (pe_op op_mod (pe_op op_mul (pe_ix (kx_list (K := K) rfl) (pv 3) (pe_un un_neg pe_int) (fun _ _ => rfl)) (pv 1)) (pv 2)) pa_nil)))))
    (pss_one (ps_ret (pe_lc (own := [("depth", 4)]) (g := (gName 4)) (tt := tYes) (by rfl) sc_weights.nd (pi_list (pv 0)) (blkOk_by (own := [("depth", 4)]) (N := N_weights) (sc := defScope s_weights) (by decide +kernel)) (fun _ _ _ _ _ => (pg_name (i := 4) sc_weights.nd rfl (.inl rfl))) (fun _ _ _ _ _ => pts_nil) (fun _ _ _ _ _ => (pe_ix (kx_list (K := K) rfl) (pv 3) (pv 4) (fun _ _ => rfl))))))))))), ?_⟩

  obtain ⟨p, rfl, hp⟩ := ints_ex hx
  refine ⟨_, rfl, B, _, ns, rfl, hB, hx, ht, hl, fun H1 s1 => ?_⟩
  refine ⟨_, rfl, f, rfl, ?_⟩
  refine ⟨_, rfl, m, rfl, m0, m1, ?_⟩
  have hp1 := s1 _ _ (hB _ _ hp)
  refine ⟨_, rfl, _, _, rfl, rfl, (by show (0 : Int) < m; omega), by show 1 ≤ sizeLine; decide, fun q0 nq0 => ?_⟩
  refine ⟨fun k σ H2 => ∃ i : Nat, σ = [some (.ref p), some (.int f), some (.int m), some (.ref q0), none] ∧ i + k = ns.length - 1 ∧ i < ns.length ∧ Same H1 H2 ∧ H2 q0 = some (.lst (((List.range (i + 1)).map fun j => pw f m j).map V.int)), ⟨ns.length - 1, 0, rfl, by omega, ht.pos, same_new nq0, upd_same⟩, ?_⟩
  rintro k σ H2 ⟨i, rfl, hik, hi, s2, e2⟩
  have hp2 := s2 _ _ hp1
  have lp : (((List.range (i + 1)).map fun j => pw f m j).map V.int).length = i + 1 := by rw [List.length_map, List.length_map, List.length_range]
  refine ⟨_, rfl, q0, _, rfl, .inl (SqL.of e2), _, rfl, p, _, rfl, .inl (SqL.of hp2), _, _, rfl, rfl, _, rfl, ite2 (fun c => ?_) (fun c => ?_)⟩
  · have c1 := of_decide_eq_true c
    rw [lp, List.length_map] at c1
    have b0 := pw_nonneg (f := f) (m := m) (by omega) i
    have b1 := pw_lt (f := f) (m := m) (by omega) i
    refine ⟨fun σ H3 => σ = [some (.ref p), some (.int f), some (.int m), some (.ref q0), none] ∧ H3 = upd H2 q0 (.lst (((List.range (i + 1)).map fun j => pw f m j).map V.int ++ [V.int (pw f m i * f % m)])), fun σ H3 ⟨e1, e3⟩ => ⟨k - 1, by omega, i + 1, e1, by omega, by omega, fun b o h => ?_, ?_⟩, ?_⟩
    · rw [e3, upd_ne (ne_of_none h nq0)]
      exact s2 _ _ h
    · rw [e3, upd_same, pws_more]
    · refine ⟨_, rfl, .inl ⟨rfl, _, SqL.of e2⟩, _, rfl, _, rfl, q0, _, _, _, rfl, rfl, SqL.of e2, pws_last, _, rfl, _, _, rfl, rfl, .inl ⟨by omega, by omega⟩, _, rfl, _, _, rfl, rfl, (by show (0 : Int) < m; omega), q0, _, _, rfl, rfl, e2, ?_, rfl, rfl⟩
      rw [lp]
      exact small1000 (by omega)
  · have c1 : ¬ (((((List.range (i + 1)).map fun j => pw f m j).map V.int).length : Nat) : Int) < ((ns.map V.int).length : Nat) := fun z => c (decide_eq_true z)
    rw [lp, List.length_map] at c1
    have ei : i + 1 = ns.length := by omega
    rw [ei] at e2
    have g2 := Grow.with (hB.trans s1) s2 nq0 e2
    refine ⟨_, rfl, p, rfl, ⟨_, SqL.of hp2⟩, fun D hD => ?_⟩
    refine lc_ints (fun d => .int (pw f m d.toNat)) g2.bh hD (by omega) (SqL.of hp2) (fun d B3 H3 hd s3 s4 s5 fr R k => ?_) (fun B3 H3 g3 h3 => ?_)
    · have d0 := ht.nonneg hd
      have d1 := ht.bound d hd
      refine ⟨rfl, _, rfl, _, rfl, q0, _, _, _, rfl, rfl, SqL.of (s5 _ _ e2), ?_, k _ B3 H3 (Grow.refl s4) (.int _)⟩
      refine at_of (j := d.toNat) (by omega) ?_
      rw [List.getElem?_map, List.getElem?_map, List.getElem?_range (by omega)]
      rfl
    · rw [wts_data] at h3
      have g4 := g2.trans g3
      exact q D B3 H3 (s1.free (s2.free hD)) ⟨g4.bb, g4.bh, s1.trans g4.hh, fun b hb e => g4.fr b (ne_none_of s1 hb) e⟩ h3
theorem same_YPair {xs ys : Nat → Option V} (i : Nat) (H : Hp) (x : V) (H2 : Hp) (h : YPair xs ys i H x H2) : Same H H2 := by
  obtain ⟨T1, _, _, _, nT, rfl, _⟩ := h
  exact same_new nT
theorem range_getD {L : List Int} {n : Nat} (h : L.length = n) : PyData.list ((List.range n).map fun i => PyData.int (L.getD i 0)) = intsD L := by
  unfold intsD
  congr 1
  apply List.ext_getElem
  · rw [List.length_map, List.length_map, List.length_range, h]
  · intro i h1 h2
    rw [List.length_map] at h2
    rw [List.getElem_map, List.getElem_map, List.getElem_range, List.getD_eq_getElem?_getD, List.getElem?_eq_getElem h2]
    rfl
def sp_fold_numbers (K : PySem.W.Frag) : Sp := fun vs H Q _ => ∃ (B : Hp) (x y : V) (ns us : List Int) (f m : Int), vs = [x, .int f, .int m, y] ∧ Same B H ∧ At B x (intsD ns) ∧ At B y (intsD us) ∧ us.length = ns.length ∧ Tr ns ∧ ns.length ≤ 40 ∧ 1 ≤ m ∧ m ≤ 10000 ∧
  ∀ H2, Same H H2 → Q (.int (dot (wts ns f m) us % m)) H2
theorem ok_fold_numbers {f : Addr} {fd : FuncData} (F : Fun K "fold_numbers" "fold_numbers" s_fold_numbers f fd) (T : Bt mg) (D_is_whole : Callee P w K mg base CX0 1 "is_whole" ["thing"] (sp_is_whole K)) (D__check_row : Callee P w K mg base CX0 1 "_check_row" ["values", "many"] (sp_check_row K)) (D_weights : Callee P w K mg base CX0 4 "weights" ["tree", "factor", "modulus"] (sp_weights K)) : FnG P w K mg base CX0 5 f fd ["tree", "factor", "modulus", "values"] (sp_fold_numbers K) := by
  refine okN F sc_fold_numbers (fun vs H Q E h => ?_) (fun cdv A out s H vs Q E hc hr h => ?_)
  · obtain ⟨B, x, y, ns, us, f, m, rfl, hB, hx, hy, hlu, ht, hl, m0, m1, q⟩ := h
    rfl
  obtain ⟨B, x, y, ns, us, f, m, rfl, hB, hx, hy, hlu, ht, hl, m0, m1, q⟩ := h
  have hu200 := u200 hr
  have hu64 := hr.units
  refine ⟨_, (pss_cons (ps_set (i := 4) sc_fold_numbers.nd rfl (.inl rfl) (pg_call D_weights.ok hc (hr.mono (by decide)) (by rfl) D_weights.mg D_weights.kp D_weights.bd pass0 (pa_cons (pv 0) (pa_cons (pv 1) (pa_cons (pv 2) pa_nil)))))
    (pss_cons (ps_expr (pg_call D__check_row.ok hc (hr.mono (by decide)) (by rfl) D__check_row.mg D__check_row.kp D__check_row.bd pass0 (pa_cons (pv 3) (pa_cons (pe_callB (k_len (K := K) rfl) (by rfl) T.b_len PySem.boot_len (pa_cons (pv 0) pa_nil)) pa_nil))))
    (pss_cons (ps_for PassesOwn.never rfl (pi_enum (by rfl) T.b_enumerate (pa_cons (pv 3) pa_nil)) (pg_tup rfl (pgs_cons (pg_name (i := 5) sc_fold_numbers.nd rfl (.inl rfl)) (pgs_cons (pg_name (i := 6) sc_fold_numbers.nd rfl (.inl rfl)) pgs_nil))) (pss_one (ps_if (pt_not (pt_val (pg_call D_is_whole.ok hc (hr.mono (by decide)) (by rfl) D_is_whole.mg D_is_whole.kp D_is_whole.bd pass0 (pa_cons (pv 6) pa_nil)))) pss_never pss_nil)))
    (pss_one (ps_ret (pe_op op_mod (pe_callB (k_sum (K := K) rfl rfl) (by rfl) T.b_sum (by decide +kernel) (pa_cons (pe_lc (own := [("count", 7), ("value", 6)]) (g := (gTup K 2 (gCons (gName 7) (gCons (gName 6) gNil)))) (tt := tYes) (by rfl) sc_fold_numbers.nd (pi_zip (by rfl) T.b_zip (pa_cons (pv 4) (pa_cons (pv 3) pa_nil))) (blkOk_by (own := [("count", 7), ("value", 6)]) (N := N_fold_numbers) (sc := defScope s_fold_numbers) (by decide +kernel)) (fun _ _ _ _ _ => (pg_tup rfl (pgs_cons (pg_name (i := 7) sc_fold_numbers.nd rfl (.inl rfl)) (pgs_cons (pg_name (i := 6) sc_fold_numbers.nd rfl (.inl rfl)) pgs_nil)))) (fun _ _ _ _ _ => pts_nil) (fun _ _ _ _ _ => (pe_op op_mul (pv 7) (pv 6)))) pa_nil)) (pv 2))))))), ?_⟩

  obtain ⟨p, rfl, hp⟩ := ints_ex hx
  obtain ⟨py, rfl, hpy⟩ := ints_ex hy
  refine ⟨_, rfl, _, rfl, _, rfl, B, _, ns, f, m, rfl, hB, hx, ht, hl, m0, m1, fun pc B1 H1 npc G1 hc => ?_⟩
  obtain ⟨pc', ec, hpc⟩ := ints_ex hc
  cases ec
  have hp1 := G1.hh _ _ (hB _ _ hp)
  have hpy1 := G1.hh _ _ (hB _ _ hpy)
  have hpc1 := G1.bh _ _ hpc
  refine ⟨_, rfl, _, rfl, p, _, rfl, .inl (SqL.of hp1), B1, _, us, _, rfl, G1.bh, hy.up G1.bb, by rw [List.length_map]; omega, ?_⟩
  refine ⟨_, rfl, py, us.map V.int, rfl, SqL.of hpy1, for_it walk_enum (fun i σ H2 => ∃ x5 x6, σ = [some (.ref p), some (.int f), some (.int m), some (.ref py), some (.ref pc), x5, x6, none] ∧ Same H1 H2)
    ⟨none, none, rfl, Same.refl _⟩ (fun i σ H2 _ ⟨_, _, _, s⟩ => SqL.of (s _ _ hpy1)) ?_ ?_⟩
  · rintro i z σ H2 H3 hi ⟨x5, x6, rfl, s⟩ ⟨T1, z1, z2, rfl, nT, rfl, f1, f2⟩
    cases f1
    obtain ⟨d, hd, rfl⟩ := ex_int f2
    have s3 : Same H1 (upd H2 T1 (.tup [.int (i : Nat), .int d])) := s.trans (same_new nT)
    refine ⟨T1, _, rfl, SqT.of upd_same, rfl, _, _, rfl, _, _, rfl, rfl, ?_⟩
    exact ⟨_, rfl, _, _, _, rfl, Same.refl _, .int d, _, rfl, iteF ⟨_, _, rfl, s3⟩⟩
  · rintro σ H2 ⟨x5, x6, rfl, s⟩
    have lz : (List.zipWith (· * ·) (wts ns f m) us).length = ns.length := by rw [List.length_zipWith, wts_len, hlu, Nat.min_self]
    refine ⟨_, rfl, _, rfl, pc, py, _, _, rfl, SqL.of (s _ _ hpc1), SqL.of (s _ _ hpy1), fun D hD => ?_⟩
    refine lc_gen (walk_zip (K := K) (a := pc) (b := py) (xs := (wts ns f m).map V.int) (ys := us.map V.int) (n := ns.length) (by rw [List.length_map, List.length_map, wts_len, hlu, Nat.min_self])) (fun i => .int ((List.zipWith (· * ·) (wts ns f m) us).getD i 0)) (G1.bh.trans s) hD (by omega)
      (fun H5 s5 => ⟨SqL.of (s5 _ _ (s _ _ hpc1)), SqL.of (s5 _ _ (s _ _ hpy1))⟩) same_YPair (fun i z B5 H5 H6 hi hy5 s1 s2 s3 fr R k => ?_) (fun B5 H5 g5 h5 => ?_)
    · obtain ⟨T1, z1, z2, rfl, nT, rfl, f1, f2⟩ := hy5
      obtain ⟨c, hcc, rfl⟩ := ex_int f1
      obtain ⟨d, hdd, rfl⟩ := ex_int f2
      have cb := wts_nonneg (show 0 < m by omega) (List.mem_of_getElem? hcc)
      refine ⟨T1, _, rfl, SqT.of upd_same, rfl, _, _, rfl, _, _, rfl, rfl, rfl, ?_⟩
      refine ⟨_, rfl, _, rfl, _, _, rfl, rfl, .inl ⟨by omega, by omega⟩, k _ _ _ (Grow.refl s2) ?_⟩
      have em : (List.zipWith (· * ·) (wts ns f m) us).getD i 0 = c * d := by
        rw [List.getD_eq_getElem?_getD, List.getElem?_zipWith, hcc, hdd]
        rfl
      rw [em]
      exact .int _
    · rw [range_getD lz] at h5
      obtain ⟨D', eD, hD5⟩ := ints_ex h5
      cases eD
      exact ⟨D, _, rfl, SqL.of (g5.bh _ _ hD5), _, rfl, _, _, rfl, rfl, (by show (0 : Int) < m; omega), q H5 ((G1.hh.trans s).trans g5.hh)⟩
def sp_l_draws (K : PySem.W.Frag) : Sp := fun vs H Q _ => ∃ (c : Int), vs = [.int c] ∧ ∀ p H2, Same H H2 → H p = Option.none → DrawsAt H2 p 0 → Q (.ref p) H2
theorem ok_l_draws {f : Addr} {fd : FuncData} (F : Fun K "_law_draws" "_law_draws" s_l_draws f fd) (T : Bt mg) : FnG P w K mg base CX0 1 f fd ["_law_cell"] (sp_l_draws K) := by
  refine okN F sc_l_draws (fun vs H Q E h => ?_) (fun cdv A out s H vs Q E hc hr h => ?_)
  · obtain ⟨c, rfl, q⟩ := h
    rfl
  obtain ⟨c, rfl, q⟩ := h
  have hu200 := u200 hr
  have hu64 := hr.units
  refine ⟨_, (pss_one (ps_ret (pe_lst (pa_cons (pe_op op_mod (pe_callTy call_int1 (by rfl) T.b_int (by decide +kernel) (pa_cons (pv 0) pa_nil)) (pe_op op_powW (pe_op op_powW (pe_op op_powW pe_int pe_int) pe_int) pe_int)) (pa_cons pe_int (pa_cons (pe_cmpR op_ge (pv 0) (pe_op op_powW pe_int pe_int) (nomark _)) pa_nil)))))), ?_⟩

  refine ⟨_, rfl, .inl ⟨_, rfl, ?_⟩⟩
  refine ⟨_, _, rfl, rfl, ⟨by decide, by decide +kernel⟩, _, _, rfl, rfl, ⟨by decide, by decide +kernel⟩, _, _, rfl, rfl, ⟨by decide, by decide +kernel⟩, _, _, rfl, rfl, (by show (0 : Int) < _; decide +kernel), ?_⟩
  refine ⟨_, rfl, _, _, rfl, rfl, ⟨by decide, by decide +kernel⟩, _, _, rfl, rfl, ?_⟩
  refine ⟨by show 3 ≤ sizeLine; decide, fun p hp => ?_⟩
  exact q p _ (same_new hp) hp ⟨_, _, _, upd_same, by omega, by omega⟩
def sp_l_next (K : PySem.W.Frag) : Sp := fun vs H Q _ => ∃ (p : Addr) (n : Int), vs = [.ref p] ∧ DrawsAt H p n ∧ n ≤ 1000000000 ∧ ∀ r H2, 0 ≤ r → r < 400000000 → Turn p H H2 → DrawsAt H2 p (n + 1) → Q (.int r) H2
theorem at3 {a b c : V} : atI [a, b, c] 0 = some a ∧ atI [a, b, c] 1 = some b ∧ atI [a, b, c] 2 = some c := ⟨atI_nat (j := 0) rfl, atI_nat (j := 1) rfl, atI_nat (j := 2) rfl⟩
theorem ok_l_next {f : Addr} {fd : FuncData} (F : Fun K "_law_next" "_law_next" s_l_next f fd) (T : Bt mg) : FnG P w K mg base CX0 1 f fd ["_law_draws_here"] (sp_l_next K) := by
  refine okN F sc_l_next (fun vs H Q E h => ?_) (fun cdv A out s H vs Q E hc hr h => ?_)
  · obtain ⟨p, n, rfl, hd, hn, q⟩ := h
    rfl
  obtain ⟨p, n, rfl, hd, hn, q⟩ := h
  have hu200 := u200 hr
  have hu64 := hr.units
  refine ⟨_, (pss_cons (ps_asg (pe_op op_add (pe_ix (kx_list (K := K) rfl) (pv 0) pe_int (fun _ _ => rfl)) pe_int) (pg_sub (pv 0) pe_int set_list))
    (pss_cons (ps_set (i := 1) sc_l_next.nd rfl (.inl rfl) (pe_ix (kx_list (K := K) rfl) (pv 0) pe_int (fun _ _ => rfl)))
    (pss_cons (ps_if (pt_truth (pe_ix (kx_list (K := K) rfl) (pv 0) pe_int (fun _ _ => rfl)) (by intro _; rfl)) (pss_cons (ps_set (i := 2) sc_l_next.nd rfl (.inl rfl) (pe_op op_mod (pe_callTy call_int1 (by rfl) T.b_int (by decide +kernel) (pa_cons (pe_ix (kx_list (K := K) rfl) (pv 0) pe_int (fun _ _ => rfl)) pa_nil)) (pe_op op_powW pe_int pe_int)))
    (pss_cons (ps_asg (pe_op op_fdiv (pe_ix (kx_list (K := K) rfl) (pv 0) pe_int (fun _ _ => rfl)) (pe_op op_powW pe_int pe_int)) (pg_sub (pv 0) pe_int set_list))
    (pss_one (ps_ret (pv 2))))) pss_nil)
    (pss_cons (ps_set (i := 2) sc_l_next.nd rfl (.inl rfl) (pe_op op_mod (pe_callTy call_int1 (by rfl) T.b_int (by decide +kernel) (pa_cons (pe_op op_mul (pe_op op_add (pe_op op_add (pe_op op_mod (pe_callTy call_int1 (by rfl) T.b_int (by decide +kernel) (pa_cons (pe_ix (kx_list (K := K) rfl) (pv 0) pe_int (fun _ _ => rfl)) pa_nil)) pe_int) (pe_op op_mul (pe_op op_mul (pv 1) (pv 1)) pe_int)) (pv 1)) pe_int) pa_nil)) pe_int))
    (pss_cons (ps_set (i := 2) sc_l_next.nd rfl (.inl rfl) (pe_op op_mod (pe_callTy call_int1 (by rfl) T.b_int (by decide +kernel) (pa_cons (pe_op op_mul (pv 2) (pv 2)) pa_nil)) pe_int))
    (pss_one (ps_ret (pe_op op_fdiv (pe_op op_mod (pe_callTy call_int1 (by rfl) T.b_int (by decide +kernel) (pa_cons (pe_op op_mul (pv 2) (pe_op op_add (pv 2) pe_int)) pa_nil)) pe_int) pe_int)))))))), ?_⟩

  obtain ⟨a, k, b, hp, k0, kn⟩ := hd
  -- the count
  refine ⟨_, rfl, p, _, _, _, rfl, rfl, SqL.of hp, at3.2.1, _, _, rfl, rfl, _, rfl, p, _, _, 1, rfl, rfl, hp, rfl, ?_⟩
  have hp1 : upd H p (.lst [.int a, .int (k + 1), .bl b]) p = some (.lst [.int a, .int (k + 1), .bl b]) := upd_same
  have t1 : Turn p H (upd H p (.lst [.int a, .int (k + 1), .bl b])) := Turn.upd hp
  refine ⟨_, rfl, p, _, _, _, rfl, rfl, SqL.of hp1, at3.2.1, ?_⟩
  refine ⟨_, rfl, p, _, _, _, rfl, rfl, SqL.of hp1, at3.2.2, ?_⟩
  refine ⟨b, rfl, ?_⟩
  cases b with
  | true =>
    refine iteT ?_
    refine ⟨_, rfl, p, _, _, _, rfl, rfl, SqL.of hp1, at3.1, .inl ⟨_, rfl, ?_⟩⟩
    refine ⟨_, _, rfl, rfl, ⟨by decide, by decide +kernel⟩, _, _, rfl, rfl, (by show (0 : Int) < _; decide), ?_⟩
    refine ⟨_, rfl, p, _, _, _, rfl, rfl, SqL.of hp1, at3.1, ?_⟩
    refine ⟨_, _, rfl, rfl, ⟨by decide, by decide +kernel⟩, _, _, rfl, rfl, ⟨by decide, by decide⟩, _, rfl, p, _, _, 0, rfl, rfl, hp1, rfl, ?_⟩
    have m0 := Int.emod_nonneg a (show (10 : Int) ^ (6 : Int).toNat ≠ 0 by decide)
    have m1 := Int.emod_lt_of_pos a (show (0 : Int) < (10 : Int) ^ (6 : Int).toNat by decide)
    have e6 : (10 : Int) ^ (6 : Int).toNat = 1000000 := by decide
    rw [e6] at m0 m1
    refine ⟨_, rfl, q _ _ (by rw [e6]; exact m0) (by rw [e6]; omega) (t1.trans (Turn.upd hp1)) ⟨_, k + 1, true, upd_same, by omega, by omega⟩⟩
  | false =>
    refine iteF ?_
    refine ⟨_, rfl, p, _, _, _, rfl, rfl, SqL.of hp1, at3.1, .inl ⟨_, rfl, ?_⟩⟩
    refine ⟨_, _, rfl, rfl, (by show (0 : Int) < _; decide), _, rfl, _, rfl, _, _, rfl, rfl, .inl ⟨by omega, by omega⟩, _, _, rfl, rfl, .inr ⟨by decide, by decide⟩, _, _, rfl, rfl, _, rfl, _, _, rfl, rfl, _, _, rfl, rfl, .inr ⟨by decide, by decide⟩, .inl ⟨_, rfl, ?_⟩⟩
    refine ⟨_, _, rfl, rfl, (by show (0 : Int) < _; decide), ?_⟩
    generalize hx : ((a % 1000003 + (k + 1) * (k + 1) * 7919 + (k + 1)) * 48271) % 2147483629 = x
    have x0 : 0 ≤ x := by rw [← hx]; exact Int.emod_nonneg _ (by decide)
    have x1 : x < 2147483629 := by rw [← hx]; exact Int.emod_lt_of_pos _ (by decide)
    refine ⟨_, rfl, _, rfl, _, _, rfl, rfl, .inl ⟨by omega, by omega⟩, .inl ⟨_, rfl, ?_⟩⟩
    refine ⟨_, _, rfl, rfl, (by show (0 : Int) < _; decide), ?_⟩
    generalize hy : (x * x) % 2147483587 = y
    have y0 : 0 ≤ y := by rw [← hy]; exact Int.emod_nonneg _ (by decide)
    have y1 : y < 2147483587 := by rw [← hy]; exact Int.emod_lt_of_pos _ (by decide)
    refine ⟨_, rfl, _, rfl, _, _, rfl, rfl, _, _, rfl, rfl, .inl ⟨by omega, by omega⟩, .inl ⟨_, rfl, ?_⟩⟩
    refine ⟨_, _, rfl, rfl, (by show (0 : Int) < _; decide), _, _, rfl, rfl, ⟨by decide, by decide⟩, ?_⟩
    generalize hz : (y * (y + 2)) % 2147483579 = z
    have z0 : 0 ≤ z := by rw [← hz]; exact Int.emod_nonneg _ (by decide)
    have z1 : z < 2147483579 := by rw [← hz]; exact Int.emod_lt_of_pos _ (by decide)
    exact q _ _ (by omega) (by omega) t1 ⟨_, k + 1, false, hp1, by omega, by omega⟩
theorem pick3 {a b c sh : Int} (h0 : 0 ≤ sh) (h4 : sh < 3) {P : Int → Prop} (pa : P a) (pb : P b) (pc : P c) : ∃ x, atI [V.int a, V.int b, V.int c] sh = some (.int x) ∧ P x := by
  rcases (by omega : sh = 0 ∨ sh = 1 ∨ sh = 2) with e | e | e <;> subst e
  · exact ⟨a, atI_nat (j := 0) rfl, pa⟩
  · exact ⟨b, atI_nat (j := 1) rfl, pb⟩
  · exact ⟨c, atI_nat (j := 2) rfl, pc⟩
theorem Tr.head {ns : List Int} (h : Tr ns) : ∃ e r, ns = e :: r ∧ 0 ≤ e := by
  cases h with
  | leaf => exact ⟨0, [], rfl, by omega⟩
  | cons t h1 h2 => exact ⟨_, _, rfl, by omega⟩
theorem mergeI {c : Prop} [Decidable c] {tA tB : TE} {σ : L2.St} {H : Hp} {R : VK} {P : Int → Hp → Prop} (hA : c → ∀ R2 : VK, (∀ i H, P i H → R2 (.int i) H) → tA σ H R2) (hB : ¬ c → ∀ R2 : VK, (∀ i H, P i H → R2 (.int i) H) → tB σ H R2) (t : ∀ i H, P i H → R (.int i) H) : if c then tA σ H R else tB σ H R := by
  by_cases h : c
  · rw [if_pos h]
    exact hA h R t
  · rw [if_neg h]
    exact hB h R t
def sp_l_tree (K : PySem.W.Frag) : Sp := fun vs H Q _ => ∃ (B : Hp) (p : Addr) (n m : Int), vs = [.ref p, .int m] ∧ Same B H ∧ B p = Option.none ∧ DrawsAt H p n ∧ 0 ≤ n ∧ n ≤ 100000000 ∧ 1 ≤ m ∧ m ≤ 40 ∧
  ∀ v ns B2 H2, Tr ns → (ns.length : Int) = m → GrowP p B H B2 H2 → DrawsAt H2 p (n + m) → At B2 v (intsD ns) → Q v H2
theorem ok_l_tree {f : Addr} {fd : FuncData} (F : Fun K "_law_tree" "_law_tree" s_l_tree f fd) (T : Bt mg) (D__law_next : Callee P w K mg base CX0 1 "_law_next" ["_law_draws_here"] (sp_l_next K)) : FnG P w K mg base CX0 2 f fd ["_law_draws_here", "_law_many"] (sp_l_tree K) := by
  refine okN F sc_l_tree (fun vs H Q E h => ?_) (fun cdv A out s H vs Q E hc hr h => ?_)
  · obtain ⟨B, p, n, m, rfl, hB, hBp, hd, n0, n1, m1, m40, q⟩ := h
    rfl
  obtain ⟨B, p, n, m, rfl, hB, hBp, hd, n0, n1, m1, m40, q⟩ := h
  have hu200 := u200 hr
  have hu64 := hr.units
  refine ⟨_, (pss_cons (ps_set (i := 2) sc_l_tree.nd rfl (.inl rfl) (pe_lst (pa_cons pe_int pa_nil)))
    (pss_cons (ps_set (i := 3) sc_l_tree.nd rfl (.inl rfl) (pe_op op_mod (pe_callTy call_int1 (by rfl) T.b_int (by decide +kernel) (pa_cons (pg_call D__law_next.ok hc (hr.mono (by decide)) (by rfl) D__law_next.mg D__law_next.kp D__law_next.bd pass0 (pa_cons (pv 0) pa_nil)) pa_nil)) pe_int))
    (pss_cons (ps_for PassesOwn.never rfl (pi_range1 (by rfl) T.b_range (pa_cons (pe_op op_sub (pv 1) pe_int) pa_nil)) (pg_name (i := 4) sc_l_tree.nd rfl (.inl rfl)) (pss_cons (ps_set (i := 5) sc_l_tree.nd rfl (.inl rfl) (pe_callTy call_int1 (by rfl) T.b_int (by decide +kernel) (pa_cons (pg_call D__law_next.ok hc (hr.mono (by decide)) (by rfl) D__law_next.mg D__law_next.kp D__law_next.bd pass0 (pa_cons (pv 0) pa_nil)) pa_nil)))
    (pss_cons (ps_set (i := 6) sc_l_tree.nd rfl (.inl rfl) (pe_op op_add (pe_ix (kx_list (K := K) rfl) (pv 2) pe_int (fun _ _ => rfl)) pe_int))
    (pss_cons (ps_set (i := 7) sc_l_tree.nd rfl (.inl rfl) (pe_ifExp (pt_cmpR op_gt (pe_op op_mod (pv 5) pe_int) pe_int (nomark _)) (pe_ix (kx_list (K := K) rfl) (pe_lst (pa_cons (pe_op op_add pe_int (pe_op op_mod (pv 5) (pv 6))) (pa_cons (pv 6) (pa_cons pe_int pa_nil)))) (pv 3) (fun _ _ => rfl)) (pe_op op_add pe_int (pe_op op_mod (pe_op op_fdiv (pv 5) pe_int) (pv 6)))))
    (pss_one (ps_set (i := 2) sc_l_tree.nd rfl (.inl rfl) (pe_op op_cat (pe_lst (pa_cons (pv 7) pa_nil)) (pv 2))))))))
    (pss_one (ps_ret (pv 2)))))), ?_⟩

  refine ⟨by show 1 ≤ sizeLine; decide, fun q0 hq0 => ?_⟩
  have G0 : GrowP p B H (upd B q0 (.lst [.int 0])) (upd H q0 (.lst [.int 0])) := (Grow.new hB hq0).p p
  refine ⟨_, rfl, p, n, rfl, hd.up (same_new hq0), by omega, fun r H1 r0 r1 t1 d1 => .inl ⟨_, rfl, _, _, rfl, rfl, (by show (0 : Int) < _; decide), ?_⟩⟩
  have G1 := G0.low t1 (G0.free hd.some hBp)
  have s0 := Int.emod_nonneg r (show (3 : Int) ≠ 0 by decide)
  have s4 := Int.emod_lt_of_pos r (show (0 : Int) < 3 by decide)
  refine ⟨_, rfl, _, _, rfl, rfl, m - 1, rfl, by omega, by omega, for_range (lo := 0) (n := (m - 1).toNat) (fun i σ H2 => ∃ ns v B2 x4 x5 x6 x7, σ = [some (.ref p), some (.int m), some v, some (.int (r % 3)), x4, x5, x6, x7] ∧ Tr ns ∧ ns.length = i + 1 ∧ GrowP p B H B2 H2 ∧ DrawsAt H2 p (n + 1 + i) ∧ At B2 v (intsD ns))
    ⟨[0], _, _, none, none, none, none, rfl, .leaf, rfl, G1, d1.mono (by omega), ints_at upd_same⟩ ?_ ?_⟩
  · rintro i σ H2 hi ⟨ns, v, B2, x4, x5, x6, x7, rfl, ht, hl, G, dr, hv⟩
    have hBp2 : B2 p = none := G.free hd.some hBp
    refine ⟨_, rfl, p, _, rfl, dr, by omega, fun r2 H3 r20 r21 t3 d3 => .inl ⟨_, rfl, ?_⟩⟩
    have G3 := G.low t3 hBp2
    obtain ⟨v0, rfl, hv0⟩ := ints_ex hv
    obtain ⟨e, rest, rfl, e0⟩ := ht.head
    have hv3 := G3.bh _ _ hv0
    have at0 : atI ((e :: rest).map V.int) 0 = some (.int e) := atI_nat (j := 0) rfl
    refine ⟨_, rfl, v0, _, _, _, rfl, rfl, SqL.of hv3, at0, _, _, rfl, rfl, ?_⟩
    have b1 := Int.emod_nonneg r2 (show e + 1 ≠ 0 by omega)
    have b2 := Int.emod_lt_of_pos r2 (show 0 < e + 1 by omega)
    have b3 := Int.emod_nonneg (r2 / 4) (show e + 1 ≠ 0 by omega)
    have b5 := Int.emod_lt_of_pos (r2 / 4) (show 0 < e + 1 by omega)
    refine ⟨_, rfl, _, _, rfl, rfl, (by show (0 : Int) < _; decide), _, _, rfl, rfl, _, rfl, mergeI (P := fun dep H5 => 1 ≤ dep ∧ dep ≤ e + 1 ∧ GrowP p B H B2 H5 ∧ DrawsAt H5 p (n + 1 + i + 1)) (fun c R2 k => ?_) (fun c R2 k => ?_) (fun dep H5 hh => ?_)⟩
    · refine ⟨_, rfl, _, rfl, _, _, rfl, rfl, (by show 0 < e + 1; omega), _, _, rfl, rfl, _, rfl, by show 3 ≤ sizeLine; decide, fun q1 hq1 => ?_⟩
      obtain ⟨dep, hdep, dep1, dep2⟩ := pick3 (a := 1 + r2 % (e + 1)) (b := e + 1) (c := 1) s0 s4 (P := fun x => 1 ≤ x ∧ x ≤ e + 1) ⟨by omega, by omega⟩ ⟨by omega, by omega⟩ ⟨by omega, by omega⟩
      refine ⟨_, rfl, q1, _, _, _, rfl, rfl, SqL.of upd_same, hdep, ?_⟩
      exact k dep _ ⟨dep1, dep2, G3.more (same_new hq1), d3.up (same_new hq1)⟩
    · exact ⟨_, rfl, _, _, rfl, rfl, ⟨by decide, by decide⟩, _, rfl, _, _, rfl, rfl, (by show 0 < e + 1; omega), _, _, rfl, rfl, k _ _ ⟨by omega, by omega, G3, d3⟩⟩
    · obtain ⟨dep4, dep5, G5, d5⟩ := hh
      refine ⟨_, rfl, by show 1 ≤ sizeLine; decide, fun q3 hq3 => ?_⟩
      have G6 := G5.more (same_new (o := .lst [.int dep]) hq3)
      have d6 := d5.up (same_new (o := .lst [.int dep]) hq3)
      have h6 : upd H5 q3 (.lst [.int dep]) q3 = some (.lst [.int dep]) := upd_same
      generalize upd H5 q3 _ = H6 at G6 d6 h6
      have hlt : (e :: rest).length ≤ 40 := by omega
      refine ⟨_, rfl, q3, v0, _, _, rfl, rfl, h6, G6.bh _ _ hv0, ?_, fun q4 hq4 => ?_⟩
      · rw [List.length_map]
        exact Nat.le_of_lt (small1000 (by simp only [List.length_singleton]; omega))
      · have G7 := G6.add (o := .lst ([.int dep] ++ (e :: rest).map V.int)) hq4
        have d7 := d6.up (same_new (o := .lst ([.int dep] ++ (e :: rest).map V.int)) hq4)
        exact ⟨dep :: e :: rest, _, _, _, _, _, _, rfl, .cons ht dep4 dep5, by simp only [List.length_cons] at hl ⊢; omega, G7, d7.mono (by omega), ints_at upd_same⟩
  · rintro σ H2 ⟨ns, v, B2, x4, x5, x6, x7, rfl, ht, hl, G, dr, hv⟩
    exact ⟨_, rfl, q v ns B2 H2 ht (by omega) G (dr.mono (by omega)) hv⟩
/-- a tree of two parts -/
structure Split (ns l r : List Int) : Prop where
  eq : ns = l.map (· + 1) ++ r
  tl : Tr l
  tr : Tr r
theorem split_ex : ∀ {ns : List Int}, Tr ns → 2 ≤ ns.length → ∃ l r, Split ns l r
  | _, .leaf, h => by simp at h
  | _, .cons (d := d) (e := e) (r := rest) t h1 h2, _ => by
    by_cases hd : d = 1
    · exact ⟨[0], e :: rest, by rw [hd]; rfl, .leaf, t⟩
    · have h2l : 2 ≤ (e :: rest).length := by
        cases t with
        | leaf => omega
        | cons t2 _ _ => simp
      obtain ⟨l, r, s⟩ := split_ex t h2l
      obtain ⟨a, l2, rfl, a0⟩ : ∃ e r, l = e :: r ∧ 0 ≤ e := by
        cases s.tl with
        | leaf => exact ⟨0, [], rfl, by omega⟩
        | cons t h1 h2 => exact ⟨_, _, rfl, by omega⟩
      have e1 := s.eq
      rw [List.map_cons, List.cons_append] at e1
      have e2 : e = a + 1 := (List.cons.inj e1).1
      refine ⟨(d - 1) :: a :: l2, r, ?_, .cons s.tl (by omega) (by omega), s.tr⟩
      rw [List.map_cons, List.cons_append, ← s.eq, show d - 1 + 1 = d by omega]
theorem Split.len {ns l r : List Int} (s : Split ns l r) : ns.length = l.length + r.length := by rw [s.eq, List.length_append, List.length_map]
theorem Split.get {ns l r : List Int} (s : Split ns l r) {i : Nat} (h : i < l.length) : ∃ d, l[i]? = some d ∧ ns[i]? = some (d + 1) := by
  refine ⟨l[i], List.getElem?_eq_getElem h, ?_⟩
  rw [s.eq, List.getElem?_append_left (by rw [List.length_map]; exact h), List.getElem?_map, List.getElem?_eq_getElem h]
  rfl
/-- its left part ends where the first 1 stands -/
theorem Split.one {ns l r : List Int} (s : Split ns l r) {i : Nat} (h : i < l.length) : ∃ d, ns[i]? = some d ∧ (d = 1 ↔ i = l.length - 1) := by
  obtain ⟨d, h1, h2⟩ := s.get h
  refine ⟨d + 1, h2, ?_⟩
  have g := s.tl.ge i d h1
  constructor
  · intro e
    by_cases z : i = l.length - 1
    · exact z
    · rw [if_neg z] at g
      omega
  · intro e
    have q := s.tl.last
    rw [← e, h1] at q
    have : d = 0 := Option.some.inj q
    omega
theorem Split.take {ns l r : List Int} (s : Split ns l r) : ns.take l.length = l.map (· + 1) := by
  rw [s.eq, List.take_append_of_le_length (by rw [List.length_map]; exact Nat.le_refl _)]
  exact List.take_of_length_le (by rw [List.length_map]; exact Nat.le_refl _)
theorem Split.drop {ns l r : List Int} (s : Split ns l r) : ns.drop l.length = r := by
  rw [s.eq, List.drop_append_of_le_length (by rw [List.length_map]; exact Nat.le_refl _)]
  rw [List.drop_of_length_le (by rw [List.length_map]; exact Nat.le_refl _)]
  rfl
theorem back_one (l : List Int) : (l.map (· + 1)).map (fun d => PyData.int (d - 1)) = l.map PyData.int := by
  rw [List.map_map]
  apply List.map_congr_left
  intro d _
  show PyData.int (d + 1 - 1) = PyData.int d
  congr 1
  omega
theorem cut_upto (xs : List V) (k : Nat) : cutV xs none (some (k : Int)) = xs.take k := by
  unfold cutV
  rw [HT.sIx_none, HT.sIx_nat, List.drop_zero, Nat.sub_zero, List.take_eq_take_iff]
  omega
theorem cut_from (xs : List V) (k : Nat) : cutV xs (some (k : Int)) none = xs.drop k := by
  unfold cutV
  rw [HT.sIx_none, HT.sIx_nat]
  by_cases h : k ≤ xs.length
  · rw [Nat.min_eq_left h]
    exact List.take_of_length_le (by rw [List.length_drop]; exact Nat.le_refl _)
  · rw [Nat.min_eq_right (show xs.length ≤ k by omega), Nat.sub_self, List.take_zero, List.drop_of_length_le (show xs.length ≤ k by omega)]

def sp_l_halves (K : PySem.W.Frag) : Sp := fun vs H Q _ => ∃ (B : Hp) (x : V) (ns l r : List Int), vs = [x] ∧ Same B H ∧ At B x (intsD ns) ∧ Split ns l r ∧ ns.length ≤ 1000 ∧
  ∀ v B2 H2, Grow B H B2 H2 → At B2 v (.tuple [intsD l, intsD r]) → Q v H2
theorem ok_l_halves {f : Addr} {fd : FuncData} (F : Fun K "_law_halves" "_law_halves" s_l_halves f fd) (T : Bt mg) : FnG P w K mg base CX0 1 f fd ["_law_row"] (sp_l_halves K) := by
  refine okN F sc_l_halves (fun vs H Q E h => ?_) (fun cdv A out s H vs Q E hc hr h => ?_)
  · obtain ⟨B, x, ns, l, r, rfl, hB, hx, sp, hl, q⟩ := h
    rfl
  obtain ⟨B, x, ns, l, r, rfl, hB, hx, sp, hl, q⟩ := h
  have hu200 := u200 hr
  have hu64 := hr.units
  refine ⟨_, (pss_cons (ps_set (i := 1) sc_l_halves.nd rfl (.inl rfl) (pe_bm PySem.F.plainAttrs_list PySem.F.slot_list_index PySem.F.type_list_index (k_index (K := K) rfl) (pv 0) (pa_cons pe_int pa_nil)))
    (pss_one (ps_ret (pe_tup (pa_cons (pe_lc (own := [("_law_depth", 2)]) (g := (gName 2)) (tt := tYes) (by rfl) sc_l_halves.nd (pi_list (pe_slice (k_sl (K := K) rfl) (pv 0) po_none (po_some (pe_op op_add (pv 1) pe_int)))) (blkOk_by (own := [("_law_depth", 2)]) (N := N_l_halves) (sc := defScope s_l_halves) (by decide +kernel)) (fun _ _ _ _ _ => (pg_name (i := 2) sc_l_halves.nd rfl (.inl rfl))) (fun _ _ _ _ _ => pts_nil) (fun _ _ _ _ _ => (pe_op op_sub (pv 2) pe_int))) (pa_cons (pe_slice (k_sl (K := K) rfl) (pv 0) (po_some (pe_op op_add (pv 1) pe_int)) po_none) pa_nil)))))), ?_⟩

  obtain ⟨p, rfl, hp⟩ := ints_ex hx
  have hp1 := hB _ _ hp
  have hl0 := sp.tl.pos
  have hlen := sp.len
  obtain ⟨d, hd, hd1⟩ := sp.one (i := l.length - 1) (by omega)
  refine ⟨_, rfl, .inl ⟨rfl, _, SqL.of hp1⟩, p, ns.map V.int, .int 1, l.length - 1, .int d, rfl, rfl, SqL.of hp1, rfl, ?_, ?_, ?_, fun m z hm hz => ?_, ?_⟩
  · rw [List.all_map]
    exact List.all_eq_true.mpr fun _ _ => rfl
  · rw [List.getElem?_map, hd]
    rfl
  · rw [hd1.mpr rfl]
    rfl
  · obtain ⟨d2, hd2, hd3⟩ := sp.one (i := m) (by omega)
    obtain ⟨d4, hd4, rfl⟩ := ex_int hz
    rw [hd2] at hd4
    cases hd4
    have : d2 ≠ 1 := fun e => by
      have := hd3.mp e
      omega
    exact decide_eq_false this
  have ek : ((l.length - 1 : Nat) : Int) + 1 = ((l.length : Nat) : Int) := by omega
  refine ⟨_, rfl, _, rfl, _, _, rfl, rfl, _, rfl, p, _, rfl, SqL.of hp1, fun p2 np2 => ?_⟩
  rw [ek, cut_upto, ← List.map_take, sp.take]
  have hp2 : upd H p2 (.lst ((l.map (· + 1)).map V.int)) p2 = some (.lst ((l.map (· + 1)).map V.int)) := upd_same
  have s2 : Same H (upd H p2 (.lst ((l.map (· + 1)).map V.int))) := same_new np2
  generalize upd H p2 (.lst ((l.map (· + 1)).map V.int)) = H3 at hp2 s2
  refine ⟨p2, rfl, ⟨_, SqL.of hp2⟩, fun D hD => ?_⟩
  refine lc_ints (fun d => .int (d - 1)) (hB.trans s2) hD (by rw [List.length_map]; omega) (SqL.of hp2) (fun d B3 H4 hd3 s4 s5 s6 fr R k => ⟨rfl, _, rfl, _, _, rfl, rfl, k _ B3 H4 (Grow.refl s5) (.int _)⟩) (fun B4 H4 g4 h4 => ?_)
  rw [back_one] at h4
  refine ⟨_, rfl, _, rfl, _, _, rfl, rfl, _, rfl, p, _, rfl, SqL.of (g4.hh _ _ (s2 _ _ hp1)), fun p5 np5 => ?_⟩
  rw [ek, cut_from, ← List.map_drop, sp.drop]
  refine ⟨by show 2 ≤ sizeLine; decide, fun p6 np6 => ?_⟩
  have g0 : Grow B H B4 H4 := ⟨g4.bb, g4.bh, s2.trans g4.hh, fun b hb e => g4.fr b (ne_none_of s2 hb) e⟩
  have g5 := g0.trans (Grow.new (o := .lst (r.map V.int)) g0.bh np5)
  have g6 := g5.trans (Grow.new (o := .tup [.ref D, .ref p5]) g5.bh np6)
  have h5 : At (upd B4 p5 (.lst (r.map V.int))) (.ref p5) (intsD r) := ints_at upd_same
  refine q _ _ _ g6 (.tup upd_same (.cons ?_ (.cons ?_ .nil)))
  · exact (h4.up (same_new (g4.bh.free np5))).up (same_new (g5.bh.free np6))
  · exact h5.up (same_new (g5.bh.free np6))
theorem fold_step {ns l r us : List Int} {f m : Int} (s : Split ns l r) (h : us.length = ns.length) : (f * (dot (wts l f m) (us.take l.length) % m) + dot (wts r f m) (us.drop l.length) % m) % m = dot (wts ns f m) us % m := by
  have hl := s.len
  have e1 : dot (wts ns f m) us = dot ((wts l f m).map fun c => c * f % m) (us.take l.length) + dot (wts r f m) (us.drop l.length) := by
    rw [← wts_up fun d hd => s.tl.nonneg hd, ← dot_append, List.take_append_drop]
    · congr 1
      rw [s.eq]
      exact List.map_append
    · rw [wts_len, List.length_map, List.length_take]
      omega
  rw [e1]
  refine dot_cong ?_ (Int.emod_emod_of_dvd _ (Int.dvd_refl m))
  rw [dot_scale, Int.mul_emod, Int.emod_emod_of_dvd _ (Int.dvd_refl m), ← Int.mul_emod]

def sp_l_fold (K : PySem.W.Frag) (kk : Nat) : Sp := fun vs H Q _ => ∃ (B : Hp) (x y : V) (ns us : List Int) (f m : Int), vs = [x, y, .int f, .int m] ∧ Same B H ∧ At B x (intsD ns) ∧ At B y (intsD us) ∧ us.length = ns.length ∧ Tr ns ∧ 0 < ns.length ∧ ns.length ≤ kk ∧ ns.length ≤ 40 ∧ 1 ≤ m ∧ m ≤ 10000 ∧
  ∀ H2, Same H H2 → Q (.int (dot (wts ns f m) us % m)) H2
theorem ok_l_fold {f : Addr} {fd : FuncData} {lv kk : Nat} (F : Fun K "_law_fold" "_law_fold" s_l_fold f fd) (T : Bt mg) (D__law_halves : Callee P w K mg base CX0 1 "_law_halves" ["_law_row"] (sp_l_halves K)) (hlv : 1 ≤ lv) (D__law_fold : Callee P w K mg base CX0 lv "_law_fold" ["_law_row", "_law_some", "_law_step", "_law_by"] (sp_l_fold K kk)) : FnG P w K mg base CX0 (lv + 1) f fd ["_law_row", "_law_some", "_law_step", "_law_by"] (sp_l_fold K (kk + 1)) := by
  refine okN F sc_l_fold (fun vs H Q E h => ?_) (fun cdv A out s H vs Q E hc hr h => ?_)
  · obtain ⟨B, x, y, ns, us, f, m, rfl, hB, hx, hy, hlu, ht, h0, hk, hl, m0, m1, q⟩ := h
    rfl
  obtain ⟨B, x, y, ns, us, f, m, rfl, hB, hx, hy, hlu, ht, h0, hk, hl, m0, m1, q⟩ := h
  have hu200 := u200 hr
  have hu64 := hr.units
  refine ⟨_, (pss_cons (ps_if (pt_cmpR op_eq (pe_callB (k_len (K := K) rfl) (by rfl) T.b_len PySem.boot_len (pa_cons (pv 0) pa_nil)) pe_int (nomark _)) (pss_one (ps_ret (pe_op op_mod (pe_ix (kx_list (K := K) rfl) (pv 1) pe_int (fun _ _ => rfl)) (pv 3)))) pss_nil)
    (pss_cons (ps_asg (pg_call D__law_halves.ok hc (hr.mono (by omega)) (by rfl) D__law_halves.mg D__law_halves.kp D__law_halves.bd pass0 (pa_cons (pv 0) pa_nil)) (pg_tup rfl (pgs_cons (pg_name (i := 4) sc_l_fold.nd rfl (.inl rfl)) (pgs_cons (pg_name (i := 5) sc_l_fold.nd rfl (.inl rfl)) pgs_nil))))
    (pss_cons (ps_set (i := 6) sc_l_fold.nd rfl (.inl rfl) (pg_call D__law_fold.ok hc (hr.mono (by omega)) (by rfl) D__law_fold.mg D__law_fold.kp D__law_fold.bd pass0 (pa_cons (pv 4) (pa_cons (pe_slice (k_sl (K := K) rfl) (pv 1) po_none (po_some (pe_callB (k_len (K := K) rfl) (by rfl) T.b_len PySem.boot_len (pa_cons (pv 4) pa_nil)))) (pa_cons (pv 2) (pa_cons (pv 3) pa_nil))))))
    (pss_one (ps_ret (pe_op op_mod (pe_callTy call_int1 (by rfl) T.b_int (by decide +kernel) (pa_cons (pe_op op_add (pe_op op_mul (pv 2) (pv 6)) (pg_call D__law_fold.ok hc (hr.mono (by omega)) (by rfl) D__law_fold.mg D__law_fold.kp D__law_fold.bd pass0 (pa_cons (pv 5) (pa_cons (pe_slice (k_sl (K := K) rfl) (pv 1) (po_some (pe_callB (k_len (K := K) rfl) (by rfl) T.b_len PySem.boot_len (pa_cons (pv 4) pa_nil))) po_none) (pa_cons (pv 2) (pa_cons (pv 3) pa_nil)))))) pa_nil)) (pv 3))))))), ?_⟩

  obtain ⟨p, rfl, hp⟩ := ints_ex hx
  obtain ⟨py, rfl, hpy⟩ := ints_ex hy
  refine ⟨_, rfl, p, _, rfl, .inl (SqL.of (hB _ _ hp)), rfl, _, rfl, ite2 (fun c => ?_) (fun c => ?_)⟩
  · have e1 : ns.length = 1 := by
      have := V.int.inj (of_decide_eq_true c)
      rw [List.length_map] at this
      omega
    have e2 : ns = [0] := by
      cases ht with
      | leaf => rfl
      | cons t h1 h2 => simp at e1
    obtain ⟨u, rfl⟩ := List.length_eq_one_iff.mp (hlu.trans e1)
    refine ⟨_, rfl, py, _, _, _, rfl, rfl, SqL.of (hB _ _ hpy), atI_nat (j := 0) rfl, _, rfl, _, _, rfl, rfl, (by show (0 : Int) < m; omega), ?_⟩
    have e3 : dot (wts ns f m) [u] % m = u % m := by
      rw [e2]
      show (1 % m * u + 0) % m = u % m
      rw [Int.add_zero, Int.mul_emod, Int.emod_emod_of_dvd _ (Int.dvd_refl m), ← Int.mul_emod, Int.one_mul]
    have q2 := q H (Same.refl _)
    rw [e3] at q2
    exact q2
  · have e1 : ns.length ≠ 1 := fun e => c (decide_eq_true (by rw [List.length_map, e]; rfl))
    obtain ⟨l, rr, sp⟩ := split_ex ht (by omega)
    have hlen := sp.len
    have l0 := sp.tl.pos
    have rr0 := sp.tr.pos
    refine ⟨_, rfl, B, _, ns, l, rr, rfl, hB, hx, sp, by omega, fun v B2 H2 g2 h2 => ?_⟩
    obtain ⟨w, xs, rfl, hw, axs⟩ := h2.tup_ex
    cases axs with
    | cons a1 a2 =>
      cases a2 with
      | cons a2 a3 =>
        cases a3
        rename_i vl vr
        refine ⟨w, _, rfl, SqT.of (g2.bh _ _ hw), rfl, _, _, rfl, _, _, rfl, rfl, ?_⟩
        obtain ⟨pl, rfl, hpl⟩ := ints_ex a1
        have hyp2 := g2.hh _ _ (hB _ _ hpy)
        refine ⟨_, rfl, _, rfl, _, rfl, pl, _, rfl, .inl (SqL.of (g2.bh _ _ hpl)), _, rfl, py, _, rfl, SqL.of hyp2, fun p3 np3 => ?_⟩
        rw [List.length_map, cut_upto, ← List.map_take]
        have g3 : Grow B2 H2 _ _ := Grow.new (o := .lst ((us.take l.length).map V.int)) g2.bh np3
        have a3 : At (upd B2 p3 (.lst ((us.take l.length).map V.int))) (.ref p3) (intsD (us.take l.length)) := ints_at upd_same
        refine ⟨_, rfl, _, rfl, _, _, _, l, us.take l.length, f, m, rfl, g3.bh, a1.up g3.bb, a3, by rw [List.length_take]; omega, sp.tl, l0, by omega, by omega, m0, m1, fun H4 s4 => ?_⟩
        have s24 := g3.hh.trans s4
        have w0 := Int.emod_nonneg (dot (wts l f m) (us.take l.length)) (show m ≠ 0 by omega)
        have w1 := Int.emod_lt_of_pos (dot (wts l f m) (us.take l.length)) (show 0 < m by omega)
        have st := fold_step (f := f) (m := m) sp hlu
        refine ⟨_, rfl, _, rfl, _, _, rfl, rfl, .inr ⟨by omega, by omega⟩, _, rfl, _, rfl, _, rfl, pl, _, rfl, .inl (SqL.of (s24 _ _ (g2.bh _ _ hpl))), _, rfl, py, _, rfl, SqL.of (s24 _ _ hyp2), fun p5 np5 => ?_⟩
        rw [List.length_map, cut_from, ← List.map_drop]
        have g5 : Grow B2 H4 _ _ := Grow.new (o := .lst ((us.drop l.length).map V.int)) (g2.bh.trans s24) np5
        have a5 : At (upd B2 p5 (.lst ((us.drop l.length).map V.int))) (.ref p5) (intsD (us.drop l.length)) := ints_at upd_same
        refine ⟨_, rfl, _, rfl, _, _, _, rr, us.drop l.length, f, m, rfl, g5.bh, a2.up g5.bb, a5, by rw [List.length_drop]; omega, sp.tr, rr0, by omega, by omega, m0, m1, fun H6 s6 => ?_⟩
        refine ⟨_, _, rfl, rfl, .inl ⟨_, rfl, _, rfl, _, _, rfl, rfl, (by show (0 : Int) < m; omega), ?_⟩⟩
        dsimp only
        rw [st]
        exact q H6 ((g2.hh.trans s24).trans (g5.hh.trans s6))
theorem rec_l_fold {f : Addr} {fd : FuncData} (F : Fun K "_law_fold" "_law_fold" s_l_fold f fd) (T : Bt mg) (D__law_halves : Callee P w K mg base CX0 1 "_law_halves" ["_law_row"] (sp_l_halves K)) (hm : mg "_law_fold" = some (.ref f)) (hb : Binds K fd ["_law_row", "_law_some", "_law_step", "_law_by"] []) : ∀ kk, FnG P w K mg base CX0 (1 + kk) f fd ["_law_row", "_law_some", "_law_step", "_law_by"] (sp_l_fold K kk)
  | 0 => FnG.vain fun vs H Q E h => by
    obtain ⟨B, x, y, ns, us, f, m, rfl, hB, hx, hy, hlu, ht, h0, hk, hl, m0, m1, q⟩ := h
    omega
  | kk + 1 => ok_l_fold (lv := 1 + kk) F T D__law_halves (by omega) ⟨f, fd, rec_l_fold F T D__law_halves hm hb kk, hm, F.kp, hb⟩
def sp_l_power (K : PySem.W.Frag) : Sp := fun vs H Q _ => ∃ (f d m : Int), vs = [.int f, .int d, .int m] ∧ 0 ≤ d ∧ d ≤ 1000 ∧ 1 ≤ m ∧ m ≤ 10000 ∧ Q (.int (pw f m d.toNat)) H
theorem ok_l_power {f : Addr} {fd : FuncData} (F : Fun K "_law_power" "_law_power" s_l_power f fd) (T : Bt mg) : FnG P w K mg base CX0 1 f fd ["_law_step", "_law_depth", "_law_by"] (sp_l_power K) := by
  refine okN F sc_l_power (fun vs H Q E h => ?_) (fun cdv A out s H vs Q E hc hr h => ?_)
  · obtain ⟨f, d, m, rfl, d0, d1, m0, m1, q⟩ := h
    rfl
  obtain ⟨f, d, m, rfl, d0, d1, m0, m1, q⟩ := h
  have hu200 := u200 hr
  have hu64 := hr.units
  refine ⟨_, (pss_cons (ps_set (i := 3) sc_l_power.nd rfl (.inl rfl) (pe_op op_mod pe_int (pv 2)))
    (pss_cons (ps_for PassesOwn.never rfl (pi_range1 (by rfl) T.b_range (pa_cons (pv 1) pa_nil)) (pg_name (i := 4) sc_l_power.nd rfl (.inl rfl)) (pss_one (ps_set (i := 3) sc_l_power.nd rfl (.inl rfl) (pe_op op_mod (pe_callTy call_int1 (by rfl) T.b_int (by decide +kernel) (pa_cons (pe_op op_mul (pv 3) (pv 0)) pa_nil)) (pv 2)))))
    (pss_one (ps_ret (pv 3))))), ?_⟩

  refine ⟨_, rfl, _, _, rfl, rfl, (by show (0 : Int) < m; omega), ?_⟩
  refine ⟨_, rfl, d, rfl, by omega, by omega, for_range (lo := 0) (n := d.toNat) (fun i σ H2 => ∃ x4, σ = [some (.int f), some (.int d), some (.int m), some (.int (pw f m i)), x4] ∧ H2 = H) ⟨none, rfl, rfl⟩ ?_ ?_⟩
  · rintro i σ H2 hi ⟨x4, rfl, rfl⟩
    have b0 := pw_nonneg (f := f) (m := m) (by omega) i
    have b1 := pw_lt (f := f) (m := m) (by omega) i
    exact ⟨_, rfl, _, rfl, _, _, rfl, rfl, .inl ⟨by omega, by omega⟩, .inl ⟨_, rfl, _, rfl, _, _, rfl, rfl, (by show (0 : Int) < m; omega), some (.int (0 + i)), rfl, rfl⟩⟩
  · rintro σ H2 ⟨x4, rfl, rfl⟩
    exact ⟨_, rfl, q⟩
theorem pick2i {a b sh : Int} (h0 : 0 ≤ sh) (h4 : sh < 2) {P : Int → Prop} (pa : P a) (pb : P b) : ∃ x, atI [V.int a, V.int b] sh = some (.int x) ∧ P x := by
  rcases (by omega : sh = 0 ∨ sh = 1) with e | e <;> subst e
  · exact ⟨a, atI_nat (j := 0) rfl, pa⟩
  · exact ⟨b, atI_nat (j := 1) rfl, pb⟩
theorem GrowP.set {p q : Addr} {o : HO} {B H H2 : Hp} (g : GrowP p B H B H2) (hB : Same B H) (hq : H q = none) (hp : H p ≠ none) : GrowP p B H B (upd H2 q o) := by
  refine ⟨g.bb, fun b u e => ?_, fun b u n e => ?_, g.fr, fun b hb => ?_⟩
  · rw [upd_ne (ne_of_none (hB _ _ e) hq)]
    exact g.bh b u e
  · rw [upd_ne (ne_of_none e hq)]
    exact g.hh b u n e
  · by_cases z : b = q
    · rw [z, upd_same]
      exact fun h => nomatch h
    · rw [upd_ne z]
      exact g.th b hb
theorem GrowP.with {p q : Addr} {o : HO} {B H H2 : Hp} (g : GrowP p B H B H2) (hB : Same B H) (hq : H q = none) (e : H2 q = some o) : GrowP p B H (upd B q o) H2 := by
  refine ⟨same_new (hB.free hq), fun b u h => ?_, g.hh, fun b hb h => ?_, g.th⟩
  · by_cases z : b = q
    · rw [z, upd_same] at h
      rw [z, e]
      exact h
    · rw [upd_ne z] at h
      exact g.bh _ _ h
  · rw [upd_ne (fun z => hb (by rw [z]; exact hq))]
    exact h
def sp_l_values (K : PySem.W.Frag) : Sp := fun vs H Q _ => ∃ (B : Hp) (p : Addr) (n m : Int), vs = [.ref p, .int m] ∧ Same B H ∧ B p = Option.none ∧ DrawsAt H p n ∧ 0 ≤ n ∧ n ≤ 100000000 ∧ 1 ≤ m ∧ m ≤ 40 ∧
  ∀ v us B2 H2, (us.length : Int) = m → (∀ u ∈ us, u.natAbs < 10 ^ 30) → GrowP p B H B2 H2 → DrawsAt H2 p (n + 2 * m) → At B2 v (intsD us) → Q v H2
theorem ok_l_values {f : Addr} {fd : FuncData} (F : Fun K "_law_values" "_law_values" s_l_values f fd) (T : Bt mg) (D__law_next : Callee P w K mg base CX0 1 "_law_next" ["_law_draws_here"] (sp_l_next K)) : FnG P w K mg base CX0 2 f fd ["_law_draws_here", "_law_many"] (sp_l_values K) := by
  refine okN F sc_l_values (fun vs H Q E h => ?_) (fun cdv A out s H vs Q E hc hr h => ?_)
  · obtain ⟨B, p, n, m, rfl, hB, hBp, hd, n0, n1, m1, m40, q⟩ := h
    rfl
  obtain ⟨B, p, n, m, rfl, hB, hBp, hd, n0, n1, m1, m40, q⟩ := h
  have hu200 := u200 hr
  have hu64 := hr.units
  refine ⟨_, (pss_cons (ps_set (i := 2) sc_l_values.nd rfl (.inl rfl) (pe_lst pa_nil))
    (pss_cons (ps_for PassesOwn.never rfl (pi_range1 (by rfl) T.b_range (pa_cons (pv 1) pa_nil)) (pg_name (i := 3) sc_l_values.nd rfl (.inl rfl)) (pss_cons (ps_set (i := 4) sc_l_values.nd rfl (.inl rfl) (pe_ix (kx_list (K := K) rfl) (pe_lst (pa_cons pe_int (pa_cons (pe_op op_powW pe_int pe_int) pa_nil))) (pe_op op_mod (pe_callTy call_int1 (by rfl) T.b_int (by decide +kernel) (pa_cons (pg_call D__law_next.ok hc (hr.mono (by decide)) (by rfl) D__law_next.mg D__law_next.kp D__law_next.bd pass0 (pa_cons (pv 0) pa_nil)) pa_nil)) pe_int) (fun _ _ => rfl)))
    (pss_one (ps_expr (pe_bm PySem.F.plainAttrs_list PySem.F.slot_list_append PySem.F.type_list_append mt_append (pv 2) (pa_cons (pe_op op_mul (pe_op op_sub (pe_op op_mod (pe_callTy call_int1 (by rfl) T.b_int (by decide +kernel) (pa_cons (pg_call D__law_next.ok hc (hr.mono (by decide)) (by rfl) D__law_next.mg D__law_next.kp D__law_next.bd pass0 (pa_cons (pv 0) pa_nil)) pa_nil)) (pe_op op_powW pe_int pe_int)) pe_int) (pv 4)) pa_nil))))))
    (pss_one (ps_ret (pv 2))))), ?_⟩

  refine ⟨by show 0 ≤ sizeLine; decide, fun q0 hq0 => ?_⟩
  have qp : q0 ≠ p := fun e => hd.some (by rw [← e]; exact hq0)
  have G0 : GrowP p B H B (upd H q0 (.lst [])) := (GrowP.refl hB).more (same_new hq0)
  refine ⟨_, rfl, m, rfl, by omega, by omega, for_range (lo := 0) (n := m.toNat) (fun i σ H2 => ∃ us x3 x4, σ = [some (.ref p), some (.int m), some (.ref q0), x3, x4] ∧ us.length = i ∧ (∀ u ∈ us, u.natAbs < 10 ^ 30) ∧ GrowP p B H B H2 ∧ DrawsAt H2 p (n + 2 * i) ∧ H2 q0 = some (.lst (us.map V.int)))
    ⟨[], none, none, rfl, rfl, (fun _ h => nomatch h), G0, (hd.up (same_new hq0)).mono (by omega), upd_same⟩ ?_ ?_⟩
  · rintro i σ H2 hi ⟨us, x3, x4, rfl, hl, hu, G, dr, e⟩
    refine ⟨_, _, rfl, rfl, ⟨by decide, by decide +kernel⟩, by show 2 ≤ sizeLine; decide, fun q1 nq1 => ?_⟩
    have d1 := dr.up (same_new (o := .lst [.int 1, .int (10 ^ (13 : Int).toNat)]) nq1)
    have G1 := G.more (same_new (o := .lst [.int 1, .int (10 ^ (13 : Int).toNat)]) nq1)
    have e1 := same_new (o := .lst [.int 1, .int (10 ^ (13 : Int).toNat)]) nq1 _ _ e
    have q1p : q1 ≠ p := fun e => dr.some (by rw [← e]; exact nq1)
    have h1 : upd H2 q1 (.lst [.int 1, .int (10 ^ (13 : Int).toNat)]) q1 = some (.lst [.int 1, .int (10 ^ (13 : Int).toNat)]) := upd_same
    refine ⟨_, rfl, p, _, rfl, d1, by omega, fun r H3 r0 r1 t3 d3 => .inl ⟨_, rfl, _, _, rfl, rfl, (by show (0 : Int) < _; decide), ?_⟩⟩
    obtain ⟨far, hfar, pf⟩ := pick2i (a := 1) (b := 10 ^ (13 : Int).toNat) (sh := r % 2) (by omega) (by omega) (P := fun x => x = 1 ∨ x = 10 ^ 13) (.inl rfl) (.inr rfl)
    refine ⟨q1, _, _, _, rfl, rfl, SqL.of (t3.hh _ _ q1p h1), hfar, ?_⟩
    have e3 := t3.hh _ _ qp e1
    have G3 := G1.low t3 hBp
    refine ⟨_, rfl, .inl ⟨rfl, _, SqL.of e3⟩, _, rfl, p, _, rfl, d3, by omega, fun w H4 w0 w1 t4 d4 => .inl ⟨_, rfl, _, _, rfl, rfl, ⟨by decide, by decide +kernel⟩, _, _, rfl, rfl, (by show (0 : Int) < 10 ^ Int.toNat 6; decide), _, _, rfl, rfl, _, rfl, _, _, rfl, rfl, ?_⟩⟩
    have e6 : (10 : Int) ^ Int.toNat 6 = 1000000 := by decide
    dsimp only
    rw [e6]
    have e4 := t4.hh _ _ qp e3
    have G4 := G3.low t4 hBp
    refine ⟨.inl ⟨by omega, by omega⟩, q0, _, _, rfl, rfl, e4, ?_, us ++ [(w % 1000000 - 500000) * far], _, _, rfl, by simp [hl], fun u hm => ?_, G4.set hB hq0 hd.some, ?_, ?_⟩
    · rw [List.length_map]
      exact small1000 (by omega)
    · rcases List.mem_append.mp hm with hm | hm
      · exact hu u hm
      · rw [List.mem_singleton] at hm
        rcases pf with e | e <;> rw [hm, e] <;> omega
    · exact (d4.other (Turn.upd (p := q0) e4) (fun z => qp z.symm)).mono (by omega)
    · rw [upd_same, List.map_append]
      rfl
  · rintro σ H2 ⟨us, x3, x4, rfl, hl, hu, G, dr, e⟩
    exact ⟨_, rfl, q _ us _ H2 (by omega) hu (G.with hB hq0 e) (dr.mono (by omega)) (ints_at upd_same)⟩
theorem eqvAll_ints : ∀ (as bs : List Int), PyData.eqvAll (as.map PyData.int) (bs.map PyData.int) = decide (as = bs)
  | [], [] => by simp [PyData.eqvAll]
  | [], _ :: _ => by simp [PyData.eqvAll]
  | _ :: _, [] => by simp [PyData.eqvAll]
  | a :: as, b :: bs => by
    have ih := eqvAll_ints as bs
    simp [PyData.eqvAll, PyData.eqv, ih]
    by_cases h : a = b <;> simp [h]
theorem eqv_ints (as bs : List Int) : PyData.eqv (intsD as) (intsD bs) = decide (as = bs) := by
  have := eqvAll_ints as bs
  unfold intsD
  simp [PyData.eqv, this]
theorem Tr.sm {ns : List Int} (h : Tr ns) (hl : ns.length ≤ 40) : Sm 1 603 (intsD ns) := by
  refine Sm.ints (m := 40) (fun n hn => ?_) hl
  have h1 := h.nonneg hn
  have h2 := h.bound n hn
  omega
theorem Sm.bigs {us : List Int} (h : ∀ u ∈ us, u.natAbs < 10 ^ 30) (hl : us.length ≤ 40) : Sm 1 1323 (intsD us) := by
  refine Sm.list (k := 0) (n := 31) (m := 40) (fun d hd => ?_) (by rw [List.length_map]; exact hl)
  obtain ⟨n, hn, rfl⟩ := List.mem_map.mp hd
  exact Sm.big (h n hn)
theorem wts_sm {ns : List Int} {f m : Int} (hl : ns.length ≤ 40) (m0 : 1 ≤ m) (m1 : m ≤ 10000) : Sm 1 603 (intsD (wts ns f m)) := by
  refine Sm.ints (m := 40) (fun n hn => ?_) (by rw [wts_len]; exact hl)
  have := wts_nonneg (show 0 < m by omega) hn
  omega
theorem dot_comm (as bs : List Int) : dot as bs = dot bs as := by
  unfold dot
  rw [List.zipWith_comm]
  congr 2
  funext a b
  exact Int.mul_comm _ _
theorem zeros_flat (k : Nat) : (List.replicate k [V.int 0]).flatten = (List.replicate k 0).map V.int := by
  rw [List.map_replicate]
  induction k with
  | zero => rfl
  | succ k ih => rw [List.replicate_succ, List.flatten_cons, ih, List.replicate_succ]; rfl
theorem unit_at {ns : List Int} {f m : Int} {k : Nat} (h : k < ns.length) : ∃ c, (wts ns f m)[k]? = some c ∧ dot (wts ns f m) (unit ns.length k) % m = c := by
  have h2 : k < (wts ns f m).length := by rw [wts_len]; exact h
  refine ⟨(wts ns f m)[k], List.getElem?_eq_getElem h2, ?_⟩
  rw [dot_unit _ _ _ _ wts_len (List.getElem?_eq_getElem h2)]
  exact wts_mod (List.getElem_mem h2)

theorem unit_list {k n : Nat} : (List.replicate ((k : Int).toNat) [V.int 0]).flatten ++ [V.int 1] ++ (List.replicate ((n : Int) - 1 - k).toNat [V.int 0]).flatten = (unit n k).map V.int := by
  unfold unit
  rw [zeros_flat, zeros_flat, List.map_append, List.map_append, show ((k : Int).toNat) = k by omega, show ((n : Int) - 1 - k).toNat = n - 1 - k by omega]
  rfl
theorem zeros_len (k : Nat) : ((List.replicate k [V.int 0]).flatten).length = k := by rw [zeros_flat, List.length_map, List.length_replicate]
theorem DrawsAt.off {H : Hp} {p q : Addr} {n : Int} {o u : HO} (h : DrawsAt H p n) (e : H q = .some u) (ne : p ≠ q) : DrawsAt (upd H q o) p n := h.other (Turn.upd e) ne

def sp_l_right (K : PySem.W.Frag) : Sp := fun vs H Q _ => ∃ (B : Hp) (p : Addr) (x : V) (ns : List Int) (n f m : Int), vs = [.ref p, x, .int f, .int m] ∧ Same B H ∧ B p = Option.none ∧ DrawsAt H p n ∧ 0 ≤ n ∧ n ≤ 10000000 ∧ At B x (intsD ns) ∧ Tr ns ∧ ns.length ≤ 40 ∧ 1 ≤ m ∧ m ≤ 10000 ∧
  ∀ B2 H2, GrowP p B H B2 H2 → DrawsAt H2 p (n + 100) → Q (.bl true) H2
theorem ok_l_right {f : Addr} {fd : FuncData} (F : Fun K "_law_right" "_law_right" s_l_right f fd) (T : Bt mg) (D_weights : Callee P w K mg base CX0 4 "weights" ["tree", "factor", "modulus"] (sp_weights K)) (D_fold_numbers : Callee P w K mg base CX0 5 "fold_numbers" ["tree", "factor", "modulus", "values"] (sp_fold_numbers K)) (D__law_next : Callee P w K mg base CX0 1 "_law_next" ["_law_draws_here"] (sp_l_next K)) (D__law_fold : Callee P w K mg base CX0 42 "_law_fold" ["_law_row", "_law_some", "_law_step", "_law_by"] (sp_l_fold K 41)) (D__law_power : Callee P w K mg base CX0 1 "_law_power" ["_law_step", "_law_depth", "_law_by"] (sp_l_power K)) (D__law_values : Callee P w K mg base CX0 2 "_law_values" ["_law_draws_here", "_law_many"] (sp_l_values K)) (kb_fold_numbers_values_modulus_factor_tree : KBindsE K D_fold_numbers.fd ["tree", "factor", "modulus", "values"] ["values", "modulus", "factor", "tree"] pk_fold_numbers_values_modulus_factor_tree pk_fold_numbers_values_modulus_factor_tree) (kb_weights_modulus_factor_tree : KBindsE K D_weights.fd ["tree", "factor", "modulus"] ["modulus", "factor", "tree"] pk_weights_modulus_factor_tree pk_weights_modulus_factor_tree) : FnG P w K mg base CX0 43 f fd ["_law_draws_here", "_law_row", "_law_step", "_law_by"] (sp_l_right K) := by
  refine okN F sc_l_right (fun vs H Q E h => ?_) (fun cdv A out s H vs Q E hc hr h => ?_)
  · obtain ⟨B, p, x, ns, n, f, m, rfl, hB, hBp, hd, n0, n1, hx, ht, hl, m0, m1, q⟩ := h
    rfl
  obtain ⟨B, p, x, ns, n, f, m, rfl, hB, hBp, hd, n0, n1, hx, ht, hl, m0, m1, q⟩ := h
  have hu200 := u200 hr
  have hu64 := hr.units
  refine ⟨_, (pss_cons (ps_set (i := 4) sc_l_right.nd rfl (.inl rfl) (pg_call D__law_values.ok hc (hr.mono (by decide)) (by rfl) D__law_values.mg D__law_values.kp D__law_values.bd pass0 (pa_cons (pv 0) (pa_cons (pe_callB (k_len (K := K) rfl) (by rfl) T.b_len PySem.boot_len (pa_cons (pv 1) pa_nil)) pa_nil))))
    (pss_cons (ps_set (i := 5) sc_l_right.nd rfl (.inl rfl) (pe_callB (k_repr (K := K) rfl hc hu200) (by rfl) T.b_repr (by decide +kernel) (pa_cons (pe_lst (pa_cons (pv 1) (pa_cons (pv 4) pa_nil))) pa_nil)))
    (pss_cons (ps_setLc (i := 6) (own := [("_law_depth", 11)]) (g := (gName 11)) (tt := tYes) (by rfl) sc_l_right.nd rfl rfl (sw_true rfl rfl rfl (by decide +kernel)) (pi_list (pv 1)) (blkOk_by (own := [("_law_depth", 11)]) (N := N_l_right) (sc := defScope s_l_right) (by decide +kernel)) (fun _ _ _ _ _ => (pg_name (i := 11) sc_l_right.nd rfl (.inl rfl))) (fun _ _ _ _ _ => pts_nil) (fun _ _ _ _ _ => (pg_call D__law_power.ok hc (hr.mono (by decide)) (by rfl) D__law_power.mg D__law_power.kp D__law_power.bd pass0 (pa_cons (pv 2) (pa_cons (pv 11) (pa_cons (pv 3) pa_nil))))))
    (pss_cons (ps_set (i := 7) sc_l_right.nd rfl (.inl rfl) (pe_lst (pa_cons (pg_call D_weights.ok hc (hr.mono (by decide)) (by rfl) D_weights.mg D_weights.kp D_weights.bd pass0 (pa_cons (pv 1) (pa_cons (pv 2) (pa_cons (pv 3) pa_nil)))) (pa_cons (pg_callK D_weights.ok hc (hr.mono (by decide)) (by rfl) D_weights.mg D_weights.kp kb_weights_modulus_factor_tree pass0 (pk_cons (pv 3) (pk_cons (pv 2) (pk_cons (pv 1) pk_nil)))) pa_nil))))
    (pss_cons (ps_if (pt_cmpR op_ne (pe_callB (k_repr (K := K) rfl hc hu200) (by rfl) T.b_repr (by decide +kernel) (pa_cons (pv 7) pa_nil)) (pe_callB (k_repr (K := K) rfl hc hu200) (by rfl) T.b_repr (by decide +kernel) (pa_cons (pe_lst (pa_cons (pv 6) (pa_cons (pv 6) pa_nil))) pa_nil)) (nomark _)) (pss_one (ps_ret pe_bl)) pss_nil)
    (pss_cons (ps_expr (pe_bm PySem.F.plainAttrs_list PySem.F.slot_list_append PySem.F.type_list_append mt_append (pe_ix (kx_list (K := K) rfl) (pv 7) pe_int (fun _ _ => rfl)) (pa_cons pe_non pa_nil)))
    (pss_cons (ps_set (i := 8) sc_l_right.nd rfl (.inl rfl) (pe_lst (pa_cons (pg_call D_fold_numbers.ok hc (hr.mono (by decide)) (by rfl) D_fold_numbers.mg D_fold_numbers.kp D_fold_numbers.bd pass0 (pa_cons (pv 1) (pa_cons (pv 2) (pa_cons (pv 3) (pa_cons (pv 4) pa_nil))))) pa_nil)))
    (pss_cons (ps_expr (pe_bm PySem.F.plainAttrs_list PySem.F.slot_list_append PySem.F.type_list_append mt_append (pv 8) (pa_cons (pg_callK D_fold_numbers.ok hc (hr.mono (by decide)) (by rfl) D_fold_numbers.mg D_fold_numbers.kp kb_fold_numbers_values_modulus_factor_tree pass0 (pk_cons (pv 4) (pk_cons (pv 3) (pk_cons (pv 2) (pk_cons (pv 1) pk_nil))))) pa_nil)))
    (pss_cons (ps_if (PW.pt (pw_or (pt_cmpR op_ne (pe_callB (k_repr (K := K) rfl hc hu200) (by rfl) T.b_repr (by decide +kernel) (pa_cons (pv 8) pa_nil)) (pe_callB (k_repr (K := K) rfl hc hu200) (by rfl) T.b_repr (by decide +kernel) (pa_cons (pe_op op_rep (pe_lst (pa_cons (pg_call D__law_fold.ok hc (hr.mono (by decide)) (by rfl) D__law_fold.mg D__law_fold.kp D__law_fold.bd pass0 (pa_cons (pv 1) (pa_cons (pv 4) (pa_cons (pv 2) (pa_cons (pv 3) pa_nil))))) pa_nil)) pe_int) pa_nil)) (nomark _)) (pw_or1 (pt_cmpR op_ne (pe_callB (k_repr (K := K) rfl hc hu200) (by rfl) T.b_repr (by decide +kernel) (pa_cons (pe_lst (pa_cons (pv 1) (pa_cons (pv 4) pa_nil))) pa_nil)) (pv 5) (nomark _))))) (pss_one (ps_ret pe_bl)) pss_nil)
    (pss_cons (ps_if (pt_cmpR op_ne (pe_ix (kx_list (K := K) rfl) (pv 8) pe_int (fun _ _ => rfl)) (pe_op op_mod (pe_callB (k_sum (K := K) rfl rfl) (by rfl) T.b_sum (by decide +kernel) (pa_cons (pe_lc (own := [("_law_value", 12), ("_law_weight", 13)]) (g := (gTup K 2 (gCons (gName 12) (gCons (gName 13) gNil)))) (tt := tYes) (by rfl) sc_l_right.nd (pi_zip (by rfl) T.b_zip (pa_cons (pv 4) (pa_cons (pv 6) pa_nil))) (blkOk_by (own := [("_law_value", 12), ("_law_weight", 13)]) (N := N_l_right) (sc := defScope s_l_right) (by decide +kernel)) (fun _ _ _ _ _ => (pg_tup rfl (pgs_cons (pg_name (i := 12) sc_l_right.nd rfl (.inl rfl)) (pgs_cons (pg_name (i := 13) sc_l_right.nd rfl (.inl rfl)) pgs_nil)))) (fun _ _ _ _ _ => pts_nil) (fun _ _ _ _ _ => (pe_op op_mul (pv 12) (pv 13)))) pa_nil)) (pv 3)) (nomark _)) (pss_one (ps_ret pe_bl)) pss_nil)
    (pss_cons (ps_set (i := 9) sc_l_right.nd rfl (.inl rfl) (pe_op op_mod (pe_callTy call_int1 (by rfl) T.b_int (by decide +kernel) (pa_cons (pg_call D__law_next.ok hc (hr.mono (by decide)) (by rfl) D__law_next.mg D__law_next.kp D__law_next.bd pass0 (pa_cons (pv 0) pa_nil)) pa_nil)) (pe_callB (k_len (K := K) rfl) (by rfl) T.b_len PySem.boot_len (pa_cons (pv 1) pa_nil))))
    (pss_cons (ps_set (i := 10) sc_l_right.nd rfl (.inl rfl) (pe_op op_cat (pe_op op_cat (pe_op op_rep (pe_lst (pa_cons pe_int pa_nil)) (pv 9)) (pe_lst (pa_cons pe_int pa_nil))) (pe_op op_rep (pe_lst (pa_cons pe_int pa_nil)) (pe_op op_sub (pe_op op_sub (pe_callB (k_len (K := K) rfl) (by rfl) T.b_len PySem.boot_len (pa_cons (pv 1) pa_nil)) pe_int) (pv 9)))))
    (pss_cons (ps_if (pt_cmpR op_ne (pg_call D_fold_numbers.ok hc (hr.mono (by decide)) (by rfl) D_fold_numbers.mg D_fold_numbers.kp D_fold_numbers.bd pass0 (pa_cons (pv 1) (pa_cons (pv 2) (pa_cons (pv 3) (pa_cons (pv 10) pa_nil))))) (pe_ix (kx_list (K := K) rfl) (pv 6) (pv 9) (fun _ _ => rfl)) (nomark _)) (pss_one (ps_ret pe_bl)) pss_nil)
    (pss_one (ps_ret (pe_cmpR op_eq (pe_callB (k_repr (K := K) rfl hc hu200) (by rfl) T.b_repr (by decide +kernel) (pa_cons (pg_call D_weights.ok hc (hr.mono (by decide)) (by rfl) D_weights.mg D_weights.kp D_weights.bd pass0 (pa_cons (pv 1) (pa_cons (pv 2) (pa_cons (pv 3) pa_nil)))) pa_nil)) (pe_callB (k_repr (K := K) rfl hc hu200) (by rfl) T.b_repr (by decide +kernel) (pa_cons (pv 6) pa_nil)) (nomark _))))))))))))))))), ?_⟩

  obtain ⟨a, rfl, ha⟩ := ints_ex hx
  have h0 := ht.pos
  -- the values
  refine ⟨_, rfl, _, rfl, a, _, rfl, .inl (SqL.of (hB _ _ ha)), B, p, n, ns.length, by rw [List.length_map]; rfl, hB, hBp, hd, by omega, by omega, by omega, by omega, fun v us B1 H1 hlu hub G1 d1 hv => ?_⟩
  have hlu2 : us.length = ns.length := by omega
  have hx1 := hx.up G1.bb
  have hBp1 := G1.free hd.some hBp
  have smT := ht.sm hl
  have smU := Sm.bigs hub (by omega)
  have smW := wts_sm (f := f) hl m0 m1
  have smTU := (smT.mono (Nat.le_refl 1) (show 603 ≤ 1323 by decide)).pair smU
  have smWW := smW.pair smW
  -- kept
  refine ⟨_, rfl, _, rfl, by show 2 ≤ sizeLine; decide, fun q1 nq1 => ?_⟩
  have aK : At (upd H1 q1 (.lst [.ref a, v])) (.ref q1) (.list [intsD ns, intsD us]) := .lst upd_same (.cons ((hx1.up G1.bh).up (same_new nq1)) (.cons ((hv.up G1.bh).up (same_new nq1)) .nil))
  refine ⟨_, _, rfl, aK.dp, smTU.shown (by decide) (by decide), ?_⟩
  have G2 := G1.more (same_new (o := .lst [.ref a, v]) nq1)
  have d2 := d1.up (same_new (o := .lst [.ref a, v]) nq1)
  generalize upd H1 q1 (.lst [.ref a, v]) = H2 at aK G2 d2
  have ha1 := G1.bb _ _ ha
  -- due
  refine ⟨_, rfl, a, rfl, ⟨_, SqL.of (G2.bh _ _ ha1)⟩, fun D hD => ?_⟩
  refine lc_ints (fun d => .int (pw f m d.toNat)) G2.bh hD (by omega) (SqL.of (G2.bh _ _ ha1)) (fun d B3 H3 hd3 s2 s3 s4 fr R k => ?_) (fun B3 H3 g3 h3 => ?_)
  · have b0 := ht.nonneg hd3
    have b1 := ht.bound d hd3
    exact ⟨rfl, _, rfl, _, rfl, _, rfl, f, d, m, rfl, b0, by omega, m0, m1, k _ B3 H3 (Grow.refl s3) (.int _)⟩
  rw [wts_data] at h3
  have G3 := G2.trans (g3.p p)
  have d3 := d2.up g3.hh
  have hx3 := hx1.up g3.bb
  have hv3 := hv.up g3.bb
  have hBp3 := G3.free hd.some hBp
  clear g3 d2 G2 hx1 hv hD aK
  -- told, twice the same
  refine ⟨_, rfl, _, rfl, _, rfl, B3, _, ns, f, m, rfl, G3.bh, hx3, ht, hl, m0, m1, fun p1 B4 H4 np1 g4 h4 => ?_⟩
  refine ⟨_, rfl, _, rfl, _, rfl, B4, _, ns, f, m, rfl, g4.bh, hx3.up g4.bb, ht, hl, m0, m1, fun p2 B5 H5 np2 g5 h5 => ?_⟩
  refine ⟨by show 2 ≤ sizeLine; decide, fun q0 nq0 => ?_⟩
  have h45 := h4.up g5.bb
  have at6 : At (upd B5 q0 (.lst [.ref p1, .ref p2])) (.ref q0) (.list [intsD (wts ns f m), intsD (wts ns f m)]) :=
    .lst upd_same (.cons (h45.up (same_new (g5.bh.free nq0))) (.cons (h5.up (same_new (g5.bh.free nq0))) .nil))
  have g6 : Grow B3 H3 (upd B5 q0 (.lst [.ref p1, .ref p2])) (upd H5 q0 (.lst [.ref p1, .ref p2])) := (g4.trans g5).trans (Grow.new g5.bh nq0)
  have e6 : upd H5 q0 (.lst [.ref p1, .ref p2]) q0 = some (.lst [.ref p1, .ref p2]) := upd_same
  generalize upd B5 q0 (.lst [.ref p1, .ref p2]) = B6 at at6 g6
  generalize upd H5 q0 (.lst [.ref p1, .ref p2]) = H6 at g6 e6
  clear g4 g5 h45 h5 nq0
  have d6 := d3.up g6.hh
  -- the first test
  refine ⟨_, rfl, _, _, rfl, (at6.up g6.bh).dp, smWW.shown (by decide) (by decide), ?_⟩
  refine ⟨_, rfl, _, rfl, by show 2 ≤ sizeLine; decide, fun q7 nq7 => ?_⟩
  have due6 := h3.up g6.bb
  have at7 : At (upd H6 q7 (.lst [.ref D, .ref D])) (.ref q7) (.list [intsD (wts ns f m), intsD (wts ns f m)]) :=
    .lst upd_same (.cons ((due6.up g6.bh).up (same_new nq7)) (.cons ((due6.up g6.bh).up (same_new nq7)) .nil))
  refine ⟨_, _, rfl, at7.dp, smWW.shown (by decide) (by decide), rfl, _, rfl, iteNS rfl ?_⟩
  have s7 : Same H6 (upd H6 q7 (.lst [.ref D, .ref D])) := same_new nq7
  generalize upd H6 q7 (.lst [.ref D, .ref D]) = H7 at s7
  -- told[0].append(None)
  have h47 : At H7 (.ref p1) (intsD (wts ns f m)) := by
    cases at6 with
    | lst e a =>
      have e1 := g6.bh _ _ e
      rw [e6] at e1
      cases e1
      cases a with
      | cons a1 a2 => exact (a1.up g6.bh).up s7
  obtain ⟨p1', ep, hp1⟩ := ints_ex h47
  cases ep
  refine ⟨_, rfl, q0, _, _, _, rfl, rfl, SqL.of (s7 _ _ e6), atI_nat (j := 0) rfl, .inl ⟨rfl, _, SqL.of hp1⟩, ?_⟩
  refine ⟨p1, _, .non, rfl, rfl, hp1, ?_, ?_⟩
  · rw [List.length_map, wts_len]
    exact small1000 (by omega)
  have G8 : GrowP p B H B3 (upd H7 p1 (.lst ((wts ns f m).map V.int ++ [.non]))) := G3.mut (g6.hh.trans s7) np1
  have d8 : DrawsAt (upd H7 p1 (.lst ((wts ns f m).map V.int ++ [.non]))) p (n + 2 * ns.length) := by
    obtain ⟨a1, k1, b1, e1, z⟩ := d6.up s7
    obtain ⟨a2, k2, b2, e2, z2⟩ := d3
    exact ⟨a1, k1, b1, by rw [upd_ne (ne_of_none e2 np1)]; exact e1, z⟩
  generalize upd H7 p1 (.lst ((wts ns f m).map V.int ++ [.non])) = H8 at G8 d8
  clear h47 hp1 at6 g6 e6 d6 s7 due6 G3 d3 at7
  -- came
  refine ⟨_, rfl, _, rfl, _, rfl, _, rfl, B3, _, _, ns, us, f, m, rfl, G8.bh, hx3, hv3, hlu2, ht, hl, m0, m1, fun H9 s9 => ⟨by show 1 ≤ sizeLine; decide, fun q9 nq9 => ?_⟩⟩
  have s9b : Same H8 (upd H9 q9 (.lst [.int (dot (wts ns f m) us % m)])) := s9.trans (same_new nq9)
  have e9 : upd H9 q9 (.lst [.int (dot (wts ns f m) us % m)]) q9 = some (.lst [.int (dot (wts ns f m) us % m)]) := upd_same
  have f9 : H8 q9 = none := s9.free nq9
  generalize upd H9 q9 (.lst [.int (dot (wts ns f m) us % m)]) = H10 at s9b e9
  have smI : Sm 0 13 (.int (dot (wts ns f m) us % m)) := Sm.int (by
    have h1 := Int.emod_nonneg (dot (wts ns f m) us) (show m ≠ 0 by omega)
    have h2 := Int.emod_lt_of_pos (dot (wts ns f m) us) (show 0 < m by omega)
    omega)
  have smJ := smI.pair smI
  have qp9 : p ≠ q9 := fun e => d8.some (by rw [e]; exact f9)
  -- appended
  refine ⟨_, rfl, .inl ⟨rfl, _, SqL.of e9⟩, _, rfl, _, rfl, _, rfl, _, rfl, B3, _, _, ns, us, f, m, rfl, G8.bh.trans s9b, hx3, hv3, hlu2, ht, hl, m0, m1, fun H11 s11 => ?_⟩
  refine ⟨q9, _, _, rfl, rfl, s11 _ _ e9, by show 1 < sizeLine; decide, ?_⟩
  have G12 : GrowP p B H B3 (upd H11 q9 (.lst ([.int (dot (wts ns f m) us % m)] ++ [.int (dot (wts ns f m) us % m)]))) := G8.mut (s9b.trans s11) f9
  have d12 : DrawsAt (upd H11 q9 (.lst ([.int (dot (wts ns f m) us % m)] ++ [.int (dot (wts ns f m) us % m)]))) p (n + 2 * ns.length) := ((d8.up s9b).up s11).off (s11 _ _ e9) qp9
  have e12 : upd H11 q9 (.lst ([.int (dot (wts ns f m) us % m)] ++ [.int (dot (wts ns f m) us % m)])) q9 = some (.lst [.int (dot (wts ns f m) us % m), .int (dot (wts ns f m) us % m)]) := upd_same
  generalize upd H11 q9 (.lst ([.int (dot (wts ns f m) us % m)] ++ [.int (dot (wts ns f m) us % m)])) = H12 at G12 d12 e12
  have aC : At H12 (.ref q9) (.list [.int (dot (wts ns f m) us % m), .int (dot (wts ns f m) us % m)]) := .lst e12 (.cons (.int _) (.cons (.int _) .nil))
  refine ⟨_, rfl, _, _, rfl, aC.dp, smJ.shown (by decide) (by decide), ?_⟩
  refine ⟨_, rfl, _, rfl, _, rfl, _, rfl, B3, _, _, ns, us, f, m, rfl, G12.bh, hx3, hv3, hlu2, ht, h0, by omega, hl, m0, m1, fun H13 s13 => ⟨by show 1 ≤ sizeLine; decide, fun q14 nq14 => ?_⟩⟩
  refine ⟨q14, 2, _, rfl, rfl, upd_same, by decide, by decide, by show 1 * 2 ≤ sizeLine; decide, fun q15 nq15 => ?_⟩
  have s15 : Same H12 (upd (upd H13 q14 (.lst [.int (dot (wts ns f m) us % m)])) q15 (.lst (List.replicate (Int.toNat 2) [V.int (dot (wts ns f m) us % m)]).flatten)) := s13.trans ((same_new nq14).trans (same_new nq15))
  have a15 : At (upd (upd H13 q14 (.lst [.int (dot (wts ns f m) us % m)])) q15 (.lst (List.replicate (Int.toNat 2) [V.int (dot (wts ns f m) us % m)]).flatten)) (.ref q15) (.list [.int (dot (wts ns f m) us % m), .int (dot (wts ns f m) us % m)]) := .lst upd_same (.cons (.int _) (.cons (.int _) .nil))
  generalize upd (upd H13 q14 (.lst [.int (dot (wts ns f m) us % m)])) q15 (.lst (List.replicate (Int.toNat 2) [V.int (dot (wts ns f m) us % m)]).flatten) = H15 at s15 a15
  refine ⟨_, _, rfl, a15.dp, smJ.shown (by decide) (by decide), rfl, _, rfl, iteNS rfl ?_⟩
  refine ⟨_, rfl, _, rfl, by show 2 ≤ sizeLine; decide, fun q16 nq16 => ?_⟩
  have s16 : Same H12 (upd H15 q16 (.lst [.ref a, v])) := s15.trans (same_new nq16)
  have bh15 := G12.bh.trans s15
  have a16 : At (upd H15 q16 (.lst [.ref a, v])) (.ref q16) (.list [intsD ns, intsD us]) := .lst upd_same (.cons ((hx3.up bh15).up (same_new nq16)) (.cons ((hv3.up bh15).up (same_new nq16)) .nil))
  refine ⟨_, _, rfl, a16.dp, smTU.shown (by decide) (by decide), _, rfl, rfl, _, rfl, iteNS rfl ?_⟩
  have G16 := G12.more s16
  have d16 := d12.up s16
  have e16 := s16 _ _ e12
  generalize upd H15 q16 (.lst [.ref a, v]) = H16 at G16 d16 e16
  -- the sum by the weights
  obtain ⟨pv, rfl, hpv⟩ := ints_ex hv3
  obtain ⟨D', eD, hpD⟩ := ints_ex h3
  cases eD
  refine ⟨_, rfl, q9, _, _, _, rfl, rfl, SqL.of e16, atI_nat (j := 0) rfl, ?_⟩
  refine ⟨_, rfl, _, rfl, pv, D, _, _, rfl, SqL.of (G16.bh _ _ hpv), SqL.of (G16.bh _ _ hpD), fun D2 hD2 => ?_⟩
  have lz : (List.zipWith (· * ·) us (wts ns f m)).length = ns.length := by rw [List.length_zipWith, wts_len, hlu2, Nat.min_self]
  refine lc_gen (walk_zip (K := K) (a := pv) (b := D) (xs := us.map V.int) (ys := (wts ns f m).map V.int) (n := ns.length) (by rw [List.length_map, List.length_map, wts_len, hlu2, Nat.min_self])) (fun i => .int ((List.zipWith (· * ·) us (wts ns f m)).getD i 0)) G16.bh hD2 (by omega)
    (fun H5 s5 => ⟨SqL.of (s5 _ _ (G16.bh _ _ hpv)), SqL.of (s5 _ _ (G16.bh _ _ hpD))⟩) same_YPair (fun i z B5 H5 H6 hi hy5 s1 s2 s3 fr R k => ?_) (fun B17 H17 g17 h17 => ?_)
  · obtain ⟨T1, z1, z2, rfl, nT, rfl, f1, f2⟩ := hy5
    obtain ⟨d, hdd, rfl⟩ := ex_int f1
    obtain ⟨c, hcc, rfl⟩ := ex_int f2
    have cb := wts_nonneg (show 0 < m by omega) (List.mem_of_getElem? hcc)
    refine ⟨T1, _, rfl, SqT.of upd_same, rfl, _, _, rfl, _, _, rfl, rfl, rfl, ?_⟩
    refine ⟨_, rfl, _, rfl, _, _, rfl, rfl, .inr ⟨by omega, by omega⟩, k _ _ _ (Grow.refl s2) ?_⟩
    have em : (List.zipWith (· * ·) us (wts ns f m)).getD i 0 = d * c := by
      rw [List.getD_eq_getElem?_getD, List.getElem?_zipWith, hcc, hdd]
      rfl
    rw [em]
    exact .int _
  rw [range_getD lz] at h17
  obtain ⟨D3, eD, hD17⟩ := ints_ex h17
  cases eD
  have ew : decide (V.int (dot (wts ns f m) us % m) = V.int ((List.zipWith (· * ·) us (wts ns f m)).sum % m)) = true := decide_eq_true (by rw [dot_comm]; rfl)
  refine ⟨D2, _, rfl, SqL.of (g17.bh _ _ hD17), _, rfl, _, _, rfl, rfl, (by show (0 : Int) < m; omega), rfl, _, rfl, ?_⟩
  dsimp only
  rw [ew]
  refine iteF ?_
  have G17 := G16.more g17.hh
  have d17 := d16.up g17.hh
  -- one weight
  obtain ⟨a', ea, ha3⟩ := ints_ex hx3
  cases ea
  have G18 : ∀ {H18 : Hp}, Turn p H17 H18 → GrowP p B H B3 H18 := fun t => G17.low t hBp3
  refine ⟨_, rfl, p, _, rfl, d17, by omega, fun z H18 z0 z1 tn d18 => .inl ⟨_, rfl, _, rfl, a, _, rfl, .inl (SqL.of ((G18 tn).bh _ _ ha3)), _, _, rfl, rfl, (by show (0 : Int) < ((ns.map V.int).length : Nat); rw [List.length_map]; omega), ?_⟩⟩
  replace G18 := G18 tn
  obtain ⟨k, hk, hkl⟩ : ∃ k : Nat, z % (((ns.map V.int).length : Nat) : Int) = (k : Int) ∧ k < ns.length := by
    rw [List.length_map]
    have e1 := Int.emod_nonneg z (show (ns.length : Int) ≠ 0 by omega)
    have e2 := Int.emod_lt_of_pos z (show (0 : Int) < ns.length by omega)
    exact ⟨(z % (ns.length : Int)).toNat, by omega, by omega⟩
  dsimp only
  rw [hk]
  refine ⟨by show 1 ≤ sizeLine; decide, fun r1 nr1 => ?_⟩
  refine ⟨_, rfl, r1, (k : Int), _, rfl, rfl, upd_same, by omega, by omega, ?_, fun r2 nr2 => ?_⟩
  · show 1 * (k : Int).toNat ≤ sizeLine
    exact Nat.le_of_lt (small1000 (by omega))
  have s2 := (same_new (o := .lst [.int 0]) nr1).trans (same_new (o := .lst (List.replicate (k : Int).toNat [V.int 0]).flatten) nr2)
  have e2 : upd (upd H18 r1 (.lst [.int 0])) r2 (.lst (List.replicate (k : Int).toNat [V.int 0]).flatten) r2 = some (.lst (List.replicate (k : Int).toNat [V.int 0]).flatten) := upd_same
  generalize upd (upd H18 r1 (.lst [.int 0])) r2 (.lst (List.replicate (k : Int).toNat [V.int 0]).flatten) = H20 at s2 e2
  refine ⟨by show 1 ≤ sizeLine; decide, fun r3 nr3 => ?_⟩
  refine ⟨r2, r3, _, _, rfl, rfl, same_new nr3 _ _ e2, upd_same, ?_, fun r4 nr4 => ?_⟩
  · rw [zeros_len]
    exact Nat.le_of_lt (small1000 (by simp only [List.length_singleton]; omega))
  have s4 := (s2.trans (same_new (o := .lst [.int 1]) nr3)).trans (same_new (o := .lst ((List.replicate (k : Int).toNat [V.int 0]).flatten ++ [.int 1])) nr4)
  have e4 : upd (upd H20 r3 (.lst [.int 1])) r4 (.lst ((List.replicate (k : Int).toNat [V.int 0]).flatten ++ [.int 1])) r4 = some (.lst ((List.replicate (k : Int).toNat [V.int 0]).flatten ++ [.int 1])) := upd_same
  generalize upd (upd H20 r3 (.lst [.int 1])) r4 (.lst ((List.replicate (k : Int).toNat [V.int 0]).flatten ++ [.int 1])) = H22 at s4 e4
  refine ⟨by show 1 ≤ sizeLine; decide, fun r5 nr5 => ?_⟩
  refine ⟨_, rfl, a, _, rfl, .inl (SqL.of (same_new nr5 _ _ (s4 _ _ (G18.bh _ _ ha3)))), _, _, rfl, rfl, _, rfl, _, _, rfl, rfl, ?_⟩
  rw [List.length_map]
  refine ⟨r5, (ns.length : Int) - 1 - k, _, rfl, rfl, upd_same, by omega, by omega, ?_, fun r6 nr6 => ?_⟩
  · show 1 * ((ns.length : Int) - 1 - k).toNat ≤ sizeLine
    exact Nat.le_of_lt (small1000 (by omega))
  have s6 := (s4.trans (same_new (o := .lst [.int 0]) nr5)).trans (same_new (o := .lst (List.replicate ((ns.length : Int) - 1 - k).toNat [V.int 0]).flatten) nr6)
  have e46 := same_new (o := .lst (List.replicate ((ns.length : Int) - 1 - k).toNat [V.int 0]).flatten) nr6 _ _ (same_new (o := .lst [.int 0]) nr5 _ _ e4)
  have e6 : upd (upd H22 r5 (.lst [.int 0])) r6 (.lst (List.replicate ((ns.length : Int) - 1 - k).toNat [V.int 0]).flatten) r6 = some (.lst (List.replicate ((ns.length : Int) - 1 - k).toNat [V.int 0]).flatten) := upd_same
  generalize upd (upd H22 r5 (.lst [.int 0])) r6 (.lst (List.replicate ((ns.length : Int) - 1 - k).toNat [V.int 0]).flatten) = H24 at s6 e46 e6
  refine ⟨r4, r6, _, _, rfl, rfl, e46, e6, ?_, fun r7 nr7 => ?_⟩
  · rw [List.length_append, zeros_len, zeros_len]
    exact Nat.le_of_lt (small1000 (by simp only [List.length_singleton]; omega))
  rw [unit_list]
  have G25 := (G18.more s6).add (o := .lst ((unit ns.length k).map V.int)) nr7
  have d25 := (d18.up s6).up (same_new (o := .lst ((unit ns.length k).map V.int)) nr7)
  have aU : At (upd B3 r7 (.lst ((unit ns.length k).map V.int))) (.ref r7) (intsD (unit ns.length k)) := ints_at upd_same
  have sB : Same B3 (upd B3 r7 (.lst ((unit ns.length k).map V.int))) := same_new ((G18.more s6).bh.free nr7)
  generalize upd B3 r7 (.lst ((unit ns.length k).map V.int)) = B25 at G25 aU sB
  generalize upd H24 r7 (.lst ((unit ns.length k).map V.int)) = H25 at G25 d25
  have hx25 := hx3.up sB
  refine ⟨_, rfl, _, rfl, _, rfl, _, rfl, B25, _, _, ns, unit ns.length k, f, m, rfl, G25.bh, hx25, aU, unit_len hkl, ht, hl, m0, m1, fun H26 s26 => ?_⟩
  obtain ⟨c, hc1, hc2⟩ := unit_at (f := f) (m := m) hkl
  refine ⟨_, rfl, _, rfl, D, _, _, _, rfl, rfl, SqL.of (s26 _ _ (G25.bh _ _ (sB _ _ hpD))), atI_nat (j := k) (v := V.int c) (by rw [List.getElem?_map, hc1]; rfl), rfl, _, rfl, ?_⟩
  rw [show decide (V.int (dot (wts ns f m) (unit ns.length k) % m) = V.int c) = true from decide_eq_true (by rw [hc2])]
  refine iteF ?_
  have G26 := G25.more s26
  have d26 := d25.up s26
  -- once more
  refine ⟨_, rfl, _, rfl, _, rfl, B25, _, ns, f, m, rfl, G26.bh, hx25, ht, hl, m0, m1, fun p27 B27 H27 np27 g27 h27 => ?_⟩
  refine ⟨_, _, rfl, (h27.up g27.bh).dp, smW.shown (by decide) (by decide), ?_⟩
  refine ⟨_, rfl, _, _, rfl, (((ints_at hpD).up (sB.trans G26.bh)).up g27.hh).dp, smW.shown (by decide) (by decide), ?_⟩
  refine ⟨rfl, ?_⟩
  rw [decide_eq_true rfl]
  exact q B27 H27 (G26.trans (g27.p p)) ((d26.up g27.hh).mono (by omega))
theorem Grow.back {B H H1 B2 H2 : Hp} (s : Same H H1) (g : Grow B H1 B2 H2) : Grow B H B2 H2 := ⟨g.bb, g.bh, s.trans g.hh, fun b hb e => g.fr b (ne_none_of s hb) e⟩
def sp_l_two_right (K : PySem.W.Frag) : Sp := fun vs H Q _ => ∃ (B : Hp) (p : Addr) (x y : V) (ns ms : List Int) (n f m : Int), vs = [.ref p, x, y, .int f, .int m] ∧ Same B H ∧ B p = Option.none ∧ DrawsAt H p n ∧ 0 ≤ n ∧ n ≤ 10000000 ∧ At B x (intsD ns) ∧ At B y (intsD ms) ∧ Tr ns ∧ Tr ms ∧ ms.length = ns.length ∧ ns.length ≤ 40 ∧ 1 ≤ m ∧ m ≤ 10000 ∧
  ∀ B2 H2, GrowP p B H B2 H2 → DrawsAt H2 p (n + 300) → Q (.bl true) H2
theorem ok_l_two_right {f : Addr} {fd : FuncData} (F : Fun K "_law_two_right" "_law_two_right" s_l_two_right f fd) (T : Bt mg) (D_weights : Callee P w K mg base CX0 4 "weights" ["tree", "factor", "modulus"] (sp_weights K)) (D_fold_numbers : Callee P w K mg base CX0 5 "fold_numbers" ["tree", "factor", "modulus", "values"] (sp_fold_numbers K)) (D__law_values : Callee P w K mg base CX0 2 "_law_values" ["_law_draws_here", "_law_many"] (sp_l_values K)) : FnG P w K mg base CX0 6 f fd ["_law_draws_here", "_law_row", "_law_other", "_law_step", "_law_by"] (sp_l_two_right K) := by
  refine okN F sc_l_two_right (fun vs H Q E h => ?_) (fun cdv A out s H vs Q E hc hr h => ?_)
  · obtain ⟨B, p, x, y, ns, ms, n, f, m, rfl, hB, hBp, hd, n0, n1, hx, hy, ht, hu, hlm, hl, m0, m1, q⟩ := h
    rfl
  obtain ⟨B, p, x, y, ns, ms, n, f, m, rfl, hB, hBp, hd, n0, n1, hx, hy, ht, hu, hlm, hl, m0, m1, q⟩ := h
  have hu200 := u200 hr
  have hu64 := hr.units
  refine ⟨_, (pss_cons (ps_set (i := 5) sc_l_two_right.nd rfl (.inl rfl) (pe_cmpR (k_eqD (K := K) rfl hu64) (pg_call D_weights.ok hc (hr.mono (by decide)) (by rfl) D_weights.mg D_weights.kp D_weights.bd pass0 (pa_cons (pv 1) (pa_cons (pv 3) (pa_cons (pv 4) pa_nil)))) (pg_call D_weights.ok hc (hr.mono (by decide)) (by rfl) D_weights.mg D_weights.kp D_weights.bd pass0 (pa_cons (pv 2) (pa_cons (pv 3) (pa_cons (pv 4) pa_nil)))) (nomark _)))
    (pss_cons (ps_for PassesOwn.never rfl (pi_range1 (by rfl) T.b_range (pa_cons pe_int pa_nil)) (pg_name (i := 6) sc_l_two_right.nd rfl (.inl rfl)) (pss_cons (ps_set (i := 7) sc_l_two_right.nd rfl (.inl rfl) (pg_call D__law_values.ok hc (hr.mono (by decide)) (by rfl) D__law_values.mg D__law_values.kp D__law_values.bd pass0 (pa_cons (pv 0) (pa_cons (pe_callB (k_len (K := K) rfl) (by rfl) T.b_len PySem.boot_len (pa_cons (pv 1) pa_nil)) pa_nil))))
    (pss_cons (ps_set (i := 8) sc_l_two_right.nd rfl (.inl rfl) (pe_lst (pa_cons (pg_call D_fold_numbers.ok hc (hr.mono (by decide)) (by rfl) D_fold_numbers.mg D_fold_numbers.kp D_fold_numbers.bd pass0 (pa_cons (pv 1) (pa_cons (pv 3) (pa_cons (pv 4) (pa_cons (pv 7) pa_nil))))) (pa_cons (pg_call D_fold_numbers.ok hc (hr.mono (by decide)) (by rfl) D_fold_numbers.mg D_fold_numbers.kp D_fold_numbers.bd pass0 (pa_cons (pv 2) (pa_cons (pv 3) (pa_cons (pv 4) (pa_cons (pv 7) pa_nil))))) pa_nil))))
    (pss_one (ps_if (PW.pt (pw_and (pt_val (pv 5)) (pw_and1 (pt_cmpR op_ne (pe_ix (kx_list (K := K) rfl) (pv 8) pe_int (fun _ _ => rfl)) (pe_ix (kx_list (K := K) rfl) (pv 8) pe_int (fun _ _ => rfl)) (nomark _))))) (pss_one (ps_ret pe_bl)) pss_nil)))))
    (pss_cons (ps_setLc (i := 9) (own := [("_law_at", 12)]) (g := (gName 12)) (tt := tYes) (by rfl) sc_l_two_right.nd rfl rfl (sw_true rfl rfl rfl (by decide +kernel)) (pi_range1 (by rfl) T.b_range (pa_cons (pe_callB (k_len (K := K) rfl) (by rfl) T.b_len PySem.boot_len (pa_cons (pv 1) pa_nil)) pa_nil)) (blkOk_by (own := [("_law_at", 12)]) (N := N_l_two_right) (sc := defScope s_l_two_right) (by decide +kernel)) (fun _ _ _ _ _ => (pg_name (i := 12) sc_l_two_right.nd rfl (.inl rfl))) (fun _ _ _ _ _ => pts_nil) (fun _ _ _ _ _ => (pe_op op_cat (pe_op op_cat (pe_op op_rep (pe_lst (pa_cons pe_int pa_nil)) (pv 12)) (pe_lst (pa_cons pe_int pa_nil))) (pe_op op_rep (pe_lst (pa_cons pe_int pa_nil)) (pe_op op_sub (pe_op op_sub (pe_callB (k_len (K := K) rfl) (by rfl) T.b_len PySem.boot_len (pa_cons (pv 1) pa_nil)) pe_int) (pv 12))))))
    (pss_cons (ps_setLc (i := 10) (own := [("_law_unit", 13)]) (g := (gName 13)) (tt := tYes) (by rfl) sc_l_two_right.nd rfl rfl (sw_true rfl rfl rfl (by decide +kernel)) (pi_list (pv 9)) (blkOk_by (own := [("_law_unit", 13)]) (N := N_l_two_right) (sc := defScope s_l_two_right) (by decide +kernel)) (fun _ _ _ _ _ => (pg_name (i := 13) sc_l_two_right.nd rfl (.inl rfl))) (fun _ _ _ _ _ => pts_nil) (fun _ _ _ _ _ => (pg_call D_fold_numbers.ok hc (hr.mono (by decide)) (by rfl) D_fold_numbers.mg D_fold_numbers.kp D_fold_numbers.bd pass0 (pa_cons (pv 1) (pa_cons (pv 3) (pa_cons (pv 4) (pa_cons (pv 13) pa_nil)))))))
    (pss_cons (ps_setLc (i := 11) (own := [("_law_unit", 13)]) (g := (gName 13)) (tt := tYes) (by rfl) sc_l_two_right.nd rfl rfl (sw_true rfl rfl rfl (by decide +kernel)) (pi_list (pv 9)) (blkOk_by (own := [("_law_unit", 13)]) (N := N_l_two_right) (sc := defScope s_l_two_right) (by decide +kernel)) (fun _ _ _ _ _ => (pg_name (i := 13) sc_l_two_right.nd rfl (.inl rfl))) (fun _ _ _ _ _ => pts_nil) (fun _ _ _ _ _ => (pg_call D_fold_numbers.ok hc (hr.mono (by decide)) (by rfl) D_fold_numbers.mg D_fold_numbers.kp D_fold_numbers.bd pass0 (pa_cons (pv 2) (pa_cons (pv 3) (pa_cons (pv 4) (pa_cons (pv 13) pa_nil)))))))
    (pss_one (ps_ret (pe_cmpR op_eq (pe_cmpR (k_eqD (K := K) rfl hu64) (pv 10) (pv 11) (nomark _)) (pv 5) (nomark _))))))))), ?_⟩

  obtain ⟨a, rfl, ha⟩ := ints_ex hx
  obtain ⟨b, rfl, hb⟩ := ints_ex hy
  have h0 := ht.pos
  have smW := wts_sm (f := f) hl m0 m1
  have smV := wts_sm (ns := ms) (f := f) (by omega) m0 m1
  refine ⟨_, rfl, _, rfl, _, rfl, B, _, ns, f, m, rfl, hB, hx, ht, hl, m0, m1, fun p1 B1 H1 np1 g1 h1 => ?_⟩
  refine ⟨_, rfl, _, rfl, _, rfl, B1, _, ms, f, m, rfl, g1.bh, hy.up g1.bb, hu, by omega, m0, m1, fun p2 B2 H2 np2 g2 h2 => q_eq g2.bh (h1.up g2.bb) h2 (smW.shaped (by decide)) (smV.shaped (by decide)) ?_⟩
  rw [eqv_ints]
  have G2 := (g1.trans g2).p p
  have d2 := hd.up (g1.trans g2).hh
  obtain ⟨al, hal⟩ : ∃ al, al = decide (wts ns f m = wts ms f m) := ⟨_, rfl⟩
  rw [← hal]
  refine ⟨3, rfl, by omega, by omega, for_range (lo := 0) (n := 3) (fun i σ H3 => ∃ B3 x6 x7 x8, σ = [some (.ref p), some (.ref a), some (.ref b), some (.int f), some (.int m), some (.bl al), x6, x7, x8, none, none, none, none, none] ∧ GrowP p B H B3 H3 ∧ DrawsAt H3 p (n + 90 * i))
    ⟨B2, none, none, none, rfl, G2, d2.mono (by omega)⟩ ?_ ?_⟩
  · rintro i σ H3 hi ⟨B3, x6, x7, x8, rfl, G3, d3⟩
    have hx3 := hx.up G3.bb
    have hy3 := hy.up G3.bb
    refine ⟨_, rfl, _, rfl, a, _, rfl, .inl (SqL.of (G3.bh _ _ (G3.bb _ _ ha))), B3, p, _, ns.length, by rw [List.length_map]; rfl, G3.bh, G3.free hd.some hBp, d3, by omega, by omega, by omega, by omega, fun v us B4 H4 hlu hub G4 d4 hv => ?_⟩
    have hlu2 : us.length = ns.length := by omega
    have hx4 := hx3.up G4.bb
    have hy4 := hy3.up G4.bb
    refine ⟨_, rfl, _, rfl, _, rfl, _, rfl, B4, _, _, ns, us, f, m, rfl, G4.bh, hx4, hv, hlu2, ht, hl, m0, m1, fun H5 s5 => ?_⟩
    refine ⟨_, rfl, _, rfl, _, rfl, _, rfl, B4, _, _, ms, us, f, m, rfl, G4.bh.trans s5, hy4, hv, by omega, hu, by omega, m0, m1, fun H6 s6 => ⟨by show 2 ≤ sizeLine; decide, fun q7 nq7 => ?_⟩⟩
    have G7 := ((G3.trans G4).more (s5.trans s6)).more (same_new (o := .lst [.int (dot (wts ns f m) us % m), .int (dot (wts ms f m) us % m)]) nq7)
    have d7 := (d4.up (s5.trans s6)).up (same_new (o := .lst [.int (dot (wts ns f m) us % m), .int (dot (wts ms f m) us % m)]) nq7)
    have e7 : upd H6 q7 (.lst [.int (dot (wts ns f m) us % m), .int (dot (wts ms f m) us % m)]) q7 = some (.lst [.int (dot (wts ns f m) us % m), .int (dot (wts ms f m) us % m)]) := upd_same
    generalize upd H6 q7 (.lst [.int (dot (wts ns f m) us % m), .int (dot (wts ms f m) us % m)]) = H7 at G7 d7 e7
    refine ⟨_, rfl, _, rfl, ite2 (fun c => ?_) (fun c => ?_)⟩
    · have ew : wts ns f m = wts ms f m := by
        rw [hal] at c
        exact of_decide_eq_true c
      refine ⟨_, rfl, q7, _, _, _, rfl, rfl, SqL.of e7, atI_nat (j := 0) rfl, _, rfl, q7, _, _, _, rfl, rfl, SqL.of e7, atI_nat (j := 1) rfl, rfl, _, rfl, ?_⟩
      rw [show decide (V.int (dot (wts ns f m) us % m) = V.int (dot (wts ms f m) us % m)) = true from decide_eq_true (by rw [ew])]
      exact iteF ⟨_, _, _, _, rfl, G7, d7.mono (by omega)⟩
    · exact ⟨_, _, _, _, rfl, G7, d7.mono (by omega)⟩
  rintro σ H3 ⟨B3, x6, x7, x8, rfl, G3, d3⟩
  have hx3 := hx.up G3.bb
  have hy3 := hy.up G3.bb
  have ha3 := G3.bb _ _ ha
  have len : (((ns.map V.int).length : Nat) : Int) = (ns.length : Int) := by rw [List.length_map]
  -- the units
  refine ⟨_, rfl, a, _, rfl, .inl (SqL.of (G3.bh _ _ ha3)), _, rfl, by rw [len]; omega, by rw [len]; omega, fun D hD => ?_⟩
  rw [List.length_map]
  refine lc_rng (lo := 0) (n := ((ns.length : Int)).toNat) (fun k => intsD (unit ns.length k)) G3.bh hD (by omega) (fun k B4 H4 hk s1 s2 s3 fr R kk => ?_) (fun B4 H4 g4 h4 => ?_)
  · rw [show (0 : Int) + (k : Int) = (k : Int) by omega]
    have hkl : k < ns.length := by omega
    refine ⟨rfl, by show 1 ≤ sizeLine; decide, fun r1 nr1 => ?_⟩
    refine ⟨_, rfl, r1, (k : Int), _, rfl, rfl, upd_same, by omega, by omega, ?_, fun r2 nr2 => ?_⟩
    · show 1 * (k : Int).toNat ≤ sizeLine
      exact Nat.le_of_lt (small1000 (by omega))
    have t2 := (same_new (o := .lst [.int 0]) nr1).trans (same_new (o := .lst (List.replicate (k : Int).toNat [V.int 0]).flatten) nr2)
    have e2 : upd (upd H4 r1 (.lst [.int 0])) r2 (.lst (List.replicate (k : Int).toNat [V.int 0]).flatten) r2 = some (.lst (List.replicate (k : Int).toNat [V.int 0]).flatten) := upd_same
    generalize upd (upd H4 r1 (.lst [.int 0])) r2 (.lst (List.replicate (k : Int).toNat [V.int 0]).flatten) = H20 at t2 e2
    refine ⟨by show 1 ≤ sizeLine; decide, fun r3 nr3 => ?_⟩
    refine ⟨r2, r3, _, _, rfl, rfl, same_new nr3 _ _ e2, upd_same, ?_, fun r4 nr4 => ?_⟩
    · rw [zeros_len]
      exact Nat.le_of_lt (small1000 (by simp only [List.length_singleton]; omega))
    have t4 := (t2.trans (same_new (o := .lst [.int 1]) nr3)).trans (same_new (o := .lst ((List.replicate (k : Int).toNat [V.int 0]).flatten ++ [.int 1])) nr4)
    have e4 : upd (upd H20 r3 (.lst [.int 1])) r4 (.lst ((List.replicate (k : Int).toNat [V.int 0]).flatten ++ [.int 1])) r4 = some (.lst ((List.replicate (k : Int).toNat [V.int 0]).flatten ++ [.int 1])) := upd_same
    generalize upd (upd H20 r3 (.lst [.int 1])) r4 (.lst ((List.replicate (k : Int).toNat [V.int 0]).flatten ++ [.int 1])) = H22 at t4 e4
    refine ⟨by show 1 ≤ sizeLine; decide, fun r5 nr5 => ?_⟩
    refine ⟨_, rfl, a, _, rfl, .inl (SqL.of (same_new nr5 _ _ (t4 _ _ (s3 _ _ (G3.bh _ _ ha3))))), _, _, rfl, rfl, _, rfl, _, _, rfl, rfl, ?_⟩
    rw [List.length_map]
    refine ⟨r5, (ns.length : Int) - 1 - k, _, rfl, rfl, upd_same, by omega, by omega, ?_, fun r6 nr6 => ?_⟩
    · show 1 * ((ns.length : Int) - 1 - k).toNat ≤ sizeLine
      exact Nat.le_of_lt (small1000 (by omega))
    have t6 := (t4.trans (same_new (o := .lst [.int 0]) nr5)).trans (same_new (o := .lst (List.replicate ((ns.length : Int) - 1 - k).toNat [V.int 0]).flatten) nr6)
    have e46 := same_new (o := .lst (List.replicate ((ns.length : Int) - 1 - k).toNat [V.int 0]).flatten) nr6 _ _ (same_new (o := .lst [.int 0]) nr5 _ _ e4)
    have e6 : upd (upd H22 r5 (.lst [.int 0])) r6 (.lst (List.replicate ((ns.length : Int) - 1 - k).toNat [V.int 0]).flatten) r6 = some (.lst (List.replicate ((ns.length : Int) - 1 - k).toNat [V.int 0]).flatten) := upd_same
    generalize upd (upd H22 r5 (.lst [.int 0])) r6 (.lst (List.replicate ((ns.length : Int) - 1 - k).toNat [V.int 0]).flatten) = H24 at t6 e46 e6
    refine ⟨r4, r6, _, _, rfl, rfl, e46, e6, ?_, fun r7 nr7 => ?_⟩
    · rw [List.length_append, zeros_len, zeros_len]
      exact Nat.le_of_lt (small1000 (by simp only [List.length_singleton]; omega))
    rw [unit_list]
    exact kk _ _ _ (Grow.back t6 (Grow.new (s2.trans t6) nr7)) (ints_at upd_same)
  obtain ⟨D', xs, eD, hDs, hxs⟩ := At.lst_ex h4
  cases eD
  have lxs : xs.length = ns.length := by rw [hxs.length, List.length_map, List.length_range]; omega
  have G4 := G3.trans (g4.p p)
  have d4 := d3.up g4.hh
  have what : ∀ {i : Nat} {d : PyData}, ((List.range ((ns.length : Int)).toNat).map fun k => intsD (unit ns.length k))[i]? = some d → i < ns.length ∧ d = intsD (unit ns.length i) := fun {i d} h => by
    have hi := (List.getElem?_eq_some_iff.mp h).1
    rw [List.length_map, List.length_range] at hi
    rw [List.getElem?_map, List.getElem?_range hi] at h
    exact ⟨by omega, (Option.some.inj h).symm⟩
  -- by the one tree
  refine ⟨_, rfl, D, rfl, ⟨_, SqL.of (G4.bh _ _ hDs)⟩, fun D5 hD5 => ?_⟩
  refine lc_gen (walk_list (K := K) (a := D) (xs := xs)) (fun i => .int ((wts ns f m).getD i 0)) G4.bh hD5 (by omega)
    (fun H5 s => s.seq (SqL.of (G4.bh _ _ hDs))) same_YAt (fun i z B5 H5 H6 hi hy5 s1 s2 s3 fr R k => ?_) (fun B5 H5 g5 h5 => ?_)
  · obtain ⟨rfl, hz⟩ := hy5
    obtain ⟨d, hd2, az⟩ := hxs.get2 hz
    obtain ⟨hin, rfl⟩ := what hd2
    obtain ⟨c, hc1, hc2⟩ := unit_at (f := f) (m := m) hin
    refine ⟨rfl, _, rfl, _, rfl, _, rfl, _, rfl, B5, _, _, ns, unit ns.length i, f, m, rfl, s2, (hx3.up g4.bb).up s1, az.up s1, unit_len hin, ht, hl, m0, m1, fun H7 s7 => k _ B5 H7 ⟨Same.refl _, s2.trans s7, s7, fun _ _ h => h⟩ ?_⟩
    rw [hc2, show (wts ns f m).getD i 0 = c by rw [List.getD_eq_getElem?_getD, hc1]; rfl]
    exact .int _
  rw [range_getD (by rw [wts_len, lxs])] at h5
  have hDs5 := g5.bb _ _ hDs
  -- by the other one
  refine ⟨_, rfl, D, rfl, ⟨_, SqL.of (g5.bh _ _ hDs5)⟩, fun D6 hD6 => ?_⟩
  refine lc_gen (walk_list (K := K) (a := D) (xs := xs)) (fun i => .int ((wts ms f m).getD i 0)) g5.bh hD6 (by omega)
    (fun H5 s => s.seq (SqL.of (g5.bh _ _ hDs5))) same_YAt (fun i z B7 H7 H6 hi hy5 s1 s2 s3 fr R k => ?_) (fun B6 H6 g6 h6 => ?_)
  · obtain ⟨rfl, hz⟩ := hy5
    obtain ⟨d, hd2, az⟩ := hxs.get2 hz
    obtain ⟨hin, rfl⟩ := what hd2
    obtain ⟨c, hc1, hc2⟩ := unit_at (ns := ms) (f := f) (m := m) (k := i) (by omega)
    rw [hlm] at hc2
    refine ⟨rfl, _, rfl, _, rfl, _, rfl, _, rfl, B7, _, _, ms, unit ns.length i, f, m, rfl, s2, ((hy3.up g4.bb).up g5.bb).up s1, (az.up g5.bb).up s1, by rw [unit_len hin, hlm], hu, by omega, m0, m1, fun H8 s8 => k _ B7 H8 ⟨Same.refl _, s2.trans s8, s8, fun _ _ h => h⟩ ?_⟩
    rw [hc2, show (wts ms f m).getD i 0 = c by rw [List.getD_eq_getElem?_getD, hc1]; rfl]
    exact .int _
  rw [range_getD (by rw [wts_len, lxs, hlm])] at h6
  refine ⟨_, rfl, _, rfl, q_eq g6.bh (h5.up g6.bb) h6 (smW.shaped (by decide)) (smV.shaped (by decide)) ?_⟩
  rw [eqv_ints, ← hal]
  refine ⟨_, rfl, rfl, ?_⟩
  rw [decide_eq_true rfl]
  exact q B6 H6 ((G4.trans (g5.p p)).trans (g6.p p)) (((d4.up g5.hh).up g6.hh).mono (by omega))
/-- what the list of all draws is: the objects apart, none used yet -/
structure Piles (H : Hp) (D : Addr) (ps : List Addr) : Prop where
  at0 : H D = some (.lst (ps.map V.ref))
  nd : ps.Nodup
  out : D ∉ ps
theorem cells_cut {ns : List Int} {k : Nat} : cutV (ns.map V.int) none (some (k : Int)) ++ [V.int 0] = (ns.take k ++ [0]).map V.int := by
  rw [cut_upto, List.map_append, List.map_take]
  rfl

def sp_law (K : PySem.W.Frag) : Sp := fun vs H Q _ => ∃ (a : Addr) (ns : List Int), vs = [.ref a] ∧ SqL K H a (ns.map V.int) ∧ ns.length ≤ 63 ∧ ∀ H2, Q (.bl true) H2
theorem ok_law {f : Addr} {fd : FuncData} (F : Fun K "law" "law" s_law f fd) (T : Bt mg) (D_weights : Callee P w K mg base CX0 4 "weights" ["tree", "factor", "modulus"] (sp_weights K)) (D_fold_numbers : Callee P w K mg base CX0 5 "fold_numbers" ["tree", "factor", "modulus", "values"] (sp_fold_numbers K)) (D__law_draws : Callee P w K mg base CX0 1 "_law_draws" ["_law_cell"] (sp_l_draws K)) (D__law_next : Callee P w K mg base CX0 1 "_law_next" ["_law_draws_here"] (sp_l_next K)) (D__law_tree : Callee P w K mg base CX0 2 "_law_tree" ["_law_draws_here", "_law_many"] (sp_l_tree K)) (D__law_right : Callee P w K mg base CX0 43 "_law_right" ["_law_draws_here", "_law_row", "_law_step", "_law_by"] (sp_l_right K)) (D__law_two_right : Callee P w K mg base CX0 6 "_law_two_right" ["_law_draws_here", "_law_row", "_law_other", "_law_step", "_law_by"] (sp_l_two_right K)) : FnG P w K mg base CX0 44 f fd ["_law_script"] (sp_law K) := by
  refine okN F sc_law (fun vs H Q E h => ?_) (fun cdv A out s H vs Q E hc hr h => ?_)
  · obtain ⟨a, ns, rfl, hS, hlen, q⟩ := h
    rfl
  obtain ⟨a, ns, rfl, hS, hlen, q⟩ := h
  have hu200 := u200 hr
  have hu64 := hr.units
  refine ⟨_, (pss_cons (ps_for PassesOwn.never rfl (pi_list (pe_lc (own := [("_law_cell", 10)]) (g := (gName 10)) (tt := tYes) (by rfl) sc_law.nd (pi_list (pe_op op_cat (pe_slice (k_sl (K := K) rfl) (pv 0) po_none (po_some pe_int)) (pe_lst (pa_cons pe_int pa_nil)))) (blkOk_by (own := [("_law_cell", 10)]) (N := N_law) (sc := defScope s_law) (by decide +kernel)) (fun _ _ _ _ _ => (pg_name (i := 10) sc_law.nd rfl (.inl rfl))) (fun _ _ _ _ _ => pts_nil) (fun _ _ _ _ _ => (pg_call D__law_draws.ok hc (hr.mono (by decide)) (by rfl) D__law_draws.mg D__law_draws.kp D__law_draws.bd pass0 (pa_cons (pv 10) pa_nil))))) (pg_name (i := 1) sc_law.nd rfl (.inl rfl)) (pss_cons (ps_set (i := 2) sc_law.nd rfl (.inl rfl) (pe_op op_add pe_int (pe_op op_mod (pe_callTy call_int1 (by rfl) T.b_int (by decide +kernel) (pa_cons (pg_call D__law_next.ok hc (hr.mono (by decide)) (by rfl) D__law_next.mg D__law_next.kp D__law_next.bd pass0 (pa_cons (pv 1) pa_nil)) pa_nil)) pe_int)))
    (pss_cons (ps_set (i := 3) sc_law.nd rfl (.inl rfl) (pe_op op_mul (pe_op op_sub (pe_op op_mod (pe_callTy call_int1 (by rfl) T.b_int (by decide +kernel) (pa_cons (pg_call D__law_next.ok hc (hr.mono (by decide)) (by rfl) D__law_next.mg D__law_next.kp D__law_next.bd pass0 (pa_cons (pv 1) pa_nil)) pa_nil)) (pe_op op_powW pe_int pe_int)) pe_int) (pe_ix (kx_list (K := K) rfl) (pe_lst (pa_cons pe_int (pa_cons (pe_op op_powW pe_int pe_int) pa_nil))) (pe_op op_mod (pe_callTy call_int1 (by rfl) T.b_int (by decide +kernel) (pa_cons (pg_call D__law_next.ok hc (hr.mono (by decide)) (by rfl) D__law_next.mg D__law_next.kp D__law_next.bd pass0 (pa_cons (pv 1) pa_nil)) pa_nil)) pe_int) (fun _ _ => rfl))))
    (pss_cons (ps_par (i := 4) (j := 5) (by rfl) sc_law.nd rfl rfl (by decide) rfl rfl (pa_cons (pe_op op_add pe_int (pe_op op_mod (pe_callTy call_int1 (by rfl) T.b_int (by decide +kernel) (pa_cons (pg_call D__law_next.ok hc (hr.mono (by decide)) (by rfl) D__law_next.mg D__law_next.kp D__law_next.bd pass0 (pa_cons (pv 1) pa_nil)) pa_nil)) pe_int)) (pa_cons (pe_op op_add pe_int (pe_op op_mod (pe_callTy call_int1 (by rfl) T.b_int (by decide +kernel) (pa_cons (pg_call D__law_next.ok hc (hr.mono (by decide)) (by rfl) D__law_next.mg D__law_next.kp D__law_next.bd pass0 (pa_cons (pv 1) pa_nil)) pa_nil)) pe_int)) pa_nil)) (by rfl))
    (pss_cons (ps_set (i := 6) sc_law.nd rfl (.inl rfl) (pe_ix (kx_list (K := K) rfl) (pe_lst (pa_cons (pv 4) (pa_cons (pv 5) pa_nil))) (pe_op op_mod (pe_callTy call_int1 (by rfl) T.b_int (by decide +kernel) (pa_cons (pg_call D__law_next.ok hc (hr.mono (by decide)) (by rfl) D__law_next.mg D__law_next.kp D__law_next.bd pass0 (pa_cons (pv 1) pa_nil)) pa_nil)) pe_int) (fun _ _ => rfl)))
    (pss_cons (ps_par (i := 7) (j := 8) (by rfl) sc_law.nd rfl rfl (by decide) rfl rfl (pa_cons (pg_call D__law_tree.ok hc (hr.mono (by decide)) (by rfl) D__law_tree.mg D__law_tree.kp D__law_tree.bd pass0 (pa_cons (pv 1) (pa_cons (pv 2) pa_nil))) (pa_cons (pg_call D__law_tree.ok hc (hr.mono (by decide)) (by rfl) D__law_tree.mg D__law_tree.kp D__law_tree.bd pass0 (pa_cons (pv 1) (pa_cons (pv 2) pa_nil))) pa_nil)) (by rfl))
    (pss_cons (ps_if (pt_not (pt_val (pg_call D__law_right.ok hc (hr.mono (by decide)) (by rfl) D__law_right.mg D__law_right.kp D__law_right.bd pass0 (pa_cons (pv 1) (pa_cons (pv 7) (pa_cons (pv 3) (pa_cons (pv 6) pa_nil))))))) (pss_one (ps_ret pe_bl)) pss_nil)
    (pss_cons (ps_if (pt_not (pt_val (pg_call D__law_two_right.ok hc (hr.mono (by decide)) (by rfl) D__law_two_right.mg D__law_two_right.kp D__law_two_right.bd pass0 (pa_cons (pv 1) (pa_cons (pv 7) (pa_cons (pv 8) (pa_cons (pv 3) (pa_cons (pv 6) pa_nil)))))))) (pss_one (ps_ret pe_bl)) pss_nil)
    (pss_cons (ps_set (i := 4) sc_law.nd rfl (.inl rfl) (pe_op op_add pe_int (pe_op op_mod (pv 2) pe_int)))
    (pss_cons (ps_par (i := 7) (j := 8) (by rfl) sc_law.nd rfl rfl (by decide) rfl rfl (pa_cons (pg_call D__law_tree.ok hc (hr.mono (by decide)) (by rfl) D__law_tree.mg D__law_tree.kp D__law_tree.bd pass0 (pa_cons (pv 1) (pa_cons (pv 4) pa_nil))) (pa_cons (pg_call D__law_tree.ok hc (hr.mono (by decide)) (by rfl) D__law_tree.mg D__law_tree.kp D__law_tree.bd pass0 (pa_cons (pv 1) (pa_cons (pv 4) pa_nil))) pa_nil)) (by rfl))
    (pss_one (ps_if (pt_not (pt_val (pg_call D__law_two_right.ok hc (hr.mono (by decide)) (by rfl) D__law_two_right.mg D__law_two_right.kp D__law_two_right.bd pass0 (pa_cons (pv 1) (pa_cons (pv 7) (pa_cons (pv 8) (pa_cons (pe_un un_neg pe_int) (pa_cons (pv 6) pa_nil)))))))) (pss_one (ps_ret pe_bl)) pss_nil))))))))))))
    (pss_cons (ps_set (i := 9) sc_law.nd rfl (.inl rfl) (pe_op op_powW pe_int pe_int))
    (pss_cons (ps_if (PW.pt (pw_or (pt_cmpR op_ne (pg_call D_fold_numbers.ok hc (hr.mono (by decide)) (by rfl) D_fold_numbers.mg D_fold_numbers.kp D_fold_numbers.bd pass0 (pa_cons (pe_lst (pa_cons pe_int (pa_cons pe_int pa_nil))) (pa_cons (pe_op op_sub (pe_un un_neg (pv 9)) pe_int) (pa_cons pe_int (pa_cons (pe_lst (pa_cons (pe_op op_add (pv 9) pe_int) (pa_cons (pe_op op_sub (pe_un un_neg (pv 9)) pe_int) pa_nil))) pa_nil))))) pe_int (nomark _)) (pw_or1 (pt_cmpR op_ne (pg_call D_fold_numbers.ok hc (hr.mono (by decide)) (by rfl) D_fold_numbers.mg D_fold_numbers.kp D_fold_numbers.bd pass0 (pa_cons (pe_lst (pa_cons pe_int pa_nil)) (pa_cons pe_int (pa_cons pe_int (pa_cons (pe_lst (pa_cons (pe_op op_sub (pe_un un_neg (pv 9)) pe_int) pa_nil)) pa_nil))))) pe_int (nomark _))))) (pss_one (ps_ret pe_bl)) pss_nil)
    (pss_cons (ps_if (PW.pt (pw_or (pt_cmpR op_ne (pg_call D_fold_numbers.ok hc (hr.mono (by decide)) (by rfl) D_fold_numbers.mg D_fold_numbers.kp D_fold_numbers.bd pass0 (pa_cons (pe_lst (pa_cons pe_int (pa_cons pe_int (pa_cons pe_int pa_nil)))) (pa_cons (pe_un un_neg pe_int) (pa_cons pe_int (pa_cons (pe_lst (pa_cons pe_int (pa_cons pe_int (pa_cons pe_int pa_nil)))) pa_nil))))) pe_int (nomark _)) (pw_or1 (pt_cmpR (k_neD (K := K) rfl hu64) (pg_call D_weights.ok hc (hr.mono (by decide)) (by rfl) D_weights.mg D_weights.kp D_weights.bd pass0 (pa_cons (pe_lst (pa_cons pe_int (pa_cons pe_int (pa_cons pe_int pa_nil)))) (pa_cons (pe_un un_neg pe_int) (pa_cons pe_int pa_nil)))) (pe_lst (pa_cons pe_int (pa_cons pe_int (pa_cons pe_int pa_nil)))) (nomark _))))) (pss_one (ps_ret pe_bl)) pss_nil)
    (pss_one (ps_ret (pe_and (pe_cmpR op_eq (pg_call D_fold_numbers.ok hc (hr.mono (by decide)) (by rfl) D_fold_numbers.mg D_fold_numbers.kp D_fold_numbers.bd pass0 (pa_cons (pe_lst (pa_cons pe_int pa_nil)) (pa_cons pe_int (pa_cons pe_int (pa_cons (pe_lst (pa_cons (pe_un un_neg pe_int) pa_nil)) pa_nil))))) pe_int (nomark _)) (pe_one (pe_cmpR (k_eqD (K := K) rfl hu64) (pg_call D_weights.ok hc (hr.mono (by decide)) (by rfl) D_weights.mg D_weights.kp D_weights.bd pass0 (pa_cons (pe_lst (pa_cons pe_int pa_nil)) (pa_cons pe_int (pa_cons pe_int pa_nil)))) (pe_lst (pa_cons pe_int pa_nil)) (nomark _)))))))))), ?_⟩

  have hB0 : ∀ H : Hp, Same (fun _ => Option.none) H := fun H b o e => nomatch e
  refine ⟨_, rfl, 6, rfl, a, ns.map V.int, rfl, hS, fun p1 np1 => ?_⟩
  refine ⟨by show 1 ≤ sizeLine; decide, fun p2 np2 => ?_⟩
  refine ⟨p1, p2, _, _, rfl, rfl, same_new np2 _ _ upd_same, upd_same, ?_, fun p3 np3 => ?_⟩
  · have := cutV_length (ns.map V.int) none (some 6)
    rw [List.length_map] at this
    exact Nat.le_of_lt (small1000 (by simp only [List.length_singleton]; omega))
  have h3 : upd (upd (upd H p1 (.lst (cutV (ns.map V.int) none (some 6)))) p2 (.lst [.int 0])) p3 (.lst (cutV (ns.map V.int) none (some 6) ++ [.int 0])) p3 = some (.lst ((ns.take 6 ++ [0]).map V.int)) := by
    rw [upd_same]
    exact congrArg (fun z => some (HO.lst z)) (cells_cut (k := 6))
  generalize upd (upd (upd H p1 (.lst (cutV (ns.map V.int) none (some 6)))) p2 (.lst [.int 0])) p3 (.lst (cutV (ns.map V.int) none (some 6) ++ [.int 0])) = H3 at h3
  have hcl : (ns.take 6 ++ [0]).length ≤ 7 := by
    rw [List.length_append, List.length_take]
    simp only [List.length_singleton]
    omega
  generalize ns.take 6 ++ [0] = cs at h3 hcl
  -- the piles
  refine ⟨p3, rfl, ⟨_, SqL.of h3⟩, fun D hD => ?_⟩
  refine lc_list (K := K) (a := p3) (xs := cs.map V.int) (fun i H4 => ∃ ps : List Addr, ps.length = i ∧ Piles H4 D ps ∧ (∀ x ∈ ps, DrawsAt H4 x 0) ∧ Same H3 H4)
    ⟨[], rfl, ⟨upd_same, List.nodup_nil, List.not_mem_nil⟩, (fun _ h => nomatch h), same_new hD⟩ (fun i H4 _ ⟨_, _, _, _, s⟩ => SqL.of (s _ _ h3)) ?_ ?_
  · rintro i x H4 hi ⟨ps, hl, pl, dr, s⟩
    obtain ⟨c, hc, rfl⟩ := ex_int hi
    refine ⟨rfl, ?_⟩
    dsimp only [tYes]
    rw [if_pos rfl]
    refine ⟨_, rfl, c, rfl, fun r H5 s5 nr d5 => ?_⟩
    have hi2 := (List.getElem?_eq_some_iff.mp hc).1
    have rps : r ∉ ps := fun m => (dr r m).some nr
    have rD : r ≠ D := fun e => by rw [e, pl.at0] at nr; cases nr
    refine ⟨_, s5 _ _ pl.at0, by rw [List.length_map]; exact small1000 (by omega), ps ++ [r], by simp [hl], ⟨by rw [upd_same, List.map_append]; rfl, ?_, ?_⟩, fun x hx => ?_, fun b o e => ?_⟩
    · exact List.nodup_append.mpr ⟨pl.nd, by simp, fun x hx y hy => by
        rw [List.mem_singleton] at hy
        rintro rfl
        exact rps (by rw [← hy]; exact hx)⟩
    · intro m
      rcases List.mem_append.mp m with m | m
      · exact pl.out m
      · rw [List.mem_singleton] at m
        exact rD m.symm
    · rcases List.mem_append.mp hx with m | m
      · exact ((dr x m).up s5).other (Turn.upd (p := D) (s5 _ _ pl.at0)) fun e => pl.out (by rw [← e]; exact m)
      · rw [List.mem_singleton] at m
        rw [m]
        exact d5.other (Turn.upd (p := D) (s5 _ _ pl.at0)) rD
    · rw [upd_ne (ne_of_none e hD)]
      exact s5 _ _ (s b o e)
  rintro H4 ⟨ps, hl, pl, dr, s4⟩
  refine ⟨D, rfl, ⟨_, SqL.of pl.at0⟩, ?_⟩
  refine for_list (K := K) (a := D) (xs := ps.map V.ref) (fun i σ H5 => ∃ x1 x2 x3 x4 x5 x6 x7 x8, σ = [some (.ref a), x1, x2, x3, x4, x5, x6, x7, x8, none, none] ∧ Piles H5 D ps ∧ ∀ j y, i ≤ j → ps[j]? = some y → DrawsAt H5 y 0)
    ⟨none, none, none, none, none, none, none, none, rfl, pl, fun j y _ h => dr y (List.mem_of_getElem? h)⟩ (fun i σ H5 _ ⟨_, _, _, _, _, _, _, _, _, p, _⟩ => SqL.of p.at0) ?_ ?_
  · rintro i x σ H5 hi ⟨x1, x2, x3, x4, x5, x6, x7, x8, rfl, pl5, dr5⟩
    obtain ⟨y, hy, rfl⟩ : ∃ y, ps[i]? = some y ∧ x = V.ref y := by
      rw [List.getElem?_map] at hi
      cases z : ps[i]? with
      | none => rw [z] at hi; cases hi
      | some d => rw [z] at hi; exact ⟨d, rfl, (Option.some.inj hi).symm⟩
    have hyD : D ≠ y := fun e => pl5.out (by rw [e]; exact List.mem_of_getElem? hy)
    have later : ∀ (H6 H7 : Hp), Turn y H6 H7 → (∀ j z, i + 1 ≤ j → ps[j]? = some z → DrawsAt H6 z 0) → ∀ j z, i + 1 ≤ j → ps[j]? = some z → DrawsAt H7 z 0 := fun H6 H7 t h j z hj hz =>
      (h j z hj hz).other t fun e => by
        have := nd_ix pl5.nd hz (by rw [e]; exact hy)
        omega
    have pileT : ∀ (H6 H7 : Hp), Turn y H6 H7 → Piles H6 D ps → Piles H7 D ps := fun H6 H7 t h => ⟨t.hh _ _ hyD h.at0, h.nd, h.out⟩
    have d5 := dr5 i y (Nat.le_refl _) hy
    -- how many, the factor
    refine ⟨_, rfl, y, _, rfl, d5, by omega, fun u H6 u0 u1 t6 d6 => .inl ⟨_, rfl, _, _, rfl, rfl, (by show (0 : Int) < _; decide), _, _, rfl, rfl, ?_⟩⟩
    refine ⟨_, rfl, y, _, rfl, d6, by omega, fun w H7 w0 w1 t7 d7 => .inl ⟨_, rfl, _, _, rfl, rfl, ⟨by decide, by decide +kernel⟩, _, _, rfl, rfl, (by show (0 : Int) < 10 ^ Int.toNat 6; decide), _, _, rfl, rfl, ?_⟩⟩
    refine ⟨_, _, rfl, rfl, ⟨by decide, by decide +kernel⟩, by show 2 ≤ sizeLine; decide, fun q8 nq8 => ?_⟩
    have t8 : Turn y H5 (upd H7 q8 (.lst [.int 1, .int (10 ^ (13 : Int).toNat)])) := (t6.trans t7).trans (Turn.same (same_new nq8))
    have d8 := d7.up (same_new (o := .lst [.int 1, .int (10 ^ (13 : Int).toNat)]) nq8)
    have e8 : upd H7 q8 (.lst [.int 1, .int (10 ^ (13 : Int).toNat)]) q8 = some (.lst [.int 1, .int (10 ^ (13 : Int).toNat)]) := upd_same
    have y8 : q8 ≠ y := fun e => d7.some (by rw [← e]; exact nq8)
    refine ⟨_, rfl, y, _, rfl, d8, by omega, fun s H9 s0 s1 t9 d9 => .inl ⟨_, rfl, _, _, rfl, rfl, (by show (0 : Int) < _; decide), ?_⟩⟩
    obtain ⟨far, hfar, _⟩ := pick2i (a := 1) (b := 10 ^ (13 : Int).toNat) (sh := s % 2) (by omega) (by omega) (P := fun x => x = 1 ∨ x = 10 ^ 13) (.inl rfl) (.inr rfl)
    refine ⟨q8, _, _, _, rfl, rfl, SqL.of (t9.hh _ _ y8 e8), hfar, ?_⟩
    have e6 : (10 : Int) ^ Int.toNat 6 = 1000000 := by decide
    dsimp only
    rw [e6]
    refine ⟨_, _, rfl, rfl, .inl ⟨by omega, by omega⟩, ?_⟩
    dsimp only
    generalize (w % 1000000 - 500000) * far = st
    have t9b := t8.trans t9
    clear t8 t9 t7 t6 e8 d8 hfar
    -- the modulus
    refine ⟨_, rfl, y, _, rfl, d9, by omega, fun k1 H10 k10 k11 t10 d10 => .inl ⟨_, rfl, _, _, rfl, rfl, (by show (0 : Int) < _; decide), _, _, rfl, rfl, ?_⟩⟩
    refine ⟨_, rfl, y, _, rfl, d10, by omega, fun k2 H11 k20 k21 t11 d11 => .inl ⟨_, rfl, _, _, rfl, rfl, (by show (0 : Int) < _; decide), _, _, rfl, rfl, _, _, rfl, ?_⟩⟩
    refine ⟨_, rfl, _, rfl, by show 2 ≤ sizeLine; decide, fun q12 nq12 => ?_⟩
    have y12 : q12 ≠ y := fun e => d11.some (by rw [← e]; exact nq12)
    have t12 := ((t9b.trans t10).trans t11).trans (Turn.same (p := y) (same_new (o := .lst [.int (1 + k1 % 9), .int (1 + k2 % 10000)]) nq12))
    refine ⟨_, rfl, y, _, rfl, d11.up (same_new nq12), by omega, fun k3 H13 k30 k31 t13 d13 => .inl ⟨_, rfl, _, _, rfl, rfl, (by show (0 : Int) < _; decide), ?_⟩⟩
    obtain ⟨m, hm, m0, m1⟩ := pick2i (a := 1 + k1 % 9) (b := 1 + k2 % 10000) (sh := k3 % 2) (by omega) (by omega) (P := fun x => 1 ≤ x ∧ x ≤ 10000) ⟨by omega, by omega⟩ ⟨by omega, by omega⟩
    refine ⟨q12, _, _, _, rfl, rfl, SqL.of (t13.hh _ _ y12 upd_same), hm, ?_⟩
    have tA := t12.trans t13
    clear t12 t13 t9b t10 t11 hm
    dsimp only
    -- two trees
    refine ⟨_, rfl, _, rfl, (fun _ => Option.none), y, _, 1 + u % 40, rfl, hB0 _, rfl, d13, by omega, by omega, by omega, by omega, fun v1 ns1 B14 H14 tr1 len1 G14 d14 h14 => ?_⟩
    have f14 : B14 y = none := G14.free d13.some rfl
    refine ⟨_, rfl, _, rfl, B14, y, _, 1 + u % 40, rfl, G14.bh, f14, d14, by omega, by omega, by omega, by omega, fun v2 ns2 B15 H15 tr2 len2 G15 d15 h15 => ⟨_, _, rfl, ?_⟩⟩
    have f15 : B15 y = none := G15.free d14.some f14
    have h14b := h14.up G15.bb
    refine ⟨_, rfl, _, rfl, _, rfl, _, rfl, B15, y, v1, ns1, _, st, m, rfl, G15.bh, f15, d15, by omega, by omega, h14b, tr1, by omega, m0, m1, fun B16 H16 G16 d16 => ⟨_, rfl, iteF ?_⟩⟩
    have f16 : B16 y = none := G16.free d15.some f15
    refine ⟨_, rfl, _, rfl, _, rfl, _, rfl, _, rfl, B16, y, v1, v2, ns1, ns2, _, st, m, rfl, G16.bh, f16, d16, by omega, by omega, h14b.up G16.bb, h15.up G16.bb, tr1, tr2, by omega, by omega, m0, m1, fun B17 H17 G17 d17 => ⟨_, rfl, iteF ?_⟩⟩
    have f17 : B17 y = none := G17.free d16.some f16
    have tB := (((tA.trans G14.turn).trans G15.turn).trans G16.turn).trans G17.turn
    clear h14 h14b h15 G14 G15 G16 tA
    -- two small ones
    refine ⟨_, rfl, _, _, rfl, rfl, (by show (0 : Int) < _; decide), _, _, rfl, rfl, ?_⟩
    dsimp only
    refine ⟨_, rfl, _, rfl, B17, y, _, 1 + (1 + u % 40) % 6, rfl, G17.bh, f17, d17, by omega, by omega, by omega, by omega, fun v3 ns3 B18 H18 tr3 len3 G18 d18 h18 => ?_⟩
    have f18 : B18 y = none := G18.free d17.some f17
    refine ⟨_, rfl, _, rfl, B18, y, _, 1 + (1 + u % 40) % 6, rfl, G18.bh, f18, d18, by omega, by omega, by omega, by omega, fun v4 ns4 B19 H19 tr4 len4 G19 d19 h19 => ⟨_, _, rfl, ?_⟩⟩
    have f19 : B19 y = none := G19.free d18.some f18
    refine ⟨_, rfl, _, rfl, _, rfl, _, rfl, _, rfl, B19, y, v3, v4, ns3, ns4, _, -1, m, rfl, G19.bh, f19, d19, by omega, by omega, h18.up G19.bb, h19, tr3, tr4, by omega, by omega, m0, m1, fun B20 H20 G20 d20 => ⟨_, rfl, iteF ?_⟩⟩
    have tn := ((tB.trans G18.turn).trans G19.turn).trans G20.turn
    exact ⟨_, _, _, _, _, _, _, _, rfl, pileT _ _ tn pl5, later _ _ tn fun j z hj hz => dr5 j z (by omega) hz⟩
  rintro σ H5 ⟨x1, x2, x3, x4, x5, x6, x7, x8, rfl, _, _⟩
  clear dr s4 pl hl h3 hcl hS hlen
  -- written trees
  have tA : Tr [1, 0] := downs_tr 1
  have tB : Tr [0] := .leaf
  have tC : Tr [2, 1, 0] := downs_tr 2
  have tD : Tr [1, 1, 0] := .cons (downs_tr 1) (by decide) (by decide)
  have pair : ∀ {H : Hp} {x y : Addr} {xs ys : List V}, H x = none → (upd H x (.lst xs)) y = none → (upd (upd H x (.lst xs)) y (.lst ys)) x = some (.lst xs) ∧ (upd (upd H x (.lst xs)) y (.lst ys)) y = some (.lst ys) := fun {H x y xs ys} h1 h2 => ⟨same_new h2 _ _ upd_same, upd_same⟩
  refine ⟨_, _, rfl, rfl, ⟨by decide, by decide +kernel⟩, ?_⟩
  dsimp only
  refine ⟨by show 2 ≤ sizeLine; decide, fun c1 m1 => ?_⟩
  refine ⟨_, rfl, _, rfl, _, _, rfl, rfl, ?_⟩
  refine ⟨_, rfl, _, _, rfl, rfl, _, rfl, _, rfl, _, _, rfl, rfl, by show 2 ≤ sizeLine; decide, fun c2 m2 => ?_⟩
  obtain ⟨e1, e2⟩ := pair (xs := [.int 1, .int 0]) (ys := [.int (10 ^ Int.toNat 24 + 1), .int (-(10 ^ Int.toNat 24) - 3)]) m1 m2
  refine ⟨_, _, _, [1, 0], [10 ^ Int.toNat 24 + 1, -(10 ^ Int.toNat 24) - 3], _, 10, rfl, Same.refl _, ints_at e1, ints_at e2, rfl, tA, by decide, by decide, by decide, fun H6 s6 => ⟨rfl, _, rfl, ?_⟩⟩
  rw [show decide (V.int (dot (wts [1, 0] (-(10 ^ Int.toNat 24) - 3) 10) [10 ^ Int.toNat 24 + 1, -(10 ^ Int.toNat 24) - 3] % 10) = V.int 4) = true from decide_eq_true (congrArg V.int (by decide +kernel))]
  refine iteF ?_
  refine ⟨by show 1 ≤ sizeLine; decide, fun c3 m3 => ?_⟩
  refine ⟨_, rfl, _, rfl, _, _, rfl, rfl, by show 1 ≤ sizeLine; decide, fun c4 m4 => ?_⟩
  obtain ⟨e3, e4⟩ := pair (xs := [.int 0]) (ys := [.int (-(10 ^ Int.toNat 24) - 3)]) m3 m4
  refine ⟨_, _, _, [0], [-(10 ^ Int.toNat 24) - 3], 1, 10, rfl, Same.refl _, ints_at e3, ints_at e4, rfl, tB, by decide, by decide, by decide, fun H7 s7 => ⟨rfl, _, rfl, ?_⟩⟩
  rw [show decide (V.int (dot (wts [0] 1 10) [-(10 ^ Int.toNat 24) - 3] % 10) = V.int 7) = true from decide_eq_true (congrArg V.int (by decide +kernel))]
  refine iteF ?_
  refine ⟨by show 3 ≤ sizeLine; decide, fun c5 m5 => ⟨_, rfl, by show 3 ≤ sizeLine; decide, fun c6 m6 => ?_⟩⟩
  obtain ⟨e5, e6⟩ := pair (xs := [.int 2, .int 1, .int 0]) (ys := [.int 5, .int 3, .int 4]) m5 m6
  refine ⟨_, _, _, [2, 1, 0], [5, 3, 4], -1, 10, rfl, Same.refl _, ints_at e5, ints_at e6, rfl, tC, by decide, by decide, by decide, fun H8 s8 => ⟨rfl, _, rfl, ?_⟩⟩
  rw [show decide (V.int (dot (wts [2, 1, 0] (-1) 10) [5, 3, 4] % 10) = V.int 6) = true from decide_eq_true (congrArg V.int (by decide +kernel))]
  refine iteF ?_
  refine ⟨by show 3 ≤ sizeLine; decide, fun c7 m7 => ⟨_, rfl, ?_⟩⟩
  refine ⟨_, _, [1, 1, 0], -1, 10, rfl, Same.refl _, ints_at upd_same, tD, by decide, by decide, by decide, fun p9 B9 H9 np9 g9 h9 => ⟨by show 3 ≤ sizeLine; decide, fun c8 m8 => ?_⟩⟩
  have smA := wts_sm (ns := [1, 1, 0]) (f := -1) (m := 10) (by decide) (by decide) (by decide)
  have smB : Sm 1 603 (intsD [9, 9, 1]) := Sm.ints (m := 40) (fun n hn => by
    simp only [List.mem_cons, List.not_mem_nil, or_false] at hn
    omega) (by decide)
  refine q_ne (B := upd H9 c8 (.lst [.int 9, .int 9, .int 1])) (Same.refl _) (h9.up (g9.bh.trans (same_new m8))) (ints_at upd_same (ns := [9, 9, 1])) (smA.shaped (by decide)) (smB.shaped (by decide)) ⟨_, rfl, ?_⟩
  rw [eqv_ints, show decide (wts [1, 1, 0] (-1) 10 = [9, 9, 1]) = true from by decide +kernel]
  refine iteF ?_
  refine ⟨by show 1 ≤ sizeLine; decide, fun c9 m9 => ⟨_, rfl, by show 1 ≤ sizeLine; decide, fun c10 m10 => ?_⟩⟩
  obtain ⟨e9, e10⟩ := pair (xs := [.int 0]) (ys := [.int (-1)]) m9 m10
  refine ⟨_, _, _, [0], [-1], 3, 5, rfl, Same.refl _, ints_at e9, ints_at e10, rfl, tB, by decide, by decide, by decide, fun H11 s11 => ⟨rfl, _, rfl, ?_⟩⟩
  rw [show decide (V.int (dot (wts [0] 3 5) [-1] % 5) = V.int 4) = true from decide_eq_true (congrArg V.int (by decide +kernel))]
  refine iteT ?_
  refine ⟨by show 1 ≤ sizeLine; decide, fun c12 m12 => ?_⟩
  refine ⟨_, _, [0], 3, 1, rfl, Same.refl _, ints_at upd_same, tB, by decide, by decide, by decide, fun p13 B13 H13 np13 g13 h13 => ⟨by show 1 ≤ sizeLine; decide, fun c14 m14 => ?_⟩⟩
  have smC := wts_sm (ns := [0]) (f := 3) (m := 1) (by decide) (by decide) (by decide)
  have smD : Sm 1 603 (intsD [0]) := Sm.ints (m := 40) (fun n hn => by
    simp only [List.mem_cons, List.not_mem_nil, or_false] at hn
    omega) (by decide)
  refine q_eq (B := upd H13 c14 (.lst [.int 0])) (Same.refl _) (h13.up (g13.bh.trans (same_new m14))) (ints_at upd_same (ns := [0])) (smC.shaped (by decide)) (smD.shaped (by decide)) ?_
  rw [eqv_ints, show decide (wts [0] 3 1 = [0]) = true from by decide +kernel]
  exact q _
end
theorem kb_mk_weights_modulus_factor_tree {K : PySem.W.Frag} {f : Addr} {fd : FuncData} (F : Fun K "weights" "weights" s_weights f fd) : KBindsE K fd ["tree", "factor", "modulus"] ["modulus", "factor", "tree"] pk_weights_modulus_factor_tree pk_weights_modulus_factor_tree := by
  obtain ⟨oc, od, kV, doc, pm, an, cdv, ct, osl, rfl, lk, hcd⟩ := F.ex
  refine ⟨fun s ws _ hl => ?_, fun {zs ws} r => ?_⟩
  · match ws, hl with
    | [u0, u1, u2], _ => exact .of_eq rfl
  ·
    cases r with
    | nil => exact .nil
    | cons q0 r =>
      cases r with
      | nil => exact .nil
      | cons q1 r =>
        cases r with
        | nil => exact .nil
        | cons q2 r =>
          cases r with
          | nil => exact (.cons q2 (.cons q1 (.cons q0 .nil)))
          | cons _ _ => exact .nil
theorem kb_mk_fold_numbers_values_modulus_factor_tree {K : PySem.W.Frag} {f : Addr} {fd : FuncData} (F : Fun K "fold_numbers" "fold_numbers" s_fold_numbers f fd) : KBindsE K fd ["tree", "factor", "modulus", "values"] ["values", "modulus", "factor", "tree"] pk_fold_numbers_values_modulus_factor_tree pk_fold_numbers_values_modulus_factor_tree := by
  obtain ⟨oc, od, kV, doc, pm, an, cdv, ct, osl, rfl, lk, hcd⟩ := F.ex
  refine ⟨fun s ws _ hl => ?_, fun {zs ws} r => ?_⟩
  · match ws, hl with
    | [u0, u1, u2, u3], _ => exact .of_eq rfl
  ·
    cases r with
    | nil => exact .nil
    | cons q0 r =>
      cases r with
      | nil => exact .nil
      | cons q1 r =>
        cases r with
        | nil => exact .nil
        | cons q2 r =>
          cases r with
          | nil => exact .nil
          | cons q3 r =>
            cases r with
            | nil => exact (.cons q3 (.cons q2 (.cons q1 (.cons q0 .nil))))
            | cons _ _ => exact .nil
/-! ### what the top has left -/
theorem all_mk {l : PySem.W.OpenLaw} {w : World} {K : PySem.W.Frag} {h : Heap} {mg : Str → Option Value} {fa f1 f2 f3 f4 f5 f6 f7 f8 f9 f10 f11 f12 f13 f14 f15 f16 f17 f18 : Addr} (X : K.In h) (G : h.Ns mainGlobals mg) (hfa : mg "law" = some (.ref fa))
    {od1 an1 od2 an2 od3 an3 od4 an4 od5 an5 od6 an6 od7 an7 od8 an8 od9 an9 od10 an10 od11 an11 od12 an12 od13 an13 od14 an14 od15 an15 od16 an16 od17 an17 od18 an18 : Option Addr} {sl1 sl2 sl3 sl4 sl5 sl6 sl7 sl8 sl9 sl10 sl11 sl12 sl13 sl14 sl15 sl16 sl17 sl18 : Array (Option Value)} {oc1 kV1 dc1 pm1 cd1 ct1 oc2 kV2 dc2 pm2 cd2 ct2 oc3 kV3 dc3 pm3 cd3 ct3 oc4 kV4 dc4 pm4 cd4 ct4 oc5 kV5 dc5 pm5 cd5 ct5 oc6 kV6 dc6 pm6 cd6 ct6 oc7 kV7 dc7 pm7 cd7 ct7 oc8 kV8 dc8 pm8 cd8 ct8 oc9 kV9 dc9 pm9 cd9 ct9 oc10 kV10 dc10 pm10 cd10 ct10 oc11 kV11 dc11 pm11 cd11 ct11 oc12 kV12 dc12 pm12 cd12 ct12 oc13 kV13 dc13 pm13 cd13 ct13 oc14 kV14 dc14 pm14 cd14 ct14 oc15 kV15 dc15 pm15 cd15 ct15 oc16 kV16 dc16 pm16 cd16 ct16 oc17 kV17 dc17 pm17 cd17 ct17 oc18 kV18 dc18 pm18 cd18 ct18 : Value} {tk_MOST_LEAVES tk_MOST_MODULUS : Tok}
    (a1 : PySem.W.nsIn K mainGlobals "is_whole" = some (some (.ref f1))) (l1 : K.lookup f1 = some ⟨oc1, od1, .func (PySem.W.fnOf "is_whole" "is_whole" (defArgs s_is_whole) (defBody s_is_whole) (defScope s_is_whole) .none kV1 dc1 pm1 an1 cd1 ct1), sl1⟩) (c1 : PySem.W.codeIn K cd1 "is_whole" = true) (k1 : PySem.W.keepIn K (.ref f1) = true)
    (a2 : PySem.W.nsIn K mainGlobals "is_whole_within" = some (some (.ref f2))) (l2 : K.lookup f2 = some ⟨oc2, od2, .func (PySem.W.fnOf "is_whole_within" "is_whole_within" (defArgs s_is_whole_within) (defBody s_is_whole_within) (defScope s_is_whole_within) .none kV2 dc2 pm2 an2 cd2 ct2), sl2⟩) (c2 : PySem.W.codeIn K cd2 "is_whole_within" = true) (k2 : PySem.W.keepIn K (.ref f2) = true)
    (a3 : PySem.W.nsIn K mainGlobals "check_tree" = some (some (.ref f3))) (l3 : K.lookup f3 = some ⟨oc3, od3, .func (PySem.W.fnOf "check_tree" "check_tree" (defArgs s_check_tree) (defBody s_check_tree) (defScope s_check_tree) .none kV3 dc3 pm3 an3 cd3 ct3), sl3⟩) (c3 : PySem.W.codeIn K cd3 "check_tree" = true) (k3 : PySem.W.keepIn K (.ref f3) = true)
    (a4 : PySem.W.nsIn K mainGlobals "_check_factor" = some (some (.ref f4))) (l4 : K.lookup f4 = some ⟨oc4, od4, .func (PySem.W.fnOf "_check_factor" "_check_factor" (defArgs s_check_factor) (defBody s_check_factor) (defScope s_check_factor) .none kV4 dc4 pm4 an4 cd4 ct4), sl4⟩) (c4 : PySem.W.codeIn K cd4 "_check_factor" = true) (k4 : PySem.W.keepIn K (.ref f4) = true)
    (a5 : PySem.W.nsIn K mainGlobals "_check_modulus" = some (some (.ref f5))) (l5 : K.lookup f5 = some ⟨oc5, od5, .func (PySem.W.fnOf "_check_modulus" "_check_modulus" (defArgs s_check_modulus) (defBody s_check_modulus) (defScope s_check_modulus) .none kV5 dc5 pm5 an5 cd5 ct5), sl5⟩) (c5 : PySem.W.codeIn K cd5 "_check_modulus" = true) (k5 : PySem.W.keepIn K (.ref f5) = true)
    (a6 : PySem.W.nsIn K mainGlobals "_check_row" = some (some (.ref f6))) (l6 : K.lookup f6 = some ⟨oc6, od6, .func (PySem.W.fnOf "_check_row" "_check_row" (defArgs s_check_row) (defBody s_check_row) (defScope s_check_row) .none kV6 dc6 pm6 an6 cd6 ct6), sl6⟩) (c6 : PySem.W.codeIn K cd6 "_check_row" = true) (k6 : PySem.W.keepIn K (.ref f6) = true)
    (a7 : PySem.W.nsIn K mainGlobals "weights" = some (some (.ref f7))) (l7 : K.lookup f7 = some ⟨oc7, od7, .func (PySem.W.fnOf "weights" "weights" (defArgs s_weights) (defBody s_weights) (defScope s_weights) .none kV7 dc7 pm7 an7 cd7 ct7), sl7⟩) (c7 : PySem.W.codeIn K cd7 "weights" = true) (k7 : PySem.W.keepIn K (.ref f7) = true)
    (a8 : PySem.W.nsIn K mainGlobals "fold_numbers" = some (some (.ref f8))) (l8 : K.lookup f8 = some ⟨oc8, od8, .func (PySem.W.fnOf "fold_numbers" "fold_numbers" (defArgs s_fold_numbers) (defBody s_fold_numbers) (defScope s_fold_numbers) .none kV8 dc8 pm8 an8 cd8 ct8), sl8⟩) (c8 : PySem.W.codeIn K cd8 "fold_numbers" = true) (k8 : PySem.W.keepIn K (.ref f8) = true)
    (a9 : PySem.W.nsIn K mainGlobals "_law_draws" = some (some (.ref f9))) (l9 : K.lookup f9 = some ⟨oc9, od9, .func (PySem.W.fnOf "_law_draws" "_law_draws" (defArgs s_l_draws) (defBody s_l_draws) (defScope s_l_draws) .none kV9 dc9 pm9 an9 cd9 ct9), sl9⟩) (c9 : PySem.W.codeIn K cd9 "_law_draws" = true) (k9 : PySem.W.keepIn K (.ref f9) = true)
    (a10 : PySem.W.nsIn K mainGlobals "_law_next" = some (some (.ref f10))) (l10 : K.lookup f10 = some ⟨oc10, od10, .func (PySem.W.fnOf "_law_next" "_law_next" (defArgs s_l_next) (defBody s_l_next) (defScope s_l_next) .none kV10 dc10 pm10 an10 cd10 ct10), sl10⟩) (c10 : PySem.W.codeIn K cd10 "_law_next" = true) (k10 : PySem.W.keepIn K (.ref f10) = true)
    (a11 : PySem.W.nsIn K mainGlobals "_law_tree" = some (some (.ref f11))) (l11 : K.lookup f11 = some ⟨oc11, od11, .func (PySem.W.fnOf "_law_tree" "_law_tree" (defArgs s_l_tree) (defBody s_l_tree) (defScope s_l_tree) .none kV11 dc11 pm11 an11 cd11 ct11), sl11⟩) (c11 : PySem.W.codeIn K cd11 "_law_tree" = true) (k11 : PySem.W.keepIn K (.ref f11) = true)
    (a12 : PySem.W.nsIn K mainGlobals "_law_halves" = some (some (.ref f12))) (l12 : K.lookup f12 = some ⟨oc12, od12, .func (PySem.W.fnOf "_law_halves" "_law_halves" (defArgs s_l_halves) (defBody s_l_halves) (defScope s_l_halves) .none kV12 dc12 pm12 an12 cd12 ct12), sl12⟩) (c12 : PySem.W.codeIn K cd12 "_law_halves" = true) (k12 : PySem.W.keepIn K (.ref f12) = true)
    (a13 : PySem.W.nsIn K mainGlobals "_law_fold" = some (some (.ref f13))) (l13 : K.lookup f13 = some ⟨oc13, od13, .func (PySem.W.fnOf "_law_fold" "_law_fold" (defArgs s_l_fold) (defBody s_l_fold) (defScope s_l_fold) .none kV13 dc13 pm13 an13 cd13 ct13), sl13⟩) (c13 : PySem.W.codeIn K cd13 "_law_fold" = true) (k13 : PySem.W.keepIn K (.ref f13) = true)
    (a14 : PySem.W.nsIn K mainGlobals "_law_power" = some (some (.ref f14))) (l14 : K.lookup f14 = some ⟨oc14, od14, .func (PySem.W.fnOf "_law_power" "_law_power" (defArgs s_l_power) (defBody s_l_power) (defScope s_l_power) .none kV14 dc14 pm14 an14 cd14 ct14), sl14⟩) (c14 : PySem.W.codeIn K cd14 "_law_power" = true) (k14 : PySem.W.keepIn K (.ref f14) = true)
    (a15 : PySem.W.nsIn K mainGlobals "_law_values" = some (some (.ref f15))) (l15 : K.lookup f15 = some ⟨oc15, od15, .func (PySem.W.fnOf "_law_values" "_law_values" (defArgs s_l_values) (defBody s_l_values) (defScope s_l_values) .none kV15 dc15 pm15 an15 cd15 ct15), sl15⟩) (c15 : PySem.W.codeIn K cd15 "_law_values" = true) (k15 : PySem.W.keepIn K (.ref f15) = true)
    (a16 : PySem.W.nsIn K mainGlobals "_law_right" = some (some (.ref f16))) (l16 : K.lookup f16 = some ⟨oc16, od16, .func (PySem.W.fnOf "_law_right" "_law_right" (defArgs s_l_right) (defBody s_l_right) (defScope s_l_right) .none kV16 dc16 pm16 an16 cd16 ct16), sl16⟩) (c16 : PySem.W.codeIn K cd16 "_law_right" = true) (k16 : PySem.W.keepIn K (.ref f16) = true)
    (a17 : PySem.W.nsIn K mainGlobals "_law_two_right" = some (some (.ref f17))) (l17 : K.lookup f17 = some ⟨oc17, od17, .func (PySem.W.fnOf "_law_two_right" "_law_two_right" (defArgs s_l_two_right) (defBody s_l_two_right) (defScope s_l_two_right) .none kV17 dc17 pm17 an17 cd17 ct17), sl17⟩) (c17 : PySem.W.codeIn K cd17 "_law_two_right" = true) (k17 : PySem.W.keepIn K (.ref f17) = true)
    (a18 : PySem.W.nsIn K mainGlobals "law" = some (some (.ref f18))) (l18 : K.lookup f18 = some ⟨oc18, od18, .func (PySem.W.fnOf "law" "law" (defArgs s_law) (defBody s_law) (defScope s_law) .none kV18 dc18 pm18 an18 cd18 ct18), sl18⟩) (c18 : PySem.W.codeIn K cd18 "law" = true) (k18 : PySem.W.keepIn K (.ref f18) = true)
    (z_bool : PySem.W.nsIn K mainGlobals "bool" = some none)
    (z_enumerate : PySem.W.nsIn K mainGlobals "enumerate" = some none)
    (z_int : PySem.W.nsIn K mainGlobals "int" = some none)
    (z_isinstance : PySem.W.nsIn K mainGlobals "isinstance" = some none)
    (z_len : PySem.W.nsIn K mainGlobals "len" = some none)
    (z_list : PySem.W.nsIn K mainGlobals "list" = some none)
    (z_range : PySem.W.nsIn K mainGlobals "range" = some none)
    (z_repr : PySem.W.nsIn K mainGlobals "repr" = some none)
    (z_sum : PySem.W.nsIn K mainGlobals "sum" = some none)
    (z_zip : PySem.W.nsIn K mainGlobals "zip" = some none)
    (z_MOST_LEAVES : PySem.W.nsIn K mainGlobals "MOST_LEAVES" = some (some (.int 40 tk_MOST_LEAVES)))
    (z_MOST_MODULUS : PySem.W.nsIn K mainGlobals "MOST_MODULUS" = some (some (.int 10000 tk_MOST_MODULUS)))
    : ∃ fd : FuncData, (∀ (s : Shared) (v : Value), BindsTo s fd ⟨[v], []⟩ [("_law_script", v)]) ∧ ∀ base : Heap, K.In base → base.Ns mainGlobals mg → FnG l.prog w K mg base CX0 44 fa fd ["_law_script"] (sp_law K) := by
  have e := hfa.symm.trans (PySem.W.mg_of X G a18)
  cases e
  have T : Bt mg := ⟨PySem.W.mg_none_of X G z_bool, PySem.W.mg_none_of X G z_enumerate, PySem.W.mg_none_of X G z_int, PySem.W.mg_none_of X G z_isinstance, PySem.W.mg_none_of X G z_len, PySem.W.mg_none_of X G z_list, PySem.W.mg_none_of X G z_range, PySem.W.mg_none_of X G z_repr, PySem.W.mg_none_of X G z_sum, PySem.W.mg_none_of X G z_zip, ⟨_, PySem.W.mg_of X G z_MOST_LEAVES⟩, ⟨_, PySem.W.mg_of X G z_MOST_MODULUS⟩⟩
  have F1 := fun_mk (st := s_is_whole) l1 c1 k1
  have b1 := F1.binds (ps := ["thing"]) fun _ _ _ _ _ _ us hl => match us, hl with | [_], _ => rfl
  have F2 := fun_mk (st := s_is_whole_within) l2 c2 k2
  have b2 := F2.binds (ps := ["thing", "least", "most"]) fun _ _ _ _ _ _ us hl => match us, hl with | [_, _, _], _ => rfl
  have F3 := fun_mk (st := s_check_tree) l3 c3 k3
  have b3 := F3.binds (ps := ["tree"]) fun _ _ _ _ _ _ us hl => match us, hl with | [_], _ => rfl
  have F4 := fun_mk (st := s_check_factor) l4 c4 k4
  have b4 := F4.binds (ps := ["factor"]) fun _ _ _ _ _ _ us hl => match us, hl with | [_], _ => rfl
  have F5 := fun_mk (st := s_check_modulus) l5 c5 k5
  have b5 := F5.binds (ps := ["modulus"]) fun _ _ _ _ _ _ us hl => match us, hl with | [_], _ => rfl
  have F6 := fun_mk (st := s_check_row) l6 c6 k6
  have b6 := F6.binds (ps := ["values", "many"]) fun _ _ _ _ _ _ us hl => match us, hl with | [_, _], _ => rfl
  have F7 := fun_mk (st := s_weights) l7 c7 k7
  have b7 := F7.binds (ps := ["tree", "factor", "modulus"]) fun _ _ _ _ _ _ us hl => match us, hl with | [_, _, _], _ => rfl
  have F8 := fun_mk (st := s_fold_numbers) l8 c8 k8
  have b8 := F8.binds (ps := ["tree", "factor", "modulus", "values"]) fun _ _ _ _ _ _ us hl => match us, hl with | [_, _, _, _], _ => rfl
  have F9 := fun_mk (st := s_l_draws) l9 c9 k9
  have b9 := F9.binds (ps := ["_law_cell"]) fun _ _ _ _ _ _ us hl => match us, hl with | [_], _ => rfl
  have F10 := fun_mk (st := s_l_next) l10 c10 k10
  have b10 := F10.binds (ps := ["_law_draws_here"]) fun _ _ _ _ _ _ us hl => match us, hl with | [_], _ => rfl
  have F11 := fun_mk (st := s_l_tree) l11 c11 k11
  have b11 := F11.binds (ps := ["_law_draws_here", "_law_many"]) fun _ _ _ _ _ _ us hl => match us, hl with | [_, _], _ => rfl
  have F12 := fun_mk (st := s_l_halves) l12 c12 k12
  have b12 := F12.binds (ps := ["_law_row"]) fun _ _ _ _ _ _ us hl => match us, hl with | [_], _ => rfl
  have F13 := fun_mk (st := s_l_fold) l13 c13 k13
  have b13 := F13.binds (ps := ["_law_row", "_law_some", "_law_step", "_law_by"]) fun _ _ _ _ _ _ us hl => match us, hl with | [_, _, _, _], _ => rfl
  have F14 := fun_mk (st := s_l_power) l14 c14 k14
  have b14 := F14.binds (ps := ["_law_step", "_law_depth", "_law_by"]) fun _ _ _ _ _ _ us hl => match us, hl with | [_, _, _], _ => rfl
  have F15 := fun_mk (st := s_l_values) l15 c15 k15
  have b15 := F15.binds (ps := ["_law_draws_here", "_law_many"]) fun _ _ _ _ _ _ us hl => match us, hl with | [_, _], _ => rfl
  have F16 := fun_mk (st := s_l_right) l16 c16 k16
  have b16 := F16.binds (ps := ["_law_draws_here", "_law_row", "_law_step", "_law_by"]) fun _ _ _ _ _ _ us hl => match us, hl with | [_, _, _, _], _ => rfl
  have F17 := fun_mk (st := s_l_two_right) l17 c17 k17
  have b17 := F17.binds (ps := ["_law_draws_here", "_law_row", "_law_other", "_law_step", "_law_by"]) fun _ _ _ _ _ _ us hl => match us, hl with | [_, _, _, _, _], _ => rfl
  have F18 := fun_mk (st := s_law) l18 c18 k18
  have b18 := F18.binds (ps := ["_law_script"]) fun _ _ _ _ _ _ us hl => match us, hl with | [_], _ => rfl
  refine ⟨PySem.W.fnOf "law" "law" (defArgs s_law) (defBody s_law) (defScope s_law) .none kV18 dc18 pm18 an18 cd18 ct18, fun s v => .of_eq rfl, fun base _ _ => ?_⟩
  let D1 : Callee l.prog w K mg base CX0 1 "is_whole" ["thing"] (sp_is_whole K) := ⟨f1, _, ok_is_whole F1 T, PySem.W.mg_of X G a1, k1, b1⟩
  let D2 : Callee l.prog w K mg base CX0 2 "is_whole_within" ["thing", "least", "most"] (sp_is_whole_within K) := ⟨f2, _, ok_is_whole_within F2 T D1, PySem.W.mg_of X G a2, k2, b2⟩
  let D3 : Callee l.prog w K mg base CX0 2 "check_tree" ["tree"] (sp_check_tree K) := ⟨f3, _, ok_check_tree F3 T D1, PySem.W.mg_of X G a3, k3, b3⟩
  let D4 : Callee l.prog w K mg base CX0 2 "_check_factor" ["factor"] (sp_check_factor K) := ⟨f4, _, ok_check_factor F4 T D1, PySem.W.mg_of X G a4, k4, b4⟩
  let D5 : Callee l.prog w K mg base CX0 3 "_check_modulus" ["modulus"] (sp_check_modulus K) := ⟨f5, _, ok_check_modulus F5 T D2, PySem.W.mg_of X G a5, k5, b5⟩
  let D6 : Callee l.prog w K mg base CX0 1 "_check_row" ["values", "many"] (sp_check_row K) := ⟨f6, _, ok_check_row F6 T, PySem.W.mg_of X G a6, k6, b6⟩
  let D7 : Callee l.prog w K mg base CX0 4 "weights" ["tree", "factor", "modulus"] (sp_weights K) := ⟨f7, _, ok_weights F7 T D3 D4 D5, PySem.W.mg_of X G a7, k7, b7⟩
  let D8 : Callee l.prog w K mg base CX0 5 "fold_numbers" ["tree", "factor", "modulus", "values"] (sp_fold_numbers K) := ⟨f8, _, ok_fold_numbers F8 T D1 D6 D7, PySem.W.mg_of X G a8, k8, b8⟩
  let D9 : Callee l.prog w K mg base CX0 1 "_law_draws" ["_law_cell"] (sp_l_draws K) := ⟨f9, _, ok_l_draws F9 T, PySem.W.mg_of X G a9, k9, b9⟩
  let D10 : Callee l.prog w K mg base CX0 1 "_law_next" ["_law_draws_here"] (sp_l_next K) := ⟨f10, _, ok_l_next F10 T, PySem.W.mg_of X G a10, k10, b10⟩
  let D11 : Callee l.prog w K mg base CX0 2 "_law_tree" ["_law_draws_here", "_law_many"] (sp_l_tree K) := ⟨f11, _, ok_l_tree F11 T D10, PySem.W.mg_of X G a11, k11, b11⟩
  let D12 : Callee l.prog w K mg base CX0 1 "_law_halves" ["_law_row"] (sp_l_halves K) := ⟨f12, _, ok_l_halves F12 T, PySem.W.mg_of X G a12, k12, b12⟩
  let D13 : Callee l.prog w K mg base CX0 42 "_law_fold" ["_law_row", "_law_some", "_law_step", "_law_by"] (sp_l_fold K 41) := ⟨f13, _, rec_l_fold F13 T D12 (PySem.W.mg_of X G a13) b13 41, PySem.W.mg_of X G a13, k13, b13⟩
  let D14 : Callee l.prog w K mg base CX0 1 "_law_power" ["_law_step", "_law_depth", "_law_by"] (sp_l_power K) := ⟨f14, _, ok_l_power F14 T, PySem.W.mg_of X G a14, k14, b14⟩
  let D15 : Callee l.prog w K mg base CX0 2 "_law_values" ["_law_draws_here", "_law_many"] (sp_l_values K) := ⟨f15, _, ok_l_values F15 T D10, PySem.W.mg_of X G a15, k15, b15⟩
  have kb_fold_numbers_values_modulus_factor_tree16 : KBindsE K D8.fd ["tree", "factor", "modulus", "values"] ["values", "modulus", "factor", "tree"] pk_fold_numbers_values_modulus_factor_tree pk_fold_numbers_values_modulus_factor_tree := kb_mk_fold_numbers_values_modulus_factor_tree F8
  have kb_weights_modulus_factor_tree16 : KBindsE K D7.fd ["tree", "factor", "modulus"] ["modulus", "factor", "tree"] pk_weights_modulus_factor_tree pk_weights_modulus_factor_tree := kb_mk_weights_modulus_factor_tree F7
  let D16 : Callee l.prog w K mg base CX0 43 "_law_right" ["_law_draws_here", "_law_row", "_law_step", "_law_by"] (sp_l_right K) := ⟨f16, _, ok_l_right F16 T D7 D8 D10 D13 D14 D15 kb_fold_numbers_values_modulus_factor_tree16 kb_weights_modulus_factor_tree16, PySem.W.mg_of X G a16, k16, b16⟩
  let D17 : Callee l.prog w K mg base CX0 6 "_law_two_right" ["_law_draws_here", "_law_row", "_law_other", "_law_step", "_law_by"] (sp_l_two_right K) := ⟨f17, _, ok_l_two_right F17 T D7 D8 D15, PySem.W.mg_of X G a17, k17, b17⟩
  exact ok_law F18 T D7 D8 D9 D10 D11 D16 D17
end Cf
open PySem PySem.W PyProof.Rows
set_option maxRecDepth 100000 in
set_option maxHeartbeats 0 in
theorem PySem.Challenge.cw_cutfolds_k21_whole_weights_holds : PySem.Challenge.rw_cutfolds_k21_whole_weights.Holds := by
  w_on; o_law; k_head; (case hw => w_witness2)
  k_fill
  refine Cf.walkG (l := PySem.Challenge.rw_cutfolds_k21_whole_weights) (n := 63) (lev := 44) (x := "_law_script") (CX := fun _ => L2.CX0) (sp := fun w => Cf.sp_law _) rfl (by decide) rfl ⟨rfl, by decide, by decide⟩ (fun w h Y => PySem.W.kIn_of Y) ?F (fun _ _ a ns hl _ hS => ⟨a, ns, rfl, hS, hl, fun _ => rfl⟩) (fun _ _ _ _ _ h => h)
  case F =>
    intro w mg fa h KX G hmg
    refine' Cf.all_mk KX G hmg ?a1 ?l1 ?c1 ?k1 ?a2 ?l2 ?c2 ?k2 ?a3 ?l3 ?c3 ?k3 ?a4 ?l4 ?c4 ?k4 ?a5 ?l5 ?c5 ?k5 ?a6 ?l6 ?c6 ?k6 ?a7 ?l7 ?c7 ?k7 ?a8 ?l8 ?c8 ?k8 ?a9 ?l9 ?c9 ?k9 ?a10 ?l10 ?c10 ?k10 ?a11 ?l11 ?c11 ?k11 ?a12 ?l12 ?c12 ?k12 ?a13 ?l13 ?c13 ?k13 ?a14 ?l14 ?c14 ?k14 ?a15 ?l15 ?c15 ?k15 ?a16 ?l16 ?c16 ?k16 ?a17 ?l17 ?c17 ?k17 ?a18 ?l18 ?c18 ?k18 ?z_bool ?z_enumerate ?z_int ?z_isinstance ?z_len ?z_list ?z_range ?z_repr ?z_sum ?z_zip ?z_MOST_LEAVES ?z_MOST_MODULUS
    (case a1 => k_is); (case l1 => k_is); (case c1 => k_is); (case k1 => k_is)
    (case a2 => k_is); (case l2 => k_is); (case c2 => k_is); (case k2 => k_is)
    (case a3 => k_is); (case l3 => k_is); (case c3 => k_is); (case k3 => k_is)
    (case a4 => k_is); (case l4 => k_is); (case c4 => k_is); (case k4 => k_is)
    (case a5 => k_is); (case l5 => k_is); (case c5 => k_is); (case k5 => k_is)
    (case a6 => k_is); (case l6 => k_is); (case c6 => k_is); (case k6 => k_is)
    (case a7 => k_is); (case l7 => k_is); (case c7 => k_is); (case k7 => k_is)
    (case a8 => k_is); (case l8 => k_is); (case c8 => k_is); (case k8 => k_is)
    (case a9 => k_is); (case l9 => k_is); (case c9 => k_is); (case k9 => k_is)
    (case a10 => k_is); (case l10 => k_is); (case c10 => k_is); (case k10 => k_is)
    (case a11 => k_is); (case l11 => k_is); (case c11 => k_is); (case k11 => k_is)
    (case a12 => k_is); (case l12 => k_is); (case c12 => k_is); (case k12 => k_is)
    (case a13 => k_is); (case l13 => k_is); (case c13 => k_is); (case k13 => k_is)
    (case a14 => k_is); (case l14 => k_is); (case c14 => k_is); (case k14 => k_is)
    (case a15 => k_is); (case l15 => k_is); (case c15 => k_is); (case k15 => k_is)
    (case a16 => k_is); (case l16 => k_is); (case c16 => k_is); (case k16 => k_is)
    (case a17 => k_is); (case l17 => k_is); (case c17 => k_is); (case k17 => k_is)
    (case a18 => k_is); (case l18 => k_is); (case c18 => k_is); (case k18 => k_is)
    (case z_bool => k_is); (case z_enumerate => k_is); (case z_int => k_is); (case z_isinstance => k_is); (case z_len => k_is); (case z_list => k_is); (case z_range => k_is); (case z_repr => k_is); (case z_sum => k_is); (case z_zip => k_is); (case z_MOST_LEAVES => k_is); (case z_MOST_MODULUS => k_is)
#print axioms PySem.Challenge.cw_cutfolds_k21_whole_weights_holds
