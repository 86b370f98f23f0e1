import PyProof.Rows.All
import Wide.All
import OpenK.AllK
import Wide.FinOn
import HandS.ForMost
import HandS.Walk
import HandS.IsInst
import HandS.Conv
import PySem.Challenge.RW_cutfolds_k06_whole_trees_that_agree
set_option Elab.async false
set_option linter.all false
set_option maxRecDepth 100000
set_option maxHeartbeats 8000000
/-! A def's promise where no repr of a list runs around the call (so that repr itself may be asked). -/
namespace Cf
open PySem PySem.Spec PyProof.Rows L2

/-- no list, tuple or dict is being shown around -/
def Calm (A : Around) : Prop := A.guards = some []

structure FnG (P : Program) (w : World) (K : PySem.W.Frag) (mg : Str → Option Value) (base : Heap) (CX : CXT) (lev : Nat) (f : Addr) (fd : FuncData) (ps : List Str) (sp : Sp) : Prop where
  len : ∀ vs H Q E, sp vs H Q E → vs.length = ps.length
  go : ∀ (A : Around) (out : List Env) (s : Shared) (H : Hp) (args : Args) (us : List Value) (vs : List V) (Q : VK) (E : XK), Calm A → Room lev A →
    Env0 P w K mg base A out s H → BindsTo s fd args (ps.zip us) → Vals vs us → sp vs H Q E → codeAny (model P w) A (.call (.ref f) args) (CR CX out P w H s Q E) s

section
variable {P : Program} {w : World} {K : PySem.W.Frag} {mg : Str → Option Value} {base : Heap} {CX : CXT} {f : Addr} {fd : FuncData} {ps : List Str} {sp sp' : Sp} {j lev : Nat}
theorem FnG.of (F : FnOk P w K mg base CX lev f fd ps sp) : FnG P w K mg base CX lev f fd ps sp :=
  ⟨F.len, fun A out s H args us vs Q E _ r => F.run A out s H args us vs Q E r⟩
/-- nothing is promised where nothing can be asked -/
theorem FnG.vain (h : ∀ vs H Q E, ¬ sp vs H Q E) : FnG P w K mg base CX lev f fd ps sp :=
  ⟨fun vs H Q E q => absurd q (h vs H Q E), fun A out s H args us vs Q E _ _ _ _ _ q => absurd q (h vs H Q E)⟩
theorem FnG.up (F : FnG P w K mg base CX j f fd ps sp) (h : j ≤ lev) : FnG P w K mg base CX lev f fd ps sp :=
  ⟨F.len, fun A out s H args us vs Q E c r => F.go A out s H args us vs Q E c (r.mono h)⟩
theorem FnG.imp (F : FnG P w K mg base CX lev f fd ps sp) (h : ∀ vs H Q E, sp' vs H Q E → sp vs H Q E) : FnG P w K mg base CX lev f fd ps sp' :=
  ⟨fun vs H Q E q => F.len vs H Q E (h _ _ _ _ q), fun A out s H args us vs Q E c r e b v z => F.go A out s H args us vs Q E c r e b v (h _ _ _ _ z)⟩

theorem end_of {out : List Env} {H : Hp} {s : Shared} {Q : VK} {E : XK} {N : List Str} {qual : Str} {sc : Scope} {cdv : Value} {A : Around} {fl : Flow} {s2 : Shared}
    (h : SP (cxOf CX P w K mg base N qual sc f cdv A out s H E) [] { nx := fun _ H2 => Q .non H2, rt := Q } fl s2) :
    match (match fl with | .next => Flow.ret Value.none | z => z) with | .ret u => CE out P w H s Q u s2 | _ => False := by
  cases fl with
  | ret u =>
    obtain ⟨v, _, H2, J, rv, q⟩ := h
    exact ⟨v, H2, J.os, J.bare, J.base, J.hok, rv, q⟩
  | next =>
    obtain ⟨_, H2, J, q⟩ := h
    exact ⟨V.non, H2, J.os, J.bare, J.base, J.hok, rfl, q⟩
  | brk =>
    obtain ⟨_, _, _, q⟩ := h
    exact q
  | cont =>
    obtain ⟨_, _, _, q⟩ := h
    exact q

/-- a def by its body -/
theorem okG {x qual : Str} {st : Stmt} {N : List Str} (F : Fun K x qual st f fd) (S : FnScope N ps (defScope st)) (hl : ∀ vs H Q E, sp vs H Q E → vs.length = ps.length)
    (hb : ∀ (cdv : Value) (A : Around) (out : List Env) (s : Shared) (H : Hp) (vs : List V) (Q : VK) (E : XK), Calm A → Room lev (A.deeper (envOfC qual (defScope st) s.heap.objs.size f cdv)) → sp vs H Q E →
      ∃ t, PSs (cxOf CX P w K mg base N qual (defScope st) f cdv A out s H E) (defBody st) t ∧ t { nx := fun _ H2 => Q .non H2, rt := Q } (start N vs) H) : FnG P w K mg base CX (lev + 1) f fd ps sp := by
  obtain ⟨oc, od, kV, doc, pm, an, cdv, ct, osl, rfl, lk, hcd⟩ := F.ex
  refine ⟨hl, fun A out s H args us vs Q E hc hr e0 hbind rv hs => ?_⟩
  have hlen := hl _ _ _ _ hs
  have inK : K.In s.heap := e0.mod.kin.keeps fun b o e => (e0.bs b o e).1
  have nolim : s.heap.NoLimit := e0.mod.nolimit.keeps fun b o e => (e0.bs b o e).1
  have kinds : ∀ y ∈ ps.zip us, (defScope st).names.lookup y.1 = some .local ∨ ((defScope st).names.lookup y.1 = some .cell ∧ ((cellsFrom (s.heap.objs.size + 1) (defScope st).names []).lookup y.1).isSome = true) := by
    rintro ⟨n, v⟩ hy
    rcases S.par n (List.of_mem_zip hy).1 with q | q
    · exact .inl q
    · exact .inr ⟨q, PySem.W.cellsFrom_some _ _ _ (.inl q)⟩
  refine codeAny_call_function hr.depth (inK _ _ lk) rfl S.co S.gen rfl (PySem.W.codeRec_of inK hcd) (hbind _ _ _ _ ?_)
  refine wpAny_newFunctionEnv_cells S.kind kinds fun env he s1 z => ?_
  subst he
  refine ⟨nolim.keeps z.toInCall.keep, codeAny_func ?_⟩
  obtain ⟨t, ht, hq⟩ := hb cdv A out s H vs Q E hc (hr.deeper _) hs
  refine wpAny_mono (ht.run [] s1 (start N vs) H _ (inv_start S hr.hd e0 hlen rv z) hq) (fun fl s2 h2 => ?_) fun e s2 h2 => h2
  have q := end_of h2
  cases fl with
  | ret u => exact q
  | next => exact q
  | brk => exact False.elim q
  | cont => exact False.elim q
/-- a def that lets nothing out -/
theorem okN {x qual : Str} {st : Stmt} {N : List Str} (F : Fun K x qual st f fd) (S : FnScope N ps (defScope st)) (hl : ∀ vs H Q E, sp vs H Q E → vs.length = ps.length)
    (hb : ∀ (cdv : Value) (A : Around) (out : List Env) (s : Shared) (H : Hp) (vs : List V) (Q : VK) (E : XK), Calm A → Room lev (A.deeper (envOfC qual (defScope st) s.heap.objs.size f cdv)) → sp vs H Q E →
      ∃ t, PSs (cxOf CX P w K mg base N qual (defScope st) f cdv A out s H E).nox (defBody st) t ∧ t { nx := fun _ H2 => Q .non H2, rt := Q } (start N vs) H) : FnG P w K mg base CX (lev + 1) f fd ps sp :=
  okG F S hl fun cdv A out s H vs Q E hc hr hs => by
    obtain ⟨t, h, q⟩ := hb cdv A out s H vs Q E hc hr hs
    exact ⟨t, h.nox, q⟩
end

section
variable {X : Cx} {CX : CXT} {lev : Nat} {f : Addr} {fd : FuncData} {ps ks : List Str} {sp : Sp} {E : XK} {x : Str} {p pos : Pos} {e : Expr} {es : List Expr} {kws : List Keyword} {te : TE} {t tk : TA}
  {g : List Value → List Value → List Value} {gV : List V → List V → List V}
theorem run_g {pins : List (Addr × Obj)} {σ : L2.St} {H : Hp} {s : Shared} {Q : VK} {args : Args} {us : List Value} {vs : List V} (F : FnG X.prog X.w X.K X.mg X.base CX lev f fd ps sp) (hc : Calm X.A) (hr : Room lev X.A)
    (hb : us.length = ps.length → BindsTo s fd args (ps.zip us)) (hx : Passes CX X E) (I : Inv X pins σ H s) (r : Vals vs us) (h : sp vs H Q E) :
    wpAny (model X.prog X.w) X.A (call (.ref f) args.pos args.kw) (EP X pins σ Q) X.xe s := by
  have hl : us.length = ps.length := by rw [← r.length]; exact F.len _ _ _ _ h
  refine wpAny_call (codeAny_mono (F.go X.A X.stack s H args us vs Q E hc hr I.env0 (hb hl) r h) fun z s2 hq => ?_)
  cases z with
  | error u => exact hx pins σ H s u s2 I hq
  | ok fl =>
    cases fl with
    | ret u => exact I.after hq
    | next => exact False.elim hq
    | brk => exact False.elim hq
    | cont => exact False.elim hq
end
section
variable {X : Cx} {CX : CXT} {lev : Nat} {f : Addr} {fd : FuncData} {ps ks : List Str} {sp : Sp} {E : XK} {x : Str} {p pos : Pos} {e : Expr} {es : List Expr} {kws : List Keyword} {te : TE} {t tk : TA}
  {g : List Value → List Value → List Value} {gV : List V → List V → List V}
/-- f(e, ..) -/
theorem pg_call (F : FnG X.prog X.w X.K X.mg X.base CX lev f fd ps sp) (hc : Calm X.A) (hr : Room lev X.A) (hg : Gl X x) (hm : X.mg x = some (.ref f)) (hk : PySem.W.keepIn X.K (.ref f) = true) (hb : Binds X.K fd ps []) (hx : Passes CX X E)
    (ha : PA X (e :: es) t) (hdb : (x == ("__debug__" : Str)) = false := by decide) (he : starEach (e :: es) X.env = (false, eval e X.env) :: starEach es X.env := by rfl) (hpl : (backTo pos (starEach es X.env)).any (·.1) = false := by rfl) :
    PE X (.Call (.Name x p) (e :: es) [] pos) (tCall sp [] E t) := by
  refine ⟨fun pins s σ H Q I h => wpAny_Call_Name_kw (ld_glob I hg hm ?_ hdb)⟩
  refine PySem.W.callWith_K (h₀ := X.base) I.ok.mod.kin hk (thn (ha.run pos pins s σ H _ I h) fun us s1 ⟨vs, H1, I1, r, q⟩ => ⟨I1.kIn, ?_⟩) he hpl
  have q1 : sp (vs ++ []) H1 Q E := q
  rw [List.append_nil] at q1
  exact run_g (args := ⟨us, []⟩) F hc hr (fun hl => by have z := hb s1 us I1.kIn (by rw [List.append_nil]; exact hl); rw [List.append_nil] at z; exact z) hx I1 r q1
/-- f() -/
theorem pg_call0 (F : FnG X.prog X.w X.K X.mg X.base CX lev f fd ps sp) (hc : Calm X.A) (hr : Room lev X.A) (hg : Gl X x) (hm : X.mg x = some (.ref f)) (hk : PySem.W.keepIn X.K (.ref f) = true) (hb : Binds X.K fd ps []) (hx : Passes CX X E)
    (hdb : (x == ("__debug__" : Str)) = false := by decide) : PE X (.Call (.Name x p) [] [] pos) (tCall sp [] E tNil) := by
  refine ⟨fun pins s σ H Q I h => wpAny_Call_Name_kw (ld_glob I hg hm ?_ hdb)⟩
  exact PySem.W.callWith_K0 I.kIn hk (run_g (args := ⟨[], []⟩) F hc hr (fun hl => hb s [] I.kIn hl) hx I .nil h)
/-- how keywords alone bind -/
structure KBindsE (K : PySem.W.Frag) (fd : FuncData) (ps ks : List Str) (g : List Value → List Value) (gV : List V → List V) : Prop where
  to : ∀ (s : Shared) (ws : List Value), K.In s.heap → (g ws).length = ps.length → BindsTo s fd ⟨[], ks.zip ws⟩ (ps.zip (g ws))
  rel : ∀ {zs : List V} {ws : List Value}, Vals zs ws → Vals (gV zs) (g ws)
def tCallE (sp : Sp) (gV : List V → List V) (E : XK) (tk : TA) : TE := fun σ H Q => tk σ H fun zs H1 => sp (gV zs) H1 Q E
/-- f(k = v, ..), keywords alone -/
theorem pg_callK {g : List Value → List Value} {gV : List V → List V} (F : FnG X.prog X.w X.K X.mg X.base CX lev f fd ps sp) (hc : Calm X.A) (hr : Room lev X.A) (hg : Gl X x) (hm : X.mg x = some (.ref f)) (hk : PySem.W.keepIn X.K (.ref f) = true) (hb : KBindsE X.K fd ps ks g gV) (hx : Passes CX X E)
    (hkw : PK X kws tk) (hall : (backToKw pos (keywordEach kws X.env)).all (·.1.isSome) = true := by rfl) (hks : (backToKw pos (keywordEach kws X.env)).filterMap (·.1) = ks := by rfl) (hdb : (x == ("__debug__" : Str)) = false := by decide)
    (hpl : ((backTo pos (starEach [] X.env)).any (·.1) || (backToKw pos (keywordEach kws X.env)).any (·.1.isNone)) = false := by rfl) :
    PE X (.Call (.Name x p) [] kws pos) (tCallE sp gV E tk) := by
  refine ⟨fun pins s σ H Q I h => wpAny_Call_Name_kw (ld_glob I hg hm ?_ hdb)⟩
  refine PySem.W.callWith_KW0 (h₀ := X.base) I.ok.mod.kin hk hall (thn (hkw.run pos pins s σ H _ I h) fun ws s2 ⟨zs, H2, I2, rz, q2⟩ => ⟨I2.kIn, ?_⟩) hpl
  rw [hks]
  exact run_g (args := ⟨[], ks.zip ws⟩) F hc hr (hb.to s2 ws I2.kIn) hx I2 (hb.rel rz) q2
end

/-! ### repr of data, of any depth -/
section
variable {X : Cx}
/-- what can be shown here: small ints, no dicts, a text within the line -/
def Shown (d : PyData) : Prop := d.showable = true ∧ d.hasDict = false ∧ d.depth ≤ 100 ∧ d.shown.length ≤ sizeLine
theorem repr_val {pins : List (Addr × Obj)} {σ : L2.St} {H : Hp} {s : Shared} {Q : VK} {v : V} {u : Value} {d : PyData} (hc : Calm X.A) (hu : X.A.units + 200 < cLine) (I : Inv X pins σ H s) (r : RelV v u) (hd : Dp X.K H v d) (hs : Shown d) (q : Q (.str d.shown) H) :
    wpAny (model X.prog X.w) X.A (call (.builtin "repr") [u]) (EP X pins σ Q) X.xe s := by
  obtain ⟨as, rd⟩ := Dp.reads I d v u hd r
  obtain ⟨h1, h2, h3, h4⟩ := hs
  have fin : ∀ (h' : Heap) (t : Tok) (tk : Nat), (∀ b o, s.heap.get? b = some o → h'.get? b = some o) → EP X pins σ Q (Value.str d.shown t) { s with heap := h', toks := tk } := fun h' t tk k => ⟨.str d.shown, H, I.kept k, ⟨_, rfl⟩, q⟩
  cases hd with
  | non =>
    cases r
    exact PySem.P.repr_of_none ⟨.str _, H, I.tok _, ⟨_, rfl⟩, (by rw [PyData.shown_none] at q; exact q)⟩
  | bl b =>
    cases r
    exact PySem.P.repr_of_bool ⟨.str _, H, I.tok _, ⟨_, rfl⟩, (by rw [PyData.shown_bool] at q; exact q)⟩
  | int i =>
    obtain ⟨t, rfl⟩ := r
    have hi : i.natAbs.log2 < 1920 := of_decide_eq_true (by unfold PyData.showable at h1; exact h1)
    exact PySem.P.repr_of_int hi ⟨.str _, H, I.tok _, ⟨_, rfl⟩, (by rw [PyData.shown_int] at q; exact q)⟩
  | str x =>
    obtain ⟨t, rfl⟩ := r
    refine PySem.P.repr_of_str ⟨.str _, H, I.tok _, ⟨_, rfl⟩, (by rw [PyData.shown_str] at q; exact q)⟩ (by rw [PyData.shown_str] at h4; exact h4)
  | lst h5 h6 =>
    cases r
    exact repr_of_reads' rd h1 (fun z => by rw [h2] at z; cases z) hc (by omega) (fun b o e => e) (fun h' t tk k => fin h' t tk k) h4
  | tup h5 h6 =>
    cases r
    exact repr_of_reads' rd h1 (fun z => by rw [h2] at z; cases z) hc (by omega) (fun b o e => e) (fun h' t tk k => fin h' t tk k) h4
def rRepr (K : PySem.W.Frag) : List V → Hp → VK → Prop := fun xs H Q => ∃ v d, xs = [v] ∧ Dp K H v d ∧ Shown d ∧ Q (.str d.shown) H
theorem call_repr (hc : Calm X.A) (hu : X.A.units + 200 < cLine) : CallR X (.builtin "repr") (rRepr X.K) := by
  intro pins s σ H xs us Q I r h
  obtain ⟨v, d, rfl, hd, hs, q⟩ := h
  cases r with
  | cons r1 r2 =>
    cases r2
    exact repr_val hc hu I r1 hd hs q
end

/-! ### a power of great ints -/
section
variable {X : Cx}
def CPowW (i j : Int) : Prop := 0 ≤ j ∧ (Builtin.Int.intBits i : Int) * j ≤ 2 ^ 27
theorem op_powW : OpR X (binaryOp .Pow) (rI CPowW fun i j => .int (i ^ j.toNat)) := opI fun _ _ _ _ _ _ _ hc q => pow_int hc.1 hc.2 q
end
/-! ### the law's own head -/
theorem entry {P : Program} {w : World} {K : PySem.W.Frag} {mg mb : Str → Option Value} {CX : CXT} {lev : Nat} {fa at1 : Addr} {fd : FuncData} {x : Str} {sp : Sp} {s1 : Shared} {us : List Value} {ns : List Int}
    (KX : K.In s1.heap) (hns : s1.heap.Ns mainGlobals mg) (hb : s1.heap.Ns builtinsNs mb) (hbb : ∀ y : Str, y ≠ "__name__" → mb y = bootBuiltins y) (hlim : s1.heap.NoLimit) (hgen : s1.gens = #[])
    (ha : s1.heap.get? at1 = some { cls := .type "list", data := .seq us.toArray }) (hi : IntsAre us ns) (hl : ns.length ≤ sizeLine) (hr : Room lev callerA)
    (F : ∀ base : Heap, K.In base → base.Ns mainGlobals mg → FnG P w K mg base CX lev fa fd [x] sp) (hbind : ∀ (s : Shared) (u : Value), BindsTo s fd ⟨[u], []⟩ [(x, u)])
    (hsp : ∀ H : Hp, Only H → SqL K H at1 (ns.map V.int) → sp [.ref at1] H (fun v _ => v = .bl true) fun _ _ _ => False) (hCX : ∀ H e s2, CX [] H s1 (fun _ _ _ => False) e s2 → False) :
    codeAny (model P w) callerA (.call (.ref fa) ⟨[.ref at1], []⟩) (fun r s2 => r = .ok (.ret (.bool true)) ∧ OldK s1.heap s2.heap ∧ s2.os = s1.os ∧ AllBare s2.gens) s1 := by
  have rv := vals_ints hi
  have lenV := hi.length
  have main : ∀ H : Hp, Only H → SqL K H at1 (ns.map V.int) → HOk P w H s1.heap → (∀ b, H b ≠ none → b = at1) → (H at1 ≠ none → K.lookup at1 = none) →
      codeAny (model P w) callerA (.call (.ref fa) ⟨[.ref at1], []⟩) (fun r s2 => r = .ok (.ret (.bool true)) ∧ OldK s1.heap s2.heap ∧ s2.os = s1.os ∧ AllBare s2.gens) s1 := by
    intro H hO hS hok only hK
    have dictOut : ∀ {b : Addr} {o : Obj} {es : Array DictEntry} {ep : Nat}, s1.heap.get? b = some o → o.data = .dict es ep → H b = none := by
      intro b o es ep e d
      cases z : H b with
      | none => rfl
      | some u =>
        have eb : b = at1 := only b (by rw [z]; exact fun q => nomatch q)
        rw [eb, ha] at e
        cases e
        exact nomatch d
    have nsBase : ∀ {b : Addr} {m : Str → Option Value}, s1.heap.Ns b m → (hidT s1.heap H).Ns b m := by
      rintro b m ⟨o, es, ep, e, d, r⟩
      exact ⟨o, es, ep, hidT_get e (dictOut e d), d, r⟩
    have kBase : K.In (hidT s1.heap H) := by
      intro b o e
      refine hidT_get (KX b o e) ?_
      cases z : H b with
      | none => rfl
      | some u =>
        have eb : b = at1 := only b (by rw [z]; exact fun q => nomatch q)
        rw [eb] at z e
        rw [hK (by rw [z]; exact fun q => nomatch q)] at e
        cases e
    have md : Mod K mg (hidT s1.heap H) := by
      obtain ⟨mc, h1, h2⟩ := hlim
      exact ⟨kBase, nsBase hns, ⟨mb, nsBase hb, hbb⟩, ⟨mc, nsBase h1, h2⟩⟩
    have e0 : Env0 P w K mg (hidT s1.heap H) callerA [] s1 H :=
      ⟨rfl, md, fun b o e => of_hidT e, Nat.le_of_eq (hidT_size _ _), trivial, fun b z => (List.not_mem_nil (show b ∈ ([] : List Addr) from z)).elim, hok, .of_eq hgen⟩
    refine codeAny_mono ((F _ kBase (nsBase hns)).go callerA [] s1 H ⟨[.ref at1], []⟩ [.ref at1] [.ref at1] _ _ rfl hr e0 (hbind s1 (.ref at1)) (.cons rfl .nil) (hsp H hO hS)) fun r s2 h => ?_
    cases r with
    | error e => exact (hCX H e s2 h).elim
    | ok fl =>
      cases fl with
      | ret u =>
        obtain ⟨v, H2, os, bare, un, hok2, r2, q⟩ := h
        have q2 : v = .bl true := q
        subst q2
        obtain rfl : u = Value.bool true := r2
        refine ⟨rfl, OldK.of_keep fun b o e => ?_, os, bare⟩
        cases z : H b with
        | none => exact un.keep b o e z (fun y => (List.not_mem_nil (show b ∈ ([] : List Addr) from y)).elim) (by simp)
        | some u =>
          rcases hO b with y | ⟨ob, xs, y⟩
          · rw [z] at y
            cases y
          · obtain ⟨e1, _⟩ := hok b _ y
            obtain ⟨e2, _⟩ := hok2 b _ (un.frzs b ob _ y)
            rw [e] at e1
            cases e1
            exact e2
      | next => exact False.elim h
      | brk => exact False.elim h
      | cont => exact False.elim h
  cases hk : K.lookup at1 with
  | some o =>
    have e := KX at1 o hk
    rw [ha] at e
    cases e
    refine main (fun _ => none) (fun _ => .inl rfl) (.inr ⟨_, us.toArray, _, hk, rfl, rfl, rfl, by rw [List.size_toArray, lenV]; exact hl, by simpa using rv⟩) (fun b u z => nomatch (show (none : Option HO) = some u from z)) (fun b z => absurd rfl z) fun z => absurd rfl z
  | none =>
    have yes : ∀ b, b = at1 → (if b = at1 then some (HO.frz { cls := .type "list", data := .seq us.toArray } (.lst (ns.map V.int))) else none) = some (HO.frz { cls := .type "list", data := .seq us.toArray } (.lst (ns.map V.int))) := fun b e => if_pos e
    refine main (fun b => if b = at1 then some (.frz { cls := .type "list", data := .seq us.toArray } (.lst (ns.map V.int))) else none) (fun b => ?_) (.inl (.inr ⟨_, yes at1 rfl⟩)) (fun b u z => ?_) (fun b z => ?_) fun _ => hk
    · by_cases eb : b = at1
      · exact .inr ⟨_, _, yes b eb⟩
      · exact .inl (if_neg eb)
    · by_cases eb : b = at1
      · have z2 := (yes b eb).symm.trans z
        cases z2
        rw [eb]
        exact ⟨ha, by rw [List.length_map]; exact hl, us, _, rv, ha⟩
      · have z2 := (if_neg eb).symm.trans z
        cases z2
    · by_cases eb : b = at1
      · exact eb
      · exact absurd (if_neg eb) z

/-- what k_head leaves, from the law's promise -/
theorem walkG {l : PySem.W.OpenLaw} {n lev : Nat} {q : Program} {loose : List Str} {XP : (Str → Option Value) → Heap → Prop} {YP : World → Heap → Prop} {d : DefRec} {K : Params → PySem.W.Frag} {CX : World → CXT} {sp : World → Sp} {x : Str}
    (hn : l.most = some n) (hn2 : n ≤ sizeLine) (hdf : d.params.defaults = []) (hr : Room lev callerA) (hY : ∀ (w : World) (h : Heap), YP w h → (K w.params).In h)
    (F : ∀ (w : World) (mg : Str → Option Value) (fa : Addr) (h : Heap), (K w.params).In h → h.Ns mainGlobals mg → mg d.name = some (.ref fa) →
      ∃ fd : FuncData, (∀ (s : Shared) (u : Value), BindsTo s fd ⟨[u], []⟩ [(x, u)]) ∧ ∀ base : Heap, (K w.params).In base → base.Ns mainGlobals mg → FnG l.prog w (K w.params) mg base (CX w) lev fa fd [x] (sp w))
    (hsp : ∀ (w : World) (H : Hp) (at1 : Addr) (ns : List Int), ns.length ≤ n → Only H → SqL (K w.params) H at1 (ns.map V.int) → sp w [.ref at1] H (fun v _ => v = .bl true) fun _ _ _ => False)
    (hCX : ∀ (w : World) (H : Hp) (s : Shared) (e : Value) (s2 : Shared), CX w [] H s (fun _ _ _ => False) e s2 → False) :
    PySem.W.WalkO q loose XP YP l.row.toRowW d [] (fun f vs => PySem.call f vs) := by
  refine Att.attach_call hn hdf fun w s0 s1 mg mb fa o pm cd doc at1 us ns G Y ho hd hcd hmg hobj hints hlen hg => ?_
  have KX := hY w _ Y
  obtain ⟨fd, hb, hF⟩ := F w mg fa _ KX G.T.g hmg
  exact entry KX G.T.g G.T.b G.T.builtins G.T.nolimit hg hobj hints (Nat.le_trans hlen hn2) hr hF hb (fun H hO hS => hsp w H at1 ns hlen hO hS) fun H e s2 => hCX w H s1 e s2

end Cf

/-! Data as a whole: what a value is worth at a heap, and what stays of it. -/
namespace Cf
open PySem PySem.Spec PyProof.Rows L2

mutual
inductive At (H : Hp) : V → PyData → Prop
  | non : At H .non .none
  | bl (b : Bool) : At H (.bl b) (.bool b)
  | int (i : Int) : At H (.int i) (.int i)
  | str (x : Str) : At H (.str x) (.str x)
  | lst {p : Addr} {xs : List V} {ds : List PyData} : H p = some (.lst xs) → AtL H xs ds → At H (.ref p) (.list ds)
  | tup {p : Addr} {xs : List V} {ds : List PyData} : H p = some (.tup xs) → AtL H xs ds → At H (.ref p) (.tuple ds)
inductive AtL (H : Hp) : List V → List PyData → Prop
  | nil : AtL H [] []
  | cons {v : V} {vs : List V} {d : PyData} {ds : List PyData} : At H v d → AtL H vs ds → AtL H (v :: vs) (d :: ds)
end

mutual
theorem At.mono {H H2 : Hp} (s : Same H H2) : ∀ (d : PyData) (v : V), At H v d → At H2 v d
  | .none, _, h => by cases h; exact .non
  | .bool b, _, h => by cases h; exact .bl b
  | .int i, _, h => by cases h; exact .int i
  | .str x, _, h => by cases h; exact .str x
  | .list ds, _, h => by
    cases h with
    | lst e a => exact .lst (s _ _ e) (AtL.mono s ds _ a)
  | .tuple ds, _, h => by
    cases h with
    | tup e a => exact .tup (s _ _ e) (AtL.mono s ds _ a)
  | .dict _, _, h => by cases h
theorem AtL.mono {H H2 : Hp} (s : Same H H2) : ∀ (ds : List PyData) (vs : List V), AtL H vs ds → AtL H2 vs ds
  | [], _, h => by cases h; exact .nil
  | d :: ds, _, h => by
    cases h with
    | cons a r => exact .cons (At.mono s d _ a) (AtL.mono s ds _ r)
end
theorem At.up {H H2 : Hp} {d : PyData} {v : V} (h : At H v d) (s : Same H H2) : At H2 v d := At.mono s d v h
theorem AtL.up {H H2 : Hp} {ds : List PyData} {vs : List V} (h : AtL H vs ds) (s : Same H H2) : AtL H2 vs ds := AtL.mono s ds vs h

mutual
theorem At.dp {K : PySem.W.Frag} {H : Hp} : ∀ (d : PyData) (v : V), At H v d → Dp K H v d
  | .none, _, h => by cases h; exact .non
  | .bool b, _, h => by cases h; exact .bl b
  | .int i, _, h => by cases h; exact .int i
  | .str x, _, h => by cases h; exact .str x
  | .list ds, _, h => by
    cases h with
    | lst e a => exact .lst (SqL.of e) (AtL.dp ds _ a)
  | .tuple ds, _, h => by
    cases h with
    | tup e a => exact .tup (SqT.of e) (AtL.dp ds _ a)
  | .dict _, _, h => by cases h
theorem AtL.dp {K : PySem.W.Frag} {H : Hp} : ∀ (ds : List PyData) (vs : List V), AtL H vs ds → DpAll K H vs ds
  | [], _, h => by cases h; exact .nil
  | d :: ds, _, h => by
    cases h with
    | cons a r => exact .cons (At.dp d _ a) (AtL.dp ds _ r)
end

section
variable {H H2 : Hp} {v : V} {p : Addr} {vs ws : List V} {d e : PyData} {ds es : List PyData} {i : Int} {b : Bool} {x : Str}
theorem At.int_eq (h : At H v (.int i)) : v = .int i := by cases h; rfl
theorem At.bl_eq (h : At H v (.bool b)) : v = .bl b := by cases h; rfl
theorem At.str_eq (h : At H v (.str x)) : v = .str x := by cases h; rfl
theorem At.non_eq (h : At H v .none) : v = .non := by cases h; rfl
theorem At.lst_ex (h : At H v (.list ds)) : ∃ p xs, v = .ref p ∧ H p = some (.lst xs) ∧ AtL H xs ds := by
  cases h with
  | lst e a => exact ⟨_, _, rfl, e, a⟩
theorem At.tup_ex (h : At H v (.tuple ds)) : ∃ p xs, v = .ref p ∧ H p = some (.tup xs) ∧ AtL H xs ds := by
  cases h with
  | tup e a => exact ⟨_, _, rfl, e, a⟩
theorem AtL.length : ∀ {vs : List V} {ds : List PyData}, AtL H vs ds → vs.length = ds.length
  | [], _, h => by cases h; rfl
  | v :: vs, _, h => by
    cases h with
    | cons a r => rw [List.length_cons, List.length_cons, AtL.length r]
theorem AtL.append : ∀ {vs ws : List V} {ds es : List PyData}, AtL H vs ds → AtL H ws es → AtL H (vs ++ ws) (ds ++ es)
  | [], _, _, _, h, k => by cases h; exact k
  | v :: vs, _, _, _, h, k => by
    cases h with
    | cons a r => exact .cons a (AtL.append r k)
theorem AtL.get : ∀ {vs : List V} {ds : List PyData} {n : Nat} {d : PyData}, AtL H vs ds → ds[n]? = some d → ∃ v, vs[n]? = some v ∧ At H v d
  | [], _, _, _, h, e => by cases h; simp at e
  | v :: vs, _, 0, _, h, e => by
    cases h with
    | cons a r => exact ⟨v, rfl, by have e2 := Option.some.inj e; rw [← e2]; exact a⟩
  | v :: vs, _, n + 1, d, h, e => by
    cases h with
    | cons a r =>
      obtain ⟨w, h1, h2⟩ := AtL.get (n := n) (d := d) r (by simpa using e)
      exact ⟨w, by simpa using h1, h2⟩
theorem AtL.get2 : ∀ {vs : List V} {ds : List PyData} {n : Nat} {v : V}, AtL H vs ds → vs[n]? = some v → ∃ d, ds[n]? = some d ∧ At H v d
  | [], _, _, _, h, e => by simp at e
  | w :: vs, _, 0, _, h, e => by
    cases h with
    | cons a r => exact ⟨_, rfl, by have e2 := Option.some.inj e; rw [← e2]; exact a⟩
  | w :: vs, _, n + 1, v, h, e => by
    cases h with
    | cons a r =>
      obtain ⟨d, h1, h2⟩ := AtL.get2 (n := n) (v := v) r (by simpa using e)
      exact ⟨d, by simpa using h1, h2⟩
theorem AtL.take : ∀ {vs : List V} {ds : List PyData} (n : Nat), AtL H vs ds → AtL H (vs.take n) (ds.take n)
  | _, _, 0, _ => .nil
  | [], _, n + 1, h => by cases h; exact .nil
  | v :: vs, _, n + 1, h => by
    cases h with
    | cons a r => exact .cons a (AtL.take n r)
theorem AtL.drop : ∀ {vs : List V} {ds : List PyData} (n : Nat), AtL H vs ds → AtL H (vs.drop n) (ds.drop n)
  | _, _, 0, h => h
  | [], _, n + 1, h => by cases h; exact .nil
  | v :: vs, _, n + 1, h => by
    cases h with
    | cons a r => exact AtL.drop n r
theorem AtL.ints : ∀ {ns : List Int}, AtL H (ns.map V.int) (ns.map PyData.int)
  | [] => .nil
  | n :: ns => .cons (.int n) AtL.ints
theorem AtL.ints_eq : ∀ {ns : List Int} {vs : List V}, AtL H vs (ns.map PyData.int) → vs = ns.map V.int
  | [], _, h => by cases h; rfl
  | n :: ns, _, h => by
    cases h with
    | cons a r => rw [At.int_eq a, AtL.ints_eq r]; rfl
theorem AtL.one (h : At H v d) : AtL H [v] [d] := .cons h .nil
end

/-- a list of ints, as data -/
def intsD (ns : List Int) : PyData := .list (ns.map .int)
theorem ints_ex {H : Hp} {v : V} {ns : List Int} (h : At H v (intsD ns)) : ∃ p, v = .ref p ∧ H p = some (.lst (ns.map V.int)) := by
  obtain ⟨p, xs, e, hp, a⟩ := At.lst_ex h
  rw [AtL.ints_eq a] at hp
  exact ⟨p, e, hp⟩
theorem ints_at {H : Hp} {p : Addr} {ns : List Int} (h : H p = some (.lst (ns.map V.int))) : At H (.ref p) (intsD ns) := .lst h AtL.ints

/-! ### what grows: B is the part that stays, H all that is tracked -/
structure Grow (B H B2 H2 : Hp) : Prop where
  bb : Same B B2
  bh : Same B2 H2
  hh : Same H H2
  fr : ∀ b, H b ≠ none → B b = none → B2 b = none
theorem Grow.refl {B H : Hp} (s : Same B H) : Grow B H B H := ⟨Same.refl _, s, Same.refl _, fun _ _ h => h⟩
theorem ne_none_of {H H2 : Hp} (s : Same H H2) {b : Addr} (h : H b ≠ none) : H2 b ≠ none := fun e => by
  cases q : H b with
  | none => exact h q
  | some o => rw [s b o q] at e; cases e
theorem Grow.trans {B H B1 H1 B2 H2 : Hp} (g : Grow B H B1 H1) (k : Grow B1 H1 B2 H2) : Grow B H B2 H2 :=
  ⟨g.bb.trans k.bb, k.bh, g.hh.trans k.hh, fun b h e => k.fr b (ne_none_of g.hh h) (g.fr b h e)⟩
theorem same_new {H : Hp} {p : Addr} {o : HO} (h : H p = none) : Same H (upd H p o) := fun b u q => by
  rw [upd_ne (ne_of_none q h)]
  exact q
theorem Grow.new {B H : Hp} {p : Addr} {o : HO} (s : Same B H) (h : H p = none) : Grow B H (upd B p o) (upd H p o) := by
  refine ⟨same_new (s.free h), fun b u q => ?_, same_new h, fun b hb e => ?_⟩
  · by_cases eb : b = p
    · rw [eb, upd_same] at q
      rw [eb, upd_same]
      exact q
    · rw [upd_ne eb] at q
      rw [upd_ne eb]
      exact s b u q
  · have eb : b ≠ p := fun z => by
      rw [z] at hb
      exact hb h
    rw [upd_ne eb]
    exact e
/-- the same, where the new object is kept apart (it will be changed) -/
theorem Grow.own {B H : Hp} {p : Addr} {o : HO} (s : Same B H) (h : H p = none) : Grow B H B (upd H p o) :=
  ⟨Same.refl _, s.trans (same_new h), same_new h, fun _ _ e => e⟩

/-! ### the leaves of a reading -/
section
variable {K : PySem.W.Frag} {B H : Hp} {Q : VK} {x y v : V} {vs : List V} {ds es : List PyData} {d e : PyData} {i : Int} {n : Nat}
/-- a new list, a new tuple, of items that are data -/
theorem q_lst (s : Same B H) (a : AtL B vs ds) (hl : vs.length ≤ 100000) (q : ∀ v B2 H2, Grow B H B2 H2 → At B2 v (.list ds) → Q v H2) : vs.length ≤ sizeLine ∧ ∀ p, H p = none → Q (.ref p) (upd H p (.lst vs)) :=
  ⟨Nat.le_trans hl (by decide), fun p hp => q _ _ _ (Grow.new s hp) (.lst upd_same (a.up (same_new (s.free hp))))⟩
theorem q_tup (s : Same B H) (a : AtL B vs ds) (hl : vs.length ≤ 100000) (q : ∀ v B2 H2, Grow B H B2 H2 → At B2 v (.tuple ds) → Q v H2) : vs.length ≤ sizeLine ∧ ∀ p, H p = none → Q (.ref p) (upd H p (.tup vs)) :=
  ⟨Nat.le_trans hl (by decide), fun p hp => q _ _ _ (Grow.new s hp) (.tup upd_same (a.up (same_new (s.free hp))))⟩
theorem q_cat (s : Same B H) (a : At B x (.list ds)) (b : At B y (.list es)) (hl : ds.length + es.length ≤ 100000) (q : ∀ v B2 H2, Grow B H B2 H2 → At B2 v (.list (ds ++ es)) → Q v H2) : rCat x y H Q := by
  obtain ⟨p, xs, rfl, hp, ax⟩ := a.lst_ex
  obtain ⟨r, zs, rfl, hr, az⟩ := b.lst_ex
  refine ⟨p, r, xs, zs, rfl, rfl, s _ _ hp, s _ _ hr, ?_, fun t ht => ?_⟩
  · rw [ax.length, az.length]
    exact Nat.le_trans hl (by decide)
  · exact q _ _ _ (Grow.new s ht) (.lst upd_same ((ax.append az).up (same_new (s.free ht))))
theorem q_ix (s : Same B H) (a : At B x (.list ds)) (h0 : 0 ≤ i) (hd : ds[i.toNat]? = some d) (q : ∀ v, At B v d → Q v H) : rIxL K x (.int i) H Q := by
  obtain ⟨p, xs, rfl, hp, ax⟩ := a.lst_ex
  obtain ⟨w, h1, h2⟩ := ax.get hd
  refine ⟨p, xs, i, w, rfl, rfl, SqL.of (s _ _ hp), ?_, q w h2⟩
  have z := atI_nat h1
  rw [show ((i.toNat : Nat) : Int) = i by omega] at z
  exact z
theorem q_ixT (s : Same B H) (a : At B x (.tuple ds)) (h0 : 0 ≤ i) (hd : ds[i.toNat]? = some d) (q : ∀ v, At B v d → Q v H) : rIxT K x (.int i) H Q := by
  obtain ⟨p, xs, rfl, hp, ax⟩ := a.tup_ex
  obtain ⟨w, h1, h2⟩ := ax.get hd
  refine ⟨p, xs, i, w, rfl, rfl, SqT.of (s _ _ hp), ?_, q w h2⟩
  have z := atI_nat h1
  rw [show ((i.toNat : Nat) : Int) = i by omega] at z
  exact z
theorem q_len (s : Same B H) (a : At B x (.list ds)) (q : Q (.int (ds.length : Int)) H) : ∃ p ys, [x] = [V.ref p] ∧ (SqL K H p ys ∨ SqT K H p ys) ∧ Q (.int ys.length) H := by
  obtain ⟨p, xs, rfl, hp, ax⟩ := a.lst_ex
  exact ⟨p, xs, rfl, .inl (SqL.of (s _ _ hp)), by rw [ax.length]; exact q⟩
theorem q_repr (s : Same B H) (a : At B x d) (hs : Shown d) (q : Q (.str d.shown) H) : rRepr K [x] H Q := ⟨x, d, rfl, (a.up s).dp, hs, q⟩
theorem q_eq (s : Same B H) (a : At B x d) (b : At B y e) (h1 : SeqAt.shaped d = true) (h2 : SeqAt.shaped e = true) (q : Q (.bl (PyData.eqv d e)) H) : rEqD K x y H Q := ⟨d, e, (a.up s).dp, (b.up s).dp, h1, h2, q⟩
theorem q_ne (s : Same B H) (a : At B x d) (b : At B y e) (h1 : SeqAt.shaped d = true) (h2 : SeqAt.shaped e = true) (q : Q (.bl (!PyData.eqv d e)) H) : rNeD K x y H Q := ⟨d, e, (a.up s).dp, (b.up s).dp, h1, h2, q⟩
end
end Cf

/-! More leaves: a stepped range as a list, isinstance of data, draws that are turned. -/
namespace Cf
open PySem PySem.Spec PyProof.Rows L2

section
variable {X : Cx}
/-- list(range(a, b, c)) -/
def tStep (ta : TA) : TE := fun σ H Q => ta σ H fun vs H1 => ∃ (i j c : Int) (n : Nat), vs = [.int i, .int j, .int c] ∧ RgC i j c n ∧ n ≤ 2 ^ 24 ∧ ∀ p, H1 p = none → Q (.ref p) (upd H1 p (.lst ((List.range n).map fun k => V.int (i + (k : Nat) * c))))
theorem vals_step {i c : Int} {n : Nat} {acc : Array Value} (h : ItemsOf (fun k v => ∃ t, v = .int (i + k * c) t) acc n) : Vals ((List.range n).map fun k => V.int (i + (k : Nat) * c)) acc.toList := by
  have e : acc.toList.length = n := by
    rw [Array.length_toList]
    exact h.1
  rw [← e]
  refine vals_of_get acc.toList (fun k => V.int (i + (k : Nat) * c)) fun j u hj => ?_
  obtain ⟨t, rfl⟩ := h.2 j u (by rw [← hj, Array.getElem?_toList])
  exact ⟨t, rfl⟩
theorem pe_list_range {a b c : Expr} {ta : TA} {p pos p2 pos2 : Pos} (h1 : X.mg "list" = none) (h2 : X.mg "range" = none) (ha : PA X [a, b, c] ta) (hc : X.calm = true := by rfl) (g1 : Gl X "list" := by rfl) (g2 : Gl X "range" := by rfl)
    (hs : starEach [a, b, c] X.env = (false, eval a X.env) :: starEach [b, c] X.env := by rfl) (hpl : (backTo pos2 (starEach [b, c] X.env)).any (·.1) = false := by rfl)
    (na : starEach [.Call (.Name "range" p2) [a, b, c] [] pos2] X.env = (false, eval (.Call (.Name "range" p2) [a, b, c] [] pos2) X.env) :: starEach [] X.env := by rfl) :
    PE X (.Call (.Name "list" p) [.Call (.Name "range" p2) [a, b, c] [] pos2] [] pos) (tStep ta) := by
  have inner : ∀ (pins : List (Addr × Obj)) (s : Shared) (σ : L2.St) (H : Hp) (R : Int → Int → Int → Nat → Hp → Prop), Inv X pins σ H s → ta σ H (fun vs H1 => ∃ (i j c : Int) (n : Nat), vs = [.int i, .int j, .int c] ∧ RgC i j c n ∧ R i j c n H1) →
      wpAny (model X.prog X.w) X.A (eval (.Call (.Name "range" p2) [a, b, c] [] pos2) X.env) (fun x s2 => ∃ r i j c n t u v H2, x = .ref r ∧ IsRange s2.heap r i j c t u v ∧ RgC i j c n ∧ Inv X pins σ H2 s2 ∧ R i j c n H2) X.xe s := by
    intro pins s σ H R I h
    refine Call_ (ld_blt I g2 h2 boot_range (PyProof.Rows.callWith_type1 (thn (ha.run pos2 pins s σ H _ I h) fun us s1 ⟨vs, H1, I1, r1, q1⟩ => ?_) hs hpl))
    obtain ⟨i, j, k, n, e, rc, q⟩ := q1
    subst e
    cases r1 with
    | cons r rr =>
      cases rr with
      | cons r' rr =>
        cases rr with
        | cons r'' rr =>
          cases rr
          obtain ⟨t, rfl⟩ := r
          obtain ⟨t', rfl⟩ := r'
          obtain ⟨t'', rfl⟩ := r''
          exact call_range_3 rc.1 ⟨_, i, j, k, n, _, _, _, H1, rfl, IsRange.new _ _ _ _ _ _ _, rc, I1.kept fun b u e => Heap.get?_push_of_some _ e, q⟩ (.inl (PyProof.noPylong_small rc.2.1))
  refine ⟨fun pins s σ H Q I h => ?_⟩
  have h3 : ta σ H (fun vs H1 => ∃ (i j c : Int) (n : Nat), vs = [.int i, .int j, .int c] ∧ RgC i j c n ∧ (n ≤ 2 ^ 24 ∧ ∀ p, H1 p = none → Q (.ref p) (upd H1 p (.lst ((List.range n).map fun k => V.int (i + (k : Nat) * c)))))) := h
  refine Call_ (ld_blt I g1 h1 boot_list (PyProof.Rows.callWith_type1 (args_cons (thn (inner pins s σ H _ I h3) fun x s1 ⟨r, i, j, c, n, t, u, v, H1, ex, hr, rc, I1, hn, q⟩ => args_nil ?_) na) na))
  subst ex
  refine call_list_range (n := n) (I1.ok.hd hc) hr rc.2.2.1 rc.2.2.2 hn fun h' tk acc c' hk e' hi => ?_
  refine ⟨.ref s1.heap.objs.size, upd H1 s1.heap.objs.size (.lst ((List.range n).map fun k => V.int (i + (k : Nat) * c))), I1.laid hk (Nat.le_refl _) (show ObjOk X.prog X.w _ _ _ (.lst ((List.range n).map fun k => V.int (i + (k : Nat) * c))) from ⟨?_, acc.toList, c', vals_step hi, ?_⟩), rfl, q _ (I1.hok.fresh (Nat.le_refl _))⟩
  · rw [List.length_map, List.length_range, sizeLine_eq]
    omega
  · rw [Array.toArray_toList]
    exact e'
end

/-! ### kinds of data -/
def kindD : PyData → String
  | .none => "NoneType" | .bool _ => "bool" | .int _ => "int" | .str _ => "str" | .list _ => "list" | .tuple _ => "tuple" | .dict _ => "dict"
theorem At.ty {K : PySem.W.Frag} {H : Hp} {v : V} {d : PyData} (h : At H v d) : TyX K H v (.type (kindD d)) := by
  cases h with
  | non => exact .base .non
  | bl b => exact .base (.bl b)
  | int i => exact .base (.int i)
  | str x => exact .base (.str x)
  | lst e _ => exact .base (.lst e)
  | tup e _ => exact .base (.tup e)
theorem q_isi {K : PySem.W.Frag} {B H : Hp} {Q : VK} {x : V} {d : PyData} {n : String} {b : Bool} (s : Same B H) (a : At B x d) (h : kitB (kindD d) n = some b) (q : Q (.bl b) H) : rIsi K [x, .ty n] H Q :=
  ⟨x, .ty n, _, _, b, rfl, .ty n, (a.up s).ty, kit_ty h, q⟩

/-! ### where one object is turned: p is that object, B holds the rest -/
structure GrowP (p : Addr) (B H B2 H2 : Hp) : Prop where
  bb : Same B B2
  bh : Same B2 H2
  hh : ∀ b o, b ≠ p → H b = some o → H2 b = some o
  fr : ∀ b, H b ≠ none → B b = none → B2 b = none
  th : ∀ b, H b ≠ none → H2 b ≠ none
theorem GrowP.refl {p : Addr} {B H : Hp} (s : Same B H) : GrowP p B H B H := ⟨Same.refl _, s, fun _ _ _ h => h, fun _ _ h => h, fun _ h => h⟩
theorem GrowP.trans {p : Addr} {B H B1 H1 B2 H2 : Hp} (g : GrowP p B H B1 H1) (k : GrowP p B1 H1 B2 H2) : GrowP p B H B2 H2 :=
  ⟨g.bb.trans k.bb, k.bh, fun b o n h => k.hh b o n (g.hh b o n h), fun b h e => k.fr b (g.th b h) (g.fr b h e), fun b h => k.th b (g.th b h)⟩
theorem Grow.p {B H B2 H2 : Hp} (p : Addr) (g : Grow B H B2 H2) : GrowP p B H B2 H2 := ⟨g.bb, g.bh, fun b o _ h => g.hh b o h, g.fr, fun b h => ne_none_of g.hh h⟩
/-- p alone was turned -/
structure Turn (p : Addr) (H H2 : Hp) : Prop where
  hh : ∀ b o, b ≠ p → H b = some o → H2 b = some o
  th : ∀ b, H b ≠ none → H2 b ≠ none
theorem Turn.p {p : Addr} {B H H2 : Hp} (t : Turn p H H2) (s : Same B H) (h : B p = none) : GrowP p B H B H2 :=
  ⟨Same.refl _, fun b o e => t.hh b o (ne_of_none e h) (s b o e), t.hh, fun _ _ e => e, t.th⟩
theorem Turn.same {p : Addr} {H H2 : Hp} (t : Same H H2) : Turn p H H2 := ⟨fun b o _ e => t b o e, fun b h => ne_none_of t h⟩
theorem Turn.trans {p : Addr} {H H1 H2 : Hp} (t : Turn p H H1) (u : Turn p H1 H2) : Turn p H H2 := ⟨fun b o n e => u.hh b o n (t.hh b o n e), fun b h => u.th b (t.th b h)⟩
theorem Turn.upd {p : Addr} {H : Hp} {o u : HO} (h : H p = some u) : Turn p H (upd H p o) := ⟨fun b x n e => by rw [upd_ne n]; exact e, fun b hb => by
  by_cases e : b = p
  · rw [e, upd_same]; exact fun q => nomatch q
  · rw [upd_ne e]; exact hb⟩
theorem GrowP.turn {p : Addr} {B H B2 H2 : Hp} (g : GrowP p B H B2 H2) : Turn p H H2 := ⟨g.hh, g.th⟩

/-- the draws of a law: how much is left, how many were made (at most n), of what kind -/
def DrawsAt (H : Hp) (p : Addr) (n : Int) : Prop := ∃ (a k : Int) (b : Bool), H p = some (.lst [.int a, .int k, .bl b]) ∧ 0 ≤ k ∧ k ≤ n
theorem DrawsAt.some {H : Hp} {p : Addr} {n : Int} (h : DrawsAt H p n) : H p ≠ none := by
  obtain ⟨a, k, b, e, _⟩ := h
  rw [e]
  exact fun q => nomatch q
theorem DrawsAt.mono {H : Hp} {p : Addr} {n m : Int} (h : DrawsAt H p n) (l : n ≤ m) : DrawsAt H p m := by
  obtain ⟨a, k, b, e, h1, h2⟩ := h
  exact ⟨a, k, b, e, h1, by omega⟩
theorem DrawsAt.up {H H2 : Hp} {p : Addr} {n : Int} (h : DrawsAt H p n) (s : Same H H2) : DrawsAt H2 p n := by
  obtain ⟨a, k, b, e, h1⟩ := h
  exact ⟨a, k, b, s _ _ e, h1⟩
theorem DrawsAt.other {H H2 : Hp} {p q : Addr} {n : Int} (h : DrawsAt H q n) (t : Turn p H H2) (ne : q ≠ p) : DrawsAt H2 q n := by
  obtain ⟨a, k, b, e, h1⟩ := h
  exact ⟨a, k, b, t.hh _ _ ne e, h1⟩
theorem GrowP.more {p : Addr} {B H B2 H2 H3 : Hp} (g : GrowP p B H B2 H2) (s : Same H2 H3) : GrowP p B H B2 H3 :=
  ⟨g.bb, g.bh.trans s, fun b o n e => s b o (g.hh b o n e), g.fr, fun b h => ne_none_of s (g.th b h)⟩
theorem GrowP.add {p q : Addr} {o : HO} {B H B2 H2 : Hp} (g : GrowP p B H B2 H2) (h : H2 q = none) : GrowP p B H (upd B2 q o) (upd H2 q o) := g.trans ((Grow.new g.bh h).p p)
theorem GrowP.low {p : Addr} {B H B2 H2 H3 : Hp} (g : GrowP p B H B2 H2) (t : Turn p H2 H3) (h : B2 p = none) : GrowP p B H B2 H3 := g.trans (t.p g.bh h)
theorem GrowP.free {p : Addr} {B H B2 H2 : Hp} (g : GrowP p B H B2 H2) (h : H p ≠ none) (e : B p = none) : B2 p = none := g.fr p h e
theorem Same.ne {H H2 : Hp} {b : Addr} (s : Same H H2) (h : H b ≠ none) : H2 b ≠ none := ne_none_of s h

/-- an object q that came after Bd is changed: what was before stands -/
theorem GrowP.mut {p q : Addr} {o : HO} {B H Bd Hd H4 : Hp} (g : GrowP p B H Bd Hd) (s : Same Hd H4) (hq : Hd q = none) : GrowP p B H Bd (upd H4 q o) := by
  refine ⟨g.bb, fun b u e => ?_, fun b u n e => ?_, g.fr, fun b hb => ?_⟩
  · have e1 := g.bh b u e
    rw [upd_ne (ne_of_none e1 hq)]
    exact s b u e1
  · have e1 := g.hh b u n e
    rw [upd_ne (ne_of_none e1 hq)]
    exact s b u e1
  · have h1 := g.th b hb
    have n : b ≠ q := fun z => by rw [z] at h1; exact h1 hq
    rw [upd_ne n]
    exact ne_none_of s h1
theorem Grow.mut {q : Addr} {o : HO} {B H Bd Hd H4 : Hp} (g : Grow B H Bd Hd) (s : Same Hd H4) (hq : Hd q = none) : Grow B H Bd (upd H4 q o) := by
  refine ⟨g.bb, fun b u e => ?_, fun b u e => ?_, g.fr⟩
  · have e1 := g.bh b u e
    rw [upd_ne (ne_of_none e1 hq)]
    exact s b u e1
  · have e1 := g.hh b u e
    rw [upd_ne (ne_of_none e1 hq)]
    exact s b u e1

/-! ### a comprehension whose items are data -/
/-- over anything that is walked; the items may make objects -/
theorem lc_gen {J : It} {n : Nat} {G : Hp → Prop} {Y : Nat → Hp → V → Hp → Prop} (w : Walk J n G Y) {g : TG} {te : TE} {vs : List Nat} {σ : L2.St} {B H1 : Hp} {D : Addr} {Qd : Hp → Prop} (m : Nat → PyData)
    (hB : Same B H1) (hD : H1 D = none) (hn : n ≤ 100000) (hG : ∀ H2, Same H1 H2 → G H2) (hY : ∀ i H x H2, Y i H x H2 → Same H H2)
    (hs : ∀ i x B2 H2 H3, i < n → Y i H2 x H3 → Same B B2 → Same B2 H3 → Same H1 H3 → (∀ b, H1 b ≠ none → B b = none → B2 b = none) → ∀ R : VK, (∀ v B4 H4, Grow B2 H3 B4 H4 → At B4 v (m i) → R v H4) →
      g x (wipe σ vs) H3 fun σ2 H4 => wipe σ2 vs = wipe σ vs ∧ te σ2 H4 R)
    (hd : ∀ B2 H2, Grow B H1 B2 H2 → At B2 (.ref D) (.list ((List.range n).map m)) → Qd H2) :
    ∃ W : Nat → Nat → Hp → Prop, (∃ k, W 0 k (upd H1 D (.lst []))) ∧ ∀ i k H, W i k H →
      (J.stop i H ∧ Qd H) ∨ (J.go i H ∧ ∃ Nx : Hp → Prop, (∀ H2, Nx H2 → ∃ k2, k2 < k ∧ W (i + 1) k2 H2) ∧ ∀ x H2, J.yld i H x H2 → g x (wipe σ vs) H2 fun σ2 H3 => wipe σ2 vs = wipe σ vs ∧ tYes σ2 H3 fun b H4 =>
        if b = true then te σ2 H4 fun y H5 => ∃ acc, H5 D = some (.lst acc) ∧ acc.length < sizeLine ∧ Nx (upd H5 D (.lst (acc ++ [y]))) else Nx H4) := by
  refine lc_it w (fun i H2 => ∃ B2 acc, Same B B2 ∧ Same B2 H2 ∧ Same H1 H2 ∧ B2 D = none ∧ H2 D = some (.lst acc) ∧ AtL B2 acc ((List.range i).map m) ∧ ∀ b, H1 b ≠ none → B b = none → B2 b = none)
    ⟨B, [], Same.refl _, hB.trans (same_new hD), same_new hD, hB.free hD, upd_same, .nil, fun _ _ e => e⟩ (fun i H2 _ ⟨_, _, _, _, s, _⟩ => hG H2 s) ?_ ?_
  · rintro i x H2 H3 hi ⟨B2, acc, s1, s2, s3, hBD, hDa, ha, fr⟩ hy
    have s4 := hY i H2 x H3 hy
    have q := hs i x B2 H2 H3 hi hy s1 (s2.trans s4) (s3.trans s4) fr (fun y H5 => ∃ acc, H5 D = some (.lst acc) ∧ acc.length < sizeLine ∧ (∃ B2 acc2, Same B B2 ∧ Same B2 (upd H5 D (.lst (acc ++ [y]))) ∧ Same H1 (upd H5 D (.lst (acc ++ [y]))) ∧ B2 D = none ∧ upd H5 D (.lst (acc ++ [y])) D = some (.lst acc2) ∧ AtL B2 acc2 ((List.range (i + 1)).map m) ∧ ∀ b, H1 b ≠ none → B b = none → B2 b = none)) ?_
    · exact q
    · intro v B4 H4 g4 hv
      have h4 : H4 D = some (.lst acc) := g4.hh _ _ (s4 _ _ hDa)
      have hne : H3 D ≠ none := by
        rw [s4 _ _ hDa]
        exact fun z => nomatch z
      have b4 : B4 D = none := g4.fr D hne hBD
      refine ⟨acc, h4, ?_, B4, acc ++ [v], s1.trans g4.bb, fun b o e => ?_, fun b o e => ?_, b4, upd_same, ?_, fun b hb e => g4.fr b (ne_none_of (s3.trans s4) hb) (fr b hb e)⟩
      · have el := ha.length
        rw [List.length_map, List.length_range] at el
        exact Nat.lt_of_lt_of_le (show acc.length < 100000 by omega) (by decide)
      · rw [upd_ne (ne_of_none e b4)]
        exact g4.bh b o e
      · rw [upd_ne (ne_of_none e hD)]
        exact g4.hh b o (s4 _ _ (s3 b o e))
      · rw [List.range_succ, List.map_append]
        exact (ha.up g4.bb).append (AtL.one hv)
  · rintro H2 ⟨B2, acc, s1, s2, s3, hBD, hDa, ha, fr⟩
    refine hd (upd B2 D (.lst acc)) H2 ⟨s1.trans (same_new hBD), fun b o e => ?_, s3, fun b hb e => ?_⟩ (.lst upd_same (ha.up (same_new hBD)))
    · by_cases z : b = D
      · rw [z, upd_same] at e
        rw [z, hDa]
        exact e
      · rw [upd_ne z] at e
        exact s2 b o e
    · have z : b ≠ D := fun z => by
        rw [z] at hb
        exact hb hD
      rw [upd_ne z]
      exact fr b hb e
theorem one_kept {kp : Nat → Bool} {i : Nat} (h : kp i = true) : List.filter kp [i] = [i] := by simp [h]
theorem one_left {kp : Nat → Bool} {i : Nat} (h : kp i = false) : List.filter kp [i] = [] := by simp [h]
/-- the same, where a test says what is kept -/
theorem lc_genF {J : It} {n : Nat} {G : Hp → Prop} {Y : Nat → Hp → V → Hp → Prop} (w : Walk J n G Y) {g : TG} {tt : TT} {te : TE} {vs : List Nat} {σ : L2.St} {B H1 : Hp} {D : Addr} {Qd : Hp → Prop} (m : Nat → PyData) (kp : Nat → Bool)
    (hB : Same B H1) (hD : H1 D = none) (hn : n ≤ 100000) (hG : ∀ H2, Same H1 H2 → G H2) (hY : ∀ i H x H2, Y i H x H2 → Same H H2)
    (hs : ∀ i x B2 H2 H3, i < n → Y i H2 x H3 → Same B B2 → Same B2 H3 → Same H1 H3 → (∀ b, H1 b ≠ none → B b = none → B2 b = none) → ∀ (R : VK) (N : Hp → Prop), (kp i = true → ∀ v B4 H4, Grow B2 H3 B4 H4 → At B4 v (m i) → R v H4) → (kp i = false → ∀ B4 H4, Grow B2 H3 B4 H4 → N H4) →
      g x (wipe σ vs) H3 fun σ2 H4 => wipe σ2 vs = wipe σ vs ∧ tt σ2 H4 fun b H5 => if b = true then te σ2 H5 R else N H5)
    (hd : ∀ B2 H2, Grow B H1 B2 H2 → At B2 (.ref D) (.list (((List.range n).filter kp).map m)) → Qd H2) :
    ∃ W : Nat → Nat → Hp → Prop, (∃ k, W 0 k (upd H1 D (.lst []))) ∧ ∀ i k H, W i k H →
      (J.stop i H ∧ Qd H) ∨ (J.go i H ∧ ∃ Nx : Hp → Prop, (∀ H2, Nx H2 → ∃ k2, k2 < k ∧ W (i + 1) k2 H2) ∧ ∀ x H2, J.yld i H x H2 → g x (wipe σ vs) H2 fun σ2 H3 => wipe σ2 vs = wipe σ vs ∧ tt σ2 H3 fun b H4 =>
        if b = true then te σ2 H4 fun y H5 => ∃ acc, H5 D = some (.lst acc) ∧ acc.length < sizeLine ∧ Nx (upd H5 D (.lst (acc ++ [y]))) else Nx H4) := by
  refine lc_it w (fun i H2 => ∃ B2 acc, Same B B2 ∧ Same B2 H2 ∧ Same H1 H2 ∧ B2 D = none ∧ H2 D = some (.lst acc) ∧ AtL B2 acc (((List.range i).filter kp).map m) ∧ ∀ b, H1 b ≠ none → B b = none → B2 b = none)
    ⟨B, [], Same.refl _, hB.trans (same_new hD), same_new hD, hB.free hD, upd_same, .nil, fun _ _ e => e⟩ (fun i H2 _ ⟨_, _, _, _, s, _⟩ => hG H2 s) ?_ ?_
  · rintro i x H2 H3 hi ⟨B2, acc, s1, s2, s3, hBD, hDa, ha, fr⟩ hy
    have s4 := hY i H2 x H3 hy
    have hne : H3 D ≠ none := by
      rw [s4 _ _ hDa]
      exact fun z => nomatch z
    refine hs i x B2 H2 H3 hi hy s1 (s2.trans s4) (s3.trans s4) fr _ _ (fun hk v B4 H4 g4 hv => ?_) (fun hk B4 H4 g4 => ?_)
    · have h4 : H4 D = some (.lst acc) := g4.hh _ _ (s4 _ _ hDa)
      have b4 : B4 D = none := g4.fr D hne hBD
      refine ⟨acc, h4, ?_, B4, acc ++ [v], s1.trans g4.bb, fun b o e => ?_, fun b o e => ?_, b4, upd_same, ?_, fun b hb e => g4.fr b (ne_none_of (s3.trans s4) hb) (fr b hb e)⟩
      · have el := ha.length
        rw [List.length_map] at el
        have ef := List.length_filter_le kp (List.range i)
        rw [List.length_range] at ef
        exact Nat.lt_of_lt_of_le (show acc.length < 100000 by omega) (by decide)
      · rw [upd_ne (ne_of_none e b4)]
        exact g4.bh b o e
      · rw [upd_ne (ne_of_none e hD)]
        exact g4.hh b o (s4 _ _ (s3 b o e))
      · rw [List.range_succ, List.filter_append, List.map_append, one_kept hk]
        exact (ha.up g4.bb).append (AtL.one hv)
    · refine ⟨B4, acc, s1.trans g4.bb, g4.bh, (s3.trans s4).trans g4.hh, g4.fr D hne hBD, g4.hh _ _ (s4 _ _ hDa), ?_, fun b hb e => g4.fr b (ne_none_of (s3.trans s4) hb) (fr b hb e)⟩
      rw [List.range_succ, List.filter_append, one_left hk, List.append_nil]
      exact ha.up g4.bb
  · rintro H2 ⟨B2, acc, s1, s2, s3, hBD, hDa, ha, fr⟩
    refine hd (upd B2 D (.lst acc)) H2 ⟨s1.trans (same_new hBD), fun b o e => ?_, s3, fun b hb e => ?_⟩ (.lst upd_same (ha.up (same_new hBD)))
    · by_cases z : b = D
      · rw [z, upd_same] at e
        rw [z, hDa]
        exact e
      · rw [upd_ne z] at e
        exact s2 b o e
    · have z : b ≠ D := fun z => by
        rw [z] at hb
        exact hb hD
      rw [upd_ne z]
      exact fr b hb e
theorem same_YAt {xs : List V} : ∀ i H x H2, YAt xs i H x H2 → Same H H2 := fun i H x H2 h => by
  rw [h.1]
  exact Same.refl _
theorem same_YFn {f : Nat → V} : ∀ i H x H2, YFn f i H x H2 → Same H H2 := fun i H x H2 h => by
  rw [h.1]
  exact Same.refl _
/-- over a list of ints -/
theorem lc_ints {K : PySem.W.Frag} {a : Addr} {ns : List Int} {g : TG} {te : TE} {vs : List Nat} {σ : L2.St} {B H1 : Hp} {D : Addr} {Qd : Hp → Prop} (f : Int → PyData)
    (hB : Same B H1) (hD : H1 D = none) (hn : ns.length ≤ 100000) (ha : SqL K H1 a (ns.map V.int))
    (hs : ∀ d B2 H3, d ∈ ns → Same B B2 → Same B2 H3 → Same H1 H3 → (∀ b, H1 b ≠ none → B b = none → B2 b = none) → ∀ R : VK, (∀ v B4 H4, Grow B2 H3 B4 H4 → At B4 v (f d) → R v H4) →
      g (.int d) (wipe σ vs) H3 fun σ2 H4 => wipe σ2 vs = wipe σ vs ∧ te σ2 H4 R)
    (hd : ∀ B2 H2, Grow B H1 B2 H2 → At B2 (.ref D) (.list (ns.map f)) → Qd H2) :
    ∃ W : Nat → Nat → Hp → Prop, (∃ k, W 0 k (upd H1 D (.lst []))) ∧ ∀ i k H, W i k H →
      ((Itl K a).stop i H ∧ Qd H) ∨ ((Itl K a).go i H ∧ ∃ Nx : Hp → Prop, (∀ H2, Nx H2 → ∃ k2, k2 < k ∧ W (i + 1) k2 H2) ∧ ∀ x H2, (Itl K a).yld i H x H2 → g x (wipe σ vs) H2 fun σ2 H3 => wipe σ2 vs = wipe σ vs ∧ tYes σ2 H3 fun b H4 =>
        if b = true then te σ2 H4 fun y H5 => ∃ acc, H5 D = some (.lst acc) ∧ acc.length < sizeLine ∧ Nx (upd H5 D (.lst (acc ++ [y]))) else Nx H4) := by
  have hl : (ns.map V.int).length = ns.length := List.length_map _
  refine lc_gen (walk_list (K := K) (a := a) (xs := ns.map V.int)) (fun i => f (ns.getD i 0)) hB hD (by rw [hl]; exact hn) (fun H2 s => s.seq ha) same_YAt (fun i x B2 H2 H3 hi hy s1 s2 s3 fr R k => ?_) (fun B2 H2 g2 h2 => hd B2 H2 g2 ?_)
  · obtain ⟨rfl, hx⟩ := hy
    rw [List.getElem?_map] at hx
    cases z : ns[i]? with
    | none => rw [z] at hx; cases hx
    | some d =>
      rw [z] at hx
      have ex : x = V.int d := (Option.some.inj hx).symm
      rw [ex]
      refine hs d B2 H3 (List.mem_of_getElem? z) s1 s2 s3 fr R fun v B4 H4 g4 hv => k v B4 H4 g4 ?_
      rw [List.getD_eq_getElem?_getD, z]
      exact hv
  · have e : (List.range (ns.map V.int).length).map (fun i => f (ns.getD i 0)) = ns.map f := by
      rw [hl]
      apply List.ext_getElem?
      intro i
      rw [List.getElem?_map, List.getElem?_map]
      by_cases h : i < ns.length
      · rw [List.getElem?_range h, List.getElem?_eq_getElem h]
        show some (f (ns.getD i 0)) = some (f ns[i])
        rw [List.getD_eq_getElem?_getD, List.getElem?_eq_getElem h]
        rfl
      · rw [List.getElem?_eq_none (by simpa using h), List.getElem?_eq_none (by simpa using h)]
        rfl
    rw [e] at h2
    exact h2
/-- over range(lo, ..) -/
theorem lc_rng {lo : Int} {n : Nat} {g : TG} {te : TE} {vs : List Nat} {σ : L2.St} {B H1 : Hp} {D : Addr} {Qd : Hp → Prop} (f : Nat → PyData)
    (hB : Same B H1) (hD : H1 D = none) (hn : n ≤ 100000)
    (hs : ∀ (i : Nat) B2 H3, i < n → Same B B2 → Same B2 H3 → Same H1 H3 → (∀ b, H1 b ≠ none → B b = none → B2 b = none) → ∀ R : VK, (∀ v B4 H4, Grow B2 H3 B4 H4 → At B4 v (f i) → R v H4) →
      g (.int (lo + i)) (wipe σ vs) H3 fun σ2 H4 => wipe σ2 vs = wipe σ vs ∧ te σ2 H4 R)
    (hd : ∀ B2 H2, Grow B H1 B2 H2 → At B2 (.ref D) (.list ((List.range n).map f)) → Qd H2) :
    ∃ W : Nat → Nat → Hp → Prop, (∃ k, W 0 k (upd H1 D (.lst []))) ∧ ∀ i k H, W i k H →
      ((Itr lo n).stop i H ∧ Qd H) ∨ ((Itr lo n).go i H ∧ ∃ Nx : Hp → Prop, (∀ H2, Nx H2 → ∃ k2, k2 < k ∧ W (i + 1) k2 H2) ∧ ∀ x H2, (Itr lo n).yld i H x H2 → g x (wipe σ vs) H2 fun σ2 H3 => wipe σ2 vs = wipe σ vs ∧ tYes σ2 H3 fun b H4 =>
        if b = true then te σ2 H4 fun y H5 => ∃ acc, H5 D = some (.lst acc) ∧ acc.length < sizeLine ∧ Nx (upd H5 D (.lst (acc ++ [y]))) else Nx H4) :=
  lc_gen (walk_range (lo := lo) (n := n)) f hB hD hn (fun _ _ => trivial) same_YFn (fun i x B2 H2 H3 hi hy s1 s2 s3 fr R k => by
    obtain ⟨rfl, rfl⟩ := hy
    exact hs i B2 H3 hi s1 s2 s3 fr R k) hd

/-! ### how long a text is that shows data -/
structure Sm (k n : Nat) (d : PyData) : Prop where
  sh : d.showable = true
  ly : d.canLay0 = true
  dp : d.depth ≤ k
  ln : d.shown.length ≤ n
theorem Sm.shown {k n : Nat} {d : PyData} (h : Sm k n d) (hk : k ≤ 100) (hn : n ≤ 16777216) : Shown d := ⟨h.sh, PyData.hasDict_of_canLay d h.ly, Nat.le_trans h.dp hk, Nat.le_trans h.ln hn⟩
theorem log2_12 {i : Int} (h : i.natAbs < 10 ^ 12) : i.natAbs.log2 < 1920 := by
  by_cases z : i.natAbs = 0
  · rw [z]
    decide
  · have h2 : i.natAbs < 2 ^ 40 := Nat.lt_of_lt_of_le h (by decide)
    have := (Nat.log2_lt z).mpr h2
    omega
theorem Sm.int {i : Int} (h : i.natAbs < 10 ^ 12) : Sm 0 13 (.int i) :=
  ⟨by simp only [PyData.showable]; exact decide_eq_true (log2_12 h), by simp only [PyData.canLay0], by simp only [PyData.depth]; exact Nat.le_refl _, PyData.shown_int_le h⟩
theorem Sm.non : Sm 0 13 .none := ⟨by simp only [PyData.showable], by simp only [PyData.canLay0], by simp only [PyData.depth]; exact Nat.le_refl _, by rw [PyData.shown_none]; decide⟩
theorem Sm.bl (b : Bool) : Sm 0 13 (.bool b) := ⟨by simp only [PyData.showable], by simp only [PyData.canLay0], by simp only [PyData.depth]; exact Nat.le_refl _, by rw [PyData.shown_bool]; cases b <;> decide⟩
theorem sm_all {k n : Nat} : ∀ {ds : List PyData}, (∀ d ∈ ds, Sm k n d) → PyData.showableAll ds = true ∧ PyData.canLayAll0 ds = true ∧ PyData.depthAll ds ≤ k ∧ ((PyData.shownAll ds).map (·.length)).sum ≤ ds.length * n
  | [], _ => ⟨by simp only [PyData.showableAll], by simp only [PyData.canLayAll0], by simp only [PyData.depthAll]; exact Nat.zero_le _, by simp [PyData.shownAll_nil]⟩
  | d :: ds, h => by
    have h1 := h d List.mem_cons_self
    obtain ⟨a, b, c, e⟩ := sm_all (ds := ds) fun x hx => h x (List.mem_cons_of_mem _ hx)
    refine ⟨by simp only [PyData.showableAll, h1.sh, a, Bool.and_self], by simp only [PyData.canLayAll0, h1.ly, b, Bool.and_self], by simp only [PyData.depthAll]; exact Nat.max_le.mpr ⟨h1.dp, c⟩, ?_⟩
    rw [PyData.shownAll_cons, List.map_cons, List.sum_cons, List.length_cons, Nat.succ_mul]
    have := h1.ln
    omega
theorem Sm.list {k n m : Nat} {ds : List PyData} (h : ∀ d ∈ ds, Sm k n d) (hl : ds.length ≤ m) : Sm (k + 1) (m * (n + 2) + 3) (.list ds) := by
  obtain ⟨a, b, c, e⟩ := sm_all h
  refine ⟨by simp only [PyData.showable]; exact a, by simp only [PyData.canLay0]; exact b, by simp only [PyData.depth]; omega, ?_⟩
  have q := listText_len_le (PyData.shownAll ds)
  rw [PyData.shownAll_length] at q
  have e2 : (PyData.list ds).shown = listText (PyData.shownAll ds) := by simp only [PyData.shown]
  have e3 : ds.length * (n + 2) = ds.length * n + 2 * ds.length := by rw [Nat.mul_add]; omega
  have e4 : ds.length * (n + 2) ≤ m * (n + 2) := Nat.mul_le_mul_right _ hl
  rw [e2]
  omega
theorem Sm.tuple {k n m : Nat} {ds : List PyData} (h : ∀ d ∈ ds, Sm k n d) (hl : ds.length ≤ m) : Sm (k + 1) (m * (n + 2) + 3) (.tuple ds) := by
  obtain ⟨a, b, c, e⟩ := sm_all h
  refine ⟨by simp only [PyData.showable]; exact a, by simp only [PyData.canLay0]; exact b, by simp only [PyData.depth]; omega, ?_⟩
  have q := tupleText_len_le (PyData.shownAll ds)
  rw [PyData.shownAll_length] at q
  have e2 : (PyData.tuple ds).shown = tupleText (PyData.shownAll ds) := by simp only [PyData.shown]
  have e3 : ds.length * (n + 2) = ds.length * n + 2 * ds.length := by rw [Nat.mul_add]; omega
  have e4 : ds.length * (n + 2) ≤ m * (n + 2) := Nat.mul_le_mul_right _ hl
  rw [e2]
  omega
theorem Sm.mono {k n k2 n2 : Nat} {d : PyData} (h : Sm k n d) (hk : k ≤ k2) (hn : n ≤ n2) : Sm k2 n2 d := ⟨h.sh, h.ly, Nat.le_trans h.dp hk, Nat.le_trans h.ln hn⟩
theorem Sm.ints {ns : List Int} {m : Nat} (h : ∀ n ∈ ns, n.natAbs < 10 ^ 12) (hl : ns.length ≤ m) : Sm 1 (m * 15 + 3) (intsD ns) := by
  refine Sm.list (k := 0) (n := 13) (fun d hd => ?_) (by rw [List.length_map]; exact hl)
  obtain ⟨n, hn, rfl⟩ := List.mem_map.mp hd
  exact Sm.int (h n hn)
theorem Sm.pair {k n : Nat} {a b : PyData} (h1 : Sm k n a) (h2 : Sm k n b) : Sm (k + 1) (2 * (n + 2) + 3) (.list [a, b]) :=
  Sm.list (fun d hd => by
    rcases List.mem_cons.mp hd with e | hd
    · rw [e]; exact h1
    · rcases List.mem_cons.mp hd with e | hd
      · rw [e]; exact h2
      · cases hd) (Nat.le_refl 2)

/-! ### data that can be compared -/
theorem Sm.shaped {k n : Nat} {d : PyData} (h : Sm k n d) (hk : k ≤ 64) : SeqAt.shaped d = true := by
  have e : decide (d.depth ≤ 64) = true := decide_eq_true (Nat.le_trans h.dp hk)
  unfold SeqAt.shaped
  rw [h.ly, e]
  rfl
theorem eqv_same {k n : Nat} {d : PyData} (h : Sm k n d) : PyData.eqv d d = true := SeqAt.eqv_refl d h.ly
/-! ### the rules that name the written part, with its name given -/
section
variable {X : Cx} {K : PySem.W.Frag}
theorem kx_list (e : X.K = K) : IxR X (rIxL K) := by subst e; exact ix_list
theorem kx_tup (e : X.K = K) : IxR X (rIxT K) := by subst e; exact ix_tup
theorem k_len (e : X.K = K) : CallR X (.builtin "len") (fun xs H Q => ∃ p ys, xs = [.ref p] ∧ (SqL K H p ys ∨ SqT K H p ys) ∧ Q (.int ys.length) H) := by subst e; exact call_len_seq
theorem k_eqD (e : X.K = K) (hu : X.A.units + 64 < cLine) : OpR X (compareOp .Eq) (rEqD K) := by subst e; exact op_eqD hu
theorem k_neD (e : X.K = K) (hu : X.A.units + 64 < cLine) : OpR X (compareOp .NotEq) (rNeD K) := by subst e; exact op_neD hu
theorem k_in (e : X.K = K) : OpR X (compareOp .In) (rIn K false) := by subst e; exact op_in_seq
theorem k_notin (e : X.K = K) : OpR X (compareOp .NotIn) (rIn K true) := by subst e; exact op_notIn_seq
theorem k_sl (e : X.K = K) : SlR X (rSlL K) := by subst e; exact sl_list
theorem k_slT (e : X.K = K) : SlR X (rSlT K) := by subst e; exact sl_tup
theorem k_repr (e : X.K = K) (hc : Calm X.A) (hu : X.A.units + 200 < cLine) : CallR X (.builtin "repr") (rRepr K) := by subst e; exact call_repr hc hu
theorem k_isi (e : X.K = K) : CallR X (.builtin "isinstance") (rIsi K) := by subst e; exact call_isi
theorem k_list_of (e : X.K = K) : CallR X (.type "list") (fun xs H Q => ∃ p ys, xs = [.ref p] ∧ (SqL K H p ys ∨ SqT K H p ys) ∧ ∀ l, H l = none → Q (.ref l) (upd H l (.lst ys))) := by subst e; exact call_list_of
theorem k_tuple_of (e : X.K = K) : CallR X (.type "tuple") (fun xs H Q => ∃ p ys, xs = [.ref p] ∧ ((SqL K H p ys ∧ ∀ l, H l = none → Q (.ref l) (upd H l (.tup ys))) ∨ (SqT K H p ys ∧ Q (.ref p) H))) := by subst e; exact call_tuple_of
theorem k_index (e : X.K = K) : MtR X "list.index" (rIndex K) := by subst e; exact mt_index

end
theorem u200 {k : Nat} {A : Around} (r : Room k A) : A.units + 200 < cLine := by
  have := r.un
  omega
end Cf

namespace Cf
open PySem PySem.Spec PyProof.Rows L2

/-! ### the mathematics -/
def isI : PyData → Bool
  | .int _ => true
  | _ => false
/-- a tree's left depths, from the right -/
inductive Tr : List Int → Prop
  | leaf : Tr [0]
  | cons {d e : Int} {r : List Int} : Tr (e :: r) → 1 ≤ d → d ≤ e + 1 → Tr (d :: e :: r)
theorem Tr.pos {ns : List Int} (h : Tr ns) : 0 < ns.length := by cases h <;> simp
theorem Tr.last : ∀ {ns : List Int}, Tr ns → ns[ns.length - 1]? = some 0
  | _, .leaf => rfl
  | _, .cons (r := r) h _ _ => by
    have q := Tr.last h
    simpa using q
theorem Tr.ge : ∀ {ns : List Int}, Tr ns → ∀ (i : Nat) (d : Int), ns[i]? = some d → (if i = ns.length - 1 then 0 else 1) ≤ d
  | _, .leaf, i, d, h => by
    cases i with
    | zero => simp at h; simp [h]
    | succ i => simp at h
  | _, .cons (d := a) (e := e) (r := r) t h1 h2, 0, d, h => by
    simp at h
    simp
    omega
  | _, .cons (d := a) (e := e) (r := r) t h1 h2, i + 1, d, h => by
    have q := Tr.ge t i d (by simpa using h)
    simp at q ⊢
    exact q
theorem Tr.nonneg {ns : List Int} (h : Tr ns) {d : Int} (m : d ∈ ns) : 0 ≤ d := by
  obtain ⟨i, hi⟩ := List.mem_iff_getElem?.mp m
  have q := h.ge i d hi
  split at q <;> omega
theorem Tr.step : ∀ {ns : List Int}, Tr ns → ∀ (i : Nat) (d e : Int), ns[i]? = some d → ns[i + 1]? = some e → d ≤ e + 1
  | _, .leaf, i, d, e, h, k => by simp at k
  | _, .cons (d := a) (e := b) (r := r) t h1 h2, 0, d, e, h, k => by
    simp at h k
    omega
  | _, .cons (d := a) (e := b) (r := r) t h1 h2, i + 1, d, e, h, k => Tr.step t i d e (by simpa using h) (by simpa using k)
theorem Tr.bound : ∀ {ns : List Int}, Tr ns → ∀ d ∈ ns, d < (ns.length : Int)
  | _, .leaf, d, h => by simp at h; simp [h]
  | _, .cons (d := a) (e := e) (r := r) t h1 h2, d, h => by
    have q := Tr.bound t
    rcases List.mem_cons.mp h with z | z
    · have q1 := q e (List.mem_cons_self)
      simp only [List.length_cons] at q1 ⊢
      omega
    · have q1 := q d z
      simp only [List.length_cons] at q1 ⊢
      omega
/-- n - 1, .., 1, 0 -/
def downs : Nat → List Int
  | 0 => []
  | n + 1 => (n : Int) :: downs n
theorem downs_len : ∀ n, (downs n).length = n
  | 0 => rfl
  | n + 1 => by rw [downs, List.length_cons, downs_len n]
theorem downs_tr : ∀ n, Tr (downs (n + 1))
  | 0 => .leaf
  | n + 1 => by
    have q := downs_tr n
    rw [downs] at q ⊢
    rw [downs]
    exact .cons q (by omega) (by omega)
theorem downs_get : ∀ (n i : Nat), i < n → (downs n)[i]? = some ((n : Int) - 1 - i)
  | 0, i, h => by omega
  | n + 1, 0, h => by simp [downs]
  | n + 1, i + 1, h => by
    rw [downs, List.getElem?_cons_succ, downs_get n i (by omega)]
    congr 1
    omega
theorem downs_range (n : Nat) : (List.range n).map (fun k => V.int ((n : Int) - 1 + (k : Nat) * (-1))) = (downs n).map V.int := by
  apply List.ext_getElem?
  intro i
  rw [List.getElem?_map, List.getElem?_map]
  by_cases h : i < n
  · rw [List.getElem?_range h, downs_get n i h]
    simp
    omega
  · rw [List.getElem?_eq_none (by simpa using h), List.getElem?_eq_none (by rw [downs_len]; omega)]
    rfl
theorem ex_int {ns : List Int} {i : Nat} {x : V} (h : (ns.map V.int)[i]? = some x) : ∃ d, ns[i]? = some d ∧ x = V.int d := by
  rw [List.getElem?_map] at h
  cases z : ns[i]? with
  | none => rw [z] at h; cases h
  | some d => rw [z] at h; exact ⟨d, rfl, (Option.some.inj h).symm⟩
/-- the mark of a left depth -/
def mk (d t r : Int) : Int := if d < t then d else t + (d - t) % r

def topS (i : Nat) : Stmt := PySem.Challenge.pw_cutfolds_k06_whole_trees_that_agree.main.body.getD i (.Pass ⟨0, 0, 0, 0⟩)
abbrev s_is_whole : Stmt := topS 9
abbrev N_is_whole : List Str := ["thing"]
theorem sc_is_whole : FnScope ["thing"] ["thing"] (defScope s_is_whole) := ⟨rfl, rfl, rfl, by decide +kernel, rfl, by decide +kernel, by decide +kernel⟩
abbrev s_is_whole_within : Stmt := topS 10
abbrev N_is_whole_within : List Str := ["thing", "least", "most"]
theorem sc_is_whole_within : FnScope ["thing", "least", "most"] ["thing", "least", "most"] (defScope s_is_whole_within) := ⟨rfl, rfl, rfl, by decide +kernel, rfl, by decide +kernel, by decide +kernel⟩
abbrev s_check_tail : Stmt := topS 11
abbrev N_check_tail : List Str := ["tail"]
theorem sc_check_tail : FnScope ["tail"] ["tail"] (defScope s_check_tail) := ⟨rfl, rfl, rfl, by decide +kernel, rfl, by decide +kernel, by decide +kernel⟩
abbrev s_check_ring : Stmt := topS 12
abbrev N_check_ring : List Str := ["ring"]
theorem sc_check_ring : FnScope ["ring"] ["ring"] (defScope s_check_ring) := ⟨rfl, rfl, rfl, by decide +kernel, rfl, by decide +kernel, by decide +kernel⟩
abbrev s_check_tree : Stmt := topS 13
abbrev N_check_tree : List Str := ["tree", "last", "index", "depth"]
theorem sc_check_tree : FnScope ["tree", "last", "index", "depth"] ["tree"] (defScope s_check_tree) := ⟨rfl, rfl, rfl, by decide +kernel, rfl, by decide +kernel, by decide +kernel⟩
abbrev s_check_two_trees : Stmt := topS 14
abbrev N_check_two_trees : List Str := ["tree", "other"]
theorem sc_check_two_trees : FnScope ["tree", "other"] ["tree", "other"] (defScope s_check_two_trees) := ⟨rfl, rfl, rfl, by decide +kernel, rfl, by decide +kernel, by decide +kernel⟩
abbrev s_mark_of : Stmt := topS 19
abbrev N_mark_of : List Str := ["depth", "tail", "ring"]
theorem sc_mark_of : FnScope ["depth", "tail", "ring"] ["depth", "tail", "ring"] (defScope s_mark_of) := ⟨rfl, rfl, rfl, by decide +kernel, rfl, by decide +kernel, by decide +kernel⟩
abbrev s_marks_of : Stmt := topS 16
abbrev N_marks_of : List Str := ["tree", "tail", "ring", "depth"]
theorem sc_marks_of : FnScope ["tree", "tail", "ring", "depth"] ["tree", "tail", "ring"] (defScope s_marks_of) := ⟨rfl, rfl, rfl, by decide +kernel, rfl, by decide +kernel, by decide +kernel⟩
abbrev s_parting_leaf : Stmt := topS 18
abbrev N_parting_leaf : List Str := ["tree", "other", "tail", "ring", "ours", "theirs", "index", "our"]
theorem sc_parting_leaf : FnScope ["tree", "other", "tail", "ring", "ours", "theirs", "index", "our"] ["tree", "other", "tail", "ring"] (defScope s_parting_leaf) := ⟨rfl, rfl, rfl, by decide +kernel, rfl, by decide +kernel, by decide +kernel⟩
abbrev s_are_alike : Stmt := topS 17
abbrev N_are_alike : List Str := ["tree", "other", "tail", "ring"]
theorem sc_are_alike : FnScope ["tree", "other", "tail", "ring"] ["tree", "other", "tail", "ring"] (defScope s_are_alike) := ⟨rfl, rfl, rfl, by decide +kernel, rfl, by decide +kernel, by decide +kernel⟩
abbrev s_l_halves : Stmt := topS 25
abbrev N_l_halves : List Str := ["_law_a_tree", "_law_at", "_law_a_depth"]
theorem sc_l_halves : FnScope ["_law_a_tree", "_law_at", "_law_a_depth"] ["_law_a_tree"] (defScope s_l_halves) := ⟨rfl, rfl, rfl, by decide +kernel, rfl, by decide +kernel, by decide +kernel⟩
abbrev s_l_after : Stmt := topS 26
abbrev N_l_after : List Str := ["_law_one", "_law_a_tail", "_law_a_ring"]
theorem sc_l_after : FnScope ["_law_one", "_law_a_tail", "_law_a_ring"] ["_law_one", "_law_a_tail", "_law_a_ring"] (defScope s_l_after) := ⟨rfl, rfl, rfl, by decide +kernel, rfl, by decide +kernel, by decide +kernel⟩
abbrev s_l_folded : Stmt := topS 27
abbrev N_l_folded : List Str := ["_law_a_tree", "_law_row", "_law_a_tail", "_law_a_ring", "_law_a_left", "_law_a_right", "_law_ahead", "_law_once", "_law_often", "_law_one"]
theorem sc_l_folded : FnScope ["_law_a_tree", "_law_row", "_law_a_tail", "_law_a_ring", "_law_a_left", "_law_a_right", "_law_ahead", "_law_once", "_law_often", "_law_one"] ["_law_a_tree", "_law_row", "_law_a_tail", "_law_a_ring"] (defScope s_l_folded) := ⟨rfl, rfl, rfl, by decide +kernel, rfl, by decide +kernel, by decide +kernel⟩
abbrev s_l_is_tree : Stmt := topS 28
abbrev N_l_is_tree : List Str := ["_law_row", "_law_at", "_law_a_depth"]
theorem sc_l_is_tree : FnScope ["_law_row", "_law_at", "_law_a_depth"] ["_law_row"] (defScope s_l_is_tree) := ⟨rfl, rfl, rfl, by decide +kernel, rfl, by decide +kernel, by decide +kernel⟩
abbrev s_l_draws : Stmt := topS 21
abbrev N_l_draws : List Str := ["_law_cell"]
theorem sc_l_draws : FnScope ["_law_cell"] ["_law_cell"] (defScope s_l_draws) := ⟨rfl, rfl, rfl, by decide +kernel, rfl, by decide +kernel, by decide +kernel⟩
abbrev s_l_next : Stmt := topS 22
abbrev N_l_next : List Str := ["_law_draws_here", "_law_k", "_law_drawn"]
theorem sc_l_next : FnScope ["_law_draws_here", "_law_k", "_law_drawn"] ["_law_draws_here"] (defScope s_l_next) := ⟨rfl, rfl, rfl, by decide +kernel, rfl, by decide +kernel, by decide +kernel⟩
abbrev s_l_tree : Stmt := topS 23
abbrev N_l_tree : List Str := ["_law_draws_here", "_law_many", "_law_shape", "_law_told", "_law_at", "_law_pick", "_law_most", "_law_a_depth"]
theorem sc_l_tree : FnScope ["_law_draws_here", "_law_many", "_law_shape", "_law_told", "_law_at", "_law_pick", "_law_most", "_law_a_depth"] ["_law_draws_here", "_law_many"] (defScope s_l_tree) := ⟨rfl, rfl, rfl, by decide +kernel, rfl, by decide +kernel, by decide +kernel⟩
abbrev s_l_cycle : Stmt := topS 24
abbrev N_l_cycle : List Str := ["_law_draws_here", "_law_pick", "_law_a_tail"]
theorem sc_l_cycle : FnScope ["_law_draws_here", "_law_pick", "_law_a_tail"] ["_law_draws_here"] (defScope s_l_cycle) := ⟨rfl, rfl, rfl, by decide +kernel, rfl, by decide +kernel, by decide +kernel⟩
abbrev s_l_other : Stmt := topS 29
abbrev N_l_other : List Str := ["_law_draws_here", "_law_a_tree", "_law_a_ring", "_law_told", "_law_turn", "_law_pick", "_law_at", "_law_more", "_law_changed"]
theorem sc_l_other : FnScope ["_law_draws_here", "_law_a_tree", "_law_a_ring", "_law_told", "_law_turn", "_law_pick", "_law_at", "_law_more", "_law_changed"] ["_law_draws_here", "_law_a_tree", "_law_a_ring"] (defScope s_l_other) := ⟨rfl, rfl, rfl, by decide +kernel, rfl, by decide +kernel, by decide +kernel⟩
abbrev s_l_right : Stmt := topS 30
abbrev N_l_right : List Str := ["_law_draws_here", "_law_a_tail", "_law_a_ring", "_law_many", "_law_a_tree", "_law_another", "_law_kept", "_law_row", "_law_one", "_law_two", "_law_some", "_law_due", "_law_told", "_law_named", "_law_at"]
theorem sc_l_right : FnScope ["_law_draws_here", "_law_a_tail", "_law_a_ring", "_law_many", "_law_a_tree", "_law_another", "_law_kept", "_law_row", "_law_one", "_law_two", "_law_some", "_law_due", "_law_told", "_law_named", "_law_at"] ["_law_draws_here", "_law_a_tail", "_law_a_ring", "_law_many"] (defScope s_l_right) := ⟨rfl, rfl, rfl, by decide +kernel, rfl, by decide +kernel, by decide +kernel⟩
abbrev s_law : Stmt := topS 31
abbrev N_law : List Str := ["_law_script", "_law_draws_here", "_law_many", "_law_a_tail", "_law_a_ring", "_law_cell"]
theorem sc_law : FnScope ["_law_script", "_law_draws_here", "_law_many", "_law_a_tail", "_law_a_ring", "_law_cell"] ["_law_script"] (defScope s_law) := ⟨rfl, rfl, rfl, by decide +kernel, rfl, by decide +kernel, by decide +kernel⟩
/-- the built-ins and constants that are meant -/
structure Bt (mg : Str → Option Value) : Prop where
  b_bool : mg "bool" = none
  b_enumerate : mg "enumerate" = none
  b_int : mg "int" = none
  b_isinstance : mg "isinstance" = none
  b_len : mg "len" = none
  b_list : mg "list" = none
  b_max : mg "max" = none
  b_min : mg "min" = none
  b_range : mg "range" = none
  b_repr : mg "repr" = none
  x_MOST_LEAVES : ∃ t, mg "MOST_LEAVES" = some (.int 40 t)
  x_MOST_RING : ∃ t, mg "MOST_RING" = some (.int 10000 t)
  x_MOST_TAIL : ∃ t, mg "MOST_TAIL" = some (.int 40 t)
theorem Bt.c_MOST_LEAVES {mg : Str → Option Value} (T : Bt mg) : mg "MOST_LEAVES" = some (.int 40 (Classical.choose T.x_MOST_LEAVES)) := Classical.choose_spec T.x_MOST_LEAVES
theorem Bt.c_MOST_RING {mg : Str → Option Value} (T : Bt mg) : mg "MOST_RING" = some (.int 10000 (Classical.choose T.x_MOST_RING)) := Classical.choose_spec T.x_MOST_RING
theorem Bt.c_MOST_TAIL {mg : Str → Option Value} (T : Bt mg) : mg "MOST_TAIL" = some (.int 40 (Classical.choose T.x_MOST_TAIL)) := Classical.choose_spec T.x_MOST_TAIL
/-- a def that is called, with its promise -/
structure Callee (P : Program) (w : World) (K : PySem.W.Frag) (mg : Str → Option Value) (base : Heap) (CX : CXT) (lev : Nat) (x : Str) (ps : List Str) (sp : Sp) where
  f : Addr
  fd : FuncData
  ok : FnG P w K mg base CX lev f fd ps sp
  mg : mg x = some (.ref f)
  kp : PySem.W.keepIn K (.ref f) = true
  bd : Binds K fd ps []
def pk_are_alike_ring_tail_other_tree {α : Type} : List α → List α | [a0, a1, a2, a3] => [a3, a2, a1, a0] | _ => []
def pk_parting_leaf_ring_tail_other_tree {α : Type} : List α → List α | [a0, a1, a2, a3] => [a3, a2, a1, a0] | _ => []
section
variable {P : Program} {w : World} {K : PySem.W.Frag} {mg : Str → Option Value} {base : Heap}
theorem kit_ii : kitB "int" "int" = some true := by decide +kernel
theorem kit_ib : kitB "int" "bool" = some false := by decide +kernel
theorem kit_bi : kitB "bool" "int" = some true := by decide +kernel
theorem kit_bb : kitB "bool" "bool" = some true := by decide +kernel
theorem kit_ni : kitB "NoneType" "int" = some false := by decide +kernel
theorem kit_si : kitB "str" "int" = some false := by decide +kernel
theorem kit_li : kitB "list" "int" = some false := by decide +kernel
theorem kit_ti : kitB "tuple" "int" = some false := by decide +kernel
theorem kit_ll : kitB "list" "list" = some true := by decide +kernel
def sp_is_whole (K : PySem.W.Frag) : Sp := fun vs H Q _ => ∃ (B : Hp) (x : V) (d : PyData), vs = [x] ∧ Same B H ∧ At B x d ∧ Q (.bl (isI d)) H
theorem ok_is_whole {f : Addr} {fd : FuncData} (F : Fun K "is_whole" "is_whole" s_is_whole f fd) (T : Bt mg) : FnG P w K mg base CX0 1 f fd ["thing"] (sp_is_whole K) := by
  refine okN F sc_is_whole (fun vs H Q E h => ?_) (fun cdv A out s H vs Q E hc hr h => ?_)
  · obtain ⟨B, x, d, rfl, hB, hx, q⟩ := h
    rfl
  obtain ⟨B, x, d, rfl, hB, hx, q⟩ := h
  have hu200 := u200 hr
  have hu64 := hr.units
  refine ⟨_, (pss_one (ps_ret (pe_and (pe_callB (k_isi (K := K) rfl) (by rfl) T.b_isinstance (by decide +kernel) (pa_cons (pv 0) (pa_cons (pe_bltn (v := .ty "int") (u := .type "int") (by rfl) T.b_int (by decide +kernel) rfl) pa_nil))) (pe_one (pe_not (pe_callB (k_isi (K := K) rfl) (by rfl) T.b_isinstance (by decide +kernel) (pa_cons (pv 0) (pa_cons (pe_bltn (v := .ty "bool") (u := .type "bool") (by rfl) T.b_bool (by decide +kernel) rfl) pa_nil)))))))), ?_⟩

  refine ⟨_, rfl, ?_⟩
  cases d with
  | int i =>
    refine ⟨x, .ty "int", _, _, true, rfl, .ty "int", (hx.up hB).ty, kit_ty kit_ii, ?_⟩
    refine ⟨true, rfl, iteT ⟨_, rfl, ?_⟩⟩
    refine ⟨x, .ty "bool", _, _, false, rfl, .ty "bool", (hx.up hB).ty, kit_ty kit_ib, ?_⟩
    exact ⟨_, rfl, q⟩
  | bool b =>
    refine ⟨x, .ty "int", _, _, true, rfl, .ty "int", (hx.up hB).ty, kit_ty kit_bi, ?_⟩
    refine ⟨true, rfl, iteT ⟨_, rfl, ?_⟩⟩
    refine ⟨x, .ty "bool", _, _, true, rfl, .ty "bool", (hx.up hB).ty, kit_ty kit_bb, ?_⟩
    exact ⟨_, rfl, q⟩
  | none => exact ⟨x, .ty "int", _, _, false, rfl, .ty "int", (hx.up hB).ty, kit_ty kit_ni, false, rfl, iteF q⟩
  | str b => exact ⟨x, .ty "int", _, _, false, rfl, .ty "int", (hx.up hB).ty, kit_ty kit_si, false, rfl, iteF q⟩
  | list b => exact ⟨x, .ty "int", _, _, false, rfl, .ty "int", (hx.up hB).ty, kit_ty kit_li, false, rfl, iteF q⟩
  | tuple b => exact ⟨x, .ty "int", _, _, false, rfl, .ty "int", (hx.up hB).ty, kit_ty kit_ti, false, rfl, iteF q⟩
  | dict b => cases hx
def withinD (lo hi : Int) : PyData → Bool
  | .int i => decide (lo ≤ i) && decide (i ≤ hi)
  | _ => false
theorem within_yes {lo hi i : Int} (h1 : lo ≤ i) (h2 : i ≤ hi) : withinD lo hi (.int i) = true := by
  show (decide (lo ≤ i) && decide (i ≤ hi)) = true
  rw [decide_eq_true h1, decide_eq_true h2]
  rfl
def sp_is_whole_within (K : PySem.W.Frag) : Sp := fun vs H Q _ => ∃ (B : Hp) (x : V) (d : PyData) (lo hi : Int), vs = [x, .int lo, .int hi] ∧ Same B H ∧ At B x d ∧ Q (.bl (withinD lo hi d)) H
theorem ok_is_whole_within {f : Addr} {fd : FuncData} (F : Fun K "is_whole_within" "is_whole_within" s_is_whole_within f fd) (T : Bt mg) (D_is_whole : Callee P w K mg base CX0 1 "is_whole" ["thing"] (sp_is_whole K)) : FnG P w K mg base CX0 2 f fd ["thing", "least", "most"] (sp_is_whole_within K) := by
  refine okN F sc_is_whole_within (fun vs H Q E h => ?_) (fun cdv A out s H vs Q E hc hr h => ?_)
  · obtain ⟨B, x, d, lo, hi, rfl, hB, hx, q⟩ := h
    rfl
  obtain ⟨B, x, d, lo, hi, rfl, hB, hx, q⟩ := h
  have hu200 := u200 hr
  have hu64 := hr.units
  refine ⟨_, (pss_one (ps_ret (pe_and (pg_call D_is_whole.ok hc (hr.mono (by decide)) (by rfl) D_is_whole.mg D_is_whole.kp D_is_whole.bd pass0 (pa_cons (pv 0) pa_nil)) (pe_one (pe_chain op_le op_le (pv 1) (pv 0) (pv 2)))))), ?_⟩

  refine ⟨_, rfl, B, x, d, rfl, hB, hx, ?_⟩
  cases d with
  | int i =>
    obtain rfl := hx.int_eq
    refine ⟨true, rfl, iteT ?_⟩
    refine ⟨_, rfl, _, rfl, _, _, rfl, rfl, _, rfl, ite2 (fun c => ?_) (fun c => ?_)⟩
    · refine ⟨_, rfl, _, _, rfl, rfl, ?_⟩
      have q2 : Q (.bl (decide (lo ≤ i) && decide (i ≤ hi))) H := q
      rw [show decide (lo ≤ i) = true from c, Bool.true_and] at q2
      exact q2
    · have q2 : Q (.bl (decide (lo ≤ i) && decide (i ≤ hi))) H := q
      rw [show decide (lo ≤ i) = false from Bool.eq_false_iff.mpr c, Bool.false_and] at q2
      exact q2
  | none => exact ⟨false, rfl, iteF q⟩
  | bool b => exact ⟨false, rfl, iteF q⟩
  | str b => exact ⟨false, rfl, iteF q⟩
  | list b => exact ⟨false, rfl, iteF q⟩
  | tuple b => exact ⟨false, rfl, iteF q⟩
  | dict b => exact ⟨false, rfl, iteF q⟩
def sp_check_tail (K : PySem.W.Frag) : Sp := fun vs H Q _ => ∃ (i : Int), vs = [.int i] ∧ 0 ≤ i ∧ i ≤ 40 ∧ Q .non H
theorem ok_check_tail {f : Addr} {fd : FuncData} (F : Fun K "check_tail" "check_tail" s_check_tail f fd) (T : Bt mg) (D_is_whole_within : Callee P w K mg base CX0 2 "is_whole_within" ["thing", "least", "most"] (sp_is_whole_within K)) : FnG P w K mg base CX0 3 f fd ["tail"] (sp_check_tail K) := by
  refine okN F sc_check_tail (fun vs H Q E h => ?_) (fun cdv A out s H vs Q E hc hr h => ?_)
  · obtain ⟨i, rfl, h1, h2, q⟩ := h
    rfl
  obtain ⟨i, rfl, h1, h2, q⟩ := h
  have hu200 := u200 hr
  have hu64 := hr.units
  refine ⟨_, (pss_one (ps_if (pt_not (pt_val (pg_call D_is_whole_within.ok hc (hr.mono (by decide)) (by rfl) D_is_whole_within.mg D_is_whole_within.kp D_is_whole_within.bd pass0 (pa_cons (pv 0) (pa_cons pe_int (pa_cons (pe_glob (v := .int 40) rfl (T.c_MOST_TAIL) ⟨_, rfl⟩) pa_nil)))))) pss_never pss_nil)), ?_⟩

  refine ⟨_, rfl, H, _, _, _, _, rfl, Same.refl _, .int i, ?_⟩
  rw [within_yes h1 h2]
  exact ⟨_, rfl, iteF q⟩
def sp_check_ring (K : PySem.W.Frag) : Sp := fun vs H Q _ => ∃ (i : Int), vs = [.int i] ∧ 1 ≤ i ∧ i ≤ 10000 ∧ Q .non H
theorem ok_check_ring {f : Addr} {fd : FuncData} (F : Fun K "check_ring" "check_ring" s_check_ring f fd) (T : Bt mg) (D_is_whole_within : Callee P w K mg base CX0 2 "is_whole_within" ["thing", "least", "most"] (sp_is_whole_within K)) : FnG P w K mg base CX0 3 f fd ["ring"] (sp_check_ring K) := by
  refine okN F sc_check_ring (fun vs H Q E h => ?_) (fun cdv A out s H vs Q E hc hr h => ?_)
  · obtain ⟨i, rfl, h1, h2, q⟩ := h
    rfl
  obtain ⟨i, rfl, h1, h2, q⟩ := h
  have hu200 := u200 hr
  have hu64 := hr.units
  refine ⟨_, (pss_one (ps_if (pt_not (pt_val (pg_call D_is_whole_within.ok hc (hr.mono (by decide)) (by rfl) D_is_whole_within.mg D_is_whole_within.kp D_is_whole_within.bd pass0 (pa_cons (pv 0) (pa_cons pe_int (pa_cons (pe_glob (v := .int 10000) rfl (T.c_MOST_RING) ⟨_, rfl⟩) pa_nil)))))) pss_never pss_nil)), ?_⟩

  refine ⟨_, rfl, H, _, _, _, _, rfl, Same.refl _, .int i, ?_⟩
  rw [within_yes h1 h2]
  exact ⟨_, rfl, iteF q⟩
def sp_check_tree (K : PySem.W.Frag) : Sp := fun vs H Q _ => ∃ (B : Hp) (x : V) (ns : List Int), vs = [x] ∧ Same B H ∧ At B x (intsD ns) ∧ Tr ns ∧ ns.length ≤ 40 ∧ ∀ H2, Same H H2 → Q .non H2
theorem ok_check_tree {f : Addr} {fd : FuncData} (F : Fun K "check_tree" "check_tree" s_check_tree f fd) (T : Bt mg) (D_is_whole : Callee P w K mg base CX0 1 "is_whole" ["thing"] (sp_is_whole K)) : FnG P w K mg base CX0 2 f fd ["tree"] (sp_check_tree K) := by
  refine okN F sc_check_tree (fun vs H Q E h => ?_) (fun cdv A out s H vs Q E hc hr h => ?_)
  · obtain ⟨B, x, ns, rfl, hB, hx, ht, hl, q⟩ := h
    rfl
  obtain ⟨B, x, ns, rfl, hB, hx, ht, hl, q⟩ := h
  have hu200 := u200 hr
  have hu64 := hr.units
  refine ⟨_, (pss_cons (ps_if (PW.pt (pw_or (pt_not (pt_val (pe_callB (k_isi (K := K) rfl) (by rfl) T.b_isinstance (by decide +kernel) (pa_cons (pv 0) (pa_cons (pe_bltn (v := .ty "list") (u := .type "list") (by rfl) T.b_list (by decide +kernel) rfl) pa_nil))))) (pw_or1 (pt_not (pt_chain op_le op_le pe_int (pe_callB (k_len (K := K) rfl) (by rfl) T.b_len PySem.boot_len (pa_cons (pv 0) pa_nil)) (pe_glob (v := .int 40) rfl (T.c_MOST_LEAVES) ⟨_, rfl⟩)))))) pss_never pss_nil)
    (pss_cons (ps_set (i := 1) sc_check_tree.nd rfl (.inl rfl) (pe_op op_sub (pe_callB (k_len (K := K) rfl) (by rfl) T.b_len PySem.boot_len (pa_cons (pv 0) pa_nil)) pe_int))
    (pss_cons (ps_for PassesOwn.never rfl (pi_enum (by rfl) T.b_enumerate (pa_cons (pv 0) pa_nil)) (pg_tup rfl (pgs_cons (pg_name (i := 2) sc_check_tree.nd rfl (.inl rfl)) (pgs_cons (pg_name (i := 3) sc_check_tree.nd rfl (.inl rfl)) pgs_nil))) (pss_cons (ps_if (PW.pt (pw_or (pt_not (pt_val (pg_call D_is_whole.ok hc (hr.mono (by decide)) (by rfl) D_is_whole.mg D_is_whole.kp D_is_whole.bd pass0 (pa_cons (pv 3) pa_nil)))) (pw_or1 (pt_cmpR op_lt (pv 3) (pe_ifExp (pt_cmpR op_eq (pv 2) (pv 1) (nomark _)) pe_int pe_int) (nomark _))))) pss_never pss_nil)
    (pss_one (ps_if (PW.pt (pw_and (pt_cmpR op_gt (pv 2) pe_int (nomark _)) (pw_and1 (pt_cmpR op_lt (pv 3) (pe_op op_sub (pe_ix (kx_list (K := K) rfl) (pv 0) (pe_op op_sub (pv 2) pe_int) (fun _ _ => rfl)) pe_int) (nomark _))))) pss_never pss_nil))))
    (pss_one (ps_if (pt_cmpR op_ne (pe_ix (kx_list (K := K) rfl) (pv 0) (pv 1) (fun _ _ => rfl)) pe_int (nomark _)) pss_never pss_nil))))), ?_⟩

  obtain ⟨p, rfl, hp⟩ := ints_ex hx
  have hp1 := hB _ _ hp
  have h0 := ht.pos
  have hlen : (ns.map V.int).length = ns.length := List.length_map _
  refine ⟨_, rfl, ?_⟩
  refine ⟨_, .ty "list", _, _, true, rfl, .ty "list", (hx.up hB).ty, kit_ty kit_ll, ?_⟩
  refine ⟨true, rfl, iteF ?_⟩
  refine ⟨_, rfl, p, _, rfl, .inl (SqL.of hp1), _, _, rfl, rfl, _, rfl, ite2 (fun c => ?_) (fun c => ?_)⟩
  rotate_left
  · exact absurd (decide_eq_true (show (1 : Int) ≤ ((ns.map V.int).length : Nat) by rw [hlen]; omega)) c
  refine ⟨_, _, rfl, rfl, _, rfl, ?_⟩
  rw [show decide ((((ns.map V.int).length : Nat) : Int) ≤ 40) = true from decide_eq_true (by rw [hlen]; omega)]
  refine iteF ?_
  refine ⟨_, rfl, p, _, rfl, .inl (SqL.of hp1), _, _, rfl, rfl, ?_⟩
  rw [hlen]
  refine ⟨_, rfl, p, ns.map V.int, rfl, SqL.of hp1, for_it walk_enum (fun i σ H2 => ∃ v2 v3, σ = [some (.ref p), some (.int ((ns.length : Int) - 1)), v2, v3] ∧ Same H H2) ⟨none, none, rfl, Same.refl _⟩ (fun i σ H2 _ ⟨_, _, _, s⟩ => SqL.of (s _ _ hp1)) ?_ ?_⟩
  · rintro i x σ H2 H3 hi ⟨v2, v3, rfl, s⟩ ⟨T1, x1, x2, rfl, nT, rfl, e1, e2⟩
    cases e1
    obtain ⟨d, hd, rfl⟩ := ex_int e2
    have s3 : Same H (upd H2 T1 (.tup [.int (i : Nat), .int d])) := s.trans (same_new nT)
    refine ⟨T1, _, rfl, SqT.of upd_same, rfl, _, _, rfl, _, _, rfl, rfl, ?_⟩
    have hi2 : i < ns.length := by rw [← hlen]; exact hi
    have hge := ht.ge i d hd
    refine ⟨_, rfl, _, _, _, rfl, Same.refl _, .int d, _, rfl, iteF ?_⟩
    refine ⟨_, rfl, _, rfl, _, rfl, rfl, _, rfl, ?_⟩
    have last : decide (V.int ((i : Nat) : Int) = V.int ((ns.length : Int) - 1)) = decide (i = ns.length - 1) := by
      by_cases z : i = ns.length - 1
      · rw [decide_eq_true z]
        exact decide_eq_true (by congr 1; omega)
      · rw [decide_eq_false z]
        exact decide_eq_false fun y => z (by have := V.int.inj y; omega)
    have nolow : ∀ b : Int, (if i = ns.length - 1 then 0 else 1) = b → ¬ (decide (d < b) = true) := fun b e z => by
      have := of_decide_eq_true z
      rw [← e] at this
      omega
    rw [last]
    refine ite2 (fun c => ?_) (fun c => ?_)
    all_goals
      refine ⟨_, _, rfl, rfl, _, rfl, ?_⟩
      first
        | refine ite2 (fun c2 => absurd c2 (nolow 0 (if_pos (of_decide_eq_true c)))) (fun c2 => ?_)
        | refine ite2 (fun c2 => absurd c2 (nolow 1 (if_neg fun z => c (decide_eq_true z)))) (fun c2 => ?_)
      refine ⟨_, rfl, _, _, rfl, rfl, _, rfl, ite2 (fun c3 => ?_) (fun c3 => ?_)⟩
      · have ipos : 0 < i := by
          have := of_decide_eq_true c3
          omega
        obtain ⟨d0, hd0⟩ : ∃ d0, ns[i - 1]? = some d0 := ⟨ns[i - 1], List.getElem?_eq_getElem (by omega)⟩
        have hst := ht.step (i - 1) d0 d hd0 (by rw [show i - 1 + 1 = i by omega]; exact hd)
        refine ⟨_, rfl, _, rfl, _, rfl, _, _, rfl, rfl, p, _, _, _, rfl, rfl, SqL.of (s3 _ _ hp1), at_of (j := i - 1) (v := V.int d0) (by omega) (by rw [List.getElem?_map, hd0]; rfl), _, _, rfl, rfl, _, _, rfl, rfl, _, rfl, ?_⟩
        refine ite2 (fun c4 => absurd (of_decide_eq_true c4) (by omega)) (fun c4 => ?_)
        exact ⟨_, _, rfl, s3⟩
      · exact ⟨_, _, rfl, s3⟩
  · rintro σ H2 ⟨v2, v3, rfl, s⟩
    refine ⟨_, rfl, _, rfl, p, _, _, _, rfl, rfl, SqL.of (s _ _ hp1), at_of (j := ns.length - 1) (v := V.int 0) (by omega) (by rw [List.getElem?_map, ht.last]; rfl), rfl, _, rfl, ?_⟩
    exact iteF (q _ s)
def sp_check_two_trees (K : PySem.W.Frag) : Sp := fun vs H Q _ => ∃ (B : Hp) (x y : V) (ns ms : List Int), vs = [x, y] ∧ Same B H ∧ At B x (intsD ns) ∧ At B y (intsD ms) ∧ Tr ns ∧ Tr ms ∧ ns.length ≤ 40 ∧ ms.length = ns.length ∧ ∀ H2, Same H H2 → Q .non H2
theorem ok_check_two_trees {f : Addr} {fd : FuncData} (F : Fun K "check_two_trees" "check_two_trees" s_check_two_trees f fd) (T : Bt mg) (D_check_tree : Callee P w K mg base CX0 2 "check_tree" ["tree"] (sp_check_tree K)) : FnG P w K mg base CX0 3 f fd ["tree", "other"] (sp_check_two_trees K) := by
  refine okN F sc_check_two_trees (fun vs H Q E h => ?_) (fun cdv A out s H vs Q E hc hr h => ?_)
  · obtain ⟨B, x, y, ns, ms, rfl, hB, hx, hy, ht, hu, hl, hm, q⟩ := h
    rfl
  obtain ⟨B, x, y, ns, ms, rfl, hB, hx, hy, ht, hu, hl, hm, q⟩ := h
  have hu200 := u200 hr
  have hu64 := hr.units
  refine ⟨_, (pss_cons (ps_expr (pg_call D_check_tree.ok hc (hr.mono (by decide)) (by rfl) D_check_tree.mg D_check_tree.kp D_check_tree.bd pass0 (pa_cons (pv 0) pa_nil)))
    (pss_cons (ps_expr (pg_call D_check_tree.ok hc (hr.mono (by decide)) (by rfl) D_check_tree.mg D_check_tree.kp D_check_tree.bd pass0 (pa_cons (pv 1) pa_nil)))
    (pss_one (ps_if (pt_cmpR op_ne (pe_callB (k_len (K := K) rfl) (by rfl) T.b_len PySem.boot_len (pa_cons (pv 0) pa_nil)) (pe_callB (k_len (K := K) rfl) (by rfl) T.b_len PySem.boot_len (pa_cons (pv 1) pa_nil)) (nomark _)) pss_never pss_nil)))), ?_⟩

  refine ⟨_, rfl, B, x, ns, rfl, hB, hx, ht, hl, fun H1 s1 => ⟨_, rfl, B, y, ms, rfl, hB.trans s1, hy, hu, by omega, fun H2 s2 => ?_⟩⟩
  obtain ⟨a, rfl, ha⟩ := ints_ex hx
  obtain ⟨b, rfl, hb⟩ := ints_ex hy
  have s := (hB.trans s1).trans s2
  refine ⟨_, rfl, a, _, rfl, .inl (SqL.of (s _ _ ha)), _, rfl, b, _, rfl, .inl (SqL.of (s _ _ hb)), rfl, _, rfl, iteNS ?_ ?_⟩
  · rw [List.length_map, List.length_map, hm]
  · exact q _ (s1.trans s2)
def sp_mark_of (K : PySem.W.Frag) : Sp := fun vs H Q _ => ∃ (d t r : Int), vs = [.int d, .int t, .int r] ∧ 0 < r ∧ Q (.int (mk d t r)) H
theorem ok_mark_of {f : Addr} {fd : FuncData} (F : Fun K "_mark_of" "_mark_of" s_mark_of f fd) (T : Bt mg) : FnG P w K mg base CX0 1 f fd ["depth", "tail", "ring"] (sp_mark_of K) := by
  refine okN F sc_mark_of (fun vs H Q E h => ?_) (fun cdv A out s H vs Q E hc hr h => ?_)
  · obtain ⟨d, t, r, rfl, hr0, q⟩ := h
    rfl
  obtain ⟨d, t, r, rfl, hr0, q⟩ := h
  have hu200 := u200 hr
  have hu64 := hr.units
  refine ⟨_, (pss_cons (ps_if (pt_cmpR op_lt (pv 0) (pv 1) (nomark _)) (pss_one (ps_ret (pv 0))) pss_nil)
    (pss_one (ps_ret (pe_op op_add (pv 1) (pe_op op_mod (pe_op op_sub (pv 0) (pv 1)) (pv 2)))))), ?_⟩

  refine ⟨_, rfl, _, rfl, _, _, rfl, rfl, _, rfl, ite2 (fun c => ?_) (fun c => ?_)⟩
  · rw [show mk d t r = d from if_pos (of_decide_eq_true c)] at q
    exact ⟨_, rfl, q⟩
  · rw [show mk d t r = t + (d - t) % r from if_neg fun z => c (decide_eq_true z)] at q
    exact ⟨_, rfl, _, rfl, _, rfl, _, _, rfl, rfl, _, rfl, _, _, rfl, rfl, hr0, _, _, rfl, rfl, q⟩
def sp_marks_of (K : PySem.W.Frag) : Sp := fun vs H Q _ => ∃ (B : Hp) (x : V) (ns : List Int) (t r : Int), vs = [x, .int t, .int r] ∧ Same B H ∧ At B x (intsD ns) ∧ Tr ns ∧ ns.length ≤ 40 ∧ 0 ≤ t ∧ t ≤ 40 ∧ 1 ≤ r ∧ r ≤ 10000 ∧
  ∀ p B2 H2, H p = Option.none → Grow B H B2 H2 → At B2 (.ref p) (intsD (ns.map fun d => mk d t r)) → Q (.ref p) H2
theorem ok_marks_of {f : Addr} {fd : FuncData} (F : Fun K "marks_of" "marks_of" s_marks_of f fd) (T : Bt mg) (D_check_tail : Callee P w K mg base CX0 3 "check_tail" ["tail"] (sp_check_tail K)) (D_check_ring : Callee P w K mg base CX0 3 "check_ring" ["ring"] (sp_check_ring K)) (D_check_tree : Callee P w K mg base CX0 2 "check_tree" ["tree"] (sp_check_tree K)) (D__mark_of : Callee P w K mg base CX0 1 "_mark_of" ["depth", "tail", "ring"] (sp_mark_of K)) : FnG P w K mg base CX0 4 f fd ["tree", "tail", "ring"] (sp_marks_of K) := by
  refine okN F sc_marks_of (fun vs H Q E h => ?_) (fun cdv A out s H vs Q E hc hr h => ?_)
  · obtain ⟨B, x, ns, t, r, rfl, hB, hx, ht, hl, t0, t1, r0, r1, q⟩ := h
    rfl
  obtain ⟨B, x, ns, t, r, rfl, hB, hx, ht, hl, t0, t1, r0, r1, q⟩ := h
  have hu200 := u200 hr
  have hu64 := hr.units
  refine ⟨_, (pss_cons (ps_expr (pg_call D_check_tree.ok hc (hr.mono (by decide)) (by rfl) D_check_tree.mg D_check_tree.kp D_check_tree.bd pass0 (pa_cons (pv 0) pa_nil)))
    (pss_cons (ps_expr (pg_call D_check_tail.ok hc (hr.mono (by decide)) (by rfl) D_check_tail.mg D_check_tail.kp D_check_tail.bd pass0 (pa_cons (pv 1) pa_nil)))
    (pss_cons (ps_expr (pg_call D_check_ring.ok hc (hr.mono (by decide)) (by rfl) D_check_ring.mg D_check_ring.kp D_check_ring.bd pass0 (pa_cons (pv 2) pa_nil)))
    (pss_one (ps_ret (pe_lc (own := [("depth", 3)]) (g := (gName 3)) (tt := tYes) (by rfl) sc_marks_of.nd (pi_list (pv 0)) (blkOk_by (own := [("depth", 3)]) (N := N_marks_of) (sc := defScope s_marks_of) (by decide +kernel)) (fun _ _ _ _ _ => (pg_name (i := 3) sc_marks_of.nd rfl (.inl rfl))) (fun _ _ _ _ _ => pts_nil) (fun _ _ _ _ _ => (pg_call D__mark_of.ok hc (hr.mono (by decide)) (by rfl) D__mark_of.mg D__mark_of.kp D__mark_of.bd pass0 (pa_cons (pv 3) (pa_cons (pv 1) (pa_cons (pv 2) pa_nil))))))))))), ?_⟩

  obtain ⟨p, rfl, hp⟩ := ints_ex hx
  refine ⟨_, rfl, B, _, ns, rfl, hB, hx, ht, hl, fun H1 s1 => ?_⟩
  refine ⟨_, rfl, _, rfl, t0, t1, _, rfl, _, rfl, r0, r1, ?_⟩
  have hp1 := s1 _ _ (hB _ _ hp)
  refine ⟨_, rfl, p, rfl, ⟨_, SqL.of hp1⟩, fun D hD => ?_⟩
  refine lc_ints (fun d => .int (mk d t r)) (hB.trans s1) hD (by omega) (SqL.of hp1) (fun d B2 H3 hd s2 s3 s4 fr R k => ?_) (fun B2 H2 g2 h2 => ?_)
  · exact ⟨rfl, _, rfl, _, rfl, _, rfl, _, _, _, rfl, by omega, k _ B2 H3 (Grow.refl s3) (.int _)⟩
  · refine q D B2 H2 (s1.free hD) ⟨g2.bb, g2.bh, s1.trans g2.hh, fun b hb e => g2.fr b (ne_none_of s1 hb) e⟩ ?_
    rw [show intsD (ns.map fun d => mk d t r) = PyData.list (ns.map fun d => PyData.int (mk d t r)) by unfold intsD; rw [List.map_map]; rfl]
    exact h2
/-- the first place at which two rows differ -/
def fdiff : List Int → List Int → Option Nat
  | x :: xs, y :: ys => if x = y then (fdiff xs ys).map (· + 1) else some 0
  | _, _ => none
theorem fdiff_some : ∀ {as bs : List Int} {i : Nat} {x y : Int}, (∀ j, j < i → as[j]? = bs[j]?) → as[i]? = some x → bs[i]? = some y → x ≠ y → fdiff as bs = some i
  | [], _, _, _, _, _, h, _, _ => by simp at h
  | _ :: _, [], _, _, _, _, _, h, _ => by simp at h
  | a :: as, b :: bs, 0, x, y, _, h1, h2, n => by
    simp at h1 h2
    rw [fdiff, if_neg (by rw [h1, h2]; exact n)]
  | a :: as, b :: bs, i + 1, x, y, h, h1, h2, n => by
    have e := h 0 (by omega)
    simp at e
    rw [fdiff, if_pos e, fdiff_some (i := i) (fun j hj => by simpa using h (j + 1) (by omega)) (by simpa using h1) (by simpa using h2) n]
    rfl
theorem fdiff_none : ∀ {as bs : List Int}, as.length = bs.length → (∀ j, j < as.length → as[j]? = bs[j]?) → fdiff as bs = none
  | [], _, _, _ => by simp [fdiff]
  | _ :: _, [], h, _ => by simp at h
  | a :: as, b :: bs, hl, h => by
    have e := h 0 (by simp)
    simp at e
    rw [fdiff, if_pos e, fdiff_none (by simpa using hl) (fun j hj => by simpa using h (j + 1) (by simpa using hj))]
    rfl
def leafV (o : Option Nat) : V := match o with | some i => .int ((i : Int) + 1) | none => .non
def mks (ns : List Int) (t r : Int) : List Int := ns.map fun d => mk d t r
theorem mks_len {ns : List Int} {t r : Int} : (mks ns t r).length = ns.length := List.length_map _

def sp_parting_leaf (K : PySem.W.Frag) : Sp := fun vs H Q _ => ∃ (B : Hp) (x y : V) (ns ms : List Int) (t r : Int), vs = [x, y, .int t, .int r] ∧ Same B H ∧ At B x (intsD ns) ∧ At B y (intsD ms) ∧ Tr ns ∧ Tr ms ∧ ns.length ≤ 40 ∧ ms.length = ns.length ∧ 0 ≤ t ∧ t ≤ 40 ∧ 1 ≤ r ∧ r ≤ 10000 ∧
  ∀ H2, Same H H2 → Q (leafV (fdiff (mks ns t r) (mks ms t r))) H2
theorem ok_parting_leaf {f : Addr} {fd : FuncData} (F : Fun K "parting_leaf" "parting_leaf" s_parting_leaf f fd) (T : Bt mg) (D_check_two_trees : Callee P w K mg base CX0 3 "check_two_trees" ["tree", "other"] (sp_check_two_trees K)) (D_marks_of : Callee P w K mg base CX0 4 "marks_of" ["tree", "tail", "ring"] (sp_marks_of K)) : FnG P w K mg base CX0 5 f fd ["tree", "other", "tail", "ring"] (sp_parting_leaf K) := by
  refine okN F sc_parting_leaf (fun vs H Q E h => ?_) (fun cdv A out s H vs Q E hc hr h => ?_)
  · obtain ⟨B, x, y, ns, ms, t, r, rfl, hB, hx, hy, ht, hu, hl, hm, t0, t1, r0, r1, q⟩ := h
    rfl
  obtain ⟨B, x, y, ns, ms, t, r, rfl, hB, hx, hy, ht, hu, hl, hm, t0, t1, r0, r1, q⟩ := h
  have hu200 := u200 hr
  have hu64 := hr.units
  refine ⟨_, (pss_cons (ps_expr (pg_call D_check_two_trees.ok hc (hr.mono (by decide)) (by rfl) D_check_two_trees.mg D_check_two_trees.kp D_check_two_trees.bd pass0 (pa_cons (pv 0) (pa_cons (pv 1) pa_nil))))
    (pss_cons (ps_set (i := 4) sc_parting_leaf.nd rfl (.inl rfl) (pg_call D_marks_of.ok hc (hr.mono (by decide)) (by rfl) D_marks_of.mg D_marks_of.kp D_marks_of.bd pass0 (pa_cons (pv 0) (pa_cons (pv 2) (pa_cons (pv 3) pa_nil)))))
    (pss_cons (ps_set (i := 5) sc_parting_leaf.nd rfl (.inl rfl) (pg_call D_marks_of.ok hc (hr.mono (by decide)) (by rfl) D_marks_of.mg D_marks_of.kp D_marks_of.bd pass0 (pa_cons (pv 1) (pa_cons (pv 2) (pa_cons (pv 3) pa_nil)))))
    (pss_cons (ps_for PassesOwn.never rfl (pi_enum (by rfl) T.b_enumerate (pa_cons (pv 4) pa_nil)) (pg_tup rfl (pgs_cons (pg_name (i := 6) sc_parting_leaf.nd rfl (.inl rfl)) (pgs_cons (pg_name (i := 7) sc_parting_leaf.nd rfl (.inl rfl)) pgs_nil))) (pss_one (ps_if (pt_cmpR op_ne (pv 7) (pe_ix (kx_list (K := K) rfl) (pv 5) (pv 6) (fun _ _ => rfl)) (nomark _)) (pss_one (ps_ret (pe_op op_add (pv 6) pe_int))) pss_nil)))
    (pss_one (ps_ret pe_non)))))), ?_⟩

  refine ⟨_, rfl, _, rfl, B, x, y, ns, ms, rfl, hB, hx, hy, ht, hu, hl, hm, fun H1 s1 => ?_⟩
  refine ⟨_, rfl, _, rfl, _, rfl, B, x, ns, t, r, rfl, hB.trans s1, hx, ht, hl, t0, t1, r0, r1, fun p1 B2 H2 n2 g2 h2 => ?_⟩
  refine ⟨_, rfl, _, rfl, _, rfl, B2, y, ms, t, r, rfl, g2.bh, hy.up g2.bb, hu, by omega, t0, t1, r0, r1, fun p2 B3 H3 n3 g3 h3 => ?_⟩
  obtain ⟨p1', e1, hp1⟩ := ints_ex ((h2.up g3.bb).up g3.bh)
  obtain ⟨p2', e2, hp2⟩ := ints_ex (h3.up g3.bh)
  cases e1
  cases e2
  have s3 := (s1.trans g2.hh).trans g3.hh
  have la : (mks ns t r).length = ns.length := mks_len
  have lb : (mks ms t r).length = ns.length := by rw [mks_len, hm]
  have hp1 : H3 p1 = some (.lst ((mks ns t r).map V.int)) := hp1
  have hp2 : H3 p2 = some (.lst ((mks ms t r).map V.int)) := hp2
  generalize mks ns t r = as at hp1 la q
  generalize mks ms t r = bs at hp2 lb q
  refine ⟨_, rfl, p1, as.map V.int, rfl, SqL.of hp1, for_it walk_enum (fun i σ H4 => ∃ x6 x7, σ = [some x, some y, some (.int t), some (.int r), some (.ref p1), some (.ref p2), x6, x7] ∧ Same H3 H4 ∧ ∀ j, j < i → as[j]? = bs[j]?)
    ⟨none, none, rfl, Same.refl _, fun j hj => by omega⟩ (fun i σ H4 _ ⟨_, _, _, s, _⟩ => SqL.of (s _ _ hp1)) ?_ ?_⟩
  · rintro i z σ H4 H5 hi ⟨x6, x7, rfl, s4, hj⟩ ⟨T1, z1, z2, rfl, nT, rfl, f1, f2⟩
    cases f1
    obtain ⟨a, ha, rfl⟩ := ex_int f2
    rw [List.length_map] at hi
    obtain ⟨b, hb⟩ : ∃ b, bs[i]? = some b := ⟨bs[i], List.getElem?_eq_getElem (by omega)⟩
    have s5 : Same H3 (upd H4 T1 (.tup [.int (i : Nat), .int a])) := s4.trans (same_new nT)
    refine ⟨T1, _, rfl, SqT.of upd_same, rfl, _, _, rfl, _, _, rfl, rfl, ?_⟩
    refine ⟨_, rfl, _, rfl, _, rfl, p2, _, _, _, rfl, rfl, SqL.of (s5 _ _ hp2), atI_nat (j := i) (v := V.int b) (by rw [List.getElem?_map, hb]; rfl), rfl, _, rfl, ?_⟩
    refine ite2 (fun c => ?_) (fun c => ?_)
    · have ne : a ≠ b := fun e => by
        rw [e] at c
        simp at c
      rw [fdiff_some hj ha hb ne] at q
      exact ⟨_, rfl, _, _, rfl, rfl, q _ (s3.trans s5)⟩
    · have e : a = b := by
        have : decide (V.int a = V.int b) = true := by simpa using c
        exact V.int.inj (of_decide_eq_true this)
      refine ⟨_, _, rfl, s5, fun j hj2 => ?_⟩
      by_cases ej : j = i
      · rw [ej, ha, hb, e]
      · exact hj j (by omega)
  · rintro σ H4 ⟨x6, x7, rfl, s4, hj⟩
    rw [fdiff_none (by omega) (fun j h => hj j (by rw [List.length_map]; exact h))] at q
    exact q _ (s3.trans s4)
def sp_are_alike (K : PySem.W.Frag) : Sp := fun vs H Q _ => ∃ (B : Hp) (x y : V) (ns ms : List Int) (t r : Int), vs = [x, y, .int t, .int r] ∧ Same B H ∧ At B x (intsD ns) ∧ At B y (intsD ms) ∧ Tr ns ∧ Tr ms ∧ ns.length ≤ 40 ∧ ms.length = ns.length ∧ 0 ≤ t ∧ t ≤ 40 ∧ 1 ≤ r ∧ r ≤ 10000 ∧
  ∀ H2, Same H H2 → Q (.bl (fdiff (mks ns t r) (mks ms t r)).isNone) H2
theorem ok_are_alike {f : Addr} {fd : FuncData} (F : Fun K "are_alike" "are_alike" s_are_alike f fd) (T : Bt mg) (D_parting_leaf : Callee P w K mg base CX0 5 "parting_leaf" ["tree", "other", "tail", "ring"] (sp_parting_leaf K)) : FnG P w K mg base CX0 6 f fd ["tree", "other", "tail", "ring"] (sp_are_alike K) := by
  refine okN F sc_are_alike (fun vs H Q E h => ?_) (fun cdv A out s H vs Q E hc hr h => ?_)
  · obtain ⟨B, x, y, ns, ms, t, r, rfl, hB, hx, hy, ht, hu, hl, hm, t0, t1, r0, r1, q⟩ := h
    rfl
  obtain ⟨B, x, y, ns, ms, t, r, rfl, hB, hx, hy, ht, hu, hl, hm, t0, t1, r0, r1, q⟩ := h
  have hu200 := u200 hr
  have hu64 := hr.units
  refine ⟨_, (pss_one (ps_ret (pe_cmpR op_isN (pg_call D_parting_leaf.ok hc (hr.mono (by decide)) (by rfl) D_parting_leaf.mg D_parting_leaf.kp D_parting_leaf.bd pass0 (pa_cons (pv 0) (pa_cons (pv 1) (pa_cons (pv 2) (pa_cons (pv 3) pa_nil))))) pe_non (nomark _)))), ?_⟩

  refine ⟨_, rfl, _, rfl, _, rfl, _, rfl, B, x, y, ns, ms, t, r, rfl, hB, hx, hy, ht, hu, hl, hm, t0, t1, r0, r1, fun H2 s2 => ?_⟩
  have e : decide (leafV (fdiff (mks ns t r) (mks ms t r)) = V.non) = (fdiff (mks ns t r) (mks ms t r)).isNone := by
    cases fdiff (mks ns t r) (mks ms t r) with
    | none => exact decide_eq_true rfl
    | some i => exact decide_eq_false fun z => nomatch z
  have q2 := q H2 s2
  rw [← e] at q2
  exact ⟨rfl, q2⟩
/-- a tree of two parts -/
structure Split (ns l r : List Int) : Prop where
  eq : ns = l.map (· + 1) ++ r
  tl : Tr l
  tr : Tr r
theorem split_ex : ∀ {ns : List Int}, Tr ns → 2 ≤ ns.length → ∃ l r, Split ns l r
  | _, .leaf, h => by simp at h
  | _, .cons (d := d) (e := e) (r := rest) t h1 h2, _ => by
    by_cases hd : d = 1
    · exact ⟨[0], e :: rest, by rw [hd]; rfl, .leaf, t⟩
    · have h2l : 2 ≤ (e :: rest).length := by
        cases t with
        | leaf => omega
        | cons t2 _ _ => simp
      obtain ⟨l, r, s⟩ := split_ex t h2l
      obtain ⟨a, l2, rfl, a0⟩ : ∃ e r, l = e :: r ∧ 0 ≤ e := by
        cases s.tl with
        | leaf => exact ⟨0, [], rfl, by omega⟩
        | cons t h1 h2 => exact ⟨_, _, rfl, by omega⟩
      have e1 := s.eq
      rw [List.map_cons, List.cons_append] at e1
      have e2 : e = a + 1 := (List.cons.inj e1).1
      refine ⟨(d - 1) :: a :: l2, r, ?_, .cons s.tl (by omega) (by omega), s.tr⟩
      rw [List.map_cons, List.cons_append, ← s.eq, show d - 1 + 1 = d by omega]
theorem Split.len {ns l r : List Int} (s : Split ns l r) : ns.length = l.length + r.length := by rw [s.eq, List.length_append, List.length_map]
theorem Split.get {ns l r : List Int} (s : Split ns l r) {i : Nat} (h : i < l.length) : ∃ d, l[i]? = some d ∧ ns[i]? = some (d + 1) := by
  refine ⟨l[i], List.getElem?_eq_getElem h, ?_⟩
  rw [s.eq, List.getElem?_append_left (by rw [List.length_map]; exact h), List.getElem?_map, List.getElem?_eq_getElem h]
  rfl
/-- its left part ends where the first 1 stands -/
theorem Split.one {ns l r : List Int} (s : Split ns l r) {i : Nat} (h : i < l.length) : ∃ d, ns[i]? = some d ∧ (d = 1 ↔ i = l.length - 1) := by
  obtain ⟨d, h1, h2⟩ := s.get h
  refine ⟨d + 1, h2, ?_⟩
  have g := s.tl.ge i d h1
  constructor
  · intro e
    by_cases z : i = l.length - 1
    · exact z
    · rw [if_neg z] at g
      omega
  · intro e
    have q := s.tl.last
    rw [← e, h1] at q
    have : d = 0 := Option.some.inj q
    omega
theorem Split.take {ns l r : List Int} (s : Split ns l r) : ns.take l.length = l.map (· + 1) := by
  rw [s.eq, List.take_append_of_le_length (by rw [List.length_map]; exact Nat.le_refl _)]
  exact List.take_of_length_le (by rw [List.length_map]; exact Nat.le_refl _)
theorem Split.drop {ns l r : List Int} (s : Split ns l r) : ns.drop l.length = r := by
  rw [s.eq, List.drop_append_of_le_length (by rw [List.length_map]; exact Nat.le_refl _)]
  rw [List.drop_of_length_le (by rw [List.length_map]; exact Nat.le_refl _)]
  rfl
theorem back_one (l : List Int) : (l.map (· + 1)).map (fun d => PyData.int (d - 1)) = l.map PyData.int := by
  rw [List.map_map]
  apply List.map_congr_left
  intro d _
  show PyData.int (d + 1 - 1) = PyData.int d
  congr 1
  omega
theorem cut_upto (xs : List V) (k : Nat) : cutV xs none (some (k : Int)) = xs.take k := by
  unfold cutV
  rw [HT.sIx_none, HT.sIx_nat, List.drop_zero, Nat.sub_zero, List.take_eq_take_iff]
  omega
theorem cut_from (xs : List V) (k : Nat) : cutV xs (some (k : Int)) none = xs.drop k := by
  unfold cutV
  rw [HT.sIx_none, HT.sIx_nat]
  by_cases h : k ≤ xs.length
  · rw [Nat.min_eq_left h]
    exact List.take_of_length_le (by rw [List.length_drop]; exact Nat.le_refl _)
  · rw [Nat.min_eq_right (show xs.length ≤ k by omega), Nat.sub_self, List.take_zero, List.drop_of_length_le (show xs.length ≤ k by omega)]

def sp_l_halves (K : PySem.W.Frag) : Sp := fun vs H Q _ => ∃ (B : Hp) (x : V) (ns l r : List Int), vs = [x] ∧ Same B H ∧ At B x (intsD ns) ∧ Split ns l r ∧ ns.length ≤ 1000 ∧
  ∀ v B2 H2, Grow B H B2 H2 → At B2 v (.tuple [intsD l, intsD r]) → Q v H2
theorem ok_l_halves {f : Addr} {fd : FuncData} (F : Fun K "_law_halves" "_law_halves" s_l_halves f fd) (T : Bt mg) : FnG P w K mg base CX0 1 f fd ["_law_a_tree"] (sp_l_halves K) := by
  refine okN F sc_l_halves (fun vs H Q E h => ?_) (fun cdv A out s H vs Q E hc hr h => ?_)
  · obtain ⟨B, x, ns, l, r, rfl, hB, hx, sp, hl, q⟩ := h
    rfl
  obtain ⟨B, x, ns, l, r, rfl, hB, hx, sp, hl, q⟩ := h
  have hu200 := u200 hr
  have hu64 := hr.units
  refine ⟨_, (pss_cons (ps_set (i := 1) sc_l_halves.nd rfl (.inl rfl) pe_int)
    (pss_cons (ps_while PassesOwn.never (pt_cmpR op_ne (pe_ix (kx_list (K := K) rfl) (pv 0) (pv 1) (fun _ _ => rfl)) pe_int (nomark _)) (pss_one (ps_set (i := 1) sc_l_halves.nd rfl (.inl rfl) (pe_op op_add (pv 1) pe_int))))
    (pss_one (ps_ret (pe_tup (pa_cons (pe_lc (own := [("_law_a_depth", 2)]) (g := (gName 2)) (tt := tYes) (by rfl) sc_l_halves.nd (pi_list (pe_slice (k_sl (K := K) rfl) (pv 0) po_none (po_some (pe_op op_add (pv 1) pe_int)))) (blkOk_by (own := [("_law_a_depth", 2)]) (N := N_l_halves) (sc := defScope s_l_halves) (by decide +kernel)) (fun _ _ _ _ _ => (pg_name (i := 2) sc_l_halves.nd rfl (.inl rfl))) (fun _ _ _ _ _ => pts_nil) (fun _ _ _ _ _ => (pe_op op_sub (pv 2) pe_int))) (pa_cons (pe_slice (k_sl (K := K) rfl) (pv 0) (po_some (pe_op op_add (pv 1) pe_int)) po_none) pa_nil))))))), ?_⟩

  obtain ⟨p, rfl, hp⟩ := ints_ex hx
  have hp1 := hB _ _ hp
  have hl0 := sp.tl.pos
  have hlen := sp.len
  refine ⟨fun m σ H2 => ∃ i : Nat, σ = [some (.ref p), some (.int i), none] ∧ i + m = l.length - 1 ∧ H2 = H, ⟨l.length - 1, 0, rfl, by omega, rfl⟩, ?_⟩
  rintro m σ H2 ⟨i, rfl, him, rfl⟩
  obtain ⟨d, hd, hd1⟩ := sp.one (i := i) (by omega)
  refine ⟨_, rfl, _, rfl, p, _, _, _, rfl, rfl, SqL.of hp1, atI_nat (j := i) (v := V.int d) (by rw [List.getElem?_map, hd]; rfl), rfl, _, rfl, ?_⟩
  by_cases e : i = l.length - 1
  · have d1 := hd1.mpr e
    rw [show decide (V.int d = V.int 1) = true from decide_eq_true (by rw [d1])]
    refine iteF ?_
    have ek : i + 1 = l.length := by omega
    refine ⟨_, rfl, _, rfl, _, _, rfl, rfl, _, rfl, p, _, rfl, SqL.of hp1, fun p2 np2 => ?_⟩
    rw [show ((i : Nat) : Int) + 1 = ((l.length : Nat) : Int) by omega, cut_upto, ← List.map_take, sp.take]
    have hp2 : upd H2 p2 (.lst ((l.map (· + 1)).map V.int)) p2 = some (.lst ((l.map (· + 1)).map V.int)) := upd_same
    have s2 : Same H2 (upd H2 p2 (.lst ((l.map (· + 1)).map V.int))) := same_new np2
    generalize upd H2 p2 (.lst ((l.map (· + 1)).map V.int)) = H3 at hp2 s2
    refine ⟨p2, rfl, ⟨_, SqL.of hp2⟩, fun D hD => ?_⟩
    refine lc_ints (fun d => .int (d - 1)) (hB.trans s2) hD (by rw [List.length_map]; omega) (SqL.of hp2) (fun d B3 H4 hd3 s4 s5 s6 fr R k => ⟨rfl, _, rfl, _, _, rfl, rfl, k _ B3 H4 (Grow.refl s5) (.int _)⟩) (fun B4 H4 g4 h4 => ?_)
    rw [back_one] at h4
    refine ⟨_, rfl, _, rfl, _, _, rfl, rfl, _, rfl, p, _, rfl, SqL.of (g4.hh _ _ (s2 _ _ hp1)), fun p5 np5 => ?_⟩
    rw [show ((i : Nat) : Int) + 1 = ((l.length : Nat) : Int) by omega, cut_from, ← List.map_drop, sp.drop]
    refine ⟨by show 2 ≤ sizeLine; decide, fun p6 np6 => ?_⟩
    have g0 : Grow B H2 B4 H4 := ⟨g4.bb, g4.bh, s2.trans g4.hh, fun b hb e => g4.fr b (ne_none_of s2 hb) e⟩
    have g5 := g0.trans (Grow.new (o := .lst (r.map V.int)) g0.bh np5)
    have g6 := g5.trans (Grow.new (o := .tup [.ref D, .ref p5]) g5.bh np6)
    have h5 : At (upd B4 p5 (.lst (r.map V.int))) (.ref p5) (intsD r) := ints_at upd_same
    refine q _ _ _ g6 (.tup upd_same (.cons ?_ (.cons ?_ .nil)))
    · exact (h4.up (same_new (g4.bh.free np5))).up (same_new (g5.bh.free np6))
    · exact h5.up (same_new (g5.bh.free np6))
  · have d1 : d ≠ 1 := fun z => e (hd1.mp z)
    rw [show decide (V.int d = V.int 1) = false from decide_eq_false fun z => d1 (V.int.inj z)]
    refine iteT ?_
    refine ⟨fun σ H3 => σ = [some (.ref p), some (.int ((i + 1 : Nat) : Int)), none] ∧ H3 = H2, fun σ H3 ⟨e1, e2⟩ => ⟨m - 1, by omega, i + 1, e1, by omega, e2⟩, ?_⟩
    exact ⟨_, rfl, _, _, rfl, rfl, rfl, rfl⟩
def sp_l_after (K : PySem.W.Frag) : Sp := fun vs H Q _ => ∃ (o t r : Int), vs = [.int o, .int t, .int r] ∧ Q (.int (if o + 1 < t + r then o + 1 else t)) H
theorem ok_l_after {f : Addr} {fd : FuncData} (F : Fun K "_law_after" "_law_after" s_l_after f fd) (T : Bt mg) : FnG P w K mg base CX0 1 f fd ["_law_one", "_law_a_tail", "_law_a_ring"] (sp_l_after K) := by
  refine okN F sc_l_after (fun vs H Q E h => ?_) (fun cdv A out s H vs Q E hc hr h => ?_)
  · obtain ⟨o, t, r, rfl, q⟩ := h
    rfl
  obtain ⟨o, t, r, rfl, q⟩ := h
  have hu200 := u200 hr
  have hu64 := hr.units
  refine ⟨_, (pss_one (ps_ret (pe_ifExp (pt_cmpR op_lt (pe_op op_add (pv 0) pe_int) (pe_op op_add (pv 1) (pv 2)) (nomark _)) (pe_op op_add (pv 0) pe_int) (pv 1)))), ?_⟩

  refine ⟨_, rfl, _, _, rfl, rfl, _, rfl, _, rfl, _, _, rfl, rfl, _, _, rfl, rfl, _, rfl, ite2 (fun c => ?_) (fun c => ?_)⟩
  · rw [if_pos (of_decide_eq_true c)] at q
    exact ⟨_, rfl, _, _, rfl, rfl, q⟩
  · rw [if_neg fun z => c (decide_eq_true z)] at q
    exact ⟨_, rfl, q⟩
theorem emod_succ {a r : Int} (h : 0 < r) : (a + 1) % r = if a % r + 1 < r then a % r + 1 else 0 := by
  have h0 := Int.emod_nonneg a (show r ≠ 0 by omega)
  have h1 := Int.emod_lt_of_pos a h
  have e : a + 1 = (a % r + 1) + r * (a / r) := by
    have := Int.emod_add_mul_ediv a r
    omega
  rw [e, Int.add_mul_emod_self_left]
  split
  · exact Int.emod_eq_of_lt (by omega) (by assumption)
  · rw [show a % r + 1 = r by omega]
    exact Int.emod_self
theorem mk_step {d t r : Int} (hd : 0 ≤ d) (ht : 0 ≤ t) (hr : 1 ≤ r) : (if mk d t r + 1 < t + r then mk d t r + 1 else t) = mk (d + 1) t r := by
  unfold mk
  by_cases h1 : d < t
  · rw [if_pos h1, if_pos (by omega)]
    by_cases h2 : d + 1 < t
    · rw [if_pos h2]
    · rw [if_neg h2, show d + 1 - t = 0 by omega, Int.zero_emod]
      omega
  · rw [if_neg h1, if_neg (show ¬ d + 1 < t by omega), show d + 1 - t = (d - t) + 1 by omega, emod_succ (by omega)]
    have h0 := Int.emod_nonneg (d - t) (show r ≠ 0 by omega)
    by_cases h2 : (d - t) % r + 1 < r
    · rw [if_pos h2, if_pos (show t + (d - t) % r + 1 < t + r by omega)]
      omega
    · rw [if_neg h2, if_neg (show ¬ t + (d - t) % r + 1 < t + r by omega)]
      omega
theorem mk_zero {t r : Int} (ht : 0 ≤ t) : mk 0 t r = 0 := by
  unfold mk
  split
  · rfl
  · rw [show t = 0 by omega]
    simp
theorem mk_nonneg {d t r : Int} (hd : 0 ≤ d) (ht : 0 ≤ t) (hr : 1 ≤ r) : 0 ≤ mk d t r := by
  unfold mk
  split
  · exact hd
  · have := Int.emod_nonneg (d - t) (show r ≠ 0 by omega)
    omega
theorem mk_lt {d t r : Int} (hd : 0 ≤ d) (ht : 0 ≤ t) (hr : 1 ≤ r) : mk d t r < t + r := by
  unfold mk
  split
  · omega
  · have := Int.emod_lt_of_pos (d - t) (show 0 < r by omega)
    omega

/-- letters and how often they were turned -/
def lets (as ds : List Int) : PyData := .list (List.zipWith (fun a d => PyData.tuple [.int a, .int d]) as ds)
theorem lets_map {as ds : List Int} {f : Int → Int} : (List.zipWith (fun a d => PyData.tuple [.int a, .int d]) as ds).map (fun x => match x with | .tuple [.int a, .int d] => .tuple [.int a, .int (f d)] | y => y) = List.zipWith (fun a d => PyData.tuple [.int a, .int d]) as (ds.map f) := by
  rw [List.map_zipWith, List.zipWith_map_right]
def sp_l_folded (K : PySem.W.Frag) (kk : Nat) : Sp := fun vs H Q _ => ∃ (B : Hp) (x y : V) (ns as : List Int) (t r : Int), vs = [x, y, .int t, .int r] ∧ Same B H ∧ At B x (intsD ns) ∧ At B y (lets as (as.map fun _ => 0)) ∧ Tr ns ∧ as.length = ns.length ∧ 0 < ns.length ∧ ns.length ≤ kk ∧ ns.length ≤ 40 ∧ 0 ≤ t ∧ 1 ≤ r ∧
  ∀ v B2 H2, Grow B H B2 H2 → At B2 v (lets as (mks ns t r)) → Q v H2
theorem lets_ex {H : Hp} {v : V} {as ds : List Int} (h : At H v (lets as ds)) : ∃ p xs, v = .ref p ∧ H p = some (.lst xs) ∧ AtL H xs (List.zipWith (fun a d => PyData.tuple [.int a, .int d]) as ds) := At.lst_ex h
theorem zeros_take (as : List Int) (k : Nat) : (List.zipWith (fun a d => PyData.tuple [.int a, .int d]) as (as.map fun _ => 0)).take k = List.zipWith (fun a d => PyData.tuple [.int a, .int d]) (as.take k) ((as.take k).map fun _ => 0) := by
  rw [List.take_zipWith, List.map_take]
theorem zeros_drop (as : List Int) (k : Nat) : (List.zipWith (fun a d => PyData.tuple [.int a, .int d]) as (as.map fun _ => 0)).drop k = List.zipWith (fun a d => PyData.tuple [.int a, .int d]) (as.drop k) ((as.drop k).map fun _ => 0) := by
  rw [List.drop_zipWith, List.map_drop]
theorem Grow.back {B H H1 B2 H2 : Hp} (s : Same H H1) (g : Grow B H1 B2 H2) : Grow B H B2 H2 := ⟨g.bb, g.bh, s.trans g.hh, fun b hb e => g.fr b (ne_none_of s hb) e⟩
theorem ok_l_folded {f : Addr} {fd : FuncData} {lv kk : Nat} (F : Fun K "_law_folded" "_law_folded" s_l_folded f fd) (T : Bt mg) (D__law_halves : Callee P w K mg base CX0 1 "_law_halves" ["_law_a_tree"] (sp_l_halves K)) (D__law_after : Callee P w K mg base CX0 1 "_law_after" ["_law_one", "_law_a_tail", "_law_a_ring"] (sp_l_after K)) (hlv : 1 ≤ lv) (D__law_folded : Callee P w K mg base CX0 lv "_law_folded" ["_law_a_tree", "_law_row", "_law_a_tail", "_law_a_ring"] (sp_l_folded K kk)) : FnG P w K mg base CX0 (lv + 1) f fd ["_law_a_tree", "_law_row", "_law_a_tail", "_law_a_ring"] (sp_l_folded K (kk + 1)) := by
  refine okN F sc_l_folded (fun vs H Q E h => ?_) (fun cdv A out s H vs Q E hc hr h => ?_)
  · obtain ⟨B, x, y, ns, as, t, r, rfl, hB, hx, hy, ht, hal, h0, hk, hl, t0, r0, q⟩ := h
    rfl
  obtain ⟨B, x, y, ns, as, t, r, rfl, hB, hx, hy, ht, hal, h0, hk, hl, t0, r0, q⟩ := h
  have hu200 := u200 hr
  have hu64 := hr.units
  refine ⟨_, (pss_cons (ps_if (pt_cmpR op_eq (pe_callB (k_len (K := K) rfl) (by rfl) T.b_len PySem.boot_len (pa_cons (pv 0) pa_nil)) pe_int (nomark _)) (pss_one (ps_ret (pv 1))) pss_nil)
    (pss_cons (ps_asg (pg_call D__law_halves.ok hc (hr.mono (by omega)) (by rfl) D__law_halves.mg D__law_halves.kp D__law_halves.bd pass0 (pa_cons (pv 0) pa_nil)) (pg_tup rfl (pgs_cons (pg_name (i := 4) sc_l_folded.nd rfl (.inl rfl)) (pgs_cons (pg_name (i := 5) sc_l_folded.nd rfl (.inl rfl)) pgs_nil))))
    (pss_cons (ps_set (i := 6) sc_l_folded.nd rfl (.inl rfl) (pg_call D__law_folded.ok hc (hr.mono (by omega)) (by rfl) D__law_folded.mg D__law_folded.kp D__law_folded.bd pass0 (pa_cons (pv 4) (pa_cons (pe_slice (k_sl (K := K) rfl) (pv 1) po_none (po_some (pe_callB (k_len (K := K) rfl) (by rfl) T.b_len PySem.boot_len (pa_cons (pv 4) pa_nil)))) (pa_cons (pv 2) (pa_cons (pv 3) pa_nil))))))
    (pss_cons (ps_setLc (i := 7) (own := [("_law_one", 9), ("_law_often", 8)]) (g := (gTup K 2 (gCons (gName 9) (gCons (gName 8) gNil)))) (tt := tYes) (by rfl) sc_l_folded.nd rfl rfl (sw_true rfl rfl rfl (by decide +kernel)) (pi_list (pv 6)) (blkOk_by (own := [("_law_one", 9), ("_law_often", 8)]) (N := N_l_folded) (sc := defScope s_l_folded) (by decide +kernel)) (fun _ _ _ _ _ => (pg_tup rfl (pgs_cons (pg_name (i := 9) sc_l_folded.nd rfl (.inl rfl)) (pgs_cons (pg_name (i := 8) sc_l_folded.nd rfl (.inl rfl)) pgs_nil)))) (fun _ _ _ _ _ => pts_nil) (fun _ _ _ _ _ => (pe_tup (pa_cons (pv 9) (pa_cons (pg_call D__law_after.ok hc (hr.mono (by omega)) (by rfl) D__law_after.mg D__law_after.kp D__law_after.bd pass0 (pa_cons (pv 8) (pa_cons (pv 2) (pa_cons (pv 3) pa_nil)))) pa_nil)))))
    (pss_one (ps_ret (pe_op op_cat (pv 7) (pg_call D__law_folded.ok hc (hr.mono (by omega)) (by rfl) D__law_folded.mg D__law_folded.kp D__law_folded.bd pass0 (pa_cons (pv 5) (pa_cons (pe_slice (k_sl (K := K) rfl) (pv 1) (po_some (pe_callB (k_len (K := K) rfl) (by rfl) T.b_len PySem.boot_len (pa_cons (pv 4) pa_nil))) po_none) (pa_cons (pv 2) (pa_cons (pv 3) pa_nil)))))))))))), ?_⟩

  obtain ⟨p, rfl, hp⟩ := ints_ex hx
  refine ⟨_, rfl, p, _, rfl, .inl (SqL.of (hB _ _ hp)), rfl, _, rfl, ite2 (fun c => ?_) (fun c => ?_)⟩
  · have e1 : ns.length = 1 := by
      have := V.int.inj (of_decide_eq_true c)
      rw [List.length_map] at this
      omega
    have e2 : ns = [0] := by
      cases ht with
      | leaf => rfl
      | cons t h1 h2 => simp at e1
    have e3 : mks ns t r = as.map fun _ => 0 := by
      obtain ⟨a, rfl⟩ := List.length_eq_one_iff.mp (hal.trans e1)
      rw [e2]
      simp [mks, mk_zero t0]
    rw [e3] at q
    exact ⟨_, rfl, q y B H (Grow.refl hB) hy⟩
  · have e1 : ns.length ≠ 1 := fun e => c (decide_eq_true (by rw [List.length_map, e]; rfl))
    obtain ⟨l, rr, sp⟩ := split_ex ht (by omega)
    have hlen := sp.len
    have l0 := sp.tl.pos
    have rr0 := sp.tr.pos
    refine ⟨_, rfl, B, _, ns, l, rr, rfl, hB, hx, sp, by omega, fun v B2 H2 g2 h2 => ?_⟩
    obtain ⟨w, xs, rfl, hw, axs⟩ := h2.tup_ex
    cases axs with
    | cons a1 a2 =>
      cases a2 with
      | cons a2 a3 =>
        cases a3
        rename_i vl vr
        refine ⟨w, _, rfl, SqT.of (g2.bh _ _ hw), rfl, _, _, rfl, _, _, rfl, rfl, ?_⟩
        obtain ⟨pl, rfl, hpl⟩ := ints_ex a1
        obtain ⟨yp, ys, rfl, hyp, hys⟩ := lets_ex hy
        have hyp2 := g2.hh _ _ (hB _ _ hyp)
        have lys : ys.length = ns.length := by rw [hys.length, List.length_zipWith, List.length_map, Nat.min_self, hal]
        -- the left part
        refine ⟨_, rfl, _, rfl, _, rfl, pl, _, rfl, .inl (SqL.of (g2.bh _ _ hpl)), _, rfl, yp, _, rfl, SqL.of hyp2, fun p3 np3 => ?_⟩
        rw [List.length_map, cut_upto]
        have g3 : Grow B2 H2 _ _ := Grow.new (o := .lst (ys.take l.length)) g2.bh np3
        have a3 : At (upd B2 p3 (.lst (ys.take l.length))) (.ref p3) (lets (as.take l.length) ((as.take l.length).map fun _ => 0)) := by
          refine .lst upd_same ?_
          rw [← zeros_take]
          exact ((hys.up g2.bb).take _).up (same_new (g2.bh.free np3))
        refine ⟨_, rfl, _, rfl, _, _, _, l, as.take l.length, t, r, rfl, g3.bh, a1.up g3.bb, a3, sp.tl, by rw [List.length_take]; omega, l0, by omega, by omega, t0, r0, fun v4 B4 H4 g4 h4 => ?_⟩
        have gA := (g2.trans g3).trans g4
        -- turned once more
        obtain ⟨q4, zs, rfl, hq4, hzs⟩ := lets_ex h4
        have hal4 : (as.take l.length).length = l.length := by rw [List.length_take]; omega
        have lz : zs.length = l.length := by rw [hzs.length, List.length_zipWith, hal4, mks_len, Nat.min_self]
        refine ⟨_, rfl, q4, rfl, ⟨_, SqL.of (gA.bh _ _ hq4)⟩, fun D hD => ?_⟩
        refine lc_gen (walk_list (K := K) (a := q4) (xs := zs)) (fun i => (List.zipWith (fun a d => PyData.tuple [.int a, .int d]) (as.take l.length) ((mks l t r).map fun d => if d + 1 < t + r then d + 1 else t)).getD i .none) gA.bh hD (by omega)
          (fun H5 s => s.seq (SqL.of (gA.bh _ _ hq4))) same_YAt (fun i z B5 H5 H6 hi hy5 s1 s2 s3 fr R k => ?_) (fun B5 H5 g5 h5 => ?_)
        · obtain ⟨rfl, hz⟩ := hy5
          obtain ⟨d, hd, az⟩ := hzs.get2 hz
          have hia : i < (as.take l.length).length := by omega
          have him : i < (mks l t r).length := by rw [mks_len]; omega
          have ed : d = .tuple [.int (as.take l.length)[i], .int (mks l t r)[i]] := by
            rw [List.getElem?_zipWith, List.getElem?_eq_getElem hia, List.getElem?_eq_getElem him] at hd
            exact (Option.some.inj hd).symm
          rw [ed] at az
          obtain ⟨w2, ws, rfl, hw2, aws⟩ := (az.up s1).tup_ex
          cases aws with
          | cons b1 b2 =>
            cases b2 with
            | cons b2 b3 =>
              cases b3
              obtain rfl := b1.int_eq
              obtain rfl := b2.int_eq
              refine ⟨w2, _, rfl, SqT.of (s2 _ _ hw2), rfl, _, _, rfl, _, _, rfl, rfl, rfl, ?_⟩
              refine ⟨_, rfl, _, rfl, _, rfl, _, rfl, _, t, r, rfl, by show 2 ≤ sizeLine; decide, fun p7 np7 => ?_⟩
              refine k _ _ _ (Grow.new s2 np7) ?_
              have em : (List.zipWith (fun a d => PyData.tuple [.int a, .int d]) (as.take l.length) ((mks l t r).map fun d => if d + 1 < t + r then d + 1 else t)).getD i .none = .tuple [.int (as.take l.length)[i], .int (if (mks l t r)[i] + 1 < t + r then (mks l t r)[i] + 1 else t)] := by
                rw [List.getD_eq_getElem?_getD, List.getElem?_zipWith, List.getElem?_eq_getElem hia, List.getElem?_map, List.getElem?_eq_getElem him]
                rfl
              rw [em]
              exact .tup upd_same (.cons (.int _) (.cons (.int _) .nil))
        · have hup : (mks l t r).map (fun d => if d + 1 < t + r then d + 1 else t) = mks (l.map (· + 1)) t r := by
            unfold mks
            rw [List.map_map, List.map_map]
            apply List.map_congr_left
            intro d hd
            exact mk_step (sp.tl.nonneg hd) t0 r0
          have e5 : (List.range zs.length).map (fun i => (List.zipWith (fun a d => PyData.tuple [.int a, .int d]) (as.take l.length) ((mks l t r).map fun d => if d + 1 < t + r then d + 1 else t)).getD i .none) = List.zipWith (fun a d => PyData.tuple [.int a, .int d]) (as.take l.length) (mks (l.map (· + 1)) t r) := by
            rw [hup]
            apply List.ext_getElem
            · rw [List.length_map, List.length_range, List.length_zipWith, hal4, mks_len, List.length_map, lz, Nat.min_self]
            · intro i h1 h2
              rw [List.getElem_map, List.getElem_range, List.getD_eq_getElem?_getD, List.getElem?_eq_getElem h2]
              rfl
          rw [e5] at h5
          have gB := gA.trans g5
          -- the right part
          obtain ⟨D', ds, eD, hDs, hds⟩ := At.lst_ex h5
          cases eD
          have g25 := (g3.trans g4).trans g5
          refine ⟨_, rfl, _, rfl, _, rfl, _, rfl, pl, _, rfl, .inl (SqL.of (g25.hh _ _ (g2.bh _ _ hpl))), _, rfl, yp, _, rfl, SqL.of (g25.hh _ _ hyp2), fun p8 np8 => ?_⟩
          rw [List.length_map, cut_from]
          have g8 : Grow B5 H5 _ _ := Grow.new (o := .lst (ys.drop l.length)) gB.bh np8
          have a8 : At (upd B5 p8 (.lst (ys.drop l.length))) (.ref p8) (lets (as.drop l.length) ((as.drop l.length).map fun _ => 0)) := by
            refine .lst upd_same ?_
            rw [← zeros_drop]
            exact ((hys.up gB.bb).drop _).up (same_new (gB.bh.free np8))
          refine ⟨_, rfl, _, rfl, _, _, _, rr, as.drop l.length, t, r, rfl, g8.bh, (a2.up g25.bb).up g8.bb, a8, sp.tr, by rw [List.length_drop]; omega, rr0, by omega, by omega, t0, r0, fun v9 B9 H9 g9 h9 => ?_⟩
          obtain ⟨q9, ws, rfl, hq9, hws⟩ := lets_ex h9
          have gC := (gB.trans g8).trans g9
          have hD9 := (g8.trans g9).bb _ _ hDs
          refine ⟨D, q9, ds, ws, rfl, rfl, gC.bh _ _ hD9, gC.bh _ _ hq9, ?_, fun p10 np10 => ?_⟩
          · have k1 := hds.length
            have k2 := hws.length
            rw [List.length_zipWith] at k1 k2
            rw [List.length_take] at k1
            rw [List.length_drop] at k2
            exact Nat.le_of_lt (small1000 (by omega))
          · refine q _ _ _ (gC.trans (Grow.new gC.bh np10)) (.lst upd_same ?_)
            have e9 : List.zipWith (fun a d => PyData.tuple [.int a, .int d]) as (mks ns t r) = List.zipWith (fun a d => PyData.tuple [.int a, .int d]) (as.take l.length) (mks (l.map (· + 1)) t r) ++ List.zipWith (fun a d => PyData.tuple [.int a, .int d]) (as.drop l.length) (mks rr t r) := by
              rw [← List.zipWith_append (by rw [List.length_take, mks_len, List.length_map]; omega), List.take_append_drop]
              congr 1
              rw [sp.eq]
              exact List.map_append
            rw [e9]
            exact ((hds.up (g8.trans g9).bb).append hws).up (same_new (gC.bh.free np10))
theorem rec_l_folded {f : Addr} {fd : FuncData} (F : Fun K "_law_folded" "_law_folded" s_l_folded f fd) (T : Bt mg) (D__law_halves : Callee P w K mg base CX0 1 "_law_halves" ["_law_a_tree"] (sp_l_halves K)) (D__law_after : Callee P w K mg base CX0 1 "_law_after" ["_law_one", "_law_a_tail", "_law_a_ring"] (sp_l_after K)) (hm : mg "_law_folded" = some (.ref f)) (hb : Binds K fd ["_law_a_tree", "_law_row", "_law_a_tail", "_law_a_ring"] []) : ∀ kk, FnG P w K mg base CX0 (1 + kk) f fd ["_law_a_tree", "_law_row", "_law_a_tail", "_law_a_ring"] (sp_l_folded K kk)
  | 0 => FnG.vain fun vs H Q E h => by
    obtain ⟨B, x, y, ns, as, t, r, rfl, hB, hx, hy, ht, hal, h0, hk, hl, t0, r0, q⟩ := h
    omega
  | kk + 1 => ok_l_folded (lv := 1 + kk) F T D__law_halves D__law_after (by omega) ⟨f, fd, rec_l_folded F T D__law_halves D__law_after hm hb kk, hm, F.kp, hb⟩
/-- what a row must be to be a tree, place by place -/
theorem Tr.of : ∀ {ns : List Int}, 0 < ns.length → (∀ i d, ns[i]? = some d → (if i = ns.length - 1 then 0 else 1) ≤ d) → (∀ i d e, ns[i]? = some d → ns[i + 1]? = some e → d ≤ e + 1) → ns[ns.length - 1]? = some 0 → Tr ns
  | [], h, _, _, _ => by simp at h
  | [d], _, _, _, h => by
    have e : d = 0 := by simpa using h
    rw [e]
    exact .leaf
  | d :: e :: r, _, h1, h2, h3 => by
    refine .cons (Tr.of (by simp) (fun i x hx => ?_) (fun i x y hx hy => h2 (i + 1) x y (by simpa using hx) (by simpa using hy)) (by simpa using h3)) ?_ (h2 0 d e (by simp) (by simp))
    · have q := h1 (i + 1) x (by simpa using hx)
      simp only [List.length_cons] at q ⊢
      split at q <;> split <;> omega
    · have q := h1 0 d (by simp)
      simp only [List.length_cons] at q
      rw [if_neg (by omega)] at q
      exact q
theorem last_at {ns : List Int} {z : Int} (h0 : 0 < ns.length) (h : ns[ns.length - 1]? = some z) : atI (ns.map V.int) (-1) = some (.int z) := by
  have e : ns.map V.int = ns.dropLast.map V.int ++ [V.int z] := by
    have hne : ns ≠ [] := fun q => by rw [q] at h0; simp at h0
    have e1 : ns.getLast hne = z := by
      have e2 := List.getLast?_eq_some_getLast hne
      rw [List.getLast?_eq_getElem?, h] at e2
      exact (Option.some.inj e2).symm
    rw [← e1, ← List.map_singleton, ← List.map_append, List.dropLast_concat_getLast]
  rw [e]
  exact atI_last _ _
def sp_l_is_tree (K : PySem.W.Frag) : Sp := fun vs H Q _ => ∃ (B : Hp) (x : V) (ns : List Int), vs = [x] ∧ Same B H ∧ At B x (intsD ns) ∧ 0 < ns.length ∧ ns.length ≤ 1000 ∧
  ∀ (b : Bool) H2, (b = true → Tr ns) → Same H H2 → Q (.bl b) H2
theorem ok_l_is_tree {f : Addr} {fd : FuncData} (F : Fun K "_law_is_tree" "_law_is_tree" s_l_is_tree f fd) (T : Bt mg) : FnG P w K mg base CX0 1 f fd ["_law_row"] (sp_l_is_tree K) := by
  refine okN F sc_l_is_tree (fun vs H Q E h => ?_) (fun cdv A out s H vs Q E hc hr h => ?_)
  · obtain ⟨B, x, ns, rfl, hB, hx, h0, hl, q⟩ := h
    rfl
  obtain ⟨B, x, ns, rfl, hB, hx, h0, hl, q⟩ := h
  have hu200 := u200 hr
  have hu64 := hr.units
  refine ⟨_, (pss_cons (ps_for PassesOwn.never rfl (pi_enum (by rfl) T.b_enumerate (pa_cons (pv 0) pa_nil)) (pg_tup rfl (pgs_cons (pg_name (i := 1) sc_l_is_tree.nd rfl (.inl rfl)) (pgs_cons (pg_name (i := 2) sc_l_is_tree.nd rfl (.inl rfl)) pgs_nil))) (pss_one (ps_if (PW.pt (pw_or (pt_cmpR op_lt (pv 2) (pe_callTy call_int1 (by rfl) T.b_int (by decide +kernel) (pa_cons (pe_cmpR op_lt (pv 1) (pe_op op_sub (pe_callB (k_len (K := K) rfl) (by rfl) T.b_len PySem.boot_len (pa_cons (pv 0) pa_nil)) pe_int) (nomark _)) pa_nil)) (nomark _)) (pw_or1 (PW.pt (pw_and (pt_cmpR op_gt (pv 1) pe_int (nomark _)) (pw_and1 (pt_cmpR op_lt (pv 2) (pe_op op_sub (pe_ix (kx_list (K := K) rfl) (pv 0) (pe_op op_sub (pv 1) pe_int) (fun _ _ => rfl)) pe_int) (nomark _)))))))) (pss_one (ps_ret pe_bl)) pss_nil)))
    (pss_one (ps_ret (pe_cmpR op_eq (pe_ix (kx_list (K := K) rfl) (pv 0) (pe_un un_neg pe_int) (fun _ _ => rfl)) pe_int (nomark _))))), ?_⟩

  obtain ⟨p, rfl, hp⟩ := ints_ex hx
  have hp1 := hB _ _ hp
  refine ⟨_, rfl, p, ns.map V.int, rfl, SqL.of hp1, for_it walk_enum (fun i σ H2 => ∃ x1 x2, σ = [some (.ref p), x1, x2] ∧ Same H H2 ∧ (∀ j d, j < i → ns[j]? = some d → (if j = ns.length - 1 then 0 else 1) ≤ d) ∧ ∀ j d e, j + 1 < i → ns[j]? = some d → ns[j + 1]? = some e → d ≤ e + 1)
    ⟨none, none, rfl, Same.refl _, fun j d hj => by omega, fun j d e hj => by omega⟩ (fun i σ H2 _ ⟨_, _, _, s, _⟩ => SqL.of (s _ _ hp1)) ?_ ?_⟩
  · rintro i z σ H2 H3 hi ⟨x1, x2, rfl, s, k1, k2⟩ ⟨T1, z1, z2, rfl, nT, rfl, f1, f2⟩
    cases f1
    obtain ⟨d, hd, rfl⟩ := ex_int f2
    rw [List.length_map] at hi
    have s3 : Same H (upd H2 T1 (.tup [.int (i : Nat), .int d])) := s.trans (same_new nT)
    refine ⟨T1, _, rfl, SqT.of upd_same, rfl, _, _, rfl, _, _, rfl, rfl, ?_⟩
    generalize upd H2 T1 (.tup [.int (i : Nat), .int d]) = H3 at s3
    refine ⟨_, rfl, _, rfl, _, rfl, p, _, rfl, .inl (SqL.of (s3 _ _ hp1)), _, _, rfl, rfl, _, _, rfl, rfl, .inr ⟨_, rfl, ?_⟩⟩
    refine ⟨_, _, rfl, rfl, _, rfl, ite2 (fun c => iteT (q false _ (fun z => nomatch z) s3)) (fun c => ?_)⟩
    have g1 : (if i = ns.length - 1 then 0 else 1) ≤ d := by
      have c2 : ¬ (d < (if decide ((i : Int) < (((ns.map V.int).length : Nat) : Int) - 1) = true then 1 else 0)) := fun z => c (decide_eq_true z)
      rw [List.length_map] at c2
      by_cases e : i = ns.length - 1
      · rw [if_pos e]
        rw [if_neg (by rw [decide_eq_true_iff]; omega)] at c2
        omega
      · rw [if_neg e]
        rw [if_pos (by rw [decide_eq_true_iff]; omega)] at c2
        omega
    have k1b : ∀ j x, j < i + 1 → ns[j]? = some x → (if j = ns.length - 1 then 0 else 1) ≤ x := fun j x hj hx => by
      by_cases e : j = i
      · subst e
        rw [hd] at hx
        cases hx
        exact g1
      · exact k1 j x (by omega) hx
    refine ⟨_, rfl, _, _, rfl, rfl, _, rfl, ite2 (fun c2 => ?_) (fun c2 => ?_)⟩
    · have ipos : 0 < i := by
        have := of_decide_eq_true c2
        omega
      obtain ⟨d0, hd0⟩ : ∃ d0, ns[i - 1]? = some d0 := ⟨ns[i - 1], List.getElem?_eq_getElem (by omega)⟩
      refine ⟨_, rfl, _, rfl, _, rfl, _, _, rfl, rfl, p, _, _, _, rfl, rfl, SqL.of (s3 _ _ hp1), at_of (j := i - 1) (v := V.int d0) (by omega) (by rw [List.getElem?_map, hd0]; rfl), _, _, rfl, rfl, _, _, rfl, rfl, _, rfl, ?_⟩
      refine ite2 (fun c3 => q false _ (fun z => nomatch z) s3) (fun c3 => ?_)
      have g2 : ¬ d < d0 - 1 := fun z => c3 (decide_eq_true z)
      refine ⟨_, _, rfl, s3, k1b, fun j x y hj hx hy => ?_⟩
      by_cases e : j + 1 = i
      · have e2 : j = i - 1 := by omega
        subst e2
        rw [hd0] at hx
        rw [e, hd] at hy
        cases hx
        cases hy
        omega
      · exact k2 j x y (by omega) hx hy
    · have i0 : i = 0 := by
        have : ¬ ((i : Int) > 0) := fun z => c2 (decide_eq_true z)
        omega
      exact iteF ⟨_, _, rfl, s3, k1b, fun j x y hj => by omega⟩
  · rintro σ H2 ⟨x1, x2, rfl, s, k1, k2⟩
    rw [List.length_map] at k1 k2
    obtain ⟨z, hz⟩ : ∃ z, ns[ns.length - 1]? = some z := ⟨ns[ns.length - 1], List.getElem?_eq_getElem (by omega)⟩
    refine ⟨_, rfl, _, rfl, p, _, _, _, rfl, rfl, SqL.of (s _ _ hp1), last_at h0 hz, rfl, q _ _ (fun e => ?_) s⟩
    have ez : z = 0 := V.int.inj (of_decide_eq_true e)
    rw [ez] at hz
    refine Tr.of h0 (fun j d hj => k1 j d ?_ hj) (fun j d e hj he => k2 j d e ?_ hj he) hz
    · exact (List.getElem?_eq_some_iff.mp hj).1
    · exact (List.getElem?_eq_some_iff.mp he).1
def sp_l_draws (K : PySem.W.Frag) : Sp := fun vs H Q _ => ∃ (c : Int), vs = [.int c] ∧ ∀ p H2, Same H H2 → H p = Option.none → DrawsAt H2 p 0 → Q (.ref p) H2
theorem ok_l_draws {f : Addr} {fd : FuncData} (F : Fun K "_law_draws" "_law_draws" s_l_draws f fd) (T : Bt mg) : FnG P w K mg base CX0 1 f fd ["_law_cell"] (sp_l_draws K) := by
  refine okN F sc_l_draws (fun vs H Q E h => ?_) (fun cdv A out s H vs Q E hc hr h => ?_)
  · obtain ⟨c, rfl, q⟩ := h
    rfl
  obtain ⟨c, rfl, q⟩ := h
  have hu200 := u200 hr
  have hu64 := hr.units
  refine ⟨_, (pss_one (ps_ret (pe_lst (pa_cons (pe_op op_mod (pe_callTy call_int1 (by rfl) T.b_int (by decide +kernel) (pa_cons (pv 0) pa_nil)) (pe_op op_powW (pe_op op_powW (pe_op op_powW pe_int pe_int) pe_int) pe_int)) (pa_cons pe_int (pa_cons (pe_cmpR op_ge (pv 0) (pe_op op_powW pe_int pe_int) (nomark _)) pa_nil)))))), ?_⟩

  refine ⟨_, rfl, .inl ⟨_, rfl, ?_⟩⟩
  refine ⟨_, _, rfl, rfl, ⟨by decide, by decide +kernel⟩, _, _, rfl, rfl, ⟨by decide, by decide +kernel⟩, _, _, rfl, rfl, ⟨by decide, by decide +kernel⟩, _, _, rfl, rfl, (by show (0 : Int) < _; decide +kernel), ?_⟩
  refine ⟨_, rfl, _, _, rfl, rfl, ⟨by decide, by decide +kernel⟩, _, _, rfl, rfl, ?_⟩
  refine ⟨by show 3 ≤ sizeLine; decide, fun p hp => ?_⟩
  exact q p _ (same_new hp) hp ⟨_, _, _, upd_same, by omega, by omega⟩
def sp_l_next (K : PySem.W.Frag) : Sp := fun vs H Q _ => ∃ (p : Addr) (n : Int), vs = [.ref p] ∧ DrawsAt H p n ∧ n ≤ 1000000000 ∧ ∀ r H2, 0 ≤ r → r < 400000000 → Turn p H H2 → DrawsAt H2 p (n + 1) → Q (.int r) H2
theorem at3 {a b c : V} : atI [a, b, c] 0 = some a ∧ atI [a, b, c] 1 = some b ∧ atI [a, b, c] 2 = some c := ⟨atI_nat (j := 0) rfl, atI_nat (j := 1) rfl, atI_nat (j := 2) rfl⟩
theorem ok_l_next {f : Addr} {fd : FuncData} (F : Fun K "_law_next" "_law_next" s_l_next f fd) (T : Bt mg) : FnG P w K mg base CX0 1 f fd ["_law_draws_here"] (sp_l_next K) := by
  refine okN F sc_l_next (fun vs H Q E h => ?_) (fun cdv A out s H vs Q E hc hr h => ?_)
  · obtain ⟨p, n, rfl, hd, hn, q⟩ := h
    rfl
  obtain ⟨p, n, rfl, hd, hn, q⟩ := h
  have hu200 := u200 hr
  have hu64 := hr.units
  refine ⟨_, (pss_cons (ps_asg (pe_op op_add (pe_ix (kx_list (K := K) rfl) (pv 0) pe_int (fun _ _ => rfl)) pe_int) (pg_sub (pv 0) pe_int set_list))
    (pss_cons (ps_set (i := 1) sc_l_next.nd rfl (.inl rfl) (pe_ix (kx_list (K := K) rfl) (pv 0) pe_int (fun _ _ => rfl)))
    (pss_cons (ps_if (pt_truth (pe_ix (kx_list (K := K) rfl) (pv 0) pe_int (fun _ _ => rfl)) (by intro _; rfl)) (pss_cons (ps_set (i := 2) sc_l_next.nd rfl (.inl rfl) (pe_op op_mod (pe_callTy call_int1 (by rfl) T.b_int (by decide +kernel) (pa_cons (pe_ix (kx_list (K := K) rfl) (pv 0) pe_int (fun _ _ => rfl)) pa_nil)) (pe_op op_powW pe_int pe_int)))
    (pss_cons (ps_asg (pe_op op_fdiv (pe_ix (kx_list (K := K) rfl) (pv 0) pe_int (fun _ _ => rfl)) (pe_op op_powW pe_int pe_int)) (pg_sub (pv 0) pe_int set_list))
    (pss_one (ps_ret (pv 2))))) pss_nil)
    (pss_cons (ps_set (i := 2) sc_l_next.nd rfl (.inl rfl) (pe_op op_mod (pe_callTy call_int1 (by rfl) T.b_int (by decide +kernel) (pa_cons (pe_op op_mul (pe_op op_add (pe_op op_add (pe_op op_mod (pe_callTy call_int1 (by rfl) T.b_int (by decide +kernel) (pa_cons (pe_ix (kx_list (K := K) rfl) (pv 0) pe_int (fun _ _ => rfl)) pa_nil)) pe_int) (pe_op op_mul (pe_op op_mul (pv 1) (pv 1)) pe_int)) (pv 1)) pe_int) pa_nil)) pe_int))
    (pss_cons (ps_set (i := 2) sc_l_next.nd rfl (.inl rfl) (pe_op op_mod (pe_callTy call_int1 (by rfl) T.b_int (by decide +kernel) (pa_cons (pe_op op_mul (pv 2) (pv 2)) pa_nil)) pe_int))
    (pss_one (ps_ret (pe_op op_fdiv (pe_op op_mod (pe_callTy call_int1 (by rfl) T.b_int (by decide +kernel) (pa_cons (pe_op op_mul (pv 2) (pe_op op_add (pv 2) pe_int)) pa_nil)) pe_int) pe_int)))))))), ?_⟩

  obtain ⟨a, k, b, hp, k0, kn⟩ := hd
  -- the count
  refine ⟨_, rfl, p, _, _, _, rfl, rfl, SqL.of hp, at3.2.1, _, _, rfl, rfl, _, rfl, p, _, _, 1, rfl, rfl, hp, rfl, ?_⟩
  have hp1 : upd H p (.lst [.int a, .int (k + 1), .bl b]) p = some (.lst [.int a, .int (k + 1), .bl b]) := upd_same
  have t1 : Turn p H (upd H p (.lst [.int a, .int (k + 1), .bl b])) := Turn.upd hp
  refine ⟨_, rfl, p, _, _, _, rfl, rfl, SqL.of hp1, at3.2.1, ?_⟩
  refine ⟨_, rfl, p, _, _, _, rfl, rfl, SqL.of hp1, at3.2.2, ?_⟩
  refine ⟨b, rfl, ?_⟩
  cases b with
  | true =>
    refine iteT ?_
    refine ⟨_, rfl, p, _, _, _, rfl, rfl, SqL.of hp1, at3.1, .inl ⟨_, rfl, ?_⟩⟩
    refine ⟨_, _, rfl, rfl, ⟨by decide, by decide +kernel⟩, _, _, rfl, rfl, (by show (0 : Int) < _; decide), ?_⟩
    refine ⟨_, rfl, p, _, _, _, rfl, rfl, SqL.of hp1, at3.1, ?_⟩
    refine ⟨_, _, rfl, rfl, ⟨by decide, by decide +kernel⟩, _, _, rfl, rfl, ⟨by decide, by decide⟩, _, rfl, p, _, _, 0, rfl, rfl, hp1, rfl, ?_⟩
    have m0 := Int.emod_nonneg a (show (10 : Int) ^ (6 : Int).toNat ≠ 0 by decide)
    have m1 := Int.emod_lt_of_pos a (show (0 : Int) < (10 : Int) ^ (6 : Int).toNat by decide)
    have e6 : (10 : Int) ^ (6 : Int).toNat = 1000000 := by decide
    rw [e6] at m0 m1
    refine ⟨_, rfl, q _ _ (by rw [e6]; exact m0) (by rw [e6]; omega) (t1.trans (Turn.upd hp1)) ⟨_, k + 1, true, upd_same, by omega, by omega⟩⟩
  | false =>
    refine iteF ?_
    refine ⟨_, rfl, p, _, _, _, rfl, rfl, SqL.of hp1, at3.1, .inl ⟨_, rfl, ?_⟩⟩
    refine ⟨_, _, rfl, rfl, (by show (0 : Int) < _; decide), _, rfl, _, rfl, _, _, rfl, rfl, .inl ⟨by omega, by omega⟩, _, _, rfl, rfl, .inr ⟨by decide, by decide⟩, _, _, rfl, rfl, _, rfl, _, _, rfl, rfl, _, _, rfl, rfl, .inr ⟨by decide, by decide⟩, .inl ⟨_, rfl, ?_⟩⟩
    refine ⟨_, _, rfl, rfl, (by show (0 : Int) < _; decide), ?_⟩
    generalize hx : ((a % 1000003 + (k + 1) * (k + 1) * 7919 + (k + 1)) * 48271) % 2147483629 = x
    have x0 : 0 ≤ x := by rw [← hx]; exact Int.emod_nonneg _ (by decide)
    have x1 : x < 2147483629 := by rw [← hx]; exact Int.emod_lt_of_pos _ (by decide)
    refine ⟨_, rfl, _, rfl, _, _, rfl, rfl, .inl ⟨by omega, by omega⟩, .inl ⟨_, rfl, ?_⟩⟩
    refine ⟨_, _, rfl, rfl, (by show (0 : Int) < _; decide), ?_⟩
    generalize hy : (x * x) % 2147483587 = y
    have y0 : 0 ≤ y := by rw [← hy]; exact Int.emod_nonneg _ (by decide)
    have y1 : y < 2147483587 := by rw [← hy]; exact Int.emod_lt_of_pos _ (by decide)
    refine ⟨_, rfl, _, rfl, _, _, rfl, rfl, _, _, rfl, rfl, .inl ⟨by omega, by omega⟩, .inl ⟨_, rfl, ?_⟩⟩
    refine ⟨_, _, rfl, rfl, (by show (0 : Int) < _; decide), _, _, rfl, rfl, ⟨by decide, by decide⟩, ?_⟩
    generalize hz : (y * (y + 2)) % 2147483579 = z
    have z0 : 0 ≤ z := by rw [← hz]; exact Int.emod_nonneg _ (by decide)
    have z1 : z < 2147483579 := by rw [← hz]; exact Int.emod_lt_of_pos _ (by decide)
    exact q _ _ (by omega) (by omega) t1 ⟨_, k + 1, false, hp1, by omega, by omega⟩
def sp_l_tree (K : PySem.W.Frag) : Sp := fun vs H Q _ => ∃ (B : Hp) (p : Addr) (n m : Int), vs = [.ref p, .int m] ∧ Same B H ∧ B p = Option.none ∧ DrawsAt H p n ∧ 0 ≤ n ∧ n ≤ 100000000 ∧ 1 ≤ m ∧ m ≤ 40 ∧
  ∀ v ns B2 H2, Tr ns → (ns.length : Int) = m → GrowP p B H B2 H2 → DrawsAt H2 p (n + m) → At B2 v (intsD ns) → Q v H2
theorem pick4 {a b c d sh : Int} (h0 : 0 ≤ sh) (h4 : sh < 4) {P : Int → Prop} (pa : P a) (pb : P b) (pc : P c) (pd : P d) : ∃ x, atI [V.int a, V.int b, V.int c, V.int d] sh = some (.int x) ∧ P x := by
  rcases (by omega : sh = 0 ∨ sh = 1 ∨ sh = 2 ∨ sh = 3) with e | e | e | e <;> subst e
  · exact ⟨a, atI_nat (j := 0) rfl, pa⟩
  · exact ⟨b, atI_nat (j := 1) rfl, pb⟩
  · exact ⟨c, atI_nat (j := 2) rfl, pc⟩
  · exact ⟨d, atI_nat (j := 3) rfl, pd⟩
theorem pick2 {a b : Int} (k : Bool) {P : Int → Prop} (pa : P a) (pb : P b) : ∃ x, atI [V.int a, V.int b] (if k then 1 else 0) = some (.int x) ∧ P x := by
  cases k
  · exact ⟨a, atI_nat (j := 0) rfl, pa⟩
  · exact ⟨b, atI_nat (j := 1) rfl, pb⟩
theorem Tr.head {ns : List Int} (h : Tr ns) : ∃ e r, ns = e :: r ∧ 0 ≤ e := by
  cases h with
  | leaf => exact ⟨0, [], rfl, by omega⟩
  | cons t h1 h2 => exact ⟨_, _, rfl, by omega⟩
theorem ok_l_tree {f : Addr} {fd : FuncData} (F : Fun K "_law_tree" "_law_tree" s_l_tree f fd) (T : Bt mg) (D__law_next : Callee P w K mg base CX0 1 "_law_next" ["_law_draws_here"] (sp_l_next K)) : FnG P w K mg base CX0 2 f fd ["_law_draws_here", "_law_many"] (sp_l_tree K) := by
  refine okN F sc_l_tree (fun vs H Q E h => ?_) (fun cdv A out s H vs Q E hc hr h => ?_)
  · obtain ⟨B, p, n, m, rfl, hB, hBp, hd, n0, n1, m1, m40, q⟩ := h
    rfl
  obtain ⟨B, p, n, m, rfl, hB, hBp, hd, n0, n1, m1, m40, q⟩ := h
  have hu200 := u200 hr
  have hu64 := hr.units
  refine ⟨_, (pss_cons (ps_set (i := 2) sc_l_tree.nd rfl (.inl rfl) (pe_op op_mod (pe_callTy call_int1 (by rfl) T.b_int (by decide +kernel) (pa_cons (pg_call D__law_next.ok hc (hr.mono (by decide)) (by rfl) D__law_next.mg D__law_next.kp D__law_next.bd pass0 (pa_cons (pv 0) pa_nil)) pa_nil)) pe_int))
    (pss_cons (ps_set (i := 3) sc_l_tree.nd rfl (.inl rfl) (pe_lst (pa_cons pe_int pa_nil)))
    (pss_cons (ps_for PassesOwn.never rfl (pi_range2 (by rfl) T.b_range (pa_cons pe_int (pa_cons (pv 1) pa_nil))) (pg_name (i := 4) sc_l_tree.nd rfl (.inl rfl)) (pss_cons (ps_set (i := 5) sc_l_tree.nd rfl (.inl rfl) (pe_callTy call_int1 (by rfl) T.b_int (by decide +kernel) (pa_cons (pg_call D__law_next.ok hc (hr.mono (by decide)) (by rfl) D__law_next.mg D__law_next.kp D__law_next.bd pass0 (pa_cons (pv 0) pa_nil)) pa_nil)))
    (pss_cons (ps_set (i := 6) sc_l_tree.nd rfl (.inl rfl) (pe_op op_add (pe_ix (kx_list (K := K) rfl) (pv 3) pe_int (fun _ _ => rfl)) pe_int))
    (pss_cons (ps_set (i := 7) sc_l_tree.nd rfl (.inl rfl) (pe_ix (kx_list (K := K) rfl) (pe_lst (pa_cons (pe_op op_add pe_int (pe_op op_mod (pe_op op_fdiv (pv 5) pe_int) (pv 6))) (pa_cons (pv 6) (pa_cons (pe_callB (call_max2 rfl) (by rfl) T.b_max (by decide +kernel) (pa_cons pe_int (pa_cons (pe_op op_sub (pv 6) (pe_op op_mod (pe_op op_fdiv (pv 5) pe_int) pe_int)) pa_nil))) (pa_cons (pe_op op_add pe_int (pe_op op_mod (pe_op op_fdiv (pv 5) pe_int) (pe_callB (call_min2 rfl) (by rfl) T.b_min (by decide +kernel) (pa_cons (pv 6) (pa_cons pe_int pa_nil))))) pa_nil))))) (pv 2) (fun _ _ => rfl)))
    (pss_one (ps_set (i := 3) sc_l_tree.nd rfl (.inl rfl) (pe_op op_cat (pe_lst (pa_cons (pe_ix (kx_list (K := K) rfl) (pe_lst (pa_cons (pv 7) (pa_cons (pe_op op_add pe_int (pe_op op_mod (pe_op op_fdiv (pv 5) pe_int) (pv 6))) pa_nil))) (pe_callTy call_int1 (by rfl) T.b_int (by decide +kernel) (pa_cons (pe_cmpR op_eq (pe_op op_mod (pv 5) pe_int) pe_int (nomark _)) pa_nil)) (fun _ _ => rfl)) pa_nil)) (pv 3))))))))
    (pss_one (ps_ret (pv 3)))))), ?_⟩

  refine ⟨_, rfl, p, n, rfl, hd, by omega, fun r H1 r0 r1 t1 d1 => .inl ⟨_, rfl, _, _, rfl, rfl, (by show (0 : Int) < _; decide), ?_⟩⟩
  have G1 : GrowP p B H B H1 := t1.p hB hBp
  have s0 := Int.emod_nonneg r (show (4 : Int) ≠ 0 by decide)
  have s4 := Int.emod_lt_of_pos r (show (0 : Int) < 4 by decide)
  refine ⟨by show 1 ≤ sizeLine; decide, fun q0 hq0 => ?_⟩
  have G2 : GrowP p B H (upd B q0 (.lst [.int 0])) (upd H1 q0 (.lst [.int 0])) := G1.add hq0
  refine ⟨_, rfl, 1, m, rfl, ⟨by omega, by omega, by omega, by omega⟩, for_range (lo := 1) (n := (m - 1).toNat) (fun i σ H2 => ∃ ns v B2 x4 x5 x6 x7, σ = [some (.ref p), some (.int m), some (.int (r % 4)), some v, x4, x5, x6, x7] ∧ Tr ns ∧ ns.length = i + 1 ∧ GrowP p B H B2 H2 ∧ DrawsAt H2 p (n + 1 + i) ∧ At B2 v (intsD ns))
    ⟨[0], _, _, none, none, none, none, rfl, .leaf, rfl, G2, (d1.up (same_new hq0)).mono (by omega), ints_at upd_same⟩ ?_ ?_⟩
  · rintro i σ H2 hi ⟨ns, v, B2, x4, x5, x6, x7, rfl, ht, hl, G, dr, hv⟩
    have hBp2 : B2 p = none := G.free hd.some hBp
    refine ⟨_, rfl, p, _, rfl, dr, by omega, fun r2 H3 r20 r21 t3 d3 => .inl ⟨_, rfl, ?_⟩⟩
    have G3 := G.low t3 hBp2
    obtain ⟨v0, rfl, hv0⟩ := ints_ex hv
    obtain ⟨e, rest, rfl, e0⟩ := ht.head
    have hv3 := G3.bh _ _ hv0
    have at0 : atI ((e :: rest).map V.int) 0 = some (.int e) := atI_nat (j := 0) rfl
    refine ⟨_, rfl, v0, _, _, _, rfl, rfl, SqL.of hv3, at0, _, _, rfl, rfl, ?_⟩
    -- the four depths
    refine ⟨_, rfl, _, _, rfl, rfl, ⟨by decide, by decide⟩, _, rfl, _, _, rfl, rfl, (by show 0 < e + 1; omega), _, _, rfl, rfl, ?_⟩
    refine ⟨_, rfl, _, rfl, _, rfl, _, _, rfl, rfl, ⟨by decide, by decide⟩, _, _, rfl, rfl, (by show (0 : Int) < _; decide), _, _, rfl, rfl, _, _, rfl, ?_⟩
    refine ⟨_, rfl, _, _, rfl, rfl, ⟨by decide, by decide⟩, _, rfl, _, _, rfl, ?_⟩
    have hmin : 0 < (if (2 : Int) < e + 1 then 2 else e + 1) := by split <;> omega
    have hmin2 : (if (2 : Int) < e + 1 then 2 else e + 1) ≤ e + 1 := by split <;> omega
    refine ⟨_, _, rfl, rfl, hmin, _, _, rfl, rfl, by show 4 ≤ sizeLine; decide, fun q1 hq1 => ?_⟩
    have b1 := Int.emod_nonneg (r2 / 8) (show e + 1 ≠ 0 by omega)
    have b2 := Int.emod_lt_of_pos (r2 / 8) (show 0 < e + 1 by omega)
    have b3 := Int.emod_nonneg (r2 / 8) (show (3 : Int) ≠ 0 by decide)
    have b5 := Int.emod_nonneg (r2 / 8) (show (if (2 : Int) < e + 1 then 2 else e + 1) ≠ 0 by omega)
    have b6 := Int.emod_lt_of_pos (r2 / 8) hmin
    have b7 := Int.emod_nonneg (r2 / 64) (show e + 1 ≠ 0 by omega)
    have b8 := Int.emod_lt_of_pos (r2 / 64) (show 0 < e + 1 by omega)
    obtain ⟨dep, hdep, dep1, dep2⟩ := pick4 (a := 1 + r2 / 8 % (e + 1)) (b := e + 1) (c := if e + 1 - r2 / 8 % 3 > 1 then e + 1 - r2 / 8 % 3 else 1) (d := 1 + r2 / 8 % (if (2 : Int) < e + 1 then 2 else e + 1)) s0 s4 (P := fun x => 1 ≤ x ∧ x ≤ e + 1) ⟨by omega, by omega⟩ ⟨by omega, by omega⟩ (by split <;> omega) ⟨by omega, by omega⟩
    refine ⟨_, rfl, q1, _, _, _, rfl, rfl, SqL.of upd_same, hdep, ?_⟩
    have G4 := G3.more (same_new (o := .lst [.int (1 + r2 / 8 % (e + 1)), .int (e + 1), .int (if e + 1 - r2 / 8 % 3 > 1 then e + 1 - r2 / 8 % 3 else 1), .int (1 + r2 / 8 % (if (2 : Int) < e + 1 then 2 else e + 1))]) hq1)
    have d4 := d3.up (same_new (o := .lst [.int (1 + r2 / 8 % (e + 1)), .int (e + 1), .int (if e + 1 - r2 / 8 % 3 > 1 then e + 1 - r2 / 8 % 3 else 1), .int (1 + r2 / 8 % (if (2 : Int) < e + 1 then 2 else e + 1))]) hq1)
    generalize upd H3 q1 _ = H4 at G4 d4
    -- [.., ..][..] + told
    refine ⟨_, rfl, _, rfl, _, _, rfl, rfl, ⟨by decide, by decide⟩, _, rfl, _, _, rfl, rfl, (by show 0 < e + 1; omega), _, _, rfl, rfl, by show 2 ≤ sizeLine; decide, fun q2 hq2 => ?_⟩
    obtain ⟨dep3, hdep3, dep4, dep5⟩ := pick2 (a := dep) (b := 1 + r2 / 64 % (e + 1)) (decide (V.int (r2 % 8) = V.int 0)) (P := fun x => 1 ≤ x ∧ x ≤ e + 1) ⟨dep1, dep2⟩ ⟨by omega, by omega⟩
    have G5 := G4.more (same_new (o := .lst [.int dep, .int (1 + r2 / 64 % (e + 1))]) hq2)
    have d5 := d4.up (same_new (o := .lst [.int dep, .int (1 + r2 / 64 % (e + 1))]) hq2)
    have h5 : upd H4 q2 (.lst [.int dep, .int (1 + r2 / 64 % (e + 1))]) q2 = some (.lst [.int dep, .int (1 + r2 / 64 % (e + 1))]) := upd_same
    generalize upd H4 q2 _ = H5 at G5 d5 h5
    refine ⟨_, rfl, _, _, rfl, rfl, (by show (0 : Int) < _; decide), rfl, .inr ⟨_, rfl, ?_⟩⟩
    refine ⟨q2, _, _, _, rfl, rfl, SqL.of h5, hdep3, by show 1 ≤ sizeLine; decide, fun q3 hq3 => ?_⟩
    have G6 := G5.more (same_new (o := .lst [.int dep3]) hq3)
    have d6 := d5.up (same_new (o := .lst [.int dep3]) hq3)
    have h6 : upd H5 q3 (.lst [.int dep3]) q3 = some (.lst [.int dep3]) := upd_same
    generalize upd H5 q3 _ = H6 at G6 d6 h6
    have hlt : (e :: rest).length ≤ 40 := by omega
    refine ⟨_, rfl, q3, v0, _, _, rfl, rfl, h6, G6.bh _ _ hv0, ?_, fun q4 hq4 => ?_⟩
    · rw [List.length_map]
      exact Nat.le_of_lt (small1000 (by simp only [List.length_singleton]; omega))
    · have G7 := G6.add (o := .lst ([.int dep3] ++ (e :: rest).map V.int)) hq4
      have d7 := d6.up (same_new (o := .lst ([.int dep3] ++ (e :: rest).map V.int)) hq4)
      exact ⟨dep3 :: e :: rest, _, _, _, _, _, _, rfl, .cons ht dep4 dep5, by simp only [List.length_cons] at hl ⊢; omega, G7, d7.mono (by omega), ints_at upd_same⟩
  · rintro σ H2 ⟨ns, v, B2, x4, x5, x6, x7, rfl, ht, hl, G, dr, hv⟩
    exact ⟨_, rfl, q v ns B2 H2 ht (by omega) G (dr.mono (by omega)) hv⟩
def sp_l_cycle (K : PySem.W.Frag) : Sp := fun vs H Q _ => ∃ (B : Hp) (p : Addr) (n : Int), vs = [.ref p] ∧ Same B H ∧ B p = Option.none ∧ DrawsAt H p n ∧ n ≤ 100000000 ∧
  ∀ v t r B2 H2, 0 ≤ t → t ≤ 40 → 1 ≤ r → r ≤ 40 → GrowP p B H B2 H2 → DrawsAt H2 p (n + 1) → At B2 v (.tuple [.int t, .int r]) → Q v H2
theorem pick6 {a b c d e f sh : Int} (h0 : 0 ≤ sh) (h4 : sh < 6) {P : Int → Prop} (pa : P a) (pb : P b) (pc : P c) (pd : P d) (pe : P e) (pf : P f) : ∃ x, atI [V.int a, V.int b, V.int c, V.int d, V.int e, V.int f] sh = some (.int x) ∧ P x := by
  rcases (by omega : sh = 0 ∨ sh = 1 ∨ sh = 2 ∨ sh = 3 ∨ sh = 4 ∨ sh = 5) with e | e | e | e | e | e <;> subst e
  · exact ⟨a, atI_nat (j := 0) rfl, pa⟩
  · exact ⟨b, atI_nat (j := 1) rfl, pb⟩
  · exact ⟨c, atI_nat (j := 2) rfl, pc⟩
  · exact ⟨d, atI_nat (j := 3) rfl, pd⟩
  · exact ⟨_, atI_nat (j := 4) rfl, pe⟩
  · exact ⟨f, atI_nat (j := 5) rfl, pf⟩
theorem pick5 {a b c d e sh : Int} (h0 : 0 ≤ sh) (h4 : sh < 5) {P : Int → Prop} (pa : P a) (pb : P b) (pc : P c) (pd : P d) (pe : P e) : ∃ x, atI [V.int a, V.int b, V.int c, V.int d, V.int e] sh = some (.int x) ∧ P x := by
  rcases (by omega : sh = 0 ∨ sh = 1 ∨ sh = 2 ∨ sh = 3 ∨ sh = 4) with e | e | e | e | e <;> subst e
  · exact ⟨a, atI_nat (j := 0) rfl, pa⟩
  · exact ⟨b, atI_nat (j := 1) rfl, pb⟩
  · exact ⟨c, atI_nat (j := 2) rfl, pc⟩
  · exact ⟨d, atI_nat (j := 3) rfl, pd⟩
  · exact ⟨_, atI_nat (j := 4) rfl, pe⟩
theorem ok_l_cycle {f : Addr} {fd : FuncData} (F : Fun K "_law_cycle" "_law_cycle" s_l_cycle f fd) (T : Bt mg) (D__law_next : Callee P w K mg base CX0 1 "_law_next" ["_law_draws_here"] (sp_l_next K)) : FnG P w K mg base CX0 2 f fd ["_law_draws_here"] (sp_l_cycle K) := by
  refine okN F sc_l_cycle (fun vs H Q E h => ?_) (fun cdv A out s H vs Q E hc hr h => ?_)
  · obtain ⟨B, p, n, rfl, hB, hBp, hd, n1, q⟩ := h
    rfl
  obtain ⟨B, p, n, rfl, hB, hBp, hd, n1, q⟩ := h
  have hu200 := u200 hr
  have hu64 := hr.units
  refine ⟨_, (pss_cons (ps_set (i := 1) sc_l_cycle.nd rfl (.inl rfl) (pe_callTy call_int1 (by rfl) T.b_int (by decide +kernel) (pa_cons (pg_call D__law_next.ok hc (hr.mono (by decide)) (by rfl) D__law_next.mg D__law_next.kp D__law_next.bd pass0 (pa_cons (pv 0) pa_nil)) pa_nil)))
    (pss_cons (ps_set (i := 2) sc_l_cycle.nd rfl (.inl rfl) (pe_ix (kx_list (K := K) rfl) (pe_lst (pa_cons pe_int (pa_cons pe_int (pa_cons pe_int (pa_cons (pe_op op_mod (pe_op op_fdiv (pv 1) pe_int) pe_int) (pa_cons (pe_op op_mod (pe_op op_fdiv (pv 1) pe_int) pe_int) (pa_cons (pe_op op_mod (pe_op op_fdiv (pv 1) pe_int) pe_int) pa_nil))))))) (pe_op op_mod (pv 1) pe_int) (fun _ _ => rfl)))
    (pss_one (ps_ret (pe_tup (pa_cons (pv 2) (pa_cons (pe_ix (kx_list (K := K) rfl) (pe_lst (pa_cons pe_int (pa_cons pe_int (pa_cons pe_int (pa_cons (pe_op op_add pe_int (pe_op op_mod (pe_op op_fdiv (pv 1) pe_int) pe_int)) (pa_cons (pe_op op_add pe_int (pe_op op_mod (pe_op op_fdiv (pv 1) pe_int) pe_int)) pa_nil)))))) (pe_op op_mod (pe_op op_fdiv (pv 1) pe_int) pe_int) (fun _ _ => rfl)) pa_nil))))))), ?_⟩

  refine ⟨_, rfl, p, n, rfl, hd, by omega, fun r H1 r0 r1 t1 d1 => .inl ⟨_, rfl, ?_⟩⟩
  have G1 : GrowP p B H B H1 := t1.p hB hBp
  refine ⟨_, rfl, _, _, rfl, rfl, ⟨by decide, by decide⟩, _, _, rfl, rfl, (by show (0 : Int) < _; decide), _, rfl, _, _, rfl, rfl, ⟨by decide, by decide⟩, _, _, rfl, rfl, (by show (0 : Int) < _; decide), _, rfl, _, _, rfl, rfl, ⟨by decide, by decide⟩, _, _, rfl, rfl, (by show (0 : Int) < _; decide), by show 6 ≤ sizeLine; decide, fun q0 hq0 => ?_⟩
  obtain ⟨t, ht, t0, t40⟩ := pick6 (a := 0) (b := 0) (c := 1) (d := r / 16 % 4) (e := r / 16 % 9) (f := r / 16 % 41) (sh := r % 6) (by omega) (by omega) (P := fun x => 0 ≤ x ∧ x ≤ 40) (by omega) (by omega) (by omega) (by omega) (by omega) (by omega)
  refine ⟨_, rfl, _, _, rfl, rfl, (by show (0 : Int) < _; decide), q0, _, _, _, rfl, rfl, SqL.of upd_same, ht, ?_⟩
  have G2 := G1.more (same_new (o := .lst [.int 0, .int 0, .int 1, .int (r / 16 % 4), .int (r / 16 % 9), .int (r / 16 % 41)]) hq0)
  have d2 := d1.up (same_new (o := .lst [.int 0, .int 0, .int 1, .int (r / 16 % 4), .int (r / 16 % 9), .int (r / 16 % 41)]) hq0)
  generalize upd H1 q0 _ = H2 at G2 d2
  refine ⟨_, rfl, _, rfl, _, _, rfl, rfl, ⟨by decide, by decide⟩, _, _, rfl, rfl, (by show (0 : Int) < _; decide), _, _, rfl, rfl, _, rfl, _, _, rfl, rfl, ⟨by decide, by decide⟩, _, _, rfl, rfl, (by show (0 : Int) < _; decide), _, _, rfl, rfl, by show 5 ≤ sizeLine; decide, fun q1 hq1 => ?_⟩
  obtain ⟨g, hg, g0, g40⟩ := pick5 (a := 1) (b := 2) (c := 3) (d := 2 + r / 2048 % 4) (e := 1 + r / 2048 % 40) (sh := r / 6 % 5) (by omega) (by omega) (P := fun x => 1 ≤ x ∧ x ≤ 40) (by omega) (by omega) (by omega) (by omega) (by omega)
  refine ⟨_, rfl, _, _, rfl, rfl, ⟨by decide, by decide⟩, _, _, rfl, rfl, (by show (0 : Int) < _; decide), q1, _, _, _, rfl, rfl, SqL.of upd_same, hg, by show 2 ≤ sizeLine; decide, fun q2 hq2 => ?_⟩
  have G3 := G2.more (same_new (o := .lst [.int 1, .int 2, .int 3, .int (2 + r / 2048 % 4), .int (1 + r / 2048 % 40)]) hq1)
  have d3 := d2.up (same_new (o := .lst [.int 1, .int 2, .int 3, .int (2 + r / 2048 % 4), .int (1 + r / 2048 % 40)]) hq1)
  generalize upd H2 q1 _ = H3 at G3 d3 hq2
  exact q _ t g _ _ t0 t40 g0 g40 (G3.add hq2) (d3.up (same_new hq2)) (.tup upd_same (.cons (.int t) (.cons (.int g) .nil)))
theorem pick8 {a b c d e f g h sh : Int} (h0 : 0 ≤ sh) (h4 : sh < 8) : ∃ x, atI [V.int a, V.int b, V.int c, V.int d, V.int e, V.int f, V.int g, V.int h] sh = some (.int x) := by
  rcases (by omega : sh = 0 ∨ sh = 1 ∨ sh = 2 ∨ sh = 3 ∨ sh = 4 ∨ sh = 5 ∨ sh = 6 ∨ sh = 7) with e | e | e | e | e | e | e | e <;> subst e
  · exact ⟨_, atI_nat (j := 0) rfl⟩
  · exact ⟨_, atI_nat (j := 1) rfl⟩
  · exact ⟨_, atI_nat (j := 2) rfl⟩
  · exact ⟨_, atI_nat (j := 3) rfl⟩
  · exact ⟨_, atI_nat (j := 4) rfl⟩
  · exact ⟨_, atI_nat (j := 5) rfl⟩
  · exact ⟨_, atI_nat (j := 6) rfl⟩
  · exact ⟨_, atI_nat (j := 7) rfl⟩
def sp_l_other (K : PySem.W.Frag) : Sp := fun vs H Q _ => ∃ (B : Hp) (p : Addr) (x : V) (ns : List Int) (n rg : Int), vs = [.ref p, x, .int rg] ∧ Same B H ∧ B p = Option.none ∧ DrawsAt H p n ∧ 0 ≤ n ∧ n ≤ 10000000 ∧ At B x (intsD ns) ∧ Tr ns ∧ ns.length ≤ 40 ∧ 1 ≤ rg ∧ rg ≤ 10000 ∧
  ∀ v ms B2 H2, Tr ms → ms.length = ns.length → GrowP p B H B2 H2 → DrawsAt H2 p (n + 60) → At B2 v (intsD ms) → Q v H2
theorem ok_l_other {f : Addr} {fd : FuncData} (F : Fun K "_law_other" "_law_other" s_l_other f fd) (T : Bt mg) (D__law_is_tree : Callee P w K mg base CX0 1 "_law_is_tree" ["_law_row"] (sp_l_is_tree K)) (D__law_next : Callee P w K mg base CX0 1 "_law_next" ["_law_draws_here"] (sp_l_next K)) (D__law_tree : Callee P w K mg base CX0 2 "_law_tree" ["_law_draws_here", "_law_many"] (sp_l_tree K)) : FnG P w K mg base CX0 3 f fd ["_law_draws_here", "_law_a_tree", "_law_a_ring"] (sp_l_other K) := by
  refine okN F sc_l_other (fun vs H Q E h => ?_) (fun cdv A out s H vs Q E hc hr h => ?_)
  · obtain ⟨B, p, x, ns, n, rg, rfl, hB, hBp, hd, n0, n1, hx, ht, hl, r0, r1, q⟩ := h
    rfl
  obtain ⟨B, p, x, ns, n, rg, rfl, hB, hBp, hd, n0, n1, hx, ht, hl, r0, r1, q⟩ := h
  have hu200 := u200 hr
  have hu64 := hr.units
  refine ⟨_, (pss_cons (ps_set (i := 3) sc_l_other.nd rfl (.inl rfl) (pe_callTy (k_list_of (K := K) rfl) (by rfl) T.b_list (by decide +kernel) (pa_cons (pv 1) pa_nil)))
    (pss_cons (ps_for PassesOwn.never rfl (pi_range1 (by rfl) T.b_range (pa_cons (pe_op op_add pe_int (pe_op op_mod (pe_callTy call_int1 (by rfl) T.b_int (by decide +kernel) (pa_cons (pg_call D__law_next.ok hc (hr.mono (by decide)) (by rfl) D__law_next.mg D__law_next.kp D__law_next.bd pass0 (pa_cons (pv 0) pa_nil)) pa_nil)) pe_int)) pa_nil)) (pg_name (i := 4) sc_l_other.nd rfl (.inl rfl)) (pss_cons (ps_set (i := 5) sc_l_other.nd rfl (.inl rfl) (pe_callTy call_int1 (by rfl) T.b_int (by decide +kernel) (pa_cons (pg_call D__law_next.ok hc (hr.mono (by decide)) (by rfl) D__law_next.mg D__law_next.kp D__law_next.bd pass0 (pa_cons (pv 0) pa_nil)) pa_nil)))
    (pss_cons (ps_set (i := 6) sc_l_other.nd rfl (.inl rfl) (pe_op op_mod (pe_op op_fdiv (pv 5) pe_int) (pe_callB (k_len (K := K) rfl) (by rfl) T.b_len PySem.boot_len (pa_cons (pv 3) pa_nil))))
    (pss_cons (ps_set (i := 7) sc_l_other.nd rfl (.inl rfl) (pe_ix (kx_list (K := K) rfl) (pe_lst (pa_cons (pv 2) (pa_cons (pv 2) (pa_cons (pe_un un_neg (pv 2)) (pa_cons (pe_un un_neg (pv 2)) (pa_cons pe_int (pa_cons (pe_un un_neg pe_int) (pa_cons pe_int (pa_cons (pe_op op_mul pe_int (pv 2)) pa_nil))))))))) (pe_op op_mod (pv 5) pe_int) (fun _ _ => rfl)))
    (pss_cons (ps_set (i := 8) sc_l_other.nd rfl (.inl rfl) (pe_op op_cat (pe_op op_cat (pe_slice (k_sl (K := K) rfl) (pv 3) po_none (po_some (pv 6))) (pe_lst (pa_cons (pe_op op_add (pe_ix (kx_list (K := K) rfl) (pv 3) (pv 6) (fun _ _ => rfl)) (pv 7)) pa_nil))) (pe_slice (k_sl (K := K) rfl) (pv 3) (po_some (pe_op op_add (pv 6) pe_int)) po_none)))
    (pss_one (ps_set (i := 3) sc_l_other.nd rfl (.inl rfl) (pe_ifExp (pt_val (pg_call D__law_is_tree.ok hc (hr.mono (by decide)) (by rfl) D__law_is_tree.mg D__law_is_tree.kp D__law_is_tree.bd pass0 (pa_cons (pv 8) pa_nil))) (pv 8) (pv 3)))))))))
    (pss_one (ps_ret (pe_ifExp (pt_cmpR op_gt (pe_op op_mod (pe_callTy call_int1 (by rfl) T.b_int (by decide +kernel) (pa_cons (pg_call D__law_next.ok hc (hr.mono (by decide)) (by rfl) D__law_next.mg D__law_next.kp D__law_next.bd pass0 (pa_cons (pv 0) pa_nil)) pa_nil)) pe_int) pe_int (nomark _)) (pv 3) (pg_call D__law_tree.ok hc (hr.mono (by decide)) (by rfl) D__law_tree.mg D__law_tree.kp D__law_tree.bd pass0 (pa_cons (pv 0) (pa_cons (pe_callB (k_len (K := K) rfl) (by rfl) T.b_len PySem.boot_len (pa_cons (pv 1) pa_nil)) pa_nil)))))))), ?_⟩

  have hpos := ht.pos
  obtain ⟨a, rfl, ha⟩ := ints_ex hx
  -- a copy
  refine ⟨_, rfl, a, _, rfl, .inl (SqL.of (hB _ _ ha)), fun q0 nq0 => ?_⟩
  have G0 : GrowP p B H (upd B q0 (.lst (ns.map V.int))) (upd H q0 (.lst (ns.map V.int))) := (GrowP.refl hB).add nq0
  have d0 := hd.up (same_new (o := .lst (ns.map V.int)) nq0)
  have h0 : At (upd B q0 (.lst (ns.map V.int))) (.ref q0) (intsD ns) := ints_at upd_same
  generalize upd B q0 (.lst (ns.map V.int)) = B1 at G0 h0
  generalize upd H q0 (.lst (ns.map V.int)) = H1 at G0 d0
  have hB1 := G0.free hd.some hBp
  refine ⟨_, rfl, p, _, rfl, d0, by omega, fun z H2 z0 z1 tn d2 => .inl ⟨_, rfl, _, _, rfl, rfl, (by show (0 : Int) < _; decide), _, _, rfl, rfl, ?_⟩⟩
  have G2 := G0.low tn hB1
  have w0 := Int.emod_nonneg z (show (12 : Int) ≠ 0 by decide)
  have w1 := Int.emod_lt_of_pos z (show (0 : Int) < 12 by decide)
  refine ⟨1 + z % 12, rfl, by omega, by omega, for_range (lo := 0) (n := (1 + z % 12).toNat) (fun i σ H3 => ∃ v ms B3 x4 x5 x6 x7 x8, σ = [some (.ref p), some (.ref a), some (.int rg), some v, x4, x5, x6, x7, x8] ∧ Tr ms ∧ ms.length = ns.length ∧ GrowP p B H B3 H3 ∧ DrawsAt H3 p (n + 1 + i) ∧ At B3 v (intsD ms))
    ⟨_, ns, B1, none, none, none, none, none, rfl, ht, rfl, G2, d2.mono (by omega), h0⟩ ?_ ?_⟩
  · rintro i σ H3 hi ⟨v, ms, B3, x4, x5, x6, x7, x8, rfl, hm, lm, G3, d3, hv⟩
    obtain ⟨b, rfl, hb⟩ := ints_ex hv
    have hB3 := G3.free hd.some hBp
    refine ⟨_, rfl, p, _, rfl, d3, by omega, fun u H4 u0 u1 tn4 d4 => .inl ⟨_, rfl, ?_⟩⟩
    have G4 := G3.low tn4 hB3
    have hb4 := G4.bh _ _ hb
    have e0 := Int.emod_nonneg (u / 8) (show ((ms.length : Nat) : Int) ≠ 0 by omega)
    have e1 := Int.emod_lt_of_pos (u / 8) (show (0 : Int) < ((ms.length : Nat) : Int) by omega)
    refine ⟨_, rfl, _, _, rfl, rfl, ⟨by decide, by decide⟩, _, rfl, b, _, rfl, .inl (SqL.of hb4), _, _, rfl, rfl, ?_, ?_⟩
    · show (0 : Int) < _
      rw [List.length_map]
      omega
    obtain ⟨k, hk⟩ : ∃ k : Nat, u / 8 % ((ms.length : Nat) : Int) = (k : Int) := ⟨(u / 8 % ((ms.length : Nat) : Int)).toNat, by omega⟩
    have hkl : k < ms.length := by omega
    rw [List.length_map]
    dsimp only
    rw [hk]
    refine ⟨_, rfl, _, rfl, _, rfl, _, rfl, _, rfl, _, rfl, _, rfl, _, rfl, _, _, rfl, rfl, .inl ⟨by decide, by decide⟩, by show 8 ≤ sizeLine; decide, fun q5 nq5 => ?_⟩
    obtain ⟨mr, hmr⟩ := pick8 (a := rg) (b := rg) (c := -rg) (d := -rg) (e := 1) (f := -1) (g := 2) (h := 2 * rg) (sh := u % 8) (by omega) (by omega)
    refine ⟨_, rfl, _, _, rfl, rfl, (by show (0 : Int) < _; decide), q5, _, _, _, rfl, rfl, SqL.of upd_same, hmr, ?_⟩
    have s5 : Same H4 (upd H4 q5 (.lst [.int rg, .int rg, .int (-rg), .int (-rg), .int 1, .int (-1), .int 2, .int (2 * rg)])) := same_new nq5
    generalize upd H4 q5 (.lst [.int rg, .int rg, .int (-rg), .int (-rg), .int 1, .int (-1), .int 2, .int (2 * rg)]) = H5 at s5
    have hb5 := s5 _ _ hb4
    obtain ⟨o, ho⟩ : ∃ o, ms[k]? = some o := ⟨ms[k], List.getElem?_eq_getElem hkl⟩
    -- the changed row
    refine ⟨_, rfl, _, rfl, _, rfl, b, _, rfl, SqL.of hb5, fun q6 nq6 => ?_⟩
    rw [cut_upto, ← List.map_take]
    have s6 : Same H5 (upd H5 q6 (.lst ((ms.take k).map V.int))) := same_new nq6
    have e6 : upd H5 q6 (.lst ((ms.take k).map V.int)) q6 = some (.lst ((ms.take k).map V.int)) := upd_same
    generalize upd H5 q6 (.lst ((ms.take k).map V.int)) = H6 at s6 e6
    refine ⟨_, rfl, _, rfl, b, _, _, _, rfl, rfl, SqL.of (s6 _ _ hb5), atI_nat (j := k) (v := V.int o) (by rw [List.getElem?_map, ho]; rfl), _, rfl, _, _, rfl, rfl, by show 1 ≤ sizeLine; decide, fun q7 nq7 => ?_⟩
    have s7 : Same H6 (upd H6 q7 (.lst [.int (o + mr)])) := same_new nq7
    have e7 : upd H6 q7 (.lst [.int (o + mr)]) q7 = some (.lst [.int (o + mr)]) := upd_same
    generalize upd H6 q7 (.lst [.int (o + mr)]) = H7 at s7 e7
    refine ⟨q6, q7, _, _, rfl, rfl, s7 _ _ e6, e7, ?_, fun q8 nq8 => ?_⟩
    · rw [List.length_map, List.length_take]
      exact Nat.le_of_lt (small1000 (by simp only [List.length_singleton]; omega))
    have s8 : Same H7 (upd H7 q8 (.lst ((ms.take k).map V.int ++ [.int (o + mr)]))) := same_new nq8
    have e8 : upd H7 q8 (.lst ((ms.take k).map V.int ++ [.int (o + mr)])) q8 = some (.lst ((ms.take k).map V.int ++ [.int (o + mr)])) := upd_same
    generalize upd H7 q8 (.lst ((ms.take k).map V.int ++ [.int (o + mr)])) = H8 at s8 e8
    have hb8 := s8 _ _ (s7 _ _ (s6 _ _ hb5))
    refine ⟨_, rfl, _, rfl, _, _, rfl, rfl, _, rfl, b, _, rfl, SqL.of hb8, fun q9 nq9 => ?_⟩
    rw [show (k : Int) + 1 = ((k + 1 : Nat) : Int) by omega, cut_from, ← List.map_drop]
    have s9 : Same H8 (upd H8 q9 (.lst ((ms.drop (k + 1)).map V.int))) := same_new nq9
    have e9 : upd H8 q9 (.lst ((ms.drop (k + 1)).map V.int)) q9 = some (.lst ((ms.drop (k + 1)).map V.int)) := upd_same
    generalize upd H8 q9 (.lst ((ms.drop (k + 1)).map V.int)) = H9 at s9 e9
    refine ⟨q8, q9, _, _, rfl, rfl, s9 _ _ e8, e9, ?_, fun q10 nq10 => ?_⟩
    · rw [List.length_append, List.length_map, List.length_map, List.length_take, List.length_drop]
      exact Nat.le_of_lt (small1000 (by simp only [List.length_singleton]; omega))
    have en : (ms.take k).map V.int ++ [V.int (o + mr)] ++ (ms.drop (k + 1)).map V.int = (ms.take k ++ [o + mr] ++ ms.drop (k + 1)).map V.int := by
      rw [List.map_append, List.map_append]
      rfl
    rw [en]
    have s49 : Same H4 H9 := ((((s5.trans s6).trans s7).trans s8).trans s9)
    have G9 := G4.more s49
    have d9 := d4.up s49
    have G10 := G9.add (o := .lst ((ms.take k ++ [o + mr] ++ ms.drop (k + 1)).map V.int)) nq10
    have d10 := d9.up (same_new (o := .lst ((ms.take k ++ [o + mr] ++ ms.drop (k + 1)).map V.int)) nq10)
    have h10 : At (upd B3 q10 (.lst ((ms.take k ++ [o + mr] ++ ms.drop (k + 1)).map V.int))) (.ref q10) (intsD (ms.take k ++ [o + mr] ++ ms.drop (k + 1))) := ints_at upd_same
    have hv10 : At (upd B3 q10 (.lst ((ms.take k ++ [o + mr] ++ ms.drop (k + 1)).map V.int))) (.ref b) (intsD ms) := (ints_at hb).up (same_new (G9.bh.free nq10))
    have lc : (ms.take k ++ [o + mr] ++ ms.drop (k + 1)).length = ms.length := by
      rw [List.length_append, List.length_append, List.length_take, List.length_drop, List.length_singleton]
      omega
    generalize upd B3 q10 (.lst ((ms.take k ++ [o + mr] ++ ms.drop (k + 1)).map V.int)) = B10 at G10 h10 hv10
    generalize upd H9 q10 (.lst ((ms.take k ++ [o + mr] ++ ms.drop (k + 1)).map V.int)) = H10 at G10 d10
    generalize ms.take k ++ [o + mr] ++ ms.drop (k + 1) = cs at h10 lc
    refine ⟨_, rfl, B10, _, cs, rfl, G10.bh, h10, by omega, by omega, fun bt H11 hbt s11 => ⟨bt, rfl, ?_⟩⟩
    have G11 := G10.more s11
    have d11 := d10.up s11
    cases bt with
    | true => exact iteT ⟨_, rfl, _, cs, B10, _, _, _, _, _, rfl, hbt rfl, by omega, G11, d11.mono (by omega), h10⟩
    | false => exact iteF ⟨_, rfl, _, ms, B10, _, _, _, _, _, rfl, hm, lm, G11, d11.mono (by omega), hv10⟩
  · rintro σ H3 ⟨v, ms, B3, x4, x5, x6, x7, x8, rfl, hm, lm, G3, d3, hv⟩
    have hB3 := G3.free hd.some hBp
    refine ⟨_, rfl, p, _, rfl, d3, by omega, fun u H4 u0 u1 tn4 d4 => .inl ⟨_, rfl, _, _, rfl, rfl, (by show (0 : Int) < _; decide), _, _, rfl, rfl, _, rfl, ?_⟩⟩
    have G4 := G3.low tn4 hB3
    refine ite2 (fun c => ?_) (fun c => ?_)
    · exact ⟨_, rfl, q v ms B3 H4 hm lm G4 (d4.mono (by omega)) hv⟩
    · refine ⟨_, rfl, _, rfl, a, _, rfl, .inl (SqL.of (G4.bh _ _ (G4.bb _ _ ha))), ?_⟩
      rw [List.length_map]
      refine ⟨B3, p, _, _, rfl, G4.bh, hB3, d4, by omega, by omega, by omega, by omega, fun v5 ns5 B5 H5 ht5 l5 G5 d5 h5 => ?_⟩
      exact q v5 ns5 B5 H5 ht5 (by omega) (G4.trans G5) (d5.mono (by omega)) h5
theorem Tr.sm {ns : List Int} (h : Tr ns) (hl : ns.length ≤ 40) : Sm 1 603 (intsD ns) := by
  refine Sm.ints (m := 40) (fun n hn => ?_) hl
  have h1 := h.nonneg hn
  have h2 := h.bound n hn
  omega
theorem mks_sm {ns : List Int} {t r : Int} (hn : ∀ d ∈ ns, 0 ≤ d) (hl : ns.length ≤ 40) (t0 : 0 ≤ t) (t1 : t ≤ 40) (r0 : 1 ≤ r) (r1 : r ≤ 10000) : Sm 1 603 (intsD (ns.map fun d => mk d t r)) := by
  refine Sm.ints (m := 40) (fun n hm => ?_) (by rw [List.length_map]; exact hl)
  obtain ⟨d, hd, rfl⟩ := List.mem_map.mp hm
  have h1 := mk_nonneg (hn d hd) t0 r0
  have h2 := mk_lt (hn d hd) t0 r0
  omega

theorem iteY {c A B : Prop} [Decidable c] (hc : c) (h : A) : if decide c = true then A else B := by
  rw [if_pos (decide_eq_true hc)]
  exact h
theorem lets_zero (as : List Int) : lets as (as.map fun _ => 0) = .list (as.map fun a => .tuple [.int a, .int 0]) := by
  unfold lets
  rw [List.zipWith_map_right, List.zipWith_self]
theorem fdiff_find {as bs : List Int} (h : as.length = bs.length) : fdiff as bs = (List.range as.length).find? (fun i => !decide (as[i]? = bs[i]?)) := by
  cases e : (List.range as.length).find? (fun i => !decide (as[i]? = bs[i]?)) with
  | none =>
    rw [List.find?_range_eq_none] at e
    exact fdiff_none h fun j hj => by simpa using e j hj
  | some i =>
    rw [List.find?_range_eq_some] at e
    obtain ⟨e1, e2, e3⟩ := e
    have hi : i < as.length := by simpa using e2
    refine fdiff_some (fun j hj => by simpa using e3 j hj) (List.getElem?_eq_getElem hi) (List.getElem?_eq_getElem (show i < bs.length by omega)) fun z => ?_
    simp only [Bool.not_eq_true', decide_eq_false_iff_not] at e1
    exact e1 (by rw [List.getElem?_eq_getElem hi, List.getElem?_eq_getElem (show i < bs.length by omega), z])
theorem merge {c A B T : Prop} [Decidable c] (hA : c → T → A) (hB : ¬ c → T → B) (t : T) : if c then A else B := by
  by_cases h : c
  · rw [if_pos h]
    exact hA h t
  · rw [if_neg h]
    exact hB h t
theorem leaf_eq {H : Hp} {v : V} {o : Option Nat} (h : At H v (match o with | some i => PyData.int ((i : Int) + 1) | none => PyData.none)) : v = leafV o := by
  cases o with
  | none => exact h.non_eq
  | some i => exact h.int_eq
theorem fdiff_comm : ∀ (as bs : List Int), fdiff as bs = fdiff bs as
  | [], [] => rfl
  | [], _ :: _ => rfl
  | _ :: _, [] => rfl
  | a :: as, b :: bs => by
    rw [fdiff, fdiff, fdiff_comm as bs]
    by_cases e : a = b
    · rw [if_pos e, if_pos e.symm]
    · rw [if_neg e, if_neg fun z => e z.symm]
def leafD (o : Option Nat) : PyData := match o with | some i => .int ((i : Int) + 1) | none => .none
theorem leaf_at {H : Hp} (o : Option Nat) : At H (leafV o) (leafD o) := by
  cases o with
  | none => exact .non
  | some i => exact .int _
theorem leaf_sm {o : Option Nat} (h : ∀ i, o = some i → i < 1000) : Sm 0 13 (leafD o) := by
  cases o with
  | none => exact Sm.non
  | some i =>
    have := h i rfl
    exact Sm.int (by omega)
/-- the places that differ, as a list: empty exactly if there is none, else the first one ahead -/
theorem diff_list {n : Nat} {kp : Nat → Bool} {o : Option Nat} (h : o = (List.range n).find? kp) :
    (o = none ∧ ((List.range n).filter kp).map (fun i : Nat => PyData.int (0 + (i : Int) + 1)) = []) ∨ ∃ r, ((List.range n).filter kp).map (fun i : Nat => PyData.int (0 + (i : Int) + 1)) = leafD o :: r ∧ o.isNone = false := by
  rw [← List.head?_filter] at h
  cases e : (List.range n).filter kp with
  | nil => exact .inl ⟨by rw [h, e]; rfl, rfl⟩
  | cons x r =>
    rw [e] at h
    refine .inr ⟨r.map (fun i : Nat => PyData.int (0 + (i : Int) + 1)), ?_, by rw [h]; rfl⟩
    rw [h, List.map_cons]
    show _ = PyData.int ((x : Int) + 1) :: _
    rw [Int.zero_add]
theorem smL_filter {n : Nat} {kp : Nat → Bool} (hn : n ≤ 40) : Sm 1 603 (.list (((List.range n).filter kp).map (fun i : Nat => PyData.int (0 + (i : Int) + 1)))) := by
  refine Sm.list (k := 0) (n := 13) (m := 40) (fun d hd => ?_) ?_
  · obtain ⟨i, hi, rfl⟩ := List.mem_map.mp hd
    have := List.mem_range.mp (List.mem_filter.mp hi).1
    exact Sm.int (by omega)
  · rw [List.length_map]
    have := List.length_filter_le kp (List.range n)
    rw [List.length_range] at this
    omega
def sp_l_right (K : PySem.W.Frag) : Sp := fun vs H Q _ => ∃ (p : Addr) (n t r m : Int), vs = [.ref p, .int t, .int r, .int m] ∧ DrawsAt H p n ∧ 0 ≤ n ∧ n ≤ 1000000 ∧ 0 ≤ t ∧ t ≤ 40 ∧ 1 ≤ r ∧ r ≤ 10000 ∧ 1 ≤ m ∧ m ≤ 40 ∧
  ∀ H2, Turn p H H2 → DrawsAt H2 p (n + 200) → Q (.bl true) H2
theorem ok_l_right {f : Addr} {fd : FuncData} (F : Fun K "_law_right" "_law_right" s_l_right f fd) (T : Bt mg) (D_parting_leaf : Callee P w K mg base CX0 5 "parting_leaf" ["tree", "other", "tail", "ring"] (sp_parting_leaf K)) (D_are_alike : Callee P w K mg base CX0 6 "are_alike" ["tree", "other", "tail", "ring"] (sp_are_alike K)) (D__law_folded : Callee P w K mg base CX0 42 "_law_folded" ["_law_a_tree", "_law_row", "_law_a_tail", "_law_a_ring"] (sp_l_folded K 41)) (D__law_tree : Callee P w K mg base CX0 2 "_law_tree" ["_law_draws_here", "_law_many"] (sp_l_tree K)) (D__law_other : Callee P w K mg base CX0 3 "_law_other" ["_law_draws_here", "_law_a_tree", "_law_a_ring"] (sp_l_other K)) (kb_are_alike_ring_tail_other_tree : KBindsE K D_are_alike.fd ["tree", "other", "tail", "ring"] ["ring", "tail", "other", "tree"] pk_are_alike_ring_tail_other_tree pk_are_alike_ring_tail_other_tree) (kb_parting_leaf_ring_tail_other_tree : KBindsE K D_parting_leaf.fd ["tree", "other", "tail", "ring"] ["ring", "tail", "other", "tree"] pk_parting_leaf_ring_tail_other_tree pk_parting_leaf_ring_tail_other_tree) : FnG P w K mg base CX0 43 f fd ["_law_draws_here", "_law_a_tail", "_law_a_ring", "_law_many"] (sp_l_right K) := by
  refine okN F sc_l_right (fun vs H Q E h => ?_) (fun cdv A out s H vs Q E hc hr h => ?_)
  · obtain ⟨p, n, t, r, m, rfl, hd, n0, n1, t0, t1, r0, r1, m0, m1, q⟩ := h
    rfl
  obtain ⟨p, n, t, r, m, rfl, hd, n0, n1, t0, t1, r0, r1, m0, m1, q⟩ := h
  have hu200 := u200 hr
  have hu64 := hr.units
  refine ⟨_, (pss_cons (ps_set (i := 4) sc_l_right.nd rfl (.inl rfl) (pg_call D__law_tree.ok hc (hr.mono (by decide)) (by rfl) D__law_tree.mg D__law_tree.kp D__law_tree.bd pass0 (pa_cons (pv 0) (pa_cons (pv 3) pa_nil))))
    (pss_cons (ps_set (i := 5) sc_l_right.nd rfl (.inl rfl) (pg_call D__law_other.ok hc (hr.mono (by decide)) (by rfl) D__law_other.mg D__law_other.kp D__law_other.bd pass0 (pa_cons (pv 0) (pa_cons (pv 4) (pa_cons (pv 2) pa_nil)))))
    (pss_cons (ps_set (i := 6) sc_l_right.nd rfl (.inl rfl) (pe_callB (k_repr (K := K) rfl hc hu200) (by rfl) T.b_repr (by decide +kernel) (pa_cons (pe_lst (pa_cons (pv 4) (pa_cons (pv 5) pa_nil))) pa_nil)))
    (pss_cons (ps_setLc (i := 7) (own := [("_law_at", 14)]) (g := (gName 14)) (tt := tYes) (by rfl) sc_l_right.nd rfl rfl (sw_true rfl rfl rfl (by decide +kernel)) (pi_range1 (by rfl) T.b_range (pa_cons (pv 3) pa_nil)) (blkOk_by (own := [("_law_at", 14)]) (N := N_l_right) (sc := defScope s_l_right) (by decide +kernel)) (fun _ _ _ _ _ => (pg_name (i := 14) sc_l_right.nd rfl (.inl rfl))) (fun _ _ _ _ _ => pts_nil) (fun _ _ _ _ _ => (pe_tup (pa_cons (pv 14) (pa_cons pe_int pa_nil)))))
    (pss_cons (ps_asg (pe_tup (pa_cons (pg_call D__law_folded.ok hc (hr.mono (by decide)) (by rfl) D__law_folded.mg D__law_folded.kp D__law_folded.bd pass0 (pa_cons (pv 4) (pa_cons (pv 7) (pa_cons (pv 1) (pa_cons (pv 2) pa_nil))))) (pa_cons (pg_call D__law_folded.ok hc (hr.mono (by decide)) (by rfl) D__law_folded.mg D__law_folded.kp D__law_folded.bd pass0 (pa_cons (pv 5) (pa_cons (pv 7) (pa_cons (pv 1) (pa_cons (pv 2) pa_nil))))) pa_nil))) (pg_tup rfl (pgs_cons (pg_name (i := 8) sc_l_right.nd rfl (.inr rfl)) (pgs_cons (pg_name (i := 9) sc_l_right.nd rfl (.inr rfl)) pgs_nil))))
    (pss_cons (ps_setLc (i := 10) (own := [("_law_at", 14)]) (g := (gName 14)) (tt := _) (by rfl) sc_l_right.nd rfl rfl (sw_true rfl rfl rfl (by decide +kernel)) (pi_range1 (by rfl) T.b_range (pa_cons (pv 3) pa_nil)) (blkOk_by (own := [("_law_at", 14)]) (N := N_l_right) (sc := defScope s_l_right) (by decide +kernel)) (fun _ _ _ _ _ => (pg_name (i := 14) sc_l_right.nd rfl (.inl rfl))) (fun _ _ _ _ _ => (pts_one (pt_cmpR (k_neD (K := K) rfl hu64) (pe_ix (kx_list (K := K) rfl) (pv 8) (pv 14) (fun _ _ => rfl)) (pe_ix (kx_list (K := K) rfl) (pv 9) (pv 14) (fun _ _ => rfl)) (nomark _)))) (fun _ _ _ _ _ => (pe_op op_add (pv 14) pe_int)))
    (pss_cons (ps_set (i := 11) sc_l_right.nd rfl (.inl rfl) (pe_lst (pa_cons (pe_cmpR (k_eqD (K := K) rfl hu64) (pv 10) (pe_lst pa_nil) (nomark _)) (pa_cons (pe_ifExp (pt_cmpR (k_neD (K := K) rfl hu64) (pv 10) (pe_lst pa_nil) (nomark _)) (pe_ix (kx_list (K := K) rfl) (pv 10) pe_int (fun _ _ => rfl)) pe_non) pa_nil))))
    (pss_cons (ps_set (i := 12) sc_l_right.nd rfl (.inl rfl) (pe_lst (pa_cons (pg_call D_are_alike.ok hc (hr.mono (by decide)) (by rfl) D_are_alike.mg D_are_alike.kp D_are_alike.bd pass0 (pa_cons (pv 4) (pa_cons (pv 5) (pa_cons (pv 1) (pa_cons (pv 2) pa_nil))))) (pa_cons (pg_call D_parting_leaf.ok hc (hr.mono (by decide)) (by rfl) D_parting_leaf.mg D_parting_leaf.kp D_parting_leaf.bd pass0 (pa_cons (pv 4) (pa_cons (pv 5) (pa_cons (pv 1) (pa_cons (pv 2) pa_nil))))) pa_nil))))
    (pss_cons (ps_set (i := 13) sc_l_right.nd rfl (.inl rfl) (pe_lst (pa_cons (pg_callK D_are_alike.ok hc (hr.mono (by decide)) (by rfl) D_are_alike.mg D_are_alike.kp kb_are_alike_ring_tail_other_tree pass0 (pk_cons (pv 2) (pk_cons (pv 1) (pk_cons (pv 4) (pk_cons (pv 5) pk_nil))))) pa_nil)))
    (pss_cons (ps_expr (pe_bm PySem.F.plainAttrs_list PySem.F.slot_list_append PySem.F.type_list_append mt_append (pv 13) (pa_cons (pg_callK D_parting_leaf.ok hc (hr.mono (by decide)) (by rfl) D_parting_leaf.mg D_parting_leaf.kp kb_parting_leaf_ring_tail_other_tree pass0 (pk_cons (pv 2) (pk_cons (pv 1) (pk_cons (pv 4) (pk_cons (pv 5) pk_nil))))) pa_nil)))
    (pss_one (ps_ret (pe_and (pe_cmpR op_eq (pe_callB (k_repr (K := K) rfl hc hu200) (by rfl) T.b_repr (by decide +kernel) (pa_cons (pe_lst (pa_cons (pv 12) (pa_cons (pv 13) pa_nil))) pa_nil)) (pe_callB (k_repr (K := K) rfl hc hu200) (by rfl) T.b_repr (by decide +kernel) (pa_cons (pe_lst (pa_cons (pv 11) (pa_cons (pv 11) pa_nil))) pa_nil)) (nomark _)) (pe_one (pe_cmpR op_eq (pe_callB (k_repr (K := K) rfl hc hu200) (by rfl) T.b_repr (by decide +kernel) (pa_cons (pe_lst (pa_cons (pv 4) (pa_cons (pv 5) pa_nil))) pa_nil)) (pv 6) (nomark _)))))))))))))))), ?_⟩

  have hB : Same (fun _ => Option.none) H := fun b o e => nomatch e
  have hBp : (fun _ => Option.none : Hp) p = Option.none := rfl
  generalize (fun _ => Option.none : Hp) = B at hB hBp
  refine ⟨_, rfl, _, rfl, B, p, n, m, rfl, hB, hBp, hd, n0, by omega, m0, m1, fun v ns B1 H1 ht hlm G1 d1 hv => ?_⟩
  have hl : ns.length ≤ 40 := by omega
  refine ⟨_, rfl, _, rfl, _, rfl, B1, p, v, ns, n + m, r, rfl, G1.bh, G1.free hd.some hBp, d1, by omega, by omega, hv, ht, hl, r0, r1, fun v2 ms B2 H2 hu lm G12 d2 hv2 => ?_⟩
  have G2 := G1.trans G12
  have hv := hv.up G12.bb
  clear G12 G1 d1
  have smT := ht.sm hl
  have smU := hu.sm (show ms.length ≤ 40 by omega)
  have smTU := smT.pair smU
  -- kept
  refine ⟨_, rfl, _, rfl, by show 2 ≤ sizeLine; decide, fun q3 n3 => ?_⟩
  have a3 : At (upd H2 q3 (.lst [v, v2])) (.ref q3) (.list [intsD ns, intsD ms]) := .lst upd_same (.cons ((hv.up G2.bh).up (same_new n3)) (.cons ((hv2.up G2.bh).up (same_new n3)) .nil))
  refine ⟨_, _, rfl, a3.dp, smTU.shown (by decide) (by decide), ?_⟩
  have G3 := G2.more (same_new (o := .lst [v, v2]) n3)
  have d3 := d2.up (same_new (o := .lst [v, v2]) n3)
  generalize upd H2 q3 (.lst [v, v2]) = H3 at G3 d3
  clear a3 G2 d2 n3
  -- the row
  refine ⟨_, rfl, m, rfl, by omega, by omega, fun D hD => ?_⟩
  refine lc_rng (lo := 0) (n := m.toNat) (fun i => .tuple [.int (0 + (i : Int)), .int 0]) G3.bh hD (by omega) (fun i B4 H4 hi s2 s3 s4 fr R k => ⟨rfl, _, rfl, by show 2 ≤ sizeLine; decide, fun p7 np7 => k _ _ _ (Grow.new s3 np7) (.tup upd_same (.cons (.int _) (.cons (.int _) .nil)))⟩) (fun B4 H4 g4 h4 => ?_)
  have lenA : ((List.range m.toNat).map fun i : Nat => (0 + (i : Int))).length = ns.length := by
    rw [List.length_map, List.length_range]
    omega
  have e4 : PyData.list ((List.range m.toNat).map fun i : Nat => PyData.tuple [.int (0 + (i : Int)), .int 0]) = lets ((List.range m.toNat).map fun i : Nat => (0 + (i : Int))) (((List.range m.toNat).map fun i : Nat => (0 + (i : Int))).map fun _ => 0) := by
    rw [lets_zero, List.map_map]
    rfl
  rw [e4] at h4
  generalize (List.range m.toNat).map (fun i : Nat => (0 + (i : Int))) = as at h4 lenA
  have G4 := G3.trans (g4.p p)
  have d4 := d3.up g4.hh
  have hv := hv.up g4.bb
  have hv2 := hv2.up g4.bb
  clear g4 G3 d3 hD e4
  -- both folded
  refine ⟨_, rfl, _, rfl, _, rfl, _, rfl, B4, v, _, ns, as, t, r, rfl, G4.bh, hv, h4, ht, lenA, ht.pos, by omega, hl, t0, r0, fun v6 B6 H6 g6 h6 => ?_⟩
  refine ⟨_, rfl, _, rfl, _, rfl, _, rfl, B6, v2, _, ms, as, t, r, rfl, g6.bh, hv2.up g6.bb, h4.up g6.bb, hu, by omega, hu.pos, by omega, by omega, t0, r0, fun v7 B7 H7 g7 h7 => ?_⟩
  refine ⟨by show 2 ≤ sizeLine; decide, fun p8 np8 => ?_⟩
  have h6 := (h6.up g7.bb)
  have G7 := (G4.trans (g6.p p)).trans (g7.p p)
  have hv := hv.up (g6.bb.trans g7.bb)
  have hv2 := hv2.up (g6.bb.trans g7.bb)
  have d7 := d4.up (g6.hh.trans g7.hh)
  refine ⟨p8, _, rfl, SqT.of upd_same, rfl, _, _, rfl, _, _, rfl, rfl, ?_⟩
  have G8 := G7.more (same_new (o := .tup [v6, v7]) np8)
  have d8 := d7.up (same_new (o := .tup [v6, v7]) np8)
  generalize upd H7 p8 (.tup [v6, v7]) = H8 at G8 d8
  clear g6 g7 G4 d4 G7 d7 h4 np8
  -- where they differ
  have la : (mks ns t r).length = m.toNat := by rw [mks_len]; omega
  have lb : (mks ms t r).length = m.toNat := by rw [mks_len]; omega
  refine ⟨_, rfl, m, rfl, by omega, by omega, fun D2 hD2 => ?_⟩
  obtain ⟨q6, zs, rfl, hq6, hzs⟩ := lets_ex h6
  obtain ⟨q7, ws, rfl, hq7, hws⟩ := lets_ex h7
  refine lc_genF (walk_range (lo := 0) (n := m.toNat)) (fun i : Nat => .int (0 + (i : Int) + 1)) (fun i => !decide ((mks ns t r)[i]? = (mks ms t r)[i]?)) G8.bh hD2 (by omega) (fun _ _ => trivial) same_YFn (fun i z B9 H9 H9b hi hy s1 s2 s3 fr R N k1 k2 => ?_) (fun B9 H9 g9 h9 => ?_)
  · obtain ⟨rfl, rfl⟩ := hy
    have ia : i < as.length := by omega
    have i1 : i < (mks ns t r).length := by omega
    have i2 : i < (mks ms t r).length := by omega
    obtain ⟨z1, hz1, az1⟩ := hzs.get (n := i) (d := .tuple [.int as[i], .int (mks ns t r)[i]]) (by rw [List.getElem?_zipWith, List.getElem?_eq_getElem ia, List.getElem?_eq_getElem i1])
    obtain ⟨z2, hz2, az2⟩ := hws.get (n := i) (d := .tuple [.int as[i], .int (mks ms t r)[i]]) (by rw [List.getElem?_zipWith, List.getElem?_eq_getElem ia, List.getElem?_eq_getElem i2])
    have ei : (0 : Int) + (i : Int) = ((i : Nat) : Int) := by omega
    refine ⟨rfl, _, rfl, _, rfl, q6, _, _, z1, rfl, rfl, SqL.of (s2 _ _ (s1 _ _ hq6)), at_of ei hz1, _, rfl, _, rfl, q7, _, _, z2, rfl, rfl, SqL.of (s2 _ _ (s1 _ _ hq7)), at_of ei hz2, ?_⟩
    have sh : ∀ a b : Int, SeqAt.shaped (.tuple [.int a, .int b]) = true := fun a b => rfl
    refine ⟨_, _, ((az1.up s1).up s2).dp, ((az2.up s1).up s2).dp, sh _ _, sh _ _, _, rfl, ?_⟩
    have ev : PyData.eqv (.tuple [.int as[i], .int (mks ns t r)[i]]) (.tuple [.int as[i], .int (mks ms t r)[i]]) = decide ((mks ns t r)[i]? = (mks ms t r)[i]?) := by
      rw [List.getElem?_eq_getElem i1, List.getElem?_eq_getElem i2, Bool.eq_iff_iff]
      simp [PyData.eqv, PyData.eqvAll]
    rw [ev]
    refine ite2 (fun c => ?_) (fun c => ?_)
    · exact ⟨_, rfl, _, _, rfl, rfl, k1 c _ B9 H9b (Grow.refl s2) (.int _)⟩
    · exact k2 (Bool.eq_false_iff.mpr c) B9 H9b (Grow.refl s2)
  have ho : fdiff (mks ns t r) (mks ms t r) = (List.range m.toNat).find? (fun i => !decide ((mks ns t r)[i]? = (mks ms t r)[i]?)) := by
    rw [fdiff_find (by omega), la]
  have hob : ∀ i, fdiff (mks ns t r) (mks ms t r) = some i → i < 1000 := fun i e => by
    rw [ho, List.find?_range_eq_some] at e
    have := List.mem_range.mp e.2.1
    omega
  have smS := smL_filter (n := m.toNat) (kp := fun i => !decide ((mks ns t r)[i]? = (mks ms t r)[i]?)) (by omega)
  have hS := diff_list ho
  have eo : fdiff (mks ms t r) (mks ns t r) = fdiff (mks ns t r) (mks ms t r) := fdiff_comm _ _
  generalize ((List.range m.toNat).filter fun i => !decide ((mks ns t r)[i]? = (mks ms t r)[i]?)).map (fun i : Nat => PyData.int (0 + (i : Int) + 1)) = S at h9 smS hS
  have G9 := G8.trans (g9.p p)
  have d9 := d8.up g9.hh
  have hv := hv.up g9.bb
  have hv2 := hv2.up g9.bb
  clear G8 d8 g9 hD2
  have smO := (Sm.bl (fdiff (mks ns t r) (mks ms t r)).isNone).pair (leaf_sm hob)
  -- due
  have eqE : PyData.eqv (.list S) (.list []) = (fdiff (mks ns t r) (mks ms t r)).isNone := by
    rcases hS with ⟨e1, e2⟩ | ⟨rr, e2, e1⟩
    · rw [e1, e2]
      rfl
    · rw [e1, e2]
      rfl
  have nilSh : SeqAt.shaped (.list []) = true := rfl
  refine ⟨_, rfl, by show 0 ≤ sizeLine; decide, fun c1 nc1 => ⟨_, _, ((h9.up G9.bh).up (same_new nc1)).dp, (At.lst upd_same .nil : At _ (.ref c1) (.list [])).dp, smS.shaped (by decide), nilSh, ?_⟩⟩
  rw [eqE]
  have s10 : Same H9 (upd H9 c1 (.lst [])) := same_new nc1
  generalize upd H9 c1 (.lst []) = H10 at s10
  refine ⟨_, rfl, by show 0 ≤ sizeLine; decide, fun c2 nc2 => ⟨_, _, (((h9.up G9.bh).up s10).up (same_new nc2)).dp, (At.lst upd_same .nil : At _ (.ref c2) (.list [])).dp, smS.shaped (by decide), nilSh, _, rfl, ?_⟩⟩
  rw [eqE]
  have s11 : Same H9 (upd H10 c2 (.lst [])) := s10.trans (same_new nc2)
  generalize upd H10 c2 (.lst []) = H11 at s11
  obtain ⟨D2', ss, eD2, hD2, hss⟩ := At.lst_ex h9
  cases eD2
  generalize hO : fdiff (mks ns t r) (mks ms t r) = o at *
  have first : (!o.isNone) = true → atI ss 0 = some (leafV o) := fun hn => by
    rcases hS with ⟨e1, _⟩ | ⟨rr, e2, e1⟩
    · rw [e1] at hn
      cases hn
    · rw [e2] at hss
      obtain ⟨z, hz, az⟩ := hss.get (n := 0) (d := leafD o) rfl
      rw [← leaf_eq az]
      exact atI_nat hz
  refine merge (fun hn tt => ⟨_, rfl, D2, ss, 0, leafV o, rfl, rfl, SqL.of (s11 _ _ (G9.bh _ _ hD2)), first hn, tt⟩) (fun hn tt => by
    have e0 : o = none := by
      cases o with
      | none => rfl
      | some i => exact absurd rfl hn
    have e1 : leafV o = .non := by
      rw [e0]
      rfl
    rw [e1] at tt
    exact tt) ?_
  refine ⟨by show 2 ≤ sizeLine; decide, fun q12 n12 => ?_⟩
  have s12 : Same H9 (upd H11 q12 (.lst [.bl o.isNone, leafV o])) := s11.trans (same_new n12)
  have e12 : upd H11 q12 (.lst [.bl o.isNone, leafV o]) q12 = some (.lst [.bl o.isNone, leafV o]) := upd_same
  generalize upd H11 q12 (.lst [.bl o.isNone, leafV o]) = H12 at s12 e12
  -- what the program tells
  have bh12 : Same B9 H12 := G9.bh.trans s12
  have lm2 : ns.length = ms.length := lm.symm
  refine ⟨_, rfl, _, rfl, _, rfl, _, rfl, B9, v, v2, ns, ms, t, r, rfl, bh12, hv, hv2, ht, hu, hl, lm, t0, t1, r0, r1, fun H13 s13 => ?_⟩
  rw [hO]
  refine ⟨_, rfl, _, rfl, _, rfl, _, rfl, B9, v, v2, ns, ms, t, r, rfl, bh12.trans s13, hv, hv2, ht, hu, hl, lm, t0, t1, r0, r1, fun H14 s14 => ?_⟩
  rw [hO]
  refine ⟨by show 2 ≤ sizeLine; decide, fun q15 n15 => ?_⟩
  have s15 : Same H12 (upd H14 q15 (.lst [.bl o.isNone, leafV o])) := (s13.trans s14).trans (same_new n15)
  have e15 : upd H14 q15 (.lst [.bl o.isNone, leafV o]) q15 = some (.lst [.bl o.isNone, leafV o]) := upd_same
  generalize upd H14 q15 (.lst [.bl o.isNone, leafV o]) = H15 at s15 e15
  refine ⟨_, rfl, _, rfl, _, rfl, _, rfl, B9, v2, v, ms, ns, t, r, rfl, bh12.trans s15, hv2, hv, hu, ht, by omega, lm2, t0, t1, r0, r1, fun H16 s16 => ?_⟩
  rw [eo]
  refine ⟨by show 1 ≤ sizeLine; decide, fun q17 n17 => ?_⟩
  have s17 : Same H15 (upd H16 q17 (.lst [.bl o.isNone])) := s16.trans (same_new n17)
  have e17 : upd H16 q17 (.lst [.bl o.isNone]) q17 = some (.lst [.bl o.isNone]) := upd_same
  have f17 : H15 q17 = none := s16.free n17
  generalize upd H16 q17 (.lst [.bl o.isNone]) = H17 at s17 e17
  refine ⟨_, rfl, .inl ⟨rfl, _, SqL.of e17⟩, _, rfl, _, rfl, _, rfl, _, rfl, B9, v2, v, ms, ns, t, r, rfl, (bh12.trans s15).trans s17, hv2, hv, hu, ht, by omega, lm2, t0, t1, r0, r1, fun H18 s18 => ?_⟩
  rw [eo]
  refine ⟨q17, _, _, rfl, rfl, s18 _ _ e17, by show 1 < sizeLine; decide, ?_⟩
  have G19 : GrowP p B H B9 (upd H18 q17 (.lst ([.bl o.isNone] ++ [leafV o]))) := (G9.more (s12.trans s15)).mut (s17.trans s18) f17
  have d19 : DrawsAt (upd H18 q17 (.lst ([.bl o.isNone] ++ [leafV o]))) p (n + m + 60) := by
    have d15 := d9.up (s12.trans s15)
    obtain ⟨a1, k1, b1, z1, z2⟩ := d15
    exact ⟨a1, k1, b1, by rw [upd_ne (ne_of_none z1 f17)]; exact s18 _ _ (s17 _ _ z1), z2⟩
  have e19 : upd H18 q17 (.lst ([.bl o.isNone] ++ [leafV o])) q17 = some (.lst [.bl o.isNone, leafV o]) := upd_same
  have e19b : upd H18 q17 (.lst ([.bl o.isNone] ++ [leafV o])) q15 = some (.lst [.bl o.isNone, leafV o]) := by
    rw [upd_ne (ne_of_none e15 f17)]
    exact s18 _ _ (s17 _ _ e15)
  have e19c : upd H18 q17 (.lst ([.bl o.isNone] ++ [leafV o])) q12 = some (.lst [.bl o.isNone, leafV o]) := by
    rw [upd_ne (ne_of_none (s15 _ _ e12) f17)]
    exact s18 _ _ (s17 _ _ (s15 _ _ e12))
  generalize upd H18 q17 (.lst ([.bl o.isNone] ++ [leafV o])) = H19 at G19 d19 e19 e19b e19c
  have one : ∀ {Hx : Hp} {qx : Addr}, Hx qx = some (.lst [.bl o.isNone, leafV o]) → At Hx (.ref qx) (.list [.bool o.isNone, leafD o]) := fun h => .lst h (.cons (.bl _) (.cons (leaf_at o) .nil))
  have smOO := smO.pair smO
  -- the answer
  refine ⟨_, rfl, _, rfl, by show 2 ≤ sizeLine; decide, fun q20 n20 => ?_⟩
  have s20 : Same H19 (upd H19 q20 (.lst [.ref q15, .ref q17])) := same_new n20
  have a20 : At (upd H19 q20 (.lst [.ref q15, .ref q17])) (.ref q20) (.list [.list [.bool o.isNone, leafD o], .list [.bool o.isNone, leafD o]]) := .lst upd_same (.cons ((one e19b).up s20) (.cons ((one e19).up s20) .nil))
  generalize upd H19 q20 (.lst [.ref q15, .ref q17]) = H20 at s20 a20
  refine ⟨_, _, rfl, a20.dp, smOO.shown (by decide) (by decide), ?_⟩
  refine ⟨_, rfl, _, rfl, by show 2 ≤ sizeLine; decide, fun q21 n21 => ?_⟩
  have s21 : Same H20 (upd H20 q21 (.lst [.ref q12, .ref q12])) := same_new n21
  have a21 : At (upd H20 q21 (.lst [.ref q12, .ref q12])) (.ref q21) (.list [.list [.bool o.isNone, leafD o], .list [.bool o.isNone, leafD o]]) := .lst upd_same (.cons (((one e19c).up s20).up s21) (.cons (((one e19c).up s20).up s21) .nil))
  generalize upd H20 q21 (.lst [.ref q12, .ref q12]) = H21 at s21 a21
  refine ⟨_, _, rfl, a21.dp, smOO.shown (by decide) (by decide), rfl, _, rfl, iteY rfl ?_⟩
  have bh21 := (G19.bh.trans s20).trans s21
  refine ⟨_, rfl, _, rfl, by show 2 ≤ sizeLine; decide, fun q22 n22 => ?_⟩
  have a22 : At (upd H21 q22 (.lst [v, v2])) (.ref q22) (.list [intsD ns, intsD ms]) := .lst upd_same (.cons ((hv.up bh21).up (same_new n22)) (.cons ((hv2.up bh21).up (same_new n22)) .nil))
  refine ⟨_, _, rfl, a22.dp, smTU.shown (by decide) (by decide), _, rfl, rfl, ?_⟩
  rw [decide_eq_true rfl]
  have sF : Same H19 (upd H21 q22 (.lst [v, v2])) := (s20.trans s21).trans (same_new n22)
  exact q _ (G19.more sF).turn ((d19.up sF).mono (by omega))
/-- what the list of all draws is: the objects apart, none used yet -/
structure Piles (H : Hp) (D : Addr) (ps : List Addr) : Prop where
  at0 : H D = some (.lst (ps.map V.ref))
  nd : ps.Nodup
  out : D ∉ ps

/-- the head of every law: the piles of draws are made, one a cell; then the body goes over them -/
theorem cells_cut {ns : List Int} {k : Nat} : cutV (ns.map V.int) none (some (k : Int)) ++ [V.int 0] = (ns.take k ++ [0]).map V.int := by
  rw [cut_upto, List.map_append, List.map_take]
  rfl

def sp_law (K : PySem.W.Frag) : Sp := fun vs H Q _ => ∃ (a : Addr) (ns : List Int), vs = [.ref a] ∧ SqL K H a (ns.map V.int) ∧ ns.length ≤ 63 ∧ ∀ H2, Q (.bl true) H2
theorem tr_of {ns : List Int} (h : 0 < ns.length ∧ (∀ i : Nat, i < ns.length → (if i = ns.length - 1 then 0 else 1) ≤ ns.getD i 0) ∧ (∀ i : Nat, i + 1 < ns.length → ns.getD i 0 ≤ ns.getD (i + 1) 0 + 1) ∧ ns.getD (ns.length - 1) 1 = 0) : Tr ns := by
  obtain ⟨h0, h1, h2, h3⟩ := h
  refine Tr.of h0 (fun i d hd => ?_) (fun i d e hd he => ?_) ?_
  · have hi := (List.getElem?_eq_some_iff.mp hd).1
    have q := h1 i hi
    rw [List.getD_eq_getElem?_getD, hd] at q
    exact q
  · have hi := (List.getElem?_eq_some_iff.mp he).1
    have q := h2 i hi
    rw [List.getD_eq_getElem?_getD, hd, List.getD_eq_getElem?_getD, he] at q
    exact q
  · rw [List.getD_eq_getElem?_getD] at h3
    rw [List.getElem?_eq_getElem (show ns.length - 1 < ns.length by omega)] at h3 ⊢
    exact congrArg some h3
theorem ok_law {f : Addr} {fd : FuncData} (F : Fun K "law" "law" s_law f fd) (T : Bt mg) (D_parting_leaf : Callee P w K mg base CX0 5 "parting_leaf" ["tree", "other", "tail", "ring"] (sp_parting_leaf K)) (D_are_alike : Callee P w K mg base CX0 6 "are_alike" ["tree", "other", "tail", "ring"] (sp_are_alike K)) (D__law_draws : Callee P w K mg base CX0 1 "_law_draws" ["_law_cell"] (sp_l_draws K)) (D__law_next : Callee P w K mg base CX0 1 "_law_next" ["_law_draws_here"] (sp_l_next K)) (D__law_cycle : Callee P w K mg base CX0 2 "_law_cycle" ["_law_draws_here"] (sp_l_cycle K)) (D__law_right : Callee P w K mg base CX0 43 "_law_right" ["_law_draws_here", "_law_a_tail", "_law_a_ring", "_law_many"] (sp_l_right K)) : FnG P w K mg base CX0 44 f fd ["_law_script"] (sp_law K) := by
  refine okN F sc_law (fun vs H Q E h => ?_) (fun cdv A out s H vs Q E hc hr h => ?_)
  · obtain ⟨a, ns, rfl, hS, hlen, q⟩ := h
    rfl
  obtain ⟨a, ns, rfl, hS, hlen, q⟩ := h
  have hu200 := u200 hr
  have hu64 := hr.units
  refine ⟨_, (pss_cons (ps_for PassesOwn.never rfl (pi_list (pe_lc (own := [("_law_cell", 5)]) (g := (gName 5)) (tt := tYes) (by rfl) sc_law.nd (pi_list (pe_op op_cat (pe_slice (k_sl (K := K) rfl) (pv 0) po_none (po_some pe_int)) (pe_lst (pa_cons pe_int pa_nil)))) (blkOk_by (own := [("_law_cell", 5)]) (N := N_law) (sc := defScope s_law) (by decide +kernel)) (fun _ _ _ _ _ => (pg_name (i := 5) sc_law.nd rfl (.inl rfl))) (fun _ _ _ _ _ => pts_nil) (fun _ _ _ _ _ => (pg_call D__law_draws.ok hc (hr.mono (by decide)) (by rfl) D__law_draws.mg D__law_draws.kp D__law_draws.bd pass0 (pa_cons (pv 5) pa_nil))))) (pg_name (i := 1) sc_law.nd rfl (.inl rfl)) (pss_one (ps_for PassesOwn.never rfl (pi_list (pe_lst (pa_cons (pe_op op_add pe_int (pe_op op_mod (pe_callTy call_int1 (by rfl) T.b_int (by decide +kernel) (pa_cons (pg_call D__law_next.ok hc (hr.mono (by decide)) (by rfl) D__law_next.mg D__law_next.kp D__law_next.bd pass0 (pa_cons (pv 1) pa_nil)) pa_nil)) pe_int)) (pa_cons (pe_op op_add pe_int (pe_op op_mod (pe_callTy call_int1 (by rfl) T.b_int (by decide +kernel) (pa_cons (pg_call D__law_next.ok hc (hr.mono (by decide)) (by rfl) D__law_next.mg D__law_next.kp D__law_next.bd pass0 (pa_cons (pv 1) pa_nil)) pa_nil)) pe_int)) (pa_cons pe_int pa_nil))))) (pg_name (i := 2) sc_law.nd rfl (.inl rfl)) (pss_cons (ps_asg (pg_call D__law_cycle.ok hc (hr.mono (by decide)) (by rfl) D__law_cycle.mg D__law_cycle.kp D__law_cycle.bd pass0 (pa_cons (pv 1) pa_nil)) (pg_tup rfl (pgs_cons (pg_name (i := 3) sc_law.nd rfl (.inl rfl)) (pgs_cons (pg_name (i := 4) sc_law.nd rfl (.inl rfl)) pgs_nil))))
    (pss_one (ps_if (pt_not (pt_val (pg_call D__law_right.ok hc (hr.mono (by decide)) (by rfl) D__law_right.mg D__law_right.kp D__law_right.bd pass0 (pa_cons (pv 1) (pa_cons (pv 3) (pa_cons (pv 4) (pa_cons (pv 2) pa_nil))))))) (pss_one (ps_ret pe_bl)) pss_nil))))))
    (pss_cons (ps_if (PW.pt (pw_or (pt_not (pt_val (pg_call D_are_alike.ok hc (hr.mono (by decide)) (by rfl) D_are_alike.mg D_are_alike.kp D_are_alike.bd pass0 (pa_cons (pe_lst (pa_cons pe_int (pa_cons pe_int (pa_cons pe_int (pa_cons pe_int pa_nil))))) (pa_cons (pe_lst (pa_cons pe_int (pa_cons pe_int (pa_cons pe_int (pa_cons pe_int pa_nil))))) (pa_cons pe_int (pa_cons pe_int pa_nil))))))) (pw_or1 (pt_val (pg_call D_are_alike.ok hc (hr.mono (by decide)) (by rfl) D_are_alike.mg D_are_alike.kp D_are_alike.bd pass0 (pa_cons (pe_lst (pa_cons pe_int (pa_cons pe_int (pa_cons pe_int (pa_cons pe_int pa_nil))))) (pa_cons (pe_lst (pa_cons pe_int (pa_cons pe_int (pa_cons pe_int (pa_cons pe_int pa_nil))))) (pa_cons pe_int (pa_cons pe_int pa_nil))))))))) (pss_one (ps_ret pe_bl)) pss_nil)
    (pss_one (ps_ret (pe_and (pe_cmpR op_eq (pg_call D_parting_leaf.ok hc (hr.mono (by decide)) (by rfl) D_parting_leaf.mg D_parting_leaf.kp D_parting_leaf.bd pass0 (pa_cons (pe_lst (pa_cons pe_int (pa_cons pe_int (pa_cons pe_int (pa_cons pe_int pa_nil))))) (pa_cons (pe_lst (pa_cons pe_int (pa_cons pe_int (pa_cons pe_int (pa_cons pe_int pa_nil))))) (pa_cons pe_int (pa_cons pe_int pa_nil))))) pe_int (nomark _)) (pe_one (pg_call D_are_alike.ok hc (hr.mono (by decide)) (by rfl) D_are_alike.mg D_are_alike.kp D_are_alike.bd pass0 (pa_cons (pe_lst (pa_cons pe_int (pa_cons pe_int (pa_cons pe_int pa_nil)))) (pa_cons (pe_lst (pa_cons pe_int (pa_cons pe_int (pa_cons pe_int pa_nil)))) (pa_cons pe_int (pa_cons pe_int pa_nil))))))))))), ?_⟩

  have hB0 : ∀ H : Hp, Same (fun _ => Option.none) H := fun H b o e => nomatch e
  refine ⟨_, rfl, 5, rfl, a, ns.map V.int, rfl, hS, fun p1 np1 => ?_⟩
  refine ⟨by show 1 ≤ sizeLine; decide, fun p2 np2 => ?_⟩
  refine ⟨p1, p2, _, _, rfl, rfl, same_new np2 _ _ upd_same, upd_same, ?_, fun p3 np3 => ?_⟩
  · have := cutV_length (ns.map V.int) none (some 5)
    rw [List.length_map] at this
    exact Nat.le_of_lt (small1000 (by simp only [List.length_singleton]; omega))
  have h3 : upd (upd (upd H p1 (.lst (cutV (ns.map V.int) none (some 5)))) p2 (.lst [.int 0])) p3 (.lst (cutV (ns.map V.int) none (some 5) ++ [.int 0])) p3 = some (.lst ((ns.take 5 ++ [0]).map V.int)) := by
    rw [upd_same]
    exact congrArg (fun z => some (HO.lst z)) (cells_cut (k := 5))
  generalize upd (upd (upd H p1 (.lst (cutV (ns.map V.int) none (some 5)))) p2 (.lst [.int 0])) p3 (.lst (cutV (ns.map V.int) none (some 5) ++ [.int 0])) = H3 at h3
  have hcl : (ns.take 5 ++ [0]).length ≤ 6 := by
    rw [List.length_append, List.length_take]
    simp only [List.length_singleton]
    omega
  generalize ns.take 5 ++ [0] = cs at h3 hcl
  -- the piles
  refine ⟨p3, rfl, ⟨_, SqL.of h3⟩, fun D hD => ?_⟩
  refine lc_list (K := K) (a := p3) (xs := cs.map V.int) (fun i H4 => ∃ ps : List Addr, ps.length = i ∧ Piles H4 D ps ∧ (∀ x ∈ ps, DrawsAt H4 x 0) ∧ Same H3 H4)
    ⟨[], rfl, ⟨upd_same, List.nodup_nil, List.not_mem_nil⟩, (fun _ h => nomatch h), same_new hD⟩ (fun i H4 _ ⟨_, _, _, _, s⟩ => SqL.of (s _ _ h3)) ?_ ?_
  · rintro i x H4 hi ⟨ps, hl, pl, dr, s⟩
    obtain ⟨c, hc, rfl⟩ := ex_int hi
    refine ⟨rfl, ?_⟩
    dsimp only [tYes]
    rw [if_pos rfl]
    refine ⟨_, rfl, c, rfl, fun r H5 s5 nr d5 => ?_⟩
    have hi2 := (List.getElem?_eq_some_iff.mp hc).1
    have rps : r ∉ ps := fun m => (dr r m).some nr
    have rD : r ≠ D := fun e => by rw [e, pl.at0] at nr; cases nr
    refine ⟨_, s5 _ _ pl.at0, by rw [List.length_map]; exact small1000 (by omega), ps ++ [r], by simp [hl], ⟨by rw [upd_same, List.map_append]; rfl, ?_, ?_⟩, fun x hx => ?_, fun b o e => ?_⟩
    · exact List.nodup_append.mpr ⟨pl.nd, by simp, fun x hx y hy => by
        rw [List.mem_singleton] at hy
        rintro rfl
        exact rps (by rw [← hy]; exact hx)⟩
    · intro m
      rcases List.mem_append.mp m with m | m
      · exact pl.out m
      · rw [List.mem_singleton] at m
        exact rD m.symm
    · rcases List.mem_append.mp hx with m | m
      · exact ((dr x m).up s5).other (Turn.upd (p := D) (s5 _ _ pl.at0)) fun e => pl.out (by rw [← e]; exact m)
      · rw [List.mem_singleton] at m
        rw [m]
        exact d5.other (Turn.upd (p := D) (s5 _ _ pl.at0)) rD
    · rw [upd_ne (ne_of_none e hD)]
      exact s5 _ _ (s b o e)
  rintro H4 ⟨ps, hl, pl, dr, s4⟩
  refine ⟨D, rfl, ⟨_, SqL.of pl.at0⟩, ?_⟩
  refine for_list (K := K) (a := D) (xs := ps.map V.ref) (fun i σ H5 => ∃ x1 x2 x3 x4, σ = [some (.ref a), x1, x2, x3, x4, none] ∧ Piles H5 D ps ∧ ∀ j y, i ≤ j → ps[j]? = some y → DrawsAt H5 y 0)
    ⟨none, none, none, none, rfl, pl, fun j y _ h => dr y (List.mem_of_getElem? h)⟩ (fun i σ H5 _ ⟨_, _, _, _, _, p, _⟩ => SqL.of p.at0) ?_ ?_
  · rintro i x σ H5 hi ⟨x1, x2, x3, x4, rfl, pl5, dr5⟩
    obtain ⟨y, hy, rfl⟩ : ∃ y, ps[i]? = some y ∧ x = V.ref y := by
      rw [List.getElem?_map] at hi
      cases z : ps[i]? with
      | none => rw [z] at hi; cases hi
      | some d => rw [z] at hi; exact ⟨d, rfl, (Option.some.inj hi).symm⟩
    have hyD : D ≠ y := fun e => pl5.out (by rw [e]; exact List.mem_of_getElem? hy)
    have later : ∀ (H6 H7 : Hp), Turn y H6 H7 → (∀ j z, i + 1 ≤ j → ps[j]? = some z → DrawsAt H6 z 0) → ∀ j z, i + 1 ≤ j → ps[j]? = some z → DrawsAt H7 z 0 := fun H6 H7 t h j z hj hz =>
      (h j z hj hz).other t fun e => by
        have := nd_ix pl5.nd hz (by rw [e]; exact hy)
        omega
    have pileT : ∀ (H6 H7 : Hp), Turn y H6 H7 → Piles H6 D ps → Piles H7 D ps := fun H6 H7 t h => ⟨t.hh _ _ hyD h.at0, h.nd, h.out⟩
    have d5 := dr5 i y (Nat.le_refl _) hy
    -- three sizes
    refine ⟨_, rfl, y, _, rfl, d5, by omega, fun u H6 u0 u1 t6 d6 => .inl ⟨_, rfl, _, _, rfl, rfl, (by show (0 : Int) < _; decide), _, _, rfl, rfl, ?_⟩⟩
    refine ⟨_, rfl, y, _, rfl, d6, by omega, fun w H7 w0 w1 t7 d7 => .inl ⟨_, rfl, _, _, rfl, rfl, (by show (0 : Int) < _; decide), _, _, rfl, rfl, ?_⟩⟩
    refine ⟨by show 3 ≤ sizeLine; decide, fun q8 n8 => ?_⟩
    have t8 : Turn y H5 (upd H7 q8 (.lst [.int (1 + u % 40), .int (2 + w % 8), .int 40])) := (t6.trans t7).trans (Turn.same (same_new n8))
    have d8 := d7.up (same_new (o := .lst [.int (1 + u % 40), .int (2 + w % 8), .int 40]) n8)
    have e8 : upd H7 q8 (.lst [.int (1 + u % 40), .int (2 + w % 8), .int 40]) q8 = some (.lst ([1 + u % 40, 2 + w % 8, 40].map V.int)) := upd_same
    have y8 : q8 ≠ y := fun e => by
      rw [e] at n8
      exact d7.some n8
    generalize upd H7 q8 (.lst [.int (1 + u % 40), .int (2 + w % 8), .int 40]) = H8 at t8 d8 e8
    have hsz : ∀ m ∈ [1 + u % 40, 2 + w % 8, 40], 1 ≤ m ∧ m ≤ 40 := fun m hm => by
      simp only [List.mem_cons, List.not_mem_nil, or_false] at hm
      rcases hm with e | e | e <;> omega
    refine ⟨q8, rfl, ⟨_, SqL.of e8⟩, ?_⟩
    refine for_list (K := K) (a := q8) (xs := [1 + u % 40, 2 + w % 8, 40].map V.int) (fun k σ H9 => ∃ x2 x3 x4, σ = [some (.ref a), some (.ref y), x2, x3, x4, none] ∧ Piles H9 D ps ∧ DrawsAt H9 y (2 + 300 * k) ∧ H9 q8 = some (.lst ([1 + u % 40, 2 + w % 8, 40].map V.int)) ∧ ∀ j z, i + 1 ≤ j → ps[j]? = some z → DrawsAt H9 z 0)
      ⟨x2, x3, x4, rfl, pileT _ _ t8 pl5, d8.mono (by omega), e8, later _ _ t8 fun j z hj hz => dr5 j z (by omega) hz⟩ (fun k σ H9 _ ⟨_, _, _, _, _, _, e, _⟩ => SqL.of e) ?_ ?_
    · rintro k x σ H9 hk ⟨x2, x3, x4, rfl, pl9, d9, e9, dr9⟩
      obtain ⟨m, hm, rfl⟩ := ex_int hk
      have hm2 := hsz m (List.mem_of_getElem? hm)
      have hk3 := (List.getElem?_eq_some_iff.mp hm).1
      simp only [List.length_cons, List.length_nil] at hk3
      refine ⟨_, rfl, (fun _ => Option.none), y, _, rfl, hB0 _, rfl, d9, by omega, fun v t r B2 H10 t0 t1 r0 r1 G d10 hv => ?_⟩
      obtain ⟨z, xs, rfl, hw, axs⟩ := hv.tup_ex
      cases axs with
      | cons a1 a2 =>
        cases a2 with
        | cons a2 a3 =>
          cases a3
          obtain rfl := a1.int_eq
          obtain rfl := a2.int_eq
          refine ⟨z, _, rfl, SqT.of (G.bh _ _ hw), rfl, _, _, rfl, _, _, rfl, rfl, ?_⟩
          refine ⟨_, rfl, _, rfl, _, rfl, _, rfl, y, _, t, r, m, rfl, d10, by omega, by omega, t0, t1, by omega, by omega, hm2.1, hm2.2, fun H11 t11 d11 => ⟨_, rfl, iteF ?_⟩⟩
          have tn := G.turn.trans t11
          exact ⟨_, _, _, rfl, pileT _ _ tn pl9, d11.mono (by omega), tn.hh _ _ y8 e9, later _ _ tn dr9⟩
    · rintro σ H9 ⟨x2, x3, x4, rfl, pl9, d9, e9, dr9⟩
      exact ⟨_, _, _, _, rfl, pl9, dr9⟩
  rintro σ H5 ⟨x1, x2, x3, x4, rfl, _, _⟩
  clear dr s4 pl hl h3 hcl hS hlen
  -- written trees
  have tA : Tr [3, 2, 1, 0] := downs_tr 3
  have tB : Tr [1, 2, 1, 0] := .cons (downs_tr 2) (by decide) (by decide)
  have tC : Tr [1, 1, 1, 0] := .cons (.cons (downs_tr 1) (by decide) (by decide)) (by decide) (by decide)
  have tD : Tr [2, 1, 0] := downs_tr 2
  have tE : Tr [1, 1, 0] := .cons (downs_tr 1) (by decide) (by decide)
  have pair : ∀ {H : Hp} {x y : Addr} {xs ys : List V}, H x = none → (upd H x (.lst xs)) y = none → (upd (upd H x (.lst xs)) y (.lst ys)) x = some (.lst xs) ∧ (upd (upd H x (.lst xs)) y (.lst ys)) y = some (.lst ys) := fun {H x y xs ys} h1 h2 => ⟨same_new h2 _ _ upd_same, upd_same⟩
  refine ⟨by show 4 ≤ sizeLine; decide, fun c1 m1 => ⟨by show 4 ≤ sizeLine; decide, fun c2 m2 => ?_⟩⟩
  obtain ⟨e1, e2⟩ := pair (xs := [.int 3, .int 2, .int 1, .int 0]) (ys := [.int 1, .int 2, .int 1, .int 0]) m1 m2
  refine ⟨_, _, _, [3, 2, 1, 0], [1, 2, 1, 0], 0, 2, rfl, Same.refl _, ints_at e1, ints_at e2, tA, tB, by decide, by decide, by decide, by decide, by decide, by decide, fun H6 s6 => ⟨_, rfl, iteF ?_⟩⟩
  refine ⟨by show 4 ≤ sizeLine; decide, fun c3 m3 => ⟨by show 4 ≤ sizeLine; decide, fun c4 m4 => ?_⟩⟩
  obtain ⟨e3, e4⟩ := pair (xs := [.int 3, .int 2, .int 1, .int 0]) (ys := [.int 1, .int 2, .int 1, .int 0]) m3 m4
  refine ⟨_, _, _, [3, 2, 1, 0], [1, 2, 1, 0], 2, 2, rfl, Same.refl _, ints_at e3, ints_at e4, tA, tB, by decide, by decide, by decide, by decide, by decide, by decide, fun H7 s7 => ⟨_, rfl, iteF ?_⟩⟩
  refine ⟨by show 4 ≤ sizeLine; decide, fun c5 m5 => ⟨by show 4 ≤ sizeLine; decide, fun c6 m6 => ?_⟩⟩
  obtain ⟨e5, e6⟩ := pair (xs := [.int 3, .int 2, .int 1, .int 0]) (ys := [.int 1, .int 1, .int 1, .int 0]) m5 m6
  refine ⟨_, _, _, [3, 2, 1, 0], [1, 1, 1, 0], 0, 2, rfl, Same.refl _, ints_at e5, ints_at e6, tA, tC, by decide, by decide, by decide, by decide, by decide, by decide, fun H8 s8 => ⟨rfl, _, rfl, iteT ?_⟩⟩
  refine ⟨by show 3 ≤ sizeLine; decide, fun c7 m7 => ⟨by show 3 ≤ sizeLine; decide, fun c8 m8 => ?_⟩⟩
  obtain ⟨e7, e8⟩ := pair (xs := [.int 2, .int 1, .int 0]) (ys := [.int 1, .int 1, .int 0]) m7 m8
  refine ⟨_, _, _, [2, 1, 0], [1, 1, 0], 1, 1, rfl, Same.refl _, ints_at e7, ints_at e8, tD, tE, by decide, by decide, by decide, by decide, by decide, by decide, fun H9 s9 => ?_⟩
  exact q H9
end
theorem kb_mk_are_alike_ring_tail_other_tree {K : PySem.W.Frag} {f : Addr} {fd : FuncData} (F : Fun K "are_alike" "are_alike" s_are_alike f fd) : KBindsE K fd ["tree", "other", "tail", "ring"] ["ring", "tail", "other", "tree"] pk_are_alike_ring_tail_other_tree pk_are_alike_ring_tail_other_tree := by
  obtain ⟨oc, od, kV, doc, pm, an, cdv, ct, osl, rfl, lk, hcd⟩ := F.ex
  refine ⟨fun s ws _ hl => ?_, fun {zs ws} r => ?_⟩
  · match ws, hl with
    | [u0, u1, u2, u3], _ => exact .of_eq rfl
  ·
    cases r with
    | nil => exact .nil
    | cons q0 r =>
      cases r with
      | nil => exact .nil
      | cons q1 r =>
        cases r with
        | nil => exact .nil
        | cons q2 r =>
          cases r with
          | nil => exact .nil
          | cons q3 r =>
            cases r with
            | nil => exact (.cons q3 (.cons q2 (.cons q1 (.cons q0 .nil))))
            | cons _ _ => exact .nil
theorem kb_mk_parting_leaf_ring_tail_other_tree {K : PySem.W.Frag} {f : Addr} {fd : FuncData} (F : Fun K "parting_leaf" "parting_leaf" s_parting_leaf f fd) : KBindsE K fd ["tree", "other", "tail", "ring"] ["ring", "tail", "other", "tree"] pk_parting_leaf_ring_tail_other_tree pk_parting_leaf_ring_tail_other_tree := by
  obtain ⟨oc, od, kV, doc, pm, an, cdv, ct, osl, rfl, lk, hcd⟩ := F.ex
  refine ⟨fun s ws _ hl => ?_, fun {zs ws} r => ?_⟩
  · match ws, hl with
    | [u0, u1, u2, u3], _ => exact .of_eq rfl
  ·
    cases r with
    | nil => exact .nil
    | cons q0 r =>
      cases r with
      | nil => exact .nil
      | cons q1 r =>
        cases r with
        | nil => exact .nil
        | cons q2 r =>
          cases r with
          | nil => exact .nil
          | cons q3 r =>
            cases r with
            | nil => exact (.cons q3 (.cons q2 (.cons q1 (.cons q0 .nil))))
            | cons _ _ => exact .nil
/-! ### what the top has left -/
theorem all_mk {l : PySem.W.OpenLaw} {w : World} {K : PySem.W.Frag} {h : Heap} {mg : Str → Option Value} {fa f1 f2 f3 f4 f5 f6 f7 f8 f9 f10 f11 f12 f13 f14 f15 f16 f17 f18 f19 f20 f21 : Addr} (X : K.In h) (G : h.Ns mainGlobals mg) (hfa : mg "law" = some (.ref fa))
    {od1 an1 od2 an2 od3 an3 od4 an4 od5 an5 od6 an6 od7 an7 od8 an8 od9 an9 od10 an10 od11 an11 od12 an12 od13 an13 od14 an14 od15 an15 od16 an16 od17 an17 od18 an18 od19 an19 od20 an20 od21 an21 : Option Addr} {sl1 sl2 sl3 sl4 sl5 sl6 sl7 sl8 sl9 sl10 sl11 sl12 sl13 sl14 sl15 sl16 sl17 sl18 sl19 sl20 sl21 : Array (Option Value)} {oc1 kV1 dc1 pm1 cd1 ct1 oc2 kV2 dc2 pm2 cd2 ct2 oc3 kV3 dc3 pm3 cd3 ct3 oc4 kV4 dc4 pm4 cd4 ct4 oc5 kV5 dc5 pm5 cd5 ct5 oc6 kV6 dc6 pm6 cd6 ct6 oc7 kV7 dc7 pm7 cd7 ct7 oc8 kV8 dc8 pm8 cd8 ct8 oc9 kV9 dc9 pm9 cd9 ct9 oc10 kV10 dc10 pm10 cd10 ct10 oc11 kV11 dc11 pm11 cd11 ct11 oc12 kV12 dc12 pm12 cd12 ct12 oc13 kV13 dc13 pm13 cd13 ct13 oc14 kV14 dc14 pm14 cd14 ct14 oc15 kV15 dc15 pm15 cd15 ct15 oc16 kV16 dc16 pm16 cd16 ct16 oc17 kV17 dc17 pm17 cd17 ct17 oc18 kV18 dc18 pm18 cd18 ct18 oc19 kV19 dc19 pm19 cd19 ct19 oc20 kV20 dc20 pm20 cd20 ct20 oc21 kV21 dc21 pm21 cd21 ct21 : Value} {tk_MOST_LEAVES tk_MOST_RING tk_MOST_TAIL : Tok}
    (a1 : PySem.W.nsIn K mainGlobals "is_whole" = some (some (.ref f1))) (l1 : K.lookup f1 = some ⟨oc1, od1, .func (PySem.W.fnOf "is_whole" "is_whole" (defArgs s_is_whole) (defBody s_is_whole) (defScope s_is_whole) .none kV1 dc1 pm1 an1 cd1 ct1), sl1⟩) (c1 : PySem.W.codeIn K cd1 "is_whole" = true) (k1 : PySem.W.keepIn K (.ref f1) = true)
    (a2 : PySem.W.nsIn K mainGlobals "is_whole_within" = some (some (.ref f2))) (l2 : K.lookup f2 = some ⟨oc2, od2, .func (PySem.W.fnOf "is_whole_within" "is_whole_within" (defArgs s_is_whole_within) (defBody s_is_whole_within) (defScope s_is_whole_within) .none kV2 dc2 pm2 an2 cd2 ct2), sl2⟩) (c2 : PySem.W.codeIn K cd2 "is_whole_within" = true) (k2 : PySem.W.keepIn K (.ref f2) = true)
    (a3 : PySem.W.nsIn K mainGlobals "check_tail" = some (some (.ref f3))) (l3 : K.lookup f3 = some ⟨oc3, od3, .func (PySem.W.fnOf "check_tail" "check_tail" (defArgs s_check_tail) (defBody s_check_tail) (defScope s_check_tail) .none kV3 dc3 pm3 an3 cd3 ct3), sl3⟩) (c3 : PySem.W.codeIn K cd3 "check_tail" = true) (k3 : PySem.W.keepIn K (.ref f3) = true)
    (a4 : PySem.W.nsIn K mainGlobals "check_ring" = some (some (.ref f4))) (l4 : K.lookup f4 = some ⟨oc4, od4, .func (PySem.W.fnOf "check_ring" "check_ring" (defArgs s_check_ring) (defBody s_check_ring) (defScope s_check_ring) .none kV4 dc4 pm4 an4 cd4 ct4), sl4⟩) (c4 : PySem.W.codeIn K cd4 "check_ring" = true) (k4 : PySem.W.keepIn K (.ref f4) = true)
    (a5 : PySem.W.nsIn K mainGlobals "check_tree" = some (some (.ref f5))) (l5 : K.lookup f5 = some ⟨oc5, od5, .func (PySem.W.fnOf "check_tree" "check_tree" (defArgs s_check_tree) (defBody s_check_tree) (defScope s_check_tree) .none kV5 dc5 pm5 an5 cd5 ct5), sl5⟩) (c5 : PySem.W.codeIn K cd5 "check_tree" = true) (k5 : PySem.W.keepIn K (.ref f5) = true)
    (a6 : PySem.W.nsIn K mainGlobals "check_two_trees" = some (some (.ref f6))) (l6 : K.lookup f6 = some ⟨oc6, od6, .func (PySem.W.fnOf "check_two_trees" "check_two_trees" (defArgs s_check_two_trees) (defBody s_check_two_trees) (defScope s_check_two_trees) .none kV6 dc6 pm6 an6 cd6 ct6), sl6⟩) (c6 : PySem.W.codeIn K cd6 "check_two_trees" = true) (k6 : PySem.W.keepIn K (.ref f6) = true)
    (a7 : PySem.W.nsIn K mainGlobals "_mark_of" = some (some (.ref f7))) (l7 : K.lookup f7 = some ⟨oc7, od7, .func (PySem.W.fnOf "_mark_of" "_mark_of" (defArgs s_mark_of) (defBody s_mark_of) (defScope s_mark_of) .none kV7 dc7 pm7 an7 cd7 ct7), sl7⟩) (c7 : PySem.W.codeIn K cd7 "_mark_of" = true) (k7 : PySem.W.keepIn K (.ref f7) = true)
    (a8 : PySem.W.nsIn K mainGlobals "marks_of" = some (some (.ref f8))) (l8 : K.lookup f8 = some ⟨oc8, od8, .func (PySem.W.fnOf "marks_of" "marks_of" (defArgs s_marks_of) (defBody s_marks_of) (defScope s_marks_of) .none kV8 dc8 pm8 an8 cd8 ct8), sl8⟩) (c8 : PySem.W.codeIn K cd8 "marks_of" = true) (k8 : PySem.W.keepIn K (.ref f8) = true)
    (a9 : PySem.W.nsIn K mainGlobals "parting_leaf" = some (some (.ref f9))) (l9 : K.lookup f9 = some ⟨oc9, od9, .func (PySem.W.fnOf "parting_leaf" "parting_leaf" (defArgs s_parting_leaf) (defBody s_parting_leaf) (defScope s_parting_leaf) .none kV9 dc9 pm9 an9 cd9 ct9), sl9⟩) (c9 : PySem.W.codeIn K cd9 "parting_leaf" = true) (k9 : PySem.W.keepIn K (.ref f9) = true)
    (a10 : PySem.W.nsIn K mainGlobals "are_alike" = some (some (.ref f10))) (l10 : K.lookup f10 = some ⟨oc10, od10, .func (PySem.W.fnOf "are_alike" "are_alike" (defArgs s_are_alike) (defBody s_are_alike) (defScope s_are_alike) .none kV10 dc10 pm10 an10 cd10 ct10), sl10⟩) (c10 : PySem.W.codeIn K cd10 "are_alike" = true) (k10 : PySem.W.keepIn K (.ref f10) = true)
    (a11 : PySem.W.nsIn K mainGlobals "_law_halves" = some (some (.ref f11))) (l11 : K.lookup f11 = some ⟨oc11, od11, .func (PySem.W.fnOf "_law_halves" "_law_halves" (defArgs s_l_halves) (defBody s_l_halves) (defScope s_l_halves) .none kV11 dc11 pm11 an11 cd11 ct11), sl11⟩) (c11 : PySem.W.codeIn K cd11 "_law_halves" = true) (k11 : PySem.W.keepIn K (.ref f11) = true)
    (a12 : PySem.W.nsIn K mainGlobals "_law_after" = some (some (.ref f12))) (l12 : K.lookup f12 = some ⟨oc12, od12, .func (PySem.W.fnOf "_law_after" "_law_after" (defArgs s_l_after) (defBody s_l_after) (defScope s_l_after) .none kV12 dc12 pm12 an12 cd12 ct12), sl12⟩) (c12 : PySem.W.codeIn K cd12 "_law_after" = true) (k12 : PySem.W.keepIn K (.ref f12) = true)
    (a13 : PySem.W.nsIn K mainGlobals "_law_folded" = some (some (.ref f13))) (l13 : K.lookup f13 = some ⟨oc13, od13, .func (PySem.W.fnOf "_law_folded" "_law_folded" (defArgs s_l_folded) (defBody s_l_folded) (defScope s_l_folded) .none kV13 dc13 pm13 an13 cd13 ct13), sl13⟩) (c13 : PySem.W.codeIn K cd13 "_law_folded" = true) (k13 : PySem.W.keepIn K (.ref f13) = true)
    (a14 : PySem.W.nsIn K mainGlobals "_law_is_tree" = some (some (.ref f14))) (l14 : K.lookup f14 = some ⟨oc14, od14, .func (PySem.W.fnOf "_law_is_tree" "_law_is_tree" (defArgs s_l_is_tree) (defBody s_l_is_tree) (defScope s_l_is_tree) .none kV14 dc14 pm14 an14 cd14 ct14), sl14⟩) (c14 : PySem.W.codeIn K cd14 "_law_is_tree" = true) (k14 : PySem.W.keepIn K (.ref f14) = true)
    (a15 : PySem.W.nsIn K mainGlobals "_law_draws" = some (some (.ref f15))) (l15 : K.lookup f15 = some ⟨oc15, od15, .func (PySem.W.fnOf "_law_draws" "_law_draws" (defArgs s_l_draws) (defBody s_l_draws) (defScope s_l_draws) .none kV15 dc15 pm15 an15 cd15 ct15), sl15⟩) (c15 : PySem.W.codeIn K cd15 "_law_draws" = true) (k15 : PySem.W.keepIn K (.ref f15) = true)
    (a16 : PySem.W.nsIn K mainGlobals "_law_next" = some (some (.ref f16))) (l16 : K.lookup f16 = some ⟨oc16, od16, .func (PySem.W.fnOf "_law_next" "_law_next" (defArgs s_l_next) (defBody s_l_next) (defScope s_l_next) .none kV16 dc16 pm16 an16 cd16 ct16), sl16⟩) (c16 : PySem.W.codeIn K cd16 "_law_next" = true) (k16 : PySem.W.keepIn K (.ref f16) = true)
    (a17 : PySem.W.nsIn K mainGlobals "_law_tree" = some (some (.ref f17))) (l17 : K.lookup f17 = some ⟨oc17, od17, .func (PySem.W.fnOf "_law_tree" "_law_tree" (defArgs s_l_tree) (defBody s_l_tree) (defScope s_l_tree) .none kV17 dc17 pm17 an17 cd17 ct17), sl17⟩) (c17 : PySem.W.codeIn K cd17 "_law_tree" = true) (k17 : PySem.W.keepIn K (.ref f17) = true)
    (a18 : PySem.W.nsIn K mainGlobals "_law_cycle" = some (some (.ref f18))) (l18 : K.lookup f18 = some ⟨oc18, od18, .func (PySem.W.fnOf "_law_cycle" "_law_cycle" (defArgs s_l_cycle) (defBody s_l_cycle) (defScope s_l_cycle) .none kV18 dc18 pm18 an18 cd18 ct18), sl18⟩) (c18 : PySem.W.codeIn K cd18 "_law_cycle" = true) (k18 : PySem.W.keepIn K (.ref f18) = true)
    (a19 : PySem.W.nsIn K mainGlobals "_law_other" = some (some (.ref f19))) (l19 : K.lookup f19 = some ⟨oc19, od19, .func (PySem.W.fnOf "_law_other" "_law_other" (defArgs s_l_other) (defBody s_l_other) (defScope s_l_other) .none kV19 dc19 pm19 an19 cd19 ct19), sl19⟩) (c19 : PySem.W.codeIn K cd19 "_law_other" = true) (k19 : PySem.W.keepIn K (.ref f19) = true)
    (a20 : PySem.W.nsIn K mainGlobals "_law_right" = some (some (.ref f20))) (l20 : K.lookup f20 = some ⟨oc20, od20, .func (PySem.W.fnOf "_law_right" "_law_right" (defArgs s_l_right) (defBody s_l_right) (defScope s_l_right) .none kV20 dc20 pm20 an20 cd20 ct20), sl20⟩) (c20 : PySem.W.codeIn K cd20 "_law_right" = true) (k20 : PySem.W.keepIn K (.ref f20) = true)
    (a21 : PySem.W.nsIn K mainGlobals "law" = some (some (.ref f21))) (l21 : K.lookup f21 = some ⟨oc21, od21, .func (PySem.W.fnOf "law" "law" (defArgs s_law) (defBody s_law) (defScope s_law) .none kV21 dc21 pm21 an21 cd21 ct21), sl21⟩) (c21 : PySem.W.codeIn K cd21 "law" = true) (k21 : PySem.W.keepIn K (.ref f21) = true)
    (z_bool : PySem.W.nsIn K mainGlobals "bool" = some none)
    (z_enumerate : PySem.W.nsIn K mainGlobals "enumerate" = some none)
    (z_int : PySem.W.nsIn K mainGlobals "int" = some none)
    (z_isinstance : PySem.W.nsIn K mainGlobals "isinstance" = some none)
    (z_len : PySem.W.nsIn K mainGlobals "len" = some none)
    (z_list : PySem.W.nsIn K mainGlobals "list" = some none)
    (z_max : PySem.W.nsIn K mainGlobals "max" = some none)
    (z_min : PySem.W.nsIn K mainGlobals "min" = some none)
    (z_range : PySem.W.nsIn K mainGlobals "range" = some none)
    (z_repr : PySem.W.nsIn K mainGlobals "repr" = some none)
    (z_MOST_LEAVES : PySem.W.nsIn K mainGlobals "MOST_LEAVES" = some (some (.int 40 tk_MOST_LEAVES)))
    (z_MOST_RING : PySem.W.nsIn K mainGlobals "MOST_RING" = some (some (.int 10000 tk_MOST_RING)))
    (z_MOST_TAIL : PySem.W.nsIn K mainGlobals "MOST_TAIL" = some (some (.int 40 tk_MOST_TAIL)))
    : ∃ fd : FuncData, (∀ (s : Shared) (v : Value), BindsTo s fd ⟨[v], []⟩ [("_law_script", v)]) ∧ ∀ base : Heap, K.In base → base.Ns mainGlobals mg → FnG l.prog w K mg base CX0 44 fa fd ["_law_script"] (sp_law K) := by
  have e := hfa.symm.trans (PySem.W.mg_of X G a21)
  cases e
  have T : Bt mg := ⟨PySem.W.mg_none_of X G z_bool, PySem.W.mg_none_of X G z_enumerate, PySem.W.mg_none_of X G z_int, PySem.W.mg_none_of X G z_isinstance, PySem.W.mg_none_of X G z_len, PySem.W.mg_none_of X G z_list, PySem.W.mg_none_of X G z_max, PySem.W.mg_none_of X G z_min, PySem.W.mg_none_of X G z_range, PySem.W.mg_none_of X G z_repr, ⟨_, PySem.W.mg_of X G z_MOST_LEAVES⟩, ⟨_, PySem.W.mg_of X G z_MOST_RING⟩, ⟨_, PySem.W.mg_of X G z_MOST_TAIL⟩⟩
  have F1 := fun_mk (st := s_is_whole) l1 c1 k1
  have b1 := F1.binds (ps := ["thing"]) fun _ _ _ _ _ _ us hl => match us, hl with | [_], _ => rfl
  have F2 := fun_mk (st := s_is_whole_within) l2 c2 k2
  have b2 := F2.binds (ps := ["thing", "least", "most"]) fun _ _ _ _ _ _ us hl => match us, hl with | [_, _, _], _ => rfl
  have F3 := fun_mk (st := s_check_tail) l3 c3 k3
  have b3 := F3.binds (ps := ["tail"]) fun _ _ _ _ _ _ us hl => match us, hl with | [_], _ => rfl
  have F4 := fun_mk (st := s_check_ring) l4 c4 k4
  have b4 := F4.binds (ps := ["ring"]) fun _ _ _ _ _ _ us hl => match us, hl with | [_], _ => rfl
  have F5 := fun_mk (st := s_check_tree) l5 c5 k5
  have b5 := F5.binds (ps := ["tree"]) fun _ _ _ _ _ _ us hl => match us, hl with | [_], _ => rfl
  have F6 := fun_mk (st := s_check_two_trees) l6 c6 k6
  have b6 := F6.binds (ps := ["tree", "other"]) fun _ _ _ _ _ _ us hl => match us, hl with | [_, _], _ => rfl
  have F7 := fun_mk (st := s_mark_of) l7 c7 k7
  have b7 := F7.binds (ps := ["depth", "tail", "ring"]) fun _ _ _ _ _ _ us hl => match us, hl with | [_, _, _], _ => rfl
  have F8 := fun_mk (st := s_marks_of) l8 c8 k8
  have b8 := F8.binds (ps := ["tree", "tail", "ring"]) fun _ _ _ _ _ _ us hl => match us, hl with | [_, _, _], _ => rfl
  have F9 := fun_mk (st := s_parting_leaf) l9 c9 k9
  have b9 := F9.binds (ps := ["tree", "other", "tail", "ring"]) fun _ _ _ _ _ _ us hl => match us, hl with | [_, _, _, _], _ => rfl
  have F10 := fun_mk (st := s_are_alike) l10 c10 k10
  have b10 := F10.binds (ps := ["tree", "other", "tail", "ring"]) fun _ _ _ _ _ _ us hl => match us, hl with | [_, _, _, _], _ => rfl
  have F11 := fun_mk (st := s_l_halves) l11 c11 k11
  have b11 := F11.binds (ps := ["_law_a_tree"]) fun _ _ _ _ _ _ us hl => match us, hl with | [_], _ => rfl
  have F12 := fun_mk (st := s_l_after) l12 c12 k12
  have b12 := F12.binds (ps := ["_law_one", "_law_a_tail", "_law_a_ring"]) fun _ _ _ _ _ _ us hl => match us, hl with | [_, _, _], _ => rfl
  have F13 := fun_mk (st := s_l_folded) l13 c13 k13
  have b13 := F13.binds (ps := ["_law_a_tree", "_law_row", "_law_a_tail", "_law_a_ring"]) fun _ _ _ _ _ _ us hl => match us, hl with | [_, _, _, _], _ => rfl
  have F14 := fun_mk (st := s_l_is_tree) l14 c14 k14
  have b14 := F14.binds (ps := ["_law_row"]) fun _ _ _ _ _ _ us hl => match us, hl with | [_], _ => rfl
  have F15 := fun_mk (st := s_l_draws) l15 c15 k15
  have b15 := F15.binds (ps := ["_law_cell"]) fun _ _ _ _ _ _ us hl => match us, hl with | [_], _ => rfl
  have F16 := fun_mk (st := s_l_next) l16 c16 k16
  have b16 := F16.binds (ps := ["_law_draws_here"]) fun _ _ _ _ _ _ us hl => match us, hl with | [_], _ => rfl
  have F17 := fun_mk (st := s_l_tree) l17 c17 k17
  have b17 := F17.binds (ps := ["_law_draws_here", "_law_many"]) fun _ _ _ _ _ _ us hl => match us, hl with | [_, _], _ => rfl
  have F18 := fun_mk (st := s_l_cycle) l18 c18 k18
  have b18 := F18.binds (ps := ["_law_draws_here"]) fun _ _ _ _ _ _ us hl => match us, hl with | [_], _ => rfl
  have F19 := fun_mk (st := s_l_other) l19 c19 k19
  have b19 := F19.binds (ps := ["_law_draws_here", "_law_a_tree", "_law_a_ring"]) fun _ _ _ _ _ _ us hl => match us, hl with | [_, _, _], _ => rfl
  have F20 := fun_mk (st := s_l_right) l20 c20 k20
  have b20 := F20.binds (ps := ["_law_draws_here", "_law_a_tail", "_law_a_ring", "_law_many"]) fun _ _ _ _ _ _ us hl => match us, hl with | [_, _, _, _], _ => rfl
  have F21 := fun_mk (st := s_law) l21 c21 k21
  have b21 := F21.binds (ps := ["_law_script"]) fun _ _ _ _ _ _ us hl => match us, hl with | [_], _ => rfl
  refine ⟨PySem.W.fnOf "law" "law" (defArgs s_law) (defBody s_law) (defScope s_law) .none kV21 dc21 pm21 an21 cd21 ct21, fun s v => .of_eq rfl, fun base _ _ => ?_⟩
  let D1 : Callee l.prog w K mg base CX0 1 "is_whole" ["thing"] (sp_is_whole K) := ⟨f1, _, ok_is_whole F1 T, PySem.W.mg_of X G a1, k1, b1⟩
  let D2 : Callee l.prog w K mg base CX0 2 "is_whole_within" ["thing", "least", "most"] (sp_is_whole_within K) := ⟨f2, _, ok_is_whole_within F2 T D1, PySem.W.mg_of X G a2, k2, b2⟩
  let D3 : Callee l.prog w K mg base CX0 3 "check_tail" ["tail"] (sp_check_tail K) := ⟨f3, _, ok_check_tail F3 T D2, PySem.W.mg_of X G a3, k3, b3⟩
  let D4 : Callee l.prog w K mg base CX0 3 "check_ring" ["ring"] (sp_check_ring K) := ⟨f4, _, ok_check_ring F4 T D2, PySem.W.mg_of X G a4, k4, b4⟩
  let D5 : Callee l.prog w K mg base CX0 2 "check_tree" ["tree"] (sp_check_tree K) := ⟨f5, _, ok_check_tree F5 T D1, PySem.W.mg_of X G a5, k5, b5⟩
  let D6 : Callee l.prog w K mg base CX0 3 "check_two_trees" ["tree", "other"] (sp_check_two_trees K) := ⟨f6, _, ok_check_two_trees F6 T D5, PySem.W.mg_of X G a6, k6, b6⟩
  let D7 : Callee l.prog w K mg base CX0 1 "_mark_of" ["depth", "tail", "ring"] (sp_mark_of K) := ⟨f7, _, ok_mark_of F7 T, PySem.W.mg_of X G a7, k7, b7⟩
  let D8 : Callee l.prog w K mg base CX0 4 "marks_of" ["tree", "tail", "ring"] (sp_marks_of K) := ⟨f8, _, ok_marks_of F8 T D3 D4 D5 D7, PySem.W.mg_of X G a8, k8, b8⟩
  let D9 : Callee l.prog w K mg base CX0 5 "parting_leaf" ["tree", "other", "tail", "ring"] (sp_parting_leaf K) := ⟨f9, _, ok_parting_leaf F9 T D6 D8, PySem.W.mg_of X G a9, k9, b9⟩
  let D10 : Callee l.prog w K mg base CX0 6 "are_alike" ["tree", "other", "tail", "ring"] (sp_are_alike K) := ⟨f10, _, ok_are_alike F10 T D9, PySem.W.mg_of X G a10, k10, b10⟩
  let D11 : Callee l.prog w K mg base CX0 1 "_law_halves" ["_law_a_tree"] (sp_l_halves K) := ⟨f11, _, ok_l_halves F11 T, PySem.W.mg_of X G a11, k11, b11⟩
  let D12 : Callee l.prog w K mg base CX0 1 "_law_after" ["_law_one", "_law_a_tail", "_law_a_ring"] (sp_l_after K) := ⟨f12, _, ok_l_after F12 T, PySem.W.mg_of X G a12, k12, b12⟩
  let D13 : Callee l.prog w K mg base CX0 42 "_law_folded" ["_law_a_tree", "_law_row", "_law_a_tail", "_law_a_ring"] (sp_l_folded K 41) := ⟨f13, _, rec_l_folded F13 T D11 D12 (PySem.W.mg_of X G a13) b13 41, PySem.W.mg_of X G a13, k13, b13⟩
  let D14 : Callee l.prog w K mg base CX0 1 "_law_is_tree" ["_law_row"] (sp_l_is_tree K) := ⟨f14, _, ok_l_is_tree F14 T, PySem.W.mg_of X G a14, k14, b14⟩
  let D15 : Callee l.prog w K mg base CX0 1 "_law_draws" ["_law_cell"] (sp_l_draws K) := ⟨f15, _, ok_l_draws F15 T, PySem.W.mg_of X G a15, k15, b15⟩
  let D16 : Callee l.prog w K mg base CX0 1 "_law_next" ["_law_draws_here"] (sp_l_next K) := ⟨f16, _, ok_l_next F16 T, PySem.W.mg_of X G a16, k16, b16⟩
  let D17 : Callee l.prog w K mg base CX0 2 "_law_tree" ["_law_draws_here", "_law_many"] (sp_l_tree K) := ⟨f17, _, ok_l_tree F17 T D16, PySem.W.mg_of X G a17, k17, b17⟩
  let D18 : Callee l.prog w K mg base CX0 2 "_law_cycle" ["_law_draws_here"] (sp_l_cycle K) := ⟨f18, _, ok_l_cycle F18 T D16, PySem.W.mg_of X G a18, k18, b18⟩
  let D19 : Callee l.prog w K mg base CX0 3 "_law_other" ["_law_draws_here", "_law_a_tree", "_law_a_ring"] (sp_l_other K) := ⟨f19, _, ok_l_other F19 T D14 D16 D17, PySem.W.mg_of X G a19, k19, b19⟩
  have kb_are_alike_ring_tail_other_tree20 : KBindsE K D10.fd ["tree", "other", "tail", "ring"] ["ring", "tail", "other", "tree"] pk_are_alike_ring_tail_other_tree pk_are_alike_ring_tail_other_tree := kb_mk_are_alike_ring_tail_other_tree F10
  have kb_parting_leaf_ring_tail_other_tree20 : KBindsE K D9.fd ["tree", "other", "tail", "ring"] ["ring", "tail", "other", "tree"] pk_parting_leaf_ring_tail_other_tree pk_parting_leaf_ring_tail_other_tree := kb_mk_parting_leaf_ring_tail_other_tree F9
  let D20 : Callee l.prog w K mg base CX0 43 "_law_right" ["_law_draws_here", "_law_a_tail", "_law_a_ring", "_law_many"] (sp_l_right K) := ⟨f20, _, ok_l_right F20 T D9 D10 D13 D17 D19 kb_are_alike_ring_tail_other_tree20 kb_parting_leaf_ring_tail_other_tree20, PySem.W.mg_of X G a20, k20, b20⟩
  exact ok_law F21 T D9 D10 D15 D16 D18 D20
end Cf
open PySem PySem.W PyProof.Rows
set_option maxRecDepth 100000 in
set_option maxHeartbeats 0 in
theorem PySem.Challenge.cw_cutfolds_k06_whole_trees_that_agree_holds : PySem.Challenge.rw_cutfolds_k06_whole_trees_that_agree.Holds := by
  w_on; o_law; k_head; (case hw => w_witness2)
  k_fill
  refine Cf.walkG (l := PySem.Challenge.rw_cutfolds_k06_whole_trees_that_agree) (n := 63) (lev := 44) (x := "_law_script") (CX := fun _ => L2.CX0) (sp := fun w => Cf.sp_law _) rfl (by decide) rfl ⟨rfl, by decide, by decide⟩ (fun w h Y => PySem.W.kIn_of Y) ?F (fun _ _ a ns hl _ hS => ⟨a, ns, rfl, hS, hl, fun _ => rfl⟩) (fun _ _ _ _ _ h => h)
  case F =>
    intro w mg fa h KX G hmg
    refine' Cf.all_mk KX G hmg ?a1 ?l1 ?c1 ?k1 ?a2 ?l2 ?c2 ?k2 ?a3 ?l3 ?c3 ?k3 ?a4 ?l4 ?c4 ?k4 ?a5 ?l5 ?c5 ?k5 ?a6 ?l6 ?c6 ?k6 ?a7 ?l7 ?c7 ?k7 ?a8 ?l8 ?c8 ?k8 ?a9 ?l9 ?c9 ?k9 ?a10 ?l10 ?c10 ?k10 ?a11 ?l11 ?c11 ?k11 ?a12 ?l12 ?c12 ?k12 ?a13 ?l13 ?c13 ?k13 ?a14 ?l14 ?c14 ?k14 ?a15 ?l15 ?c15 ?k15 ?a16 ?l16 ?c16 ?k16 ?a17 ?l17 ?c17 ?k17 ?a18 ?l18 ?c18 ?k18 ?a19 ?l19 ?c19 ?k19 ?a20 ?l20 ?c20 ?k20 ?a21 ?l21 ?c21 ?k21 ?z_bool ?z_enumerate ?z_int ?z_isinstance ?z_len ?z_list ?z_max ?z_min ?z_range ?z_repr ?z_MOST_LEAVES ?z_MOST_RING ?z_MOST_TAIL
    (case a1 => k_is); (case l1 => k_is); (case c1 => k_is); (case k1 => k_is)
    (case a2 => k_is); (case l2 => k_is); (case c2 => k_is); (case k2 => k_is)
    (case a3 => k_is); (case l3 => k_is); (case c3 => k_is); (case k3 => k_is)
    (case a4 => k_is); (case l4 => k_is); (case c4 => k_is); (case k4 => k_is)
    (case a5 => k_is); (case l5 => k_is); (case c5 => k_is); (case k5 => k_is)
    (case a6 => k_is); (case l6 => k_is); (case c6 => k_is); (case k6 => k_is)
    (case a7 => k_is); (case l7 => k_is); (case c7 => k_is); (case k7 => k_is)
    (case a8 => k_is); (case l8 => k_is); (case c8 => k_is); (case k8 => k_is)
    (case a9 => k_is); (case l9 => k_is); (case c9 => k_is); (case k9 => k_is)
    (case a10 => k_is); (case l10 => k_is); (case c10 => k_is); (case k10 => k_is)
    (case a11 => k_is); (case l11 => k_is); (case c11 => k_is); (case k11 => k_is)
    (case a12 => k_is); (case l12 => k_is); (case c12 => k_is); (case k12 => k_is)
    (case a13 => k_is); (case l13 => k_is); (case c13 => k_is); (case k13 => k_is)
    (case a14 => k_is); (case l14 => k_is); (case c14 => k_is); (case k14 => k_is)
    (case a15 => k_is); (case l15 => k_is); (case c15 => k_is); (case k15 => k_is)
    (case a16 => k_is); (case l16 => k_is); (case c16 => k_is); (case k16 => k_is)
    (case a17 => k_is); (case l17 => k_is); (case c17 => k_is); (case k17 => k_is)
    (case a18 => k_is); (case l18 => k_is); (case c18 => k_is); (case k18 => k_is)
    (case a19 => k_is); (case l19 => k_is); (case c19 => k_is); (case k19 => k_is)
    (case a20 => k_is); (case l20 => k_is); (case c20 => k_is); (case k20 => k_is)
    (case a21 => k_is); (case l21 => k_is); (case c21 => k_is); (case k21 => k_is)
    (case z_bool => k_is); (case z_enumerate => k_is); (case z_int => k_is); (case z_isinstance => k_is); (case z_len => k_is); (case z_list => k_is); (case z_max => k_is); (case z_min => k_is); (case z_range => k_is); (case z_repr => k_is); (case z_MOST_LEAVES => k_is); (case z_MOST_RING => k_is); (case z_MOST_TAIL => k_is)
#print axioms PySem.Challenge.cw_cutfolds_k06_whole_trees_that_agree_holds
