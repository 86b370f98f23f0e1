import PyProof.Rows.All
import Wide.All
import OpenK.AllK
import Wide.FinOn
import HandS.ForMost
import HandS.Walk
import HandS.IsInst
import HandS.Conv
import PySem.Challenge.RW_cutfolds_k05_marks
set_option Elab.async false
set_option linter.all false
set_option maxRecDepth 100000
set_option maxHeartbeats 8000000
/-! A def's promise where no repr of a list runs around the call (so that repr itself may be asked). -/
namespace Cf
open PySem PySem.Spec PyProof.Rows L2

/-- no list, tuple or dict is being shown around -/
def Calm (A : Around) : Prop := A.guards = some []

structure FnG (P : Program) (w : World) (K : PySem.W.Frag) (mg : Str → Option Value) (base : Heap) (CX : CXT) (lev : Nat) (f : Addr) (fd : FuncData) (ps : List Str) (sp : Sp) : Prop where
  len : ∀ vs H Q E, sp vs H Q E → vs.length = ps.length
  go : ∀ (A : Around) (out : List Env) (s : Shared) (H : Hp) (args : Args) (us : List Value) (vs : List V) (Q : VK) (E : XK), Calm A → Room lev A →
    Env0 P w K mg base A out s H → BindsTo s fd args (ps.zip us) → Vals vs us → sp vs H Q E → codeAny (model P w) A (.call (.ref f) args) (CR CX out P w H s Q E) s

section
variable {P : Program} {w : World} {K : PySem.W.Frag} {mg : Str → Option Value} {base : Heap} {CX : CXT} {f : Addr} {fd : FuncData} {ps : List Str} {sp sp' : Sp} {j lev : Nat}
theorem FnG.of (F : FnOk P w K mg base CX lev f fd ps sp) : FnG P w K mg base CX lev f fd ps sp :=
  ⟨F.len, fun A out s H args us vs Q E _ r => F.run A out s H args us vs Q E r⟩
theorem FnG.up (F : FnG P w K mg base CX j f fd ps sp) (h : j ≤ lev) : FnG P w K mg base CX lev f fd ps sp :=
  ⟨F.len, fun A out s H args us vs Q E c r => F.go A out s H args us vs Q E c (r.mono h)⟩
theorem FnG.imp (F : FnG P w K mg base CX lev f fd ps sp) (h : ∀ vs H Q E, sp' vs H Q E → sp vs H Q E) : FnG P w K mg base CX lev f fd ps sp' :=
  ⟨fun vs H Q E q => F.len vs H Q E (h _ _ _ _ q), fun A out s H args us vs Q E c r e b v z => F.go A out s H args us vs Q E c r e b v (h _ _ _ _ z)⟩

theorem end_of {out : List Env} {H : Hp} {s : Shared} {Q : VK} {E : XK} {N : List Str} {qual : Str} {sc : Scope} {cdv : Value} {A : Around} {fl : Flow} {s2 : Shared}
    (h : SP (cxOf CX P w K mg base N qual sc f cdv A out s H E) [] { nx := fun _ H2 => Q .non H2, rt := Q } fl s2) :
    match (match fl with | .next => Flow.ret Value.none | z => z) with | .ret u => CE out P w H s Q u s2 | _ => False := by
  cases fl with
  | ret u =>
    obtain ⟨v, _, H2, J, rv, q⟩ := h
    exact ⟨v, H2, J.os, J.bare, J.base, J.hok, rv, q⟩
  | next =>
    obtain ⟨_, H2, J, q⟩ := h
    exact ⟨V.non, H2, J.os, J.bare, J.base, J.hok, rfl, q⟩
  | brk =>
    obtain ⟨_, _, _, q⟩ := h
    exact q
  | cont =>
    obtain ⟨_, _, _, q⟩ := h
    exact q

/-- a def by its body -/
theorem okG {x qual : Str} {st : Stmt} {N : List Str} (F : Fun K x qual st f fd) (S : FnScope N ps (defScope st)) (hl : ∀ vs H Q E, sp vs H Q E → vs.length = ps.length)
    (hb : ∀ (cdv : Value) (A : Around) (out : List Env) (s : Shared) (H : Hp) (vs : List V) (Q : VK) (E : XK), Calm A → Room lev (A.deeper (envOfC qual (defScope st) s.heap.objs.size f cdv)) → sp vs H Q E →
      ∃ t, PSs (cxOf CX P w K mg base N qual (defScope st) f cdv A out s H E) (defBody st) t ∧ t { nx := fun _ H2 => Q .non H2, rt := Q } (start N vs) H) : FnG P w K mg base CX (lev + 1) f fd ps sp := by
  obtain ⟨oc, od, kV, doc, pm, an, cdv, ct, osl, rfl, lk, hcd⟩ := F.ex
  refine ⟨hl, fun A out s H args us vs Q E hc hr e0 hbind rv hs => ?_⟩
  have hlen := hl _ _ _ _ hs
  have inK : K.In s.heap := e0.mod.kin.keeps fun b o e => (e0.bs b o e).1
  have nolim : s.heap.NoLimit := e0.mod.nolimit.keeps fun b o e => (e0.bs b o e).1
  have kinds : ∀ y ∈ ps.zip us, (defScope st).names.lookup y.1 = some .local ∨ ((defScope st).names.lookup y.1 = some .cell ∧ ((cellsFrom (s.heap.objs.size + 1) (defScope st).names []).lookup y.1).isSome = true) := by
    rintro ⟨n, v⟩ hy
    rcases S.par n (List.of_mem_zip hy).1 with q | q
    · exact .inl q
    · exact .inr ⟨q, PySem.W.cellsFrom_some _ _ _ (.inl q)⟩
  refine codeAny_call_function hr.depth (inK _ _ lk) rfl S.co S.gen rfl (PySem.W.codeRec_of inK hcd) (hbind _ _ _ _ ?_)
  refine wpAny_newFunctionEnv_cells S.kind kinds fun env he s1 z => ?_
  subst he
  refine ⟨nolim.keeps z.toInCall.keep, codeAny_func ?_⟩
  obtain ⟨t, ht, hq⟩ := hb cdv A out s H vs Q E hc (hr.deeper _) hs
  refine wpAny_mono (ht.run [] s1 (start N vs) H _ (inv_start S hr.hd e0 hlen rv z) hq) (fun fl s2 h2 => ?_) fun e s2 h2 => h2
  have q := end_of h2
  cases fl with
  | ret u => exact q
  | next => exact q
  | brk => exact False.elim q
  | cont => exact False.elim q
/-- a def that lets nothing out -/
theorem okN {x qual : Str} {st : Stmt} {N : List Str} (F : Fun K x qual st f fd) (S : FnScope N ps (defScope st)) (hl : ∀ vs H Q E, sp vs H Q E → vs.length = ps.length)
    (hb : ∀ (cdv : Value) (A : Around) (out : List Env) (s : Shared) (H : Hp) (vs : List V) (Q : VK) (E : XK), Calm A → Room lev (A.deeper (envOfC qual (defScope st) s.heap.objs.size f cdv)) → sp vs H Q E →
      ∃ t, PSs (cxOf CX P w K mg base N qual (defScope st) f cdv A out s H E).nox (defBody st) t ∧ t { nx := fun _ H2 => Q .non H2, rt := Q } (start N vs) H) : FnG P w K mg base CX (lev + 1) f fd ps sp :=
  okG F S hl fun cdv A out s H vs Q E hc hr hs => by
    obtain ⟨t, h, q⟩ := hb cdv A out s H vs Q E hc hr hs
    exact ⟨t, h.nox, q⟩
end

section
variable {X : Cx} {CX : CXT} {lev : Nat} {f : Addr} {fd : FuncData} {ps ks : List Str} {sp : Sp} {E : XK} {x : Str} {p pos : Pos} {e : Expr} {es : List Expr} {kws : List Keyword} {te : TE} {t tk : TA}
  {g : List Value → List Value → List Value} {gV : List V → List V → List V}
theorem run_g {pins : List (Addr × Obj)} {σ : L2.St} {H : Hp} {s : Shared} {Q : VK} {args : Args} {us : List Value} {vs : List V} (F : FnG X.prog X.w X.K X.mg X.base CX lev f fd ps sp) (hc : Calm X.A) (hr : Room lev X.A)
    (hb : us.length = ps.length → BindsTo s fd args (ps.zip us)) (hx : Passes CX X E) (I : Inv X pins σ H s) (r : Vals vs us) (h : sp vs H Q E) :
    wpAny (model X.prog X.w) X.A (call (.ref f) args.pos args.kw) (EP X pins σ Q) X.xe s := by
  have hl : us.length = ps.length := by rw [← r.length]; exact F.len _ _ _ _ h
  refine wpAny_call (codeAny_mono (F.go X.A X.stack s H args us vs Q E hc hr I.env0 (hb hl) r h) fun z s2 hq => ?_)
  cases z with
  | error u => exact hx pins σ H s u s2 I hq
  | ok fl =>
    cases fl with
    | ret u => exact I.after hq
    | next => exact False.elim hq
    | brk => exact False.elim hq
    | cont => exact False.elim hq
end
section
variable {X : Cx} {CX : CXT} {lev : Nat} {f : Addr} {fd : FuncData} {ps ks : List Str} {sp : Sp} {E : XK} {x : Str} {p pos : Pos} {e : Expr} {es : List Expr} {kws : List Keyword} {te : TE} {t tk : TA}
  {g : List Value → List Value → List Value} {gV : List V → List V → List V}
/-- f(e, ..) -/
theorem pg_call (F : FnG X.prog X.w X.K X.mg X.base CX lev f fd ps sp) (hc : Calm X.A) (hr : Room lev X.A) (hg : Gl X x) (hm : X.mg x = some (.ref f)) (hk : PySem.W.keepIn X.K (.ref f) = true) (hb : Binds X.K fd ps []) (hx : Passes CX X E)
    (ha : PA X (e :: es) t) (hdb : (x == ("__debug__" : Str)) = false := by decide) (he : starEach (e :: es) X.env = (false, eval e X.env) :: starEach es X.env := by rfl) (hpl : (backTo pos (starEach es X.env)).any (·.1) = false := by rfl) :
    PE X (.Call (.Name x p) (e :: es) [] pos) (tCall sp [] E t) := by
  refine ⟨fun pins s σ H Q I h => wpAny_Call_Name_kw (ld_glob I hg hm ?_ hdb)⟩
  refine PySem.W.callWith_K (h₀ := X.base) I.ok.mod.kin hk (thn (ha.run pos pins s σ H _ I h) fun us s1 ⟨vs, H1, I1, r, q⟩ => ⟨I1.kIn, ?_⟩) he hpl
  have q1 : sp (vs ++ []) H1 Q E := q
  rw [List.append_nil] at q1
  exact run_g (args := ⟨us, []⟩) F hc hr (fun hl => by have z := hb s1 us I1.kIn (by rw [List.append_nil]; exact hl); rw [List.append_nil] at z; exact z) hx I1 r q1
/-- f() -/
theorem pg_call0 (F : FnG X.prog X.w X.K X.mg X.base CX lev f fd ps sp) (hc : Calm X.A) (hr : Room lev X.A) (hg : Gl X x) (hm : X.mg x = some (.ref f)) (hk : PySem.W.keepIn X.K (.ref f) = true) (hb : Binds X.K fd ps []) (hx : Passes CX X E)
    (hdb : (x == ("__debug__" : Str)) = false := by decide) : PE X (.Call (.Name x p) [] [] pos) (tCall sp [] E tNil) := by
  refine ⟨fun pins s σ H Q I h => wpAny_Call_Name_kw (ld_glob I hg hm ?_ hdb)⟩
  exact PySem.W.callWith_K0 I.kIn hk (run_g (args := ⟨[], []⟩) F hc hr (fun hl => hb s [] I.kIn hl) hx I .nil h)
/-- how keywords alone bind -/
structure KBindsE (K : PySem.W.Frag) (fd : FuncData) (ps ks : List Str) (g : List Value → List Value) (gV : List V → List V) : Prop where
  to : ∀ (s : Shared) (ws : List Value), K.In s.heap → (g ws).length = ps.length → BindsTo s fd ⟨[], ks.zip ws⟩ (ps.zip (g ws))
  rel : ∀ {zs : List V} {ws : List Value}, Vals zs ws → Vals (gV zs) (g ws)
def tCallE (sp : Sp) (gV : List V → List V) (E : XK) (tk : TA) : TE := fun σ H Q => tk σ H fun zs H1 => sp (gV zs) H1 Q E
/-- f(k = v, ..), keywords alone -/
theorem pg_callK {g : List Value → List Value} {gV : List V → List V} (F : FnG X.prog X.w X.K X.mg X.base CX lev f fd ps sp) (hc : Calm X.A) (hr : Room lev X.A) (hg : Gl X x) (hm : X.mg x = some (.ref f)) (hk : PySem.W.keepIn X.K (.ref f) = true) (hb : KBindsE X.K fd ps ks g gV) (hx : Passes CX X E)
    (hkw : PK X kws tk) (hall : (backToKw pos (keywordEach kws X.env)).all (·.1.isSome) = true := by rfl) (hks : (backToKw pos (keywordEach kws X.env)).filterMap (·.1) = ks := by rfl) (hdb : (x == ("__debug__" : Str)) = false := by decide)
    (hpl : ((backTo pos (starEach [] X.env)).any (·.1) || (backToKw pos (keywordEach kws X.env)).any (·.1.isNone)) = false := by rfl) :
    PE X (.Call (.Name x p) [] kws pos) (tCallE sp gV E tk) := by
  refine ⟨fun pins s σ H Q I h => wpAny_Call_Name_kw (ld_glob I hg hm ?_ hdb)⟩
  refine PySem.W.callWith_KW0 (h₀ := X.base) I.ok.mod.kin hk hall (thn (hkw.run pos pins s σ H _ I h) fun ws s2 ⟨zs, H2, I2, rz, q2⟩ => ⟨I2.kIn, ?_⟩) hpl
  rw [hks]
  exact run_g (args := ⟨[], ks.zip ws⟩) F hc hr (hb.to s2 ws I2.kIn) hx I2 (hb.rel rz) q2
end

/-! ### repr of data, of any depth -/
section
variable {X : Cx}
/-- what can be shown here: small ints, no dicts, a text within the line -/
def Shown (d : PyData) : Prop := d.showable = true ∧ d.hasDict = false ∧ d.depth ≤ 100 ∧ d.shown.length ≤ sizeLine
theorem repr_val {pins : List (Addr × Obj)} {σ : L2.St} {H : Hp} {s : Shared} {Q : VK} {v : V} {u : Value} {d : PyData} (hc : Calm X.A) (hu : X.A.units + 200 < cLine) (I : Inv X pins σ H s) (r : RelV v u) (hd : Dp X.K H v d) (hs : Shown d) (q : Q (.str d.shown) H) :
    wpAny (model X.prog X.w) X.A (call (.builtin "repr") [u]) (EP X pins σ Q) X.xe s := by
  obtain ⟨as, rd⟩ := Dp.reads I d v u hd r
  obtain ⟨h1, h2, h3, h4⟩ := hs
  have fin : ∀ (h' : Heap) (t : Tok) (tk : Nat), (∀ b o, s.heap.get? b = some o → h'.get? b = some o) → EP X pins σ Q (Value.str d.shown t) { s with heap := h', toks := tk } := fun h' t tk k => ⟨.str d.shown, H, I.kept k, ⟨_, rfl⟩, q⟩
  cases hd with
  | non =>
    cases r
    exact PySem.P.repr_of_none ⟨.str _, H, I.tok _, ⟨_, rfl⟩, (by rw [PyData.shown_none] at q; exact q)⟩
  | bl b =>
    cases r
    exact PySem.P.repr_of_bool ⟨.str _, H, I.tok _, ⟨_, rfl⟩, (by rw [PyData.shown_bool] at q; exact q)⟩
  | int i =>
    obtain ⟨t, rfl⟩ := r
    have hi : i.natAbs.log2 < 1920 := of_decide_eq_true (by unfold PyData.showable at h1; exact h1)
    exact PySem.P.repr_of_int hi ⟨.str _, H, I.tok _, ⟨_, rfl⟩, (by rw [PyData.shown_int] at q; exact q)⟩
  | str x =>
    obtain ⟨t, rfl⟩ := r
    refine PySem.P.repr_of_str ⟨.str _, H, I.tok _, ⟨_, rfl⟩, (by rw [PyData.shown_str] at q; exact q)⟩ (by rw [PyData.shown_str] at h4; exact h4)
  | lst h5 h6 =>
    cases r
    exact repr_of_reads' rd h1 (fun z => by rw [h2] at z; cases z) hc (by omega) (fun b o e => e) (fun h' t tk k => fin h' t tk k) h4
  | tup h5 h6 =>
    cases r
    exact repr_of_reads' rd h1 (fun z => by rw [h2] at z; cases z) hc (by omega) (fun b o e => e) (fun h' t tk k => fin h' t tk k) h4
def rRepr (K : PySem.W.Frag) : List V → Hp → VK → Prop := fun xs H Q => ∃ v d, xs = [v] ∧ Dp K H v d ∧ Shown d ∧ Q (.str d.shown) H
theorem call_repr (hc : Calm X.A) (hu : X.A.units + 200 < cLine) : CallR X (.builtin "repr") (rRepr X.K) := by
  intro pins s σ H xs us Q I r h
  obtain ⟨v, d, rfl, hd, hs, q⟩ := h
  cases r with
  | cons r1 r2 =>
    cases r2
    exact repr_val hc hu I r1 hd hs q
end

/-! ### a power of great ints -/
section
variable {X : Cx}
def CPowW (i j : Int) : Prop := 0 ≤ j ∧ (Builtin.Int.intBits i : Int) * j ≤ 2 ^ 27
theorem op_powW : OpR X (binaryOp .Pow) (rI CPowW fun i j => .int (i ^ j.toNat)) := opI fun _ _ _ _ _ _ _ hc q => pow_int hc.1 hc.2 q
end
/-! ### the law's own head -/
theorem entry {P : Program} {w : World} {K : PySem.W.Frag} {mg mb : Str → Option Value} {CX : CXT} {lev : Nat} {fa at1 : Addr} {fd : FuncData} {x : Str} {sp : Sp} {s1 : Shared} {us : List Value} {ns : List Int}
    (KX : K.In s1.heap) (hns : s1.heap.Ns mainGlobals mg) (hb : s1.heap.Ns builtinsNs mb) (hbb : ∀ y : Str, y ≠ "__name__" → mb y = bootBuiltins y) (hlim : s1.heap.NoLimit) (hgen : s1.gens = #[])
    (ha : s1.heap.get? at1 = some { cls := .type "list", data := .seq us.toArray }) (hi : IntsAre us ns) (hl : ns.length ≤ sizeLine) (hr : Room lev callerA)
    (F : ∀ base : Heap, K.In base → base.Ns mainGlobals mg → FnG P w K mg base CX lev fa fd [x] sp) (hbind : ∀ (s : Shared) (u : Value), BindsTo s fd ⟨[u], []⟩ [(x, u)])
    (hsp : ∀ H : Hp, Only H → SqL K H at1 (ns.map V.int) → sp [.ref at1] H (fun v _ => v = .bl true) fun _ _ _ => False) (hCX : ∀ H e s2, CX [] H s1 (fun _ _ _ => False) e s2 → False) :
    codeAny (model P w) callerA (.call (.ref fa) ⟨[.ref at1], []⟩) (fun r s2 => r = .ok (.ret (.bool true)) ∧ OldK s1.heap s2.heap ∧ s2.os = s1.os ∧ AllBare s2.gens) s1 := by
  have rv := vals_ints hi
  have lenV := hi.length
  have main : ∀ H : Hp, Only H → SqL K H at1 (ns.map V.int) → HOk P w H s1.heap → (∀ b, H b ≠ none → b = at1) → (H at1 ≠ none → K.lookup at1 = none) →
      codeAny (model P w) callerA (.call (.ref fa) ⟨[.ref at1], []⟩) (fun r s2 => r = .ok (.ret (.bool true)) ∧ OldK s1.heap s2.heap ∧ s2.os = s1.os ∧ AllBare s2.gens) s1 := by
    intro H hO hS hok only hK
    have dictOut : ∀ {b : Addr} {o : Obj} {es : Array DictEntry} {ep : Nat}, s1.heap.get? b = some o → o.data = .dict es ep → H b = none := by
      intro b o es ep e d
      cases z : H b with
      | none => rfl
      | some u =>
        have eb : b = at1 := only b (by rw [z]; exact fun q => nomatch q)
        rw [eb, ha] at e
        cases e
        exact nomatch d
    have nsBase : ∀ {b : Addr} {m : Str → Option Value}, s1.heap.Ns b m → (hidT s1.heap H).Ns b m := by
      rintro b m ⟨o, es, ep, e, d, r⟩
      exact ⟨o, es, ep, hidT_get e (dictOut e d), d, r⟩
    have kBase : K.In (hidT s1.heap H) := by
      intro b o e
      refine hidT_get (KX b o e) ?_
      cases z : H b with
      | none => rfl
      | some u =>
        have eb : b = at1 := only b (by rw [z]; exact fun q => nomatch q)
        rw [eb] at z e
        rw [hK (by rw [z]; exact fun q => nomatch q)] at e
        cases e
    have md : Mod K mg (hidT s1.heap H) := by
      obtain ⟨mc, h1, h2⟩ := hlim
      exact ⟨kBase, nsBase hns, ⟨mb, nsBase hb, hbb⟩, ⟨mc, nsBase h1, h2⟩⟩
    have e0 : Env0 P w K mg (hidT s1.heap H) callerA [] s1 H :=
      ⟨rfl, md, fun b o e => of_hidT e, Nat.le_of_eq (hidT_size _ _), trivial, fun b z => (List.not_mem_nil (show b ∈ ([] : List Addr) from z)).elim, hok, .of_eq hgen⟩
    refine codeAny_mono ((F _ kBase (nsBase hns)).go callerA [] s1 H ⟨[.ref at1], []⟩ [.ref at1] [.ref at1] _ _ rfl hr e0 (hbind s1 (.ref at1)) (.cons rfl .nil) (hsp H hO hS)) fun r s2 h => ?_
    cases r with
    | error e => exact (hCX H e s2 h).elim
    | ok fl =>
      cases fl with
      | ret u =>
        obtain ⟨v, H2, os, bare, un, hok2, r2, q⟩ := h
        have q2 : v = .bl true := q
        subst q2
        obtain rfl : u = Value.bool true := r2
        refine ⟨rfl, OldK.of_keep fun b o e => ?_, os, bare⟩
        cases z : H b with
        | none => exact un.keep b o e z (fun y => (List.not_mem_nil (show b ∈ ([] : List Addr) from y)).elim) (by simp)
        | some u =>
          rcases hO b with y | ⟨ob, xs, y⟩
          · rw [z] at y
            cases y
          · obtain ⟨e1, _⟩ := hok b _ y
            obtain ⟨e2, _⟩ := hok2 b _ (un.frzs b ob _ y)
            rw [e] at e1
            cases e1
            exact e2
      | next => exact False.elim h
      | brk => exact False.elim h
      | cont => exact False.elim h
  cases hk : K.lookup at1 with
  | some o =>
    have e := KX at1 o hk
    rw [ha] at e
    cases e
    refine main (fun _ => none) (fun _ => .inl rfl) (.inr ⟨_, us.toArray, _, hk, rfl, rfl, rfl, by rw [List.size_toArray, lenV]; exact hl, by simpa using rv⟩) (fun b u z => nomatch (show (none : Option HO) = some u from z)) (fun b z => absurd rfl z) fun z => absurd rfl z
  | none =>
    have yes : ∀ b, b = at1 → (if b = at1 then some (HO.frz { cls := .type "list", data := .seq us.toArray } (.lst (ns.map V.int))) else none) = some (HO.frz { cls := .type "list", data := .seq us.toArray } (.lst (ns.map V.int))) := fun b e => if_pos e
    refine main (fun b => if b = at1 then some (.frz { cls := .type "list", data := .seq us.toArray } (.lst (ns.map V.int))) else none) (fun b => ?_) (.inl (.inr ⟨_, yes at1 rfl⟩)) (fun b u z => ?_) (fun b z => ?_) fun _ => hk
    · by_cases eb : b = at1
      · exact .inr ⟨_, _, yes b eb⟩
      · exact .inl (if_neg eb)
    · by_cases eb : b = at1
      · have z2 := (yes b eb).symm.trans z
        cases z2
        rw [eb]
        exact ⟨ha, by rw [List.length_map]; exact hl, us, _, rv, ha⟩
      · have z2 := (if_neg eb).symm.trans z
        cases z2
    · by_cases eb : b = at1
      · exact eb
      · exact absurd (if_neg eb) z

/-- what k_head leaves, from the law's promise -/
theorem walkG {l : PySem.W.OpenLaw} {n lev : Nat} {q : Program} {loose : List Str} {XP : (Str → Option Value) → Heap → Prop} {YP : World → Heap → Prop} {d : DefRec} {K : Params → PySem.W.Frag} {CX : World → CXT} {sp : World → Sp} {x : Str}
    (hn : l.most = some n) (hn2 : n ≤ sizeLine) (hdf : d.params.defaults = []) (hr : Room lev callerA) (hY : ∀ (w : World) (h : Heap), YP w h → (K w.params).In h)
    (F : ∀ (w : World) (mg : Str → Option Value) (fa : Addr) (h : Heap), (K w.params).In h → h.Ns mainGlobals mg → mg d.name = some (.ref fa) →
      ∃ fd : FuncData, (∀ (s : Shared) (u : Value), BindsTo s fd ⟨[u], []⟩ [(x, u)]) ∧ ∀ base : Heap, (K w.params).In base → base.Ns mainGlobals mg → FnG l.prog w (K w.params) mg base (CX w) lev fa fd [x] (sp w))
    (hsp : ∀ (w : World) (H : Hp) (at1 : Addr) (ns : List Int), ns.length ≤ n → Only H → SqL (K w.params) H at1 (ns.map V.int) → sp w [.ref at1] H (fun v _ => v = .bl true) fun _ _ _ => False)
    (hCX : ∀ (w : World) (H : Hp) (s : Shared) (e : Value) (s2 : Shared), CX w [] H s (fun _ _ _ => False) e s2 → False) :
    PySem.W.WalkO q loose XP YP l.row.toRowW d [] (fun f vs => PySem.call f vs) := by
  refine Att.attach_call hn hdf fun w s0 s1 mg mb fa o pm cd doc at1 us ns G Y ho hd hcd hmg hobj hints hlen hg => ?_
  have KX := hY w _ Y
  obtain ⟨fd, hb, hF⟩ := F w mg fa _ KX G.T.g hmg
  exact entry KX G.T.g G.T.b G.T.builtins G.T.nolimit hg hobj hints (Nat.le_trans hlen hn2) hr hF hb (fun H hO hS => hsp w H at1 ns hlen hO hS) fun H e s2 => hCX w H s1 e s2

end Cf

/-! Data as a whole: what a value is worth at a heap, and what stays of it. -/
namespace Cf
open PySem PySem.Spec PyProof.Rows L2

mutual
inductive At (H : Hp) : V → PyData → Prop
  | non : At H .non .none
  | bl (b : Bool) : At H (.bl b) (.bool b)
  | int (i : Int) : At H (.int i) (.int i)
  | str (x : Str) : At H (.str x) (.str x)
  | lst {p : Addr} {xs : List V} {ds : List PyData} : H p = some (.lst xs) → AtL H xs ds → At H (.ref p) (.list ds)
  | tup {p : Addr} {xs : List V} {ds : List PyData} : H p = some (.tup xs) → AtL H xs ds → At H (.ref p) (.tuple ds)
inductive AtL (H : Hp) : List V → List PyData → Prop
  | nil : AtL H [] []
  | cons {v : V} {vs : List V} {d : PyData} {ds : List PyData} : At H v d → AtL H vs ds → AtL H (v :: vs) (d :: ds)
end

mutual
theorem At.mono {H H2 : Hp} (s : Same H H2) : ∀ (d : PyData) (v : V), At H v d → At H2 v d
  | .none, _, h => by cases h; exact .non
  | .bool b, _, h => by cases h; exact .bl b
  | .int i, _, h => by cases h; exact .int i
  | .str x, _, h => by cases h; exact .str x
  | .list ds, _, h => by
    cases h with
    | lst e a => exact .lst (s _ _ e) (AtL.mono s ds _ a)
  | .tuple ds, _, h => by
    cases h with
    | tup e a => exact .tup (s _ _ e) (AtL.mono s ds _ a)
  | .dict _, _, h => by cases h
theorem AtL.mono {H H2 : Hp} (s : Same H H2) : ∀ (ds : List PyData) (vs : List V), AtL H vs ds → AtL H2 vs ds
  | [], _, h => by cases h; exact .nil
  | d :: ds, _, h => by
    cases h with
    | cons a r => exact .cons (At.mono s d _ a) (AtL.mono s ds _ r)
end
theorem At.up {H H2 : Hp} {d : PyData} {v : V} (h : At H v d) (s : Same H H2) : At H2 v d := At.mono s d v h
theorem AtL.up {H H2 : Hp} {ds : List PyData} {vs : List V} (h : AtL H vs ds) (s : Same H H2) : AtL H2 vs ds := AtL.mono s ds vs h

mutual
theorem At.dp {K : PySem.W.Frag} {H : Hp} : ∀ (d : PyData) (v : V), At H v d → Dp K H v d
  | .none, _, h => by cases h; exact .non
  | .bool b, _, h => by cases h; exact .bl b
  | .int i, _, h => by cases h; exact .int i
  | .str x, _, h => by cases h; exact .str x
  | .list ds, _, h => by
    cases h with
    | lst e a => exact .lst (SqL.of e) (AtL.dp ds _ a)
  | .tuple ds, _, h => by
    cases h with
    | tup e a => exact .tup (SqT.of e) (AtL.dp ds _ a)
  | .dict _, _, h => by cases h
theorem AtL.dp {K : PySem.W.Frag} {H : Hp} : ∀ (ds : List PyData) (vs : List V), AtL H vs ds → DpAll K H vs ds
  | [], _, h => by cases h; exact .nil
  | d :: ds, _, h => by
    cases h with
    | cons a r => exact .cons (At.dp d _ a) (AtL.dp ds _ r)
end

section
variable {H H2 : Hp} {v : V} {p : Addr} {vs ws : List V} {d e : PyData} {ds es : List PyData} {i : Int} {b : Bool} {x : Str}
theorem At.int_eq (h : At H v (.int i)) : v = .int i := by cases h; rfl
theorem At.bl_eq (h : At H v (.bool b)) : v = .bl b := by cases h; rfl
theorem At.str_eq (h : At H v (.str x)) : v = .str x := by cases h; rfl
theorem At.non_eq (h : At H v .none) : v = .non := by cases h; rfl
theorem At.lst_ex (h : At H v (.list ds)) : ∃ p xs, v = .ref p ∧ H p = some (.lst xs) ∧ AtL H xs ds := by
  cases h with
  | lst e a => exact ⟨_, _, rfl, e, a⟩
theorem At.tup_ex (h : At H v (.tuple ds)) : ∃ p xs, v = .ref p ∧ H p = some (.tup xs) ∧ AtL H xs ds := by
  cases h with
  | tup e a => exact ⟨_, _, rfl, e, a⟩
theorem AtL.length : ∀ {vs : List V} {ds : List PyData}, AtL H vs ds → vs.length = ds.length
  | [], _, h => by cases h; rfl
  | v :: vs, _, h => by
    cases h with
    | cons a r => rw [List.length_cons, List.length_cons, AtL.length r]
theorem AtL.append : ∀ {vs ws : List V} {ds es : List PyData}, AtL H vs ds → AtL H ws es → AtL H (vs ++ ws) (ds ++ es)
  | [], _, _, _, h, k => by cases h; exact k
  | v :: vs, _, _, _, h, k => by
    cases h with
    | cons a r => exact .cons a (AtL.append r k)
theorem AtL.get : ∀ {vs : List V} {ds : List PyData} {n : Nat} {d : PyData}, AtL H vs ds → ds[n]? = some d → ∃ v, vs[n]? = some v ∧ At H v d
  | [], _, _, _, h, e => by cases h; simp at e
  | v :: vs, _, 0, _, h, e => by
    cases h with
    | cons a r => exact ⟨v, rfl, by have e2 := Option.some.inj e; rw [← e2]; exact a⟩
  | v :: vs, _, n + 1, d, h, e => by
    cases h with
    | cons a r =>
      obtain ⟨w, h1, h2⟩ := AtL.get (n := n) (d := d) r (by simpa using e)
      exact ⟨w, by simpa using h1, h2⟩
theorem AtL.get2 : ∀ {vs : List V} {ds : List PyData} {n : Nat} {v : V}, AtL H vs ds → vs[n]? = some v → ∃ d, ds[n]? = some d ∧ At H v d
  | [], _, _, _, h, e => by simp at e
  | w :: vs, _, 0, _, h, e => by
    cases h with
    | cons a r => exact ⟨_, rfl, by have e2 := Option.some.inj e; rw [← e2]; exact a⟩
  | w :: vs, _, n + 1, v, h, e => by
    cases h with
    | cons a r =>
      obtain ⟨d, h1, h2⟩ := AtL.get2 (n := n) (v := v) r (by simpa using e)
      exact ⟨d, by simpa using h1, h2⟩
theorem AtL.take : ∀ {vs : List V} {ds : List PyData} (n : Nat), AtL H vs ds → AtL H (vs.take n) (ds.take n)
  | _, _, 0, _ => .nil
  | [], _, n + 1, h => by cases h; exact .nil
  | v :: vs, _, n + 1, h => by
    cases h with
    | cons a r => exact .cons a (AtL.take n r)
theorem AtL.drop : ∀ {vs : List V} {ds : List PyData} (n : Nat), AtL H vs ds → AtL H (vs.drop n) (ds.drop n)
  | _, _, 0, h => h
  | [], _, n + 1, h => by cases h; exact .nil
  | v :: vs, _, n + 1, h => by
    cases h with
    | cons a r => exact AtL.drop n r
theorem AtL.ints : ∀ {ns : List Int}, AtL H (ns.map V.int) (ns.map PyData.int)
  | [] => .nil
  | n :: ns => .cons (.int n) AtL.ints
theorem AtL.ints_eq : ∀ {ns : List Int} {vs : List V}, AtL H vs (ns.map PyData.int) → vs = ns.map V.int
  | [], _, h => by cases h; rfl
  | n :: ns, _, h => by
    cases h with
    | cons a r => rw [At.int_eq a, AtL.ints_eq r]; rfl
theorem AtL.one (h : At H v d) : AtL H [v] [d] := .cons h .nil
end

/-- a list of ints, as data -/
def intsD (ns : List Int) : PyData := .list (ns.map .int)
theorem ints_ex {H : Hp} {v : V} {ns : List Int} (h : At H v (intsD ns)) : ∃ p, v = .ref p ∧ H p = some (.lst (ns.map V.int)) := by
  obtain ⟨p, xs, e, hp, a⟩ := At.lst_ex h
  rw [AtL.ints_eq a] at hp
  exact ⟨p, e, hp⟩
theorem ints_at {H : Hp} {p : Addr} {ns : List Int} (h : H p = some (.lst (ns.map V.int))) : At H (.ref p) (intsD ns) := .lst h AtL.ints

/-! ### what grows: B is the part that stays, H all that is tracked -/
structure Grow (B H B2 H2 : Hp) : Prop where
  bb : Same B B2
  bh : Same B2 H2
  hh : Same H H2
  fr : ∀ b, H b ≠ none → B b = none → B2 b = none
theorem Grow.refl {B H : Hp} (s : Same B H) : Grow B H B H := ⟨Same.refl _, s, Same.refl _, fun _ _ h => h⟩
theorem ne_none_of {H H2 : Hp} (s : Same H H2) {b : Addr} (h : H b ≠ none) : H2 b ≠ none := fun e => by
  cases q : H b with
  | none => exact h q
  | some o => rw [s b o q] at e; cases e
theorem Grow.trans {B H B1 H1 B2 H2 : Hp} (g : Grow B H B1 H1) (k : Grow B1 H1 B2 H2) : Grow B H B2 H2 :=
  ⟨g.bb.trans k.bb, k.bh, g.hh.trans k.hh, fun b h e => k.fr b (ne_none_of g.hh h) (g.fr b h e)⟩
theorem same_new {H : Hp} {p : Addr} {o : HO} (h : H p = none) : Same H (upd H p o) := fun b u q => by
  rw [upd_ne (ne_of_none q h)]
  exact q
theorem Grow.new {B H : Hp} {p : Addr} {o : HO} (s : Same B H) (h : H p = none) : Grow B H (upd B p o) (upd H p o) := by
  refine ⟨same_new (s.free h), fun b u q => ?_, same_new h, fun b hb e => ?_⟩
  · by_cases eb : b = p
    · rw [eb, upd_same] at q
      rw [eb, upd_same]
      exact q
    · rw [upd_ne eb] at q
      rw [upd_ne eb]
      exact s b u q
  · have eb : b ≠ p := fun z => by
      rw [z] at hb
      exact hb h
    rw [upd_ne eb]
    exact e
/-- the same, where the new object is kept apart (it will be changed) -/
theorem Grow.own {B H : Hp} {p : Addr} {o : HO} (s : Same B H) (h : H p = none) : Grow B H B (upd H p o) :=
  ⟨Same.refl _, s.trans (same_new h), same_new h, fun _ _ e => e⟩

/-! ### the leaves of a reading -/
section
variable {K : PySem.W.Frag} {B H : Hp} {Q : VK} {x y v : V} {vs : List V} {ds es : List PyData} {d e : PyData} {i : Int} {n : Nat}
/-- a new list, a new tuple, of items that are data -/
theorem q_lst (s : Same B H) (a : AtL B vs ds) (hl : vs.length ≤ 100000) (q : ∀ v B2 H2, Grow B H B2 H2 → At B2 v (.list ds) → Q v H2) : vs.length ≤ sizeLine ∧ ∀ p, H p = none → Q (.ref p) (upd H p (.lst vs)) :=
  ⟨Nat.le_trans hl (by decide), fun p hp => q _ _ _ (Grow.new s hp) (.lst upd_same (a.up (same_new (s.free hp))))⟩
theorem q_tup (s : Same B H) (a : AtL B vs ds) (hl : vs.length ≤ 100000) (q : ∀ v B2 H2, Grow B H B2 H2 → At B2 v (.tuple ds) → Q v H2) : vs.length ≤ sizeLine ∧ ∀ p, H p = none → Q (.ref p) (upd H p (.tup vs)) :=
  ⟨Nat.le_trans hl (by decide), fun p hp => q _ _ _ (Grow.new s hp) (.tup upd_same (a.up (same_new (s.free hp))))⟩
theorem q_cat (s : Same B H) (a : At B x (.list ds)) (b : At B y (.list es)) (hl : ds.length + es.length ≤ 100000) (q : ∀ v B2 H2, Grow B H B2 H2 → At B2 v (.list (ds ++ es)) → Q v H2) : rCat x y H Q := by
  obtain ⟨p, xs, rfl, hp, ax⟩ := a.lst_ex
  obtain ⟨r, zs, rfl, hr, az⟩ := b.lst_ex
  refine ⟨p, r, xs, zs, rfl, rfl, s _ _ hp, s _ _ hr, ?_, fun t ht => ?_⟩
  · rw [ax.length, az.length]
    exact Nat.le_trans hl (by decide)
  · exact q _ _ _ (Grow.new s ht) (.lst upd_same ((ax.append az).up (same_new (s.free ht))))
theorem q_ix (s : Same B H) (a : At B x (.list ds)) (h0 : 0 ≤ i) (hd : ds[i.toNat]? = some d) (q : ∀ v, At B v d → Q v H) : rIxL K x (.int i) H Q := by
  obtain ⟨p, xs, rfl, hp, ax⟩ := a.lst_ex
  obtain ⟨w, h1, h2⟩ := ax.get hd
  refine ⟨p, xs, i, w, rfl, rfl, SqL.of (s _ _ hp), ?_, q w h2⟩
  have z := atI_nat h1
  rw [show ((i.toNat : Nat) : Int) = i by omega] at z
  exact z
theorem q_ixT (s : Same B H) (a : At B x (.tuple ds)) (h0 : 0 ≤ i) (hd : ds[i.toNat]? = some d) (q : ∀ v, At B v d → Q v H) : rIxT K x (.int i) H Q := by
  obtain ⟨p, xs, rfl, hp, ax⟩ := a.tup_ex
  obtain ⟨w, h1, h2⟩ := ax.get hd
  refine ⟨p, xs, i, w, rfl, rfl, SqT.of (s _ _ hp), ?_, q w h2⟩
  have z := atI_nat h1
  rw [show ((i.toNat : Nat) : Int) = i by omega] at z
  exact z
theorem q_len (s : Same B H) (a : At B x (.list ds)) (q : Q (.int (ds.length : Int)) H) : ∃ p ys, [x] = [V.ref p] ∧ (SqL K H p ys ∨ SqT K H p ys) ∧ Q (.int ys.length) H := by
  obtain ⟨p, xs, rfl, hp, ax⟩ := a.lst_ex
  exact ⟨p, xs, rfl, .inl (SqL.of (s _ _ hp)), by rw [ax.length]; exact q⟩
theorem q_repr (s : Same B H) (a : At B x d) (hs : Shown d) (q : Q (.str d.shown) H) : rRepr K [x] H Q := ⟨x, d, rfl, (a.up s).dp, hs, q⟩
theorem q_eq (s : Same B H) (a : At B x d) (b : At B y e) (h1 : SeqAt.shaped d = true) (h2 : SeqAt.shaped e = true) (q : Q (.bl (PyData.eqv d e)) H) : rEqD K x y H Q := ⟨d, e, (a.up s).dp, (b.up s).dp, h1, h2, q⟩
theorem q_ne (s : Same B H) (a : At B x d) (b : At B y e) (h1 : SeqAt.shaped d = true) (h2 : SeqAt.shaped e = true) (q : Q (.bl (!PyData.eqv d e)) H) : rNeD K x y H Q := ⟨d, e, (a.up s).dp, (b.up s).dp, h1, h2, q⟩
end
end Cf

/-! More leaves: a stepped range as a list, isinstance of data, draws that are turned. -/
namespace Cf
open PySem PySem.Spec PyProof.Rows L2

section
variable {X : Cx}
/-- list(range(a, b, c)) -/
def tStep (ta : TA) : TE := fun σ H Q => ta σ H fun vs H1 => ∃ (i j c : Int) (n : Nat), vs = [.int i, .int j, .int c] ∧ RgC i j c n ∧ n ≤ 2 ^ 24 ∧ ∀ p, H1 p = none → Q (.ref p) (upd H1 p (.lst ((List.range n).map fun k => V.int (i + (k : Nat) * c))))
theorem vals_step {i c : Int} {n : Nat} {acc : Array Value} (h : ItemsOf (fun k v => ∃ t, v = .int (i + k * c) t) acc n) : Vals ((List.range n).map fun k => V.int (i + (k : Nat) * c)) acc.toList := by
  have e : acc.toList.length = n := by
    rw [Array.length_toList]
    exact h.1
  rw [← e]
  refine vals_of_get acc.toList (fun k => V.int (i + (k : Nat) * c)) fun j u hj => ?_
  obtain ⟨t, rfl⟩ := h.2 j u (by rw [← hj, Array.getElem?_toList])
  exact ⟨t, rfl⟩
theorem pe_list_range {a b c : Expr} {ta : TA} {p pos p2 pos2 : Pos} (h1 : X.mg "list" = none) (h2 : X.mg "range" = none) (ha : PA X [a, b, c] ta) (hc : X.calm = true := by rfl) (g1 : Gl X "list" := by rfl) (g2 : Gl X "range" := by rfl)
    (hs : starEach [a, b, c] X.env = (false, eval a X.env) :: starEach [b, c] X.env := by rfl) (hpl : (backTo pos2 (starEach [b, c] X.env)).any (·.1) = false := by rfl)
    (na : starEach [.Call (.Name "range" p2) [a, b, c] [] pos2] X.env = (false, eval (.Call (.Name "range" p2) [a, b, c] [] pos2) X.env) :: starEach [] X.env := by rfl) :
    PE X (.Call (.Name "list" p) [.Call (.Name "range" p2) [a, b, c] [] pos2] [] pos) (tStep ta) := by
  have inner : ∀ (pins : List (Addr × Obj)) (s : Shared) (σ : L2.St) (H : Hp) (R : Int → Int → Int → Nat → Hp → Prop), Inv X pins σ H s → ta σ H (fun vs H1 => ∃ (i j c : Int) (n : Nat), vs = [.int i, .int j, .int c] ∧ RgC i j c n ∧ R i j c n H1) →
      wpAny (model X.prog X.w) X.A (eval (.Call (.Name "range" p2) [a, b, c] [] pos2) X.env) (fun x s2 => ∃ r i j c n t u v H2, x = .ref r ∧ IsRange s2.heap r i j c t u v ∧ RgC i j c n ∧ Inv X pins σ H2 s2 ∧ R i j c n H2) X.xe s := by
    intro pins s σ H R I h
    refine Call_ (ld_blt I g2 h2 boot_range (PyProof.Rows.callWith_type1 (thn (ha.run pos2 pins s σ H _ I h) fun us s1 ⟨vs, H1, I1, r1, q1⟩ => ?_) hs hpl))
    obtain ⟨i, j, k, n, e, rc, q⟩ := q1
    subst e
    cases r1 with
    | cons r rr =>
      cases rr with
      | cons r' rr =>
        cases rr with
        | cons r'' rr =>
          cases rr
          obtain ⟨t, rfl⟩ := r
          obtain ⟨t', rfl⟩ := r'
          obtain ⟨t'', rfl⟩ := r''
          exact call_range_3 rc.1 ⟨_, i, j, k, n, _, _, _, H1, rfl, IsRange.new _ _ _ _ _ _ _, rc, I1.kept fun b u e => Heap.get?_push_of_some _ e, q⟩ (.inl (PyProof.noPylong_small rc.2.1))
  refine ⟨fun pins s σ H Q I h => ?_⟩
  have h3 : ta σ H (fun vs H1 => ∃ (i j c : Int) (n : Nat), vs = [.int i, .int j, .int c] ∧ RgC i j c n ∧ (n ≤ 2 ^ 24 ∧ ∀ p, H1 p = none → Q (.ref p) (upd H1 p (.lst ((List.range n).map fun k => V.int (i + (k : Nat) * c)))))) := h
  refine Call_ (ld_blt I g1 h1 boot_list (PyProof.Rows.callWith_type1 (args_cons (thn (inner pins s σ H _ I h3) fun x s1 ⟨r, i, j, c, n, t, u, v, H1, ex, hr, rc, I1, hn, q⟩ => args_nil ?_) na) na))
  subst ex
  refine call_list_range (n := n) (I1.ok.hd hc) hr rc.2.2.1 rc.2.2.2 hn fun h' tk acc c' hk e' hi => ?_
  refine ⟨.ref s1.heap.objs.size, upd H1 s1.heap.objs.size (.lst ((List.range n).map fun k => V.int (i + (k : Nat) * c))), I1.laid hk (Nat.le_refl _) (show ObjOk X.prog X.w _ _ _ (.lst ((List.range n).map fun k => V.int (i + (k : Nat) * c))) from ⟨?_, acc.toList, c', vals_step hi, ?_⟩), rfl, q _ (I1.hok.fresh (Nat.le_refl _))⟩
  · rw [List.length_map, List.length_range, sizeLine_eq]
    omega
  · rw [Array.toArray_toList]
    exact e'
end

/-! ### kinds of data -/
def kindD : PyData → String
  | .none => "NoneType" | .bool _ => "bool" | .int _ => "int" | .str _ => "str" | .list _ => "list" | .tuple _ => "tuple" | .dict _ => "dict"
theorem At.ty {K : PySem.W.Frag} {H : Hp} {v : V} {d : PyData} (h : At H v d) : TyX K H v (.type (kindD d)) := by
  cases h with
  | non => exact .base .non
  | bl b => exact .base (.bl b)
  | int i => exact .base (.int i)
  | str x => exact .base (.str x)
  | lst e _ => exact .base (.lst e)
  | tup e _ => exact .base (.tup e)
theorem q_isi {K : PySem.W.Frag} {B H : Hp} {Q : VK} {x : V} {d : PyData} {n : String} {b : Bool} (s : Same B H) (a : At B x d) (h : kitB (kindD d) n = some b) (q : Q (.bl b) H) : rIsi K [x, .ty n] H Q :=
  ⟨x, .ty n, _, _, b, rfl, .ty n, (a.up s).ty, kit_ty h, q⟩

/-! ### where one object is turned: p is that object, B holds the rest -/
structure GrowP (p : Addr) (B H B2 H2 : Hp) : Prop where
  bb : Same B B2
  bh : Same B2 H2
  hh : ∀ b o, b ≠ p → H b = some o → H2 b = some o
  fr : ∀ b, H b ≠ none → B b = none → B2 b = none
  th : ∀ b, H b ≠ none → H2 b ≠ none
theorem GrowP.refl {p : Addr} {B H : Hp} (s : Same B H) : GrowP p B H B H := ⟨Same.refl _, s, fun _ _ _ h => h, fun _ _ h => h, fun _ h => h⟩
theorem GrowP.trans {p : Addr} {B H B1 H1 B2 H2 : Hp} (g : GrowP p B H B1 H1) (k : GrowP p B1 H1 B2 H2) : GrowP p B H B2 H2 :=
  ⟨g.bb.trans k.bb, k.bh, fun b o n h => k.hh b o n (g.hh b o n h), fun b h e => k.fr b (g.th b h) (g.fr b h e), fun b h => k.th b (g.th b h)⟩
theorem Grow.p {B H B2 H2 : Hp} (p : Addr) (g : Grow B H B2 H2) : GrowP p B H B2 H2 := ⟨g.bb, g.bh, fun b o _ h => g.hh b o h, g.fr, fun b h => ne_none_of g.hh h⟩
/-- p alone was turned -/
structure Turn (p : Addr) (H H2 : Hp) : Prop where
  hh : ∀ b o, b ≠ p → H b = some o → H2 b = some o
  th : ∀ b, H b ≠ none → H2 b ≠ none
theorem Turn.p {p : Addr} {B H H2 : Hp} (t : Turn p H H2) (s : Same B H) (h : B p = none) : GrowP p B H B H2 :=
  ⟨Same.refl _, fun b o e => t.hh b o (ne_of_none e h) (s b o e), t.hh, fun _ _ e => e, t.th⟩
theorem Turn.same {p : Addr} {H H2 : Hp} (t : Same H H2) : Turn p H H2 := ⟨fun b o _ e => t b o e, fun b h => ne_none_of t h⟩
theorem Turn.trans {p : Addr} {H H1 H2 : Hp} (t : Turn p H H1) (u : Turn p H1 H2) : Turn p H H2 := ⟨fun b o n e => u.hh b o n (t.hh b o n e), fun b h => u.th b (t.th b h)⟩
theorem Turn.upd {p : Addr} {H : Hp} {o u : HO} (h : H p = some u) : Turn p H (upd H p o) := ⟨fun b x n e => by rw [upd_ne n]; exact e, fun b hb => by
  by_cases e : b = p
  · rw [e, upd_same]; exact fun q => nomatch q
  · rw [upd_ne e]; exact hb⟩
theorem GrowP.turn {p : Addr} {B H B2 H2 : Hp} (g : GrowP p B H B2 H2) : Turn p H H2 := ⟨g.hh, g.th⟩

/-- the draws of a law: how much is left, how many were made (at most n), of what kind -/
def DrawsAt (H : Hp) (p : Addr) (n : Int) : Prop := ∃ (a k : Int) (b : Bool), H p = some (.lst [.int a, .int k, .bl b]) ∧ 0 ≤ k ∧ k ≤ n
theorem DrawsAt.some {H : Hp} {p : Addr} {n : Int} (h : DrawsAt H p n) : H p ≠ none := by
  obtain ⟨a, k, b, e, _⟩ := h
  rw [e]
  exact fun q => nomatch q
theorem DrawsAt.mono {H : Hp} {p : Addr} {n m : Int} (h : DrawsAt H p n) (l : n ≤ m) : DrawsAt H p m := by
  obtain ⟨a, k, b, e, h1, h2⟩ := h
  exact ⟨a, k, b, e, h1, by omega⟩
theorem DrawsAt.up {H H2 : Hp} {p : Addr} {n : Int} (h : DrawsAt H p n) (s : Same H H2) : DrawsAt H2 p n := by
  obtain ⟨a, k, b, e, h1⟩ := h
  exact ⟨a, k, b, s _ _ e, h1⟩
theorem DrawsAt.other {H H2 : Hp} {p q : Addr} {n : Int} (h : DrawsAt H q n) (t : Turn p H H2) (ne : q ≠ p) : DrawsAt H2 q n := by
  obtain ⟨a, k, b, e, h1⟩ := h
  exact ⟨a, k, b, t.hh _ _ ne e, h1⟩
theorem GrowP.more {p : Addr} {B H B2 H2 H3 : Hp} (g : GrowP p B H B2 H2) (s : Same H2 H3) : GrowP p B H B2 H3 :=
  ⟨g.bb, g.bh.trans s, fun b o n e => s b o (g.hh b o n e), g.fr, fun b h => ne_none_of s (g.th b h)⟩
theorem GrowP.add {p q : Addr} {o : HO} {B H B2 H2 : Hp} (g : GrowP p B H B2 H2) (h : H2 q = none) : GrowP p B H (upd B2 q o) (upd H2 q o) := g.trans ((Grow.new g.bh h).p p)
theorem GrowP.low {p : Addr} {B H B2 H2 H3 : Hp} (g : GrowP p B H B2 H2) (t : Turn p H2 H3) (h : B2 p = none) : GrowP p B H B2 H3 := g.trans (t.p g.bh h)
theorem GrowP.free {p : Addr} {B H B2 H2 : Hp} (g : GrowP p B H B2 H2) (h : H p ≠ none) (e : B p = none) : B2 p = none := g.fr p h e
theorem Same.ne {H H2 : Hp} {b : Addr} (s : Same H H2) (h : H b ≠ none) : H2 b ≠ none := ne_none_of s h

/-- an object q that came after Bd is changed: what was before stands -/
theorem GrowP.mut {p q : Addr} {o : HO} {B H Bd Hd H4 : Hp} (g : GrowP p B H Bd Hd) (s : Same Hd H4) (hq : Hd q = none) : GrowP p B H Bd (upd H4 q o) := by
  refine ⟨g.bb, fun b u e => ?_, fun b u n e => ?_, g.fr, fun b hb => ?_⟩
  · have e1 := g.bh b u e
    rw [upd_ne (ne_of_none e1 hq)]
    exact s b u e1
  · have e1 := g.hh b u n e
    rw [upd_ne (ne_of_none e1 hq)]
    exact s b u e1
  · have h1 := g.th b hb
    have n : b ≠ q := fun z => by rw [z] at h1; exact h1 hq
    rw [upd_ne n]
    exact ne_none_of s h1
theorem Grow.mut {q : Addr} {o : HO} {B H Bd Hd H4 : Hp} (g : Grow B H Bd Hd) (s : Same Hd H4) (hq : Hd q = none) : Grow B H Bd (upd H4 q o) := by
  refine ⟨g.bb, fun b u e => ?_, fun b u e => ?_, g.fr⟩
  · have e1 := g.bh b u e
    rw [upd_ne (ne_of_none e1 hq)]
    exact s b u e1
  · have e1 := g.hh b u e
    rw [upd_ne (ne_of_none e1 hq)]
    exact s b u e1

/-! ### a comprehension whose items are data -/
/-- over anything that is walked; the items may make objects -/
theorem lc_gen {J : It} {n : Nat} {G : Hp → Prop} {Y : Nat → Hp → V → Hp → Prop} (w : Walk J n G Y) {g : TG} {te : TE} {vs : List Nat} {σ : L2.St} {B H1 : Hp} {D : Addr} {Qd : Hp → Prop} (m : Nat → PyData)
    (hB : Same B H1) (hD : H1 D = none) (hn : n ≤ 100000) (hG : ∀ H2, Same H1 H2 → G H2) (hY : ∀ i H x H2, Y i H x H2 → Same H H2)
    (hs : ∀ i x B2 H2 H3, i < n → Y i H2 x H3 → Same B B2 → Same B2 H3 → Same H1 H3 → (∀ b, H1 b ≠ none → B b = none → B2 b = none) → ∀ R : VK, (∀ v B4 H4, Grow B2 H3 B4 H4 → At B4 v (m i) → R v H4) →
      g x (wipe σ vs) H3 fun σ2 H4 => wipe σ2 vs = wipe σ vs ∧ te σ2 H4 R)
    (hd : ∀ B2 H2, Grow B H1 B2 H2 → At B2 (.ref D) (.list ((List.range n).map m)) → Qd H2) :
    ∃ W : Nat → Nat → Hp → Prop, (∃ k, W 0 k (upd H1 D (.lst []))) ∧ ∀ i k H, W i k H →
      (J.stop i H ∧ Qd H) ∨ (J.go i H ∧ ∃ Nx : Hp → Prop, (∀ H2, Nx H2 → ∃ k2, k2 < k ∧ W (i + 1) k2 H2) ∧ ∀ x H2, J.yld i H x H2 → g x (wipe σ vs) H2 fun σ2 H3 => wipe σ2 vs = wipe σ vs ∧ tYes σ2 H3 fun b H4 =>
        if b = true then te σ2 H4 fun y H5 => ∃ acc, H5 D = some (.lst acc) ∧ acc.length < sizeLine ∧ Nx (upd H5 D (.lst (acc ++ [y]))) else Nx H4) := by
  refine lc_it w (fun i H2 => ∃ B2 acc, Same B B2 ∧ Same B2 H2 ∧ Same H1 H2 ∧ B2 D = none ∧ H2 D = some (.lst acc) ∧ AtL B2 acc ((List.range i).map m) ∧ ∀ b, H1 b ≠ none → B b = none → B2 b = none)
    ⟨B, [], Same.refl _, hB.trans (same_new hD), same_new hD, hB.free hD, upd_same, .nil, fun _ _ e => e⟩ (fun i H2 _ ⟨_, _, _, _, s, _⟩ => hG H2 s) ?_ ?_
  · rintro i x H2 H3 hi ⟨B2, acc, s1, s2, s3, hBD, hDa, ha, fr⟩ hy
    have s4 := hY i H2 x H3 hy
    have q := hs i x B2 H2 H3 hi hy s1 (s2.trans s4) (s3.trans s4) fr (fun y H5 => ∃ acc, H5 D = some (.lst acc) ∧ acc.length < sizeLine ∧ (∃ B2 acc2, Same B B2 ∧ Same B2 (upd H5 D (.lst (acc ++ [y]))) ∧ Same H1 (upd H5 D (.lst (acc ++ [y]))) ∧ B2 D = none ∧ upd H5 D (.lst (acc ++ [y])) D = some (.lst acc2) ∧ AtL B2 acc2 ((List.range (i + 1)).map m) ∧ ∀ b, H1 b ≠ none → B b = none → B2 b = none)) ?_
    · exact q
    · intro v B4 H4 g4 hv
      have h4 : H4 D = some (.lst acc) := g4.hh _ _ (s4 _ _ hDa)
      have hne : H3 D ≠ none := by
        rw [s4 _ _ hDa]
        exact fun z => nomatch z
      have b4 : B4 D = none := g4.fr D hne hBD
      refine ⟨acc, h4, ?_, B4, acc ++ [v], s1.trans g4.bb, fun b o e => ?_, fun b o e => ?_, b4, upd_same, ?_, fun b hb e => g4.fr b (ne_none_of (s3.trans s4) hb) (fr b hb e)⟩
      · have el := ha.length
        rw [List.length_map, List.length_range] at el
        exact Nat.lt_of_lt_of_le (show acc.length < 100000 by omega) (by decide)
      · rw [upd_ne (ne_of_none e b4)]
        exact g4.bh b o e
      · rw [upd_ne (ne_of_none e hD)]
        exact g4.hh b o (s4 _ _ (s3 b o e))
      · rw [List.range_succ, List.map_append]
        exact (ha.up g4.bb).append (AtL.one hv)
  · rintro H2 ⟨B2, acc, s1, s2, s3, hBD, hDa, ha, fr⟩
    refine hd (upd B2 D (.lst acc)) H2 ⟨s1.trans (same_new hBD), fun b o e => ?_, s3, fun b hb e => ?_⟩ (.lst upd_same (ha.up (same_new hBD)))
    · by_cases z : b = D
      · rw [z, upd_same] at e
        rw [z, hDa]
        exact e
      · rw [upd_ne z] at e
        exact s2 b o e
    · have z : b ≠ D := fun z => by
        rw [z] at hb
        exact hb hD
      rw [upd_ne z]
      exact fr b hb e
theorem same_YAt {xs : List V} : ∀ i H x H2, YAt xs i H x H2 → Same H H2 := fun i H x H2 h => by
  rw [h.1]
  exact Same.refl _
theorem same_YFn {f : Nat → V} : ∀ i H x H2, YFn f i H x H2 → Same H H2 := fun i H x H2 h => by
  rw [h.1]
  exact Same.refl _
/-- over a list of ints -/
theorem lc_ints {K : PySem.W.Frag} {a : Addr} {ns : List Int} {g : TG} {te : TE} {vs : List Nat} {σ : L2.St} {B H1 : Hp} {D : Addr} {Qd : Hp → Prop} (f : Int → PyData)
    (hB : Same B H1) (hD : H1 D = none) (hn : ns.length ≤ 100000) (ha : SqL K H1 a (ns.map V.int))
    (hs : ∀ d B2 H3, d ∈ ns → Same B B2 → Same B2 H3 → Same H1 H3 → (∀ b, H1 b ≠ none → B b = none → B2 b = none) → ∀ R : VK, (∀ v B4 H4, Grow B2 H3 B4 H4 → At B4 v (f d) → R v H4) →
      g (.int d) (wipe σ vs) H3 fun σ2 H4 => wipe σ2 vs = wipe σ vs ∧ te σ2 H4 R)
    (hd : ∀ B2 H2, Grow B H1 B2 H2 → At B2 (.ref D) (.list (ns.map f)) → Qd H2) :
    ∃ W : Nat → Nat → Hp → Prop, (∃ k, W 0 k (upd H1 D (.lst []))) ∧ ∀ i k H, W i k H →
      ((Itl K a).stop i H ∧ Qd H) ∨ ((Itl K a).go i H ∧ ∃ Nx : Hp → Prop, (∀ H2, Nx H2 → ∃ k2, k2 < k ∧ W (i + 1) k2 H2) ∧ ∀ x H2, (Itl K a).yld i H x H2 → g x (wipe σ vs) H2 fun σ2 H3 => wipe σ2 vs = wipe σ vs ∧ tYes σ2 H3 fun b H4 =>
        if b = true then te σ2 H4 fun y H5 => ∃ acc, H5 D = some (.lst acc) ∧ acc.length < sizeLine ∧ Nx (upd H5 D (.lst (acc ++ [y]))) else Nx H4) := by
  have hl : (ns.map V.int).length = ns.length := List.length_map _
  refine lc_gen (walk_list (K := K) (a := a) (xs := ns.map V.int)) (fun i => f (ns.getD i 0)) hB hD (by rw [hl]; exact hn) (fun H2 s => s.seq ha) same_YAt (fun i x B2 H2 H3 hi hy s1 s2 s3 fr R k => ?_) (fun B2 H2 g2 h2 => hd B2 H2 g2 ?_)
  · obtain ⟨rfl, hx⟩ := hy
    rw [List.getElem?_map] at hx
    cases z : ns[i]? with
    | none => rw [z] at hx; cases hx
    | some d =>
      rw [z] at hx
      have ex : x = V.int d := (Option.some.inj hx).symm
      rw [ex]
      refine hs d B2 H3 (List.mem_of_getElem? z) s1 s2 s3 fr R fun v B4 H4 g4 hv => k v B4 H4 g4 ?_
      rw [List.getD_eq_getElem?_getD, z]
      exact hv
  · have e : (List.range (ns.map V.int).length).map (fun i => f (ns.getD i 0)) = ns.map f := by
      rw [hl]
      apply List.ext_getElem?
      intro i
      rw [List.getElem?_map, List.getElem?_map]
      by_cases h : i < ns.length
      · rw [List.getElem?_range h, List.getElem?_eq_getElem h]
        show some (f (ns.getD i 0)) = some (f ns[i])
        rw [List.getD_eq_getElem?_getD, List.getElem?_eq_getElem h]
        rfl
      · rw [List.getElem?_eq_none (by simpa using h), List.getElem?_eq_none (by simpa using h)]
        rfl
    rw [e] at h2
    exact h2
/-- over range(lo, ..) -/
theorem lc_rng {lo : Int} {n : Nat} {g : TG} {te : TE} {vs : List Nat} {σ : L2.St} {B H1 : Hp} {D : Addr} {Qd : Hp → Prop} (f : Nat → PyData)
    (hB : Same B H1) (hD : H1 D = none) (hn : n ≤ 100000)
    (hs : ∀ (i : Nat) B2 H3, i < n → Same B B2 → Same B2 H3 → Same H1 H3 → (∀ b, H1 b ≠ none → B b = none → B2 b = none) → ∀ R : VK, (∀ v B4 H4, Grow B2 H3 B4 H4 → At B4 v (f i) → R v H4) →
      g (.int (lo + i)) (wipe σ vs) H3 fun σ2 H4 => wipe σ2 vs = wipe σ vs ∧ te σ2 H4 R)
    (hd : ∀ B2 H2, Grow B H1 B2 H2 → At B2 (.ref D) (.list ((List.range n).map f)) → Qd H2) :
    ∃ W : Nat → Nat → Hp → Prop, (∃ k, W 0 k (upd H1 D (.lst []))) ∧ ∀ i k H, W i k H →
      ((Itr lo n).stop i H ∧ Qd H) ∨ ((Itr lo n).go i H ∧ ∃ Nx : Hp → Prop, (∀ H2, Nx H2 → ∃ k2, k2 < k ∧ W (i + 1) k2 H2) ∧ ∀ x H2, (Itr lo n).yld i H x H2 → g x (wipe σ vs) H2 fun σ2 H3 => wipe σ2 vs = wipe σ vs ∧ tYes σ2 H3 fun b H4 =>
        if b = true then te σ2 H4 fun y H5 => ∃ acc, H5 D = some (.lst acc) ∧ acc.length < sizeLine ∧ Nx (upd H5 D (.lst (acc ++ [y]))) else Nx H4) :=
  lc_gen (walk_range (lo := lo) (n := n)) f hB hD hn (fun _ _ => trivial) same_YFn (fun i x B2 H2 H3 hi hy s1 s2 s3 fr R k => by
    obtain ⟨rfl, rfl⟩ := hy
    exact hs i B2 H3 hi s1 s2 s3 fr R k) hd

/-! ### how long a text is that shows data -/
structure Sm (k n : Nat) (d : PyData) : Prop where
  sh : d.showable = true
  ly : d.canLay0 = true
  dp : d.depth ≤ k
  ln : d.shown.length ≤ n
theorem Sm.shown {k n : Nat} {d : PyData} (h : Sm k n d) (hk : k ≤ 100) (hn : n ≤ 16777216) : Shown d := ⟨h.sh, PyData.hasDict_of_canLay d h.ly, Nat.le_trans h.dp hk, Nat.le_trans h.ln hn⟩
theorem log2_12 {i : Int} (h : i.natAbs < 10 ^ 12) : i.natAbs.log2 < 1920 := by
  by_cases z : i.natAbs = 0
  · rw [z]
    decide
  · have h2 : i.natAbs < 2 ^ 40 := Nat.lt_of_lt_of_le h (by decide)
    have := (Nat.log2_lt z).mpr h2
    omega
theorem Sm.int {i : Int} (h : i.natAbs < 10 ^ 12) : Sm 0 13 (.int i) :=
  ⟨by simp only [PyData.showable]; exact decide_eq_true (log2_12 h), by simp only [PyData.canLay0], by simp only [PyData.depth]; exact Nat.le_refl _, PyData.shown_int_le h⟩
theorem Sm.non : Sm 0 13 .none := ⟨by simp only [PyData.showable], by simp only [PyData.canLay0], by simp only [PyData.depth]; exact Nat.le_refl _, by rw [PyData.shown_none]; decide⟩
theorem Sm.bl (b : Bool) : Sm 0 13 (.bool b) := ⟨by simp only [PyData.showable], by simp only [PyData.canLay0], by simp only [PyData.depth]; exact Nat.le_refl _, by rw [PyData.shown_bool]; cases b <;> decide⟩
theorem sm_all {k n : Nat} : ∀ {ds : List PyData}, (∀ d ∈ ds, Sm k n d) → PyData.showableAll ds = true ∧ PyData.canLayAll0 ds = true ∧ PyData.depthAll ds ≤ k ∧ ((PyData.shownAll ds).map (·.length)).sum ≤ ds.length * n
  | [], _ => ⟨by simp only [PyData.showableAll], by simp only [PyData.canLayAll0], by simp only [PyData.depthAll]; exact Nat.zero_le _, by simp [PyData.shownAll_nil]⟩
  | d :: ds, h => by
    have h1 := h d List.mem_cons_self
    obtain ⟨a, b, c, e⟩ := sm_all (ds := ds) fun x hx => h x (List.mem_cons_of_mem _ hx)
    refine ⟨by simp only [PyData.showableAll, h1.sh, a, Bool.and_self], by simp only [PyData.canLayAll0, h1.ly, b, Bool.and_self], by simp only [PyData.depthAll]; exact Nat.max_le.mpr ⟨h1.dp, c⟩, ?_⟩
    rw [PyData.shownAll_cons, List.map_cons, List.sum_cons, List.length_cons, Nat.succ_mul]
    have := h1.ln
    omega
theorem Sm.list {k n m : Nat} {ds : List PyData} (h : ∀ d ∈ ds, Sm k n d) (hl : ds.length ≤ m) : Sm (k + 1) (m * (n + 2) + 3) (.list ds) := by
  obtain ⟨a, b, c, e⟩ := sm_all h
  refine ⟨by simp only [PyData.showable]; exact a, by simp only [PyData.canLay0]; exact b, by simp only [PyData.depth]; omega, ?_⟩
  have q := listText_len_le (PyData.shownAll ds)
  rw [PyData.shownAll_length] at q
  have e2 : (PyData.list ds).shown = listText (PyData.shownAll ds) := by simp only [PyData.shown]
  have e3 : ds.length * (n + 2) = ds.length * n + 2 * ds.length := by rw [Nat.mul_add]; omega
  have e4 : ds.length * (n + 2) ≤ m * (n + 2) := Nat.mul_le_mul_right _ hl
  rw [e2]
  omega
theorem Sm.tuple {k n m : Nat} {ds : List PyData} (h : ∀ d ∈ ds, Sm k n d) (hl : ds.length ≤ m) : Sm (k + 1) (m * (n + 2) + 3) (.tuple ds) := by
  obtain ⟨a, b, c, e⟩ := sm_all h
  refine ⟨by simp only [PyData.showable]; exact a, by simp only [PyData.canLay0]; exact b, by simp only [PyData.depth]; omega, ?_⟩
  have q := tupleText_len_le (PyData.shownAll ds)
  rw [PyData.shownAll_length] at q
  have e2 : (PyData.tuple ds).shown = tupleText (PyData.shownAll ds) := by simp only [PyData.shown]
  have e3 : ds.length * (n + 2) = ds.length * n + 2 * ds.length := by rw [Nat.mul_add]; omega
  have e4 : ds.length * (n + 2) ≤ m * (n + 2) := Nat.mul_le_mul_right _ hl
  rw [e2]
  omega
theorem Sm.mono {k n k2 n2 : Nat} {d : PyData} (h : Sm k n d) (hk : k ≤ k2) (hn : n ≤ n2) : Sm k2 n2 d := ⟨h.sh, h.ly, Nat.le_trans h.dp hk, Nat.le_trans h.ln hn⟩
theorem Sm.ints {ns : List Int} {m : Nat} (h : ∀ n ∈ ns, n.natAbs < 10 ^ 12) (hl : ns.length ≤ m) : Sm 1 (m * 15 + 3) (intsD ns) := by
  refine Sm.list (k := 0) (n := 13) (fun d hd => ?_) (by rw [List.length_map]; exact hl)
  obtain ⟨n, hn, rfl⟩ := List.mem_map.mp hd
  exact Sm.int (h n hn)
theorem Sm.pair {k n : Nat} {a b : PyData} (h1 : Sm k n a) (h2 : Sm k n b) : Sm (k + 1) (2 * (n + 2) + 3) (.list [a, b]) :=
  Sm.list (fun d hd => by
    rcases List.mem_cons.mp hd with e | hd
    · rw [e]; exact h1
    · rcases List.mem_cons.mp hd with e | hd
      · rw [e]; exact h2
      · cases hd) (Nat.le_refl 2)

/-! ### data that can be compared -/
theorem Sm.shaped {k n : Nat} {d : PyData} (h : Sm k n d) (hk : k ≤ 64) : SeqAt.shaped d = true := by
  have e : decide (d.depth ≤ 64) = true := decide_eq_true (Nat.le_trans h.dp hk)
  unfold SeqAt.shaped
  rw [h.ly, e]
  rfl
theorem eqv_same {k n : Nat} {d : PyData} (h : Sm k n d) : PyData.eqv d d = true := SeqAt.eqv_refl d h.ly
theorem u200 {k : Nat} {A : Around} (r : Room k A) : A.units + 200 < cLine := by
  have := r.un
  omega
end Cf

namespace Cf
open PySem PySem.Spec PyProof.Rows L2

/-! ### the mathematics -/
def isI : PyData → Bool
  | .int _ => true
  | _ => false
/-- a tree's left depths, from the right -/
inductive Tr : List Int → Prop
  | leaf : Tr [0]
  | cons {d e : Int} {r : List Int} : Tr (e :: r) → 1 ≤ d → d ≤ e + 1 → Tr (d :: e :: r)
theorem Tr.pos {ns : List Int} (h : Tr ns) : 0 < ns.length := by cases h <;> simp
theorem Tr.last : ∀ {ns : List Int}, Tr ns → ns[ns.length - 1]? = some 0
  | _, .leaf => rfl
  | _, .cons (r := r) h _ _ => by
    have q := Tr.last h
    simpa using q
theorem Tr.ge : ∀ {ns : List Int}, Tr ns → ∀ (i : Nat) (d : Int), ns[i]? = some d → (if i = ns.length - 1 then 0 else 1) ≤ d
  | _, .leaf, i, d, h => by
    cases i with
    | zero => simp at h; simp [h]
    | succ i => simp at h
  | _, .cons (d := a) (e := e) (r := r) t h1 h2, 0, d, h => by
    simp at h
    simp
    omega
  | _, .cons (d := a) (e := e) (r := r) t h1 h2, i + 1, d, h => by
    have q := Tr.ge t i d (by simpa using h)
    simp at q ⊢
    exact q
theorem Tr.nonneg {ns : List Int} (h : Tr ns) {d : Int} (m : d ∈ ns) : 0 ≤ d := by
  obtain ⟨i, hi⟩ := List.mem_iff_getElem?.mp m
  have q := h.ge i d hi
  split at q <;> omega
theorem Tr.step : ∀ {ns : List Int}, Tr ns → ∀ (i : Nat) (d e : Int), ns[i]? = some d → ns[i + 1]? = some e → d ≤ e + 1
  | _, .leaf, i, d, e, h, k => by simp at k
  | _, .cons (d := a) (e := b) (r := r) t h1 h2, 0, d, e, h, k => by
    simp at h k
    omega
  | _, .cons (d := a) (e := b) (r := r) t h1 h2, i + 1, d, e, h, k => Tr.step t i d e (by simpa using h) (by simpa using k)
theorem Tr.bound : ∀ {ns : List Int}, Tr ns → ∀ d ∈ ns, d < (ns.length : Int)
  | _, .leaf, d, h => by simp at h; simp [h]
  | _, .cons (d := a) (e := e) (r := r) t h1 h2, d, h => by
    have q := Tr.bound t
    rcases List.mem_cons.mp h with z | z
    · have q1 := q e (List.mem_cons_self)
      simp only [List.length_cons] at q1 ⊢
      omega
    · have q1 := q d z
      simp only [List.length_cons] at q1 ⊢
      omega
/-- n - 1, .., 1, 0 -/
def downs : Nat → List Int
  | 0 => []
  | n + 1 => (n : Int) :: downs n
theorem downs_len : ∀ n, (downs n).length = n
  | 0 => rfl
  | n + 1 => by rw [downs, List.length_cons, downs_len n]
theorem downs_tr : ∀ n, Tr (downs (n + 1))
  | 0 => .leaf
  | n + 1 => by
    have q := downs_tr n
    rw [downs] at q ⊢
    rw [downs]
    exact .cons q (by omega) (by omega)
theorem downs_get : ∀ (n i : Nat), i < n → (downs n)[i]? = some ((n : Int) - 1 - i)
  | 0, i, h => by omega
  | n + 1, 0, h => by simp [downs]
  | n + 1, i + 1, h => by
    rw [downs, List.getElem?_cons_succ, downs_get n i (by omega)]
    congr 1
    omega
theorem downs_range (n : Nat) : (List.range n).map (fun k => V.int ((n : Int) - 1 + (k : Nat) * (-1))) = (downs n).map V.int := by
  apply List.ext_getElem?
  intro i
  rw [List.getElem?_map, List.getElem?_map]
  by_cases h : i < n
  · rw [List.getElem?_range h, downs_get n i h]
    simp
    omega
  · rw [List.getElem?_eq_none (by simpa using h), List.getElem?_eq_none (by rw [downs_len]; omega)]
    rfl
theorem ex_int {ns : List Int} {i : Nat} {x : V} (h : (ns.map V.int)[i]? = some x) : ∃ d, ns[i]? = some d ∧ x = V.int d := by
  rw [List.getElem?_map] at h
  cases z : ns[i]? with
  | none => rw [z] at h; cases h
  | some d => rw [z] at h; exact ⟨d, rfl, (Option.some.inj h).symm⟩
/-- the mark of a left depth -/
def mk (d t r : Int) : Int := if d < t then d else t + (d - t) % r

def topS (i : Nat) : Stmt := PySem.Challenge.pw_cutfolds_k05_marks.main.body.getD i (.Pass ⟨0, 0, 0, 0⟩)
abbrev s_is_whole : Stmt := topS 9
abbrev N_is_whole : List Str := ["thing"]
theorem sc_is_whole : FnScope ["thing"] ["thing"] (defScope s_is_whole) := ⟨rfl, rfl, rfl, by decide +kernel, rfl, by decide +kernel, by decide +kernel⟩
abbrev s_is_whole_within : Stmt := topS 10
abbrev N_is_whole_within : List Str := ["thing", "least", "most"]
theorem sc_is_whole_within : FnScope ["thing", "least", "most"] ["thing", "least", "most"] (defScope s_is_whole_within) := ⟨rfl, rfl, rfl, by decide +kernel, rfl, by decide +kernel, by decide +kernel⟩
abbrev s_check_number : Stmt := topS 11
abbrev N_check_number : List Str := ["number", "least", "most"]
theorem sc_check_number : FnScope ["number", "least", "most"] ["number", "least", "most"] (defScope s_check_number) := ⟨rfl, rfl, rfl, by decide +kernel, rfl, by decide +kernel, by decide +kernel⟩
abbrev s_check_tail : Stmt := topS 12
abbrev N_check_tail : List Str := ["tail"]
theorem sc_check_tail : FnScope ["tail"] ["tail"] (defScope s_check_tail) := ⟨rfl, rfl, rfl, by decide +kernel, rfl, by decide +kernel, by decide +kernel⟩
abbrev s_check_ring : Stmt := topS 13
abbrev N_check_ring : List Str := ["ring"]
theorem sc_check_ring : FnScope ["ring"] ["ring"] (defScope s_check_ring) := ⟨rfl, rfl, rfl, by decide +kernel, rfl, by decide +kernel, by decide +kernel⟩
abbrev s_check_tree : Stmt := topS 14
abbrev N_check_tree : List Str := ["tree", "last", "index", "depth"]
theorem sc_check_tree : FnScope ["tree", "last", "index", "depth"] ["tree"] (defScope s_check_tree) := ⟨rfl, rfl, rfl, by decide +kernel, rfl, by decide +kernel, by decide +kernel⟩
abbrev s_left_fold : Stmt := topS 16
abbrev N_left_fold : List Str := ["number"]
theorem sc_left_fold : FnScope ["number"] ["number"] (defScope s_left_fold) := ⟨rfl, rfl, rfl, by decide +kernel, rfl, by decide +kernel, by decide +kernel⟩
abbrev s_mark_of : Stmt := topS 21
abbrev N_mark_of : List Str := ["depth", "tail", "ring"]
theorem sc_mark_of : FnScope ["depth", "tail", "ring"] ["depth", "tail", "ring"] (defScope s_mark_of) := ⟨rfl, rfl, rfl, by decide +kernel, rfl, by decide +kernel, by decide +kernel⟩
abbrev s_mark : Stmt := topS 18
abbrev N_mark : List Str := ["depth", "tail", "ring"]
theorem sc_mark : FnScope ["depth", "tail", "ring"] ["depth", "tail", "ring"] (defScope s_mark) := ⟨rfl, rfl, rfl, by decide +kernel, rfl, by decide +kernel, by decide +kernel⟩
abbrev s_marks_of : Stmt := topS 19
abbrev N_marks_of : List Str := ["tree", "tail", "ring", "depth"]
theorem sc_marks_of : FnScope ["tree", "tail", "ring", "depth"] ["tree", "tail", "ring"] (defScope s_marks_of) := ⟨rfl, rfl, rfl, by decide +kernel, rfl, by decide +kernel, by decide +kernel⟩
abbrev s_fold_marks : Stmt := topS 20
abbrev N_fold_marks : List Str := ["number", "tail", "ring"]
theorem sc_fold_marks : FnScope ["number", "tail", "ring"] ["number", "tail", "ring"] (defScope s_fold_marks) := ⟨rfl, rfl, rfl, by decide +kernel, rfl, by decide +kernel, by decide +kernel⟩
abbrev s_l_draws : Stmt := topS 23
abbrev N_l_draws : List Str := ["_law_cell"]
theorem sc_l_draws : FnScope ["_law_cell"] ["_law_cell"] (defScope s_l_draws) := ⟨rfl, rfl, rfl, by decide +kernel, rfl, by decide +kernel, by decide +kernel⟩
abbrev s_l_next : Stmt := topS 24
abbrev N_l_next : List Str := ["_law_draws_here", "_law_k", "_law_drawn"]
theorem sc_l_next : FnScope ["_law_draws_here", "_law_k", "_law_drawn"] ["_law_draws_here"] (defScope s_l_next) := ⟨rfl, rfl, rfl, by decide +kernel, rfl, by decide +kernel, by decide +kernel⟩
abbrev s_l_tree : Stmt := topS 25
abbrev N_l_tree : List Str := ["_law_draws_here", "_law_many", "_law_shape", "_law_told", "_law_at", "_law_pick", "_law_most", "_law_a_depth"]
theorem sc_l_tree : FnScope ["_law_draws_here", "_law_many", "_law_shape", "_law_told", "_law_at", "_law_pick", "_law_most", "_law_a_depth"] ["_law_draws_here", "_law_many"] (defScope s_l_tree) := ⟨rfl, rfl, rfl, by decide +kernel, rfl, by decide +kernel, by decide +kernel⟩
abbrev s_l_cycle : Stmt := topS 26
abbrev N_l_cycle : List Str := ["_law_draws_here", "_law_pick", "_law_a_tail"]
theorem sc_l_cycle : FnScope ["_law_draws_here", "_law_pick", "_law_a_tail"] ["_law_draws_here"] (defScope s_l_cycle) := ⟨rfl, rfl, rfl, by decide +kernel, rfl, by decide +kernel, by decide +kernel⟩
abbrev s_l_mark : Stmt := topS 27
abbrev N_l_mark : List Str := ["_law_a_depth", "_law_a_tail", "_law_a_ring", "_law_told", "_law_turn"]
theorem sc_l_mark : FnScope ["_law_a_depth", "_law_a_tail", "_law_a_ring", "_law_told", "_law_turn"] ["_law_a_depth", "_law_a_tail", "_law_a_ring"] (defScope s_l_mark) := ⟨rfl, rfl, rfl, by decide +kernel, rfl, by decide +kernel, by decide +kernel⟩
abbrev s_l_right : Stmt := topS 28
abbrev N_l_right : List Str := ["_law_draws_here", "_law_a_tail", "_law_a_ring", "_law_a_tree", "_law_kept", "_law_due", "_law_told", "_law_many", "_law_deep", "_law_around", "_law_a_depth", "_law_at"]
theorem sc_l_right : FnScope ["_law_draws_here", "_law_a_tail", "_law_a_ring", "_law_a_tree", "_law_kept", "_law_due", "_law_told", "_law_many", "_law_deep", "_law_around", "_law_a_depth", "_law_at"] ["_law_draws_here", "_law_a_tail", "_law_a_ring"] (defScope s_l_right) := ⟨rfl, rfl, rfl, by decide +kernel, rfl, by decide +kernel, by decide +kernel⟩
abbrev s_law : Stmt := topS 29
abbrev N_law : List Str := ["_law_script", "_law_draws_here", "_law_turn", "_law_a_tail", "_law_a_ring", "_law_cell", "_law_a_depth"]
theorem sc_law : FnScope ["_law_script", "_law_draws_here", "_law_turn", "_law_a_tail", "_law_a_ring", "_law_cell", "_law_a_depth"] ["_law_script"] (defScope s_law) := ⟨rfl, rfl, rfl, by decide +kernel, rfl, by decide +kernel, by decide +kernel⟩
/-- the built-ins and constants that are meant -/
structure Bt (mg : Str → Option Value) : Prop where
  b_bool : mg "bool" = none
  b_enumerate : mg "enumerate" = none
  b_int : mg "int" = none
  b_isinstance : mg "isinstance" = none
  b_len : mg "len" = none
  b_list : mg "list" = none
  b_max : mg "max" = none
  b_min : mg "min" = none
  b_range : mg "range" = none
  b_repr : mg "repr" = none
  x_MOST_LEAVES : ∃ t, mg "MOST_LEAVES" = some (.int 40 t)
  x_MOST_RING : ∃ t, mg "MOST_RING" = some (.int 10000 t)
  x_MOST_TAIL : ∃ t, mg "MOST_TAIL" = some (.int 40 t)
theorem Bt.c_MOST_LEAVES {mg : Str → Option Value} (T : Bt mg) : mg "MOST_LEAVES" = some (.int 40 (Classical.choose T.x_MOST_LEAVES)) := Classical.choose_spec T.x_MOST_LEAVES
theorem Bt.c_MOST_RING {mg : Str → Option Value} (T : Bt mg) : mg "MOST_RING" = some (.int 10000 (Classical.choose T.x_MOST_RING)) := Classical.choose_spec T.x_MOST_RING
theorem Bt.c_MOST_TAIL {mg : Str → Option Value} (T : Bt mg) : mg "MOST_TAIL" = some (.int 40 (Classical.choose T.x_MOST_TAIL)) := Classical.choose_spec T.x_MOST_TAIL
/-- a def that is called, with its promise -/
structure Callee (P : Program) (w : World) (K : PySem.W.Frag) (mg : Str → Option Value) (base : Heap) (CX : CXT) (lev : Nat) (x : Str) (ps : List Str) (sp : Sp) where
  f : Addr
  fd : FuncData
  ok : FnG P w K mg base CX lev f fd ps sp
  mg : mg x = some (.ref f)
  kp : PySem.W.keepIn K (.ref f) = true
  bd : Binds K fd ps []
def pk_marks_of_ring_tail_tree {α : Type} : List α → List α | [a0, a1, a2] => [a2, a1, a0] | _ => []
def pk_fold_marks_ring_tail_number {α : Type} : List α → List α | [a0, a1, a2] => [a2, a1, a0] | _ => []
def pk_mark_ring_tail_depth {α : Type} : List α → List α | [a0, a1, a2] => [a2, a1, a0] | _ => []
section
variable {P : Program} {w : World} {K : PySem.W.Frag} {mg : Str → Option Value} {base : Heap}
theorem kit_ii : kitB "int" "int" = some true := by decide +kernel
theorem kit_ib : kitB "int" "bool" = some false := by decide +kernel
theorem kit_bi : kitB "bool" "int" = some true := by decide +kernel
theorem kit_bb : kitB "bool" "bool" = some true := by decide +kernel
theorem kit_ni : kitB "NoneType" "int" = some false := by decide +kernel
theorem kit_si : kitB "str" "int" = some false := by decide +kernel
theorem kit_li : kitB "list" "int" = some false := by decide +kernel
theorem kit_ti : kitB "tuple" "int" = some false := by decide +kernel
theorem kit_ll : kitB "list" "list" = some true := by decide +kernel
def sp_is_whole (K : PySem.W.Frag) : Sp := fun vs H Q _ => ∃ (B : Hp) (x : V) (d : PyData), vs = [x] ∧ Same B H ∧ At B x d ∧ Q (.bl (isI d)) H
theorem ok_is_whole {f : Addr} {fd : FuncData} (F : Fun K "is_whole" "is_whole" s_is_whole f fd) (T : Bt mg) : FnG P w K mg base CX0 1 f fd ["thing"] (sp_is_whole K) := by
  refine okN F sc_is_whole (fun vs H Q E h => ?_) (fun cdv A out s H vs Q E hc hr h => ?_)
  · obtain ⟨B, x, d, rfl, hB, hx, q⟩ := h
    rfl
  obtain ⟨B, x, d, rfl, hB, hx, q⟩ := h
  have hu200 := u200 hr
  have hu64 := hr.units
  refine ⟨_, (pss_one (ps_ret (pe_and (pe_callB call_isi (by rfl) T.b_isinstance (by decide +kernel) (pa_cons (pv 0) (pa_cons (pe_bltn (v := .ty "int") (u := .type "int") (by rfl) T.b_int (by decide +kernel) rfl) pa_nil))) (pe_one (pe_not (pe_callB call_isi (by rfl) T.b_isinstance (by decide +kernel) (pa_cons (pv 0) (pa_cons (pe_bltn (v := .ty "bool") (u := .type "bool") (by rfl) T.b_bool (by decide +kernel) rfl) pa_nil)))))))), ?_⟩

  refine ⟨_, rfl, ?_⟩
  cases d with
  | int i =>
    refine ⟨x, .ty "int", _, _, true, rfl, .ty "int", (hx.up hB).ty, kit_ty kit_ii, ?_⟩
    refine ⟨true, rfl, iteT ⟨_, rfl, ?_⟩⟩
    refine ⟨x, .ty "bool", _, _, false, rfl, .ty "bool", (hx.up hB).ty, kit_ty kit_ib, ?_⟩
    exact ⟨_, rfl, q⟩
  | bool b =>
    refine ⟨x, .ty "int", _, _, true, rfl, .ty "int", (hx.up hB).ty, kit_ty kit_bi, ?_⟩
    refine ⟨true, rfl, iteT ⟨_, rfl, ?_⟩⟩
    refine ⟨x, .ty "bool", _, _, true, rfl, .ty "bool", (hx.up hB).ty, kit_ty kit_bb, ?_⟩
    exact ⟨_, rfl, q⟩
  | none => exact ⟨x, .ty "int", _, _, false, rfl, .ty "int", (hx.up hB).ty, kit_ty kit_ni, false, rfl, iteF q⟩
  | str b => exact ⟨x, .ty "int", _, _, false, rfl, .ty "int", (hx.up hB).ty, kit_ty kit_si, false, rfl, iteF q⟩
  | list b => exact ⟨x, .ty "int", _, _, false, rfl, .ty "int", (hx.up hB).ty, kit_ty kit_li, false, rfl, iteF q⟩
  | tuple b => exact ⟨x, .ty "int", _, _, false, rfl, .ty "int", (hx.up hB).ty, kit_ty kit_ti, false, rfl, iteF q⟩
  | dict b => cases hx
def withinD (lo hi : Int) : PyData → Bool
  | .int i => decide (lo ≤ i) && decide (i ≤ hi)
  | _ => false
def sp_is_whole_within (K : PySem.W.Frag) : Sp := fun vs H Q _ => ∃ (B : Hp) (x : V) (d : PyData) (lo hi : Int), vs = [x, .int lo, .int hi] ∧ Same B H ∧ At B x d ∧ Q (.bl (withinD lo hi d)) H
theorem ok_is_whole_within {f : Addr} {fd : FuncData} (F : Fun K "is_whole_within" "is_whole_within" s_is_whole_within f fd) (T : Bt mg) (D_is_whole : Callee P w K mg base CX0 1 "is_whole" ["thing"] (sp_is_whole K)) : FnG P w K mg base CX0 2 f fd ["thing", "least", "most"] (sp_is_whole_within K) := by
  refine okN F sc_is_whole_within (fun vs H Q E h => ?_) (fun cdv A out s H vs Q E hc hr h => ?_)
  · obtain ⟨B, x, d, lo, hi, rfl, hB, hx, q⟩ := h
    rfl
  obtain ⟨B, x, d, lo, hi, rfl, hB, hx, q⟩ := h
  have hu200 := u200 hr
  have hu64 := hr.units
  refine ⟨_, (pss_one (ps_ret (pe_and (pg_call D_is_whole.ok hc (hr.mono (by decide)) (by rfl) D_is_whole.mg D_is_whole.kp D_is_whole.bd pass0 (pa_cons (pv 0) pa_nil)) (pe_one (pe_chain op_le op_le (pv 1) (pv 0) (pv 2)))))), ?_⟩

  refine ⟨_, rfl, B, x, d, rfl, hB, hx, ?_⟩
  cases d with
  | int i =>
    obtain rfl := hx.int_eq
    refine ⟨true, rfl, iteT ?_⟩
    refine ⟨_, rfl, _, rfl, _, _, rfl, rfl, _, rfl, ite2 (fun c => ?_) (fun c => ?_)⟩
    · refine ⟨_, rfl, _, _, rfl, rfl, ?_⟩
      have q2 : Q (.bl (decide (lo ≤ i) && decide (i ≤ hi))) H := q
      rw [show decide (lo ≤ i) = true from c, Bool.true_and] at q2
      exact q2
    · have q2 : Q (.bl (decide (lo ≤ i) && decide (i ≤ hi))) H := q
      rw [show decide (lo ≤ i) = false from Bool.eq_false_iff.mpr c, Bool.false_and] at q2
      exact q2
  | none => exact ⟨false, rfl, iteF q⟩
  | bool b => exact ⟨false, rfl, iteF q⟩
  | str b => exact ⟨false, rfl, iteF q⟩
  | list b => exact ⟨false, rfl, iteF q⟩
  | tuple b => exact ⟨false, rfl, iteF q⟩
  | dict b => exact ⟨false, rfl, iteF q⟩
def sp_check_number (K : PySem.W.Frag) : Sp := fun vs H Q _ => ∃ (i lo hi : Int), vs = [.int i, .int lo, .int hi] ∧ lo ≤ i ∧ i ≤ hi ∧ Q .non H
theorem within_yes {lo hi i : Int} (h1 : lo ≤ i) (h2 : i ≤ hi) : withinD lo hi (.int i) = true := by
  show (decide (lo ≤ i) && decide (i ≤ hi)) = true
  rw [decide_eq_true h1, decide_eq_true h2]
  rfl
theorem ok_check_number {f : Addr} {fd : FuncData} (F : Fun K "check_number" "check_number" s_check_number f fd) (T : Bt mg) (D_is_whole_within : Callee P w K mg base CX0 2 "is_whole_within" ["thing", "least", "most"] (sp_is_whole_within K)) : FnG P w K mg base CX0 3 f fd ["number", "least", "most"] (sp_check_number K) := by
  refine okN F sc_check_number (fun vs H Q E h => ?_) (fun cdv A out s H vs Q E hc hr h => ?_)
  · obtain ⟨i, lo, hi, rfl, h1, h2, q⟩ := h
    rfl
  obtain ⟨i, lo, hi, rfl, h1, h2, q⟩ := h
  have hu200 := u200 hr
  have hu64 := hr.units
  refine ⟨_, (pss_one (ps_if (pt_not (pt_val (pg_call D_is_whole_within.ok hc (hr.mono (by decide)) (by rfl) D_is_whole_within.mg D_is_whole_within.kp D_is_whole_within.bd pass0 (pa_cons (pv 0) (pa_cons (pv 1) (pa_cons (pv 2) pa_nil)))))) pss_never pss_nil)), ?_⟩

  refine ⟨_, rfl, _, rfl, _, rfl, H, _, _, _, _, rfl, Same.refl _, .int i, ?_⟩
  rw [within_yes h1 h2]
  exact ⟨_, rfl, iteF q⟩
def sp_check_tail (K : PySem.W.Frag) : Sp := fun vs H Q _ => ∃ (i : Int), vs = [.int i] ∧ 0 ≤ i ∧ i ≤ 40 ∧ Q .non H
theorem ok_check_tail {f : Addr} {fd : FuncData} (F : Fun K "check_tail" "check_tail" s_check_tail f fd) (T : Bt mg) (D_is_whole_within : Callee P w K mg base CX0 2 "is_whole_within" ["thing", "least", "most"] (sp_is_whole_within K)) : FnG P w K mg base CX0 3 f fd ["tail"] (sp_check_tail K) := by
  refine okN F sc_check_tail (fun vs H Q E h => ?_) (fun cdv A out s H vs Q E hc hr h => ?_)
  · obtain ⟨i, rfl, h1, h2, q⟩ := h
    rfl
  obtain ⟨i, rfl, h1, h2, q⟩ := h
  have hu200 := u200 hr
  have hu64 := hr.units
  refine ⟨_, (pss_one (ps_if (pt_not (pt_val (pg_call D_is_whole_within.ok hc (hr.mono (by decide)) (by rfl) D_is_whole_within.mg D_is_whole_within.kp D_is_whole_within.bd pass0 (pa_cons (pv 0) (pa_cons pe_int (pa_cons (pe_glob (v := .int 40) rfl (T.c_MOST_TAIL) ⟨_, rfl⟩) pa_nil)))))) pss_never pss_nil)), ?_⟩

  refine ⟨_, rfl, H, _, _, _, _, rfl, Same.refl _, .int i, ?_⟩
  rw [within_yes h1 h2]
  exact ⟨_, rfl, iteF q⟩
def sp_check_ring (K : PySem.W.Frag) : Sp := fun vs H Q _ => ∃ (i : Int), vs = [.int i] ∧ 1 ≤ i ∧ i ≤ 10000 ∧ Q .non H
theorem ok_check_ring {f : Addr} {fd : FuncData} (F : Fun K "check_ring" "check_ring" s_check_ring f fd) (T : Bt mg) (D_is_whole_within : Callee P w K mg base CX0 2 "is_whole_within" ["thing", "least", "most"] (sp_is_whole_within K)) : FnG P w K mg base CX0 3 f fd ["ring"] (sp_check_ring K) := by
  refine okN F sc_check_ring (fun vs H Q E h => ?_) (fun cdv A out s H vs Q E hc hr h => ?_)
  · obtain ⟨i, rfl, h1, h2, q⟩ := h
    rfl
  obtain ⟨i, rfl, h1, h2, q⟩ := h
  have hu200 := u200 hr
  have hu64 := hr.units
  refine ⟨_, (pss_one (ps_if (pt_not (pt_val (pg_call D_is_whole_within.ok hc (hr.mono (by decide)) (by rfl) D_is_whole_within.mg D_is_whole_within.kp D_is_whole_within.bd pass0 (pa_cons (pv 0) (pa_cons pe_int (pa_cons (pe_glob (v := .int 10000) rfl (T.c_MOST_RING) ⟨_, rfl⟩) pa_nil)))))) pss_never pss_nil)), ?_⟩

  refine ⟨_, rfl, H, _, _, _, _, rfl, Same.refl _, .int i, ?_⟩
  rw [within_yes h1 h2]
  exact ⟨_, rfl, iteF q⟩
def sp_check_tree (K : PySem.W.Frag) : Sp := fun vs H Q _ => ∃ (B : Hp) (x : V) (ns : List Int), vs = [x] ∧ Same B H ∧ At B x (intsD ns) ∧ Tr ns ∧ ns.length ≤ 40 ∧ ∀ H2, Same H H2 → Q .non H2
theorem ok_check_tree {f : Addr} {fd : FuncData} (F : Fun K "check_tree" "check_tree" s_check_tree f fd) (T : Bt mg) (D_is_whole : Callee P w K mg base CX0 1 "is_whole" ["thing"] (sp_is_whole K)) : FnG P w K mg base CX0 2 f fd ["tree"] (sp_check_tree K) := by
  refine okN F sc_check_tree (fun vs H Q E h => ?_) (fun cdv A out s H vs Q E hc hr h => ?_)
  · obtain ⟨B, x, ns, rfl, hB, hx, ht, hl, q⟩ := h
    rfl
  obtain ⟨B, x, ns, rfl, hB, hx, ht, hl, q⟩ := h
  have hu200 := u200 hr
  have hu64 := hr.units
  refine ⟨_, (pss_cons (ps_if (PW.pt (pw_or (pt_not (pt_val (pe_callB call_isi (by rfl) T.b_isinstance (by decide +kernel) (pa_cons (pv 0) (pa_cons (pe_bltn (v := .ty "list") (u := .type "list") (by rfl) T.b_list (by decide +kernel) rfl) pa_nil))))) (pw_or1 (pt_not (pt_chain op_le op_le pe_int (pe_callB call_len_seq (by rfl) T.b_len PySem.boot_len (pa_cons (pv 0) pa_nil)) (pe_glob (v := .int 40) rfl (T.c_MOST_LEAVES) ⟨_, rfl⟩)))))) pss_never pss_nil)
    (pss_cons (ps_set (i := 1) sc_check_tree.nd rfl (.inl rfl) (pe_op op_sub (pe_callB call_len_seq (by rfl) T.b_len PySem.boot_len (pa_cons (pv 0) pa_nil)) pe_int))
    (pss_cons (ps_for PassesOwn.never rfl (pi_enum (by rfl) T.b_enumerate (pa_cons (pv 0) pa_nil)) (pg_tup rfl (pgs_cons (pg_name (i := 2) sc_check_tree.nd rfl (.inl rfl)) (pgs_cons (pg_name (i := 3) sc_check_tree.nd rfl (.inl rfl)) pgs_nil))) (pss_cons (ps_if (PW.pt (pw_or (pt_not (pt_val (pg_call D_is_whole.ok hc (hr.mono (by decide)) (by rfl) D_is_whole.mg D_is_whole.kp D_is_whole.bd pass0 (pa_cons (pv 3) pa_nil)))) (pw_or1 (pt_cmpR op_lt (pv 3) (pe_ifExp (pt_cmpR op_eq (pv 2) (pv 1) (nomark _)) pe_int pe_int) (nomark _))))) pss_never pss_nil)
    (pss_one (ps_if (PW.pt (pw_and (pt_cmpR op_gt (pv 2) pe_int (nomark _)) (pw_and1 (pt_cmpR op_lt (pv 3) (pe_op op_sub (pe_ix ix_list (pv 0) (pe_op op_sub (pv 2) pe_int) (fun _ _ => rfl)) pe_int) (nomark _))))) pss_never pss_nil))))
    (pss_one (ps_if (pt_cmpR op_ne (pe_ix ix_list (pv 0) (pv 1) (fun _ _ => rfl)) pe_int (nomark _)) pss_never pss_nil))))), ?_⟩

  obtain ⟨p, rfl, hp⟩ := ints_ex hx
  have hp1 := hB _ _ hp
  have h0 := ht.pos
  have hlen : (ns.map V.int).length = ns.length := List.length_map _
  refine ⟨_, rfl, ?_⟩
  refine ⟨_, .ty "list", _, _, true, rfl, .ty "list", (hx.up hB).ty, kit_ty kit_ll, ?_⟩
  refine ⟨true, rfl, iteF ?_⟩
  refine ⟨_, rfl, p, _, rfl, .inl (SqL.of hp1), _, _, rfl, rfl, _, rfl, ite2 (fun c => ?_) (fun c => ?_)⟩
  rotate_left
  · exact absurd (decide_eq_true (show (1 : Int) ≤ ((ns.map V.int).length : Nat) by rw [hlen]; omega)) c
  refine ⟨_, _, rfl, rfl, _, rfl, ?_⟩
  rw [show decide ((((ns.map V.int).length : Nat) : Int) ≤ 40) = true from decide_eq_true (by rw [hlen]; omega)]
  refine iteF ?_
  refine ⟨_, rfl, p, _, rfl, .inl (SqL.of hp1), _, _, rfl, rfl, ?_⟩
  rw [hlen]
  refine ⟨_, rfl, p, ns.map V.int, rfl, SqL.of hp1, for_it walk_enum (fun i σ H2 => ∃ v2 v3, σ = [some (.ref p), some (.int ((ns.length : Int) - 1)), v2, v3] ∧ Same H H2) ⟨none, none, rfl, Same.refl _⟩ (fun i σ H2 _ ⟨_, _, _, s⟩ => SqL.of (s _ _ hp1)) ?_ ?_⟩
  · rintro i x σ H2 H3 hi ⟨v2, v3, rfl, s⟩ ⟨T1, x1, x2, rfl, nT, rfl, e1, e2⟩
    cases e1
    obtain ⟨d, hd, rfl⟩ := ex_int e2
    have s3 : Same H (upd H2 T1 (.tup [.int (i : Nat), .int d])) := s.trans (same_new nT)
    refine ⟨T1, _, rfl, SqT.of upd_same, rfl, _, _, rfl, _, _, rfl, rfl, ?_⟩
    have hi2 : i < ns.length := by rw [← hlen]; exact hi
    have hge := ht.ge i d hd
    refine ⟨_, rfl, _, _, _, rfl, Same.refl _, .int d, _, rfl, iteF ?_⟩
    refine ⟨_, rfl, _, rfl, _, rfl, rfl, _, rfl, ?_⟩
    have last : decide (V.int ((i : Nat) : Int) = V.int ((ns.length : Int) - 1)) = decide (i = ns.length - 1) := by
      by_cases z : i = ns.length - 1
      · rw [decide_eq_true z]
        exact decide_eq_true (by congr 1; omega)
      · rw [decide_eq_false z]
        exact decide_eq_false fun y => z (by have := V.int.inj y; omega)
    have nolow : ∀ b : Int, (if i = ns.length - 1 then 0 else 1) = b → ¬ (decide (d < b) = true) := fun b e z => by
      have := of_decide_eq_true z
      rw [← e] at this
      omega
    rw [last]
    refine ite2 (fun c => ?_) (fun c => ?_)
    all_goals
      refine ⟨_, _, rfl, rfl, _, rfl, ?_⟩
      first
        | refine ite2 (fun c2 => absurd c2 (nolow 0 (if_pos (of_decide_eq_true c)))) (fun c2 => ?_)
        | refine ite2 (fun c2 => absurd c2 (nolow 1 (if_neg fun z => c (decide_eq_true z)))) (fun c2 => ?_)
      refine ⟨_, rfl, _, _, rfl, rfl, _, rfl, ite2 (fun c3 => ?_) (fun c3 => ?_)⟩
      · have ipos : 0 < i := by
          have := of_decide_eq_true c3
          omega
        obtain ⟨d0, hd0⟩ : ∃ d0, ns[i - 1]? = some d0 := ⟨ns[i - 1], List.getElem?_eq_getElem (by omega)⟩
        have hst := ht.step (i - 1) d0 d hd0 (by rw [show i - 1 + 1 = i by omega]; exact hd)
        refine ⟨_, rfl, _, rfl, _, rfl, _, _, rfl, rfl, p, _, _, _, rfl, rfl, SqL.of (s3 _ _ hp1), at_of (j := i - 1) (v := V.int d0) (by omega) (by rw [List.getElem?_map, hd0]; rfl), _, _, rfl, rfl, _, _, rfl, rfl, _, rfl, ?_⟩
        refine ite2 (fun c4 => absurd (of_decide_eq_true c4) (by omega)) (fun c4 => ?_)
        exact ⟨_, _, rfl, s3⟩
      · exact ⟨_, _, rfl, s3⟩
  · rintro σ H2 ⟨v2, v3, rfl, s⟩
    refine ⟨_, rfl, _, rfl, p, _, _, _, rfl, rfl, SqL.of (s _ _ hp1), at_of (j := ns.length - 1) (v := V.int 0) (by omega) (by rw [List.getElem?_map, ht.last]; rfl), rfl, _, rfl, ?_⟩
    exact iteF (q _ s)
def sp_left_fold (K : PySem.W.Frag) : Sp := fun vs H Q _ => ∃ (B : Hp) (n : Int), vs = [.int n] ∧ Same B H ∧ 1 ≤ n ∧ n ≤ 40 ∧ ∀ v B2 H2, Grow B H B2 H2 → At B2 v (intsD (downs n.toNat)) → Q v H2
theorem ok_left_fold {f : Addr} {fd : FuncData} (F : Fun K "left_fold" "left_fold" s_left_fold f fd) (T : Bt mg) (D_check_number : Callee P w K mg base CX0 3 "check_number" ["number", "least", "most"] (sp_check_number K)) : FnG P w K mg base CX0 4 f fd ["number"] (sp_left_fold K) := by
  refine okN F sc_left_fold (fun vs H Q E h => ?_) (fun cdv A out s H vs Q E hc hr h => ?_)
  · obtain ⟨B, n, rfl, hB, h1, h2, q⟩ := h
    rfl
  obtain ⟨B, n, rfl, hB, h1, h2, q⟩ := h
  have hu200 := u200 hr
  have hu64 := hr.units
  refine ⟨_, (pss_cons (ps_expr (pg_call D_check_number.ok hc (hr.mono (by decide)) (by rfl) D_check_number.mg D_check_number.kp D_check_number.bd pass0 (pa_cons (pv 0) (pa_cons pe_int (pa_cons (pe_glob (v := .int 40) rfl (T.c_MOST_LEAVES) ⟨_, rfl⟩) pa_nil)))))
    (pss_one (ps_ret (pe_list_range T.b_list T.b_range (pa_cons (pe_op op_sub (pv 0) pe_int) (pa_cons (pe_un un_neg pe_int) (pa_cons (pe_un un_neg pe_int) pa_nil))))))), ?_⟩

  refine ⟨_, rfl, _, _, _, rfl, h1, h2, ?_⟩
  refine ⟨_, rfl, _, _, rfl, rfl, _, rfl, _, rfl, _, _, _, _, rfl, RgC.neg (by omega) (by omega) (by omega) (by omega), by omega, fun p hp => ?_⟩
  refine q _ _ _ (Grow.new hB hp) (ints_at ?_)
  rw [upd_same]
  have e := downs_range n.toNat
  rw [show ((n.toNat : Nat) : Int) = n by omega] at e
  rw [← e]
  rw [show (n - 1 - -1).toNat = n.toNat by omega]
def sp_mark_of (K : PySem.W.Frag) : Sp := fun vs H Q _ => ∃ (d t r : Int), vs = [.int d, .int t, .int r] ∧ 0 < r ∧ Q (.int (mk d t r)) H
theorem ok_mark_of {f : Addr} {fd : FuncData} (F : Fun K "_mark_of" "_mark_of" s_mark_of f fd) (T : Bt mg) : FnG P w K mg base CX0 1 f fd ["depth", "tail", "ring"] (sp_mark_of K) := by
  refine okN F sc_mark_of (fun vs H Q E h => ?_) (fun cdv A out s H vs Q E hc hr h => ?_)
  · obtain ⟨d, t, r, rfl, hr0, q⟩ := h
    rfl
  obtain ⟨d, t, r, rfl, hr0, q⟩ := h
  have hu200 := u200 hr
  have hu64 := hr.units
  refine ⟨_, (pss_cons (ps_if (pt_cmpR op_lt (pv 0) (pv 1) (nomark _)) (pss_one (ps_ret (pv 0))) pss_nil)
    (pss_one (ps_ret (pe_op op_add (pv 1) (pe_op op_mod (pe_op op_sub (pv 0) (pv 1)) (pv 2)))))), ?_⟩

  refine ⟨_, rfl, _, rfl, _, _, rfl, rfl, _, rfl, ite2 (fun c => ?_) (fun c => ?_)⟩
  · rw [show mk d t r = d from if_pos (of_decide_eq_true c)] at q
    exact ⟨_, rfl, q⟩
  · rw [show mk d t r = t + (d - t) % r from if_neg fun z => c (decide_eq_true z)] at q
    exact ⟨_, rfl, _, rfl, _, rfl, _, _, rfl, rfl, _, rfl, _, _, rfl, rfl, hr0, _, _, rfl, rfl, q⟩
def sp_mark (K : PySem.W.Frag) : Sp := fun vs H Q _ => ∃ (d t r : Int), vs = [.int d, .int t, .int r] ∧ 0 ≤ d ∧ 0 ≤ t ∧ t ≤ 40 ∧ 1 ≤ r ∧ r ≤ 10000 ∧ Q (.int (mk d t r)) H
theorem ok_mark {f : Addr} {fd : FuncData} (F : Fun K "mark" "mark" s_mark f fd) (T : Bt mg) (D_is_whole : Callee P w K mg base CX0 1 "is_whole" ["thing"] (sp_is_whole K)) (D_check_tail : Callee P w K mg base CX0 3 "check_tail" ["tail"] (sp_check_tail K)) (D_check_ring : Callee P w K mg base CX0 3 "check_ring" ["ring"] (sp_check_ring K)) (D__mark_of : Callee P w K mg base CX0 1 "_mark_of" ["depth", "tail", "ring"] (sp_mark_of K)) : FnG P w K mg base CX0 4 f fd ["depth", "tail", "ring"] (sp_mark K) := by
  refine okN F sc_mark (fun vs H Q E h => ?_) (fun cdv A out s H vs Q E hc hr h => ?_)
  · obtain ⟨d, t, r, rfl, hd, t0, t1, r0, r1, q⟩ := h
    rfl
  obtain ⟨d, t, r, rfl, hd, t0, t1, r0, r1, q⟩ := h
  have hu200 := u200 hr
  have hu64 := hr.units
  refine ⟨_, (pss_cons (ps_if (PW.pt (pw_or (pt_not (pt_val (pg_call D_is_whole.ok hc (hr.mono (by decide)) (by rfl) D_is_whole.mg D_is_whole.kp D_is_whole.bd pass0 (pa_cons (pv 0) pa_nil)))) (pw_or1 (pt_cmpR op_lt (pv 0) pe_int (nomark _))))) pss_never pss_nil)
    (pss_cons (ps_expr (pg_call D_check_tail.ok hc (hr.mono (by decide)) (by rfl) D_check_tail.mg D_check_tail.kp D_check_tail.bd pass0 (pa_cons (pv 1) pa_nil)))
    (pss_cons (ps_expr (pg_call D_check_ring.ok hc (hr.mono (by decide)) (by rfl) D_check_ring.mg D_check_ring.kp D_check_ring.bd pass0 (pa_cons (pv 2) pa_nil)))
    (pss_one (ps_ret (pg_call D__mark_of.ok hc (hr.mono (by decide)) (by rfl) D__mark_of.mg D__mark_of.kp D__mark_of.bd pass0 (pa_cons (pv 0) (pa_cons (pv 1) (pa_cons (pv 2) pa_nil))))))))), ?_⟩

  refine ⟨_, rfl, H, _, _, rfl, Same.refl _, .int d, _, rfl, iteF ?_⟩
  refine ⟨_, rfl, _, _, rfl, rfl, _, rfl, ite2 (fun c => absurd (of_decide_eq_true c) (by omega)) (fun c => ?_)⟩
  refine ⟨_, rfl, _, rfl, t0, t1, _, rfl, _, rfl, r0, r1, _, rfl, _, rfl, _, rfl, _, _, _, rfl, by omega, q⟩
def sp_marks_of (K : PySem.W.Frag) : Sp := fun vs H Q _ => ∃ (B : Hp) (x : V) (ns : List Int) (t r : Int), vs = [x, .int t, .int r] ∧ Same B H ∧ At B x (intsD ns) ∧ Tr ns ∧ ns.length ≤ 40 ∧ 0 ≤ t ∧ t ≤ 40 ∧ 1 ≤ r ∧ r ≤ 10000 ∧
  ∀ p B2 H2, H p = Option.none → Grow B H B2 H2 → At B2 (.ref p) (intsD (ns.map fun d => mk d t r)) → Q (.ref p) H2
theorem ok_marks_of {f : Addr} {fd : FuncData} (F : Fun K "marks_of" "marks_of" s_marks_of f fd) (T : Bt mg) (D_check_tail : Callee P w K mg base CX0 3 "check_tail" ["tail"] (sp_check_tail K)) (D_check_ring : Callee P w K mg base CX0 3 "check_ring" ["ring"] (sp_check_ring K)) (D_check_tree : Callee P w K mg base CX0 2 "check_tree" ["tree"] (sp_check_tree K)) (D__mark_of : Callee P w K mg base CX0 1 "_mark_of" ["depth", "tail", "ring"] (sp_mark_of K)) : FnG P w K mg base CX0 4 f fd ["tree", "tail", "ring"] (sp_marks_of K) := by
  refine okN F sc_marks_of (fun vs H Q E h => ?_) (fun cdv A out s H vs Q E hc hr h => ?_)
  · obtain ⟨B, x, ns, t, r, rfl, hB, hx, ht, hl, t0, t1, r0, r1, q⟩ := h
    rfl
  obtain ⟨B, x, ns, t, r, rfl, hB, hx, ht, hl, t0, t1, r0, r1, q⟩ := h
  have hu200 := u200 hr
  have hu64 := hr.units
  refine ⟨_, (pss_cons (ps_expr (pg_call D_check_tree.ok hc (hr.mono (by decide)) (by rfl) D_check_tree.mg D_check_tree.kp D_check_tree.bd pass0 (pa_cons (pv 0) pa_nil)))
    (pss_cons (ps_expr (pg_call D_check_tail.ok hc (hr.mono (by decide)) (by rfl) D_check_tail.mg D_check_tail.kp D_check_tail.bd pass0 (pa_cons (pv 1) pa_nil)))
    (pss_cons (ps_expr (pg_call D_check_ring.ok hc (hr.mono (by decide)) (by rfl) D_check_ring.mg D_check_ring.kp D_check_ring.bd pass0 (pa_cons (pv 2) pa_nil)))
    (pss_one (ps_ret (pe_lc (own := [("depth", 3)]) (g := (gName 3)) (tt := tYes) (by rfl) sc_marks_of.nd (pi_list (pv 0)) (blkOk_by (own := [("depth", 3)]) (N := N_marks_of) (sc := defScope s_marks_of) (by decide +kernel)) (fun _ _ _ _ _ => (pg_name (i := 3) sc_marks_of.nd rfl (.inl rfl))) (fun _ _ _ _ _ => pts_nil) (fun _ _ _ _ _ => (pg_call D__mark_of.ok hc (hr.mono (by decide)) (by rfl) D__mark_of.mg D__mark_of.kp D__mark_of.bd pass0 (pa_cons (pv 3) (pa_cons (pv 1) (pa_cons (pv 2) pa_nil))))))))))), ?_⟩

  obtain ⟨p, rfl, hp⟩ := ints_ex hx
  refine ⟨_, rfl, B, _, ns, rfl, hB, hx, ht, hl, fun H1 s1 => ?_⟩
  refine ⟨_, rfl, _, rfl, t0, t1, _, rfl, _, rfl, r0, r1, ?_⟩
  have hp1 := s1 _ _ (hB _ _ hp)
  refine ⟨_, rfl, p, rfl, ⟨_, SqL.of hp1⟩, fun D hD => ?_⟩
  refine lc_ints (fun d => .int (mk d t r)) (hB.trans s1) hD (by omega) (SqL.of hp1) (fun d B2 H3 hd s2 s3 s4 fr R k => ?_) (fun B2 H2 g2 h2 => ?_)
  · exact ⟨rfl, _, rfl, _, rfl, _, rfl, _, _, _, rfl, by omega, k _ B2 H3 (Grow.refl s3) (.int _)⟩
  · refine q D B2 H2 (s1.free hD) ⟨g2.bb, g2.bh, s1.trans g2.hh, fun b hb e => g2.fr b (ne_none_of s1 hb) e⟩ ?_
    rw [show intsD (ns.map fun d => mk d t r) = PyData.list (ns.map fun d => PyData.int (mk d t r)) by unfold intsD; rw [List.map_map]; rfl]
    exact h2
def sp_fold_marks (K : PySem.W.Frag) : Sp := fun vs H Q _ => ∃ (B : Hp) (n t r : Int), vs = [.int n, .int t, .int r] ∧ Same B H ∧ 1 ≤ n ∧ n ≤ 40 ∧ 0 ≤ t ∧ t ≤ 40 ∧ 1 ≤ r ∧ r ≤ 10000 ∧
  ∀ p B2 H2, H p = Option.none → Grow B H B2 H2 → At B2 (.ref p) (intsD ((downs n.toNat).map fun d => mk d t r)) → Q (.ref p) H2
theorem ok_fold_marks {f : Addr} {fd : FuncData} (F : Fun K "fold_marks" "fold_marks" s_fold_marks f fd) (T : Bt mg) (D_left_fold : Callee P w K mg base CX0 4 "left_fold" ["number"] (sp_left_fold K)) (D_marks_of : Callee P w K mg base CX0 4 "marks_of" ["tree", "tail", "ring"] (sp_marks_of K)) : FnG P w K mg base CX0 5 f fd ["number", "tail", "ring"] (sp_fold_marks K) := by
  refine okN F sc_fold_marks (fun vs H Q E h => ?_) (fun cdv A out s H vs Q E hc hr h => ?_)
  · obtain ⟨B, n, t, r, rfl, hB, n0, n1, t0, t1, r0, r1, q⟩ := h
    rfl
  obtain ⟨B, n, t, r, rfl, hB, n0, n1, t0, t1, r0, r1, q⟩ := h
  have hu200 := u200 hr
  have hu64 := hr.units
  refine ⟨_, (pss_one (ps_ret (pg_call D_marks_of.ok hc (hr.mono (by decide)) (by rfl) D_marks_of.mg D_marks_of.kp D_marks_of.bd pass0 (pa_cons (pg_call D_left_fold.ok hc (hr.mono (by decide)) (by rfl) D_left_fold.mg D_left_fold.kp D_left_fold.bd pass0 (pa_cons (pv 0) pa_nil)) (pa_cons (pv 1) (pa_cons (pv 2) pa_nil)))))), ?_⟩

  refine ⟨_, rfl, B, n, rfl, hB, n0, n1, fun v B2 H2 G hv => ?_⟩
  have ht : Tr (downs n.toNat) := by
    obtain ⟨m, hm⟩ : ∃ m, n.toNat = m + 1 := ⟨n.toNat - 1, by omega⟩
    rw [hm]
    exact downs_tr m
  refine ⟨_, rfl, _, rfl, B2, v, downs n.toNat, t, r, rfl, G.bh, hv, ht, by rw [downs_len]; omega, t0, t1, r0, r1, fun p B3 H3 np G3 h3 => ?_⟩
  exact q p B3 H3 (G.hh.free np) (G.trans G3) h3
def sp_l_draws (K : PySem.W.Frag) : Sp := fun vs H Q _ => ∃ (c : Int), vs = [.int c] ∧ ∀ p H2, Same H H2 → H p = Option.none → DrawsAt H2 p 0 → Q (.ref p) H2
theorem ok_l_draws {f : Addr} {fd : FuncData} (F : Fun K "_law_draws" "_law_draws" s_l_draws f fd) (T : Bt mg) : FnG P w K mg base CX0 1 f fd ["_law_cell"] (sp_l_draws K) := by
  refine okN F sc_l_draws (fun vs H Q E h => ?_) (fun cdv A out s H vs Q E hc hr h => ?_)
  · obtain ⟨c, rfl, q⟩ := h
    rfl
  obtain ⟨c, rfl, q⟩ := h
  have hu200 := u200 hr
  have hu64 := hr.units
  refine ⟨_, (pss_one (ps_ret (pe_lst (pa_cons (pe_op op_mod (pe_callTy call_int1 (by rfl) T.b_int (by decide +kernel) (pa_cons (pv 0) pa_nil)) (pe_op op_powW (pe_op op_powW (pe_op op_powW pe_int pe_int) pe_int) pe_int)) (pa_cons pe_int (pa_cons (pe_cmpR op_ge (pv 0) (pe_op op_powW pe_int pe_int) (nomark _)) pa_nil)))))), ?_⟩

  refine ⟨_, rfl, .inl ⟨_, rfl, ?_⟩⟩
  refine ⟨_, _, rfl, rfl, ⟨by decide, by decide +kernel⟩, _, _, rfl, rfl, ⟨by decide, by decide +kernel⟩, _, _, rfl, rfl, ⟨by decide, by decide +kernel⟩, _, _, rfl, rfl, (by show (0 : Int) < _; decide +kernel), ?_⟩
  refine ⟨_, rfl, _, _, rfl, rfl, ⟨by decide, by decide +kernel⟩, _, _, rfl, rfl, ?_⟩
  refine ⟨by show 3 ≤ sizeLine; decide, fun p hp => ?_⟩
  exact q p _ (same_new hp) hp ⟨_, _, _, upd_same, by omega, by omega⟩
def sp_l_next (K : PySem.W.Frag) : Sp := fun vs H Q _ => ∃ (p : Addr) (n : Int), vs = [.ref p] ∧ DrawsAt H p n ∧ n ≤ 1000000000 ∧ ∀ r H2, 0 ≤ r → r < 400000000 → Turn p H H2 → DrawsAt H2 p (n + 1) → Q (.int r) H2
theorem at3 {a b c : V} : atI [a, b, c] 0 = some a ∧ atI [a, b, c] 1 = some b ∧ atI [a, b, c] 2 = some c := ⟨atI_nat (j := 0) rfl, atI_nat (j := 1) rfl, atI_nat (j := 2) rfl⟩
theorem ok_l_next {f : Addr} {fd : FuncData} (F : Fun K "_law_next" "_law_next" s_l_next f fd) (T : Bt mg) : FnG P w K mg base CX0 1 f fd ["_law_draws_here"] (sp_l_next K) := by
  refine okN F sc_l_next (fun vs H Q E h => ?_) (fun cdv A out s H vs Q E hc hr h => ?_)
  · obtain ⟨p, n, rfl, hd, hn, q⟩ := h
    rfl
  obtain ⟨p, n, rfl, hd, hn, q⟩ := h
  have hu200 := u200 hr
  have hu64 := hr.units
  refine ⟨_, (pss_cons (ps_asg (pe_op op_add (pe_ix ix_list (pv 0) pe_int (fun _ _ => rfl)) pe_int) (pg_sub (pv 0) pe_int set_list))
    (pss_cons (ps_set (i := 1) sc_l_next.nd rfl (.inl rfl) (pe_ix ix_list (pv 0) pe_int (fun _ _ => rfl)))
    (pss_cons (ps_if (pt_truth (pe_ix ix_list (pv 0) pe_int (fun _ _ => rfl)) (by intro _; rfl)) (pss_cons (ps_set (i := 2) sc_l_next.nd rfl (.inl rfl) (pe_op op_mod (pe_callTy call_int1 (by rfl) T.b_int (by decide +kernel) (pa_cons (pe_ix ix_list (pv 0) pe_int (fun _ _ => rfl)) pa_nil)) (pe_op op_powW pe_int pe_int)))
    (pss_cons (ps_asg (pe_op op_fdiv (pe_ix ix_list (pv 0) pe_int (fun _ _ => rfl)) (pe_op op_powW pe_int pe_int)) (pg_sub (pv 0) pe_int set_list))
    (pss_one (ps_ret (pv 2))))) pss_nil)
    (pss_cons (ps_set (i := 2) sc_l_next.nd rfl (.inl rfl) (pe_op op_mod (pe_callTy call_int1 (by rfl) T.b_int (by decide +kernel) (pa_cons (pe_op op_mul (pe_op op_add (pe_op op_add (pe_op op_mod (pe_callTy call_int1 (by rfl) T.b_int (by decide +kernel) (pa_cons (pe_ix ix_list (pv 0) pe_int (fun _ _ => rfl)) pa_nil)) pe_int) (pe_op op_mul (pe_op op_mul (pv 1) (pv 1)) pe_int)) (pv 1)) pe_int) pa_nil)) pe_int))
    (pss_cons (ps_set (i := 2) sc_l_next.nd rfl (.inl rfl) (pe_op op_mod (pe_callTy call_int1 (by rfl) T.b_int (by decide +kernel) (pa_cons (pe_op op_mul (pv 2) (pv 2)) pa_nil)) pe_int))
    (pss_one (ps_ret (pe_op op_fdiv (pe_op op_mod (pe_callTy call_int1 (by rfl) T.b_int (by decide +kernel) (pa_cons (pe_op op_mul (pv 2) (pe_op op_add (pv 2) pe_int)) pa_nil)) pe_int) pe_int)))))))), ?_⟩

  obtain ⟨a, k, b, hp, k0, kn⟩ := hd
  -- the count
  refine ⟨_, rfl, p, _, _, _, rfl, rfl, SqL.of hp, at3.2.1, _, _, rfl, rfl, _, rfl, p, _, _, 1, rfl, rfl, hp, rfl, ?_⟩
  have hp1 : upd H p (.lst [.int a, .int (k + 1), .bl b]) p = some (.lst [.int a, .int (k + 1), .bl b]) := upd_same
  have t1 : Turn p H (upd H p (.lst [.int a, .int (k + 1), .bl b])) := Turn.upd hp
  refine ⟨_, rfl, p, _, _, _, rfl, rfl, SqL.of hp1, at3.2.1, ?_⟩
  refine ⟨_, rfl, p, _, _, _, rfl, rfl, SqL.of hp1, at3.2.2, ?_⟩
  refine ⟨b, rfl, ?_⟩
  cases b with
  | true =>
    refine iteT ?_
    refine ⟨_, rfl, p, _, _, _, rfl, rfl, SqL.of hp1, at3.1, .inl ⟨_, rfl, ?_⟩⟩
    refine ⟨_, _, rfl, rfl, ⟨by decide, by decide +kernel⟩, _, _, rfl, rfl, (by show (0 : Int) < _; decide), ?_⟩
    refine ⟨_, rfl, p, _, _, _, rfl, rfl, SqL.of hp1, at3.1, ?_⟩
    refine ⟨_, _, rfl, rfl, ⟨by decide, by decide +kernel⟩, _, _, rfl, rfl, ⟨by decide, by decide⟩, _, rfl, p, _, _, 0, rfl, rfl, hp1, rfl, ?_⟩
    have m0 := Int.emod_nonneg a (show (10 : Int) ^ (6 : Int).toNat ≠ 0 by decide)
    have m1 := Int.emod_lt_of_pos a (show (0 : Int) < (10 : Int) ^ (6 : Int).toNat by decide)
    have e6 : (10 : Int) ^ (6 : Int).toNat = 1000000 := by decide
    rw [e6] at m0 m1
    refine ⟨_, rfl, q _ _ (by rw [e6]; exact m0) (by rw [e6]; omega) (t1.trans (Turn.upd hp1)) ⟨_, k + 1, true, upd_same, by omega, by omega⟩⟩
  | false =>
    refine iteF ?_
    refine ⟨_, rfl, p, _, _, _, rfl, rfl, SqL.of hp1, at3.1, .inl ⟨_, rfl, ?_⟩⟩
    refine ⟨_, _, rfl, rfl, (by show (0 : Int) < _; decide), _, rfl, _, rfl, _, _, rfl, rfl, .inl ⟨by omega, by omega⟩, _, _, rfl, rfl, .inr ⟨by decide, by decide⟩, _, _, rfl, rfl, _, rfl, _, _, rfl, rfl, _, _, rfl, rfl, .inr ⟨by decide, by decide⟩, .inl ⟨_, rfl, ?_⟩⟩
    refine ⟨_, _, rfl, rfl, (by show (0 : Int) < _; decide), ?_⟩
    generalize hx : ((a % 1000003 + (k + 1) * (k + 1) * 7919 + (k + 1)) * 48271) % 2147483629 = x
    have x0 : 0 ≤ x := by rw [← hx]; exact Int.emod_nonneg _ (by decide)
    have x1 : x < 2147483629 := by rw [← hx]; exact Int.emod_lt_of_pos _ (by decide)
    refine ⟨_, rfl, _, rfl, _, _, rfl, rfl, .inl ⟨by omega, by omega⟩, .inl ⟨_, rfl, ?_⟩⟩
    refine ⟨_, _, rfl, rfl, (by show (0 : Int) < _; decide), ?_⟩
    generalize hy : (x * x) % 2147483587 = y
    have y0 : 0 ≤ y := by rw [← hy]; exact Int.emod_nonneg _ (by decide)
    have y1 : y < 2147483587 := by rw [← hy]; exact Int.emod_lt_of_pos _ (by decide)
    refine ⟨_, rfl, _, rfl, _, _, rfl, rfl, _, _, rfl, rfl, .inl ⟨by omega, by omega⟩, .inl ⟨_, rfl, ?_⟩⟩
    refine ⟨_, _, rfl, rfl, (by show (0 : Int) < _; decide), _, _, rfl, rfl, ⟨by decide, by decide⟩, ?_⟩
    generalize hz : (y * (y + 2)) % 2147483579 = z
    have z0 : 0 ≤ z := by rw [← hz]; exact Int.emod_nonneg _ (by decide)
    have z1 : z < 2147483579 := by rw [← hz]; exact Int.emod_lt_of_pos _ (by decide)
    exact q _ _ (by omega) (by omega) t1 ⟨_, k + 1, false, hp1, by omega, by omega⟩
def sp_l_tree (K : PySem.W.Frag) : Sp := fun vs H Q _ => ∃ (B : Hp) (p : Addr) (n m : Int), vs = [.ref p, .int m] ∧ Same B H ∧ B p = Option.none ∧ DrawsAt H p n ∧ 0 ≤ n ∧ n ≤ 100000000 ∧ 1 ≤ m ∧ m ≤ 40 ∧
  ∀ v ns B2 H2, Tr ns → (ns.length : Int) = m → GrowP p B H B2 H2 → DrawsAt H2 p (n + m) → At B2 v (intsD ns) → Q v H2
theorem pick4 {a b c d sh : Int} (h0 : 0 ≤ sh) (h4 : sh < 4) {P : Int → Prop} (pa : P a) (pb : P b) (pc : P c) (pd : P d) : ∃ x, atI [V.int a, V.int b, V.int c, V.int d] sh = some (.int x) ∧ P x := by
  rcases (by omega : sh = 0 ∨ sh = 1 ∨ sh = 2 ∨ sh = 3) with e | e | e | e <;> subst e
  · exact ⟨a, atI_nat (j := 0) rfl, pa⟩
  · exact ⟨b, atI_nat (j := 1) rfl, pb⟩
  · exact ⟨c, atI_nat (j := 2) rfl, pc⟩
  · exact ⟨d, atI_nat (j := 3) rfl, pd⟩
theorem pick2 {a b : Int} (k : Bool) {P : Int → Prop} (pa : P a) (pb : P b) : ∃ x, atI [V.int a, V.int b] (if k then 1 else 0) = some (.int x) ∧ P x := by
  cases k
  · exact ⟨a, atI_nat (j := 0) rfl, pa⟩
  · exact ⟨b, atI_nat (j := 1) rfl, pb⟩
theorem Tr.head {ns : List Int} (h : Tr ns) : ∃ e r, ns = e :: r ∧ 0 ≤ e := by
  cases h with
  | leaf => exact ⟨0, [], rfl, by omega⟩
  | cons t h1 h2 => exact ⟨_, _, rfl, by omega⟩
theorem ok_l_tree {f : Addr} {fd : FuncData} (F : Fun K "_law_tree" "_law_tree" s_l_tree f fd) (T : Bt mg) (D__law_next : Callee P w K mg base CX0 1 "_law_next" ["_law_draws_here"] (sp_l_next K)) : FnG P w K mg base CX0 2 f fd ["_law_draws_here", "_law_many"] (sp_l_tree K) := by
  refine okN F sc_l_tree (fun vs H Q E h => ?_) (fun cdv A out s H vs Q E hc hr h => ?_)
  · obtain ⟨B, p, n, m, rfl, hB, hBp, hd, n0, n1, m1, m40, q⟩ := h
    rfl
  obtain ⟨B, p, n, m, rfl, hB, hBp, hd, n0, n1, m1, m40, q⟩ := h
  have hu200 := u200 hr
  have hu64 := hr.units
  refine ⟨_, (pss_cons (ps_set (i := 2) sc_l_tree.nd rfl (.inl rfl) (pe_op op_mod (pe_callTy call_int1 (by rfl) T.b_int (by decide +kernel) (pa_cons (pg_call D__law_next.ok hc (hr.mono (by decide)) (by rfl) D__law_next.mg D__law_next.kp D__law_next.bd pass0 (pa_cons (pv 0) pa_nil)) pa_nil)) pe_int))
    (pss_cons (ps_set (i := 3) sc_l_tree.nd rfl (.inl rfl) (pe_lst (pa_cons pe_int pa_nil)))
    (pss_cons (ps_for PassesOwn.never rfl (pi_range2 (by rfl) T.b_range (pa_cons pe_int (pa_cons (pv 1) pa_nil))) (pg_name (i := 4) sc_l_tree.nd rfl (.inl rfl)) (pss_cons (ps_set (i := 5) sc_l_tree.nd rfl (.inl rfl) (pe_callTy call_int1 (by rfl) T.b_int (by decide +kernel) (pa_cons (pg_call D__law_next.ok hc (hr.mono (by decide)) (by rfl) D__law_next.mg D__law_next.kp D__law_next.bd pass0 (pa_cons (pv 0) pa_nil)) pa_nil)))
    (pss_cons (ps_set (i := 6) sc_l_tree.nd rfl (.inl rfl) (pe_op op_add (pe_ix ix_list (pv 3) pe_int (fun _ _ => rfl)) pe_int))
    (pss_cons (ps_set (i := 7) sc_l_tree.nd rfl (.inl rfl) (pe_ix ix_list (pe_lst (pa_cons (pe_op op_add pe_int (pe_op op_mod (pe_op op_fdiv (pv 5) pe_int) (pv 6))) (pa_cons (pv 6) (pa_cons (pe_callB (call_max2 rfl) (by rfl) T.b_max (by decide +kernel) (pa_cons pe_int (pa_cons (pe_op op_sub (pv 6) (pe_op op_mod (pe_op op_fdiv (pv 5) pe_int) pe_int)) pa_nil))) (pa_cons (pe_op op_add pe_int (pe_op op_mod (pe_op op_fdiv (pv 5) pe_int) (pe_callB (call_min2 rfl) (by rfl) T.b_min (by decide +kernel) (pa_cons (pv 6) (pa_cons pe_int pa_nil))))) pa_nil))))) (pv 2) (fun _ _ => rfl)))
    (pss_one (ps_set (i := 3) sc_l_tree.nd rfl (.inl rfl) (pe_op op_cat (pe_lst (pa_cons (pe_ix ix_list (pe_lst (pa_cons (pv 7) (pa_cons (pe_op op_add pe_int (pe_op op_mod (pe_op op_fdiv (pv 5) pe_int) (pv 6))) pa_nil))) (pe_callTy call_int1 (by rfl) T.b_int (by decide +kernel) (pa_cons (pe_cmpR op_eq (pe_op op_mod (pv 5) pe_int) pe_int (nomark _)) pa_nil)) (fun _ _ => rfl)) pa_nil)) (pv 3))))))))
    (pss_one (ps_ret (pv 3)))))), ?_⟩

  refine ⟨_, rfl, p, n, rfl, hd, by omega, fun r H1 r0 r1 t1 d1 => .inl ⟨_, rfl, _, _, rfl, rfl, (by show (0 : Int) < _; decide), ?_⟩⟩
  have G1 : GrowP p B H B H1 := t1.p hB hBp
  have s0 := Int.emod_nonneg r (show (4 : Int) ≠ 0 by decide)
  have s4 := Int.emod_lt_of_pos r (show (0 : Int) < 4 by decide)
  refine ⟨by show 1 ≤ sizeLine; decide, fun q0 hq0 => ?_⟩
  have G2 : GrowP p B H (upd B q0 (.lst [.int 0])) (upd H1 q0 (.lst [.int 0])) := G1.add hq0
  refine ⟨_, rfl, 1, m, rfl, ⟨by omega, by omega, by omega, by omega⟩, for_range (lo := 1) (n := (m - 1).toNat) (fun i σ H2 => ∃ ns v B2 x4 x5 x6 x7, σ = [some (.ref p), some (.int m), some (.int (r % 4)), some v, x4, x5, x6, x7] ∧ Tr ns ∧ ns.length = i + 1 ∧ GrowP p B H B2 H2 ∧ DrawsAt H2 p (n + 1 + i) ∧ At B2 v (intsD ns))
    ⟨[0], _, _, none, none, none, none, rfl, .leaf, rfl, G2, (d1.up (same_new hq0)).mono (by omega), ints_at upd_same⟩ ?_ ?_⟩
  · rintro i σ H2 hi ⟨ns, v, B2, x4, x5, x6, x7, rfl, ht, hl, G, dr, hv⟩
    have hBp2 : B2 p = none := G.free hd.some hBp
    refine ⟨_, rfl, p, _, rfl, dr, by omega, fun r2 H3 r20 r21 t3 d3 => .inl ⟨_, rfl, ?_⟩⟩
    have G3 := G.low t3 hBp2
    obtain ⟨v0, rfl, hv0⟩ := ints_ex hv
    obtain ⟨e, rest, rfl, e0⟩ := ht.head
    have hv3 := G3.bh _ _ hv0
    have at0 : atI ((e :: rest).map V.int) 0 = some (.int e) := atI_nat (j := 0) rfl
    refine ⟨_, rfl, v0, _, _, _, rfl, rfl, SqL.of hv3, at0, _, _, rfl, rfl, ?_⟩
    -- the four depths
    refine ⟨_, rfl, _, _, rfl, rfl, ⟨by decide, by decide⟩, _, rfl, _, _, rfl, rfl, (by show 0 < e + 1; omega), _, _, rfl, rfl, ?_⟩
    refine ⟨_, rfl, _, rfl, _, rfl, _, _, rfl, rfl, ⟨by decide, by decide⟩, _, _, rfl, rfl, (by show (0 : Int) < _; decide), _, _, rfl, rfl, _, _, rfl, ?_⟩
    refine ⟨_, rfl, _, _, rfl, rfl, ⟨by decide, by decide⟩, _, rfl, _, _, rfl, ?_⟩
    have hmin : 0 < (if (2 : Int) < e + 1 then 2 else e + 1) := by split <;> omega
    have hmin2 : (if (2 : Int) < e + 1 then 2 else e + 1) ≤ e + 1 := by split <;> omega
    refine ⟨_, _, rfl, rfl, hmin, _, _, rfl, rfl, by show 4 ≤ sizeLine; decide, fun q1 hq1 => ?_⟩
    have b1 := Int.emod_nonneg (r2 / 8) (show e + 1 ≠ 0 by omega)
    have b2 := Int.emod_lt_of_pos (r2 / 8) (show 0 < e + 1 by omega)
    have b3 := Int.emod_nonneg (r2 / 8) (show (3 : Int) ≠ 0 by decide)
    have b5 := Int.emod_nonneg (r2 / 8) (show (if (2 : Int) < e + 1 then 2 else e + 1) ≠ 0 by omega)
    have b6 := Int.emod_lt_of_pos (r2 / 8) hmin
    have b7 := Int.emod_nonneg (r2 / 64) (show e + 1 ≠ 0 by omega)
    have b8 := Int.emod_lt_of_pos (r2 / 64) (show 0 < e + 1 by omega)
    obtain ⟨dep, hdep, dep1, dep2⟩ := pick4 (a := 1 + r2 / 8 % (e + 1)) (b := e + 1) (c := if e + 1 - r2 / 8 % 3 > 1 then e + 1 - r2 / 8 % 3 else 1) (d := 1 + r2 / 8 % (if (2 : Int) < e + 1 then 2 else e + 1)) s0 s4 (P := fun x => 1 ≤ x ∧ x ≤ e + 1) ⟨by omega, by omega⟩ ⟨by omega, by omega⟩ (by split <;> omega) ⟨by omega, by omega⟩
    refine ⟨_, rfl, q1, _, _, _, rfl, rfl, SqL.of upd_same, hdep, ?_⟩
    have G4 := G3.more (same_new (o := .lst [.int (1 + r2 / 8 % (e + 1)), .int (e + 1), .int (if e + 1 - r2 / 8 % 3 > 1 then e + 1 - r2 / 8 % 3 else 1), .int (1 + r2 / 8 % (if (2 : Int) < e + 1 then 2 else e + 1))]) hq1)
    have d4 := d3.up (same_new (o := .lst [.int (1 + r2 / 8 % (e + 1)), .int (e + 1), .int (if e + 1 - r2 / 8 % 3 > 1 then e + 1 - r2 / 8 % 3 else 1), .int (1 + r2 / 8 % (if (2 : Int) < e + 1 then 2 else e + 1))]) hq1)
    generalize upd H3 q1 _ = H4 at G4 d4
    -- [.., ..][..] + told
    refine ⟨_, rfl, _, rfl, _, _, rfl, rfl, ⟨by decide, by decide⟩, _, rfl, _, _, rfl, rfl, (by show 0 < e + 1; omega), _, _, rfl, rfl, by show 2 ≤ sizeLine; decide, fun q2 hq2 => ?_⟩
    obtain ⟨dep3, hdep3, dep4, dep5⟩ := pick2 (a := dep) (b := 1 + r2 / 64 % (e + 1)) (decide (V.int (r2 % 8) = V.int 0)) (P := fun x => 1 ≤ x ∧ x ≤ e + 1) ⟨dep1, dep2⟩ ⟨by omega, by omega⟩
    have G5 := G4.more (same_new (o := .lst [.int dep, .int (1 + r2 / 64 % (e + 1))]) hq2)
    have d5 := d4.up (same_new (o := .lst [.int dep, .int (1 + r2 / 64 % (e + 1))]) hq2)
    have h5 : upd H4 q2 (.lst [.int dep, .int (1 + r2 / 64 % (e + 1))]) q2 = some (.lst [.int dep, .int (1 + r2 / 64 % (e + 1))]) := upd_same
    generalize upd H4 q2 _ = H5 at G5 d5 h5
    refine ⟨_, rfl, _, _, rfl, rfl, (by show (0 : Int) < _; decide), rfl, .inr ⟨_, rfl, ?_⟩⟩
    refine ⟨q2, _, _, _, rfl, rfl, SqL.of h5, hdep3, by show 1 ≤ sizeLine; decide, fun q3 hq3 => ?_⟩
    have G6 := G5.more (same_new (o := .lst [.int dep3]) hq3)
    have d6 := d5.up (same_new (o := .lst [.int dep3]) hq3)
    have h6 : upd H5 q3 (.lst [.int dep3]) q3 = some (.lst [.int dep3]) := upd_same
    generalize upd H5 q3 _ = H6 at G6 d6 h6
    have hlt : (e :: rest).length ≤ 40 := by omega
    refine ⟨_, rfl, q3, v0, _, _, rfl, rfl, h6, G6.bh _ _ hv0, ?_, fun q4 hq4 => ?_⟩
    · rw [List.length_map]
      exact Nat.le_of_lt (small1000 (by simp only [List.length_singleton]; omega))
    · have G7 := G6.add (o := .lst ([.int dep3] ++ (e :: rest).map V.int)) hq4
      have d7 := d6.up (same_new (o := .lst ([.int dep3] ++ (e :: rest).map V.int)) hq4)
      exact ⟨dep3 :: e :: rest, _, _, _, _, _, _, rfl, .cons ht dep4 dep5, by simp only [List.length_cons] at hl ⊢; omega, G7, d7.mono (by omega), ints_at upd_same⟩
  · rintro σ H2 ⟨ns, v, B2, x4, x5, x6, x7, rfl, ht, hl, G, dr, hv⟩
    exact ⟨_, rfl, q v ns B2 H2 ht (by omega) G (dr.mono (by omega)) hv⟩
def sp_l_cycle (K : PySem.W.Frag) : Sp := fun vs H Q _ => ∃ (B : Hp) (p : Addr) (n : Int), vs = [.ref p] ∧ Same B H ∧ B p = Option.none ∧ DrawsAt H p n ∧ n ≤ 100000000 ∧
  ∀ v t r B2 H2, 0 ≤ t → t ≤ 40 → 1 ≤ r → r ≤ 40 → GrowP p B H B2 H2 → DrawsAt H2 p (n + 1) → At B2 v (.tuple [.int t, .int r]) → Q v H2
theorem pick6 {a b c d e f sh : Int} (h0 : 0 ≤ sh) (h4 : sh < 6) {P : Int → Prop} (pa : P a) (pb : P b) (pc : P c) (pd : P d) (pe : P e) (pf : P f) : ∃ x, atI [V.int a, V.int b, V.int c, V.int d, V.int e, V.int f] sh = some (.int x) ∧ P x := by
  rcases (by omega : sh = 0 ∨ sh = 1 ∨ sh = 2 ∨ sh = 3 ∨ sh = 4 ∨ sh = 5) with e | e | e | e | e | e <;> subst e
  · exact ⟨a, atI_nat (j := 0) rfl, pa⟩
  · exact ⟨b, atI_nat (j := 1) rfl, pb⟩
  · exact ⟨c, atI_nat (j := 2) rfl, pc⟩
  · exact ⟨d, atI_nat (j := 3) rfl, pd⟩
  · exact ⟨_, atI_nat (j := 4) rfl, pe⟩
  · exact ⟨f, atI_nat (j := 5) rfl, pf⟩
theorem pick5 {a b c d e sh : Int} (h0 : 0 ≤ sh) (h4 : sh < 5) {P : Int → Prop} (pa : P a) (pb : P b) (pc : P c) (pd : P d) (pe : P e) : ∃ x, atI [V.int a, V.int b, V.int c, V.int d, V.int e] sh = some (.int x) ∧ P x := by
  rcases (by omega : sh = 0 ∨ sh = 1 ∨ sh = 2 ∨ sh = 3 ∨ sh = 4) with e | e | e | e | e <;> subst e
  · exact ⟨a, atI_nat (j := 0) rfl, pa⟩
  · exact ⟨b, atI_nat (j := 1) rfl, pb⟩
  · exact ⟨c, atI_nat (j := 2) rfl, pc⟩
  · exact ⟨d, atI_nat (j := 3) rfl, pd⟩
  · exact ⟨_, atI_nat (j := 4) rfl, pe⟩
theorem ok_l_cycle {f : Addr} {fd : FuncData} (F : Fun K "_law_cycle" "_law_cycle" s_l_cycle f fd) (T : Bt mg) (D__law_next : Callee P w K mg base CX0 1 "_law_next" ["_law_draws_here"] (sp_l_next K)) : FnG P w K mg base CX0 2 f fd ["_law_draws_here"] (sp_l_cycle K) := by
  refine okN F sc_l_cycle (fun vs H Q E h => ?_) (fun cdv A out s H vs Q E hc hr h => ?_)
  · obtain ⟨B, p, n, rfl, hB, hBp, hd, n1, q⟩ := h
    rfl
  obtain ⟨B, p, n, rfl, hB, hBp, hd, n1, q⟩ := h
  have hu200 := u200 hr
  have hu64 := hr.units
  refine ⟨_, (pss_cons (ps_set (i := 1) sc_l_cycle.nd rfl (.inl rfl) (pe_callTy call_int1 (by rfl) T.b_int (by decide +kernel) (pa_cons (pg_call D__law_next.ok hc (hr.mono (by decide)) (by rfl) D__law_next.mg D__law_next.kp D__law_next.bd pass0 (pa_cons (pv 0) pa_nil)) pa_nil)))
    (pss_cons (ps_set (i := 2) sc_l_cycle.nd rfl (.inl rfl) (pe_ix ix_list (pe_lst (pa_cons pe_int (pa_cons pe_int (pa_cons pe_int (pa_cons (pe_op op_mod (pe_op op_fdiv (pv 1) pe_int) pe_int) (pa_cons (pe_op op_mod (pe_op op_fdiv (pv 1) pe_int) pe_int) (pa_cons (pe_op op_mod (pe_op op_fdiv (pv 1) pe_int) pe_int) pa_nil))))))) (pe_op op_mod (pv 1) pe_int) (fun _ _ => rfl)))
    (pss_one (ps_ret (pe_tup (pa_cons (pv 2) (pa_cons (pe_ix ix_list (pe_lst (pa_cons pe_int (pa_cons pe_int (pa_cons pe_int (pa_cons (pe_op op_add pe_int (pe_op op_mod (pe_op op_fdiv (pv 1) pe_int) pe_int)) (pa_cons (pe_op op_add pe_int (pe_op op_mod (pe_op op_fdiv (pv 1) pe_int) pe_int)) pa_nil)))))) (pe_op op_mod (pe_op op_fdiv (pv 1) pe_int) pe_int) (fun _ _ => rfl)) pa_nil))))))), ?_⟩

  refine ⟨_, rfl, p, n, rfl, hd, by omega, fun r H1 r0 r1 t1 d1 => .inl ⟨_, rfl, ?_⟩⟩
  have G1 : GrowP p B H B H1 := t1.p hB hBp
  refine ⟨_, rfl, _, _, rfl, rfl, ⟨by decide, by decide⟩, _, _, rfl, rfl, (by show (0 : Int) < _; decide), _, rfl, _, _, rfl, rfl, ⟨by decide, by decide⟩, _, _, rfl, rfl, (by show (0 : Int) < _; decide), _, rfl, _, _, rfl, rfl, ⟨by decide, by decide⟩, _, _, rfl, rfl, (by show (0 : Int) < _; decide), by show 6 ≤ sizeLine; decide, fun q0 hq0 => ?_⟩
  obtain ⟨t, ht, t0, t40⟩ := pick6 (a := 0) (b := 0) (c := 1) (d := r / 16 % 4) (e := r / 16 % 9) (f := r / 16 % 41) (sh := r % 6) (by omega) (by omega) (P := fun x => 0 ≤ x ∧ x ≤ 40) (by omega) (by omega) (by omega) (by omega) (by omega) (by omega)
  refine ⟨_, rfl, _, _, rfl, rfl, (by show (0 : Int) < _; decide), q0, _, _, _, rfl, rfl, SqL.of upd_same, ht, ?_⟩
  have G2 := G1.more (same_new (o := .lst [.int 0, .int 0, .int 1, .int (r / 16 % 4), .int (r / 16 % 9), .int (r / 16 % 41)]) hq0)
  have d2 := d1.up (same_new (o := .lst [.int 0, .int 0, .int 1, .int (r / 16 % 4), .int (r / 16 % 9), .int (r / 16 % 41)]) hq0)
  generalize upd H1 q0 _ = H2 at G2 d2
  refine ⟨_, rfl, _, rfl, _, _, rfl, rfl, ⟨by decide, by decide⟩, _, _, rfl, rfl, (by show (0 : Int) < _; decide), _, _, rfl, rfl, _, rfl, _, _, rfl, rfl, ⟨by decide, by decide⟩, _, _, rfl, rfl, (by show (0 : Int) < _; decide), _, _, rfl, rfl, by show 5 ≤ sizeLine; decide, fun q1 hq1 => ?_⟩
  obtain ⟨g, hg, g0, g40⟩ := pick5 (a := 1) (b := 2) (c := 3) (d := 2 + r / 2048 % 4) (e := 1 + r / 2048 % 40) (sh := r / 6 % 5) (by omega) (by omega) (P := fun x => 1 ≤ x ∧ x ≤ 40) (by omega) (by omega) (by omega) (by omega) (by omega)
  refine ⟨_, rfl, _, _, rfl, rfl, ⟨by decide, by decide⟩, _, _, rfl, rfl, (by show (0 : Int) < _; decide), q1, _, _, _, rfl, rfl, SqL.of upd_same, hg, by show 2 ≤ sizeLine; decide, fun q2 hq2 => ?_⟩
  have G3 := G2.more (same_new (o := .lst [.int 1, .int 2, .int 3, .int (2 + r / 2048 % 4), .int (1 + r / 2048 % 40)]) hq1)
  have d3 := d2.up (same_new (o := .lst [.int 1, .int 2, .int 3, .int (2 + r / 2048 % 4), .int (1 + r / 2048 % 40)]) hq1)
  generalize upd H2 q1 _ = H3 at G3 d3 hq2
  exact q _ t g _ _ t0 t40 g0 g40 (G3.add hq2) (d3.up (same_new hq2)) (.tup upd_same (.cons (.int t) (.cons (.int g) .nil)))
theorem emod_succ {a r : Int} (h : 0 < r) : (a + 1) % r = if a % r + 1 < r then a % r + 1 else 0 := by
  have h0 := Int.emod_nonneg a (show r ≠ 0 by omega)
  have h1 := Int.emod_lt_of_pos a h
  have e : a + 1 = (a % r + 1) + r * (a / r) := by
    have := Int.emod_add_mul_ediv a r
    omega
  rw [e, Int.add_mul_emod_self_left]
  split
  · exact Int.emod_eq_of_lt (by omega) (by assumption)
  · rw [show a % r + 1 = r by omega]
    exact Int.emod_self
theorem mk_step {d t r : Int} (hd : 0 ≤ d) (ht : 0 ≤ t) (hr : 1 ≤ r) : (if mk d t r + 1 < t + r then mk d t r + 1 else t) = mk (d + 1) t r := by
  unfold mk
  by_cases h1 : d < t
  · rw [if_pos h1, if_pos (by omega)]
    by_cases h2 : d + 1 < t
    · rw [if_pos h2]
    · rw [if_neg h2, show d + 1 - t = 0 by omega, Int.zero_emod]
      omega
  · rw [if_neg h1, if_neg (show ¬ d + 1 < t by omega), show d + 1 - t = (d - t) + 1 by omega, emod_succ (by omega)]
    have h0 := Int.emod_nonneg (d - t) (show r ≠ 0 by omega)
    by_cases h2 : (d - t) % r + 1 < r
    · rw [if_pos h2, if_pos (show t + (d - t) % r + 1 < t + r by omega)]
      omega
    · rw [if_neg h2, if_neg (show ¬ t + (d - t) % r + 1 < t + r by omega)]
      omega
theorem mk_zero {t r : Int} (ht : 0 ≤ t) : mk 0 t r = 0 := by
  unfold mk
  split
  · rfl
  · rw [show t = 0 by omega]
    simp
theorem mk_nonneg {d t r : Int} (hd : 0 ≤ d) (ht : 0 ≤ t) (hr : 1 ≤ r) : 0 ≤ mk d t r := by
  unfold mk
  split
  · exact hd
  · have := Int.emod_nonneg (d - t) (show r ≠ 0 by omega)
    omega
theorem mk_lt {d t r : Int} (hd : 0 ≤ d) (ht : 0 ≤ t) (hr : 1 ≤ r) : mk d t r < t + r := by
  unfold mk
  split
  · omega
  · have := Int.emod_lt_of_pos (d - t) (show 0 < r by omega)
    omega
def sp_l_mark (K : PySem.W.Frag) : Sp := fun vs H Q _ => ∃ (d t r : Int), vs = [.int d, .int t, .int r] ∧ 0 ≤ d ∧ d ≤ 1000000 ∧ 0 ≤ t ∧ 1 ≤ r ∧ Q (.int (mk d t r)) H
theorem ok_l_mark {f : Addr} {fd : FuncData} (F : Fun K "_law_mark" "_law_mark" s_l_mark f fd) (T : Bt mg) : FnG P w K mg base CX0 1 f fd ["_law_a_depth", "_law_a_tail", "_law_a_ring"] (sp_l_mark K) := by
  refine okN F sc_l_mark (fun vs H Q E h => ?_) (fun cdv A out s H vs Q E hc hr h => ?_)
  · obtain ⟨d, t, r, rfl, d0, d1, t0, r0, q⟩ := h
    rfl
  obtain ⟨d, t, r, rfl, d0, d1, t0, r0, q⟩ := h
  have hu200 := u200 hr
  have hu64 := hr.units
  refine ⟨_, (pss_cons (ps_set (i := 3) sc_l_mark.nd rfl (.inl rfl) pe_int)
    (pss_cons (ps_for PassesOwn.never rfl (pi_range1 (by rfl) T.b_range (pa_cons (pv 0) pa_nil)) (pg_name (i := 4) sc_l_mark.nd rfl (.inl rfl)) (pss_one (ps_set (i := 3) sc_l_mark.nd rfl (.inl rfl) (pe_ifExp (pt_cmpR op_lt (pe_op op_add (pv 3) pe_int) (pe_op op_add (pv 1) (pv 2)) (nomark _)) (pe_op op_add (pv 3) pe_int) (pv 1)))))
    (pss_one (ps_ret (pv 3))))), ?_⟩

  refine ⟨_, rfl, d, rfl, by omega, by omega, for_range (lo := 0) (n := d.toNat) (fun i σ H2 => ∃ x4, σ = [some (.int d), some (.int t), some (.int r), some (.int (mk i t r)), x4] ∧ H2 = H) ⟨none, by rw [show ((0 : Nat) : Int) = 0 from rfl, mk_zero t0]; rfl, rfl⟩ ?_ ?_⟩
  · rintro i σ H2 hi ⟨x4, rfl, rfl⟩
    refine ⟨_, rfl, _, _, rfl, rfl, _, rfl, _, rfl, _, _, rfl, rfl, _, _, rfl, rfl, _, rfl, ?_⟩
    have e := mk_step (d := i) (t := t) (r := r) (by omega) t0 r0
    refine ite2 (fun c => ?_) (fun c => ?_)
    · rw [if_pos (of_decide_eq_true c)] at e
      refine ⟨_, rfl, _, _, rfl, rfl, some (.int (0 + i)), ?_, rfl⟩
      rw [show ((i + 1 : Nat) : Int) = (i : Int) + 1 by omega, ← e]
      rfl
    · rw [if_neg fun z => c (decide_eq_true z)] at e
      exact ⟨_, rfl, some (.int (0 + i)), by rw [show ((i + 1 : Nat) : Int) = (i : Int) + 1 by omega, ← e]; rfl, rfl⟩
  · rintro σ H2 ⟨x4, rfl, rfl⟩
    rw [show ((d.toNat : Nat) : Int) = d by omega]
    exact ⟨_, rfl, q⟩
theorem Tr.sm {ns : List Int} (h : Tr ns) (hl : ns.length ≤ 40) : Sm 1 603 (intsD ns) := by
  refine Sm.ints (m := 40) (fun n hn => ?_) hl
  have h1 := h.nonneg hn
  have h2 := h.bound n hn
  omega
theorem mks_sm {ns : List Int} {t r : Int} (hn : ∀ d ∈ ns, 0 ≤ d) (hl : ns.length ≤ 40) (t0 : 0 ≤ t) (t1 : t ≤ 40) (r0 : 1 ≤ r) (r1 : r ≤ 10000) : Sm 1 603 (intsD (ns.map fun d => mk d t r)) := by
  refine Sm.ints (m := 40) (fun n hm => ?_) (by rw [List.length_map]; exact hl)
  obtain ⟨d, hd, rfl⟩ := List.mem_map.mp hm
  have h1 := mk_nonneg (hn d hd) t0 r0
  have h2 := mk_lt (hn d hd) t0 r0
  omega
theorem ints_map {ns : List Int} {t r : Int} : PyData.list (ns.map fun d => PyData.int (mk d t r)) = intsD (ns.map fun d => mk d t r) := by
  unfold intsD
  rw [List.map_map]
  rfl
theorem downs_map {n : Nat} {t r : Int} : PyData.list ((List.range n).map fun i : Nat => PyData.int (mk ((n : Int) - 1 - i) t r)) = intsD ((downs n).map fun d => mk d t r) := by
  unfold intsD
  rw [List.map_map]
  congr 1
  apply List.ext_getElem?
  intro i
  rw [List.getElem?_map, List.getElem?_map]
  by_cases h : i < n
  · rw [List.getElem?_range h, downs_get n i h]
    rfl
  · rw [List.getElem?_eq_none (by simpa using h), List.getElem?_eq_none (by rw [downs_len]; omega)]
    rfl
theorem downs_nonneg : ∀ (n : Nat), ∀ d ∈ downs n, 0 ≤ d
  | 0, d, h => nomatch h
  | n + 1, d, h => by
    rw [downs] at h
    rcases List.mem_cons.mp h with e | h
    · omega
    · exact downs_nonneg n d h
theorem mk_far {d t r a : Int} (h : t ≤ d) (h2 : t ≤ d + r * a) : mk (d + r * a) t r = mk d t r := by
  unfold mk
  rw [if_neg (by omega), if_neg (by omega), show d + r * a - t = (d - t) + r * a by omega, Int.add_mul_emod_self_left]
theorem rep_two {x : V} : (List.replicate ((2 : Int).toNat) [x]).flatten = [x, x] := rfl
def sp_l_right (K : PySem.W.Frag) : Sp := fun vs H Q _ => ∃ (p : Addr) (n t r : Int), vs = [.ref p, .int t, .int r] ∧ DrawsAt H p n ∧ 0 ≤ n ∧ n ≤ 10000000 ∧ 0 ≤ t ∧ t ≤ 40 ∧ 1 ≤ r ∧ r ≤ 10000 ∧
  ∀ H2, Turn p H H2 → DrawsAt H2 p (n + 100) → Q (.bl true) H2
theorem ok_l_right {f : Addr} {fd : FuncData} (F : Fun K "_law_right" "_law_right" s_l_right f fd) (T : Bt mg) (D_mark : Callee P w K mg base CX0 4 "mark" ["depth", "tail", "ring"] (sp_mark K)) (D_marks_of : Callee P w K mg base CX0 4 "marks_of" ["tree", "tail", "ring"] (sp_marks_of K)) (D_fold_marks : Callee P w K mg base CX0 5 "fold_marks" ["number", "tail", "ring"] (sp_fold_marks K)) (D__law_next : Callee P w K mg base CX0 1 "_law_next" ["_law_draws_here"] (sp_l_next K)) (D__law_tree : Callee P w K mg base CX0 2 "_law_tree" ["_law_draws_here", "_law_many"] (sp_l_tree K)) (D__law_mark : Callee P w K mg base CX0 1 "_law_mark" ["_law_a_depth", "_law_a_tail", "_law_a_ring"] (sp_l_mark K)) (kb_fold_marks_ring_tail_number : KBindsE K D_fold_marks.fd ["number", "tail", "ring"] ["ring", "tail", "number"] pk_fold_marks_ring_tail_number pk_fold_marks_ring_tail_number) (kb_mark_ring_tail_depth : KBindsE K D_mark.fd ["depth", "tail", "ring"] ["ring", "tail", "depth"] pk_mark_ring_tail_depth pk_mark_ring_tail_depth) (kb_marks_of_ring_tail_tree : KBindsE K D_marks_of.fd ["tree", "tail", "ring"] ["ring", "tail", "tree"] pk_marks_of_ring_tail_tree pk_marks_of_ring_tail_tree) : FnG P w K mg base CX0 6 f fd ["_law_draws_here", "_law_a_tail", "_law_a_ring"] (sp_l_right K) := by
  refine okN F sc_l_right (fun vs H Q E h => ?_) (fun cdv A out s H vs Q E hc hr h => ?_)
  · obtain ⟨p, n, t, r, rfl, hd, n0, n1, t0, t1, r0, r1, q⟩ := h
    rfl
  obtain ⟨p, n, t, r, rfl, hd, n0, n1, t0, t1, r0, r1, q⟩ := h
  have hu200 := u200 hr
  have hu64 := hr.units
  refine ⟨_, (pss_cons (ps_set (i := 3) sc_l_right.nd rfl (.inl rfl) (pg_call D__law_tree.ok hc (hr.mono (by decide)) (by rfl) D__law_tree.mg D__law_tree.kp D__law_tree.bd pass0 (pa_cons (pv 0) (pa_cons (pe_op op_add pe_int (pe_op op_mod (pe_callTy call_int1 (by rfl) T.b_int (by decide +kernel) (pa_cons (pg_call D__law_next.ok hc (hr.mono (by decide)) (by rfl) D__law_next.mg D__law_next.kp D__law_next.bd pass0 (pa_cons (pv 0) pa_nil)) pa_nil)) pe_int)) pa_nil))))
    (pss_cons (ps_set (i := 4) sc_l_right.nd rfl (.inl rfl) (pe_callB (call_repr hc hu200) (by rfl) T.b_repr (by decide +kernel) (pa_cons (pv 3) pa_nil)))
    (pss_cons (ps_setLc (i := 5) (own := [("_law_a_depth", 10)]) (g := (gName 10)) (tt := tYes) (by rfl) sc_l_right.nd rfl rfl (sw_true rfl rfl rfl (by decide +kernel)) (pi_list (pv 3)) (blkOk_by (own := [("_law_a_depth", 10)]) (N := N_l_right) (sc := defScope s_l_right) (by decide +kernel)) (fun _ _ _ _ _ => (pg_name (i := 10) sc_l_right.nd rfl (.inl rfl))) (fun _ _ _ _ _ => pts_nil) (fun _ _ _ _ _ => (pg_call D__law_mark.ok hc (hr.mono (by decide)) (by rfl) D__law_mark.mg D__law_mark.kp D__law_mark.bd pass0 (pa_cons (pv 10) (pa_cons (pv 1) (pa_cons (pv 2) pa_nil))))))
    (pss_cons (ps_set (i := 6) sc_l_right.nd rfl (.inl rfl) (pe_lst (pa_cons (pg_call D_marks_of.ok hc (hr.mono (by decide)) (by rfl) D_marks_of.mg D_marks_of.kp D_marks_of.bd pass0 (pa_cons (pv 3) (pa_cons (pv 1) (pa_cons (pv 2) pa_nil)))) (pa_cons (pg_callK D_marks_of.ok hc (hr.mono (by decide)) (by rfl) D_marks_of.mg D_marks_of.kp kb_marks_of_ring_tail_tree pass0 (pk_cons (pv 2) (pk_cons (pv 1) (pk_cons (pv 3) pk_nil)))) pa_nil))))
    (pss_cons (ps_if (PW.pt (pw_or (pt_cmpR op_ne (pe_callB (call_repr hc hu200) (by rfl) T.b_repr (by decide +kernel) (pa_cons (pv 6) pa_nil)) (pe_callB (call_repr hc hu200) (by rfl) T.b_repr (by decide +kernel) (pa_cons (pe_lst (pa_cons (pv 5) (pa_cons (pv 5) pa_nil))) pa_nil)) (nomark _)) (pw_or1 (pt_cmpR op_ne (pe_callB (call_repr hc hu200) (by rfl) T.b_repr (by decide +kernel) (pa_cons (pv 3) pa_nil)) (pv 4) (nomark _))))) (pss_one (ps_ret pe_bl)) pss_nil)
    (pss_cons (ps_expr (pe_bm PySem.F.plainAttrs_list PySem.F.slot_list_append PySem.F.type_list_append mt_append (pe_ix ix_list (pv 6) pe_int (fun _ _ => rfl)) (pa_cons pe_non pa_nil)))
    (pss_cons (ps_if (PW.pt (pw_or (pt_cmpR op_ne (pe_callB (call_repr hc hu200) (by rfl) T.b_repr (by decide +kernel) (pa_cons (pg_call D_marks_of.ok hc (hr.mono (by decide)) (by rfl) D_marks_of.mg D_marks_of.kp D_marks_of.bd pass0 (pa_cons (pv 3) (pa_cons (pv 1) (pa_cons (pv 2) pa_nil)))) pa_nil)) (pe_callB (call_repr hc hu200) (by rfl) T.b_repr (by decide +kernel) (pa_cons (pv 5) pa_nil)) (nomark _)) (pw_or1 (pt_cmpR op_ne (pe_callB (call_repr hc hu200) (by rfl) T.b_repr (by decide +kernel) (pa_cons (pv 3) pa_nil)) (pv 4) (nomark _))))) (pss_one (ps_ret pe_bl)) pss_nil)
    (pss_cons (ps_set (i := 7) sc_l_right.nd rfl (.inr rfl) (pe_op op_add pe_int (pe_op op_mod (pe_callTy call_int1 (by rfl) T.b_int (by decide +kernel) (pa_cons (pg_call D__law_next.ok hc (hr.mono (by decide)) (by rfl) D__law_next.mg D__law_next.kp D__law_next.bd pass0 (pa_cons (pv 0) pa_nil)) pa_nil)) pe_int)))
    (pss_cons (ps_setLc (i := 5) (own := [("_law_at", 11)]) (g := (gName 11)) (tt := tYes) (by rfl) sc_l_right.nd rfl rfl (sw_true rfl rfl rfl (by decide +kernel)) (pi_range1 (by rfl) T.b_range (pa_cons (pv 7) pa_nil)) (blkOk_by (own := [("_law_at", 11)]) (N := N_l_right) (sc := defScope s_l_right) (by decide +kernel)) (fun _ _ _ _ _ => (pg_name (i := 11) sc_l_right.nd rfl (.inl rfl))) (fun _ _ _ _ _ => pts_nil) (fun _ _ _ _ _ => (pg_call D__law_mark.ok hc (hr.mono (by decide)) (by rfl) D__law_mark.mg D__law_mark.kp D__law_mark.bd pass0 (pa_cons (pe_op op_sub (pe_op op_sub (pv 7) pe_int) (pv 11)) (pa_cons (pv 1) (pa_cons (pv 2) pa_nil))))))
    (pss_cons (ps_set (i := 6) sc_l_right.nd rfl (.inl rfl) (pe_lst (pa_cons (pg_call D_fold_marks.ok hc (hr.mono (by decide)) (by rfl) D_fold_marks.mg D_fold_marks.kp D_fold_marks.bd pass0 (pa_cons (pv 7) (pa_cons (pv 1) (pa_cons (pv 2) pa_nil)))) (pa_cons (pg_callK D_fold_marks.ok hc (hr.mono (by decide)) (by rfl) D_fold_marks.mg D_fold_marks.kp kb_fold_marks_ring_tail_number pass0 (pk_cons (pv 2) (pk_cons (pv 1) (pk_cons (pv 7) pk_nil)))) pa_nil))))
    (pss_cons (ps_if (pt_cmpR op_ne (pe_callB (call_repr hc hu200) (by rfl) T.b_repr (by decide +kernel) (pa_cons (pv 6) pa_nil)) (pe_callB (call_repr hc hu200) (by rfl) T.b_repr (by decide +kernel) (pa_cons (pe_lst (pa_cons (pv 5) (pa_cons (pv 5) pa_nil))) pa_nil)) (nomark _)) (pss_one (ps_ret pe_bl)) pss_nil)
    (pss_cons (ps_set (i := 8) sc_l_right.nd rfl (.inl rfl) (pe_op op_mod (pe_callTy call_int1 (by rfl) T.b_int (by decide +kernel) (pa_cons (pg_call D__law_next.ok hc (hr.mono (by decide)) (by rfl) D__law_next.mg D__law_next.kp D__law_next.bd pass0 (pa_cons (pv 0) pa_nil)) pa_nil)) pe_int))
    (pss_cons (ps_set (i := 6) sc_l_right.nd rfl (.inl rfl) (pe_lst (pa_cons (pg_call D_mark.ok hc (hr.mono (by decide)) (by rfl) D_mark.mg D_mark.kp D_mark.bd pass0 (pa_cons (pv 8) (pa_cons (pv 1) (pa_cons (pv 2) pa_nil)))) (pa_cons (pg_callK D_mark.ok hc (hr.mono (by decide)) (by rfl) D_mark.mg D_mark.kp kb_mark_ring_tail_depth pass0 (pk_cons (pv 2) (pk_cons (pv 1) (pk_cons (pv 8) pk_nil)))) pa_nil))))
    (pss_cons (ps_if (pt_cmpR op_ne (pe_callB (call_repr hc hu200) (by rfl) T.b_repr (by decide +kernel) (pa_cons (pv 6) pa_nil)) (pe_callB (call_repr hc hu200) (by rfl) T.b_repr (by decide +kernel) (pa_cons (pe_op op_rep (pe_lst (pa_cons (pg_call D__law_mark.ok hc (hr.mono (by decide)) (by rfl) D__law_mark.mg D__law_mark.kp D__law_mark.bd pass0 (pa_cons (pv 8) (pa_cons (pv 1) (pa_cons (pv 2) pa_nil)))) pa_nil)) pe_int) pa_nil)) (nomark _)) (pss_one (ps_ret pe_bl)) pss_nil)
    (pss_cons (ps_set (i := 9) sc_l_right.nd rfl (.inl rfl) (pe_op op_mul (pe_callTy call_int1 (by rfl) T.b_int (by decide +kernel) (pa_cons (pg_call D__law_next.ok hc (hr.mono (by decide)) (by rfl) D__law_next.mg D__law_next.kp D__law_next.bd pass0 (pa_cons (pv 0) pa_nil)) pa_nil)) (pe_op op_powW pe_int pe_int)))
    (pss_cons (ps_if (pt_cmpR op_lt (pv 8) (pv 1) (nomark _)) (pss_one (ps_ret pe_bl)) pss_nil)
    (pss_one (ps_ret (pe_cmpR op_eq (pg_call D_mark.ok hc (hr.mono (by decide)) (by rfl) D_mark.mg D_mark.kp D_mark.bd pass0 (pa_cons (pe_op op_add (pv 8) (pe_op op_mul (pv 2) (pv 9))) (pa_cons (pv 1) (pa_cons (pv 2) pa_nil)))) (pg_call D__law_mark.ok hc (hr.mono (by decide)) (by rfl) D__law_mark.mg D__law_mark.kp D__law_mark.bd pass0 (pa_cons (pv 8) (pa_cons (pv 1) (pa_cons (pv 2) pa_nil)))) (nomark _)))))))))))))))))))), ?_⟩

  have hB : Same (fun _ => Option.none) H := fun b o e => nomatch e
  have hBp : (fun _ => Option.none : Hp) p = Option.none := rfl
  have G0 : GrowP p (fun _ => Option.none) H (fun _ => Option.none) H := GrowP.refl hB
  generalize (fun _ => Option.none : Hp) = B at hB hBp G0
  -- the tree
  refine ⟨_, rfl, _, rfl, p, n, rfl, hd, by omega, fun x H1 x0 x1 tn1 d1 => .inl ⟨_, rfl, _, _, rfl, rfl, (by show (0 : Int) < _; decide), _, _, rfl, rfl, ?_⟩⟩
  have y0 := Int.emod_nonneg x (show (40 : Int) ≠ 0 by decide)
  have y1 := Int.emod_lt_of_pos x (show (0 : Int) < 40 by decide)
  have G1 := G0.low tn1 hBp
  refine ⟨B, p, n + 1, 1 + x % 40, rfl, G1.bh, hBp, d1, by omega, by omega, by omega, by omega, fun v ns B2 H2 ht hlen GT d2 hv => ?_⟩
  have G2 := G1.trans GT
  have hl : ns.length ≤ 40 := by omega
  have smT := ht.sm hl
  have smM := mks_sm (t := t) (r := r) (fun d hd => ht.nonneg hd) hl t0 t1 r0 r1
  clear GT G1 d1 tn1
  -- kept
  refine ⟨_, rfl, v, intsD ns, rfl, (hv.up G2.bh).dp, smT.shown (by decide) (by decide), ?_⟩
  -- due
  obtain ⟨a, rfl, ha⟩ := ints_ex hv
  refine ⟨_, rfl, a, rfl, ⟨_, SqL.of (G2.bh _ _ ha)⟩, fun D hD => ?_⟩
  refine lc_ints (fun d => .int (mk d t r)) G2.bh hD (by omega) (SqL.of (G2.bh _ _ ha)) (fun d B3 H3 hd3 s2 s3 s4 fr R k => ?_) (fun B3 H3 g3 h3 => ?_)
  · have b0 := ht.nonneg hd3
    have b1 := ht.bound d hd3
    exact ⟨rfl, _, rfl, _, rfl, _, rfl, d, t, r, rfl, b0, by omega, t0, r0, k _ B3 H3 (Grow.refl s3) (.int _)⟩
  rw [ints_map] at h3
  have G3 := G2.trans (g3.p p)
  have d3 := d2.up g3.hh
  have hv3 := hv.up g3.bb
  have hBp3 := G3.free hd.some hBp
  clear g3 d2 G2 hv ha hD
  -- told, twice the same
  refine ⟨_, rfl, _, rfl, _, rfl, B3, _, ns, t, r, rfl, G3.bh, hv3, ht, hl, t0, t1, r0, r1, fun p1 B4 H4 np1 g4 h4 => ?_⟩
  refine ⟨_, rfl, _, rfl, _, rfl, B4, _, ns, t, r, rfl, g4.bh, hv3.up g4.bb, ht, hl, t0, t1, r0, r1, fun p2 B5 H5 np2 g5 h5 => ?_⟩
  refine ⟨by show 2 ≤ sizeLine; decide, fun q0 nq0 => ?_⟩
  have h45 := h4.up g5.bb
  have at6 : At (upd B5 q0 (.lst [.ref p1, .ref p2])) (.ref q0) (.list [intsD (ns.map fun d => mk d t r), intsD (ns.map fun d => mk d t r)]) :=
    .lst upd_same (.cons (h45.up (same_new (g5.bh.free nq0))) (.cons (h5.up (same_new (g5.bh.free nq0))) .nil))
  have g6 : Grow B3 H3 (upd B5 q0 (.lst [.ref p1, .ref p2])) (upd H5 q0 (.lst [.ref p1, .ref p2])) := (g4.trans g5).trans (Grow.new g5.bh nq0)
  have e6 : upd H5 q0 (.lst [.ref p1, .ref p2]) q0 = some (.lst [.ref p1, .ref p2]) := upd_same
  generalize upd B5 q0 (.lst [.ref p1, .ref p2]) = B6 at at6 g6
  generalize upd H5 q0 (.lst [.ref p1, .ref p2]) = H6 at g6 e6
  clear g4 g5 h45 h5 nq0
  have smP := smM.pair smM
  have d6 := d3.up g6.hh
  -- the first test
  refine ⟨_, rfl, _, _, rfl, (at6.up g6.bh).dp, smP.shown (by decide) (by decide), ?_⟩
  refine ⟨_, rfl, _, rfl, by show 2 ≤ sizeLine; decide, fun q1 nq1 => ?_⟩
  have due6 := h3.up g6.bb
  have at7 : At (upd H6 q1 (.lst [.ref D, .ref D])) (.ref q1) (.list [intsD (ns.map fun d => mk d t r), intsD (ns.map fun d => mk d t r)]) :=
    .lst upd_same (.cons ((due6.up g6.bh).up (same_new nq1)) (.cons ((due6.up g6.bh).up (same_new nq1)) .nil))
  refine ⟨_, _, rfl, at7.dp, smP.shown (by decide) (by decide), rfl, _, rfl, iteNS rfl ?_⟩
  have s7 : Same H6 (upd H6 q1 (.lst [.ref D, .ref D])) := same_new nq1
  generalize upd H6 q1 (.lst [.ref D, .ref D]) = H7 at s7
  refine ⟨_, rfl, _, _, rfl, ((hv3.up g6.bb).up (g6.bh.trans s7)).dp, smT.shown (by decide) (by decide), _, rfl, rfl, _, rfl, iteNS rfl ?_⟩
  -- told[0].append(None)
  have h47 : At H7 (.ref p1) (intsD (ns.map fun d => mk d t r)) := by
    cases at6 with
    | lst e a =>
      have e1 := g6.bh _ _ e
      rw [e6] at e1
      cases e1
      cases a with
      | cons a1 a2 => exact (a1.up g6.bh).up s7
  obtain ⟨p1', ep, hp1⟩ := ints_ex h47
  cases ep
  refine ⟨_, rfl, q0, _, _, _, rfl, rfl, SqL.of (s7 _ _ e6), atI_nat (j := 0) rfl, .inl ⟨rfl, _, SqL.of hp1⟩, ?_⟩
  refine ⟨p1, _, .non, rfl, rfl, hp1, ?_, ?_⟩
  · rw [List.length_map, List.length_map]
    exact small1000 (by omega)
  have G8 : GrowP p B H B3 (upd H7 p1 (.lst ((ns.map fun d => mk d t r).map V.int ++ [.non]))) := G3.mut (g6.hh.trans s7) np1
  have d8 : DrawsAt (upd H7 p1 (.lst ((ns.map fun d => mk d t r).map V.int ++ [.non]))) p (n + 1 + (1 + x % 40)) := by
    obtain ⟨a1, k1, b1, e1, z⟩ := d6.up s7
    obtain ⟨a2, k2, b2, e2, z2⟩ := d3
    exact ⟨a1, k1, b1, by rw [upd_ne (ne_of_none e2 np1)]; exact e1, z⟩
  generalize upd H7 p1 (.lst ((ns.map fun d => mk d t r).map V.int ++ [.non])) = H8 at G8 d8
  clear h47 hp1 at6 g6 e6 d6 s7 due6 G3 d3
  -- again
  refine ⟨_, rfl, _, rfl, _, rfl, B3, _, ns, t, r, rfl, G8.bh, hv3, ht, hl, t0, t1, r0, r1, fun p3 B9 H9 np3 g9 h9 => ?_⟩
  refine ⟨_, _, rfl, (h9.up g9.bh).dp, smM.shown (by decide) (by decide), ?_⟩
  refine ⟨_, rfl, _, _, rfl, ((h3.up g9.bb).up g9.bh).dp, smM.shown (by decide) (by decide), rfl, _, rfl, iteNS rfl ?_⟩
  refine ⟨_, rfl, _, _, rfl, ((hv3.up g9.bb).up g9.bh).dp, smT.shown (by decide) (by decide), _, rfl, rfl, _, rfl, iteNS rfl ?_⟩
  have G9 := G8.more g9.hh
  have d9 := d8.up g9.hh
  clear g9 h9 G8 d8 np3
  -- many
  refine ⟨_, rfl, p, _, rfl, d9, by omega, fun z H10 z0 z1 tn d10 => .inl ⟨_, rfl, _, _, rfl, rfl, (by show (0 : Int) < _; decide), _, _, rfl, rfl, ?_⟩⟩
  have G10 := G9.low tn hBp3
  have w0 := Int.emod_nonneg z (show (40 : Int) ≠ 0 by decide)
  have w1 := Int.emod_lt_of_pos z (show (0 : Int) < 40 by decide)
  have smD := mks_sm (ns := downs (1 + z % 40).toNat) (t := t) (r := r) (downs_nonneg _) (by rw [downs_len]; omega) t0 t1 r0 r1
  refine ⟨_, rfl, _, rfl, by show -(2 ^ 62) ≤ 1 + z % 40; omega, by show 1 + z % 40 < 2 ^ 62; omega, fun D2 hD2 => ?_⟩
  refine lc_rng (lo := 0) (n := (1 + z % 40).toNat) (fun i => .int (mk (((1 + z % 40).toNat : Int) - 1 - i) t r)) G10.bh hD2 (by omega) (fun i B3 H3 hi s2 s3 s4 fr R k => ?_) (fun B11 H11 g11 h11 => ?_)
  · refine ⟨rfl, _, rfl, _, _, rfl, rfl, _, rfl, _, _, rfl, rfl, _, rfl, _, rfl, _, t, r, rfl, by omega, by omega, t0, r0, ?_⟩
    rw [show 1 + z % 40 - 1 - (0 + (i : Int)) = ((1 + z % 40).toNat : Int) - 1 - i by omega]
    exact k _ B3 H3 (Grow.refl s3) (.int _)
  rw [downs_map] at h11
  have G11 := G10.trans (g11.p p)
  have d11 := d10.up g11.hh
  clear G9 d9 tn G10 d10 g11 hD2
  -- told of the fold from the left
  refine ⟨_, rfl, _, rfl, _, rfl, B11, 1 + z % 40, t, r, rfl, G11.bh, by omega, by omega, t0, t1, r0, r1, fun p4 B12 H12 np4 g12 h12 => ?_⟩
  refine ⟨_, rfl, _, rfl, _, rfl, B12, 1 + z % 40, t, r, rfl, g12.bh, by omega, by omega, t0, t1, r0, r1, fun p5 B13 H13 np5 g13 h13 => ?_⟩
  refine ⟨by show 2 ≤ sizeLine; decide, fun q2 nq2 => ?_⟩
  have smQ := smD.pair smD
  have at14 : At (upd H13 q2 (.lst [.ref p4, .ref p5])) (.ref q2) (.list [intsD ((downs (1 + z % 40).toNat).map fun d => mk d t r), intsD ((downs (1 + z % 40).toNat).map fun d => mk d t r)]) :=
    .lst upd_same (.cons (((h12.up g13.bb).up g13.bh).up (same_new nq2)) (.cons ((h13.up g13.bh).up (same_new nq2)) .nil))
  have s14 : Same H11 (upd H13 q2 (.lst [.ref p4, .ref p5])) := (g12.hh.trans g13.hh).trans (same_new nq2)
  generalize upd H13 q2 (.lst [.ref p4, .ref p5]) = H14 at at14 s14
  refine ⟨_, rfl, _, _, rfl, at14.dp, smQ.shown (by decide) (by decide), ?_⟩
  refine ⟨_, rfl, _, rfl, by show 2 ≤ sizeLine; decide, fun q3 nq3 => ?_⟩
  have due14 := (h11.up G11.bh).up s14
  have at15 : At (upd H14 q3 (.lst [.ref D2, .ref D2])) (.ref q3) (.list [intsD ((downs (1 + z % 40).toNat).map fun d => mk d t r), intsD ((downs (1 + z % 40).toNat).map fun d => mk d t r)]) :=
    .lst upd_same (.cons (due14.up (same_new nq3)) (.cons (due14.up (same_new nq3)) .nil))
  refine ⟨_, _, rfl, at15.dp, smQ.shown (by decide) (by decide), rfl, _, rfl, iteNS rfl ?_⟩
  have G15 := G11.more (s14.trans (same_new (o := .lst [.ref D2, .ref D2]) nq3))
  have d15 := d11.up (s14.trans (same_new (o := .lst [.ref D2, .ref D2]) nq3))
  have hBp15 := G15.free hd.some hBp
  generalize upd H14 q3 (.lst [.ref D2, .ref D2]) = H15 at G15 d15
  clear at15 at14 due14 s14 g12 g13 h12 h13 G11 d11 nq3 nq2
  -- one depth
  refine ⟨_, rfl, p, _, rfl, d15, by omega, fun u H16 u0 u1 tn d16 => .inl ⟨_, rfl, _, _, rfl, rfl, (by show (0 : Int) < _; decide), ?_⟩⟩
  have G16 := G15.low tn hBp15
  have c0 := Int.emod_nonneg u (show (200 : Int) ≠ 0 by decide)
  have c1 := Int.emod_lt_of_pos u (show (0 : Int) < 200 by decide)
  have smI : Sm 0 13 (.int (mk (u % 200) t r)) := Sm.int (by
    have h1 := mk_nonneg c0 t0 r0
    have h2 := mk_lt c0 t0 r0
    omega)
  have smJ := smI.pair smI
  refine ⟨_, rfl, _, rfl, _, rfl, _, _, _, rfl, c0, t0, t1, r0, r1, ?_⟩
  refine ⟨_, rfl, _, rfl, _, rfl, _, _, _, rfl, c0, t0, t1, r0, r1, ?_⟩
  refine ⟨by show 2 ≤ sizeLine; decide, fun q4 nq4 => ?_⟩
  have s17 : Same H16 (upd H16 q4 (.lst [.int (mk (u % 200) t r), .int (mk (u % 200) t r)])) := same_new nq4
  have e17 : upd H16 q4 (.lst [.int (mk (u % 200) t r), .int (mk (u % 200) t r)]) q4 = some (.lst [.int (mk (u % 200) t r), .int (mk (u % 200) t r)]) := upd_same
  generalize upd H16 q4 (.lst [.int (mk (u % 200) t r), .int (mk (u % 200) t r)]) = H17 at s17 e17
  have at17 : At H17 (.ref q4) (.list [.int (mk (u % 200) t r), .int (mk (u % 200) t r)]) := .lst e17 (.cons (.int _) (.cons (.int _) .nil))
  refine ⟨_, rfl, _, _, rfl, at17.dp, smJ.shown (by decide) (by decide), ?_⟩
  refine ⟨_, rfl, _, rfl, _, rfl, _, _, _, rfl, c0, by omega, t0, r0, ?_⟩
  refine ⟨by show 1 ≤ sizeLine; decide, fun q5 nq5 => ?_⟩
  refine ⟨q5, 2, _, rfl, rfl, upd_same, by decide, by decide, by show 1 * 2 ≤ sizeLine; decide, fun q6 nq6 => ?_⟩
  have s18 : Same H17 (upd (upd H17 q5 (.lst [.int (mk (u % 200) t r)])) q6 (.lst (List.replicate (Int.toNat 2) [V.int (mk (u % 200) t r)]).flatten)) := (same_new nq5).trans (same_new nq6)
  have at18 : At (upd (upd H17 q5 (.lst [.int (mk (u % 200) t r)])) q6 (.lst (List.replicate (Int.toNat 2) [V.int (mk (u % 200) t r)]).flatten)) (.ref q6) (.list [.int (mk (u % 200) t r), .int (mk (u % 200) t r)]) := .lst upd_same (.cons (.int _) (.cons (.int _) .nil))
  refine ⟨_, _, rfl, at18.dp, smJ.shown (by decide) (by decide), rfl, _, rfl, iteNS rfl ?_⟩
  have G18 := G16.more (s17.trans s18)
  have d18 := d16.up (s17.trans s18)
  generalize upd (upd H17 q5 (.lst [.int (mk (u % 200) t r)])) q6 (.lst (List.replicate (Int.toNat 2) [V.int (mk (u % 200) t r)]).flatten) = H18 at G18 d18
  clear at18 at17 s18 s17 e17 G16 d16 tn G15 d15
  -- far around
  refine ⟨_, rfl, p, _, rfl, d18, by omega, fun y H19 y0' y1' tn d19 => .inl ⟨_, rfl, _, _, rfl, rfl, ⟨by decide, by decide +kernel⟩, _, _, rfl, rfl, .inr ⟨by decide, by decide⟩, ?_⟩⟩
  have G19 := G18.low tn hBp15
  have fin : ∀ m : Int, m ≤ n + 100 → DrawsAt H19 p m → Q (.bl true) H19 := fun m hm hd => q H19 G19.turn (hd.mono hm)
  refine ⟨_, rfl, _, rfl, _, _, rfl, rfl, _, rfl, ite2 (fun c => ?_) (fun c => ?_)⟩
  · exact fin _ (by omega) d19
  · have hdt : t ≤ u % 200 := by
      have h2 : ¬ (u % 200 < t) := fun z => c (decide_eq_true z)
      omega
    have e6 : (10 : Int) ^ (6 : Int).toNat = 1000000 := by decide
    have f0 : 0 ≤ r * (y * (10 : Int) ^ (6 : Int).toNat) := Int.mul_nonneg (by omega) (Int.mul_nonneg y0' (by rw [e6]; decide))
    refine ⟨_, rfl, _, rfl, _, rfl, _, _, rfl, rfl, .inl ⟨by omega, by omega⟩, _, _, rfl, rfl, _, rfl, _, rfl, _, _, _, rfl, by omega, t0, t1, r0, r1, ?_⟩
    refine ⟨_, rfl, _, rfl, _, rfl, _, _, _, rfl, c0, by omega, t0, r0, rfl, ?_⟩
    rw [mk_far hdt (by omega), decide_eq_true rfl]
    exact fin _ (by omega) d19
theorem cut_upto (xs : List V) (k : Nat) : cutV xs none (some (k : Int)) = xs.take k := by
  unfold cutV
  rw [HT.sIx_none, HT.sIx_nat, List.drop_zero, Nat.sub_zero, List.take_eq_take_iff]
  omega
/-- what the list of all draws is: the objects apart, none used yet -/
structure Piles (H : Hp) (D : Addr) (ps : List Addr) : Prop where
  at0 : H D = some (.lst (ps.map V.ref))
  nd : ps.Nodup
  out : D ∉ ps

def sp_law (K : PySem.W.Frag) : Sp := fun vs H Q _ => ∃ (a : Addr) (ns : List Int), vs = [.ref a] ∧ SqL K H a (ns.map V.int) ∧ ns.length ≤ 63 ∧ ∀ H2, Q (.bl true) H2
theorem ok_law {f : Addr} {fd : FuncData} (F : Fun K "law" "law" s_law f fd) (T : Bt mg) (D_mark : Callee P w K mg base CX0 4 "mark" ["depth", "tail", "ring"] (sp_mark K)) (D_fold_marks : Callee P w K mg base CX0 5 "fold_marks" ["number", "tail", "ring"] (sp_fold_marks K)) (D__law_draws : Callee P w K mg base CX0 1 "_law_draws" ["_law_cell"] (sp_l_draws K)) (D__law_cycle : Callee P w K mg base CX0 2 "_law_cycle" ["_law_draws_here"] (sp_l_cycle K)) (D__law_right : Callee P w K mg base CX0 6 "_law_right" ["_law_draws_here", "_law_a_tail", "_law_a_ring"] (sp_l_right K)) : FnG P w K mg base CX0 7 f fd ["_law_script"] (sp_law K) := by
  refine okN F sc_law (fun vs H Q E h => ?_) (fun cdv A out s H vs Q E hc hr h => ?_)
  · obtain ⟨a, ns, rfl, hS, hlen, q⟩ := h
    rfl
  obtain ⟨a, ns, rfl, hS, hlen, q⟩ := h
  have hu200 := u200 hr
  have hu64 := hr.units
  refine ⟨_, (pss_cons (ps_for PassesOwn.never rfl (pi_list (pe_lc (own := [("_law_cell", 5)]) (g := (gName 5)) (tt := tYes) (by rfl) sc_law.nd (pi_list (pe_op op_cat (pe_slice sl_list (pv 0) po_none (po_some pe_int)) (pe_lst (pa_cons pe_int pa_nil)))) (blkOk_by (own := [("_law_cell", 5)]) (N := N_law) (sc := defScope s_law) (by decide +kernel)) (fun _ _ _ _ _ => (pg_name (i := 5) sc_law.nd rfl (.inl rfl))) (fun _ _ _ _ _ => pts_nil) (fun _ _ _ _ _ => (pg_call D__law_draws.ok hc (hr.mono (by decide)) (by rfl) D__law_draws.mg D__law_draws.kp D__law_draws.bd pass0 (pa_cons (pv 5) pa_nil))))) (pg_name (i := 1) sc_law.nd rfl (.inl rfl)) (pss_one (ps_for PassesOwn.never rfl (pi_range1 (by rfl) T.b_range (pa_cons pe_int pa_nil)) (pg_name (i := 2) sc_law.nd rfl (.inl rfl)) (pss_cons (ps_asg (pg_call D__law_cycle.ok hc (hr.mono (by decide)) (by rfl) D__law_cycle.mg D__law_cycle.kp D__law_cycle.bd pass0 (pa_cons (pv 1) pa_nil)) (pg_tup rfl (pgs_cons (pg_name (i := 3) sc_law.nd rfl (.inl rfl)) (pgs_cons (pg_name (i := 4) sc_law.nd rfl (.inl rfl)) pgs_nil))))
    (pss_one (ps_if (PW.pt (pw_or (pt_not (pt_val (pg_call D__law_right.ok hc (hr.mono (by decide)) (by rfl) D__law_right.mg D__law_right.kp D__law_right.bd pass0 (pa_cons (pv 1) (pa_cons (pv 3) (pa_cons (pv 4) pa_nil)))))) (pw_or1 (pt_not (pt_val (pg_call D__law_right.ok hc (hr.mono (by decide)) (by rfl) D__law_right.mg D__law_right.kp D__law_right.bd pass0 (pa_cons (pv 1) (pa_cons (pv 3) (pa_cons (pe_op op_sub pe_int (pv 4)) pa_nil))))))))) (pss_one (ps_ret pe_bl)) pss_nil))))))
    (pss_cons (ps_if (pt_cmpR (op_neD hu64) (pe_lc (own := [("_law_a_depth", 6)]) (g := (gName 6)) (tt := tYes) (by rfl) sc_law.nd (pi_list (pe_lst (pa_cons pe_int (pa_cons pe_int (pa_cons pe_int (pa_cons pe_int (pa_cons pe_int (pa_cons pe_int pa_nil)))))))) (blkOk_by (own := [("_law_a_depth", 6)]) (N := N_law) (sc := defScope s_law) (by decide +kernel)) (fun _ _ _ _ _ => (pg_name (i := 6) sc_law.nd rfl (.inl rfl))) (fun _ _ _ _ _ => pts_nil) (fun _ _ _ _ _ => (pg_call D_mark.ok hc (hr.mono (by decide)) (by rfl) D_mark.mg D_mark.kp D_mark.bd pass0 (pa_cons (pv 6) (pa_cons pe_int (pa_cons pe_int pa_nil)))))) (pe_lst (pa_cons pe_int (pa_cons pe_int (pa_cons pe_int (pa_cons pe_int (pa_cons pe_int (pa_cons pe_int pa_nil))))))) (nomark _)) (pss_one (ps_ret pe_bl)) pss_nil)
    (pss_cons (ps_if (pt_cmpR (op_neD hu64) (pe_lc (own := [("_law_a_depth", 6)]) (g := (gName 6)) (tt := tYes) (by rfl) sc_law.nd (pi_range1 (by rfl) T.b_range (pa_cons pe_int pa_nil)) (blkOk_by (own := [("_law_a_depth", 6)]) (N := N_law) (sc := defScope s_law) (by decide +kernel)) (fun _ _ _ _ _ => (pg_name (i := 6) sc_law.nd rfl (.inl rfl))) (fun _ _ _ _ _ => pts_nil) (fun _ _ _ _ _ => (pg_call D_mark.ok hc (hr.mono (by decide)) (by rfl) D_mark.mg D_mark.kp D_mark.bd pass0 (pa_cons (pv 6) (pa_cons pe_int (pa_cons pe_int pa_nil)))))) (pe_lst (pa_cons pe_int (pa_cons pe_int (pa_cons pe_int (pa_cons pe_int (pa_cons pe_int (pa_cons pe_int pa_nil))))))) (nomark _)) (pss_one (ps_ret pe_bl)) pss_nil)
    (pss_one (ps_ret (pe_cmpR (op_eqD hu64) (pg_call D_fold_marks.ok hc (hr.mono (by decide)) (by rfl) D_fold_marks.mg D_fold_marks.kp D_fold_marks.bd pass0 (pa_cons pe_int (pa_cons pe_int (pa_cons pe_int pa_nil)))) (pe_lst (pa_cons pe_int (pa_cons pe_int (pa_cons pe_int (pa_cons pe_int (pa_cons pe_int pa_nil)))))) (nomark _))))))), ?_⟩

  have hB0 : ∀ H : Hp, Same (fun _ => Option.none) H := fun H b o e => nomatch e
  refine ⟨_, rfl, 5, rfl, a, ns.map V.int, rfl, hS, fun p1 np1 => ?_⟩
  refine ⟨by show 1 ≤ sizeLine; decide, fun p2 np2 => ?_⟩
  refine ⟨p1, p2, _, _, rfl, rfl, same_new np2 _ _ upd_same, upd_same, ?_, fun p3 np3 => ?_⟩
  · have := cutV_length (ns.map V.int) none (some 5)
    rw [List.length_map] at this
    exact Nat.le_of_lt (small1000 (by simp only [List.length_singleton]; omega))
  have ecut : cutV (ns.map V.int) none (some 5) ++ [V.int 0] = (ns.take 5 ++ [0]).map V.int := by
    rw [show (5 : Int) = ((5 : Nat) : Int) from rfl, cut_upto, List.map_append, List.map_take]
    rfl
  have h3 : upd (upd (upd H p1 (.lst (cutV (ns.map V.int) none (some 5)))) p2 (.lst [.int 0])) p3 (.lst (cutV (ns.map V.int) none (some 5) ++ [.int 0])) p3 = some (.lst ((ns.take 5 ++ [0]).map V.int)) := by
    rw [upd_same, ecut]
  generalize upd (upd (upd H p1 (.lst (cutV (ns.map V.int) none (some 5)))) p2 (.lst [.int 0])) p3 (.lst (cutV (ns.map V.int) none (some 5) ++ [.int 0])) = H3 at h3
  have hcl : (ns.take 5 ++ [0]).length ≤ 6 := by
    rw [List.length_append, List.length_take]
    simp only [List.length_singleton]
    omega
  generalize ns.take 5 ++ [0] = cs at h3 hcl
  -- the piles
  refine ⟨p3, rfl, ⟨_, SqL.of h3⟩, fun D hD => ?_⟩
  refine lc_list (K := K) (a := p3) (xs := cs.map V.int) (fun i H4 => ∃ ps : List Addr, ps.length = i ∧ Piles H4 D ps ∧ (∀ x ∈ ps, DrawsAt H4 x 0) ∧ Same H3 H4)
    ⟨[], rfl, ⟨upd_same, List.nodup_nil, List.not_mem_nil⟩, (fun _ h => nomatch h), same_new hD⟩ (fun i H4 _ ⟨_, _, _, _, s⟩ => SqL.of (s _ _ h3)) ?_ ?_
  · rintro i x H4 hi ⟨ps, hl, pl, dr, s⟩
    obtain ⟨c, hc, rfl⟩ := ex_int hi
    refine ⟨rfl, ?_⟩
    dsimp only [tYes]
    rw [if_pos rfl]
    refine ⟨_, rfl, c, rfl, fun r H5 s5 nr d5 => ?_⟩
    have hi2 := (List.getElem?_eq_some_iff.mp hc).1
    have rps : r ∉ ps := fun m => (dr r m).some nr
    have rD : r ≠ D := fun e => by rw [e, pl.at0] at nr; cases nr
    refine ⟨_, s5 _ _ pl.at0, by rw [List.length_map]; exact small1000 (by omega), ps ++ [r], by simp [hl], ⟨by rw [upd_same, List.map_append]; rfl, ?_, ?_⟩, fun x hx => ?_, fun b o e => ?_⟩
    · exact List.nodup_append.mpr ⟨pl.nd, by simp, fun x hx y hy => by
        rw [List.mem_singleton] at hy
        rintro rfl
        exact rps (by rw [← hy]; exact hx)⟩
    · intro m
      rcases List.mem_append.mp m with m | m
      · exact pl.out m
      · rw [List.mem_singleton] at m
        exact rD m.symm
    · rcases List.mem_append.mp hx with m | m
      · exact ((dr x m).up s5).other (Turn.upd (p := D) (s5 _ _ pl.at0)) fun e => pl.out (by rw [← e]; exact m)
      · rw [List.mem_singleton] at m
        rw [m]
        exact d5.other (Turn.upd (p := D) (s5 _ _ pl.at0)) rD
    · rw [upd_ne (ne_of_none e hD)]
      exact s5 _ _ (s b o e)
  rintro H4 ⟨ps, hl, pl, dr, s4⟩
  refine ⟨D, rfl, ⟨_, SqL.of pl.at0⟩, ?_⟩
  refine for_list (K := K) (a := D) (xs := ps.map V.ref) (fun i σ H5 => ∃ x1 x2 x3 x4, σ = [some (.ref a), x1, x2, x3, x4, none, none] ∧ Piles H5 D ps ∧ ∀ j y, i ≤ j → ps[j]? = some y → DrawsAt H5 y 0)
    ⟨none, none, none, none, rfl, pl, fun j y _ h => dr y (List.mem_of_getElem? h)⟩ (fun i σ H5 _ ⟨_, _, _, _, _, p, _⟩ => SqL.of p.at0) ?_ ?_
  · rintro i x σ H5 hi ⟨x1, x2, x3, x4, rfl, pl5, dr5⟩
    obtain ⟨y, hy, rfl⟩ : ∃ y, ps[i]? = some y ∧ x = V.ref y := by
      rw [List.getElem?_map] at hi
      cases z : ps[i]? with
      | none => rw [z] at hi; cases hi
      | some d => rw [z] at hi; exact ⟨d, rfl, (Option.some.inj hi).symm⟩
    have hyD : D ≠ y := fun e => pl5.out (by rw [e]; exact List.mem_of_getElem? hy)
    have later : ∀ (H6 H7 : Hp), Turn y H6 H7 → (∀ j z, i + 1 ≤ j → ps[j]? = some z → DrawsAt H6 z 0) → ∀ j z, i + 1 ≤ j → ps[j]? = some z → DrawsAt H7 z 0 := fun H6 H7 t h j z hj hz =>
      (h j z hj hz).other t fun e => by
        have := nd_ix pl5.nd hz (by rw [e]; exact hy)
        omega
    have pileT : ∀ (H6 H7 : Hp), Turn y H6 H7 → Piles H6 D ps → Piles H7 D ps := fun H6 H7 t h => ⟨t.hh _ _ hyD h.at0, h.nd, h.out⟩
    refine ⟨3, rfl, by decide, by decide, ?_⟩
    refine for_range (lo := 0) (n := 3) (fun k σ H6 => ∃ x2 x3 x4, σ = [some (.ref a), some (.ref y), x2, x3, x4, none, none] ∧ Piles H6 D ps ∧ DrawsAt H6 y (1000 * k) ∧ ∀ j z, i + 1 ≤ j → ps[j]? = some z → DrawsAt H6 z 0)
      ⟨x2, x3, x4, rfl, pl5, (dr5 i y (Nat.le_refl _) hy).mono (by omega), fun j z hj hz => dr5 j z (by omega) hz⟩ ?_ ?_
    · rintro k σ H6 hk ⟨x2, x3, x4, rfl, pl6, d6, dr6⟩
      refine ⟨_, rfl, (fun _ => Option.none), y, _, rfl, hB0 _, rfl, d6, by omega, fun v t r B2 H7 t0 t1 r0 r1 G d7 hv => ?_⟩
      have tn7 : Turn y H6 H7 := G.turn
      obtain ⟨w, xs, rfl, hw, axs⟩ := hv.tup_ex
      cases axs with
      | cons a1 a2 =>
        cases a2 with
        | cons a2 a3 =>
          cases a3
          obtain rfl := a1.int_eq
          obtain rfl := a2.int_eq
          refine ⟨w, _, rfl, SqT.of (G.bh _ _ hw), rfl, _, _, rfl, _, _, rfl, rfl, ?_⟩
          refine ⟨_, rfl, _, rfl, _, rfl, y, _, t, r, rfl, d7, by omega, by omega, t0, t1, by omega, by omega, fun H8 tn8 d8 => ⟨_, rfl, iteF ?_⟩⟩
          refine ⟨_, rfl, _, rfl, _, rfl, _, _, rfl, rfl, y, _, t, 10000 - r, rfl, d8, by omega, by omega, t0, t1, by omega, by omega, fun H9 tn9 d9 => ⟨_, rfl, iteF ?_⟩⟩
          have tn := (tn7.trans tn8).trans tn9
          exact ⟨_, _, _, rfl, pileT _ _ tn pl6, d9.mono (by omega), later _ _ tn dr6⟩
    · rintro σ H6 ⟨x2, x3, x4, rfl, pl6, d6, dr6⟩
      exact ⟨_, _, _, _, rfl, pl6, dr6⟩
  rintro σ H5 ⟨x1, x2, x3, x4, rfl, _, _⟩
  clear dr s4 pl hl h3 hcl hS hlen
  -- written depths
  refine ⟨by show 6 ≤ sizeLine; decide, fun c1 nc1 => ⟨c1, rfl, ⟨_, SqL.of upd_same⟩, fun E1 hE1 => ?_⟩⟩
  refine lc_ints (ns := [0, 39, 40, 10039, 10040, 20040]) (fun d => .int (mk d 40 10000)) (hB0 _) hE1 (by decide) (SqL.of upd_same) (fun d B3 H3 hd3 s2 s3 s4 fr R k => ?_) (fun B6 H6 g6 h6 => ?_)
  · have b0 : 0 ≤ d := (by decide : ∀ d ∈ ([0, 39, 40, 10039, 10040, 20040] : List Int), 0 ≤ d) d hd3
    exact ⟨rfl, _, rfl, d, 40, 10000, rfl, b0, by decide, by decide, by decide, by decide, k _ B3 H3 (Grow.refl s3) (.int _)⟩
  refine ⟨by show 6 ≤ sizeLine; decide, fun c2 nc2 => ?_⟩
  have sm1 : Sm 1 (6 * 15 + 3) (intsD [0, 39, 40, 10039, 40, 40]) := Sm.ints (by decide) (Nat.le_refl _)
  have e1 : PyData.list ([0, 39, 40, 10039, 10040, 20040].map fun d => PyData.int (mk d 40 10000)) = intsD [0, 39, 40, 10039, 40, 40] := by simp [mk, intsD]
  rw [e1] at h6
  have h6b : At (upd H6 c2 (.lst [.int 0, .int 39, .int 40, .int 10039, .int 40, .int 40])) (.ref c2) (intsD [0, 39, 40, 10039, 40, 40]) := ints_at upd_same
  refine ⟨_, _, ((h6.up g6.bh).up (same_new nc2)).dp, h6b.dp, sm1.shaped (by decide), sm1.shaped (by decide), _, rfl, ?_⟩
  rw [eqv_same sm1]
  refine iteF ?_
  generalize upd H6 c2 _ = H7
  refine ⟨6, rfl, by decide, by decide, fun E2 hE2 => ?_⟩
  refine lc_rng (lo := 0) (n := 6) (fun i => .int (mk i 1 3)) (hB0 _) hE2 (by decide) (fun i B3 H3 hi s2 s3 s4 fr R k => ?_) (fun B8 H8 g8 h8 => ?_)
  · refine ⟨rfl, _, rfl, 0 + (i : Int), 1, 3, rfl, by omega, by decide, by decide, by decide, by decide, ?_⟩
    rw [Int.zero_add]
    exact k _ B3 H3 (Grow.refl s3) (.int _)
  refine ⟨by show 6 ≤ sizeLine; decide, fun c3 nc3 => ?_⟩
  have sm2 : Sm 1 (6 * 15 + 3) (intsD [0, 1, 2, 3, 1, 2]) := Sm.ints (by decide) (Nat.le_refl _)
  have e2 : PyData.list ((List.range 6).map fun i : Nat => PyData.int (mk i 1 3)) = intsD [0, 1, 2, 3, 1, 2] := by simp [mk, intsD, List.range_succ]
  rw [e2] at h8
  have h8b : At (upd H8 c3 (.lst [.int 0, .int 1, .int 2, .int 3, .int 1, .int 2])) (.ref c3) (intsD [0, 1, 2, 3, 1, 2]) := ints_at upd_same
  refine ⟨_, _, ((h8.up g8.bh).up (same_new nc3)).dp, h8b.dp, sm2.shaped (by decide), sm2.shaped (by decide), _, rfl, ?_⟩
  rw [eqv_same sm2]
  refine iteF ?_
  generalize upd H8 c3 _ = H9
  refine ⟨fun _ => Option.none, 5, 2, 1, rfl, hB0 _, by decide, by decide, by decide, by decide, by decide, by decide, fun f1 B10 H10 nf g10 h10 => ?_⟩
  refine ⟨by show 5 ≤ sizeLine; decide, fun c4 nc4 => ?_⟩
  have sm3 : Sm 1 (5 * 15 + 3) (intsD [2, 2, 2, 1, 0]) := Sm.ints (by decide) (Nat.le_refl _)
  have e3 : intsD ((downs (5 : Int).toNat).map fun d => mk d 2 1) = intsD [2, 2, 2, 1, 0] := by simp [mk, downs]
  rw [e3] at h10
  have h10b : At (upd H10 c4 (.lst [.int 2, .int 2, .int 2, .int 1, .int 0])) (.ref c4) (intsD [2, 2, 2, 1, 0]) := ints_at upd_same
  refine ⟨_, _, ((h10.up g10.bh).up (same_new nc4)).dp, h10b.dp, sm3.shaped (by decide), sm3.shaped (by decide), ?_⟩
  rw [eqv_same sm3]
  exact q _
end
theorem kb_mk_marks_of_ring_tail_tree {K : PySem.W.Frag} {f : Addr} {fd : FuncData} (F : Fun K "marks_of" "marks_of" s_marks_of f fd) : KBindsE K fd ["tree", "tail", "ring"] ["ring", "tail", "tree"] pk_marks_of_ring_tail_tree pk_marks_of_ring_tail_tree := by
  obtain ⟨oc, od, kV, doc, pm, an, cdv, ct, osl, rfl, lk, hcd⟩ := F.ex
  refine ⟨fun s ws _ hl => ?_, fun {zs ws} r => ?_⟩
  · match ws, hl with
    | [u0, u1, u2], _ => exact .of_eq rfl
  ·
    cases r with
    | nil => exact .nil
    | cons q0 r =>
      cases r with
      | nil => exact .nil
      | cons q1 r =>
        cases r with
        | nil => exact .nil
        | cons q2 r =>
          cases r with
          | nil => exact (.cons q2 (.cons q1 (.cons q0 .nil)))
          | cons _ _ => exact .nil
theorem kb_mk_fold_marks_ring_tail_number {K : PySem.W.Frag} {f : Addr} {fd : FuncData} (F : Fun K "fold_marks" "fold_marks" s_fold_marks f fd) : KBindsE K fd ["number", "tail", "ring"] ["ring", "tail", "number"] pk_fold_marks_ring_tail_number pk_fold_marks_ring_tail_number := by
  obtain ⟨oc, od, kV, doc, pm, an, cdv, ct, osl, rfl, lk, hcd⟩ := F.ex
  refine ⟨fun s ws _ hl => ?_, fun {zs ws} r => ?_⟩
  · match ws, hl with
    | [u0, u1, u2], _ => exact .of_eq rfl
  ·
    cases r with
    | nil => exact .nil
    | cons q0 r =>
      cases r with
      | nil => exact .nil
      | cons q1 r =>
        cases r with
        | nil => exact .nil
        | cons q2 r =>
          cases r with
          | nil => exact (.cons q2 (.cons q1 (.cons q0 .nil)))
          | cons _ _ => exact .nil
theorem kb_mk_mark_ring_tail_depth {K : PySem.W.Frag} {f : Addr} {fd : FuncData} (F : Fun K "mark" "mark" s_mark f fd) : KBindsE K fd ["depth", "tail", "ring"] ["ring", "tail", "depth"] pk_mark_ring_tail_depth pk_mark_ring_tail_depth := by
  obtain ⟨oc, od, kV, doc, pm, an, cdv, ct, osl, rfl, lk, hcd⟩ := F.ex
  refine ⟨fun s ws _ hl => ?_, fun {zs ws} r => ?_⟩
  · match ws, hl with
    | [u0, u1, u2], _ => exact .of_eq rfl
  ·
    cases r with
    | nil => exact .nil
    | cons q0 r =>
      cases r with
      | nil => exact .nil
      | cons q1 r =>
        cases r with
        | nil => exact .nil
        | cons q2 r =>
          cases r with
          | nil => exact (.cons q2 (.cons q1 (.cons q0 .nil)))
          | cons _ _ => exact .nil
/-! ### what the top has left -/
theorem all_mk {l : PySem.W.OpenLaw} {w : World} {K : PySem.W.Frag} {h : Heap} {mg : Str → Option Value} {fa f1 f2 f3 f4 f5 f6 f7 f8 f9 f10 f11 f12 f13 f14 f15 f16 f17 f18 : Addr} (X : K.In h) (G : h.Ns mainGlobals mg) (hfa : mg "law" = some (.ref fa))
    {od1 an1 od2 an2 od3 an3 od4 an4 od5 an5 od6 an6 od7 an7 od8 an8 od9 an9 od10 an10 od11 an11 od12 an12 od13 an13 od14 an14 od15 an15 od16 an16 od17 an17 od18 an18 : Option Addr} {sl1 sl2 sl3 sl4 sl5 sl6 sl7 sl8 sl9 sl10 sl11 sl12 sl13 sl14 sl15 sl16 sl17 sl18 : Array (Option Value)} {oc1 kV1 dc1 pm1 cd1 ct1 oc2 kV2 dc2 pm2 cd2 ct2 oc3 kV3 dc3 pm3 cd3 ct3 oc4 kV4 dc4 pm4 cd4 ct4 oc5 kV5 dc5 pm5 cd5 ct5 oc6 kV6 dc6 pm6 cd6 ct6 oc7 kV7 dc7 pm7 cd7 ct7 oc8 kV8 dc8 pm8 cd8 ct8 oc9 kV9 dc9 pm9 cd9 ct9 oc10 kV10 dc10 pm10 cd10 ct10 oc11 kV11 dc11 pm11 cd11 ct11 oc12 kV12 dc12 pm12 cd12 ct12 oc13 kV13 dc13 pm13 cd13 ct13 oc14 kV14 dc14 pm14 cd14 ct14 oc15 kV15 dc15 pm15 cd15 ct15 oc16 kV16 dc16 pm16 cd16 ct16 oc17 kV17 dc17 pm17 cd17 ct17 oc18 kV18 dc18 pm18 cd18 ct18 : Value} {tk_MOST_LEAVES tk_MOST_RING tk_MOST_TAIL : Tok}
    (a1 : PySem.W.nsIn K mainGlobals "is_whole" = some (some (.ref f1))) (l1 : K.lookup f1 = some ⟨oc1, od1, .func (PySem.W.fnOf "is_whole" "is_whole" (defArgs s_is_whole) (defBody s_is_whole) (defScope s_is_whole) .none kV1 dc1 pm1 an1 cd1 ct1), sl1⟩) (c1 : PySem.W.codeIn K cd1 "is_whole" = true) (k1 : PySem.W.keepIn K (.ref f1) = true)
    (a2 : PySem.W.nsIn K mainGlobals "is_whole_within" = some (some (.ref f2))) (l2 : K.lookup f2 = some ⟨oc2, od2, .func (PySem.W.fnOf "is_whole_within" "is_whole_within" (defArgs s_is_whole_within) (defBody s_is_whole_within) (defScope s_is_whole_within) .none kV2 dc2 pm2 an2 cd2 ct2), sl2⟩) (c2 : PySem.W.codeIn K cd2 "is_whole_within" = true) (k2 : PySem.W.keepIn K (.ref f2) = true)
    (a3 : PySem.W.nsIn K mainGlobals "check_number" = some (some (.ref f3))) (l3 : K.lookup f3 = some ⟨oc3, od3, .func (PySem.W.fnOf "check_number" "check_number" (defArgs s_check_number) (defBody s_check_number) (defScope s_check_number) .none kV3 dc3 pm3 an3 cd3 ct3), sl3⟩) (c3 : PySem.W.codeIn K cd3 "check_number" = true) (k3 : PySem.W.keepIn K (.ref f3) = true)
    (a4 : PySem.W.nsIn K mainGlobals "check_tail" = some (some (.ref f4))) (l4 : K.lookup f4 = some ⟨oc4, od4, .func (PySem.W.fnOf "check_tail" "check_tail" (defArgs s_check_tail) (defBody s_check_tail) (defScope s_check_tail) .none kV4 dc4 pm4 an4 cd4 ct4), sl4⟩) (c4 : PySem.W.codeIn K cd4 "check_tail" = true) (k4 : PySem.W.keepIn K (.ref f4) = true)
    (a5 : PySem.W.nsIn K mainGlobals "check_ring" = some (some (.ref f5))) (l5 : K.lookup f5 = some ⟨oc5, od5, .func (PySem.W.fnOf "check_ring" "check_ring" (defArgs s_check_ring) (defBody s_check_ring) (defScope s_check_ring) .none kV5 dc5 pm5 an5 cd5 ct5), sl5⟩) (c5 : PySem.W.codeIn K cd5 "check_ring" = true) (k5 : PySem.W.keepIn K (.ref f5) = true)
    (a6 : PySem.W.nsIn K mainGlobals "check_tree" = some (some (.ref f6))) (l6 : K.lookup f6 = some ⟨oc6, od6, .func (PySem.W.fnOf "check_tree" "check_tree" (defArgs s_check_tree) (defBody s_check_tree) (defScope s_check_tree) .none kV6 dc6 pm6 an6 cd6 ct6), sl6⟩) (c6 : PySem.W.codeIn K cd6 "check_tree" = true) (k6 : PySem.W.keepIn K (.ref f6) = true)
    (a7 : PySem.W.nsIn K mainGlobals "left_fold" = some (some (.ref f7))) (l7 : K.lookup f7 = some ⟨oc7, od7, .func (PySem.W.fnOf "left_fold" "left_fold" (defArgs s_left_fold) (defBody s_left_fold) (defScope s_left_fold) .none kV7 dc7 pm7 an7 cd7 ct7), sl7⟩) (c7 : PySem.W.codeIn K cd7 "left_fold" = true) (k7 : PySem.W.keepIn K (.ref f7) = true)
    (a8 : PySem.W.nsIn K mainGlobals "_mark_of" = some (some (.ref f8))) (l8 : K.lookup f8 = some ⟨oc8, od8, .func (PySem.W.fnOf "_mark_of" "_mark_of" (defArgs s_mark_of) (defBody s_mark_of) (defScope s_mark_of) .none kV8 dc8 pm8 an8 cd8 ct8), sl8⟩) (c8 : PySem.W.codeIn K cd8 "_mark_of" = true) (k8 : PySem.W.keepIn K (.ref f8) = true)
    (a9 : PySem.W.nsIn K mainGlobals "mark" = some (some (.ref f9))) (l9 : K.lookup f9 = some ⟨oc9, od9, .func (PySem.W.fnOf "mark" "mark" (defArgs s_mark) (defBody s_mark) (defScope s_mark) .none kV9 dc9 pm9 an9 cd9 ct9), sl9⟩) (c9 : PySem.W.codeIn K cd9 "mark" = true) (k9 : PySem.W.keepIn K (.ref f9) = true)
    (a10 : PySem.W.nsIn K mainGlobals "marks_of" = some (some (.ref f10))) (l10 : K.lookup f10 = some ⟨oc10, od10, .func (PySem.W.fnOf "marks_of" "marks_of" (defArgs s_marks_of) (defBody s_marks_of) (defScope s_marks_of) .none kV10 dc10 pm10 an10 cd10 ct10), sl10⟩) (c10 : PySem.W.codeIn K cd10 "marks_of" = true) (k10 : PySem.W.keepIn K (.ref f10) = true)
    (a11 : PySem.W.nsIn K mainGlobals "fold_marks" = some (some (.ref f11))) (l11 : K.lookup f11 = some ⟨oc11, od11, .func (PySem.W.fnOf "fold_marks" "fold_marks" (defArgs s_fold_marks) (defBody s_fold_marks) (defScope s_fold_marks) .none kV11 dc11 pm11 an11 cd11 ct11), sl11⟩) (c11 : PySem.W.codeIn K cd11 "fold_marks" = true) (k11 : PySem.W.keepIn K (.ref f11) = true)
    (a12 : PySem.W.nsIn K mainGlobals "_law_draws" = some (some (.ref f12))) (l12 : K.lookup f12 = some ⟨oc12, od12, .func (PySem.W.fnOf "_law_draws" "_law_draws" (defArgs s_l_draws) (defBody s_l_draws) (defScope s_l_draws) .none kV12 dc12 pm12 an12 cd12 ct12), sl12⟩) (c12 : PySem.W.codeIn K cd12 "_law_draws" = true) (k12 : PySem.W.keepIn K (.ref f12) = true)
    (a13 : PySem.W.nsIn K mainGlobals "_law_next" = some (some (.ref f13))) (l13 : K.lookup f13 = some ⟨oc13, od13, .func (PySem.W.fnOf "_law_next" "_law_next" (defArgs s_l_next) (defBody s_l_next) (defScope s_l_next) .none kV13 dc13 pm13 an13 cd13 ct13), sl13⟩) (c13 : PySem.W.codeIn K cd13 "_law_next" = true) (k13 : PySem.W.keepIn K (.ref f13) = true)
    (a14 : PySem.W.nsIn K mainGlobals "_law_tree" = some (some (.ref f14))) (l14 : K.lookup f14 = some ⟨oc14, od14, .func (PySem.W.fnOf "_law_tree" "_law_tree" (defArgs s_l_tree) (defBody s_l_tree) (defScope s_l_tree) .none kV14 dc14 pm14 an14 cd14 ct14), sl14⟩) (c14 : PySem.W.codeIn K cd14 "_law_tree" = true) (k14 : PySem.W.keepIn K (.ref f14) = true)
    (a15 : PySem.W.nsIn K mainGlobals "_law_cycle" = some (some (.ref f15))) (l15 : K.lookup f15 = some ⟨oc15, od15, .func (PySem.W.fnOf "_law_cycle" "_law_cycle" (defArgs s_l_cycle) (defBody s_l_cycle) (defScope s_l_cycle) .none kV15 dc15 pm15 an15 cd15 ct15), sl15⟩) (c15 : PySem.W.codeIn K cd15 "_law_cycle" = true) (k15 : PySem.W.keepIn K (.ref f15) = true)
    (a16 : PySem.W.nsIn K mainGlobals "_law_mark" = some (some (.ref f16))) (l16 : K.lookup f16 = some ⟨oc16, od16, .func (PySem.W.fnOf "_law_mark" "_law_mark" (defArgs s_l_mark) (defBody s_l_mark) (defScope s_l_mark) .none kV16 dc16 pm16 an16 cd16 ct16), sl16⟩) (c16 : PySem.W.codeIn K cd16 "_law_mark" = true) (k16 : PySem.W.keepIn K (.ref f16) = true)
    (a17 : PySem.W.nsIn K mainGlobals "_law_right" = some (some (.ref f17))) (l17 : K.lookup f17 = some ⟨oc17, od17, .func (PySem.W.fnOf "_law_right" "_law_right" (defArgs s_l_right) (defBody s_l_right) (defScope s_l_right) .none kV17 dc17 pm17 an17 cd17 ct17), sl17⟩) (c17 : PySem.W.codeIn K cd17 "_law_right" = true) (k17 : PySem.W.keepIn K (.ref f17) = true)
    (a18 : PySem.W.nsIn K mainGlobals "law" = some (some (.ref f18))) (l18 : K.lookup f18 = some ⟨oc18, od18, .func (PySem.W.fnOf "law" "law" (defArgs s_law) (defBody s_law) (defScope s_law) .none kV18 dc18 pm18 an18 cd18 ct18), sl18⟩) (c18 : PySem.W.codeIn K cd18 "law" = true) (k18 : PySem.W.keepIn K (.ref f18) = true)
    (z_bool : PySem.W.nsIn K mainGlobals "bool" = some none)
    (z_enumerate : PySem.W.nsIn K mainGlobals "enumerate" = some none)
    (z_int : PySem.W.nsIn K mainGlobals "int" = some none)
    (z_isinstance : PySem.W.nsIn K mainGlobals "isinstance" = some none)
    (z_len : PySem.W.nsIn K mainGlobals "len" = some none)
    (z_list : PySem.W.nsIn K mainGlobals "list" = some none)
    (z_max : PySem.W.nsIn K mainGlobals "max" = some none)
    (z_min : PySem.W.nsIn K mainGlobals "min" = some none)
    (z_range : PySem.W.nsIn K mainGlobals "range" = some none)
    (z_repr : PySem.W.nsIn K mainGlobals "repr" = some none)
    (z_MOST_LEAVES : PySem.W.nsIn K mainGlobals "MOST_LEAVES" = some (some (.int 40 tk_MOST_LEAVES)))
    (z_MOST_RING : PySem.W.nsIn K mainGlobals "MOST_RING" = some (some (.int 10000 tk_MOST_RING)))
    (z_MOST_TAIL : PySem.W.nsIn K mainGlobals "MOST_TAIL" = some (some (.int 40 tk_MOST_TAIL)))
    : ∃ fd : FuncData, (∀ (s : Shared) (v : Value), BindsTo s fd ⟨[v], []⟩ [("_law_script", v)]) ∧ ∀ base : Heap, K.In base → base.Ns mainGlobals mg → FnG l.prog w K mg base CX0 7 fa fd ["_law_script"] (sp_law K) := by
  have e := hfa.symm.trans (PySem.W.mg_of X G a18)
  cases e
  have T : Bt mg := ⟨PySem.W.mg_none_of X G z_bool, PySem.W.mg_none_of X G z_enumerate, PySem.W.mg_none_of X G z_int, PySem.W.mg_none_of X G z_isinstance, PySem.W.mg_none_of X G z_len, PySem.W.mg_none_of X G z_list, PySem.W.mg_none_of X G z_max, PySem.W.mg_none_of X G z_min, PySem.W.mg_none_of X G z_range, PySem.W.mg_none_of X G z_repr, ⟨_, PySem.W.mg_of X G z_MOST_LEAVES⟩, ⟨_, PySem.W.mg_of X G z_MOST_RING⟩, ⟨_, PySem.W.mg_of X G z_MOST_TAIL⟩⟩
  have F1 := fun_mk (st := s_is_whole) l1 c1 k1
  have b1 := F1.binds (ps := ["thing"]) fun _ _ _ _ _ _ us hl => match us, hl with | [_], _ => rfl
  have F2 := fun_mk (st := s_is_whole_within) l2 c2 k2
  have b2 := F2.binds (ps := ["thing", "least", "most"]) fun _ _ _ _ _ _ us hl => match us, hl with | [_, _, _], _ => rfl
  have F3 := fun_mk (st := s_check_number) l3 c3 k3
  have b3 := F3.binds (ps := ["number", "least", "most"]) fun _ _ _ _ _ _ us hl => match us, hl with | [_, _, _], _ => rfl
  have F4 := fun_mk (st := s_check_tail) l4 c4 k4
  have b4 := F4.binds (ps := ["tail"]) fun _ _ _ _ _ _ us hl => match us, hl with | [_], _ => rfl
  have F5 := fun_mk (st := s_check_ring) l5 c5 k5
  have b5 := F5.binds (ps := ["ring"]) fun _ _ _ _ _ _ us hl => match us, hl with | [_], _ => rfl
  have F6 := fun_mk (st := s_check_tree) l6 c6 k6
  have b6 := F6.binds (ps := ["tree"]) fun _ _ _ _ _ _ us hl => match us, hl with | [_], _ => rfl
  have F7 := fun_mk (st := s_left_fold) l7 c7 k7
  have b7 := F7.binds (ps := ["number"]) fun _ _ _ _ _ _ us hl => match us, hl with | [_], _ => rfl
  have F8 := fun_mk (st := s_mark_of) l8 c8 k8
  have b8 := F8.binds (ps := ["depth", "tail", "ring"]) fun _ _ _ _ _ _ us hl => match us, hl with | [_, _, _], _ => rfl
  have F9 := fun_mk (st := s_mark) l9 c9 k9
  have b9 := F9.binds (ps := ["depth", "tail", "ring"]) fun _ _ _ _ _ _ us hl => match us, hl with | [_, _, _], _ => rfl
  have F10 := fun_mk (st := s_marks_of) l10 c10 k10
  have b10 := F10.binds (ps := ["tree", "tail", "ring"]) fun _ _ _ _ _ _ us hl => match us, hl with | [_, _, _], _ => rfl
  have F11 := fun_mk (st := s_fold_marks) l11 c11 k11
  have b11 := F11.binds (ps := ["number", "tail", "ring"]) fun _ _ _ _ _ _ us hl => match us, hl with | [_, _, _], _ => rfl
  have F12 := fun_mk (st := s_l_draws) l12 c12 k12
  have b12 := F12.binds (ps := ["_law_cell"]) fun _ _ _ _ _ _ us hl => match us, hl with | [_], _ => rfl
  have F13 := fun_mk (st := s_l_next) l13 c13 k13
  have b13 := F13.binds (ps := ["_law_draws_here"]) fun _ _ _ _ _ _ us hl => match us, hl with | [_], _ => rfl
  have F14 := fun_mk (st := s_l_tree) l14 c14 k14
  have b14 := F14.binds (ps := ["_law_draws_here", "_law_many"]) fun _ _ _ _ _ _ us hl => match us, hl with | [_, _], _ => rfl
  have F15 := fun_mk (st := s_l_cycle) l15 c15 k15
  have b15 := F15.binds (ps := ["_law_draws_here"]) fun _ _ _ _ _ _ us hl => match us, hl with | [_], _ => rfl
  have F16 := fun_mk (st := s_l_mark) l16 c16 k16
  have b16 := F16.binds (ps := ["_law_a_depth", "_law_a_tail", "_law_a_ring"]) fun _ _ _ _ _ _ us hl => match us, hl with | [_, _, _], _ => rfl
  have F17 := fun_mk (st := s_l_right) l17 c17 k17
  have b17 := F17.binds (ps := ["_law_draws_here", "_law_a_tail", "_law_a_ring"]) fun _ _ _ _ _ _ us hl => match us, hl with | [_, _, _], _ => rfl
  have F18 := fun_mk (st := s_law) l18 c18 k18
  have b18 := F18.binds (ps := ["_law_script"]) fun _ _ _ _ _ _ us hl => match us, hl with | [_], _ => rfl
  refine ⟨PySem.W.fnOf "law" "law" (defArgs s_law) (defBody s_law) (defScope s_law) .none kV18 dc18 pm18 an18 cd18 ct18, fun s v => .of_eq rfl, fun base _ _ => ?_⟩
  let D1 : Callee l.prog w K mg base CX0 1 "is_whole" ["thing"] (sp_is_whole K) := ⟨f1, _, ok_is_whole F1 T, PySem.W.mg_of X G a1, k1, b1⟩
  let D2 : Callee l.prog w K mg base CX0 2 "is_whole_within" ["thing", "least", "most"] (sp_is_whole_within K) := ⟨f2, _, ok_is_whole_within F2 T D1, PySem.W.mg_of X G a2, k2, b2⟩
  let D3 : Callee l.prog w K mg base CX0 3 "check_number" ["number", "least", "most"] (sp_check_number K) := ⟨f3, _, ok_check_number F3 T D2, PySem.W.mg_of X G a3, k3, b3⟩
  let D4 : Callee l.prog w K mg base CX0 3 "check_tail" ["tail"] (sp_check_tail K) := ⟨f4, _, ok_check_tail F4 T D2, PySem.W.mg_of X G a4, k4, b4⟩
  let D5 : Callee l.prog w K mg base CX0 3 "check_ring" ["ring"] (sp_check_ring K) := ⟨f5, _, ok_check_ring F5 T D2, PySem.W.mg_of X G a5, k5, b5⟩
  let D6 : Callee l.prog w K mg base CX0 2 "check_tree" ["tree"] (sp_check_tree K) := ⟨f6, _, ok_check_tree F6 T D1, PySem.W.mg_of X G a6, k6, b6⟩
  let D7 : Callee l.prog w K mg base CX0 4 "left_fold" ["number"] (sp_left_fold K) := ⟨f7, _, ok_left_fold F7 T D3, PySem.W.mg_of X G a7, k7, b7⟩
  let D8 : Callee l.prog w K mg base CX0 1 "_mark_of" ["depth", "tail", "ring"] (sp_mark_of K) := ⟨f8, _, ok_mark_of F8 T, PySem.W.mg_of X G a8, k8, b8⟩
  let D9 : Callee l.prog w K mg base CX0 4 "mark" ["depth", "tail", "ring"] (sp_mark K) := ⟨f9, _, ok_mark F9 T D1 D4 D5 D8, PySem.W.mg_of X G a9, k9, b9⟩
  let D10 : Callee l.prog w K mg base CX0 4 "marks_of" ["tree", "tail", "ring"] (sp_marks_of K) := ⟨f10, _, ok_marks_of F10 T D4 D5 D6 D8, PySem.W.mg_of X G a10, k10, b10⟩
  let D11 : Callee l.prog w K mg base CX0 5 "fold_marks" ["number", "tail", "ring"] (sp_fold_marks K) := ⟨f11, _, ok_fold_marks F11 T D7 D10, PySem.W.mg_of X G a11, k11, b11⟩
  let D12 : Callee l.prog w K mg base CX0 1 "_law_draws" ["_law_cell"] (sp_l_draws K) := ⟨f12, _, ok_l_draws F12 T, PySem.W.mg_of X G a12, k12, b12⟩
  let D13 : Callee l.prog w K mg base CX0 1 "_law_next" ["_law_draws_here"] (sp_l_next K) := ⟨f13, _, ok_l_next F13 T, PySem.W.mg_of X G a13, k13, b13⟩
  let D14 : Callee l.prog w K mg base CX0 2 "_law_tree" ["_law_draws_here", "_law_many"] (sp_l_tree K) := ⟨f14, _, ok_l_tree F14 T D13, PySem.W.mg_of X G a14, k14, b14⟩
  let D15 : Callee l.prog w K mg base CX0 2 "_law_cycle" ["_law_draws_here"] (sp_l_cycle K) := ⟨f15, _, ok_l_cycle F15 T D13, PySem.W.mg_of X G a15, k15, b15⟩
  let D16 : Callee l.prog w K mg base CX0 1 "_law_mark" ["_law_a_depth", "_law_a_tail", "_law_a_ring"] (sp_l_mark K) := ⟨f16, _, ok_l_mark F16 T, PySem.W.mg_of X G a16, k16, b16⟩
  have kb_fold_marks_ring_tail_number17 : KBindsE K D11.fd ["number", "tail", "ring"] ["ring", "tail", "number"] pk_fold_marks_ring_tail_number pk_fold_marks_ring_tail_number := kb_mk_fold_marks_ring_tail_number F11
  have kb_mark_ring_tail_depth17 : KBindsE K D9.fd ["depth", "tail", "ring"] ["ring", "tail", "depth"] pk_mark_ring_tail_depth pk_mark_ring_tail_depth := kb_mk_mark_ring_tail_depth F9
  have kb_marks_of_ring_tail_tree17 : KBindsE K D10.fd ["tree", "tail", "ring"] ["ring", "tail", "tree"] pk_marks_of_ring_tail_tree pk_marks_of_ring_tail_tree := kb_mk_marks_of_ring_tail_tree F10
  let D17 : Callee l.prog w K mg base CX0 6 "_law_right" ["_law_draws_here", "_law_a_tail", "_law_a_ring"] (sp_l_right K) := ⟨f17, _, ok_l_right F17 T D9 D10 D11 D13 D14 D16 kb_fold_marks_ring_tail_number17 kb_mark_ring_tail_depth17 kb_marks_of_ring_tail_tree17, PySem.W.mg_of X G a17, k17, b17⟩
  exact ok_law F18 T D9 D11 D12 D15 D17
end Cf
open PySem PySem.W PyProof.Rows
set_option maxRecDepth 100000 in
set_option maxHeartbeats 0 in
theorem PySem.Challenge.cw_cutfolds_k05_marks_holds : PySem.Challenge.rw_cutfolds_k05_marks.Holds := by
  w_on; o_law; k_head; (case hw => w_witness2)
  k_fill
  refine Cf.walkG (l := PySem.Challenge.rw_cutfolds_k05_marks) (n := 63) (lev := 7) (x := "_law_script") (CX := fun _ => L2.CX0) (sp := fun w => Cf.sp_law _) rfl (by decide) rfl ⟨rfl, by decide, by decide⟩ (fun w h Y => PySem.W.kIn_of Y) ?F (fun _ _ a ns hl _ hS => ⟨a, ns, rfl, hS, hl, fun _ => rfl⟩) (fun _ _ _ _ _ h => h)
  case F =>
    intro w mg fa h KX G hmg
    refine' Cf.all_mk KX G hmg ?a1 ?l1 ?c1 ?k1 ?a2 ?l2 ?c2 ?k2 ?a3 ?l3 ?c3 ?k3 ?a4 ?l4 ?c4 ?k4 ?a5 ?l5 ?c5 ?k5 ?a6 ?l6 ?c6 ?k6 ?a7 ?l7 ?c7 ?k7 ?a8 ?l8 ?c8 ?k8 ?a9 ?l9 ?c9 ?k9 ?a10 ?l10 ?c10 ?k10 ?a11 ?l11 ?c11 ?k11 ?a12 ?l12 ?c12 ?k12 ?a13 ?l13 ?c13 ?k13 ?a14 ?l14 ?c14 ?k14 ?a15 ?l15 ?c15 ?k15 ?a16 ?l16 ?c16 ?k16 ?a17 ?l17 ?c17 ?k17 ?a18 ?l18 ?c18 ?k18 ?z_bool ?z_enumerate ?z_int ?z_isinstance ?z_len ?z_list ?z_max ?z_min ?z_range ?z_repr ?z_MOST_LEAVES ?z_MOST_RING ?z_MOST_TAIL
    (case a1 => k_is); (case l1 => k_is); (case c1 => k_is); (case k1 => k_is)
    (case a2 => k_is); (case l2 => k_is); (case c2 => k_is); (case k2 => k_is)
    (case a3 => k_is); (case l3 => k_is); (case c3 => k_is); (case k3 => k_is)
    (case a4 => k_is); (case l4 => k_is); (case c4 => k_is); (case k4 => k_is)
    (case a5 => k_is); (case l5 => k_is); (case c5 => k_is); (case k5 => k_is)
    (case a6 => k_is); (case l6 => k_is); (case c6 => k_is); (case k6 => k_is)
    (case a7 => k_is); (case l7 => k_is); (case c7 => k_is); (case k7 => k_is)
    (case a8 => k_is); (case l8 => k_is); (case c8 => k_is); (case k8 => k_is)
    (case a9 => k_is); (case l9 => k_is); (case c9 => k_is); (case k9 => k_is)
    (case a10 => k_is); (case l10 => k_is); (case c10 => k_is); (case k10 => k_is)
    (case a11 => k_is); (case l11 => k_is); (case c11 => k_is); (case k11 => k_is)
    (case a12 => k_is); (case l12 => k_is); (case c12 => k_is); (case k12 => k_is)
    (case a13 => k_is); (case l13 => k_is); (case c13 => k_is); (case k13 => k_is)
    (case a14 => k_is); (case l14 => k_is); (case c14 => k_is); (case k14 => k_is)
    (case a15 => k_is); (case l15 => k_is); (case c15 => k_is); (case k15 => k_is)
    (case a16 => k_is); (case l16 => k_is); (case c16 => k_is); (case k16 => k_is)
    (case a17 => k_is); (case l17 => k_is); (case c17 => k_is); (case k17 => k_is)
    (case a18 => k_is); (case l18 => k_is); (case c18 => k_is); (case k18 => k_is)
    (case z_bool => k_is); (case z_enumerate => k_is); (case z_int => k_is); (case z_isinstance => k_is); (case z_len => k_is); (case z_list => k_is); (case z_max => k_is); (case z_min => k_is); (case z_range => k_is); (case z_repr => k_is); (case z_MOST_LEAVES => k_is); (case z_MOST_RING => k_is); (case z_MOST_TAIL => k_is)
#print axioms PySem.Challenge.cw_cutfolds_k05_marks_holds
