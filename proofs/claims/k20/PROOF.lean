import PyProof.Rows.All
import Wide.All
import OpenK.AllK
import Wide.FinOn
import HandS.ForMost
import HandS.ForExc
import HandS.Walk
import HandS.IsInst
import HandS.Conv
import HandS.Dict
import HandS.Lambda
import KE.GoesEnumKw
import KE.SortData
import HandS.ExcInit
import HandS.FStr
import HandS.ExcField
import HandS.ExcIs
import KE.KTryMore
import HandS.Codes
import HandS.BoundDict
import HandS.Small
import KE.GoesMore
import KE.GoesEnum
import PyProof.EnumMake
import PyProof.Rows.SumAny
import PyProof.ListOps
import HandS.Text
import PyProof.StrOps2
import HandS.More
import HandS.Deep
import HandS.ListItems
import HandS.Style
import KE.KMathGC
import HandS.DictComp
import PySem.Challenge.RW_cutfolds_k20_cycles_of_powers
set_option Elab.async false
set_option linter.all false
set_option maxRecDepth 100000
set_option maxHeartbeats 8000000
/-! A def's promise where no repr of a list runs around the call (so that repr itself may be asked). -/
namespace Cf
open PySem PySem.Spec PyProof.Rows L2

/-- no list, tuple or dict is being shown around -/
def Calm (A : Around) : Prop := A.guards = some []

structure FnG (P : Program) (w : World) (K : PySem.W.Frag) (mg : Str → Option Value) (base : Heap) (CX : CXT) (lev : Nat) (f : Addr) (fd : FuncData) (ps : List Str) (sp : Sp) : Prop where
  len : ∀ vs H Q E, sp vs H Q E → vs.length = ps.length
  go : ∀ (A : Around) (out : List Env) (s : Shared) (H : Hp) (args : Args) (us : List Value) (vs : List V) (Q : VK) (E : XK), Calm A → Room lev A →
    Env0 P w K mg base A out s H → BindsTo s fd args (ps.zip us) → Vals vs us → sp vs H Q E → codeAny (model P w) A (.call (.ref f) args) (CR CX out P w H s Q E) s

section
variable {P : Program} {w : World} {K : PySem.W.Frag} {mg : Str → Option Value} {base : Heap} {CX : CXT} {f : Addr} {fd : FuncData} {ps : List Str} {sp sp' : Sp} {j lev : Nat}
theorem FnG.of (F : FnOk P w K mg base CX lev f fd ps sp) : FnG P w K mg base CX lev f fd ps sp :=
  ⟨F.len, fun A out s H args us vs Q E _ r => F.run A out s H args us vs Q E r⟩
/-- nothing is promised where nothing can be asked -/
theorem FnG.vain (h : ∀ vs H Q E, ¬ sp vs H Q E) : FnG P w K mg base CX lev f fd ps sp :=
  ⟨fun vs H Q E q => absurd q (h vs H Q E), fun A out s H args us vs Q E _ _ _ _ _ q => absurd q (h vs H Q E)⟩
theorem FnG.up (F : FnG P w K mg base CX j f fd ps sp) (h : j ≤ lev) : FnG P w K mg base CX lev f fd ps sp :=
  ⟨F.len, fun A out s H args us vs Q E c r => F.go A out s H args us vs Q E c (r.mono h)⟩
theorem FnG.imp (F : FnG P w K mg base CX lev f fd ps sp) (h : ∀ vs H Q E, sp' vs H Q E → sp vs H Q E) : FnG P w K mg base CX lev f fd ps sp' :=
  ⟨fun vs H Q E q => F.len vs H Q E (h _ _ _ _ q), fun A out s H args us vs Q E c r e b v z => F.go A out s H args us vs Q E c r e b v (h _ _ _ _ z)⟩

theorem end_of {out : List Env} {H : Hp} {s : Shared} {Q : VK} {E : XK} {N : List Str} {qual : Str} {sc : Scope} {cdv : Value} {A : Around} {fl : Flow} {s2 : Shared}
    (h : SP (cxOf CX P w K mg base N qual sc f cdv A out s H E) [] { nx := fun _ H2 => Q .non H2, rt := Q } fl s2) :
    match (match fl with | .next => Flow.ret Value.none | z => z) with | .ret u => CE out P w H s Q u s2 | _ => False := by
  cases fl with
  | ret u =>
    obtain ⟨v, _, H2, J, rv, q⟩ := h
    exact ⟨v, H2, J.os, J.bare, J.base, J.hok, rv, q⟩
  | next =>
    obtain ⟨_, H2, J, q⟩ := h
    exact ⟨V.non, H2, J.os, J.bare, J.base, J.hok, rfl, q⟩
  | brk =>
    obtain ⟨_, _, _, q⟩ := h
    exact q
  | cont =>
    obtain ⟨_, _, _, q⟩ := h
    exact q

/-- a def by its body -/
theorem okG {x qual : Str} {st : Stmt} {N : List Str} (F : Fun K x qual st f fd) (S : FnScope N ps (defScope st)) (hl : ∀ vs H Q E, sp vs H Q E → vs.length = ps.length)
    (hb : ∀ (cdv : Value) (A : Around) (out : List Env) (s : Shared) (H : Hp) (vs : List V) (Q : VK) (E : XK), Calm A → Room lev (A.deeper (envOfC qual (defScope st) s.heap.objs.size f cdv)) → sp vs H Q E →
      ∃ t, PSs (cxOf CX P w K mg base N qual (defScope st) f cdv A out s H E) (defBody st) t ∧ t { nx := fun _ H2 => Q .non H2, rt := Q } (start N vs) H) : FnG P w K mg base CX (lev + 1) f fd ps sp := by
  obtain ⟨oc, od, kV, doc, pm, an, cdv, ct, osl, rfl, lk, hcd⟩ := F.ex
  refine ⟨hl, fun A out s H args us vs Q E hc hr e0 hbind rv hs => ?_⟩
  have hlen := hl _ _ _ _ hs
  have inK : K.In s.heap := e0.mod.kin.keeps fun b o e => (e0.bs b o e).1
  have nolim : s.heap.NoLimit := e0.mod.nolimit.keeps fun b o e => (e0.bs b o e).1
  have kinds : ∀ y ∈ ps.zip us, (defScope st).names.lookup y.1 = some .local ∨ ((defScope st).names.lookup y.1 = some .cell ∧ ((cellsFrom (s.heap.objs.size + 1) (defScope st).names []).lookup y.1).isSome = true) := by
    rintro ⟨n, v⟩ hy
    rcases S.par n (List.of_mem_zip hy).1 with q | q
    · exact .inl q
    · exact .inr ⟨q, PySem.W.cellsFrom_some _ _ _ (.inl q)⟩
  refine codeAny_call_function hr.depth (inK _ _ lk) rfl S.co S.gen rfl (PySem.W.codeRec_of inK hcd) (hbind _ _ _ _ ?_)
  refine wpAny_newFunctionEnv_cells S.kind kinds fun env he s1 z => ?_
  subst he
  refine ⟨nolim.keeps z.toInCall.keep, codeAny_func ?_⟩
  obtain ⟨t, ht, hq⟩ := hb cdv A out s H vs Q E hc (hr.deeper _) hs
  refine wpAny_mono (ht.run [] s1 (start N vs) H _ (inv_start S hr.hd e0 hlen rv z) hq) (fun fl s2 h2 => ?_) fun e s2 h2 => h2
  have q := end_of h2
  cases fl with
  | ret u => exact q
  | next => exact q
  | brk => exact False.elim q
  | cont => exact False.elim q
/-- a def that lets nothing out -/
theorem okN {x qual : Str} {st : Stmt} {N : List Str} (F : Fun K x qual st f fd) (S : FnScope N ps (defScope st)) (hl : ∀ vs H Q E, sp vs H Q E → vs.length = ps.length)
    (hb : ∀ (cdv : Value) (A : Around) (out : List Env) (s : Shared) (H : Hp) (vs : List V) (Q : VK) (E : XK), Calm A → Room lev (A.deeper (envOfC qual (defScope st) s.heap.objs.size f cdv)) → sp vs H Q E →
      ∃ t, PSs (cxOf CX P w K mg base N qual (defScope st) f cdv A out s H E).nox (defBody st) t ∧ t { nx := fun _ H2 => Q .non H2, rt := Q } (start N vs) H) : FnG P w K mg base CX (lev + 1) f fd ps sp :=
  okG F S hl fun cdv A out s H vs Q E hc hr hs => by
    obtain ⟨t, h, q⟩ := hb cdv A out s H vs Q E hc hr hs
    exact ⟨t, h.nox, q⟩
end

section
variable {X : Cx} {CX : CXT} {lev : Nat} {f : Addr} {fd : FuncData} {ps ks : List Str} {sp : Sp} {E : XK} {x : Str} {p pos : Pos} {e : Expr} {es : List Expr} {kws : List Keyword} {te : TE} {t tk : TA}
  {g : List Value → List Value → List Value} {gV : List V → List V → List V}
theorem run_g {pins : List (Addr × Obj)} {σ : L2.St} {H : Hp} {s : Shared} {Q : VK} {args : Args} {us : List Value} {vs : List V} (F : FnG X.prog X.w X.K X.mg X.base CX lev f fd ps sp) (hc : Calm X.A) (hr : Room lev X.A)
    (hb : us.length = ps.length → BindsTo s fd args (ps.zip us)) (hx : Passes CX X E) (I : Inv X pins σ H s) (r : Vals vs us) (h : sp vs H Q E) :
    wpAny (model X.prog X.w) X.A (call (.ref f) args.pos args.kw) (EP X pins σ Q) X.xe s := by
  have hl : us.length = ps.length := by rw [← r.length]; exact F.len _ _ _ _ h
  refine wpAny_call (codeAny_mono (F.go X.A X.stack s H args us vs Q E hc hr I.env0 (hb hl) r h) fun z s2 hq => ?_)
  cases z with
  | error u => exact hx pins σ H s u s2 I hq
  | ok fl =>
    cases fl with
    | ret u => exact I.after hq
    | next => exact False.elim hq
    | brk => exact False.elim hq
    | cont => exact False.elim hq
end
section
variable {X : Cx} {CX : CXT} {lev : Nat} {f : Addr} {fd : FuncData} {ps ks : List Str} {sp : Sp} {E : XK} {x : Str} {p pos : Pos} {e : Expr} {es : List Expr} {kws : List Keyword} {te : TE} {t tk : TA}
  {g : List Value → List Value → List Value} {gV : List V → List V → List V}
/-- f(e, ..) -/
theorem pg_call (F : FnG X.prog X.w X.K X.mg X.base CX lev f fd ps sp) (hc : Calm X.A) (hr : Room lev X.A) (hg : Gl X x) (hm : X.mg x = some (.ref f)) (hk : PySem.W.keepIn X.K (.ref f) = true) (hb : Binds X.K fd ps []) (hx : Passes CX X E)
    (ha : PA X (e :: es) t) (hdb : (x == ("__debug__" : Str)) = false := by decide) (he : starEach (e :: es) X.env = (false, eval e X.env) :: starEach es X.env := by rfl) (hpl : (backTo pos (starEach es X.env)).any (·.1) = false := by rfl) :
    PE X (.Call (.Name x p) (e :: es) [] pos) (tCall sp [] E t) := by
  refine ⟨fun pins s σ H Q I h => wpAny_Call_Name_kw (ld_glob I hg hm ?_ hdb)⟩
  refine PySem.W.callWith_K (h₀ := X.base) I.ok.mod.kin hk (thn (ha.run pos pins s σ H _ I h) fun us s1 ⟨vs, H1, I1, r, q⟩ => ⟨I1.kIn, ?_⟩) he hpl
  have q1 : sp (vs ++ []) H1 Q E := q
  rw [List.append_nil] at q1
  exact run_g (args := ⟨us, []⟩) F hc hr (fun hl => by have z := hb s1 us I1.kIn (by rw [List.append_nil]; exact hl); rw [List.append_nil] at z; exact z) hx I1 r q1
/-- f() -/
theorem pg_call0 (F : FnG X.prog X.w X.K X.mg X.base CX lev f fd ps sp) (hc : Calm X.A) (hr : Room lev X.A) (hg : Gl X x) (hm : X.mg x = some (.ref f)) (hk : PySem.W.keepIn X.K (.ref f) = true) (hb : Binds X.K fd ps []) (hx : Passes CX X E)
    (hdb : (x == ("__debug__" : Str)) = false := by decide) : PE X (.Call (.Name x p) [] [] pos) (tCall sp [] E tNil) := by
  refine ⟨fun pins s σ H Q I h => wpAny_Call_Name_kw (ld_glob I hg hm ?_ hdb)⟩
  exact PySem.W.callWith_K0 I.kIn hk (run_g (args := ⟨[], []⟩) F hc hr (fun hl => hb s [] I.kIn hl) hx I .nil h)
/-- how keywords alone bind -/
structure KBindsE (K : PySem.W.Frag) (fd : FuncData) (ps ks : List Str) (g : List Value → List Value) (gV : List V → List V) : Prop where
  to : ∀ (s : Shared) (ws : List Value), K.In s.heap → (g ws).length = ps.length → BindsTo s fd ⟨[], ks.zip ws⟩ (ps.zip (g ws))
  rel : ∀ {zs : List V} {ws : List Value}, Vals zs ws → Vals (gV zs) (g ws)
def tCallE (sp : Sp) (gV : List V → List V) (E : XK) (tk : TA) : TE := fun σ H Q => tk σ H fun zs H1 => sp (gV zs) H1 Q E
/-- f(k = v, ..), keywords alone -/
theorem pg_callK {g : List Value → List Value} {gV : List V → List V} (F : FnG X.prog X.w X.K X.mg X.base CX lev f fd ps sp) (hc : Calm X.A) (hr : Room lev X.A) (hg : Gl X x) (hm : X.mg x = some (.ref f)) (hk : PySem.W.keepIn X.K (.ref f) = true) (hb : KBindsE X.K fd ps ks g gV) (hx : Passes CX X E)
    (hkw : PK X kws tk) (hall : (backToKw pos (keywordEach kws X.env)).all (·.1.isSome) = true := by rfl) (hks : (backToKw pos (keywordEach kws X.env)).filterMap (·.1) = ks := by rfl) (hdb : (x == ("__debug__" : Str)) = false := by decide)
    (hpl : ((backTo pos (starEach [] X.env)).any (·.1) || (backToKw pos (keywordEach kws X.env)).any (·.1.isNone)) = false := by rfl) :
    PE X (.Call (.Name x p) [] kws pos) (tCallE sp gV E tk) := by
  refine ⟨fun pins s σ H Q I h => wpAny_Call_Name_kw (ld_glob I hg hm ?_ hdb)⟩
  refine PySem.W.callWith_KW0 (h₀ := X.base) I.ok.mod.kin hk hall (thn (hkw.run pos pins s σ H _ I h) fun ws s2 ⟨zs, H2, I2, rz, q2⟩ => ⟨I2.kIn, ?_⟩) hpl
  rw [hks]
  exact run_g (args := ⟨[], ks.zip ws⟩) F hc hr (hb.to s2 ws I2.kIn) hx I2 (hb.rel rz) q2
end

/-! ### repr of data, of any depth -/
section
variable {X : Cx}
/-- what can be shown here: small ints, no dicts, a text within the line -/
def Shown (d : PyData) : Prop := d.showable = true ∧ d.hasDict = false ∧ d.depth ≤ 100 ∧ d.shown.length ≤ sizeLine
theorem repr_val {pins : List (Addr × Obj)} {σ : L2.St} {H : Hp} {s : Shared} {Q : VK} {v : V} {u : Value} {d : PyData} (hc : Calm X.A) (hu : X.A.units + 200 < cLine) (I : Inv X pins σ H s) (r : RelV v u) (hd : Dp X.K H v d) (hs : Shown d) (q : Q (.str d.shown) H) :
    wpAny (model X.prog X.w) X.A (call (.builtin "repr") [u]) (EP X pins σ Q) X.xe s := by
  obtain ⟨as, rd⟩ := Dp.reads I d v u hd r
  obtain ⟨h1, h2, h3, h4⟩ := hs
  have fin : ∀ (h' : Heap) (t : Tok) (tk : Nat), (∀ b o, s.heap.get? b = some o → h'.get? b = some o) → EP X pins σ Q (Value.str d.shown t) { s with heap := h', toks := tk } := fun h' t tk k => ⟨.str d.shown, H, I.kept k, ⟨_, rfl⟩, q⟩
  cases hd with
  | non =>
    cases r
    exact PySem.P.repr_of_none ⟨.str _, H, I.tok _, ⟨_, rfl⟩, (by rw [PyData.shown_none] at q; exact q)⟩
  | bl b =>
    cases r
    exact PySem.P.repr_of_bool ⟨.str _, H, I.tok _, ⟨_, rfl⟩, (by rw [PyData.shown_bool] at q; exact q)⟩
  | int i =>
    obtain ⟨t, rfl⟩ := r
    have hi : i.natAbs.log2 < 1920 := of_decide_eq_true (by unfold PyData.showable at h1; exact h1)
    exact PySem.P.repr_of_int hi ⟨.str _, H, I.tok _, ⟨_, rfl⟩, (by rw [PyData.shown_int] at q; exact q)⟩
  | str x =>
    obtain ⟨t, rfl⟩ := r
    refine PySem.P.repr_of_str ⟨.str _, H, I.tok _, ⟨_, rfl⟩, (by rw [PyData.shown_str] at q; exact q)⟩ (by rw [PyData.shown_str] at h4; exact h4)
  | lst h5 h6 =>
    cases r
    exact repr_of_reads' rd h1 (fun z => by rw [h2] at z; cases z) hc (by omega) (fun b o e => e) (fun h' t tk k => fin h' t tk k) h4
  | tup h5 h6 =>
    cases r
    exact repr_of_reads' rd h1 (fun z => by rw [h2] at z; cases z) hc (by omega) (fun b o e => e) (fun h' t tk k => fin h' t tk k) h4
def rRepr (K : PySem.W.Frag) : List V → Hp → VK → Prop := fun xs H Q => ∃ v d, xs = [v] ∧ Dp K H v d ∧ Shown d ∧ Q (.str d.shown) H
theorem call_repr (hc : Calm X.A) (hu : X.A.units + 200 < cLine) : CallR X (.builtin "repr") (rRepr X.K) := by
  intro pins s σ H xs us Q I r h
  obtain ⟨v, d, rfl, hd, hs, q⟩ := h
  cases r with
  | cons r1 r2 =>
    cases r2
    exact repr_val hc hu I r1 hd hs q
end

/-! ### a power of great ints -/
section
variable {X : Cx}
def CPowW (i j : Int) : Prop := 0 ≤ j ∧ (Builtin.Int.intBits i : Int) * j ≤ 2 ^ 27
theorem op_powW : OpR X (binaryOp .Pow) (rI CPowW fun i j => .int (i ^ j.toNat)) := opI fun _ _ _ _ _ _ _ hc q => pow_int hc.1 hc.2 q
end
/-! ### the law's own head -/
theorem entry {P : Program} {w : World} {K : PySem.W.Frag} {mg mb : Str → Option Value} {CX : CXT} {lev : Nat} {fa at1 : Addr} {fd : FuncData} {x : Str} {sp : Sp} {s1 : Shared} {us : List Value} {ns : List Int}
    (KX : K.In s1.heap) (hns : s1.heap.Ns mainGlobals mg) (hb : s1.heap.Ns builtinsNs mb) (hbb : ∀ y : Str, y ≠ "__name__" → mb y = bootBuiltins y) (hlim : s1.heap.NoLimit) (hgen : s1.gens = #[])
    (ha : s1.heap.get? at1 = some { cls := .type "list", data := .seq us.toArray }) (hi : IntsAre us ns) (hl : ns.length ≤ sizeLine) (hr : Room lev callerA)
    (F : ∀ base : Heap, K.In base → base.Ns mainGlobals mg → FnG P w K mg base CX lev fa fd [x] sp) (hbind : ∀ (s : Shared) (u : Value), BindsTo s fd ⟨[u], []⟩ [(x, u)])
    (hsp : ∀ H : Hp, Only H → SqL K H at1 (ns.map V.int) → sp [.ref at1] H (fun v _ => v = .bl true) fun _ _ _ => False) (hCX : ∀ H e s2, CX [] H s1 (fun _ _ _ => False) e s2 → False) :
    codeAny (model P w) callerA (.call (.ref fa) ⟨[.ref at1], []⟩) (fun r s2 => r = .ok (.ret (.bool true)) ∧ OldK s1.heap s2.heap ∧ s2.os = s1.os ∧ AllBare s2.gens) s1 := by
  have rv := vals_ints hi
  have lenV := hi.length
  have main : ∀ H : Hp, Only H → SqL K H at1 (ns.map V.int) → HOk P w H s1.heap → (∀ b, H b ≠ none → b = at1) → (H at1 ≠ none → K.lookup at1 = none) →
      codeAny (model P w) callerA (.call (.ref fa) ⟨[.ref at1], []⟩) (fun r s2 => r = .ok (.ret (.bool true)) ∧ OldK s1.heap s2.heap ∧ s2.os = s1.os ∧ AllBare s2.gens) s1 := by
    intro H hO hS hok only hK
    have dictOut : ∀ {b : Addr} {o : Obj} {es : Array DictEntry} {ep : Nat}, s1.heap.get? b = some o → o.data = .dict es ep → H b = none := by
      intro b o es ep e d
      cases z : H b with
      | none => rfl
      | some u =>
        have eb : b = at1 := only b (by rw [z]; exact fun q => nomatch q)
        rw [eb, ha] at e
        cases e
        exact nomatch d
    have nsBase : ∀ {b : Addr} {m : Str → Option Value}, s1.heap.Ns b m → (hidT s1.heap H).Ns b m := by
      rintro b m ⟨o, es, ep, e, d, r⟩
      exact ⟨o, es, ep, hidT_get e (dictOut e d), d, r⟩
    have kBase : K.In (hidT s1.heap H) := by
      intro b o e
      refine hidT_get (KX b o e) ?_
      cases z : H b with
      | none => rfl
      | some u =>
        have eb : b = at1 := only b (by rw [z]; exact fun q => nomatch q)
        rw [eb] at z e
        rw [hK (by rw [z]; exact fun q => nomatch q)] at e
        cases e
    have md : Mod K mg (hidT s1.heap H) := by
      obtain ⟨mc, h1, h2⟩ := hlim
      exact ⟨kBase, nsBase hns, ⟨mb, nsBase hb, hbb⟩, ⟨mc, nsBase h1, h2⟩⟩
    have e0 : Env0 P w K mg (hidT s1.heap H) callerA [] s1 H :=
      ⟨rfl, md, fun b o e => of_hidT e, Nat.le_of_eq (hidT_size _ _), trivial, fun b z => (List.not_mem_nil (show b ∈ ([] : List Addr) from z)).elim, hok, .of_eq hgen⟩
    refine codeAny_mono ((F _ kBase (nsBase hns)).go callerA [] s1 H ⟨[.ref at1], []⟩ [.ref at1] [.ref at1] _ _ rfl hr e0 (hbind s1 (.ref at1)) (.cons rfl .nil) (hsp H hO hS)) fun r s2 h => ?_
    cases r with
    | error e => exact (hCX H e s2 h).elim
    | ok fl =>
      cases fl with
      | ret u =>
        obtain ⟨v, H2, os, bare, un, hok2, r2, q⟩ := h
        have q2 : v = .bl true := q
        subst q2
        obtain rfl : u = Value.bool true := r2
        refine ⟨rfl, OldK.of_keep fun b o e => ?_, os, bare⟩
        cases z : H b with
        | none => exact un.keep b o e z (fun y => (List.not_mem_nil (show b ∈ ([] : List Addr) from y)).elim) (by simp)
        | some u =>
          rcases hO b with y | ⟨ob, xs, y⟩
          · rw [z] at y
            cases y
          · obtain ⟨e1, _⟩ := hok b _ y
            obtain ⟨e2, _⟩ := hok2 b _ (un.frzs b ob _ y)
            rw [e] at e1
            cases e1
            exact e2
      | next => exact False.elim h
      | brk => exact False.elim h
      | cont => exact False.elim h
  cases hk : K.lookup at1 with
  | some o =>
    have e := KX at1 o hk
    rw [ha] at e
    cases e
    refine main (fun _ => none) (fun _ => .inl rfl) (.inr ⟨_, us.toArray, _, hk, rfl, rfl, rfl, by rw [List.size_toArray, lenV]; exact hl, by simpa using rv⟩) (fun b u z => nomatch (show (none : Option HO) = some u from z)) (fun b z => absurd rfl z) fun z => absurd rfl z
  | none =>
    have yes : ∀ b, b = at1 → (if b = at1 then some (HO.frz { cls := .type "list", data := .seq us.toArray } (.lst (ns.map V.int))) else none) = some (HO.frz { cls := .type "list", data := .seq us.toArray } (.lst (ns.map V.int))) := fun b e => if_pos e
    refine main (fun b => if b = at1 then some (.frz { cls := .type "list", data := .seq us.toArray } (.lst (ns.map V.int))) else none) (fun b => ?_) (.inl (.inr ⟨_, yes at1 rfl⟩)) (fun b u z => ?_) (fun b z => ?_) fun _ => hk
    · by_cases eb : b = at1
      · exact .inr ⟨_, _, yes b eb⟩
      · exact .inl (if_neg eb)
    · by_cases eb : b = at1
      · have z2 := (yes b eb).symm.trans z
        cases z2
        rw [eb]
        exact ⟨ha, by rw [List.length_map]; exact hl, us, _, rv, ha⟩
      · have z2 := (if_neg eb).symm.trans z
        cases z2
    · by_cases eb : b = at1
      · exact eb
      · exact absurd (if_neg eb) z

/-- what k_head leaves, from the law's promise -/
theorem walkG {l : PySem.W.OpenLaw} {n lev : Nat} {q : Program} {loose : List Str} {XP : (Str → Option Value) → Heap → Prop} {YP : World → Heap → Prop} {d : DefRec} {K : Params → PySem.W.Frag} {CX : World → CXT} {sp : World → Sp} {x : Str}
    (hn : l.most = some n) (hn2 : n ≤ sizeLine) (hdf : d.params.defaults = []) (hr : Room lev callerA) (hY : ∀ (w : World) (h : Heap), YP w h → (K w.params).In h)
    (F : ∀ (w : World) (mg : Str → Option Value) (fa : Addr) (h : Heap), (K w.params).In h → h.Ns mainGlobals mg → mg d.name = some (.ref fa) →
      ∃ fd : FuncData, (∀ (s : Shared) (u : Value), BindsTo s fd ⟨[u], []⟩ [(x, u)]) ∧ ∀ base : Heap, (K w.params).In base → base.Ns mainGlobals mg → FnG l.prog w (K w.params) mg base (CX w) lev fa fd [x] (sp w))
    (hsp : ∀ (w : World) (H : Hp) (at1 : Addr) (ns : List Int), ns.length ≤ n → Only H → SqL (K w.params) H at1 (ns.map V.int) → sp w [.ref at1] H (fun v _ => v = .bl true) fun _ _ _ => False)
    (hCX : ∀ (w : World) (H : Hp) (s : Shared) (e : Value) (s2 : Shared), CX w [] H s (fun _ _ _ => False) e s2 → False) :
    PySem.W.WalkO q loose XP YP l.row.toRowW d [] (fun f vs => PySem.call f vs) := by
  refine Att.attach_call hn hdf fun w s0 s1 mg mb fa o pm cd doc at1 us ns G Y ho hd hcd hmg hobj hints hlen hg => ?_
  have KX := hY w _ Y
  obtain ⟨fd, hb, hF⟩ := F w mg fa _ KX G.T.g hmg
  exact entry KX G.T.g G.T.b G.T.builtins G.T.nolimit hg hobj hints (Nat.le_trans hlen hn2) hr hF hb (fun H hO hS => hsp w H at1 ns hlen hO hS) fun H e s2 => hCX w H s1 e s2

end Cf

/-! Mirrors: data, slots, what is owned. -/
namespace Cm
open PySem PySem.Spec PyProof.Rows L2 Cf

/-! ### tables of code objects: they alone change where nobody owns them -/
class LT where
  T : List (Addr × Str)
def NT (o : HO) : Prop := ∀ ps, o ≠ .tbl ps
theorem nt_lst {xs : List V} : NT (.lst xs) := fun _ z => nomatch z
theorem nt_dK {xs : List (Key × V)} : NT (.dK xs) := fun _ z => nomatch z
theorem nt_ext {f : Heap → Prop} : NT (.ext f) := fun _ z => nomatch z
theorem tabs_keep {T : List (Addr × Str)} {H H2 : Hp} (k1 : ∀ b ps, H b = some (.tbl ps) → H2 b = some (.tbl ps)) (k2 : ∀ b f, H b = some (.ext f) → H2 b = some (.ext f)) (t : LamX.Tabs T H) : LamX.Tabs T H2 := fun p hp => by
  obtain ⟨ps, h1, h2, h3⟩ := t p hp
  refine ⟨ps, k1 _ _ h1, h2, fun pos cv hc => ?_⟩
  obtain ⟨c, e1, e2⟩ := h3 pos cv hc
  exact ⟨c, e1, k2 _ _ e2⟩
structure TbOk [LT] (B H : Hp) : Prop where
  tabs : LamX.Tabs LT.T H
  nb : ∀ b ps, B b ≠ some (.tbl ps)
/-- what is written is neither a table nor a code object -/
theorem tabS_upd {H : Hp} {b : Addr} {o o2 : HO} (hb : H b = some o) (n : NT o) (n2 : ∀ f, o ≠ .ext f) {P : Addr} {q : Str} (t : LamX.TabS H P q) : LamX.TabS (upd H b o2) P q := by
  obtain ⟨ps, h1, h2, h3⟩ := t
  have ne1 : P ≠ b := fun z => by
    rw [z, hb] at h1
    exact n ps (Option.some.inj h1)
  refine ⟨ps, by rw [upd_ne ne1]; exact h1, h2, fun pos cv hc => ?_⟩
  obtain ⟨c, e1, e2⟩ := h3 pos cv hc
  refine ⟨c, e1, ?_⟩
  rw [upd_ne fun z => by
    rw [z, hb] at e2
    exact n2 _ (Option.some.inj e2)]
  exact e2
/-! ### data at a heap -/
mutual
inductive At (H : Hp) : V → PyData → Prop
  | non : At H .non .none
  | bl (b : Bool) : At H (.bl b) (.bool b)
  | int (i : Int) : At H (.int i) (.int i)
  | str (x : Str) : At H (.str x) (.str x)
  | lst {p : Addr} {xs : List V} {ds : List PyData} : H p = some (.lst xs) → AtL H xs ds → At H (.ref p) (.list ds)
  | tup {p : Addr} {xs : List V} {ds : List PyData} : H p = some (.tup xs) → AtL H xs ds → At H (.ref p) (.tuple ds)
  | dct {p : Addr} {o : Obj} {kvs : List (Key × V)} {ds : List (PyData × PyData)} : H p = some (.frz o (.dK kvs)) → AtK H kvs ds → At H (.ref p) (.dict ds)
inductive AtL (H : Hp) : List V → List PyData → Prop
  | nil : AtL H [] []
  | cons {v : V} {vs : List V} {d : PyData} {ds : List PyData} : At H v d → AtL H vs ds → AtL H (v :: vs) (d :: ds)
inductive AtK (H : Hp) : List (Key × V) → List (PyData × PyData) → Prop
  | nil : AtK H [] []
  | ki {i : Int} {v : V} {vs : List (Key × V)} {d : PyData} {ds : List (PyData × PyData)} : At H v d → AtK H vs ds → AtK H ((.inl i, v) :: vs) ((.int i, d) :: ds)
  | kt {x : Str} {v : V} {vs : List (Key × V)} {d : PyData} {ds : List (PyData × PyData)} : At H v d → AtK H vs ds → AtK H ((.inr x, v) :: vs) ((.str x, d) :: ds)
end

mutual
theorem At.mono {H H2 : Hp} (s : Same H H2) : ∀ (d : PyData) (v : V), At H v d → At H2 v d
  | .none, _, h => by cases h; exact .non
  | .bool b, _, h => by cases h; exact .bl b
  | .int i, _, h => by cases h; exact .int i
  | .str x, _, h => by cases h; exact .str x
  | .list ds, _, h => by
    cases h with
    | lst e a => exact .lst (s _ _ e) (AtL.mono s ds _ a)
  | .tuple ds, _, h => by
    cases h with
    | tup e a => exact .tup (s _ _ e) (AtL.mono s ds _ a)
  | .dict ds, _, h => by
    cases h with
    | dct e a => exact .dct (s _ _ e) (AtK.mono s ds _ a)
theorem AtL.mono {H H2 : Hp} (s : Same H H2) : ∀ (ds : List PyData) (vs : List V), AtL H vs ds → AtL H2 vs ds
  | [], _, h => by cases h; exact .nil
  | d :: ds, _, h => by
    cases h with
    | cons a r => exact .cons (At.mono s d _ a) (AtL.mono s ds _ r)
theorem AtK.mono {H H2 : Hp} (s : Same H H2) : ∀ (ds : List (PyData × PyData)) (vs : List (Key × V)), AtK H vs ds → AtK H2 vs ds
  | [], _, h => by cases h; exact .nil
  | (k, d) :: ds, _, h => by
    cases h with
    | ki a r => exact .ki (At.mono s d _ a) (AtK.mono s ds _ r)
    | kt a r => exact .kt (At.mono s d _ a) (AtK.mono s ds _ r)
end
theorem At.up {H H2 : Hp} {d : PyData} {v : V} (h : At H v d) (s : Same H H2) : At H2 v d := At.mono s d v h
theorem AtL.up {H H2 : Hp} {ds : List PyData} {vs : List V} (h : AtL H vs ds) (s : Same H H2) : AtL H2 vs ds := AtL.mono s ds vs h

mutual
theorem At.dp {K : PySem.W.Frag} {H : Hp} : ∀ (d : PyData) (v : V), d.hasDict = false → At H v d → Dp K H v d
  | .none, _, _, h => by cases h; exact .non
  | .bool b, _, _, h => by cases h; exact .bl b
  | .int i, _, _, h => by cases h; exact .int i
  | .str x, _, _, h => by cases h; exact .str x
  | .list ds, _, n, h => by
    cases h with
    | lst e a => exact .lst (SqL.of e) (AtL.dp ds _ (by simpa [PyData.hasDict] using n) a)
  | .tuple ds, _, n, h => by
    cases h with
    | tup e a => exact .tup (SqT.of e) (AtL.dp ds _ (by simpa [PyData.hasDict] using n) a)
  | .dict _, _, n, h => by simp [PyData.hasDict] at n
theorem AtL.dp {K : PySem.W.Frag} {H : Hp} : ∀ (ds : List PyData) (vs : List V), PyData.hasDictAll ds = false → AtL H vs ds → DpAll K H vs ds
  | [], _, _, h => by cases h; exact .nil
  | d :: ds, _, n, h => by
    cases h with
    | cons a r =>
      simp only [PyData.hasDictAll, Bool.or_eq_false_iff] at n
      exact .cons (At.dp d _ n.1 a) (AtL.dp ds _ n.2 r)
end

section
variable {H H2 : Hp} {v : V} {p : Addr} {vs ws : List V} {d e : PyData} {ds es : List PyData} {i : Int} {b : Bool} {x : Str}
theorem At.int_eq (h : At H v (.int i)) : v = .int i := by cases h; rfl
theorem At.bl_eq (h : At H v (.bool b)) : v = .bl b := by cases h; rfl
theorem At.str_eq (h : At H v (.str x)) : v = .str x := by cases h; rfl
theorem At.non_eq (h : At H v .none) : v = .non := by cases h; rfl
theorem At.lst_ex (h : At H v (.list ds)) : ∃ p xs, v = .ref p ∧ H p = some (.lst xs) ∧ AtL H xs ds := by
  cases h with
  | lst e a => exact ⟨_, _, rfl, e, a⟩
theorem At.tup_ex (h : At H v (.tuple ds)) : ∃ p xs, v = .ref p ∧ H p = some (.tup xs) ∧ AtL H xs ds := by
  cases h with
  | tup e a => exact ⟨_, _, rfl, e, a⟩
theorem AtL.length : ∀ {vs : List V} {ds : List PyData}, AtL H vs ds → vs.length = ds.length
  | [], _, h => by cases h; rfl
  | v :: vs, _, h => by
    cases h with
    | cons a r => rw [List.length_cons, List.length_cons, AtL.length r]
theorem AtL.append : ∀ {vs ws : List V} {ds es : List PyData}, AtL H vs ds → AtL H ws es → AtL H (vs ++ ws) (ds ++ es)
  | [], _, _, _, h, k => by cases h; exact k
  | v :: vs, _, _, _, h, k => by
    cases h with
    | cons a r => exact .cons a (AtL.append r k)
theorem AtL.get : ∀ {vs : List V} {ds : List PyData} {n : Nat} {d : PyData}, AtL H vs ds → ds[n]? = some d → ∃ v, vs[n]? = some v ∧ At H v d
  | [], _, _, _, h, e => by cases h; simp at e
  | v :: vs, _, 0, _, h, e => by
    cases h with
    | cons a r => exact ⟨v, rfl, by have e2 := Option.some.inj e; rw [← e2]; exact a⟩
  | v :: vs, _, n + 1, d, h, e => by
    cases h with
    | cons a r =>
      obtain ⟨w, h1, h2⟩ := AtL.get (n := n) (d := d) r (by simpa using e)
      exact ⟨w, by simpa using h1, h2⟩
theorem AtL.get2 : ∀ {vs : List V} {ds : List PyData} {n : Nat} {v : V}, AtL H vs ds → vs[n]? = some v → ∃ d, ds[n]? = some d ∧ At H v d
  | [], _, _, _, h, e => by simp at e
  | w :: vs, _, 0, _, h, e => by
    cases h with
    | cons a r => exact ⟨_, rfl, by have e2 := Option.some.inj e; rw [← e2]; exact a⟩
  | w :: vs, _, n + 1, v, h, e => by
    cases h with
    | cons a r =>
      obtain ⟨d, h1, h2⟩ := AtL.get2 (n := n) (v := v) r (by simpa using e)
      exact ⟨d, by simpa using h1, h2⟩
theorem AtL.set : ∀ {vs : List V} {ds : List PyData} (n : Nat), AtL H vs ds → At H v d → AtL H (vs.set n v) (ds.set n d)
  | [], _, _, h, _ => by cases h; exact .nil
  | w :: vs, _, 0, h, a => by
    cases h with
    | cons _ r => exact .cons a r
  | w :: vs, _, n + 1, h, a => by
    cases h with
    | cons b r => exact .cons b (AtL.set n r a)
theorem AtL.take : ∀ {vs : List V} {ds : List PyData} (n : Nat), AtL H vs ds → AtL H (vs.take n) (ds.take n)
  | _, _, 0, _ => .nil
  | [], _, n + 1, h => by cases h; exact .nil
  | v :: vs, _, n + 1, h => by
    cases h with
    | cons a r => exact .cons a (AtL.take n r)
theorem AtL.drop : ∀ {vs : List V} {ds : List PyData} (n : Nat), AtL H vs ds → AtL H (vs.drop n) (ds.drop n)
  | _, _, 0, h => h
  | [], _, n + 1, h => by cases h; exact .nil
  | v :: vs, _, n + 1, h => by
    cases h with
    | cons a r => exact AtL.drop n r
theorem AtL.one (h : At H v d) : AtL H [v] [d] := .cons h .nil
end

/-! ### slots -/
inductive AtF (H : Hp) : List (Str × V) → List (Str × PyData) → Prop
  | nil : AtF H [] []
  | cons {f : Str} {v : V} {d : PyData} {vs : List (Str × V)} {ds : List (Str × PyData)} : At H v d → AtF H vs ds → AtF H ((f, v) :: vs) ((f, d) :: ds)
theorem AtF.up {B B2 : Hp} (s : Same B B2) : ∀ {vs : List (Str × V)} {ds : List (Str × PyData)}, AtF B vs ds → AtF B2 vs ds
  | _, _, .nil => .nil
  | _, _, .cons a r => .cons (a.up s) (AtF.up s r)
/-- an error's fields, at its own dict (none where it has no fields) -/
def ExAt (B : Hp) (dv : Option Addr) (fs : List (Str × PyData)) : Prop := match dv with
  | none => fs = []
  | some dd => ∃ xs, B dd = some (.xd xs) ∧ AtF B xs fs
theorem ExAt.up {B B2 : Hp} {dv : Option Addr} {fs : List (Str × PyData)} (h : ExAt B dv fs) (s : Same B B2) : ExAt B2 dv fs := by
  cases dv with
  | none => exact h
  | some dd =>
    obtain ⟨xs, e, a⟩ := h
    exact ⟨xs, s _ _ e, a.up s⟩
/-- an error that was caught -/
def excO (a C : Addr) (dv : Option Addr) : HO := .ext fun h => ∃ oe vs, h.get? a = some oe ∧ Zc (.ref C) dv oe ∧ oe.data = .fields vs
/-- other things that stay as they are -/
inductive Tg where
  /-- a caught error of the class c -/
  | exc (mg : Str → Option Value) (c : Str) (fs : List (Str × PyData))
  /-- the script -/
  | scr (K : PySem.W.Frag) (ns : List Int)
  /-- what can be asked; P: what is known of it and stays so -/
  | ask (P : Hp → V → Prop)
def TgOk (B : Hp) (x : V) : Tg → Prop
  | .scr K ns => ∃ a, x = .ref a ∧ SqL K B a (ns.map V.int)
  | .exc mg c fs => ∃ a C dv, x = .ref a ∧ mg c = some (.ref C) ∧ B a = some (excO a C dv) ∧ ExAt B dv fs
  | .ask P => ∀ B2, Same B B2 → P B2 x
theorem TgOk.up {B B2 : Hp} {x : V} {t : Tg} (h : TgOk B x t) (s : Same B B2) : TgOk B2 x t := by
  cases t with
  | scr K ns =>
    obtain ⟨a, e, q⟩ := h
    exact ⟨a, e, s.seq q⟩
  | exc mg c fs =>
    obtain ⟨a, C, dv, e, m, q, x⟩ := h
    exact ⟨a, C, dv, e, m, s _ _ q, x.up s⟩
  | ask P => exact fun B3 h3 => h B3 (s.trans h3)
inductive SV where
  /-- nothing is known of it -/
  | gone
  /-- it shows data that stays -/
  | dat (d : PyData)
  /-- it holds a list of its own (lb: that of the def's parameter so numbered) -/
  | own (lb : Option Nat) (ds : List PyData)
  /-- it holds a dict of its own, keys ints or texts -/
  | odk (lb : Option Nat) (ks : List (PyData × PyData))
  | oth (t : Tg)

/-- B: what stays, H: all that is tracked; q: the address that the slot owns -/
def SlotOk (A : List V) (B H : Hp) (v : Option V) : SV → Option Addr → Prop
  | .gone, q => q = none
  | .dat d, q => q = none ∧ ∃ x, v = some x ∧ At B x d
  | .oth t, q => q = none ∧ ∃ x, v = some x ∧ TgOk B x t
  | .own lb ds, q => ∃ p xs, q = some p ∧ v = some (.ref p) ∧ B p = none ∧ H p = some (.lst xs) ∧ AtL B xs ds ∧ ∀ k, lb = some k → A[k]? = some (.ref p)
  | .odk lb ks, q => ∃ p xs, q = some p ∧ v = some (.ref p) ∧ B p = none ∧ H p = some (.dK xs) ∧ AtK B xs ks ∧ ∀ k, lb = some k → A[k]? = some (.ref p)

variable [LT]
structure Ok (A : List V) (B H : Hp) (σ : L2.St) (ss : List SV) (fp : Nat → Option Addr) : Prop where
  sm : Same B H
  len : σ.length = ss.length
  sl : ∀ i s, ss[i]? = some s → SlotOk A B H (σ[i]?.join) s (fp i)
  inj : ∀ i j p, fp i = some p → fp j = some p → i = j
  out : ∀ i, ss.length ≤ i → fp i = none
  tb : TbOk B H

/-- nothing is known there but a table -/
def NF (H : Hp) (b : Addr) : Prop := ∀ o, H b = some o → ¬ NT o
theorem NF.of {H : Hp} {b : Addr} (h : H b = none) : NF H b := fun o e => by
  rw [h] at e
  cases e
theorem NF.no {H : Hp} {b : Addr} {o : HO} {p : Prop} (z : NF H b) (e : H b = some o) (n : NT o := by intro _ z; cases z) : p := (z o e n).elim
/-- what happened: fp the owned ones ahead, fp2 behind -/
structure Gr (fp fp2 : Nat → Option Addr) (B H B2 H2 : Hp) : Prop where
  bb : Same B B2
  hh0 : ∀ b o, (∀ i, fp i ≠ some b) → H b = some o → NT o → H2 b = some o
  fr0 : ∀ b o, (∀ i, fp i ≠ some b) → H b = some o → NT o → B b = none → B2 b = none
  nw : ∀ i b, fp2 i = some b → (∃ j, fp j = some b) ∨ NF H b
  tt : LamX.Tabs LT.T H → LamX.Tabs LT.T H2
  nb : ∀ b ps, B2 b = some (.tbl ps) → B b = some (.tbl ps)
theorem Gr.hh {fp fp2 : Nat → Option Addr} {B H B2 H2 : Hp} (g : Gr fp fp2 B H B2 H2) (b : Addr) (o : HO) (h : ∀ i, fp i ≠ some b) (e : H b = some o) (n : NT o := by intro _ z; cases z) : H2 b = some o := g.hh0 b o h e n
theorem Gr.fr {fp fp2 : Nat → Option Addr} {B H B2 H2 : Hp} {o : HO} (g : Gr fp fp2 B H B2 H2) (b : Addr) (h : ∀ i, fp i ≠ some b) (e : H b = some o) (z : B b = none) (n : NT o := by intro _ z; cases z) : B2 b = none := g.fr0 b o h e n z
/-- where nothing that is known changes but what is owned -/
theorem Gr.mk4 {fp fp2 : Nat → Option Addr} {B H B2 H2 : Hp} (bb : Same B B2) (hh : ∀ b o, (∀ i, fp i ≠ some b) → H b = some o → H2 b = some o) (fr : ∀ b, (∀ i, fp i ≠ some b) → H b ≠ none → B b = none → B2 b = none)
    (nw : ∀ i b, fp2 i = some b → (∃ j, fp j = some b) ∨ H b = none) (tt : LamX.Tabs LT.T H → LamX.Tabs LT.T H2) (nb : ∀ b ps, B2 b = some (.tbl ps) → B b = some (.tbl ps) := by exact fun _ _ h => h) : Gr fp fp2 B H B2 H2 :=
  ⟨bb, fun b o h e _ => hh b o h e, fun b o h e _ z => fr b h (by rw [e]; exact fun z => nomatch z) z, fun i b e => (nw i b e).imp_right NF.of, tt, nb⟩
theorem Gr.sub {fp0 fp02 fp fp2 : Nat → Option Addr} {B H B2 H2 : Hp} (g : Gr fp0 fp02 B H B2 H2) (sub : ∀ b, (∀ i, fp i ≠ some b) → ∀ i, fp0 i ≠ some b) (nw : ∀ i b, fp2 i = some b → (∃ j, fp j = some b) ∨ NF H b) : Gr fp fp2 B H B2 H2 :=
  ⟨g.bb, fun b o h e n => g.hh0 b o (sub b h) e n, fun b o h e n z => g.fr0 b o (sub b h) e n z, nw, g.tt, g.nb⟩
theorem gr_id {fp fp2 : Nat → Option Addr} {B H : Hp} (nw : ∀ i b, fp2 i = some b → (∃ j, fp j = some b) ∨ H b = none) : Gr fp fp2 B H B H := ⟨Same.refl _, fun _ _ _ h _ => h, fun _ _ _ _ _ h => h, fun i b e => (nw i b e).imp_right NF.of, fun h => h, fun _ _ h => h⟩
theorem TbOk.upd {B H : Hp} {D : Addr} {o o2 : HO} (h : TbOk B H) (hD : H D = some o) (n : NT o := by intro _ z; cases z) (n2 : ∀ f, o ≠ .ext f := by intro _ z; cases z) : TbOk B (upd H D o2) := ⟨fun p hp => tabS_upd hD n n2 (h.tabs p hp), h.nb⟩
/-- what was none at the start is written -/
theorem Gr.upd {fp fp2 : Nat → Option Addr} {B H B2 H2 : Hp} {D : Addr} {o o2 : HO} (g : Gr fp fp2 B H B2 H2) (hD : (∃ j, fp j = some D) ∨ NF H D) (h2 : H2 D = some o) (n : NT o := by intro _ z; cases z) (n2 : ∀ f, o ≠ .ext f := by intro _ z; cases z) : Gr fp fp2 B H B2 (upd H2 D o2) := by
  have nb : ∀ b u, (∀ i, fp i ≠ some b) → H b = some u → NT u → b ≠ D := fun b u h e n z => by
    subst z
    rcases hD with ⟨j, y⟩ | y
    · exact h j y
    · exact y.no e n
  refine ⟨g.bb, fun b u h e nu => ?_, g.fr0, g.nw, fun t p hp => tabS_upd h2 n n2 (g.tt t p hp), g.nb⟩
  rw [upd_ne (nb b u h e nu)]
  exact g.hh0 b u h e nu
theorem Gr.refl {fp : Nat → Option Addr} {B H : Hp} : Gr fp fp B H B H := ⟨Same.refl _, fun _ _ _ h _ => h, fun _ _ _ _ _ h => h, fun i _ h => .inl ⟨i, h⟩, fun h => h, fun _ _ h => h⟩
theorem Gr.trans {fp fp2 fp3 : Nat → Option Addr} {B H B2 H2 B3 H3 : Hp} (g : Gr fp fp2 B H B2 H2) (k : Gr fp2 fp3 B2 H2 B3 H3) : Gr fp fp3 B H B3 H3 := by
  have nf : ∀ b o, (∀ i, fp i ≠ some b) → H b = some o → NT o → ∀ i, fp2 i ≠ some b := fun b o h e n i z => by
    rcases g.nw i b z with ⟨j, q⟩ | q
    · exact h j q
    · exact q.no e n
  refine ⟨g.bb.trans k.bb, fun b o h e n => k.hh0 b o (nf b o h e n) (g.hh0 b o h e n) n, fun b o h e n z => k.fr0 b o (nf b o h e n) (g.hh0 b o h e n) n (g.fr0 b o h e n z), fun i b h => ?_, fun t => k.tt (g.tt t), fun b ps h => g.nb b ps (k.nb b ps h)⟩
  rcases k.nw i b h with ⟨j, q⟩ | q
  · exact g.nw j b q
  · by_cases c : ∃ j, fp j = some b
    · exact .inl c
    · exact .inr fun o e n => q.no (g.hh0 b o (fun i y => c ⟨i, y⟩) e n) n
theorem tt_of {H H2 : Hp} (s : Same H H2) : LamX.Tabs LT.T H → LamX.Tabs LT.T H2 := fun t => t.ext s
theorem ne_none_of {H H2 : Hp} (s : Same H H2) {b : Addr} (h : H b ≠ none) : H2 b ≠ none := fun e => by
  cases q : H b with
  | none => exact h q
  | some o => rw [s b o q] at e; cases e
theorem same_new {H : Hp} {p : Addr} {o : HO} (h : H p = none) : Same H (upd H p o) := fun b u q => by
  rw [upd_ne (ne_of_none q h)]
  exact q

section
variable {A : List V} {B H B2 H2 : Hp} {σ : L2.St} {ss : List SV} {fp fp2 : Nat → Option Addr} {i j : Nat} {s t : SV} {v : V} {w : Option V} {d : PyData} {ds : List PyData} {lb : Option Nat} {p : Addr}
/-- a slot as heaps grow, where its own object is as it was -/
theorem SlotOk.grow {q : Option Addr} (h : SlotOk A B H w s q) (bb : Same B B2) (hq : ∀ p, q = some p → B2 p = none ∧ H2 p = H p) : SlotOk A B2 H2 w s q := by
  cases s with
  | gone => exact h
  | dat d =>
    obtain ⟨e, x, ex, a⟩ := h
    exact ⟨e, x, ex, a.up bb⟩
  | oth t =>
    obtain ⟨e, x, ex, a⟩ := h
    exact ⟨e, x, ex, a.up bb⟩
  | own lb ds =>
    obtain ⟨p, xs, e, ev, hb, hp, a, l⟩ := h
    obtain ⟨h1, h2⟩ := hq p e
    exact ⟨p, xs, e, ev, h1, h2.trans hp, a.up bb, l⟩
  | odk lb ks =>
    obtain ⟨p, xs, e, ev, hb, hp, a, l⟩ := h
    obtain ⟨h1, h2⟩ := hq p e
    exact ⟨p, xs, e, ev, h1, h2.trans hp, AtK.mono bb _ _ a, l⟩
theorem Ok.get (h : Ok A B H σ ss fp) (e : ss[i]? = some s) : SlotOk A B H (σ[i]?.join) s (fp i) := h.sl i s e
theorem Ok.dat (h : Ok A B H σ ss fp) (e : ss[i]? = some (.dat d)) : ∃ x, σ[i]? = some (some x) ∧ At B x d := by
  obtain ⟨_, x, ex, a⟩ := h.sl i _ e
  refine ⟨x, ?_, a⟩
  cases q : σ[i]? with
  | none => rw [q] at ex; cases ex
  | some w =>
    rw [q] at ex
    exact congrArg some ex
theorem Ok.oth {t : Tg} (h : Ok A B H σ ss fp) (e : ss[i]? = some (.oth t)) : ∃ x, σ[i]? = some (some x) ∧ TgOk B x t := by
  obtain ⟨_, x, ex, a⟩ := h.sl i _ e
  refine ⟨x, ?_, a⟩
  cases q : σ[i]? with
  | none => rw [q] at ex; cases ex
  | some w =>
    rw [q] at ex
    exact congrArg some ex
theorem Ok.own (h : Ok A B H σ ss fp) (e : ss[i]? = some (.own lb ds)) : ∃ p xs, fp i = some p ∧ σ[i]? = some (some (.ref p)) ∧ B p = none ∧ H p = some (.lst xs) ∧ AtL B xs ds ∧ ∀ k, lb = some k → A[k]? = some (.ref p) := by
  obtain ⟨p, xs, e1, ev, hb, hp, a, l⟩ := h.sl i _ e
  refine ⟨p, xs, e1, ?_, hb, hp, a, l⟩
  cases q : σ[i]? with
  | none => rw [q] at ev; cases ev
  | some w =>
    rw [q] at ev
    exact congrArg some ev
theorem Ok.odk {ks : List (PyData × PyData)} (h : Ok A B H σ ss fp) (e : ss[i]? = some (.odk lb ks)) : ∃ p xs, fp i = some p ∧ σ[i]? = some (some (.ref p)) ∧ B p = none ∧ H p = some (.dK xs) ∧ AtK B xs ks ∧ ∀ k, lb = some k → A[k]? = some (.ref p) := by
  obtain ⟨p, xs, e1, ev, hb, hp, a, l⟩ := h.sl i _ e
  refine ⟨p, xs, e1, ?_, hb, hp, a, l⟩
  cases q : σ[i]? with
  | none => rw [q] at ev; cases ev
  | some w =>
    rw [q] at ev
    exact congrArg some ev
/-- the heap of an owned thing -/
theorem Ok.hasO2 (h : Ok A B H σ ss fp) (e : fp i = Option.some p) : B p = Option.none ∧ ∃ o, H p = Option.some o ∧ NT o ∧ ∀ f, o ≠ .ext f := by
  cases q : ss[i]? with
  | none =>
    rw [h.out i (List.getElem?_eq_none_iff.mp q)] at e
    cases e
  | some s =>
    have z := h.sl i s q
    cases s with
    | gone =>
      have z2 : fp i = Option.none := z
      rw [z2] at e
      cases e
    | dat d =>
      rw [z.1] at e
      cases e
    | oth t =>
      rw [z.1] at e
      cases e
    | own lb ds =>
      obtain ⟨p', xs, e1, _, hb, hp, _⟩ := z
      rw [e1] at e
      cases e
      exact ⟨hb, _, hp, nt_lst, fun _ z => by cases z⟩
    | odk lb ks =>
      obtain ⟨p', xs, e1, _, hb, hp, _⟩ := z
      rw [e1] at e
      cases e
      exact ⟨hb, _, hp, nt_dK, fun _ z => by cases z⟩
theorem Ok.hasO (h : Ok A B H σ ss fp) (e : fp i = Option.some p) : B p = Option.none ∧ ∃ o, H p = Option.some o := by
  obtain ⟨hb, o, ho, _⟩ := h.hasO2 e
  exact ⟨hb, o, ho⟩
theorem Ok.lt (h : Ok A B H σ ss fp) (e : ss[i]? = Option.some s) : i < σ.length := by
  rw [h.len]
  exact (List.getElem?_eq_some_iff.mp e).1
/-- the heaps grow -/
theorem Ok.grow (h : Ok A B H σ ss fp) (bb : Same B B2) (bh : Same B2 H2) (hh : Same H H2) (fr : ∀ b, H b ≠ Option.none → B b = Option.none → B2 b = Option.none) (nb : ∀ b ps, B2 b = Option.some (.tbl ps) → B b = Option.some (.tbl ps) := by exact fun _ _ h => h) : Ok A B2 H2 σ ss fp :=
  ⟨bh, h.len, fun i s e => (h.sl i s e).grow bb fun p q => by
    obtain ⟨hb, o, ho⟩ := h.hasO q
    exact ⟨fr p (by rw [ho]; exact fun z => nomatch z) hb, by rw [ho]; exact hh _ _ ho⟩, h.inj, h.out, ⟨h.tb.tabs.ext hh, fun b ps e => h.tb.nb b ps (nb b ps e)⟩⟩
/-- the heaps grow, tables may have grown -/
theorem Ok.growT (h : Ok A B H σ ss fp) (bb : Same B B2) (bh : Same B2 H2) (hh : ∀ b o, H b = Option.some o → NT o → H2 b = Option.some o) (fr : ∀ b o, H b = Option.some o → NT o → B b = Option.none → B2 b = Option.none) (tb : TbOk B2 H2) : Ok A B2 H2 σ ss fp :=
  ⟨bh, h.len, fun i s e => (h.sl i s e).grow bb fun p q => by
    obtain ⟨hb, o, ho, n⟩ := h.hasO2 q
    exact ⟨fr p _ ho n.1 hb, by rw [ho]; exact hh _ _ ho n.1⟩, h.inj, h.out, tb⟩
/-- an owned thing is no table -/
theorem Ok.tbUp (h : Ok A B H σ ss fp) (g : Gr fp fp2 B H B2 H2) : TbOk B2 H2 := ⟨g.tt h.tb.tabs, fun b ps e => h.tb.nb b ps (g.nb b ps e)⟩
theorem join_set_same {σ : L2.St} {i : Nat} {w : Option V} (h : i < σ.length) : (σ.set i w)[i]?.join = w := by
  rw [List.getElem?_set_self h]
  rfl
theorem join_set_ne {σ : L2.St} {i j : Nat} {w : Option V} (h : i ≠ j) : (σ.set i w)[j]?.join = σ[j]?.join := by rw [List.getElem?_set_ne h]
def fset (fp : Nat → Option Addr) (i : Nat) (q : Option Addr) : Nat → Option Addr := fun j => if j = i then q else fp j
theorem fset_same {q : Option Addr} : fset fp i q i = q := if_pos rfl
theorem fset_ne {q : Option Addr} (h : j ≠ i) : fset fp i q j = fp j := if_neg h
/-- slot i is set; q: what it owns now -/
theorem Ok.set {q : Option Addr} (h : Ok A B H σ ss fp) (hi : i < ss.length) (hs : SlotOk A B H w t q) (hq : ∀ j p, j ≠ i → q = Option.some p → fp j ≠ Option.some p) : Ok A B H (σ.set i w) (ss.set i t) (fset fp i q) := by
  have hi2 : i < σ.length := by rw [h.len]; exact hi
  refine ⟨h.sm, by rw [List.length_set, List.length_set]; exact h.len, fun j s e => ?_, fun a b p ea eb => ?_, fun j hj => ?_, h.tb⟩
  · by_cases c : j = i
    · subst c
      rw [List.getElem?_set_self hi] at e
      cases e
      rw [join_set_same hi2, fset_same]
      exact hs
    · rw [List.getElem?_set_ne (Ne.symm c)] at e
      rw [join_set_ne (Ne.symm c), fset_ne c]
      exact h.sl j s e
  · by_cases ca : a = i
    · by_cases cb : b = i
      · rw [ca, cb]
      · subst ca
        rw [fset_same] at ea
        rw [fset_ne cb] at eb
        exact absurd eb (hq b p cb ea)
    · by_cases cb : b = i
      · subst cb
        rw [fset_same] at eb
        rw [fset_ne ca] at ea
        exact absurd ea (hq a p ca eb)
      · rw [fset_ne ca] at ea
        rw [fset_ne cb] at eb
        exact h.inj a b p ea eb
  · rw [List.length_set] at hj
    rw [fset_ne (by omega)]
    exact h.out j hj
theorem Ok.setDat (h : Ok A B H σ ss fp) (hi : i < ss.length) (a : At B v d) : Ok A B H (σ.set i (Option.some v)) (ss.set i (.dat d)) (fset fp i Option.none) :=
  h.set hi ⟨rfl, v, rfl, a⟩ fun _ _ _ z => nomatch z
theorem Ok.setGone (h : Ok A B H σ ss fp) (hi : i < ss.length) : Ok A B H (σ.set i w) (ss.set i .gone) (fset fp i Option.none) :=
  h.set hi rfl fun _ _ _ z => nomatch z
theorem set_get_self {σ : L2.St} {i : Nat} {w : Option V} (h : σ[i]? = Option.some w) : σ.set i w = σ := by
  apply List.ext_getElem?
  intro j
  by_cases c : j = i
  · subst c
    rw [List.getElem?_set_self (List.getElem?_eq_some_iff.mp h).1, h]
  · rw [List.getElem?_set_ne (Ne.symm c)]
/-- what slot i knows is given up -/
theorem Ok.drop (h : Ok A B H σ ss fp) (hi : i < ss.length) : Ok A B H σ (ss.set i .gone) (fset fp i Option.none) := by
  have hi2 : i < σ.length := by rw [h.len]; exact hi
  have := h.setGone (w := σ[i]) hi
  rw [set_get_self (List.getElem?_eq_getElem hi2)] at this
  exact this
theorem gr_fset {q : Option Addr} (hq : ∀ p, q = Option.some p → (∃ j, fp j = Option.some p) ∨ H p = Option.none) : Gr fp (fset fp i q) B H B H :=
  Gr.mk4 (Same.refl _) (fun _ _ _ h => h) (fun _ _ _ h => h) (fun j b e => by
    by_cases c : j = i
    · subst c
      rw [fset_same] at e
      exact hq b e
    · rw [fset_ne c] at e
      exact .inl ⟨j, e⟩) fun h => h
/-- an owned list becomes data that stays -/
theorem Ok.freeze (h : Ok A B H σ ss fp) (e : ss[i]? = Option.some (.own lb ds)) :
    ∃ p xs, σ[i]? = Option.some (Option.some (.ref p)) ∧ H p = Option.some (.lst xs) ∧ Ok A (upd B p (.lst xs)) H σ (ss.set i (.dat (.list ds))) (fset fp i Option.none) ∧ Gr fp (fset fp i Option.none) B H (upd B p (.lst xs)) H ∧ At (upd B p (.lst xs)) (.ref p) (.list ds) := by
  obtain ⟨p, xs, e1, ev, hb, hp, a, _⟩ := h.own e
  have bb : Same B (upd B p (.lst xs)) := same_new hb
  have nbF : ∀ b ps, upd B p (.lst xs) b = Option.some (.tbl ps) → B b = Option.some (.tbl ps) := fun b ps e => by
    by_cases c : b = p
    · rw [c, upd_same] at e
      cases e
    · rw [upd_ne c] at e
      exact e
  have at' : At (upd B p (.lst xs)) (.ref p) (.list ds) := .lst upd_same (a.up bb)
  have hi := (List.getElem?_eq_some_iff.mp e).1
  refine ⟨p, xs, ev, hp, ?_, Gr.mk4 bb (fun _ _ _ h => h) (fun b hb2 _ z => ?_) (fun j b e2 => ?_) (fun h => h) nbF, at'⟩
  · refine ⟨fun b o q => ?_, by rw [List.length_set]; exact h.len, fun j s e2 => ?_, fun x y r ex ey => ?_, fun j hj => ?_, ⟨h.tb.tabs, fun b ps e => h.tb.nb b ps (nbF b ps e)⟩⟩
    · by_cases c : b = p
      · rw [c, upd_same] at q
        rw [c, hp]
        exact q
      · rw [upd_ne c] at q
        exact h.sm b o q
    · by_cases c : j = i
      · subst c
        rw [List.getElem?_set_self hi] at e2
        cases e2
        rw [fset_same, ev]
        exact ⟨rfl, _, rfl, at'⟩
      · rw [List.getElem?_set_ne (Ne.symm c)] at e2
        rw [fset_ne c]
        refine (h.sl j s e2).grow bb fun r er => ⟨?_, rfl⟩
        rw [upd_ne fun z => c (h.inj j i p (by rw [← z]; exact er) e1)]
        exact (h.hasO er).1
    · by_cases cx : x = i
      · subst cx
        rw [fset_same] at ex
        cases ex
      · by_cases cy : y = i
        · subst cy
          rw [fset_same] at ey
          cases ey
        · rw [fset_ne cx] at ex
          rw [fset_ne cy] at ey
          exact h.inj x y r ex ey
    · rw [List.length_set] at hj
      rw [fset_ne (by omega)]
      exact h.out j hj
  · rw [upd_ne fun c => hb2 i (by rw [c]; exact e1)]
    exact z
  · by_cases c : j = i
    · subst c
      rw [fset_same] at e2
      cases e2
    · rw [fset_ne c] at e2
      exact .inl ⟨j, e2⟩
/-- an owned list is written -/
theorem Ok.write {ys : List V} {es : List PyData} (h : Ok A B H σ ss fp) (e : ss[i]? = Option.some (.own lb ds)) (ep : fp i = Option.some p) (a : AtL B ys es) :
    Ok A B (upd H p (.lst ys)) σ (ss.set i (.own lb es)) fp ∧ Gr fp fp B H B (upd H p (.lst ys)) := by
  obtain ⟨p', xs, e1, ev, hb, hp, _, l⟩ := h.own e
  rw [e1] at ep
  cases ep
  have hi := (List.getElem?_eq_some_iff.mp e).1
  refine ⟨⟨fun b o q => ?_, by rw [List.length_set]; exact h.len, fun j s e2 => ?_, h.inj, fun j hj => h.out j (by rw [List.length_set] at hj; exact hj), h.tb.upd hp⟩, Gr.mk4 (Same.refl _) (fun b o n q => ?_) (fun _ _ _ z => z) (fun j b q => .inl ⟨j, q⟩) fun t r hr => tabS_upd hp (by intro _ z; cases z) (by intro _ z; cases z) (t r hr)⟩
  · rw [upd_ne fun c => by rw [c, hb] at q; cases q]
    exact h.sm b o q
  · by_cases c : j = i
    · subst c
      rw [List.getElem?_set_self hi] at e2
      cases e2
      rw [ev]
      exact ⟨_, ys, e1, rfl, hb, upd_same, a, l⟩
    · rw [List.getElem?_set_ne (Ne.symm c)] at e2
      refine (h.sl j s e2).grow (Same.refl _) fun r er => ⟨(h.hasO er).1, upd_ne fun z => c (h.inj j i r er (by rw [z]; exact e1))⟩
  · rw [upd_ne fun c => n i (by rw [c]; exact e1)]
    exact q
/-- an owned dict becomes data that stays; it is locked -/
theorem Ok.freezeD {ks : List (PyData × PyData)} (h : Ok A B H σ ss fp) (e : ss[i]? = Option.some (.odk lb ks)) :
    ∃ p xs, σ[i]? = Option.some (Option.some (.ref p)) ∧ H p = Option.some (.dK xs) ∧ ∀ o : Obj, Ok A (upd B p (.frz o (.dK xs))) (upd H p (.frz o (.dK xs))) σ (ss.set i (.dat (.dict ks))) (fset fp i Option.none) ∧ Gr fp (fset fp i Option.none) B H (upd B p (.frz o (.dK xs))) (upd H p (.frz o (.dK xs))) ∧ At (upd B p (.frz o (.dK xs))) (.ref p) (.dict ks) := by
  obtain ⟨p, xs, e1, ev, hb, hp, a, _⟩ := h.odk e
  refine ⟨p, xs, ev, hp, fun o => ?_⟩
  have bb : Same B (upd B p (.frz o (.dK xs))) := same_new hb
  have nbF : ∀ b ps, upd B p (.frz o (.dK xs)) b = Option.some (.tbl ps) → B b = Option.some (.tbl ps) := fun b ps e => by
    by_cases c : b = p
    · rw [c, upd_same] at e
      cases e
    · rw [upd_ne c] at e
      exact e
  have at' : At (upd B p (.frz o (.dK xs))) (.ref p) (.dict ks) := .dct upd_same (AtK.mono bb _ _ a)
  have hi := (List.getElem?_eq_some_iff.mp e).1
  have tt : LamX.Tabs LT.T H → LamX.Tabs LT.T (upd H p (.frz o (.dK xs))) := fun t r hr => tabS_upd hp (by intro _ z; cases z) (by intro _ z; cases z) (t r hr)
  have np : ∀ b, (∀ k, fp k ≠ Option.some b) → b ≠ p := fun b n c => n i (by rw [c]; exact e1)
  refine ⟨?_, ⟨bb, fun b u n q _ => by rw [upd_ne (np b n)]; exact q, fun b u n _ _ z => by rw [upd_ne (np b n)]; exact z, fun j b e2 => ?_, tt, nbF⟩, at'⟩
  · refine ⟨fun b u q => ?_, by rw [List.length_set]; exact h.len, fun j s e2 => ?_, fun x y r ex ey => ?_, fun j hj => ?_, ⟨tt h.tb.tabs, fun b ps e => h.tb.nb b ps (nbF b ps e)⟩⟩
    · by_cases c : b = p
      · rw [c, upd_same] at q
        rw [c, upd_same]
        exact q
      · rw [upd_ne c] at q
        rw [upd_ne c]
        exact h.sm b u q
    · by_cases c : j = i
      · subst c
        rw [List.getElem?_set_self hi] at e2
        cases e2
        rw [fset_same, ev]
        exact ⟨rfl, _, rfl, at'⟩
      · rw [List.getElem?_set_ne (Ne.symm c)] at e2
        rw [fset_ne c]
        refine (h.sl j s e2).grow bb fun r er => ?_
        have nr : r ≠ p := fun z => c (h.inj j i p (by rw [← z]; exact er) e1)
        exact ⟨by rw [upd_ne nr]; exact (h.hasO er).1, upd_ne nr⟩
    · by_cases cx : x = i
      · subst cx
        rw [fset_same] at ex
        cases ex
      · by_cases cy : y = i
        · subst cy
          rw [fset_same] at ey
          cases ey
        · rw [fset_ne cx] at ex
          rw [fset_ne cy] at ey
          exact h.inj x y r ex ey
    · rw [List.length_set] at hj
      rw [fset_ne (by omega)]
      exact h.out j hj
  · by_cases c : j = i
    · subst c
      rw [fset_same] at e2
      cases e2
    · rw [fset_ne c] at e2
      exact .inl ⟨j, e2⟩
/-- an owned dict is written -/
theorem Ok.writeD {ks es : List (PyData × PyData)} {ys : List (Key × V)} (h : Ok A B H σ ss fp) (e : ss[i]? = Option.some (.odk lb ks)) (ep : fp i = Option.some p) (a : AtK B ys es) :
    Ok A B (upd H p (.dK ys)) σ (ss.set i (.odk lb es)) fp ∧ Gr fp fp B H B (upd H p (.dK ys)) := by
  obtain ⟨p', xs, e1, ev, hb, hp, _, l⟩ := h.odk e
  rw [e1] at ep
  cases ep
  have hi := (List.getElem?_eq_some_iff.mp e).1
  refine ⟨⟨fun b o q => ?_, by rw [List.length_set]; exact h.len, fun j s e2 => ?_, h.inj, fun j hj => h.out j (by rw [List.length_set] at hj; exact hj), h.tb.upd hp⟩, Gr.mk4 (Same.refl _) (fun b o n q => ?_) (fun _ _ _ z => z) (fun j b q => .inl ⟨j, q⟩) fun t r hr => tabS_upd hp (by intro _ z; cases z) (by intro _ z; cases z) (t r hr)⟩
  · rw [upd_ne fun c => by rw [c, hb] at q; cases q]
    exact h.sm b o q
  · by_cases c : j = i
    · subst c
      rw [List.getElem?_set_self hi] at e2
      cases e2
      rw [ev]
      exact ⟨_, ys, e1, rfl, hb, upd_same, a, l⟩
    · rw [List.getElem?_set_ne (Ne.symm c)] at e2
      refine (h.sl j s e2).grow (Same.refl _) fun r er => ⟨(h.hasO er).1, upd_ne fun z => c (h.inj j i r er (by rw [z]; exact e1))⟩
  · rw [upd_ne fun c => n i (by rw [c]; exact e1)]
    exact q
end
end Cm

/-! Mirrors: what code makes of slots, as a plain function; expressions. -/
namespace Cm
open PySem PySem.Spec PyProof.Rows L2 Cf
variable [LT]

inductive R (α : Type) where
  | val (a : α) (ss : List SV)
  | exc (c : Str) (fs : List (Str × PyData))
abbrev M (α : Type) := List SV → Option (R α)
section
variable {α β γ : Type}
def M.ret (a : α) : M α := fun ss => some (.val a ss)
def M.bind (m : M α) (k : α → M β) : M β := fun ss => match m ss with
  | some (.val a s2) => k a s2
  | some (.exc c fs) => some (.exc c fs)
  | none => none
def M.lift (o : Option α) : M α := fun ss => match o with
  | some a => some (.val a ss)
  | none => none
/-- no exception -/
def M.calm (m : M α) : M α := fun ss => match m ss with
  | some (.val a s2) => some (.val a s2)
  | _ => none
theorem bind_val {m : M α} {k : α → M β} {ss s2 : List SV} {a : α} (h : m ss = some (.val a s2)) : M.bind m k ss = k a s2 := by
  unfold M.bind
  rw [h]
theorem bind_exc {m : M α} {k : α → M β} {ss : List SV} {c : Str} {fs : List (Str × PyData)} (h : m ss = some (.exc c fs)) : M.bind m k ss = some (.exc c fs) := by
  unfold M.bind
  rw [h]
theorem ret_bind (a : α) (k : α → M β) : M.bind (M.ret a) k = k a := rfl
theorem bind_assoc (m : M α) (k : α → M β) (l : β → M γ) : M.bind (M.bind m k) l = M.bind m fun a => M.bind (k a) l := by
  funext ss
  unfold M.bind
  cases m ss with
  | none => rfl
  | some r => cases r <;> rfl
end

/-! ### exceptions -/
def noFp : Nat → Option Addr := fun _ => none
/-- what is wanted of an exception: mg: the module's names, E: the wish -/
def ExcW (mg : Str → Option Value) (E : XK) (fp : Nat → Option Addr) (B H : Hp) (c : Str) (fs : List (Str × PyData)) : Prop :=
  ∀ (C : Addr) (dv : Option Addr) (B2 H2 : Hp), mg c = some (.ref C) → Gr fp noFp B H B2 H2 → Same B2 H2 → ExAt B2 dv fs → E (.ref C) dv H2
section
variable {mg : Str → Option Value} {E : XK} {fp fp2 : Nat → Option Addr} {A : List V} {B H B2 H2 : Hp} {σ : L2.St} {ss ss2 : List SV} {α β ν μ : Type} {Q : ν → Hp → Prop}
theorem ExcW.shift {c : Str} {fs : List (Str × PyData)} (g : Gr fp fp2 B H B2 H2) (h : ExcW mg E fp B H c fs) : ExcW mg E fp2 B2 H2 c fs :=
  fun C dv B3 H3 e g3 s ea => h C dv B3 H3 e (g.trans g3) s ea
/-- what a step's outcome must lead to; rel: how a value shows it -/
def Res (rel : Hp → ν → α → Prop) (mg : Str → Option Value) (E : XK) (A : List V) (B : Hp) (fp : Nat → Option Addr) (σ : L2.St) (H : Hp) (o : Option (R α)) (Q : ν → Hp → Prop) : Prop :=
  match o with
  | some (.val a ss2) => ∀ v B2 H2 fp2, Gr fp fp2 B H B2 H2 → Ok A B2 H2 σ ss2 fp2 → rel B2 v a → Q v H2
  | some (.exc c fs) => ExcW mg E fp B H c fs
  | none => False
/-- the reading of a step -/
def tR (rel : Hp → ν → α → Prop) (mg : Str → Option Value) (E : XK) (f : M α) : L2.St → Hp → (ν → Hp → Prop) → Prop := fun σ H Q =>
  ∃ A B ss fp, Ok A B H σ ss fp ∧ Res rel mg E A B fp σ H (f ss) Q
variable {rel : Hp → ν → α → Prop} {rel2 : Hp → μ → β → Prop} {Q2 : μ → Hp → Prop} {o : Option (R α)}
theorem Res.mono {Q' : ν → Hp → Prop} (h : Res rel mg E A B fp σ H o Q) (k : ∀ v H, Q v H → Q' v H) : Res rel mg E A B fp σ H o Q' := by
  unfold Res at *
  split at h
  · exact fun v B2 H2 fp2 g ok r => k v H2 (h v B2 H2 fp2 g ok r)
  · exact h
  · exact h
theorem Res.shift (g : Gr fp fp2 B H B2 H2) (h : Res rel mg E A B fp σ H o Q) : Res rel mg E A B2 fp2 σ H2 o Q := by
  unfold Res at *
  split at h
  · exact fun v B3 H3 fp3 g3 ok r => h v B3 H3 fp3 (g.trans g3) ok r
  · exact h.shift g
  · exact h
/-- first f, then k -/
theorem Res.seq {f : M α} {k : α → M β} (h : Res rel2 mg E A B fp σ H (M.bind f k ss) Q2) :
    Res rel mg E A B fp σ H (f ss) fun v H1 => ∃ a B1 ss1 fp1, Ok A B1 H1 σ ss1 fp1 ∧ rel B1 v a ∧ Gr fp fp1 B H B1 H1 ∧ Res rel2 mg E A B1 fp1 σ H1 (k a ss1) Q2 := by
  cases q : f ss with
  | none =>
    rw [show M.bind f k ss = none by unfold M.bind; rw [q]] at h
    exact h
  | some r =>
    cases r with
    | val a ss1 =>
      rw [bind_val q] at h
      exact fun v B1 H1 fp1 g ok r => ⟨a, B1, ss1, fp1, ok, r, g, h.shift g⟩
    | exc c fs =>
      rw [bind_exc q] at h
      exact h
theorem Res.calm {f : M α} {E2 : XK} (h : Res rel mg E A B fp σ H (M.calm f ss) Q) : Res rel mg E2 A B fp σ H (f ss) Q := by
  unfold M.calm at h
  cases q : f ss with
  | none => rw [q] at h; exact h
  | some r =>
    rw [q] at h
    cases r with
    | val a ss1 => exact h
    | exc c fs => exact h.elim
end

/-! ### what only grows -/
structure Grow (B H B2 H2 : Hp) : Prop where
  bb : Same B B2
  bh : Same B2 H2
  hh : Same H H2
  fr : ∀ b, H b ≠ none → B b = none → B2 b = none
  nb : ∀ b ps, B2 b = some (.tbl ps) → B b = some (.tbl ps)
theorem Grow.refl {B H : Hp} (s : Same B H) : Grow B H B H := ⟨Same.refl _, s, Same.refl _, fun _ _ h => h, fun _ _ h => h⟩
theorem Grow.trans {B H B1 H1 B2 H2 : Hp} (g : Grow B H B1 H1) (k : Grow B1 H1 B2 H2) : Grow B H B2 H2 :=
  ⟨g.bb.trans k.bb, k.bh, g.hh.trans k.hh, fun b h e => k.fr b (ne_none_of g.hh h) (g.fr b h e), fun b ps h => g.nb b ps (k.nb b ps h)⟩
theorem Grow.new {B H : Hp} {p : Addr} {o : HO} (s : Same B H) (h : H p = none) (n : NT o := by intro _ z; cases z) : Grow B H (upd B p o) (upd H p o) := by
  refine ⟨same_new (s.free h), fun b u q => ?_, same_new h, fun b hb e => ?_, fun b ps e => ?_⟩
  · by_cases eb : b = p
    · rw [eb, upd_same] at q
      rw [eb, upd_same]
      exact q
    · rw [upd_ne eb] at q
      rw [upd_ne eb]
      exact s b u q
  · have eb : b ≠ p := fun z => by
      rw [z] at hb
      exact hb h
    rw [upd_ne eb]
    exact e
  · by_cases eb : b = p
    · rw [eb, upd_same] at e
      exact absurd (Option.some.inj e) (n ps)
    · rw [upd_ne eb] at e
      exact e
theorem Grow.own {B H : Hp} {p : Addr} {o : HO} (s : Same B H) (h : H p = none) : Grow B H B (upd H p o) :=
  ⟨Same.refl _, s.trans (same_new h), same_new h, fun _ _ e => e, fun _ _ e => e⟩
theorem Grow.gr {B H B2 H2 : Hp} (g : Grow B H B2 H2) {fp : Nat → Option Addr} : Gr fp fp B H B2 H2 := Gr.mk4 g.bb (fun b o _ e => g.hh b o e) (fun b _ h e => g.fr b h e) (fun i _ e => .inl ⟨i, e⟩) (tt_of g.hh) g.nb
theorem Ok.up {A : List V} {B H B2 H2 : Hp} {σ : L2.St} {ss : List SV} {fp : Nat → Option Addr} (h : Ok A B H σ ss fp) (g : Grow B H B2 H2) : Ok A B2 H2 σ ss fp := h.grow g.bb g.bh g.hh g.fr g.nb

/-! ### readings -/
abbrev tM (mg : Str → Option Value) (E : XK) (f : M PyData) : TE := tR At mg E f
abbrev tA (mg : Str → Option Value) (E : XK) (f : M (List PyData)) : TA := tR AtL mg E f
abbrev tT (mg : Str → Option Value) (E : XK) (f : M Bool) : TT := tR (fun _ b c => b = c) mg E f

section
variable {mg : Str → Option Value} {E : XK} {fp fp2 : Nat → Option Addr} {A : List V} {B H B2 H2 : Hp} {σ : L2.St} {ss ss2 : List SV} {Q : VK}
/-- a leaf: the data is there, nothing else has changed but what has grown -/
theorem Res.leaf {ν α : Type} {rel : Hp → ν → α → Prop} {Q : ν → Hp → Prop} {a : α} (ok : Ok A B H σ ss fp) (h : Res rel mg E A B fp σ H (some (.val a ss)) Q) : ∀ v B2 H2, Grow B H B2 H2 → rel B2 v a → Q v H2 :=
  fun v B2 H2 g r => h v B2 H2 fp g.gr (ok.up g) r
theorem Res.now {ν α : Type} {rel : Hp → ν → α → Prop} {Q : ν → Hp → Prop} {a : α} (ok : Ok A B H σ ss fp) (h : Res rel mg E A B fp σ H (some (.val a ss)) Q) : ∀ v, rel B v a → Q v H :=
  fun v r => h v B H fp Gr.refl ok r
end
theorem PE.imp {X : Cx} {e : Expr} {t t' : TE} (h : PE X e t) (k : ∀ σ H Q, t' σ H Q → t σ H Q) : PE X e t' := ⟨fun pins s σ H Q I z => h.run pins s σ H Q I (k σ H Q z)⟩
theorem PT.imp {X : Cx} {e : Expr} {t t' : TT} (h : PT X e t) (k : ∀ σ H Q, t' σ H Q → t σ H Q) : PT X e t' := ⟨fun pins s σ H Q I z => h.run pins s σ H Q I (k σ H Q z)⟩
theorem PW.imp {X : Cx} {e : Expr} {t t' : TT} (h : PW X e t) (k : ∀ σ H Q, t' σ H Q → t σ H Q) : PW X e t' := ⟨fun wh pins s σ H Q I z => h.run wh pins s σ H Q I (k σ H Q z)⟩
theorem PA.imp {X : Cx} {es : List Expr} {t t' : TA} (h : PA X es t) (k : ∀ σ H Q, t' σ H Q → t σ H Q) : PA X es t' := ⟨fun pos pins s σ H Q I z => h.run pos pins s σ H Q I (k σ H Q z)⟩
theorem PK.imp {X : Cx} {es : List Keyword} {t t' : TA} (h : PK X es t) (k : ∀ σ H Q, t' σ H Q → t σ H Q) : PK X es t' := ⟨fun pos pins s σ H Q I z => h.run pos pins s σ H Q I (k σ H Q z)⟩
theorem PS.imp {X : Cx} {e : Stmt} {t t' : TS} (h : PS X e t) (k : ∀ D σ H, t' D σ H → t D σ H) : PS X e t' := ⟨fun pins s σ H D I z => h.run pins s σ H D I (k D σ H z)⟩
theorem PSs.imp {X : Cx} {e : List Stmt} {t t' : TS} (h : PSs X e t) (k : ∀ D σ H, t' D σ H → t D σ H) : PSs X e t' := ⟨fun pins s σ H D I z => h.run pins s σ H D I (k D σ H z)⟩

/-! ### a lock at the end -/
/-- as wanted, or as soon as a thing is locked -/
def LQ (Q : VK) : VK := fun v H => Q v H ∨ ∃ d u, H d = some u ∧ Mut (some u) ∧ ∀ od, Q v (upd H d (.frz od u))
theorem PE.lockEnd {X : Cx} {e : Expr} {t : TE} (h : PE X e t) : PE X e (fun σ H Q => t σ H (LQ Q)) := ⟨fun pins s σ H Q I hw => by
  refine wpAny_mono (h.run pins s σ H _ I hw) (fun v s1 ⟨x, H1, I1, r, q⟩ => ?_) fun _ _ z => z
  rcases q with q | ⟨d, u, hd, mu, q⟩
  · exact ⟨x, H1, I1, r, q⟩
  · obtain ⟨od, I2⟩ := I1.lock hd mu
    exact ⟨x, _, I2, r, q od⟩⟩

/-! ### names, constants -/
def mVar (i : Nat) : M PyData := fun ss => match ss[i]? with
  | some (.dat d) => some (.val d ss)
  | some (.own _ ds) => some (.val (.list ds) (ss.set i (.dat (.list ds))))
  | some (.odk _ ks) => some (.val (.dict ks) (ss.set i (.dat (.dict ks))))
  | _ => none
def mC (d : PyData) : M PyData := M.ret d
section
variable {X : Cx} {E : XK} {e e2 e3 : Expr} {es : List Expr} {f g k3 : M PyData} {fa : M (List PyData)} {pos : Pos}
theorem m_var (i : Nat) {e : Expr} (h : PE X e (tVar i)) : PE X e (tM X.mg E (mVar i)) := PE.imp (PE.lockEnd h) fun σ H Q ⟨A, B, ss, fp, ok, h⟩ => by
  unfold mVar at h
  split at h
  · rename_i d e
    obtain ⟨x, ex, a⟩ := ok.dat e
    exact ⟨x, ex, .inl (h.now ok x a)⟩
  · rename_i lb ds e
    obtain ⟨p, xs, ev, hp, ok2, g2, a⟩ := ok.freeze e
    exact ⟨.ref p, ev, .inl (h _ _ _ _ g2 ok2 a)⟩
  · rename_i lb ks e
    obtain ⟨p, xs, ev, hp, fz⟩ := ok.freezeD e
    refine ⟨.ref p, ev, .inr ⟨p, _, hp, trivial, fun od => ?_⟩⟩
    obtain ⟨ok2, g2, a⟩ := fz od
    exact h _ _ _ _ g2 ok2 a
  · exact h.elim
theorem m_const {d : PyData} {v : V} (h : PE X e (tC v)) (a : ∀ B, At B v d) : PE X e (tM X.mg E (mC d)) := PE.imp h fun σ H Q ⟨A, B, ss, fp, ok, h⟩ => h.now ok v (a B)
theorem m_int {i : Int} {j : Nat} : PE X (.Constant (.int i) j pos) (tM X.mg E (mC (.int i))) := m_const pe_int fun _ => .int i
theorem m_bl {b : Bool} {j : Nat} : PE X (.Constant (.bool b) j pos) (tM X.mg E (mC (.bool b))) := m_const pe_bl fun _ => .bl b
theorem m_str {x : Str} {j : Nat} : PE X (.Constant (.str x) j pos) (tM X.mg E (mC (.str x))) := m_const pe_str fun _ => .str x
theorem m_non {j : Nat} : PE X (.Constant .none j pos) (tM X.mg E (mC .none)) := m_const pe_non fun _ => .non

/-! ### operators -/
/-- the reading r does on data what k tells -/
def D2 (r : R2) (k : PyData → PyData → Option PyData) : Prop := ∀ B H x y d1 d2 d Q, Same B H → At B x d1 → At B y d2 → k d1 d2 = some d → (∀ v B2 H2, Grow B H B2 H2 → At B2 v d → Q v H2) → r x y H Q
def m2 (k : PyData → PyData → Option PyData) (f g : M PyData) : M PyData := M.bind f fun x => M.bind g fun y => M.lift (k x y)
theorem lift_some {α : Type} {o : Option α} {ss : List SV} {ν : Type} {rel : Hp → ν → α → Prop} {mg : Str → Option Value} {A : List V} {B : Hp} {fp : Nat → Option Addr} {σ : L2.St} {H : Hp} {Q : ν → Hp → Prop} (h : Res rel mg E A B fp σ H (M.lift o ss) Q) :
    ∃ a, o = some a ∧ Res rel mg E A B fp σ H (some (.val a ss)) Q := by
  unfold M.lift at h
  cases o with
  | none => exact h.elim
  | some a => exact ⟨a, rfl, h⟩
theorem tOp_of {r : R2} {k : PyData → PyData → Option PyData} (hd : D2 r k) {σ : L2.St} {H : Hp} {Q : VK} (h : tM X.mg E (m2 k f g) σ H Q) : tOp r (tM X.mg E f) (tM X.mg E g) σ H Q := by
  obtain ⟨A, B, ss, fp, ok, h⟩ := h
  refine ⟨A, B, ss, fp, ok, h.seq.mono fun x H1 ⟨d1, B1, ss1, fp1, ok1, a1, g1, h1⟩ => ⟨A, B1, ss1, fp1, ok1, h1.seq.mono fun y H2 ⟨d2, B2, ss2, fp2, ok2, a2, g2, h2⟩ => ?_⟩⟩
  obtain ⟨d, e, h3⟩ := lift_some h2
  exact hd B2 H2 x y d1 d2 d Q ok2.sm (a1.up g2.bb) a2 e (h3.leaf ok2)
theorem m_op {op : Operator} {r : R2} {k : PyData → PyData → Option PyData} (ho : OpR X (binaryOp op) r) (hd : D2 r k) (hf : PE X e (tM X.mg E f)) (hg : PE X e2 (tM X.mg E g)) : PE X (.BinOp e op e2 pos) (tM X.mg E (m2 k f g)) :=
  PE.imp (pe_op ho hf hg) fun _ _ _ h => tOp_of hd h
theorem m_cmp {op : CmpOp} {r : R2} {k : PyData → PyData → Option PyData} (ho : OpR X (compareOp op) r) (hd : D2 r k) (hf : PE X e (tM X.mg E f)) (hg : PE X e2 (tM X.mg E g)) (hm : behindInMarks op e2 = false) : PE X (.Compare e [op] [e2] pos) (tM X.mg E (m2 k f g)) :=
  PE.imp (pe_cmpR ho hf hg hm) fun _ _ _ h => tOp_of hd h
/-- a truth value of data that is one -/
def asB : PyData → Option Bool
  | .bool b => some b
  | _ => none
theorem asB_some {d : PyData} {b : Bool} (h : asB d = some b) : d = .bool b := by
  cases d <;> simp [asB] at h
  rw [h]
def mB (f : M PyData) : M Bool := M.bind f fun d => M.lift (asB d)
theorem tTest_of {σ : L2.St} {H : Hp} {Q : Bool → Hp → Prop} (h : tT X.mg E (mB f) σ H Q) : tM X.mg E f σ H fun x H1 => ∃ c, x = .bl c ∧ Q c H1 := by
  obtain ⟨A, B, ss, fp, ok, h⟩ := h
  refine ⟨A, B, ss, fp, ok, h.seq.mono fun x H1 ⟨d1, B1, ss1, fp1, ok1, a1, g1, h1⟩ => ?_⟩
  obtain ⟨b, e, h2⟩ := lift_some h1
  rw [asB_some e] at a1
  exact ⟨b, a1.bl_eq, h2.now ok1 b rfl⟩
theorem m_tcmp {op : CmpOp} {r : R2} {k : PyData → PyData → Option PyData} (ho : OpR X (compareOp op) r) (hd : D2 r k) (hf : PE X e (tM X.mg E f)) (hg : PE X e2 (tM X.mg E g)) (hm : behindInMarks op e2 = false) : PT X (.Compare e [op] [e2] pos) (tT X.mg E (mB (m2 k f g))) :=
  PT.imp (pt_cmpR ho hf hg hm) fun σ H Q h => tOp_of hd (tTest_of h)
theorem m_tval (hf : PE X e (tM X.mg E f)) (he : ∀ whole, isTrue e X.env whole = (do let v ← whole; standAt e.pos; holding [v] (truthy v)) := by intro _; rfl) : PT X e (tT X.mg E (mB f)) :=
  PT.imp (pt_val hf he) fun σ H Q h => tTest_of h
/-- a, then maybe c -/
def mChain (k k' : PyData → PyData → Option PyData) (f g h : M PyData) : M PyData := M.bind f fun x => M.bind g fun y => M.bind (M.lift ((k x y).bind asB)) fun b => match b with
  | true => M.bind h fun z => M.lift (k' y z)
  | false => M.ret (.bool false)
theorem tChain_of {r r' : R2} {k k' : PyData → PyData → Option PyData} (hd : D2 r k) (hd' : D2 r' k') {σ : L2.St} {H : Hp} {Q : VK} (h : tM X.mg E (mChain k k' f g k3) σ H Q) : tChain r r' (tM X.mg E f) (tM X.mg E g) (tM X.mg E k3) σ H Q := by
  obtain ⟨A, B, ss, fp, ok, h⟩ := h
  refine ⟨A, B, ss, fp, ok, h.seq.mono fun x H1 ⟨d1, B1, ss1, fp1, ok1, a1, g1, h1⟩ => ⟨A, B1, ss1, fp1, ok1, h1.seq.mono fun y H2 ⟨d2, B2, ss2, fp2, ok2, a2, g2, h2⟩ => ?_⟩⟩
  cases q : k d1 d2 with
  | none =>
    rw [q] at h2
    exact (show False from h2).elim
  | some d =>
    cases qb : asB d with
    | none =>
      rw [q] at h2
      have h2 : Res At X.mg E A B2 fp2 σ H2 (M.bind (M.lift (asB d)) _ ss2) Q := h2
      rw [qb] at h2
      exact (show False from h2).elim
    | some b =>
      rw [q] at h2
      have h2 : Res At X.mg E A B2 fp2 σ H2 (M.bind (M.lift (asB d)) _ ss2) Q := h2
      rw [qb] at h2
      have ed := asB_some qb
      subst ed
      refine hd B2 H2 x y d1 d2 _ _ ok2.sm (a1.up g2.bb) a2 q fun v B3 H3 g3 a3 => ⟨b, a3.bl_eq, ?_⟩
      have ok3 := ok2.up g3
      cases b with
      | false => exact iteF (Res.now ok3 (Res.shift g3.gr (show Res At X.mg E A B2 fp2 σ H2 (some (.val (.bool false) ss2)) Q from h2)) _ (.bl false))
      | true =>
        refine iteT ⟨A, B3, ss2, fp2, ok3, (Res.shift g3.gr (show Res At X.mg E A B2 fp2 σ H2 (M.bind k3 (fun z => M.lift (k' d2 z)) ss2) Q from h2)).seq.mono fun z H4 ⟨d4, B4, ss4, fp4, ok4, a4, g4, h4⟩ => ?_⟩
        obtain ⟨d5, e5, h5⟩ := lift_some h4
        exact hd' B4 H4 y z d2 d4 d5 Q ok4.sm ((a2.up g3.bb).up g4.bb) a4 e5 (h5.leaf ok4)
theorem m_chain {op op' : CmpOp} {r r' : R2} {k k' : PyData → PyData → Option PyData} (ho : OpR X (compareOp op) r) (ho' : OpR X (compareOp op') r') (hd : D2 r k) (hd' : D2 r' k') (hf : PE X e (tM X.mg E f)) (hg : PE X e2 (tM X.mg E g)) (hh : PE X e3 (tM X.mg E k3))
    (hm : lastMarks [op, op'] [e2, e3] = false := by with_unfolding_all rfl) : PE X (.Compare e [op, op'] [e2, e3] pos) (tM X.mg E (mChain k k' f g k3)) :=
  PE.imp (pe_chain ho ho' hf hg hh hm) fun _ _ _ h => tChain_of hd hd' h
theorem m_tchain {op op' : CmpOp} {r r' : R2} {k k' : PyData → PyData → Option PyData} (ho : OpR X (compareOp op) r) (ho' : OpR X (compareOp op') r') (hd : D2 r k) (hd' : D2 r' k') (hf : PE X e (tM X.mg E f)) (hg : PE X e2 (tM X.mg E g)) (hh : PE X e3 (tM X.mg E k3))
    (hm : lastMarks [op, op'] [e2, e3] = false := by with_unfolding_all rfl) : PT X (.Compare e [op, op'] [e2, e3] pos) (tT X.mg E (mB (mChain k k' f g k3))) :=
  PT.imp (pt_chain ho ho' hf hg hh hm) fun _ _ _ h => tChain_of hd hd' (tTest_of h)
def m1 (k : PyData → Option PyData) (f : M PyData) : M PyData := M.bind f fun x => M.lift (k x)
def D1 (r : V → Hp → VK → Prop) (k : PyData → Option PyData) : Prop := ∀ B H x d1 d Q, Same B H → At B x d1 → k d1 = some d → (∀ v B2 H2, Grow B H B2 H2 → At B2 v d → Q v H2) → r x H Q
theorem m_un {op : UnaryOp} {r : V → Hp → VK → Prop} {k : PyData → Option PyData} (ho : UnR X (unaryOp op) r) (hd : D1 r k) (hf : PE X e (tM X.mg E f)) : PE X (.UnaryOp op e pos) (tM X.mg E (m1 k f)) :=
  PE.imp (pe_un ho hf) fun σ H Q ⟨A, B, ss, fp, ok, h⟩ => by
    refine ⟨A, B, ss, fp, ok, h.seq.mono fun x H1 ⟨d1, B1, ss1, fp1, ok1, a1, g1, h1⟩ => ?_⟩
    obtain ⟨d, e, h2⟩ := lift_some h1
    exact hd B1 H1 x d1 d Q ok1.sm a1 e (h2.leaf ok1)

/-! ### and, or, not, if else -/
def mNot (f : M PyData) : M PyData := m1 (fun d => (asB d).map fun b => .bool (!b)) f
theorem m_not (hf : PE X e (tM X.mg E f)) : PE X (.UnaryOp .Not e pos) (tM X.mg E (mNot f)) := PE.imp (pe_not hf) fun σ H Q ⟨A, B, ss, fp, ok, h⟩ => by
  refine ⟨A, B, ss, fp, ok, h.seq.mono fun x H1 ⟨d1, B1, ss1, fp1, ok1, a1, g1, h1⟩ => ?_⟩
  obtain ⟨d, e, h2⟩ := lift_some h1
  dsimp only at e
  cases q : asB d1 with
  | none => rw [q] at e; cases e
  | some b =>
    rw [q] at e
    cases e
    rw [asB_some q] at a1
    exact ⟨b, a1.bl_eq, h2.now ok1 _ (.bl _)⟩
def mAnd (f g : M PyData) : M PyData := M.bind (mB f) fun b => match b with
  | true => g
  | false => M.ret (.bool false)
def mOr (f g : M PyData) : M PyData := M.bind (mB f) fun b => match b with
  | true => M.ret (.bool true)
  | false => g
theorem m_and {b : Expr} {rest : List Expr} (hf : PE X e (tM X.mg E f)) (hg : PE X (.BoolOp .And (b :: rest) pos) (tM X.mg E g)) : PE X (.BoolOp .And (e :: b :: rest) pos) (tM X.mg E (mAnd f g)) := PE.imp (pe_and hf hg) fun σ H Q ⟨A, B, ss, fp, ok, h⟩ => by
  have h : Res At X.mg E A B fp σ H (M.bind (M.bind f fun d => M.lift (asB d)) _ ss) Q := h
  rw [bind_assoc] at h
  refine ⟨A, B, ss, fp, ok, h.seq.mono fun x H1 ⟨d1, B1, ss1, fp1, ok1, a1, g1, h1⟩ => ?_⟩
  cases q : asB d1 with
  | none => rw [q] at h1; exact (show False from h1).elim
  | some b =>
    rw [q] at h1
    rw [asB_some q] at a1
    refine ⟨b, a1.bl_eq, ?_⟩
    cases b with
    | true => exact iteT ⟨A, B1, ss1, fp1, ok1, h1⟩
    | false => exact iteF (Res.now (rel := At) (a := .bool false) ok1 h1 _ (.bl false))
theorem m_or {b : Expr} {rest : List Expr} (hf : PE X e (tM X.mg E f)) (hg : PE X (.BoolOp .Or (b :: rest) pos) (tM X.mg E g)) : PE X (.BoolOp .Or (e :: b :: rest) pos) (tM X.mg E (mOr f g)) := PE.imp (pe_or hf hg) fun σ H Q ⟨A, B, ss, fp, ok, h⟩ => by
  have h : Res At X.mg E A B fp σ H (M.bind (M.bind f fun d => M.lift (asB d)) _ ss) Q := h
  rw [bind_assoc] at h
  refine ⟨A, B, ss, fp, ok, h.seq.mono fun x H1 ⟨d1, B1, ss1, fp1, ok1, a1, g1, h1⟩ => ?_⟩
  cases q : asB d1 with
  | none => rw [q] at h1; exact (show False from h1).elim
  | some b =>
    rw [q] at h1
    rw [asB_some q] at a1
    refine ⟨b, a1.bl_eq, ?_⟩
    cases b with
    | true => exact iteT (Res.now (rel := At) (a := .bool true) ok1 h1 _ (.bl true))
    | false => exact iteF ⟨A, B1, ss1, fp1, ok1, h1⟩
theorem m_one {op : BoolOp} (h : PE X e (tM X.mg E f)) : PE X (.BoolOp op [e] pos) (tM X.mg E f) := pe_one h
variable {ft gt : M Bool}
def mtNot (f : M Bool) : M Bool := M.bind f fun b => M.ret (!b)
theorem m_tnot (hf : PT X e (tT X.mg E ft)) : PT X (.UnaryOp .Not e pos) (tT X.mg E (mtNot ft)) := PT.imp (pt_not hf) fun σ H Q ⟨A, B, ss, fp, ok, h⟩ => by
  refine ⟨A, B, ss, fp, ok, h.seq.mono fun x H1 ⟨d1, B1, ss1, fp1, ok1, a1, g1, h1⟩ => ?_⟩
  subst a1
  exact Res.now (rel := fun _ b c => b = c) ok1 h1 _ rfl
def mtAnd (f g : M Bool) : M Bool := M.bind f fun b => match b with
  | true => g
  | false => M.ret false
def mtOr (f g : M Bool) : M Bool := M.bind f fun b => match b with
  | true => M.ret true
  | false => g
theorem m_tand {b : Expr} {rest : List Expr} (hf : PT X e (tT X.mg E ft)) (hg : PW X (.BoolOp .And (b :: rest) pos) (tT X.mg E gt)) : PW X (.BoolOp .And (e :: b :: rest) pos) (tT X.mg E (mtAnd ft gt)) := PW.imp (pw_and hf hg) fun σ H Q ⟨A, B, ss, fp, ok, h⟩ => by
  refine ⟨A, B, ss, fp, ok, h.seq.mono fun x H1 ⟨d1, B1, ss1, fp1, ok1, a1, g1, h1⟩ => ?_⟩
  subst a1
  cases x with
  | true => exact iteT ⟨A, B1, ss1, fp1, ok1, h1⟩
  | false => exact iteF (Res.now (rel := fun _ b c => b = c) (a := false) ok1 h1 _ rfl)
theorem m_tor {b : Expr} {rest : List Expr} (hf : PT X e (tT X.mg E ft)) (hg : PW X (.BoolOp .Or (b :: rest) pos) (tT X.mg E gt)) : PW X (.BoolOp .Or (e :: b :: rest) pos) (tT X.mg E (mtOr ft gt)) := PW.imp (pw_or hf hg) fun σ H Q ⟨A, B, ss, fp, ok, h⟩ => by
  refine ⟨A, B, ss, fp, ok, h.seq.mono fun x H1 ⟨d1, B1, ss1, fp1, ok1, a1, g1, h1⟩ => ?_⟩
  subst a1
  cases x with
  | true => exact iteT (Res.now (rel := fun _ b c => b = c) (a := true) ok1 h1 _ rfl)
  | false => exact iteF ⟨A, B1, ss1, fp1, ok1, h1⟩
theorem m_tand1 (h : PT X e (tT X.mg E ft)) : PW X (.BoolOp .And [e] pos) (tT X.mg E ft) := pw_and1 h
theorem m_tor1 (h : PT X e (tT X.mg E ft)) : PW X (.BoolOp .Or [e] pos) (tT X.mg E ft) := pw_or1 h
def mIf (c : M Bool) (f g : M PyData) : M PyData := M.bind c fun b => match b with
  | true => f
  | false => g
theorem m_if {c : Expr} (hc : PT X c (tT X.mg E ft)) (hf : PE X e (tM X.mg E f)) (hg : PE X e2 (tM X.mg E g)) : PE X (.IfExp c e e2 pos) (tM X.mg E (mIf ft f g)) := PE.imp (pe_ifExp hc hf hg) fun σ H Q ⟨A, B, ss, fp, ok, h⟩ => by
  refine ⟨A, B, ss, fp, ok, h.seq.mono fun x H1 ⟨d1, B1, ss1, fp1, ok1, a1, g1, h1⟩ => ?_⟩
  subst a1
  cases x with
  | true => exact iteT ⟨A, B1, ss1, fp1, ok1, h1⟩
  | false => exact iteF ⟨A, B1, ss1, fp1, ok1, h1⟩

/-! ### lists, tuples -/
def mNil : M (List PyData) := M.ret []
def mCons (f : M PyData) (fa : M (List PyData)) : M (List PyData) := M.bind f fun x => M.bind fa fun xs => M.ret (x :: xs)
theorem m_nil : PA X [] (tA X.mg E mNil) := PA.imp pa_nil fun σ H Q ⟨A, B, ss, fp, ok, h⟩ => Res.now (rel := AtL) ok h [] .nil
theorem tCons_of {σ : L2.St} {H : Hp} {Q : List V → Hp → Prop} (h : tA X.mg E (mCons f fa) σ H Q) : tCons (tM X.mg E f) (tA X.mg E fa) σ H Q := by
  obtain ⟨A, B, ss, fp, ok, h⟩ := h
  refine ⟨A, B, ss, fp, ok, h.seq.mono fun x H1 ⟨d1, B1, ss1, fp1, ok1, a1, g1, h1⟩ => ⟨A, B1, ss1, fp1, ok1, h1.seq.mono fun xs H2 ⟨ds, B2, ss2, fp2, ok2, a2, g2, h2⟩ => ?_⟩⟩
  exact Res.now (rel := AtL) ok2 h2 (x :: xs) (.cons (a1.up g2.bb) a2)
theorem m_cons (hf : PE X e (tM X.mg E f)) (hr : PA X es (tA X.mg E fa)) (hs : starEach (e :: es) X.env = (false, eval e X.env) :: starEach es X.env := by rfl) : PA X (e :: es) (tA X.mg E (mCons f fa)) := PA.imp (pa_cons hf hr hs) fun _ _ _ h => tCons_of h
theorem m_knil : PK X [] (tA X.mg E mNil) := PK.imp pk_nil fun σ H Q ⟨A, B, ss, fp, ok, h⟩ => Res.now (rel := AtL) ok h [] .nil
theorem m_kcons {nm : Option Str} {kpos : Pos} {kws : List Keyword} (hf : PE X e (tM X.mg E f)) (hr : PK X kws (tA X.mg E fa)) : PK X (⟨nm, e, kpos⟩ :: kws) (tA X.mg E (mCons f fa)) := PK.imp (pk_cons hf hr) fun _ _ _ h => tCons_of h
def few (n : Nat) : Bool := decide (n ≤ 1000000)
theorem few_line {n : Nat} (h : few n = true) : n < sizeLine := Nat.lt_of_le_of_lt (of_decide_eq_true h) (by decide)
def mTup (fa : M (List PyData)) : M PyData := M.bind fa fun xs => M.lift (if few xs.length then some (.tuple xs) else none)
theorem m_tup {x1} (ha : PA X es (tA X.mg E fa)) : PE X (.Tuple es x1 pos) (tM X.mg E (mTup fa)) := PE.imp (pe_tup ha) fun σ H Q ⟨A, B, ss, fp, ok, h⟩ => by
  refine ⟨A, B, ss, fp, ok, h.seq.mono fun xs H1 ⟨ds, B1, ss1, fp1, ok1, a1, g1, h1⟩ => ?_⟩
  obtain ⟨d, e, h2⟩ := lift_some h1
  by_cases c : few ds.length = true
  · rw [if_pos c] at e
    cases e
    refine ⟨by rw [a1.length]; exact Nat.le_of_lt (few_line c), fun p hp => h2.leaf ok1 _ _ _ (Grow.new ok1.sm hp) (.tup upd_same (a1.up (same_new (ok1.sm.free hp))))⟩
  · rw [if_neg c] at e
    cases e
end
end Cm

/-! Mirrors: results that are owned; calls; statements. -/
namespace Cm
open PySem PySem.Spec PyProof.Rows L2 Cf
variable [LT]

/-! ### a result beside the slots -/
def cut (n : Nat) (fp : Nat → Option Addr) : Nat → Option Addr := fun i => if i < n then fp i else none
section
variable {mg : Str → Option Value} {E : XK} {A : List V} {B H B2 H2 : Hp} {σ : L2.St} {ss ss2 : List SV} {fp fp2 : Nat → Option Addr} {i : Nat} {s r : SV} {v : V} {w : Option V} {d : PyData} {ds : List PyData} {p : Addr} {xs : List V} {Q : VK}
theorem gr_cut {n : Nat} : Gr fp (cut n fp) B H B H := gr_id fun j b e => by
  unfold cut at e
  split at e
  · exact .inl ⟨j, e⟩
  · cases e
theorem Ok.pop (h : Ok A B H (σ ++ [w]) (ss ++ [s]) fp) : Ok A B H σ ss (cut ss.length fp) := by
  have hl : σ.length = ss.length := by
    have := h.len
    simp only [List.length_append, List.length_cons, List.length_nil] at this
    omega
  refine ⟨h.sm, hl, fun j t e => ?_, fun a b p ea eb => ?_, fun j hj => ?_, h.tb⟩
  · have hj := (List.getElem?_eq_some_iff.mp e).1
    have := h.sl j t (by rw [List.getElem?_append_left hj]; exact e)
    rw [List.getElem?_append_left (by omega)] at this
    unfold cut
    rw [if_pos hj]
    exact this
  · unfold cut at ea eb
    split at ea
    · split at eb
      · exact h.inj a b p ea eb
      · cases eb
    · cases ea
  · unfold cut
    rw [if_neg (by omega)]
theorem Ok.pushDat (h : Ok A B H σ ss fp) (a : At B v d) : Ok A B H (σ ++ [Option.some v]) (ss ++ [.dat d]) fp := by
  refine ⟨h.sm, by rw [List.length_append, List.length_append, h.len]; rfl, fun j t e => ?_, h.inj, fun j hj => h.out j (by rw [List.length_append] at hj; omega), h.tb⟩
  by_cases c : j < ss.length
  · rw [List.getElem?_append_left c] at e
    rw [List.getElem?_append_left (by rw [h.len]; exact c)]
    exact h.sl j t e
  · have hj := (List.getElem?_eq_some_iff.mp e).1
    rw [List.length_append, List.length_singleton] at hj
    have ej : j = ss.length := by omega
    subst ej
    rw [List.getElem?_concat_length] at e
    cases e
    rw [← h.len, List.getElem?_concat_length, h.len]
    exact ⟨h.out _ (Nat.le_refl _), v, rfl, a⟩
theorem Ok.pushOwn (h : Ok A B H σ ss fp) (hp : H p = Option.none) (a : AtL B xs ds) : Ok A B (upd H p (.lst xs)) (σ ++ [Option.some (.ref p)]) (ss ++ [.own Option.none ds]) (fset fp ss.length (Option.some p)) ∧ Gr fp (fset fp ss.length (Option.some p)) B H B (upd H p (.lst xs)) := by
  have hb : B p = Option.none := h.sm.free hp
  have nf : ∀ j, fp j ≠ Option.some p := fun j e => by
    obtain ⟨_, o, ho⟩ := h.hasO e
    rw [hp] at ho
    cases ho
  refine ⟨⟨h.sm.trans (same_new hp), by rw [List.length_append, List.length_append, h.len]; rfl, fun j t e => ?_, fun x y q ex ey => ?_, fun j hj => ?_, ⟨h.tb.tabs.ext (same_new hp), h.tb.nb⟩⟩, Gr.mk4 (Same.refl _) (fun b o _ e => same_new hp b o e) (fun _ _ _ e => e) (fun j b e => ?_) (tt_of (same_new hp))⟩
  · by_cases c : j < ss.length
    · rw [List.getElem?_append_left c] at e
      rw [List.getElem?_append_left (by rw [h.len]; exact c), fset_ne (by omega)]
      exact (h.sl j t e).grow (Same.refl _) fun q eq => ⟨(h.hasO eq).1, upd_ne fun z => nf j (by rw [← z]; exact eq)⟩
    · have hj := (List.getElem?_eq_some_iff.mp e).1
      rw [List.length_append, List.length_singleton] at hj
      have ej : j = ss.length := by omega
      subst ej
      rw [List.getElem?_concat_length] at e
      cases e
      rw [← h.len, List.getElem?_concat_length, h.len, fset_same]
      exact ⟨p, xs, rfl, rfl, hb, upd_same, a, fun k z => nomatch z⟩
  · by_cases cx : x = ss.length
    · by_cases cy : y = ss.length
      · rw [cx, cy]
      · rw [cx, fset_same] at ex
        rw [fset_ne cy] at ey
        cases ex
        exact absurd ey (nf y)
    · by_cases cy : y = ss.length
      · rw [cy, fset_same] at ey
        rw [fset_ne cx] at ex
        cases ey
        exact absurd ex (nf x)
      · rw [fset_ne cx] at ex
        rw [fset_ne cy] at ey
        exact h.inj x y q ex ey
  · rw [List.length_append, List.length_singleton] at hj
    rw [fset_ne (by omega)]
    exact h.out j (by omega)
  · by_cases c : j = ss.length
    · rw [c, fset_same] at e
      cases e
      exact .inr hp
    · rw [fset_ne c] at e
      exact .inl ⟨j, e⟩
/-- the result goes to slot i -/
theorem Ok.pushOdk {ks : List (PyData × PyData)} {ys : List (Key × V)} (h : Ok A B H σ ss fp) (hp : H p = Option.none) (a : AtK B ys ks) : Ok A B (upd H p (.dK ys)) (σ ++ [Option.some (.ref p)]) (ss ++ [.odk Option.none ks]) (fset fp ss.length (Option.some p)) ∧ Gr fp (fset fp ss.length (Option.some p)) B H B (upd H p (.dK ys)) := by
  have hb : B p = Option.none := h.sm.free hp
  have nf : ∀ j, fp j ≠ Option.some p := fun j e => by
    obtain ⟨_, o, ho⟩ := h.hasO e
    rw [hp] at ho
    cases ho
  refine ⟨⟨h.sm.trans (same_new hp), by rw [List.length_append, List.length_append, h.len]; rfl, fun j t e => ?_, fun x y q ex ey => ?_, fun j hj => ?_, ⟨h.tb.tabs.ext (same_new hp), h.tb.nb⟩⟩, Gr.mk4 (Same.refl _) (fun b o _ e => same_new hp b o e) (fun _ _ _ e => e) (fun j b e => ?_) (tt_of (same_new hp))⟩
  · by_cases c : j < ss.length
    · rw [List.getElem?_append_left c] at e
      rw [List.getElem?_append_left (by rw [h.len]; exact c), fset_ne (by omega)]
      exact (h.sl j t e).grow (Same.refl _) fun q eq => ⟨(h.hasO eq).1, upd_ne fun z => nf j (by rw [← z]; exact eq)⟩
    · have hj := (List.getElem?_eq_some_iff.mp e).1
      rw [List.length_append, List.length_singleton] at hj
      have ej : j = ss.length := by omega
      subst ej
      rw [List.getElem?_concat_length] at e
      cases e
      rw [← h.len, List.getElem?_concat_length, h.len, fset_same]
      exact ⟨p, ys, rfl, rfl, hb, upd_same, a, fun k z => nomatch z⟩
  · by_cases cx : x = ss.length
    · by_cases cy : y = ss.length
      · rw [cx, cy]
      · rw [cx, fset_same] at ex
        rw [fset_ne cy] at ey
        cases ex
        exact absurd ey (nf y)
    · by_cases cy : y = ss.length
      · rw [cy, fset_same] at ey
        rw [fset_ne cx] at ex
        cases ey
        exact absurd ex (nf x)
      · rw [fset_ne cx] at ex
        rw [fset_ne cy] at ey
        exact h.inj x y q ex ey
  · rw [List.length_append, List.length_singleton] at hj
    rw [fset_ne (by omega)]
    exact h.out j (by omega)
  · by_cases c : j = ss.length
    · rw [c, fset_same] at e
      cases e
      exact .inr hp
    · rw [fset_ne c] at e
      exact .inl ⟨j, e⟩
/-- the result goes to slot i -/
theorem Ok.move (h : Ok A B H (σ ++ [Option.some v]) (ss ++ [r]) fp) (hi : i < ss.length) : ∃ fp2, Ok A B H (σ.set i (Option.some v)) (ss.set i r) fp2 ∧ Gr fp fp2 B H B H := by
  have hl : σ.length = ss.length := by
    have := h.len
    simp only [List.length_append, List.length_cons, List.length_nil] at this
    omega
  have hr := h.sl ss.length r (by rw [List.getElem?_concat_length])
  rw [← hl, List.getElem?_concat_length, hl] at hr
  refine ⟨_, h.pop.set (t := r) (q := fp ss.length) hi hr fun j p hj e1 e2 => ?_, gr_id fun j b e => ?_⟩
  · unfold cut at e2
    split at e2
    · have := h.inj j ss.length p e2 e1
      omega
    · cases e2
  · by_cases c : j = i
    · rw [c, fset_same] at e
      exact .inl ⟨_, e⟩
    · rw [fset_ne c] at e
      unfold cut at e
      split at e
      · exact .inl ⟨_, e⟩
      · cases e
/-- what a value's outcome must lead to, the value beside the slots -/
def ResV (mg : Str → Option Value) (E : XK) (A : List V) (B : Hp) (fp : Nat → Option Addr) (σ : L2.St) (H : Hp) (o : Option (R SV)) (Q : VK) : Prop :=
  match o with
  | some (.val r ss2) => ∀ v B2 H2 fp2, Gr fp fp2 B H B2 H2 → Ok A B2 H2 (σ ++ [Option.some v]) (ss2 ++ [r]) fp2 → Q v H2
  | some (.exc c fs) => ExcW mg E fp B H c fs
  | none => False
def tV (mg : Str → Option Value) (E : XK) (f : M SV) : TE := fun σ H Q => ∃ A B ss fp, Ok A B H σ ss fp ∧ ResV mg E A B fp σ H (f ss) Q
variable {o : Option (R SV)}
theorem ResV.mono {Q' : VK} (h : ResV mg E A B fp σ H o Q) (k : ∀ v H, Q v H → Q' v H) : ResV mg E A B fp σ H o Q' := by
  unfold ResV at *
  split at h
  · exact fun v B2 H2 fp2 g ok => k v H2 (h v B2 H2 fp2 g ok)
  · exact h
  · exact h
theorem ResV.shift (g : Gr fp fp2 B H B2 H2) (h : ResV mg E A B fp σ H o Q) : ResV mg E A B2 fp2 σ H2 o Q := by
  unfold ResV at *
  split at h
  · exact fun v B3 H3 fp3 g3 ok => h v B3 H3 fp3 (g.trans g3) ok
  · exact h.shift g
  · exact h
theorem ResV.seq {α ν : Type} {rel : Hp → ν → α → Prop} {f : M α} {k : α → M SV} (h : ResV mg E A B fp σ H (M.bind f k ss) Q) :
    Res rel mg E A B fp σ H (f ss) fun v H1 => ∃ a B1 ss1 fp1, Ok A B1 H1 σ ss1 fp1 ∧ rel B1 v a ∧ Gr fp fp1 B H B1 H1 ∧ ResV mg E A B1 fp1 σ H1 (k a ss1) Q := by
  cases q : f ss with
  | none =>
    rw [show M.bind f k ss = none by unfold M.bind; rw [q]] at h
    exact h
  | some r =>
    cases r with
    | val a ss1 =>
      rw [bind_val q] at h
      exact fun v B1 H1 fp1 g ok r => ⟨a, B1, ss1, fp1, ok, r, g, h.shift g⟩
    | exc c fs =>
      rw [bind_exc q] at h
      exact h
/-- a new list -/
theorem ResV.list (ok : Ok A B H σ ss fp) (h : ResV mg E A B fp σ H (some (.val (.own Option.none ds) ss)) Q) (a : AtL B xs ds) : ∀ p, H p = Option.none → Q (.ref p) (upd H p (.lst xs)) := fun p hp => by
  obtain ⟨ok2, g⟩ := ok.pushOwn hp a
  exact h _ _ _ _ g ok2
theorem liftV_some {o : Option SV} (h : ResV mg E A B fp σ H (M.lift o ss) Q) : ∃ a, o = some a ∧ ResV mg E A B fp σ H (some (.val a ss)) Q := by
  unfold M.lift at h
  cases o with
  | none => exact h.elim
  | some a => exact ⟨a, rfl, h⟩
end
/-- the data of a result that is let stay -/
def asD : SV → Option PyData
  | .dat d => some d
  | .own _ ds => some (.list ds)
  | .odk _ ks => some (.dict ks)
  | .gone => none
  | .oth _ => none
def mFz (f : M SV) : M PyData := M.bind f fun r => M.lift (asD r)
def mDat (f : M PyData) : M SV := M.bind f fun d => M.ret (.dat d)
section
variable {X : Cx} {E : XK} {e e2 : Expr} {es : List Expr} {f g : M PyData} {fv : M SV} {fa : M (List PyData)} {pos : Pos}
theorem m_dat (h : PE X e (tM X.mg E f)) : PE X e (tV X.mg E (mDat f)) := PE.imp h fun σ H Q ⟨A, B, ss, fp, ok, h⟩ => by
  refine ⟨A, B, ss, fp, ok, h.seq.mono fun x H1 ⟨d1, B1, ss1, fp1, ok1, a1, g1, h1⟩ => ?_⟩
  exact h1 x B1 H1 fp1 Gr.refl (ok1.pushDat a1)
theorem m_fz (h : PE X e (tV X.mg E fv)) : PE X e (tM X.mg E (mFz fv)) := PE.imp (PE.lockEnd h) fun σ H Q ⟨A, B, ss, fp, ok, h⟩ => by
  refine ⟨A, B, ss, fp, ok, ?_⟩
  have h : Res At X.mg E A B fp σ H (M.bind fv (fun r => M.lift (asD r)) ss) Q := h
  cases q : fv ss with
  | none =>
    unfold M.bind at h
    rw [q] at h
    exact h
  | some r =>
    cases r with
    | exc c fs =>
      rw [bind_exc q] at h
      exact h
    | val r ss1 =>
      rw [bind_val q] at h
      intro v B2 H2 fp2 g ok2
      cases r with
      | gone => exact (show False from h).elim
      | oth t => exact (show False from h).elim
      | dat d =>
        have h : Res At X.mg E A B fp σ H (some (.val d ss1)) Q := h
        have z := ok2.sl ss1.length (.dat d) (by rw [List.getElem?_concat_length])
        obtain ⟨_, x, ex, a⟩ := z
        have hl : σ.length = ss1.length := by
          have := ok2.len
          simp only [List.length_append, List.length_cons, List.length_nil] at this
          omega
        rw [← hl, List.getElem?_concat_length] at ex
        cases ex
        exact .inl (h v B2 H2 _ (g.trans gr_cut) ok2.pop a)
      | own lb ds =>
        have h : Res At X.mg E A B fp σ H (some (.val (.list ds) ss1)) Q := h
        have hl : σ.length = ss1.length := by
          have := ok2.len
          simp only [List.length_append, List.length_cons, List.length_nil] at this
          omega
        obtain ⟨p, xs, ev, hp, ok3, g3, a3⟩ := ok2.freeze (i := ss1.length) (lb := lb) (ds := ds) (by rw [List.getElem?_concat_length])
        rw [← hl, List.getElem?_concat_length] at ev
        cases ev
        rw [show (ss1 ++ [SV.own lb ds]).set ss1.length (.dat (.list ds)) = ss1 ++ [.dat (.list ds)] by simp] at ok3
        exact .inl (h _ _ _ _ ((g.trans g3).trans gr_cut) ok3.pop a3)
      | odk lb ks =>
        have h : Res At X.mg E A B fp σ H (some (.val (.dict ks) ss1)) Q := h
        have hl : σ.length = ss1.length := by
          have := ok2.len
          simp only [List.length_append, List.length_cons, List.length_nil] at this
          omega
        obtain ⟨p, xs, ev, hp, fz⟩ := ok2.freezeD (i := ss1.length) (lb := lb) (ks := ks) (by rw [List.getElem?_concat_length])
        rw [← hl, List.getElem?_concat_length] at ev
        cases ev
        refine .inr ⟨p, _, hp, trivial, fun od => ?_⟩
        obtain ⟨ok3, g3, a3⟩ := fz od
        rw [show (ss1 ++ [SV.odk lb ks]).set ss1.length (.dat (.dict ks)) = ss1 ++ [.dat (.dict ks)] by simp] at ok3
        exact h _ _ _ _ ((g.trans g3).trans gr_cut) ok3.pop a3
/-- an own local list is handed out -/
def mMove (i : Nat) : M SV := fun ss => match ss[i]? with
  | some (.own none ds) => some (.val (.own none ds) (ss.set i .gone))
  | some (.dat d) => some (.val (.dat d) ss)
  | _ => none
theorem m_move (i : Nat) {e : Expr} (h : PE X e (tVar i)) : PE X e (tV X.mg E (mMove i)) := PE.imp h fun σ H Q ⟨A, B, ss, fp, ok, h⟩ => by
  unfold mMove at h
  split at h
  · rename_i ds e
    obtain ⟨p, xs, ep, ev, hb, hp, a, l⟩ := ok.own e
    refine ⟨.ref p, ev, ?_⟩
    have hi := (List.getElem?_eq_some_iff.mp e).1
    have ok2 := ok.drop hi
    have hl : (ss.set i SV.gone).length = ss.length := List.length_set ..
    have ok3 : Ok A B H (σ ++ [some (.ref p)]) (ss.set i .gone ++ [.own none ds]) (fset (fset fp i none) ss.length (some p)) := by
      refine ⟨ok.sm, by rw [List.length_append, List.length_append, hl, ok.len]; rfl, fun j t e2 => ?_, fun x y q ex ey => ?_, fun j hj => ?_, ok.tb⟩
      · by_cases c : j < ss.length
        · rw [List.getElem?_append_left (by rw [hl]; exact c)] at e2
          rw [List.getElem?_append_left (by rw [ok.len]; exact c), fset_ne (by omega)]
          exact ok2.sl j t e2
        · have hj := (List.getElem?_eq_some_iff.mp e2).1
          rw [List.length_append, List.length_singleton, hl] at hj
          have ej : j = ss.length := by omega
          subst ej
          rw [← hl, List.getElem?_concat_length] at e2
          cases e2
          rw [← ok.len, List.getElem?_concat_length, ok.len, fset_same]
          exact ⟨p, xs, rfl, rfl, hb, hp, a, fun k z => nomatch z⟩
      · have key : ∀ z q, fset (fset fp i none) ss.length (some p) z = some q → (z = ss.length ∧ q = p) ∨ (z ≠ ss.length ∧ z ≠ i ∧ fp z = some q) := fun z q ez => by
          by_cases c : z = ss.length
          · rw [c, fset_same] at ez
            exact .inl ⟨c, (Option.some.inj ez).symm⟩
          · rw [fset_ne c] at ez
            by_cases c2 : z = i
            · rw [c2, fset_same] at ez
              cases ez
            · rw [fset_ne c2] at ez
              exact .inr ⟨c, c2, ez⟩
        rcases key x q ex with ⟨ex1, ex2⟩ | ⟨nx1, nx2, ex3⟩
        · rcases key y q ey with ⟨ey1, ey2⟩ | ⟨ny1, ny2, ey3⟩
          · rw [ex1, ey1]
          · rw [ex2] at ey3
            exact absurd (ok.inj y i p ey3 ep) ny2
        · rcases key y q ey with ⟨ey1, ey2⟩ | ⟨ny1, ny2, ey3⟩
          · rw [ey2] at ex3
            exact absurd (ok.inj x i p ex3 ep) nx2
          · exact ok.inj x y q ex3 ey3
      · rw [List.length_append, List.length_singleton, hl] at hj
        rw [fset_ne (by omega), fset_ne (by omega)]
        exact ok.out j (by omega)
    refine h _ B H _ (gr_id fun j b e2 => .inl ?_) ok3
    by_cases c : j = ss.length
    · rw [c, fset_same] at e2
      cases e2
      exact ⟨i, ep⟩
    · rw [fset_ne c] at e2
      by_cases c2 : j = i
      · rw [c2, fset_same] at e2
        cases e2
      · rw [fset_ne c2] at e2
        exact ⟨j, e2⟩
  · rename_i d e
    obtain ⟨x, ex, a⟩ := ok.dat e
    exact ⟨x, ex, h x B H fp Gr.refl (ok.pushDat a)⟩
  · exact h.elim
def mLst (fa : M (List PyData)) : M SV := M.bind fa fun xs => M.lift (if few xs.length then some (.own none xs) else none)
theorem m_lst (ha : PA X es (tA X.mg E fa)) : PE X (.List es pos) (tV X.mg E (mLst fa)) := PE.imp (pe_lst ha) fun σ H Q ⟨A, B, ss, fp, ok, h⟩ => by
  refine ⟨A, B, ss, fp, ok, h.seq.mono fun xs H1 ⟨ds, B1, ss1, fp1, ok1, a1, g1, h1⟩ => ?_⟩
  obtain ⟨d, e, h2⟩ := liftV_some h1
  by_cases c : few ds.length = true
  · rw [if_pos c] at e
    cases e
    exact ⟨by rw [a1.length]; exact Nat.le_of_lt (few_line c), h2.list ok1 a1⟩
  · rw [if_neg c] at e
    cases e
def D2L (r : R2) (k : PyData → PyData → Option (List PyData)) : Prop := ∀ B H x y d1 d2 ds Q, Same B H → At B x d1 → At B y d2 → k d1 d2 = some ds → (∀ p xs, AtL B xs ds → H p = none → Q (.ref p) (upd H p (.lst xs))) → r x y H Q
def m2L (k : PyData → PyData → Option (List PyData)) (f g : M PyData) : M SV := M.bind f fun x => M.bind g fun y => M.lift ((k x y).map (.own none))
theorem m_opL {op : Operator} {r : R2} {k : PyData → PyData → Option (List PyData)} (ho : OpR X (binaryOp op) r) (hd : D2L r k) (hf : PE X e (tM X.mg E f)) (hg : PE X e2 (tM X.mg E g)) : PE X (.BinOp e op e2 pos) (tV X.mg E (m2L k f g)) :=
  PE.imp (pe_op ho hf hg) fun σ H Q ⟨A, B, ss, fp, ok, h⟩ => by
    refine ⟨A, B, ss, fp, ok, h.seq.mono fun x H1 ⟨d1, B1, ss1, fp1, ok1, a1, g1, h1⟩ => ⟨A, B1, ss1, fp1, ok1, h1.seq.mono fun y H2 ⟨d2, B2, ss2, fp2, ok2, a2, g2, h2⟩ => ?_⟩⟩
    obtain ⟨d, e, h3⟩ := liftV_some h2
    cases q : k d1 d2 with
    | none => rw [q] at e; cases e
    | some ds =>
      rw [q] at e
      cases e
      exact hd B2 H2 x y d1 d2 ds Q ok2.sm (a1.up g2.bb) a2 q fun p xs a hp => h3.list ok2 a p hp
/-- f(e, ..) of the built-ins, by a reading over the arguments' data -/
def DA (r : List V → Hp → VK → Prop) (k : List PyData → Option PyData) : Prop := ∀ B H xs ds d Q, Same B H → AtL B xs ds → k ds = some d → (∀ v B2 H2, Grow B H B2 H2 → At B2 v d → Q v H2) → r xs H Q
def DAL (r : List V → Hp → VK → Prop) (k : List PyData → Option (List PyData)) : Prop := ∀ B H xs ds es Q, Same B H → AtL B xs ds → k ds = some es → (∀ p ys, AtL B ys es → H p = none → Q (.ref p) (upd H p (.lst ys))) → r xs H Q
def mA (k : List PyData → Option PyData) (fa : M (List PyData)) : M PyData := M.bind fa fun xs => M.lift (k xs)
def mAL (k : List PyData → Option (List PyData)) (fa : M (List PyData)) : M SV := M.bind fa fun xs => M.lift ((k xs).map (.own none))
theorem m_appl {t : TA} {r : List V → Hp → VK → Prop} {k : List PyData → Option PyData} (hd : DA r k) (h : PE X e (fun σ H Q => t σ H fun vs H1 => r vs H1 Q)) (ht : t = tA X.mg E fa) : PE X e (tM X.mg E (mA k fa)) := by
  subst ht
  refine PE.imp h fun σ H Q ⟨A, B, ss, fp, ok, h⟩ => ?_
  refine ⟨A, B, ss, fp, ok, h.seq.mono fun xs H1 ⟨ds, B1, ss1, fp1, ok1, a1, g1, h1⟩ => ?_⟩
  obtain ⟨d, e, h2⟩ := lift_some h1
  exact hd B1 H1 xs ds d Q ok1.sm a1 e (h2.leaf ok1)
theorem m_applL {t : TA} {r : List V → Hp → VK → Prop} {k : List PyData → Option (List PyData)} (hd : DAL r k) (h : PE X e (fun σ H Q => t σ H fun vs H1 => r vs H1 Q)) (ht : t = tA X.mg E fa) : PE X e (tV X.mg E (mAL k fa)) := by
  subst ht
  refine PE.imp h fun σ H Q ⟨A, B, ss, fp, ok, h⟩ => ?_
  refine ⟨A, B, ss, fp, ok, h.seq.mono fun xs H1 ⟨ds, B1, ss1, fp1, ok1, a1, g1, h1⟩ => ?_⟩
  obtain ⟨d, e, h2⟩ := liftV_some h1
  cases q : k ds with
  | none => rw [q] at e; cases e
  | some es =>
    rw [q] at e
    cases e
    exact hd B1 H1 xs ds es Q ok1.sm a1 q fun p ys a hp => h2.list ok1 a p hp
end
end Cm

/-! Mirrors: calls of defs, statements, the def itself. -/
namespace Cm
open PySem PySem.Spec PyProof.Rows L2 Cf
variable [LT]

/-- what a def may hand out -/
def outR : SV → Option SV
  | .own (some _) _ => none
  | .odk (some _) _ => none
  | s => some s
section
variable {mg : Str → Option Value} {E : XK} {A A' : List V} {B H B2 H2 : Hp} {σ : L2.St} {ss ss2 : List SV} {fp fp2 : Nat → Option Addr} {i : Nat} {s r : SV} {v : V} {w : Option V} {d : PyData} {ds : List PyData} {p : Addr} {xs vs : List V} {Q : VK} {q : Option Addr}
theorem Ok.push (h : Ok A B H σ ss fp) (hs : SlotOk A B H w r q) (hq : ∀ j p, q = some p → fp j ≠ some p) : Ok A B H (σ ++ [w]) (ss ++ [r]) (fset fp ss.length q) := by
  refine ⟨h.sm, by rw [List.length_append, List.length_append, h.len]; rfl, fun j t e => ?_, fun x y z ex ey => ?_, fun j hj => ?_, h.tb⟩
  · by_cases c : j < ss.length
    · rw [List.getElem?_append_left c] at e
      rw [List.getElem?_append_left (by rw [h.len]; exact c), fset_ne (by omega)]
      exact h.sl j t e
    · have hj := (List.getElem?_eq_some_iff.mp e).1
      rw [List.length_append, List.length_singleton] at hj
      have ej : j = ss.length := by omega
      subst ej
      rw [List.getElem?_concat_length] at e
      cases e
      rw [← h.len, List.getElem?_concat_length, h.len, fset_same]
      exact hs
  · by_cases cx : x = ss.length
    · by_cases cy : y = ss.length
      · rw [cx, cy]
      · rw [cx, fset_same] at ex
        rw [fset_ne cy] at ey
        exact absurd ey (hq y z ex)
    · by_cases cy : y = ss.length
      · rw [cy, fset_same] at ey
        rw [fset_ne cx] at ex
        exact absurd ex (hq x z ey)
      · rw [fset_ne cx] at ex
        rw [fset_ne cy] at ey
        exact h.inj x y z ex ey
  · rw [List.length_append, List.length_singleton] at hj
    rw [fset_ne (by omega)]
    exact h.out j (by omega)
theorem SlotOk.out {A A' : List V} (h : SlotOk A B H w r q) {r' : SV} (o : outR r = some r') : SlotOk A' B H w r' q := by
  cases r with
  | gone => cases o; exact h
  | dat d => cases o; exact h
  | oth t => cases o; exact h
  | own lb ds =>
    cases lb with
    | some k => cases o
    | none =>
      cases o
      obtain ⟨p, xs, e1, ev, hb, hp, a, _⟩ := h
      exact ⟨p, xs, e1, ev, hb, hp, a, fun k z => nomatch z⟩
  | odk lb ks =>
    cases lb with
    | some k => cases o
    | none =>
      cases o
      obtain ⟨p, xs, e1, ev, hb, hp, a, _⟩ := h
      exact ⟨p, xs, e1, ev, hb, hp, a, fun k z => nomatch z⟩
/-- arguments that are data -/
theorem ok_args (s : Same B H) (tb : TbOk B H) (a : AtL B vs ds) : Ok A B H (vs.map some) (ds.map .dat) noFp := by
  refine ⟨s, by rw [List.length_map, List.length_map, a.length], fun i t e => ?_, fun i j p e => (nomatch e), fun _ _ => rfl, tb⟩
  rw [List.getElem?_map] at e
  cases q : ds[i]? with
  | none => rw [q] at e; cases e
  | some d =>
    rw [q] at e
    cases e
    obtain ⟨v, ev, av⟩ := a.get q
    exact ⟨rfl, v, by rw [List.getElem?_map, ev]; rfl, av⟩
end
/-- a def's promise, from its mirror -/
def spM (n : Nat) (mg : Str → Option Value) (F : M SV) : Sp := fun vs H Q E => vs.length = n ∧ ∃ B ss fp, Ok vs B H (vs.map some) ss fp ∧ ResV mg E vs B fp (vs.map some) H (F ss) Q
/-- f(e, ..), all arguments data -/
def mCallD (n : Nat) (F : M SV) (ds : List PyData) : M SV := fun ss => if ds.length = n then match F (ds.map .dat) with
  | some (.val r _) => match outR r with
    | some r' => some (.val r' ss)
    | none => none
  | some (.exc c fs) => some (.exc c fs)
  | none => none
  else none
def mCall (n : Nat) (F : M SV) (fa : M (List PyData)) : M SV := M.bind fa (mCallD n F)
section
variable {mg : Str → Option Value} {E : XK} {A : List V} {B H : Hp} {σ : L2.St} {ss : List SV} {fp : Nat → Option Addr} {ds : List PyData} {vs : List V} {Q : VK} {n : Nat} {F : M SV}
theorem call_data (ok : Ok A B H σ ss fp) (a : AtL B vs ds) (h : ResV mg E A B fp σ H (mCallD n F ds ss) Q) : spM n mg F vs H Q E := by
  unfold mCallD at h
  split at h
  · rename_i hn
    refine ⟨by rw [a.length]; exact hn, B, _, _, ok_args ok.sm ok.tb a, ?_⟩
    cases q : F (ds.map .dat) with
    | none => rw [q] at h; exact h
    | some r =>
      cases r with
      | exc c fs =>
        rw [q] at h
        intro C dv B2 H2 e g s ea
        refine h C dv B2 H2 e (g.sub (fun b n i z => nomatch z) fun i b z => nomatch z) s ea
      | val r css =>
        rw [q] at h
        cases o : outR r with
        | none => dsimp only at h; rw [o] at h; exact (show False from h).elim
        | some r' =>
          dsimp only at h
          rw [o] at h
          have h : ResV mg E A B fp σ H (some (.val r' ss)) Q := h
          intro v B2 H2 fp2 g ok2
          have hl : (vs.map some).length = css.length := by
            have := ok2.len
            simp only [List.length_append, List.length_cons, List.length_nil] at this
            omega
          have z := ok2.sl css.length r (by rw [List.getElem?_concat_length])
          rw [← hl, List.getElem?_concat_length, hl] at z
          have okc : Ok A B2 H2 σ ss fp := ok.growT g.bb ok2.sm (fun b o e n => g.hh0 b o (fun i z => nomatch z) e n) (fun b o e n z => g.fr0 b o (fun i z => nomatch z) e n z) ok2.tb
          have nw : ∀ j p, fp2 css.length = some p → fp j ≠ some p := fun j p e1 e2 => by
            obtain ⟨_, o, ho, nto⟩ := ok.hasO2 e2
            rcases g.nw _ _ e1 with ⟨k, y⟩ | y
            · cases y
            · exact y.no ho nto.1
          refine h v B2 H2 _ (g.sub (fun b n i z => nomatch z) fun j b e => ?_) (okc.push (z.out o) nw)
          by_cases c : j = ss.length
          · rw [c, fset_same] at e
            rcases g.nw _ _ e with ⟨k, y⟩ | y
            · cases y
            · exact .inr y
          · rw [fset_ne c] at e
            exact .inl ⟨j, e⟩
  · exact h.elim
end
section
variable {X : Cx} {E : XK} {lev n : Nat} {f : Addr} {fd : FuncData} {ps ks : List Str} {F : M SV} {x : Str} {p pos : Pos} {e : Expr} {es : List Expr} {kws : List Keyword} {fa : M (List PyData)}
theorem m_call (Fn : FnG X.prog X.w X.K X.mg X.base (L2.CX X.prog X.w) lev f fd ps (spM n X.mg F)) (hc : Calm X.A) (hr : Room lev X.A) (hg : Gl X x) (hm : X.mg x = some (.ref f)) (hk : PySem.W.keepIn X.K (.ref f) = true) (hb : Binds X.K fd ps []) (hx : Passes (L2.CX X.prog X.w) X E)
    (ha : PA X (e :: es) (tA X.mg E fa)) (hdb : (x == ("__debug__" : Str)) = false := by decide) (he : starEach (e :: es) X.env = (false, eval e X.env) :: starEach es X.env := by rfl) (hpl : (backTo pos (starEach es X.env)).any (·.1) = false := by rfl) :
    PE X (.Call (.Name x p) (e :: es) [] pos) (tV X.mg E (mCall n F fa)) :=
  PE.imp (pg_call Fn hc hr hg hm hk hb hx ha hdb he hpl) fun σ H Q ⟨A, B, ss, fp, ok, h⟩ => by
    refine ⟨A, B, ss, fp, ok, h.seq.mono fun vs H1 ⟨ds, B1, ss1, fp1, ok1, a1, g1, h1⟩ => ?_⟩
    show spM n X.mg F (vs ++ []) H1 Q E
    rw [List.append_nil]
    exact call_data ok1 a1 h1
theorem m_call0 (Fn : FnG X.prog X.w X.K X.mg X.base (L2.CX X.prog X.w) lev f fd ps (spM n X.mg F)) (hc : Calm X.A) (hr : Room lev X.A) (hg : Gl X x) (hm : X.mg x = some (.ref f)) (hk : PySem.W.keepIn X.K (.ref f) = true) (hb : Binds X.K fd ps []) (hx : Passes (L2.CX X.prog X.w) X E)
    (hdb : (x == ("__debug__" : Str)) = false := by decide) : PE X (.Call (.Name x p) [] [] pos) (tV X.mg E (mCall n F mNil)) :=
  PE.imp (pg_call0 Fn hc hr hg hm hk hb hx hdb) fun σ H Q ⟨A, B, ss, fp, ok, h⟩ => by
    show spM n X.mg F ([] ++ []) H Q E
    exact call_data (ds := []) ok .nil h
/-- f(k = e, ..) -/
theorem m_callK {g : List Value → List Value} {gV : List V → List V} (gD : List PyData → List PyData) (Fn : FnG X.prog X.w X.K X.mg X.base (L2.CX X.prog X.w) lev f fd ps (spM n X.mg F)) (hc : Calm X.A) (hr : Room lev X.A) (hg : Gl X x) (hm : X.mg x = some (.ref f)) (hk : PySem.W.keepIn X.K (.ref f) = true) (hb : KBindsE X.K fd ps ks g gV) (hx : Passes (L2.CX X.prog X.w) X E)
    (hperm : ∀ B zs ds, AtL B zs ds → AtL B (gV zs) (gD ds))
    (hkw : PK X kws (tA X.mg E fa)) (hall : (backToKw pos (keywordEach kws X.env)).all (·.1.isSome) = true := by rfl) (hks : (backToKw pos (keywordEach kws X.env)).filterMap (·.1) = ks := by rfl) (hdb : (x == ("__debug__" : Str)) = false := by decide)
    (hpl : ((backTo pos (starEach [] X.env)).any (·.1) || (backToKw pos (keywordEach kws X.env)).any (·.1.isNone)) = false := by rfl) :
    PE X (.Call (.Name x p) [] kws pos) (tV X.mg E (M.bind fa fun ds => mCallD n F (gD ds))) :=
  PE.imp (pg_callK Fn hc hr hg hm hk hb hx hkw hall hks hdb hpl) fun σ H Q ⟨A, B, ss, fp, ok, h⟩ => by
    refine ⟨A, B, ss, fp, ok, h.seq.mono fun vs H1 ⟨ds, B1, ss1, fp1, ok1, a1, g1, h1⟩ => ?_⟩
    exact call_data ok1 (hperm _ _ _ a1) h1
end

/-! ### one argument is lent -/
inductive AtA (w : V) (B : Hp) : List V → List (Option PyData) → Prop
  | nil : AtA w B [] []
  | dat {v : V} {d : PyData} {vs : List V} {as : List (Option PyData)} : At B v d → AtA w B vs as → AtA w B (v :: vs) (some d :: as)
  | bor {vs : List V} {as : List (Option PyData)} : AtA w B vs as → AtA w B (w :: vs) (none :: as)
theorem AtA.up {w : V} {B B2 : Hp} (s : Same B B2) : ∀ {vs : List V} {as : List (Option PyData)}, AtA w B vs as → AtA w B2 vs as
  | _, _, .nil => .nil
  | _, _, .dat a r => .dat (a.up s) (AtA.up s r)
  | _, _, .bor r => .bor (AtA.up s r)
theorem AtA.length {w : V} {B : Hp} : ∀ {vs : List V} {as : List (Option PyData)}, AtA w B vs as → vs.length = as.length
  | _, _, .nil => rfl
  | _, _, .dat a r => by rw [List.length_cons, List.length_cons, AtA.length r]
  | _, _, .bor r => by rw [List.length_cons, List.length_cons, AtA.length r]
theorem AtA.get {w : V} {B : Hp} : ∀ {vs : List V} {as : List (Option PyData)} {j : Nat} {a : Option PyData}, AtA w B vs as → as[j]? = some a → ∃ v, vs[j]? = some v ∧ match a with | some d => At B v d | none => v = w
  | _, _, j, _, .nil, e => by simp at e
  | _, _, 0, _, .dat a r, e => by
    simp at e
    subst e
    exact ⟨_, rfl, a⟩
  | _, _, 0, _, .bor r, e => by
    simp at e
    subst e
    exact ⟨_, rfl, rfl⟩
  | _, _, j + 1, _, .dat a r, e => by
    obtain ⟨v, h1, h2⟩ := AtA.get (j := j) r (by simpa using e)
    exact ⟨v, by simpa using h1, h2⟩
  | _, _, j + 1, _, .bor r, e => by
    obtain ⟨v, h1, h2⟩ := AtA.get (j := j) r (by simpa using e)
    exact ⟨v, by simpa using h1, h2⟩
/-- the arguments' reading, slot i lent -/
def tAB (mg : Str → Option Value) (E : XK) (i : Nat) (f : M (List (Option PyData))) : TA := fun σ H Q => ∃ p, σ[i]? = some (some (.ref p)) ∧ tR (AtA (.ref p)) mg E f σ H Q
def aNil : M (List (Option PyData)) := M.ret []
def aCons (f : M PyData) (fa : M (List (Option PyData))) : M (List (Option PyData)) := M.bind f fun x => M.bind fa fun xs => M.ret (some x :: xs)
def aBor (fa : M (List (Option PyData))) : M (List (Option PyData)) := M.bind fa fun xs => M.ret (none :: xs)
section
variable {X : Cx} {E : XK} {e : Expr} {es : List Expr} {f : M PyData} {fa : M (List (Option PyData))} {i : Nat}
theorem a_nil : PA X [] (tAB X.mg E i aNil) := PA.imp pa_nil fun σ H Q ⟨p, _, A, B, ss, fp, ok, h⟩ => Res.now (rel := AtA (.ref p)) ok h [] .nil
theorem a_cons (hf : PE X e (tM X.mg E f)) (hr : PA X es (tAB X.mg E i fa)) (hs : starEach (e :: es) X.env = (false, eval e X.env) :: starEach es X.env := by rfl) : PA X (e :: es) (tAB X.mg E i (aCons f fa)) := PA.imp (pa_cons hf hr hs) fun σ H Q ⟨p, ep, A, B, ss, fp, ok, h⟩ => by
  refine ⟨A, B, ss, fp, ok, (Res.seq (rel := At) h).mono fun x H1 ⟨d1, B1, ss1, fp1, ok1, a1, g1, h1⟩ => ⟨p, ep, A, B1, ss1, fp1, ok1, (Res.seq (rel := AtA (.ref p)) h1).mono fun xs H2 ⟨ds, B2, ss2, fp2, ok2, a2, g2, h2⟩ => ?_⟩⟩
  exact Res.now (rel := AtA (.ref p)) ok2 h2 (x :: xs) (.dat (a1.up g2.bb) a2)
theorem a_bor (hf : PE X e (tVar i)) (hr : PA X es (tAB X.mg E i fa)) (hs : starEach (e :: es) X.env = (false, eval e X.env) :: starEach es X.env := by rfl) : PA X (e :: es) (tAB X.mg E i (aBor fa)) := PA.imp (pa_cons hf hr hs) fun σ H Q ⟨p, ep, A, B, ss, fp, ok, h⟩ => by
  refine ⟨.ref p, ep, p, ep, A, B, ss, fp, ok, (Res.seq (rel := AtA (.ref p)) h).mono fun xs H2 ⟨ds, B2, ss2, fp2, ok2, a2, g2, h2⟩ => ?_⟩
  exact Res.now (rel := AtA (.ref p)) ok2 h2 (.ref p :: xs) (.bor a2)
end
/-- the lent slot when the call is over -/
def back (lb : Option Nat) : Option SV → SV
  | some (.own (some _) ds) => .own lb ds
  | some (.odk (some _) ks) => .odk lb ks
  | _ => .gone
def lendArgs (k : Nat) (ds : List PyData) (as : List (Option PyData)) : List SV := as.mapIdx fun j a => match a with
  | some d => .dat d
  | none => if j = k then .own (some k) ds else .gone
def lendD (k : Nat) (ks : List (PyData × PyData)) (as : List (Option PyData)) : List SV := as.mapIdx fun j a => match a with
  | some d => .dat d
  | none => if j = k then .odk (some k) ks else .gone
def lentAt (as : List (Option PyData)) (k : Nat) : Bool := match as[k]? with
  | some none => true
  | _ => false
theorem lentAt_eq {as : List (Option PyData)} {k : Nat} (h : lentAt as k = true) : as[k]? = some none := by
  unfold lentAt at h
  split at h
  · assumption
  · cases h
def mCallBD (n : Nat) (F : M SV) (k i : Nat) (as : List (Option PyData)) : M SV := fun ss => if as.length = n ∧ lentAt as k = true then match ss[i]? with
  | some (.own lb ds) => match F (lendArgs k ds as) with
    | some (.val r css) => match outR r with
      | some r' => some (.val r' (ss.set i (back lb (css[k]?))))
      | none => none
    | some (.exc c fs) => some (.exc c fs)
    | none => none
  | some (.odk lb ks) => match F (lendD k ks as) with
    | some (.val r css) => match outR r with
      | some r' => some (.val r' (ss.set i (back lb (css[k]?))))
      | none => none
    | some (.exc c fs) => some (.exc c fs)
    | none => none
  | _ => none
  else none
def mCallB (n : Nat) (F : M SV) (k i : Nat) (fa : M (List (Option PyData))) : M SV := fun ss => match ss[i]? with
  | some (.own _ _) => M.bind fa (mCallBD n F k i) ss
  | some (.odk _ _) => M.bind fa (mCallBD n F k i) ss
  | _ => none
section
variable {mg : Str → Option Value} {E : XK} {A : List V} {B H : Hp} {σ : L2.St} {ss : List SV} {fp : Nat → Option Addr} {as : List (Option PyData)} {vs : List V} {Q : VK} {n k i : Nat} {F : M SV} {p : Addr}
theorem call_lent (ok : Ok A B H σ ss fp) (ep : σ[i]? = some (some (.ref p))) (a : AtA (.ref p) B vs as) (h : ResV mg E A B fp σ H (mCallBD n F k i as ss) Q) : spM n mg F vs H Q E := by
  unfold mCallBD at h
  split at h
  · rename_i hc
    obtain ⟨hn, hk⟩ := hc
    have hk := lentAt_eq hk
    split at h
    · rename_i lb ds es
      obtain ⟨p', xs, efp, eσ, hb, hp, al, hlb⟩ := ok.own es
      rw [ep] at eσ
      cases eσ
      obtain ⟨wk, ewk, rk⟩ := a.get hk
      subst rk
      have hkn := (List.getElem?_eq_some_iff.mp hk).1
      have ok1 : Ok vs B H (vs.map some) (lendArgs k ds as) (fset noFp k (some p)) := by
        refine ⟨ok.sm, by rw [List.length_map]; unfold lendArgs; rw [List.length_mapIdx, a.length], fun j t e => ?_, fun x y z ex ey => ?_, fun j hj => ?_, ok.tb⟩
        · unfold lendArgs at e
          rw [List.getElem?_mapIdx] at e
          cases q : as[j]? with
          | none => rw [q] at e; cases e
          | some b =>
            rw [q] at e
            have e : some _ = some t := e
            obtain ⟨v, ev, rv⟩ := a.get q
            cases b with
            | some d =>
              cases e
              have jk : j ≠ k := fun z => by
                rw [z, hk] at q
                cases q
              rw [fset_ne jk]
              exact ⟨rfl, v, by rw [List.getElem?_map, ev]; rfl, rv⟩
            | none =>
              by_cases c : j = k
              · subst c
                rw [if_pos rfl] at e
                cases e
                rw [fset_same]
                exact ⟨p, xs, rfl, by rw [List.getElem?_map, ewk]; rfl, hb, hp, al, fun m hm => by cases hm; exact ewk⟩
              · rw [if_neg c] at e
                cases e
                rw [fset_ne c]
                exact rfl
        · by_cases cx : x = k
          · by_cases cy : y = k
            · rw [cx, cy]
            · rw [fset_ne cy] at ey
              cases ey
          · rw [fset_ne cx] at ex
            cases ex
        · unfold lendArgs at hj
          rw [List.length_mapIdx] at hj
          rw [fset_ne (by omega)]
          rfl
      refine ⟨by rw [a.length]; exact hn, B, _, _, ok1, ?_⟩
      have sub : ∀ {b : Addr}, (∀ j, fp j ≠ some b) → ∀ j, fset noFp k (some p) j ≠ some b := fun {b} nb j e => by
        by_cases c : j = k
        · rw [c, fset_same] at e
          cases e
          exact nb i efp
        · rw [fset_ne c] at e
          cases e
      cases q : F (lendArgs k ds as) with
      | none => rw [q] at h; exact h
      | some r =>
        cases r with
        | exc c fs =>
          rw [q] at h
          intro C dv B2 H2 e g s ea
          exact h C dv B2 H2 e (g.sub (fun b nb => sub nb) fun i b z => nomatch z) s ea
        | val r css =>
          rw [q] at h
          cases o : outR r with
          | none => dsimp only at h; rw [o] at h; exact (show False from h).elim
          | some r' =>
            dsimp only at h
            rw [o] at h
            have h : ResV mg E A B fp σ H (some (.val r' (ss.set i (back lb (css[k]?))))) Q := h
            intro v B2 H2 fp2 g ok2
            have hl : (vs.map some).length = css.length := by
              have := ok2.len
              simp only [List.length_append, List.length_cons, List.length_nil] at this
              omega
            have z := ok2.sl css.length r (by rw [List.getElem?_concat_length])
            rw [← hl, List.getElem?_concat_length, hl] at z
            have hi := (List.getElem?_eq_some_iff.mp es).1
            have hi2 : i < σ.length := by rw [ok.len]; exact hi
            have hkc : k < css.length := by
              rw [List.length_map, a.length] at hl
              omega
            -- the other slots
            have oth : ∀ j t, j ≠ i → ss[j]? = some t → SlotOk A B2 H2 (σ[j]?.join) t (fp j) := fun j t ji e => (ok.sl j t e).grow g.bb fun r er => by
              obtain ⟨hb2, o2, ho2, nt2⟩ := ok.hasO2 er
              have nr : ∀ x, fset noFp k (some p) x ≠ some r := fun x ex => by
                by_cases c : x = k
                · rw [c, fset_same] at ex
                  cases ex
                  exact ji (ok.inj j i _ er efp)
                · rw [fset_ne c] at ex
                  cases ex
              exact ⟨g.fr r nr ho2 hb2 nt2.1, by rw [ho2]; exact g.hh0 r o2 nr ho2 nt2.1⟩
            -- the lent one
            have lent : ∃ q, SlotOk A B2 H2 (σ[i]?.join) (back lb (css[k]?)) q ∧ (q = none ∨ (q = some p ∧ fp2 k = some p)) := by
              cases qc : css[k]? with
              | none => exact ⟨none, rfl, .inl rfl⟩
              | some t =>
                cases t with
                | gone => exact ⟨none, rfl, .inl rfl⟩
                | dat d => exact ⟨none, rfl, .inl rfl⟩
                | oth t => exact ⟨none, rfl, .inl rfl⟩
                | own l2 ds2 =>
                  cases l2 with
                  | none => exact ⟨none, rfl, .inl rfl⟩
                  | some m =>
                    have y := ok2.sl k (.own (some m) ds2) (by rw [List.getElem?_append_left hkc]; exact qc)
                    obtain ⟨p2, xs2, e1, ev2, hb2, hp2, a2, l⟩ := y
                    rw [List.getElem?_append_left (by rw [hl]; exact hkc), List.getElem?_map, ewk] at ev2
                    cases ev2
                    exact ⟨some p, ⟨p, xs2, rfl, by rw [ep]; rfl, hb2, hp2, a2, hlb⟩, .inr ⟨rfl, e1⟩⟩
                | odk l2 ks2 =>
                  cases l2 with
                  | none => exact ⟨none, rfl, .inl rfl⟩
                  | some m =>
                    have y := ok2.sl k (.odk (some m) ks2) (by rw [List.getElem?_append_left hkc]; exact qc)
                    obtain ⟨p2, xs2, e1, ev2, hb2, hp2, a2, l⟩ := y
                    rw [List.getElem?_append_left (by rw [hl]; exact hkc), List.getElem?_map, ewk] at ev2
                    cases ev2
                    exact ⟨some p, ⟨p, xs2, rfl, by rw [ep]; rfl, hb2, hp2, a2, hlb⟩, .inr ⟨rfl, e1⟩⟩
            obtain ⟨q, hq, hq2⟩ := lent
            have okc : Ok A B2 H2 σ (ss.set i (back lb (css[k]?))) (fset fp i q) := by
              refine ⟨ok2.sm, by rw [List.length_set]; exact ok.len, fun j t e => ?_, fun x y r ex ey => ?_, fun j hj => ?_, ok2.tb⟩
              · by_cases c : j = i
                · subst c
                  rw [List.getElem?_set_self hi] at e
                  cases e
                  rw [fset_same]
                  exact hq
                · rw [List.getElem?_set_ne (Ne.symm c)] at e
                  rw [fset_ne c]
                  exact oth j t c e
              · have back' : ∀ x, fset fp i q x = some r → fp x = some r := fun x ex => by
                  by_cases c : x = i
                  · subst c
                    rw [fset_same] at ex
                    rcases hq2 with z | ⟨z, _⟩
                    · rw [z] at ex; cases ex
                    · rw [z] at ex
                      cases ex
                      exact efp
                  · rw [fset_ne c] at ex
                    exact ex
                exact ok.inj x y r (back' x ex) (back' y ey)
              · rw [List.length_set] at hj
                rw [fset_ne (by omega)]
                exact ok.out j hj
            have nw : ∀ j r, fp2 css.length = some r → fset fp i q j ≠ some r := fun j r e1 e2 => by
              have fpj : fp j = some r ∧ (j = i → q = some r) := by
                by_cases c : j = i
                · subst c
                  rw [fset_same] at e2
                  rcases hq2 with z | ⟨z, _⟩
                  · rw [z] at e2; cases e2
                  · rw [z] at e2
                    cases e2
                    exact ⟨efp, fun _ => z⟩
                · rw [fset_ne c] at e2
                  exact ⟨e2, fun z => absurd z c⟩
              obtain ⟨_, o2, ho2, nto⟩ := ok.hasO2 fpj.1
              rcases g.nw _ _ e1 with ⟨x, y⟩ | y
              · by_cases c : x = k
                · rw [c, fset_same] at y
                  cases y
                  have ji := ok.inj j i _ fpj.1 efp
                  rcases hq2 with z2 | ⟨_, z2⟩
                  · rw [fpj.2 ji] at z2; cases z2
                  · have := ok2.inj _ _ _ e1 z2
                    omega
                · rw [fset_ne c] at y
                  cases y
              · exact y.no ho2 nto.1
            have pushed := okc.push (z.out o) nw
            refine h v B2 H2 _ (g.sub (fun b nb => sub nb) fun j b e => ?_) pushed
            by_cases c : j = (ss.set i (back lb (css[k]?))).length
            · rw [c, fset_same] at e
              rcases g.nw _ _ e with ⟨x, y⟩ | y
              · by_cases c2 : x = k
                · rw [c2, fset_same] at y
                  cases y
                  exact .inl ⟨i, efp⟩
                · rw [fset_ne c2] at y
                  cases y
              · exact .inr y
            · rw [fset_ne c] at e
              by_cases c2 : j = i
              · rw [c2, fset_same] at e
                rcases hq2 with z | ⟨z, _⟩
                · rw [z] at e; cases e
                · rw [z] at e
                  cases e
                  exact .inl ⟨i, efp⟩
              · rw [fset_ne c2] at e
                exact .inl ⟨j, e⟩
    · rename_i lb ks es
      obtain ⟨p', xs, efp, eσ, hb, hp, al, hlb⟩ := ok.odk es
      rw [ep] at eσ
      cases eσ
      obtain ⟨wk, ewk, rk⟩ := a.get hk
      subst rk
      have hkn := (List.getElem?_eq_some_iff.mp hk).1
      have ok1 : Ok vs B H (vs.map some) (lendD k ks as) (fset noFp k (some p)) := by
        refine ⟨ok.sm, by rw [List.length_map]; unfold lendD; rw [List.length_mapIdx, a.length], fun j t e => ?_, fun x y z ex ey => ?_, fun j hj => ?_, ok.tb⟩
        · unfold lendD at e
          rw [List.getElem?_mapIdx] at e
          cases q : as[j]? with
          | none => rw [q] at e; cases e
          | some b =>
            rw [q] at e
            have e : some _ = some t := e
            obtain ⟨v, ev, rv⟩ := a.get q
            cases b with
            | some d =>
              cases e
              have jk : j ≠ k := fun z => by
                rw [z, hk] at q
                cases q
              rw [fset_ne jk]
              exact ⟨rfl, v, by rw [List.getElem?_map, ev]; rfl, rv⟩
            | none =>
              by_cases c : j = k
              · subst c
                rw [if_pos rfl] at e
                cases e
                rw [fset_same]
                exact ⟨p, xs, rfl, by rw [List.getElem?_map, ewk]; rfl, hb, hp, al, fun m hm => by cases hm; exact ewk⟩
              · rw [if_neg c] at e
                cases e
                rw [fset_ne c]
                exact rfl
        · by_cases cx : x = k
          · by_cases cy : y = k
            · rw [cx, cy]
            · rw [fset_ne cy] at ey
              cases ey
          · rw [fset_ne cx] at ex
            cases ex
        · unfold lendD at hj
          rw [List.length_mapIdx] at hj
          rw [fset_ne (by omega)]
          rfl
      refine ⟨by rw [a.length]; exact hn, B, _, _, ok1, ?_⟩
      have sub : ∀ {b : Addr}, (∀ j, fp j ≠ some b) → ∀ j, fset noFp k (some p) j ≠ some b := fun {b} nb j e => by
        by_cases c : j = k
        · rw [c, fset_same] at e
          cases e
          exact nb i efp
        · rw [fset_ne c] at e
          cases e
      cases q : F (lendD k ks as) with
      | none => rw [q] at h; exact h
      | some r =>
        cases r with
        | exc c fs =>
          rw [q] at h
          intro C dv B2 H2 e g s ea
          exact h C dv B2 H2 e (g.sub (fun b nb => sub nb) fun i b z => nomatch z) s ea
        | val r css =>
          rw [q] at h
          cases o : outR r with
          | none => dsimp only at h; rw [o] at h; exact (show False from h).elim
          | some r' =>
            dsimp only at h
            rw [o] at h
            have h : ResV mg E A B fp σ H (some (.val r' (ss.set i (back lb (css[k]?))))) Q := h
            intro v B2 H2 fp2 g ok2
            have hl : (vs.map some).length = css.length := by
              have := ok2.len
              simp only [List.length_append, List.length_cons, List.length_nil] at this
              omega
            have z := ok2.sl css.length r (by rw [List.getElem?_concat_length])
            rw [← hl, List.getElem?_concat_length, hl] at z
            have hi := (List.getElem?_eq_some_iff.mp es).1
            have hi2 : i < σ.length := by rw [ok.len]; exact hi
            have hkc : k < css.length := by
              rw [List.length_map, a.length] at hl
              omega
            -- the other slots
            have oth : ∀ j t, j ≠ i → ss[j]? = some t → SlotOk A B2 H2 (σ[j]?.join) t (fp j) := fun j t ji e => (ok.sl j t e).grow g.bb fun r er => by
              obtain ⟨hb2, o2, ho2, nt2⟩ := ok.hasO2 er
              have nr : ∀ x, fset noFp k (some p) x ≠ some r := fun x ex => by
                by_cases c : x = k
                · rw [c, fset_same] at ex
                  cases ex
                  exact ji (ok.inj j i _ er efp)
                · rw [fset_ne c] at ex
                  cases ex
              exact ⟨g.fr r nr ho2 hb2 nt2.1, by rw [ho2]; exact g.hh0 r o2 nr ho2 nt2.1⟩
            -- the lent one
            have lent : ∃ q, SlotOk A B2 H2 (σ[i]?.join) (back lb (css[k]?)) q ∧ (q = none ∨ (q = some p ∧ fp2 k = some p)) := by
              cases qc : css[k]? with
              | none => exact ⟨none, rfl, .inl rfl⟩
              | some t =>
                cases t with
                | gone => exact ⟨none, rfl, .inl rfl⟩
                | dat d => exact ⟨none, rfl, .inl rfl⟩
                | oth t => exact ⟨none, rfl, .inl rfl⟩
                | own l2 ds2 =>
                  cases l2 with
                  | none => exact ⟨none, rfl, .inl rfl⟩
                  | some m =>
                    have y := ok2.sl k (.own (some m) ds2) (by rw [List.getElem?_append_left hkc]; exact qc)
                    obtain ⟨p2, xs2, e1, ev2, hb2, hp2, a2, l⟩ := y
                    rw [List.getElem?_append_left (by rw [hl]; exact hkc), List.getElem?_map, ewk] at ev2
                    cases ev2
                    exact ⟨some p, ⟨p, xs2, rfl, by rw [ep]; rfl, hb2, hp2, a2, hlb⟩, .inr ⟨rfl, e1⟩⟩
                | odk l2 ks2 =>
                  cases l2 with
                  | none => exact ⟨none, rfl, .inl rfl⟩
                  | some m =>
                    have y := ok2.sl k (.odk (some m) ks2) (by rw [List.getElem?_append_left hkc]; exact qc)
                    obtain ⟨p2, xs2, e1, ev2, hb2, hp2, a2, l⟩ := y
                    rw [List.getElem?_append_left (by rw [hl]; exact hkc), List.getElem?_map, ewk] at ev2
                    cases ev2
                    exact ⟨some p, ⟨p, xs2, rfl, by rw [ep]; rfl, hb2, hp2, a2, hlb⟩, .inr ⟨rfl, e1⟩⟩
            obtain ⟨q, hq, hq2⟩ := lent
            have okc : Ok A B2 H2 σ (ss.set i (back lb (css[k]?))) (fset fp i q) := by
              refine ⟨ok2.sm, by rw [List.length_set]; exact ok.len, fun j t e => ?_, fun x y r ex ey => ?_, fun j hj => ?_, ok2.tb⟩
              · by_cases c : j = i
                · subst c
                  rw [List.getElem?_set_self hi] at e
                  cases e
                  rw [fset_same]
                  exact hq
                · rw [List.getElem?_set_ne (Ne.symm c)] at e
                  rw [fset_ne c]
                  exact oth j t c e
              · have back' : ∀ x, fset fp i q x = some r → fp x = some r := fun x ex => by
                  by_cases c : x = i
                  · subst c
                    rw [fset_same] at ex
                    rcases hq2 with z | ⟨z, _⟩
                    · rw [z] at ex; cases ex
                    · rw [z] at ex
                      cases ex
                      exact efp
                  · rw [fset_ne c] at ex
                    exact ex
                exact ok.inj x y r (back' x ex) (back' y ey)
              · rw [List.length_set] at hj
                rw [fset_ne (by omega)]
                exact ok.out j hj
            have nw : ∀ j r, fp2 css.length = some r → fset fp i q j ≠ some r := fun j r e1 e2 => by
              have fpj : fp j = some r ∧ (j = i → q = some r) := by
                by_cases c : j = i
                · subst c
                  rw [fset_same] at e2
                  rcases hq2 with z | ⟨z, _⟩
                  · rw [z] at e2; cases e2
                  · rw [z] at e2
                    cases e2
                    exact ⟨efp, fun _ => z⟩
                · rw [fset_ne c] at e2
                  exact ⟨e2, fun z => absurd z c⟩
              obtain ⟨_, o2, ho2, nto⟩ := ok.hasO2 fpj.1
              rcases g.nw _ _ e1 with ⟨x, y⟩ | y
              · by_cases c : x = k
                · rw [c, fset_same] at y
                  cases y
                  have ji := ok.inj j i _ fpj.1 efp
                  rcases hq2 with z2 | ⟨_, z2⟩
                  · rw [fpj.2 ji] at z2; cases z2
                  · have := ok2.inj _ _ _ e1 z2
                    omega
                · rw [fset_ne c] at y
                  cases y
              · exact y.no ho2 nto.1
            have pushed := okc.push (z.out o) nw
            refine h v B2 H2 _ (g.sub (fun b nb => sub nb) fun j b e => ?_) pushed
            by_cases c : j = (ss.set i (back lb (css[k]?))).length
            · rw [c, fset_same] at e
              rcases g.nw _ _ e with ⟨x, y⟩ | y
              · by_cases c2 : x = k
                · rw [c2, fset_same] at y
                  cases y
                  exact .inl ⟨i, efp⟩
                · rw [fset_ne c2] at y
                  cases y
              · exact .inr y
            · rw [fset_ne c] at e
              by_cases c2 : j = i
              · rw [c2, fset_same] at e
                rcases hq2 with z | ⟨z, _⟩
                · rw [z] at e; cases e
                · rw [z] at e
                  cases e
                  exact .inl ⟨i, efp⟩
              · rw [fset_ne c2] at e
                exact .inl ⟨j, e⟩
    · exact (show False from h).elim
  · exact (show False from h).elim
end
section
variable {X : Cx} {E : XK} {lev n k i : Nat} {f : Addr} {fd : FuncData} {ps ks : List Str} {F : M SV} {x : Str} {p pos : Pos} {e : Expr} {es : List Expr} {fa : M (List (Option PyData))}
theorem m_callB (Fn : FnG X.prog X.w X.K X.mg X.base (L2.CX X.prog X.w) lev f fd ps (spM n X.mg F)) (hc : Calm X.A) (hr : Room lev X.A) (hg : Gl X x) (hm : X.mg x = some (.ref f)) (hk : PySem.W.keepIn X.K (.ref f) = true) (hb : Binds X.K fd ps []) (hx : Passes (L2.CX X.prog X.w) X E)
    (ha : PA X (e :: es) (tAB X.mg E i fa)) (hdb : (x == ("__debug__" : Str)) = false := by decide) (he : starEach (e :: es) X.env = (false, eval e X.env) :: starEach es X.env := by rfl) (hpl : (backTo pos (starEach es X.env)).any (·.1) = false := by rfl) :
    PE X (.Call (.Name x p) (e :: es) [] pos) (tV X.mg E (mCallB n F k i fa)) :=
  PE.imp (pg_call Fn hc hr hg hm hk hb hx ha hdb he hpl) fun σ H Q ⟨A, B, ss, fp, ok, h⟩ => by
    unfold mCallB at h
    split at h
    · rename_i lb ds es
      obtain ⟨p, xs, efp, eσ, hb, hp, al, hlb⟩ := ok.own es
      refine ⟨p, eσ, A, B, ss, fp, ok, (ResV.seq (rel := AtA (.ref p)) h).mono fun vs H1 ⟨as, B1, ss1, fp1, ok1, a1, g1, h1⟩ => ?_⟩
      show spM n X.mg F (vs ++ []) H1 Q E
      rw [List.append_nil]
      exact call_lent ok1 eσ a1 h1
    · rename_i lb ks es
      obtain ⟨p, xs, efp, eσ, hb, hp, al, hlb⟩ := ok.odk es
      refine ⟨p, eσ, A, B, ss, fp, ok, (ResV.seq (rel := AtA (.ref p)) h).mono fun vs H1 ⟨as, B1, ss1, fp1, ok1, a1, g1, h1⟩ => ?_⟩
      show spM n X.mg F (vs ++ []) H1 Q E
      rw [List.append_nil]
      exact call_lent ok1 eσ a1 h1
    · exact (show False from h).elim
end
end Cm

/-! Mirrors: statements, loops, comprehensions, the def itself. -/
namespace Cm
open PySem PySem.Spec PyProof.Rows L2 Cf
variable [LT]

theorem gr_none {fp : Nat → Option Addr} {i : Nat} {B H : Hp} : Gr fp (fset fp i none) B H B H := gr_fset fun _ z => nomatch z
inductive Out where
  | nx (ss : List SV)
  | rt (r : SV) (ss : List SV)
  | bk (ss : List SV)
  | ct (ss : List SV)
  | ex (c : Str) (fs : List (Str × PyData))
abbrev S := List SV → Option Out
/-- what a statement's outcome must lead to -/
def ResS (mg : Str → Option Value) (E : XK) (A : List V) (B : Hp) (fp : Nat → Option Addr) (H : Hp) (o : Option Out) (D : Ends) : Prop :=
  match o with
  | some (.nx ss2) => ∀ σ2 B2 H2 fp2, Gr fp fp2 B H B2 H2 → Ok A B2 H2 σ2 ss2 fp2 → D.nx σ2 H2
  | some (.bk ss2) => ∀ σ2 B2 H2 fp2, Gr fp fp2 B H B2 H2 → Ok A B2 H2 σ2 ss2 fp2 → D.bk σ2 H2
  | some (.ct ss2) => ∀ σ2 B2 H2 fp2, Gr fp fp2 B H B2 H2 → Ok A B2 H2 σ2 ss2 fp2 → D.ct σ2 H2
  | some (.rt r ss2) => ∀ v σ2 B2 H2 fp2, Gr fp fp2 B H B2 H2 → Ok A B2 H2 (σ2 ++ [some v]) (ss2 ++ [r]) fp2 → D.rt v H2
  | some (.ex c fs) => ExcW mg E fp B H c fs
  | none => False
def tS (mg : Str → Option Value) (E : XK) (f : S) : TS := fun D σ H => ∃ A B ss fp, Ok A B H σ ss fp ∧ ResS mg E A B fp H (f ss) D
section
variable {mg : Str → Option Value} {E : XK} {A : List V} {B H B2 H2 : Hp} {σ : L2.St} {ss ss2 : List SV} {fp fp2 : Nat → Option Addr} {o : Option Out} {D D' : Ends}
theorem ResS.shift (g : Gr fp fp2 B H B2 H2) (h : ResS mg E A B fp H o D) : ResS mg E A B2 fp2 H2 o D := by
  unfold ResS at *
  split at h
  · exact fun σ3 B3 H3 fp3 g3 ok => h σ3 B3 H3 fp3 (g.trans g3) ok
  · exact fun σ3 B3 H3 fp3 g3 ok => h σ3 B3 H3 fp3 (g.trans g3) ok
  · exact fun σ3 B3 H3 fp3 g3 ok => h σ3 B3 H3 fp3 (g.trans g3) ok
  · exact fun v σ3 B3 H3 fp3 g3 ok => h v σ3 B3 H3 fp3 (g.trans g3) ok
  · exact h.shift g
  · exact h
/-- an expression's outcome goes on -/
def eseq {α : Type} (f : M α) (k : α → S) : S := fun ss => match f ss with
  | some (.val a s2) => k a s2
  | some (.exc c fs) => some (.ex c fs)
  | none => none
theorem ResS.seq {α ν : Type} {rel : Hp → ν → α → Prop} {f : M α} {k : α → S} (h : ResS mg E A B fp H (eseq f k ss) D) :
    Res rel mg E A B fp σ H (f ss) fun v H1 => ∃ a B1 ss1 fp1, Ok A B1 H1 σ ss1 fp1 ∧ rel B1 v a ∧ Gr fp fp1 B H B1 H1 ∧ ResS mg E A B1 fp1 H1 (k a ss1) D := by
  unfold eseq at h
  cases q : f ss with
  | none => rw [q] at h; exact h
  | some r =>
    rw [q] at h
    cases r with
    | val a ss1 => exact fun v B1 H1 fp1 g ok r => ⟨a, B1, ss1, fp1, ok, r, g, h.shift g⟩
    | exc c fs => exact h
theorem ResS.seqV {f : M SV} {k : SV → S} (h : ResS mg E A B fp H (eseq f k ss) D) :
    ResV mg E A B fp σ H (f ss) fun v H1 => ∃ r B1 ss1 fp1, Ok A B1 H1 (σ ++ [some v]) (ss1 ++ [r]) fp1 ∧ Gr fp fp1 B H B1 H1 ∧ ResS mg E A B1 fp1 H1 (k r ss1) D := by
  unfold eseq at h
  cases q : f ss with
  | none => rw [q] at h; exact h
  | some r =>
    rw [q] at h
    cases r with
    | val a ss1 => exact fun v B1 H1 fp1 g ok => ⟨a, B1, ss1, fp1, ok, g, h.shift g⟩
    | exc c fs => exact h
end

/-! ### blocks -/
def sNil : S := fun ss => some (.nx ss)
def sSeq (f g : S) : S := fun ss => match f ss with
  | some (.nx s2) => g s2
  | o => o
section
variable {X : Cx} {E : XK} {s : Stmt} {rest as bs : List Stmt} {f g : S} {e e2 : Expr} {fm gm : M PyData} {fv : M SV} {ft : M Bool} {pos : Pos}
theorem s_nil : PSs X [] (tS X.mg E sNil) := PSs.imp pss_nil fun D σ H ⟨A, B, ss, fp, ok, h⟩ => h σ B H fp Gr.refl ok
theorem s_one (h : PS X s (tS X.mg E f)) : PSs X [s] (tS X.mg E f) := pss_one h
theorem s_cons (h1 : PS X s (tS X.mg E f)) (h2 : PSs X rest (tS X.mg E g)) : PSs X (s :: rest) (tS X.mg E (sSeq f g)) := PSs.imp (pss_cons h1 h2) fun D σ H ⟨A, B, ss, fp, ok, h⟩ => by
  refine ⟨A, B, ss, fp, ok, ?_⟩
  unfold sSeq at h
  cases q : f ss with
  | none => rw [q] at h; exact h
  | some o =>
    rw [q] at h
    cases o with
    | nx s2 => exact fun σ2 B2 H2 fp2 g2 ok2 => ⟨A, B2, s2, fp2, ok2, h.shift g2⟩
    | rt r s2 => exact h
    | bk s2 => exact h
    | ct s2 => exact h
    | ex c fs => exact h
def sPass : S := sNil
theorem s_pass : PS X (.Pass pos) (tS X.mg E sPass) := PS.imp ps_pass fun D σ H ⟨A, B, ss, fp, ok, h⟩ => h σ B H fp Gr.refl ok
def sBreak : S := fun ss => some (.bk ss)
def sCont : S := fun ss => some (.ct ss)
theorem s_break : PS X (.Break pos) (tS X.mg E sBreak) := PS.imp ps_break fun D σ H ⟨A, B, ss, fp, ok, h⟩ => h σ B H fp Gr.refl ok
theorem s_cont : PS X (.Continue pos) (tS X.mg E sCont) := PS.imp ps_continue fun D σ H ⟨A, B, ss, fp, ok, h⟩ => h σ B H fp Gr.refl ok
/-! ### assignments -/
def sSet (i : Nat) (f : M SV) : S := eseq f fun r ss => if i < ss.length then some (.nx (ss.set i r)) else none
theorem s_set {i : Nat} {x : Str} {pos' : Pos} (hN : X.N.Nodup) (hi : X.N[i]? = some x) (hx : Loc X.env.scope x) (he : PE X e (tV X.mg E fv)) (hs : swapsWith e (some (.Name x pos')) pos.line X.env = pure false := by rfl) (hf : X.fn x = true ∨ X.env.scope.names.lookup x = some .local := by first | exact .inl rfl | exact .inr rfl | assumption) :
    PS X (.Assign [.Name x pos'] e pos) (tS X.mg E (sSet i fv)) := PS.imp (ps_set hN hi hx he hs hf) fun D σ H ⟨A, B, ss, fp, ok, h⟩ => by
  refine ⟨A, B, ss, fp, ok, h.seqV.mono fun v H1 ⟨r, B1, ss1, fp1, ok1, g1, h1⟩ => ?_⟩
  by_cases c : i < ss1.length
  · rw [if_pos c] at h1
    obtain ⟨fp2, ok2, g2⟩ := ok1.move c
    exact h1 _ _ _ _ g2 ok2
  · rw [if_neg c] at h1
    exact h1.elim
/-- how targets take a thing's data; vs: the slots that they may set -/
def GOk (vs : List Nat) (g : TG) (b : PyData → List SV → Option (List SV)) : Prop := ∀ A B H σ ss fp x d s2 (R : L2.St → Hp → Prop), Ok A B H σ ss fp → At B x d → b d ss = some s2 →
  (∀ σ2 fp2, wipe σ2 vs = wipe σ vs → Ok A B H σ2 s2 fp2 → Gr fp fp2 B H B H → R σ2 H) → g x σ H R
def GsOk (vs : List Nat) (g : TGs) (b : List PyData → List SV → Option (List SV)) : Prop := ∀ A B H σ ss fp xs ds s2 (R : L2.St → Hp → Prop), Ok A B H σ ss fp → AtL B xs ds → b ds ss = some s2 →
  (∀ σ2 fp2, wipe σ2 vs = wipe σ vs → Ok A B H σ2 s2 fp2 → Gr fp fp2 B H B H → R σ2 H) → g xs σ H R
theorem wipe_set {i : Nat} {w : Option V} : ∀ {vs : List Nat} {σ : L2.St}, i ∈ vs → wipe (σ.set i w) vs = wipe σ vs := fun {vs σ} h => by
  apply List.ext_getElem?
  intro j
  have hl : (wipe (σ.set i w) vs).length = (wipe σ vs).length := by rw [wipe_length, wipe_length, List.length_set]
  by_cases c : j ∈ vs
  · have key : ∀ (τ : L2.St) (us : List Nat), j ∈ us → (wipe τ us)[j]? = if j < τ.length then some none else none := by
      intro τ us
      induction us with
      | nil => intro m; cases m
      | cons u us ih =>
        intro m
        unfold wipe
        by_cases e : u = j
        · subst e
          by_cases hj : u < τ.length
          · rw [List.getElem?_set_self (by rw [wipe_length]; exact hj), if_pos hj]
          · rw [if_neg hj, List.getElem?_eq_none (by rw [List.length_set, wipe_length]; omega)]
        · rw [List.getElem?_set_ne e]
          exact ih ((List.mem_cons.mp m).resolve_left (Ne.symm e))
    rw [key _ _ c, key _ _ c, List.length_set]
  · rw [wipe_out c, wipe_out c, List.getElem?_set_ne (fun z => by rw [z] at h; exact c h)]
def bName (i : Nat) : PyData → List SV → Option (List SV) := fun d ss => if i < ss.length then some (ss.set i (.dat d)) else none
theorem g_name {vs : List Nat} {i : Nat} (hi : vs.contains i = true) : GOk vs (gName i) (bName i) := fun A B H σ ss fp x d s2 R ok a e k => by
  unfold bName at e
  split at e
  · rename_i c
    cases e
    exact k _ _ (wipe_set (by simpa using hi)) (ok.setDat c a) (gr_fset fun _ z => nomatch z)
  · cases e
def bNil : List PyData → List SV → Option (List SV) := fun ds ss => match ds with
  | [] => some ss
  | _ => none
def bCons (b : PyData → List SV → Option (List SV)) (bs : List PyData → List SV → Option (List SV)) : List PyData → List SV → Option (List SV) := fun ds ss => match ds with
  | d :: ds => (b d ss).bind (bs ds)
  | [] => none
def bTup (n : Nat) (bs : List PyData → List SV → Option (List SV)) : PyData → List SV → Option (List SV) := fun d ss => match d with
  | .tuple ds => if ds.length = n then bs ds ss else none
  | _ => none
theorem g_nil {vs : List Nat} : GsOk vs gNil bNil := fun A B H σ ss fp xs ds s2 R ok a e k => by
  unfold bNil at e
  split at e
  · cases e
    cases a
    exact ⟨rfl, k σ fp rfl ok Gr.refl⟩
  · cases e
theorem g_cons {vs : List Nat} {g : TG} {gs : TGs} {b : PyData → List SV → Option (List SV)} {bs : List PyData → List SV → Option (List SV)} (h1 : GOk vs g b) (h2 : GsOk vs gs bs) : GsOk vs (gCons g gs) (bCons b bs) := fun A B H σ ss fp xs ds s2 R ok a e k => by
  unfold bCons at e
  split at e
  · rename_i d ds
    cases a with
    | cons a1 a2 =>
      cases q : b d ss with
      | none => rw [q] at e; cases e
      | some s1 =>
        rw [q] at e
        refine ⟨_, _, rfl, h1 A B H σ ss fp _ d s1 _ ok a1 q fun σ1 fp1 w1 ok1 g1 => ?_⟩
        exact h2 A B H σ1 s1 fp1 _ ds s2 R ok1 a2 e fun σ2 fp2 w2 ok2 g2 => k σ2 fp2 (w2.trans w1) ok2 (g1.trans g2)
  · cases e
theorem g_tup {K : PySem.W.Frag} {vs : List Nat} {n : Nat} {gs : TGs} {bs : List PyData → List SV → Option (List SV)} (h : GsOk vs gs bs) : GOk vs (gTup K n gs) (bTup n bs) := fun A B H σ ss fp x d s2 R ok a e k => by
  unfold bTup at e
  split at e
  · rename_i ds
    split at e
    · rename_i hn
      obtain ⟨p, xs, rfl, hp, ax⟩ := a.tup_ex
      exact ⟨p, xs, rfl, SqT.of (ok.sm _ _ hp), by rw [ax.length]; exact hn, h A B H σ ss fp xs ds s2 R ok ax e k⟩
    · cases e
  · cases e
/-- targets = e -/
def sAsg (b : PyData → List SV → Option (List SV)) (f : M PyData) : S := eseq f fun d ss => (b d ss).map .nx
theorem s_asg {vs : List Nat} {tg : Expr} {t : TG} {b : PyData → List SV → Option (List SV)} (G : GOk vs t b) (he : PE X e (tM X.mg E fm)) (hg : PG X tg t) (hs : swapsWithSole [tg] e pos.line X.env = pure false := by rfl) (hw : swappedStores [tg] e X.env = pure none := by rfl)
    (h1 : (assignEach [tg] X.env).map (·.2) = [assign tg X.env] := by rfl) : PS X (.Assign [tg] e pos) (tS X.mg E (sAsg b fm)) := PS.imp (ps_asg he hg hs hw h1) fun D σ H ⟨A, B, ss, fp, ok, h⟩ => by
  refine ⟨A, B, ss, fp, ok, h.seq.mono fun v H1 ⟨d, B1, ss1, fp1, ok1, a1, g1, h1⟩ => ?_⟩
  cases q : b d ss1 with
  | none => rw [q] at h1; exact (show False from h1).elim
  | some s2 =>
    rw [q] at h1
    exact G A B1 H1 σ ss1 fp1 v d s2 _ ok1 a1 q fun σ2 fp2 _ ok2 g2 => h1 σ2 B1 H1 fp2 g2 ok2
/-- x, y = e, e2 -/
def sPar (i j : Nat) (f g : M PyData) : S := eseq f fun d => eseq g fun d2 ss => if i < ss.length ∧ j < ss.length then some (.nx ((ss.set i (.dat d)).set j (.dat d2))) else none
theorem s_par {i j : Nat} {x y : Str} {px py pt : Pos} {kt k2 pt2} (hc : X.calm = true) (hN : X.N.Nodup) (hi : X.N[i]? = some x) (hj : X.N[j]? = some y) (hij : i ≠ j)
    (hx : X.env.scope.names.lookup x = some .local) (hy : X.env.scope.names.lookup y = some .local) (hf : PE X e (tM X.mg E fm)) (hg : PE X e2 (tM X.mg E gm))
    (hw : swappedStores [.Tuple [.Name x px, .Name y py] kt pt] (.Tuple [e, e2] k2 pt2) X.env = pure (some [x, y]))
    (hst1 : starEach [e, e2] X.env = (false, eval e X.env) :: starEach [e2] X.env := by rfl) (hst2 : starEach [e2] X.env = (false, eval e2 X.env) :: starEach [] X.env := by rfl)
    (hs : swapsWithSole [.Tuple [.Name x px, .Name y py] kt pt] (.Tuple [e, e2] k2 pt2) pos.line X.env = pure false := by rfl) :
    PS X (.Assign [.Tuple [.Name x px, .Name y py] kt pt] (.Tuple [e, e2] k2 pt2) pos) (tS X.mg E (sPar i j fm gm)) :=
  PS.imp (ps_par hc hN hi hj hij hx hy (pa_cons hf (pa_cons hg pa_nil hst2) hst1) hw hs) fun D σ H ⟨A, B, ss, fp, ok, h⟩ => by
    refine ⟨A, B, ss, fp, ok, h.seq.mono fun v H1 ⟨d, B1, ss1, fp1, ok1, a1, g1, h1⟩ => ⟨A, B1, ss1, fp1, ok1, h1.seq.mono fun v2 H2 ⟨d2, B2, ss2, fp2, ok2, a2, g2, h2⟩ => ?_⟩⟩
    by_cases c : i < ss2.length ∧ j < ss2.length
    · rw [if_pos c] at h2
      have ok3 := (ok2.setDat c.1 (a1.up g2.bb)).setDat (i := j) (by rw [List.length_set]; exact c.2) a2
      exact ⟨v, v2, rfl, h2 _ _ _ _ (gr_none.trans gr_none) ok3⟩
    · rw [if_neg c] at h2
      exact h2.elim
/-! ### return, if, expressions alone -/
def sRet (f : M SV) : S := eseq f fun r ss => some (.rt r ss)
theorem s_ret (he : PE X e (tV X.mg E fv)) : PS X (.Return (some e) pos) (tS X.mg E (sRet fv)) := PS.imp (ps_ret he) fun D σ H ⟨A, B, ss, fp, ok, h⟩ => by
  refine ⟨A, B, ss, fp, ok, h.seqV.mono fun v H1 ⟨r, B1, ss1, fp1, ok1, g1, h1⟩ => ?_⟩
  exact h1 v σ B1 H1 fp1 Gr.refl ok1
def sRetN : S := fun ss => some (.rt (.dat .none) ss)
theorem s_retN : PS X (.Return none pos) (tS X.mg E sRetN) := PS.imp ps_retN fun D σ H ⟨A, B, ss, fp, ok, h⟩ => h .non σ B H fp Gr.refl (ok.pushDat .non)
def sIf (c : M Bool) (f g : S) : S := eseq c fun b => match b with
  | true => f
  | false => g
theorem s_if {c : Expr} (hc : PT X c (tT X.mg E ft)) (ha : PSs X as (tS X.mg E f)) (hb : PSs X bs (tS X.mg E g)) : PS X (.If c as bs pos) (tS X.mg E (sIf ft f g)) := PS.imp (ps_if hc ha hb) fun D σ H ⟨A, B, ss, fp, ok, h⟩ => by
  refine ⟨A, B, ss, fp, ok, h.seq.mono fun v H1 ⟨d, B1, ss1, fp1, ok1, a1, g1, h1⟩ => ?_⟩
  subst a1
  cases v with
  | true => exact iteT ⟨A, B1, ss1, fp1, ok1, h1⟩
  | false => exact iteF ⟨A, B1, ss1, fp1, ok1, h1⟩
def sDrop (f : M PyData) : S := eseq f fun _ ss => some (.nx ss)
theorem s_drop (he : PE X e (tM X.mg E fm)) (hs : swapsWith e none pos.line X.env = pure false := by rfl) : PS X (.Expr e pos) (tS X.mg E (sDrop fm)) := PS.imp (ps_expr he hs) fun D σ H ⟨A, B, ss, fp, ok, h⟩ => by
  refine ⟨A, B, ss, fp, ok, h.seq.mono fun v H1 ⟨d, B1, ss1, fp1, ok1, a1, g1, h1⟩ => ?_⟩
  exact h1 σ B1 H1 fp1 Gr.refl ok1
/-! ### for -/
def IterOk (B : Hp) (J : It) (ds : List PyData) : Prop :=
  (∀ i H, i < ds.length → Same B H → J.go i H) ∧ (∀ H, Same B H → J.stop ds.length H) ∧
  ∀ i H x H2, i < ds.length → Same B H → J.yld i H x H2 → ∃ d, ds[i]? = some d ∧ ∀ B1, Same B B1 → Same B1 H → ∃ B2, Grow B1 H B2 H2 ∧ At B2 x d
abbrev tI (mg : Str → Option Value) (E : XK) (f : M (List PyData)) : TI := tR IterOk mg E f
def forGo (b : PyData → List SV → Option (List SV)) (body : S) : List PyData → List SV → Option Out
  | [], ss => some (.nx ss)
  | d :: ds, ss => match b d ss with
    | none => none
    | some s1 => match body s1 with
      | some (.nx s2) => forGo b body ds s2
      | some (.ct s2) => forGo b body ds s2
      | some (.bk s2) => some (.nx s2)
      | o => o
def sFor (it : M (List PyData)) (b : PyData → List SV → Option (List SV)) (body : S) : S := eseq it (forGo b body)
theorem s_for {vs : List Nat} {tg iter : Expr} {body : List Stmt} {t : TG} {b : PyData → List SV → Option (List SV)} {it : M (List PyData)} (hp : PassesOwn (model X.prog X.w) X.A X.env X.xe) (hc : X.calm = true) (G : GOk vs t b) (hi : PI X tg iter (tI X.mg E it)) (hg : PG X tg t) (hb : PSs X body (tS X.mg E f))
    (hs : ∀ x, foldedSetIterable iter X.env x = pure x := by intro _; rfl) : PS X (.For tg iter body [] pos) (tS X.mg E (sFor it b f)) := PS.imp (ps_for hp hc hi hg hb hs) fun D σ H ⟨A, B, ss, fp, ok, h⟩ => by
  refine ⟨A, B, ss, fp, ok, h.seq.mono fun J H1 ⟨ds, B1, ss1, fp1, ok1, J1, g1, h1⟩ => ?_⟩
  obtain ⟨jg, js, jy⟩ := J1
  refine ⟨fun i m σ H => m = ds.length - i ∧ i ≤ ds.length ∧ ∃ B2 ss fp, Same B1 B2 ∧ Ok A B2 H σ ss fp ∧ ResS X.mg E A B2 fp H (forGo b f (ds.drop i) ss) D, ⟨ds.length, by omega, Nat.zero_le _, B1, ss1, fp1, Same.refl _, ok1, h1⟩, ?_⟩
  rintro i m σ H ⟨rfl, hi, B2, ss, fp, s2, ok2, h2⟩
  by_cases hlt : i < ds.length
  · refine .inr ⟨jg i H hlt (s2.trans ok2.sm), fun σ' H' => ∃ B2 ss fp, Same B1 B2 ∧ Ok A B2 H' σ' ss fp ∧ ResS X.mg E A B2 fp H' (forGo b f (ds.drop (i + 1)) ss) D, fun σ' H' h' => ⟨ds.length - (i + 1), by omega, rfl, hlt, h'⟩, fun x H' y => ?_⟩
    obtain ⟨d, ed, hd⟩ := jy i H x H' hlt (s2.trans ok2.sm) y
    obtain ⟨B3, g3, a3⟩ := hd B2 s2 ok2.sm
    have e : ds.drop i = d :: ds.drop (i + 1) := by
      rw [List.drop_eq_getElem_cons hlt]
      have : ds[i] = d := by
        rw [List.getElem?_eq_getElem hlt] at ed
        exact Option.some.inj ed
      rw [this]
    rw [e] at h2
    unfold forGo at h2
    cases q : b d ss with
    | none => rw [q] at h2; exact (show False from h2).elim
    | some s1 =>
      rw [q] at h2
      have ok3 := ok2.up g3
      have h3 := h2.shift g3.gr
      refine G A B3 H' σ ss fp x d s1 _ ok3 a3 q fun σ2 fp2 _ ok4 g4 => ⟨A, B3, s1, fp2, ok4, ?_⟩
      have h4 := h3.shift g4
      have s3 : Same B1 B3 := s2.trans g3.bb
      cases qo : f s1 with
      | none => dsimp only at h4; rw [qo] at h4; exact h4
      | some o =>
        dsimp only at h4
        rw [qo] at h4
        cases o with
        | nx s5 => exact fun σ5 B5 H5 fp5 g5 ok5 => ⟨B5, s5, fp5, s3.trans g5.bb, ok5, h4.shift g5⟩
        | ct s5 => exact fun σ5 B5 H5 fp5 g5 ok5 => ⟨B5, s5, fp5, s3.trans g5.bb, ok5, h4.shift g5⟩
        | bk s5 => exact h4
        | rt r s5 => exact h4
        | ex c fs => exact h4
  · have ei : i = ds.length := by omega
    subst ei
    rw [List.drop_length] at h2
    exact .inl ⟨js H (s2.trans ok2.sm), h2 σ B2 H fp Gr.refl ok2⟩
/-! ### while -/
def whileGo (c : M Bool) (body : S) : Nat → List SV → Option Out
  | 0, _ => none
  | n + 1, ss => match c ss with
    | some (.val true s1) => match body s1 with
      | some (.nx s2) => whileGo c body n s2
      | some (.ct s2) => whileGo c body n s2
      | some (.bk s2) => some (.nx s2)
      | o => o
    | some (.val false s1) => some (.nx s1)
    | some (.exc c fs) => some (.ex c fs)
    | none => none
def sWhile (n : Nat) (c : M Bool) (body : S) : S := whileGo c body n
theorem s_while (n : Nat) {c : Expr} {body : List Stmt} (hp : PassesOwn (model X.prog X.w) X.A X.env X.xe) (hc : PT X c (tT X.mg E ft)) (hb : PSs X body (tS X.mg E f)) : PS X (.While c body [] pos) (tS X.mg E (sWhile n ft f)) := PS.imp (ps_while hp hc hb) fun D σ H ⟨A, B, ss, fp, ok, h⟩ => by
  refine ⟨fun m σ H => ∃ B ss fp, Ok A B H σ ss fp ∧ ResS X.mg E A B fp H (whileGo ft f m ss) D, ⟨n, B, ss, fp, ok, h⟩, ?_⟩
  rintro m σ H ⟨B, ss, fp, ok, h⟩
  cases m with
  | zero => exact (show False from h).elim
  | succ m =>
    refine ⟨A, B, ss, fp, ok, ?_⟩
    unfold whileGo at h
    cases q : ft ss with
    | none => rw [q] at h; exact h
    | some r =>
      rw [q] at h
      cases r with
      | exc c fs => exact h
      | val b s1 =>
        intro v B1 H1 fp1 g1 ok1 rv
        subst rv
        have h1 := h.shift g1
        cases v with
        | false => exact iteF (h1 σ B1 H1 fp1 Gr.refl ok1)
        | true =>
          refine iteT ⟨fun σ' H' => ∃ B ss fp, Ok A B H' σ' ss fp ∧ ResS X.mg E A B fp H' (whileGo ft f m ss) D, fun σ' H' h' => ⟨m, by omega, h'⟩, A, B1, s1, fp1, ok1, ?_⟩
          cases qo : f s1 with
          | none => dsimp only at h1; rw [qo] at h1; exact h1
          | some o =>
            dsimp only at h1
            rw [qo] at h1
            cases o with
            | nx s5 => exact fun σ5 B5 H5 fp5 g5 ok5 => ⟨B5, s5, fp5, ok5, h1.shift g5⟩
            | ct s5 => exact fun σ5 B5 H5 fp5 g5 ok5 => ⟨B5, s5, fp5, ok5, h1.shift g5⟩
            | bk s5 => exact h1
            | rt r s5 => exact h1
            | ex c fs => exact h1
end

/-! ### a comprehension -/
def wipeS (ss : List SV) : List Nat → List SV
  | [] => ss
  | v :: vs => (wipeS ss vs).set v .gone
def lcGo (vs : List Nat) (b : PyData → List SV → Option (List SV)) (t : M Bool) (f : M PyData) : List PyData → List PyData → List SV → Option (R SV)
  | [], acc, ss => some (.val (.own none acc) ss)
  | d :: ds, acc, ss => match b d ss with
    | none => none
    | some s1 => match t s1 with
      | some (.val true s2) => match f s2 with
        | some (.val y s3) => if few acc.length then lcGo vs b t f ds (acc ++ [y]) (wipeS s3 vs) else none
        | _ => none
      | some (.val false s2) => lcGo vs b t f ds acc (wipeS s2 vs)
      | _ => none
def mLc (vs : List Nat) (it : M (List PyData)) (b : PyData → List SV → Option (List SV)) (t : M Bool) (f : M PyData) : M SV := M.bind it fun ds ss => lcGo vs b t f ds [] (wipeS ss vs)
section
variable {A : List V} {B H : Hp} {σ τ : L2.St} {ss : List SV} {fp : Nat → Option Addr}
theorem Ok.wipe (h : Ok A B H σ ss fp) : ∀ vs : List Nat, ∃ fp2, Ok A B H (wipe σ vs) (wipeS ss vs) fp2 ∧ Gr fp fp2 B H B H
  | [] => ⟨fp, h, Gr.refl⟩
  | v :: vs => by
    obtain ⟨fp2, ok2, g2⟩ := Ok.wipe h vs
    unfold L2.wipe wipeS
    by_cases c : v < (wipeS ss vs).length
    · exact ⟨_, ok2.setGone c, g2.trans (gr_fset fun _ z => nomatch z)⟩
    · rw [List.set_eq_of_length_le (by rw [ok2.len]; omega), List.set_eq_of_length_le (by omega)]
      exact ⟨fp2, ok2, g2⟩
theorem wipeS_get {ss : List SV} {i : Nat} : ∀ {vs : List Nat} {s : SV}, (wipeS ss vs)[i]? = some s → i ∈ vs → s = .gone
  | [], _, _, m => nomatch m
  | v :: vs, s, e, m => by
    unfold wipeS at e
    by_cases c : v = i
    · subst c
      by_cases hl : v < (wipeS ss vs).length
      · rw [List.getElem?_set_self hl] at e
        exact (Option.some.inj e).symm
      · rw [List.getElem?_eq_none (by rw [List.length_set]; omega)] at e
        cases e
    · rw [List.getElem?_set_ne c] at e
      exact wipeS_get e ((List.mem_cons.mp m).resolve_left (Ne.symm c))
/-- wiped slots stand for any -/
theorem Ok.rewipe {vs : List Nat} (h : Ok A B H (L2.wipe τ vs) (wipeS ss vs) fp) (hw : L2.wipe τ vs = L2.wipe σ vs) : Ok A B H σ (wipeS ss vs) fp := by
  rw [hw] at h
  refine ⟨h.sm, by rw [← h.len, wipe_length], fun i s e => ?_, h.inj, h.out, h.tb⟩
  have q := h.sl i s e
  by_cases c : i ∈ vs
  · have := wipeS_get e c
    subst this
    exact q
  · rw [wipe_out c] at q
    exact q
theorem wipe_idem {vs : List Nat} : L2.wipe (L2.wipe σ vs) vs = L2.wipe σ vs := by
  have : ∀ us : List Nat, (∀ u ∈ us, u ∈ vs) → L2.wipe (L2.wipe σ us) vs = L2.wipe σ vs := by
    intro us
    induction us with
    | nil => intro _; rfl
    | cons u us ih =>
      intro m
      show L2.wipe ((L2.wipe σ us).set u none) vs = _
      rw [wipe_set (m u List.mem_cons_self)]
      exact ih fun x hx => m x (List.mem_cons_of_mem _ hx)
  exact this vs fun _ h => h
end
abbrev tYesM (mg : Str → Option Value) : TT := tT mg L2.E0 (M.ret true)
section
variable {X : Cx} {E : XK}
theorem m_tsNil : PTs X [] (tT X.mg L2.E0 (M.ret true)) := ⟨fun pins s σ H Q I ⟨A, B, ss, fp, ok, h⟩ => pts_nil.run pins s σ H Q I (Res.now (rel := fun _ b c => b = c) ok h true rfl)⟩
theorem m_tsOne {c : Expr} {t : M Bool} (h : PT X c (tT X.mg L2.E0 t)) : PTs X [c] (tT X.mg L2.E0 t) := pts_one h
theorem lc_of {vs : List Nat} {t : TG} {b : PyData → List SV → Option (List SV)} {it : M (List PyData)} {ft : M Bool} {f : M PyData} (G : GOk vs t b) {σ : L2.St} {H : Hp} {Q : VK} (h : tV X.mg E (mLc vs it b ft f) σ H Q) :
    tLc (tI X.mg E it) t (tT X.mg L2.E0 ft) (tM X.mg L2.E0 f) vs σ H Q := by
  obtain ⟨A, B, ss, fp, ok, h⟩ := h
  refine ⟨A, B, ss, fp, ok, (ResV.seq (rel := IterOk) h).mono fun J H1 ⟨ds, B1, ss1, fp1, ok1, J1, g1, h1⟩ D hD => ?_⟩
  obtain ⟨jg, js, jy⟩ := J1
  have h1 : ResV X.mg E A B1 fp1 σ H1 (lcGo vs b ft f ds [] (wipeS ss1 vs)) Q := h1
  generalize hT : lcGo vs b ft f ds [] (wipeS ss1 vs) = T at h1
  have nn : T ≠ none := fun z => by
    rw [z] at h1
    exact (show False from h1).elim
  obtain ⟨fpw, okw, gw⟩ := ok1.wipe vs
  have okw2 : Ok A B1 H1 (wipe σ vs) (wipeS ss1 vs) fpw := okw
  -- the state of a turn: the new list stands at D, beside all else
  refine ⟨fun i m H => m = ds.length - i ∧ i ≤ ds.length ∧ ∃ B2 s fp2 acc xs, Same B1 B2 ∧ Ok A B2 H (wipe σ vs) (wipeS s vs) fp2 ∧ Gr fp1 fp2 B1 H1 B2 H ∧ H D = some (.lst xs) ∧ B2 D = none ∧ (∀ j, fp2 j ≠ some D) ∧ AtL B2 xs acc ∧ lcGo vs b ft f (ds.drop i) acc (wipeS s vs) = T, ⟨ds.length, by omega, Nat.zero_le _, B1, ss1, fpw, [], [], Same.refl _, okw2.grow (Same.refl _) (ok1.sm.trans (same_new hD)) (same_new hD) (fun _ _ z => z), gw.trans (Grow.own ok1.sm hD).gr, upd_same, ok1.sm.free hD, fun j e => ?_, .nil, hT⟩, ?_⟩
  · obtain ⟨_, o, ho⟩ := okw2.hasO e
    rw [hD] at ho
    cases ho
  rintro i m H ⟨rfl, hi, B2, s, fp2, acc, xs, s2, ok2, g2, hDx, hDB, hDf, ax, el⟩
  by_cases hlt : i < ds.length
  · refine .inr ⟨jg i H hlt (s2.trans ok2.sm), fun H' => ∃ B2 s fp2 acc xs, Same B1 B2 ∧ Ok A B2 H' (wipe σ vs) (wipeS s vs) fp2 ∧ Gr fp1 fp2 B1 H1 B2 H' ∧ H' D = some (.lst xs) ∧ B2 D = none ∧ (∀ j, fp2 j ≠ some D) ∧ AtL B2 xs acc ∧ lcGo vs b ft f (ds.drop (i + 1)) acc (wipeS s vs) = T, fun H' h' => ⟨ds.length - (i + 1), by omega, rfl, hlt, h'⟩, fun x H' y => ?_⟩
    obtain ⟨d, ed, hd⟩ := jy i H x H' hlt (s2.trans ok2.sm) y
    obtain ⟨B3, g3, a3⟩ := hd B2 s2 ok2.sm
    have e : ds.drop i = d :: ds.drop (i + 1) := by
      rw [List.drop_eq_getElem_cons hlt]
      have : ds[i] = d := by
        rw [List.getElem?_eq_getElem hlt] at ed
        exact Option.some.inj ed
      rw [this]
    rw [e] at el
    unfold lcGo at el
    cases q : b d (wipeS s vs) with
    | none => rw [q] at el; exact absurd el.symm nn
    | some s1 =>
      rw [q] at el
      dsimp only at el
      have ok3 := ok2.up g3
      have stay : ∀ {fpa fpb : Nat → Option Addr} {Ba Ha Bb Hb : Hp}, Gr fpa fpb Ba Ha Bb Hb → Ha D = some (.lst xs) → Ba D = none → (∀ j, fpa j ≠ some D) → Hb D = some (.lst xs) ∧ Bb D = none ∧ ∀ j, fpb j ≠ some D := fun {fpa fpb Ba Ha Bb Hb} g e1 e2 e3 => by
        refine ⟨g.hh D _ e3 e1, g.fr D e3 e1 e2, fun j ej => ?_⟩
        rcases g.nw j D ej with ⟨k, z⟩ | z
        · exact e3 k z
        · exact z.no e1
      obtain ⟨t1, t2, t3⟩ := stay (g3.gr (fp := fp2)) hDx hDB hDf
      refine G A B3 H' (wipe σ vs) (wipeS s vs) fp2 x d s1 _ ok3 a3 q fun σ4 fp4 w4 ok4 g4 => ?_
      obtain ⟨t4, t5, t6⟩ := stay g4 t1 t2 t3
      rw [wipe_idem] at w4
      refine ⟨w4, A, B3, s1, fp4, ok4, ?_⟩
      cases qt : ft s1 with
      | none => rw [qt] at el; exact absurd el.symm nn
      | some rt =>
        rw [qt] at el
        cases rt with
        | exc c fs => exact absurd el.symm nn
        | val bb s5 =>
          intro bv B5 H5 fp5 g5 ok5 rb
          subst rb
          obtain ⟨t7, t8, t9⟩ := stay g5 t4 t5 t6
          have gall : Gr fp1 fp5 B1 H1 B5 H5 := ((g2.trans g3.gr).trans g4).trans g5
          have sall : Same B1 B5 := (s2.trans g3.bb).trans g5.bb
          cases bv with
          | false =>
            dsimp only at el
            refine iteF ?_
            obtain ⟨fp6, ok6, g6⟩ := ok5.wipe vs
            rw [w4] at ok6
            have t13 : ∀ j, fp6 j ≠ some D := fun j ej => by
              rcases g6.nw j D ej with ⟨k, z⟩ | z
              · exact t9 k z
              · exact z.no t7
            exact ⟨B5, s5, fp6, acc, xs, sall, ok6, gall.trans g6, t7, t8, t13, (ax.up g3.bb).up g5.bb, el⟩
          | true =>
            dsimp only at el
            refine iteT ⟨A, B5, s5, fp5, ok5, ?_⟩
            cases qf : f s5 with
            | none => rw [qf] at el; exact absurd el.symm nn
            | some rf =>
              rw [qf] at el
              cases rf with
              | exc c fs => exact absurd el.symm nn
              | val yd s6 =>
                dsimp only at el
                intro yv B6 H6 fp6 g6 ok6 ay
                obtain ⟨t10, t11, t12⟩ := stay g6 t7 t8 t9
                by_cases cf : few acc.length = true
                · rw [if_pos cf] at el
                  have axx := ((ax.up g3.bb).up g5.bb).up g6.bb
                  refine ⟨xs, t10, by rw [axx.length]; exact few_line cf, ?_⟩
                  obtain ⟨fp7, ok7, g7⟩ := ok6.wipe vs
                  rw [w4] at ok7
                  have nd : ∀ b o, B6 b = some o → b ≠ D := fun b o eb z => by
                    rw [z, t11] at eb
                    cases eb
                  have t13 : ∀ j, fp7 j ≠ some D := fun j ej => by
                    rcases g7.nw j D ej with ⟨k, z⟩ | z
                    · exact t12 k z
                    · exact z.no t10
                  have ok8 : Ok A B6 (upd H6 D (.lst (xs ++ [yv]))) (wipe σ vs) (wipeS s6 vs) fp7 := by
                    refine ⟨fun b o eb => ?_, ok7.len, fun j t et => (ok7.sl j t et).grow (Same.refl _) fun r er => ⟨(ok7.hasO er).1, upd_ne fun z => t13 j (by rw [← z]; exact er)⟩, ok7.inj, ok7.out, ok7.tb.upd t10⟩
                    rw [upd_ne (nd b o eb)]
                    exact ok7.sm b o eb
                  have gall2 := (gall.trans g6).trans g7
                  refine ⟨B6, s6, fp7, acc ++ [yd], xs ++ [yv], sall.trans g6.bb, ok8, gall2.upd (.inr (.of hD)) t10, upd_same, t11, t13, axx.append (AtL.one ay), el⟩
                · rw [if_neg cf] at el
                  exact absurd el.symm nn
  · have ei : i = ds.length := by omega
    subst ei
    rw [List.drop_length] at el
    refine .inl ⟨js H (s2.trans ok2.sm), ?_⟩
    rw [← el] at h1
    have okf : Ok A B2 H σ (wipeS s vs) fp2 := Ok.rewipe (τ := wipe σ vs) (by rw [wipe_idem]; exact ok2) wipe_idem
    have okp := okf.push (w := some (.ref D)) (r := .own none acc) (q := some D) ⟨D, xs, rfl, rfl, hDB, hDx, ax, fun k z => nomatch z⟩ fun j p ep => by cases ep; exact hDf j
    refine h1 (.ref D) B2 H _ (g2.sub (fun _ h => h) fun j bb eb => ?_) okp
    by_cases c : j = (wipeS s vs).length
    · rw [c, fset_same] at eb
      cases eb
      exact .inr (.of hD)
    · rw [fset_ne c] at eb
      exact g2.nw j bb eb
theorem m_lc {elt tg iter : Expr} {ifs : List Expr} {scope : Scope} {own : List (Str × Nat)} {pos : Pos} {t : TG} {b : PyData → List SV → Option (List SV)} {it : M (List PyData)} {ft : M Bool} {f : M PyData} (G : GOk (own.map (·.2)) t b) (hc : X.calm = true) (hN : X.N.Nodup) (hi : PI X tg iter (tI X.mg E it)) (ok : BlkOk X.N X.env.scope scope own)
    (hg : ∀ (s : Shared) (H : Hp) (C : Addr) (cl : List (Str × Addr)) (fp : List Addr), PG (X.blk s H scope (compEnvC scope cl C X.env) fp) tg t) (ht : ∀ (s : Shared) (H : Hp) (C : Addr) (cl : List (Str × Addr)) (fp : List Addr), PTs (X.blk s H scope (compEnvC scope cl C X.env) fp) ifs (tT X.mg L2.E0 ft))
    (he : ∀ (s : Shared) (H : Hp) (C : Addr) (cl : List (Str × Addr)) (fp : List Addr), PE (X.blk s H scope (compEnvC scope cl C X.env) fp) elt (tM X.mg L2.E0 f)) (hs : ∀ x, foldedSetIterable iter X.env x = pure x := by intro _; rfl) :
    PE X (.ListComp elt [⟨tg, iter, ifs, 0⟩] scope pos) (tV X.mg E (mLc (own.map (·.2)) it b ft f)) := PE.imp (pe_lc hc hN hi ok hg ht he hs) fun _ _ _ h => lc_of G h
/-- name = [..] on one line -/
theorem s_setLc {i : Nat} {y : Str} {py : Pos} {elt tg iter : Expr} {ifs : List Expr} {scope : Scope} {own : List (Str × Nat)} {pos spos : Pos} {t : TG} {b : PyData → List SV → Option (List SV)} {it : M (List PyData)} {ft : M Bool} {f : M PyData} (G : GOk (own.map (·.2)) t b) (hc : X.calm = true) (hN : X.N.Nodup) (hy : X.N[i]? = some y) (hyl : X.env.scope.names.lookup y = some .local)
    (hsw : swapsWith (.ListComp elt [⟨tg, iter, ifs, 0⟩] scope pos) (some (.Name y py)) spos.line X.env = pure true) (hi : PI X tg iter (tI X.mg E it)) (ok : BlkOk X.N X.env.scope scope own)
    (hg : ∀ (s : Shared) (H : Hp) (C : Addr) (cl : List (Str × Addr)) (fp : List Addr), PG (X.blk s H scope (compEnvC scope cl C X.env) fp) tg t) (ht : ∀ (s : Shared) (H : Hp) (C : Addr) (cl : List (Str × Addr)) (fp : List Addr), PTs (X.blk s H scope (compEnvC scope cl C X.env) fp) ifs (tT X.mg L2.E0 ft))
    (he : ∀ (s : Shared) (H : Hp) (C : Addr) (cl : List (Str × Addr)) (fp : List Addr), PE (X.blk s H scope (compEnvC scope cl C X.env) fp) elt (tM X.mg L2.E0 f)) (hs : ∀ x, foldedSetIterable iter X.env x = pure x := by intro _; rfl) :
    PS X (.Assign [.Name y py] (.ListComp elt [⟨tg, iter, ifs, 0⟩] scope pos) spos) (tS X.mg E (sSet i (mLc (own.map (·.2)) it b ft f))) := PS.imp (ps_setLc hc hN hy hyl hsw hi ok hg ht he hs) fun D σ H ⟨A, B, ss, fp, okk, h⟩ => by
  refine lc_of (E := E) G ⟨A, B, ss, fp, okk, h.seqV.mono fun v H1 ⟨r, B1, ss1, fp1, ok1, g1, h1⟩ => ?_⟩
  by_cases c : i < ss1.length
  · rw [if_pos c] at h1
    obtain ⟨fp2, ok2, g2⟩ := ok1.move c
    exact h1 _ _ _ _ g2 ok2
  · rw [if_neg c] at h1
    exact h1.elim
end

/-! ### the def -/
def fin (n : Nat) (ss : List SV) : List SV := (ss.take n).mapIdx fun k s => match s with
  | .own (some k') ds => if k' = k then .own (some k') ds else .gone
  | .odk (some k') ks => if k' = k then .odk (some k') ks else .gone
  | _ => .gone
def mDef (n m : Nat) (body : S) : M SV := fun args => if args.length = n then match body (args ++ List.replicate (m - n) .gone) with
  | some (.rt r ss) => if n ≤ ss.length then match outR r with
    | some r' => some (.val r' (fin n ss))
    | none => none
    else none
  | some (.nx ss) => if n ≤ ss.length then some (.val (.dat .none) (fin n ss)) else none
  | some (.ex c fs) => some (.exc c fs)
  | _ => none
  else none
section
variable {A : List V} {B H : Hp} {σ : L2.St} {ss : List SV} {fp : Nat → Option Addr} {vs : List V} {v : V} {r r' : SV} {n : Nat}
/-- behind the body: what the arguments are now, and the result -/
theorem ok_end (h : Ok vs B H (σ ++ [some v]) (ss ++ [r]) fp) (hn : vs.length = n) (hl : n ≤ ss.length) (o : outR r = some r') : ∃ fp2, Ok vs B H (vs.map some ++ [some v]) (fin n ss ++ [r']) fp2 ∧ ∀ j b, fp2 j = some b → ∃ k, fp k = some b := by
  have hσ : σ.length = ss.length := by
    have := h.len
    simp only [List.length_append, List.length_cons, List.length_nil] at this
    omega
  have hf : (fin n ss).length = n := by
    unfold fin
    rw [List.length_mapIdx, List.length_take]
    omega
  have hlast := h.sl ss.length r (by rw [List.getElem?_concat_length])
  rw [← hσ, List.getElem?_concat_length, hσ] at hlast
  -- what an argument's slot owns
  let fq : Nat → Option Addr := fun j => match (fin n ss)[j]? with
    | some (.own _ _) => fp j
    | some (.odk _ _) => fp j
    | _ => none
  have okA : Ok vs B H (vs.map some) (fin n ss) fq := by
    refine ⟨h.sm, by rw [List.length_map, hf]; exact hn, fun j s e => ?_, fun x y p ex ey => ?_, fun j hj => ?_, h.tb⟩
    · have hj := (List.getElem?_eq_some_iff.mp e).1
      rw [hf] at hj
      have hj2 : j < ss.length := by omega
      show SlotOk vs B H _ s (match (fin n ss)[j]? with | some (.own _ _) => fp j | some (.odk _ _) => fp j | _ => none)
      rw [e]
      unfold fin at e
      rw [List.getElem?_mapIdx, List.getElem?_take, if_pos hj, List.getElem?_eq_getElem hj2] at e
      have e : some _ = some s := e
      cases q : ss[j] with
      | gone => rw [q] at e; cases e; rfl
      | dat d => rw [q] at e; cases e; rfl
      | oth t => rw [q] at e; cases e; rfl
      | own lb ds =>
        rw [q] at e
        cases lb with
        | none => cases e; rfl
        | some k =>
          dsimp only at e
          split at e
          · rename_i ek
            cases e
            subst ek
            have z := h.sl k (.own (some k) ds) (by rw [List.getElem?_append_left hj2, List.getElem?_eq_getElem hj2, q])
            obtain ⟨p, xs, e1, ev, hb, hp, a, l⟩ := z
            refine ⟨p, xs, e1, ?_, hb, hp, a, l⟩
            have := l k rfl
            rw [List.getElem?_map, this]
            rfl
          · cases e; rfl
      | odk lb ks =>
        rw [q] at e
        cases lb with
        | none => cases e; rfl
        | some k =>
          dsimp only at e
          split at e
          · rename_i ek
            cases e
            subst ek
            have z := h.sl k (.odk (some k) ks) (by rw [List.getElem?_append_left hj2, List.getElem?_eq_getElem hj2, q])
            obtain ⟨p, xs, e1, ev, hb, hp, a, l⟩ := z
            refine ⟨p, xs, e1, ?_, hb, hp, a, l⟩
            have := l k rfl
            rw [List.getElem?_map, this]
            rfl
          · cases e; rfl
    · have key : ∀ z, fq z = some p → fp z = some p := fun z ez => by
        have ez : (match (fin n ss)[z]? with | some (.own _ _) => fp z | some (.odk _ _) => fp z | _ => none) = some p := ez
        split at ez
        · exact ez
        · exact ez
        · cases ez
      exact h.inj x y p (key x ex) (key y ey)
    · show (match (fin n ss)[j]? with | some (.own _ _) => fp j | some (.odk _ _) => fp j | _ => none) = none
      rw [List.getElem?_eq_none hj]
  have pushed := okA.push (w := some v) (r := r') (q := fp ss.length) (SlotOk.out hlast o) fun j p e1 e2 => by
    have e2 : (match (fin n ss)[j]? with | some (.own _ _) => fp j | some (.odk _ _) => fp j | _ => none) = some p := e2
    split at e2
    · rename_i lb ds q
      have hj := (List.getElem?_eq_some_iff.mp q).1
      rw [hf] at hj
      have := h.inj j ss.length p e2 e1
      omega
    · rename_i lb ks q
      have hj := (List.getElem?_eq_some_iff.mp q).1
      rw [hf] at hj
      have := h.inj j ss.length p e2 e1
      omega
    · cases e2
  refine ⟨_, pushed, fun j b e => ?_⟩
  by_cases c : j = (fin n ss).length
  · rw [c, fset_same] at e
    exact ⟨_, e⟩
  · rw [fset_ne c] at e
    have e : (match (fin n ss)[j]? with | some (.own _ _) => fp j | some (.odk _ _) => fp j | _ => none) = some b := e
    split at e
    · exact ⟨_, e⟩
    · exact ⟨_, e⟩
    · cases e
end
section
variable {P : Program} {w : World} {K : PySem.W.Frag} {mg : Str → Option Value} {base : Heap} {f : Addr} {fd : FuncData} {ps N : List Str} {lev : Nat} {x qual : Str} {st : Stmt}
theorem def_ok {body : S} (F : Fun K x qual st f fd) (Sc : FnScope N ps (defScope st))
    (hb : ∀ (cdv : Value) (A : Around) (out : List Env) (s : Shared) (H : Hp) (E : XK), Calm A → Room lev (A.deeper (envOfC qual (defScope st) s.heap.objs.size f cdv)) → PSs (cxOf (L2.CX P w) P w K mg base N qual (defScope st) f cdv A out s H E) (defBody st) (tS mg E body)) :
    FnG P w K mg base (L2.CX P w) (lev + 1) f fd ps (spM ps.length mg (mDef ps.length N.length body)) := by
  refine okG F Sc (fun vs H Q E h => h.1) fun cdv A out s H vs Q E hc hr h => ⟨_, hb cdv A out s H E hc hr, ?_⟩
  obtain ⟨hl, B, ss, fp, ok, h⟩ := h
  have hss : ss.length = ps.length := by rw [← ok.len, List.length_map, hl]
  unfold mDef at h
  rw [if_pos hss] at h
  have ok2 : ∀ k : Nat, Ok vs B H (vs.map some ++ List.replicate k none) (ss ++ List.replicate k .gone) fp := fun k => by
    refine ⟨ok.sm, by rw [List.length_append, List.length_append, List.length_replicate, List.length_replicate, ok.len], fun j s e => ?_, ok.inj, fun j hj => ok.out j (by rw [List.length_append] at hj; omega), ok.tb⟩
    by_cases c : j < ss.length
    · rw [List.getElem?_append_left c] at e
      rw [List.getElem?_append_left (by rw [ok.len]; exact c)]
      exact ok.sl j s e
    · rw [List.getElem?_append_right (by omega), List.getElem?_replicate] at e
      split at e
      · cases e
        exact ok.out j (by omega)
      · cases e
  have ek : N.length - vs.length = N.length - ps.length := by rw [hl]
  have okS : Ok vs B H (L2.start N vs) (ss ++ List.replicate (N.length - ps.length) .gone) fp := by
    unfold L2.start
    rw [ek]
    exact ok2 _
  refine ⟨vs, B, _, fp, okS, ?_⟩
  cases q : body (ss ++ List.replicate (N.length - ps.length) .gone) with
  | none => rw [q] at h; exact h
  | some o =>
    rw [q] at h
    cases o with
    | bk s2 => exact (show False from h).elim
    | ct s2 => exact (show False from h).elim
    | ex c fs => exact h
    | rt r s2 =>
      dsimp only at h
      split at h
      · rename_i hn
        cases o : outR r with
        | none => rw [o] at h; exact (show False from h).elim
        | some r' =>
          rw [o] at h
          intro v σ2 B2 H2 fp2 g ok3
          obtain ⟨fp3, ok4, sub⟩ := ok_end ok3 hl hn o
          exact h v B2 H2 fp3 (g.sub (fun _ h => h) fun j b e => by
            obtain ⟨k, ek⟩ := sub j b e
            exact g.nw k b ek) ok4
      · exact (show False from h).elim
    | nx s2 =>
      dsimp only at h
      split at h
      · rename_i hn
        intro σ2 B2 H2 fp2 g ok3
        obtain ⟨fp3, ok4, sub⟩ := ok_end (v := .non) (r := .dat .none) (r' := .dat .none) (ok3.pushDat .non) hl hn rfl
        exact h .non B2 H2 fp3 (g.sub (fun _ h => h) fun j b e => by
          obtain ⟨k, ek⟩ := sub j b e
          exact g.nw k b ek) ok4
      · exact (show False from h).elim
end
end Cm

/-! Mirrors: the leaves. -/
namespace Cm
open PySem PySem.Spec PyProof.Rows L2 Cf
variable [LT]

/-! ### ints -/
def kI (C : Int → Int → Bool) (g : Int → Int → PyData) : PyData → PyData → Option PyData
  | .int i, .int j => if C i j then some (g i j) else none
  | _, _ => none
theorem kI_some {C : Int → Int → Bool} {g : Int → Int → PyData} {d1 d2 d : PyData} (h : kI C g d1 d2 = some d) : ∃ i j, d1 = .int i ∧ d2 = .int j ∧ C i j = true ∧ d = g i j := by
  unfold kI at h
  split at h
  · split at h
    · rename_i i j c
      exact ⟨_, _, rfl, rfl, c, (Option.some.inj h).symm⟩
    · cases h
  · cases h
theorem d2_I {C : Int → Int → Prop} {Cb : Int → Int → Bool} {gV : Int → Int → V} {g : Int → Int → PyData} (hc : ∀ i j, Cb i j = true → C i j) (hg : ∀ B i j, At B (gV i j) (g i j)) : D2 (rI C gV) (kI Cb g) := fun B H x y d1 d2 d Q s a b e k => by
  obtain ⟨i, j, rfl, rfl, c, rfl⟩ := kI_some e
  exact ⟨i, j, a.int_eq, b.int_eq, hc i j c, k _ B H (Grow.refl s) (hg B i j)⟩
theorem d2_I0 {gV : Int → Int → V} {g : Int → Int → PyData} (hg : ∀ B i j, At B (gV i j) (g i j)) : D2 (rI0 gV) (kI (fun _ _ => true) g) := fun B H x y d1 d2 d Q s a b e k => by
  obtain ⟨i, j, rfl, rfl, c, rfl⟩ := kI_some e
  exact ⟨i, j, a.int_eq, b.int_eq, k _ B H (Grow.refl s) (hg B i j)⟩
def kAdd := kI (fun _ _ => true) fun i j => .int (i + j)
def kSub := kI (fun _ _ => true) fun i j => .int (i - j)
def cMul (i j : Int) : Bool := decide ((-(2 ^ 64) < i ∧ i < 2 ^ 64) ∨ (-(2 ^ 64) < j ∧ j < 2 ^ 64))
def kMul := kI cMul fun i j => .int (i * j)
def kMod := kI (fun _ j => decide (0 < j)) fun i j => .int (i % j)
def kDiv := kI (fun _ j => decide (0 < j ∧ j < 1073741824)) fun i j => .int (i / j)
def kPow := kI (fun i j => decide (0 ≤ j ∧ (Builtin.Int.intBits i : Int) * j ≤ 2 ^ 27)) fun i j => .int (i ^ j.toNat)
def kLt := kI (fun _ _ => true) fun i j => .bool (decide (i < j))
def kLe := kI (fun _ _ => true) fun i j => .bool (decide (i ≤ j))
def kGt := kI (fun _ _ => true) fun i j => .bool (decide (j < i))
def kGe := kI (fun _ _ => true) fun i j => .bool (decide (j ≤ i))
theorem d_add : D2 (rI0 fun i j => .int (i + j)) kAdd := d2_I0 fun _ _ _ => .int _
theorem d_sub : D2 (rI0 fun i j => .int (i - j)) kSub := d2_I0 fun _ _ _ => .int _
theorem d_mul : D2 (rI CMul fun i j => .int (i * j)) kMul := d2_I (fun i j h => by unfold CMul; unfold cMul at h; exact of_decide_eq_true h) fun _ _ _ => .int _
theorem d_mod : D2 (rI (fun _ j => 0 < j) fun i j => .int (i % j)) kMod := d2_I (fun _ _ h => of_decide_eq_true h) fun _ _ _ => .int _
theorem d_div : D2 (rI CDiv fun i j => .int (i / j)) kDiv := d2_I (fun i j h => by unfold CDiv; exact of_decide_eq_true h) fun _ _ _ => .int _
theorem d_pow : D2 (rI CPowW fun i j => .int (i ^ j.toNat)) kPow := d2_I (fun i j h => by unfold CPowW; exact of_decide_eq_true h) fun _ _ _ => .int _
theorem d_lt : D2 (rI0 fun i j => .bl (decide (i < j))) kLt := d2_I0 fun _ _ _ => .bl _
theorem d_le : D2 (rI0 fun i j => .bl (decide (i ≤ j))) kLe := d2_I0 fun _ _ _ => .bl _
theorem d_gt : D2 (rI0 fun i j => .bl (decide (j < i))) kGt := d2_I0 fun _ _ _ => .bl _
theorem d_ge : D2 (rI0 fun i j => .bl (decide (j ≤ i))) kGe := d2_I0 fun _ _ _ => .bl _
def kNeg : PyData → Option PyData
  | .int i => some (.int (-i))
  | _ => none
theorem d_neg : D1 (rU fun i => .int (-i)) kNeg := fun B H x d1 d Q s a e k => by
  cases d1 with
  | int i =>
    cases e
    exact ⟨i, a.int_eq, k _ B H (Grow.refl s) (.int _)⟩
  | _ => cases e

/-! ### equality, is None -/
def kEq (d e : PyData) : Option PyData := if SeqAt.shaped d && SeqAt.shaped e then some (.bool (PyData.eqv d e)) else none
def kNe (d e : PyData) : Option PyData := if SeqAt.shaped d && SeqAt.shaped e then some (.bool (!PyData.eqv d e)) else none
theorem noDict_of_shaped {d : PyData} (h : SeqAt.shaped d = true) : d.hasDict = false := by
  unfold SeqAt.shaped at h
  exact PyData.hasDict_of_canLay d (Bool.and_eq_true_iff.mp h).1
theorem d_eq {K : PySem.W.Frag} : D2 (rEqD K) kEq := fun B H x y d1 d2 d Q s a b e k => by
  unfold kEq at e
  split at e
  · rename_i c
    cases e
    obtain ⟨c1, c2⟩ := Bool.and_eq_true_iff.mp c
    exact ⟨d1, d2, At.dp d1 x (noDict_of_shaped c1) (a.up s), At.dp d2 y (noDict_of_shaped c2) (b.up s), c1, c2, k _ B H (Grow.refl s) (.bl _)⟩
  · cases e
theorem d_ne {K : PySem.W.Frag} : D2 (rNeD K) kNe := fun B H x y d1 d2 d Q s a b e k => by
  unfold kNe at e
  split at e
  · rename_i c
    cases e
    obtain ⟨c1, c2⟩ := Bool.and_eq_true_iff.mp c
    exact ⟨d1, d2, At.dp d1 x (noDict_of_shaped c1) (a.up s), At.dp d2 y (noDict_of_shaped c2) (b.up s), c1, c2, k _ B H (Grow.refl s) (.bl _)⟩
  · cases e
def isNone : PyData → Bool
  | .none => true
  | _ => false
theorem isNone_at {B : Hp} {x : V} {d : PyData} (a : At B x d) : decide (x = .non) = isNone d := by cases a <;> rfl
def kIs (d e : PyData) : Option PyData := if isNone e then some (.bool (isNone d)) else none
def kIsNot (d e : PyData) : Option PyData := if isNone e then some (.bool (!isNone d)) else none
theorem isNone_eq {d : PyData} (h : isNone d = true) : d = .none := by cases d <;> first | rfl | cases h
theorem d_is : D2 (fun x y H Q => y = .non ∧ Q (.bl (decide (x = .non))) H) kIs := fun B H x y d1 d2 d Q s a b e k => by
  unfold kIs at e
  split at e
  · rename_i c
    cases e
    have := isNone_eq c
    subst this
    refine ⟨b.non_eq, ?_⟩
    rw [isNone_at a]
    exact k _ B H (Grow.refl s) (.bl _)
  · cases e
theorem d_isnot : D2 (fun x y H Q => y = .non ∧ Q (.bl (!decide (x = .non))) H) kIsNot := fun B H x y d1 d2 d Q s a b e k => by
  unfold kIsNot at e
  split at e
  · rename_i c
    cases e
    have := isNone_eq c
    subst this
    refine ⟨b.non_eq, ?_⟩
    rw [isNone_at a]
    exact k _ B H (Grow.refl s) (.bl _)
  · cases e

/-! ### lists and texts put together -/
def kCat : PyData → PyData → Option (List PyData)
  | .list a, .list b => if few (a.length + b.length) then some (a ++ b) else none
  | _, _ => none
theorem d_cat : D2L rCat kCat := fun B H x y d1 d2 ds Q s a b e k => by
  unfold kCat at e
  split at e
  · split at e
    · rename_i u v c
      cases e
      obtain ⟨p, xs, rfl, hp, ax⟩ := a.lst_ex
      obtain ⟨r, zs, rfl, hr, az⟩ := b.lst_ex
      exact ⟨p, r, xs, zs, rfl, rfl, s _ _ hp, s _ _ hr, by rw [ax.length, az.length]; exact Nat.le_of_lt (few_line c), fun q hq => k q _ (ax.append az) hq⟩
    · cases e
  · cases e
theorem AtL.rep {H : Hp} {vs : List V} {ds : List PyData} (h : AtL H vs ds) : ∀ n : Nat, AtL H (List.replicate n vs).flatten (List.replicate n ds).flatten
  | 0 => .nil
  | n + 1 => by
    rw [List.replicate_succ, List.flatten_cons, List.replicate_succ, List.flatten_cons]
    exact h.append (AtL.rep h n)
def kRep : PyData → PyData → Option (List PyData)
  | .list a, .int k => if few (a.length * k.toNat) && decide (-1000000 ≤ k ∧ k ≤ 1000000) then some (List.replicate k.toNat a).flatten else none
  | _, _ => none
theorem d_rep : D2L rRep kRep := fun B H x y d1 d2 ds Q s a b e k => by
  unfold kRep at e
  split at e
  · split at e
    · rename_i u v c
      cases e
      obtain ⟨c1, c2⟩ := Bool.and_eq_true_iff.mp c
      have c2 := of_decide_eq_true c2
      obtain ⟨p, xs, rfl, hp, ax⟩ := a.lst_ex
      exact ⟨p, _, xs, rfl, b.int_eq, s _ _ hp, by omega, by omega, by rw [ax.length]; exact Nat.le_of_lt (few_line c1), fun q hq => k q _ (ax.rep _) hq⟩
    · cases e
  · cases e
def kAddS : PyData → PyData → Option PyData
  | .str a, .str b => if few (a.length + b.length) then some (.str (a ++ b)) else none
  | _, _ => none
theorem d_addS : D2 (fun x y H Q => ∃ i j, x = .str i ∧ y = .str j ∧ i.length + j.length ≤ sizeLine ∧ Q (.str (i ++ j)) H) kAddS := fun B H x y d1 d2 d Q s a b e k => by
  unfold kAddS at e
  split at e
  · split at e
    · rename_i u v c
      cases e
      exact ⟨u, v, a.str_eq, b.str_eq, Nat.le_of_lt (few_line c), k _ B H (Grow.refl s) (.str _)⟩
    · cases e
  · cases e

/-! ### indexes and slices -/
def kIx : PyData → PyData → Option PyData
  | .list ds, .int i => atI ds i
  | .tuple ds, .int i => atI ds i
  | _, _ => none
theorem AtL.at {H : Hp} {vs : List V} {ds : List PyData} (h : AtL H vs ds) {i : Int} {d : PyData} (e : atI ds i = some d) : ∃ v, atI vs i = some v ∧ At H v d := by
  unfold atI at *
  rw [h.length]
  cases q : ixN ds.length i with
  | none => rw [q] at e; cases e
  | some j =>
    rw [q] at e
    exact h.get e
theorem d_ix {K : PySem.W.Frag} : D2 (rIx K) kIx := fun B H x y d1 d2 d Q s a b e k => by
  unfold kIx at e
  split at e
  · obtain ⟨p, xs, rfl, hp, ax⟩ := a.lst_ex
    obtain ⟨v, h1, h2⟩ := ax.at e
    exact .inl ⟨p, xs, _, v, rfl, b.int_eq, SqL.of (s _ _ hp), h1, k v B H (Grow.refl s) h2⟩
  · obtain ⟨p, xs, rfl, hp, ax⟩ := a.tup_ex
    obtain ⟨v, h1, h2⟩ := ax.at e
    exact .inr (.inl ⟨p, xs, _, v, rfl, b.int_eq, SqT.of (s _ _ hp), h1, k v B H (Grow.refl s) h2⟩)
  · cases e
section
variable {X : Cx} {K : PySem.W.Frag} {E : XK} {e e2 : Expr} {f g : M PyData} {pos p2 : Pos}
theorem kx_seq (e : X.K = K) : IxR X (rIx K) := by subst e; exact ix_seq
theorem m_ix (ek : X.K = K) (hf : PE X e (tM X.mg E f)) (hg : PE X e2 (tM X.mg E g)) (hs : PlainIx e2) : PE X (.Subscript e e2 pos) (tM X.mg E (m2 kIx f g)) :=
  PE.imp (pe_ix (kx_seq ek) hf hg hs) fun _ _ _ h => tOp_of d_ix h
/-- x[..], x an own list that is looked at alone -/
def mIxP (i : Nat) (g : M PyData) : M PyData := fun ss => match ss[i]? with
  | some (.own _ _) => M.bind g (fun y s2 => match s2[i]? with
    | some (.own _ ds) => match y with
      | .int k => match atI ds k with
        | some d => some (.val d s2)
        | none => none
      | _ => none
    | _ => none) ss
  | _ => none
theorem m_ixP (i : Nat) (ek : X.K = K) (hf : PE X e (tVar i)) (hg : PE X e2 (tM X.mg E g)) (hs : PlainIx e2) : PE X (.Subscript e e2 pos) (tM X.mg E (mIxP i g)) :=
  PE.imp (pe_ix (by subst ek; exact ix_list : IxR X (rIxL K)) hf hg hs) fun σ H Q ⟨A, B, ss, fp, ok, h⟩ => by
    unfold mIxP at h
    split at h
    · rename_i lb ds0 es
      obtain ⟨p, xs, efp, eσ, hb, hp, al, hlb⟩ := ok.own es
      refine ⟨.ref p, eσ, A, B, ss, fp, ok, h.seq.mono fun y H2 ⟨d2, B2, ss2, fp2, ok2, a2, g2, h2⟩ => ?_⟩
      split at h2
      · rename_i lb2 ds es2
        obtain ⟨p', xs', efp', eσ', hb', hp', al', hlb'⟩ := ok2.own es2
        rw [eσ] at eσ'
        cases eσ'
        split at h2
        · rename_i k
          cases q : atI ds k with
          | none => rw [q] at h2; exact (show False from h2).elim
          | some d =>
            rw [q] at h2
            obtain ⟨v, h3, h4⟩ := al'.at q
            exact ⟨p, xs', k, v, rfl, a2.int_eq, SqL.of hp', h3, Res.now (rel := At) ok2 h2 v h4⟩
        · exact h2.elim
      · exact h2.elim
    · exact h.elim

/-- the parts of a slice -/
def asI : PyData → Option Int
  | .int i => some i
  | _ => none
theorem asI_some {d : PyData} {i : Int} (h : asI d = some i) : d = .int i := by
  cases d <;> simp [asI] at h
  rw [h]
abbrev tP (mg : Str → Option Value) (E : XK) (f : M (Option Int)) : L2.St → Hp → (Option Int → Hp → Prop) → Prop := tR (fun _ a b => a = b) mg E f
def mSome (f : M PyData) : M (Option Int) := M.bind f fun d => M.lift ((asI d).map some)
def mNone : M (Option Int) := M.ret none
theorem PO.imp {X : Cx} {o : Option Expr} {t t' : L2.St → Hp → (Option Int → Hp → Prop) → Prop} (h : PO X o t) (k : ∀ σ H Q, t' σ H Q → t σ H Q) : PO X o t' := ⟨fun pins s σ H Q I z => h.run pins s σ H Q I (k σ H Q z)⟩
theorem m_some (hf : PE X e (tM X.mg E f)) : PO X (some e) (tP X.mg E (mSome f)) := PO.imp (po_some hf) fun σ H Q ⟨A, B, ss, fp, ok, h⟩ => by
  refine ⟨A, B, ss, fp, ok, h.seq.mono fun x H1 ⟨d1, B1, ss1, fp1, ok1, a1, g1, h1⟩ => ?_⟩
  obtain ⟨o, e, h2⟩ := lift_some h1
  cases q : asI d1 with
  | none => rw [q] at e; cases e
  | some i =>
    rw [q] at e
    cases e
    rw [asI_some q] at a1
    exact ⟨i, a1.int_eq, Res.now (rel := fun _ a b => a = b) ok1 h2 _ rfl⟩
theorem m_none : PO X none (tP X.mg E mNone) := PO.imp po_none fun σ H Q ⟨A, B, ss, fp, ok, h⟩ => Res.now (rel := fun _ a b => a = b) ok h _ rfl
def cutD (ds : List PyData) (lo hi : Option Int) : List PyData := (ds.drop (HT.sIx ds.length 0 lo)).take (HT.sIx ds.length ds.length hi - HT.sIx ds.length 0 lo)
theorem AtL.cut {H : Hp} {vs : List V} {ds : List PyData} (h : AtL H vs ds) (lo hi : Option Int) : AtL H (cutV vs lo hi) (cutD ds lo hi) := by
  unfold cutV cutD
  rw [h.length]
  exact (h.drop _).take _
def mSlL (f : M PyData) (lo hi : M (Option Int)) : M SV := M.bind f fun d => M.bind lo fun a => M.bind hi fun b => M.lift (match d with
  | .list ds => some (.own none (cutD ds a b))
  | _ => none)
theorem m_slL {lo hi : Option Expr} {fl fh : M (Option Int)} (ek : X.K = K) (hf : PE X e (tM X.mg E f)) (hl : PO X lo (tP X.mg E fl)) (hh : PO X hi (tP X.mg E fh)) : PE X (.Subscript e (.Slice lo hi none p2) pos) (tV X.mg E (mSlL f fl fh)) :=
  PE.imp (pe_slice (by subst ek; exact sl_list : SlR X (rSlL K)) hf hl hh) fun σ H Q ⟨A, B, ss, fp, ok, h⟩ => by
    refine ⟨A, B, ss, fp, ok, h.seq.mono fun x H1 ⟨d1, B1, ss1, fp1, ok1, a1, g1, h1⟩ => ⟨A, B1, ss1, fp1, ok1, (ResV.seq (rel := fun _ a b => a = b) h1).mono fun lo H2 ⟨l2, B2, ss2, fp2, ok2, a2, g2, h2⟩ => ⟨A, B2, ss2, fp2, ok2, (ResV.seq (rel := fun _ a b => a = b) h2).mono fun hi H3 ⟨l3, B3, ss3, fp3, ok3, a3, g3, h3⟩ => ?_⟩⟩⟩
    obtain ⟨r, er, h4⟩ := liftV_some h3
    subst a2
    subst a3
    split at er
    · rename_i ds
      cases er
      obtain ⟨p, xs, rfl, hp, ax⟩ := ((a1.up g2.bb).up g3.bb).lst_ex
      exact ⟨p, xs, rfl, SqL.of (ok3.sm _ _ hp), h4.list ok3 (ax.cut _ _)⟩
    · cases er
end

/-! ### calls of built-ins -/
def kLen : List PyData → Option PyData
  | [.list ds] => some (.int ds.length)
  | [.tuple ds] => some (.int ds.length)
  | _ => none
theorem d_len {K : PySem.W.Frag} : DA (fun xs H Q => ∃ p ys, xs = [.ref p] ∧ (SqL K H p ys ∨ SqT K H p ys) ∧ Q (.int ys.length) H) kLen := fun B H xs ds d Q s a e k => by
  unfold kLen at e
  split at e
  · cases e
    cases a with
    | cons a1 r =>
      cases r
      obtain ⟨p, ys, rfl, hp, ax⟩ := a1.lst_ex
      exact ⟨p, ys, rfl, .inl (SqL.of (s _ _ hp)), by rw [ax.length]; exact k _ B H (Grow.refl s) (.int _)⟩
  · cases e
    cases a with
    | cons a1 r =>
      cases r
      obtain ⟨p, ys, rfl, hp, ax⟩ := a1.tup_ex
      exact ⟨p, ys, rfl, .inr (SqT.of (s _ _ hp)), by rw [ax.length]; exact k _ B H (Grow.refl s) (.int _)⟩
  · cases e
def kLenS : List PyData → Option PyData
  | [.str x] => if few x.length then some (.int x.length) else none
  | _ => none
theorem d_lenS : DA (fun xs H Q => ∃ z, xs = [.str z] ∧ z.length ≤ sizeLine ∧ Q (.int z.length) H) kLenS := fun B H xs ds d Q s a e k => by
  unfold kLenS at e
  split at e
  · split at e
    · rename_i x c
      cases e
      cases a with
      | cons a1 r =>
        cases r
        rw [a1.str_eq]
        exact ⟨x, rfl, Nat.le_of_lt (few_line c), k _ B H (Grow.refl s) (.int _)⟩
    · cases e
  · cases e
def okShow (d : PyData) : Bool := d.showable && !d.hasDict && decide (d.depth ≤ 100) && decide (d.shown.length ≤ sizeLine)
def kRepr : List PyData → Option PyData
  | [d] => if okShow d then some (.str d.shown) else none
  | _ => none
theorem d_repr {K : PySem.W.Frag} : DA (rRepr K) kRepr := fun B H xs ds d Q s a e k => by
  unfold kRepr at e
  split at e
  · split at e
    · rename_i d1 c
      cases e
      unfold okShow at c
      simp only [Bool.and_eq_true, Bool.not_eq_true', decide_eq_true_eq] at c
      obtain ⟨⟨⟨c1, c2⟩, c3⟩, c4⟩ := c
      cases a with
      | cons a1 r =>
        cases r
        exact ⟨_, d1, rfl, At.dp d1 _ c2 (a1.up s), ⟨c1, c2, c3, c4⟩, k _ B H (Grow.refl s) (.str _)⟩
    · cases e
  · cases e
def kInt : List PyData → Option PyData
  | [.int i] => some (.int i)
  | [.bool b] => some (.int (if b then 1 else 0))
  | _ => none
theorem d_int : DA (fun xs H Q => (∃ i, xs = [.int i] ∧ Q (.int i) H) ∨ ∃ k, xs = [.bl k] ∧ Q (.int (if k then 1 else 0)) H) kInt := fun B H xs ds d Q s a e k => by
  unfold kInt at e
  split at e
  · cases e
    cases a with
    | cons a1 r =>
      cases r
      rw [a1.int_eq]
      exact .inl ⟨_, rfl, k _ B H (Grow.refl s) (.int _)⟩
  · cases e
    cases a with
    | cons a1 r =>
      cases r
      rw [a1.bl_eq]
      exact .inr ⟨_, rfl, k _ B H (Grow.refl s) (.int _)⟩
  · cases e
def kMax2 : List PyData → Option PyData
  | [.int i, .int j] => some (.int (if j > i then j else i))
  | _ => none
theorem d_max2 : DA (fun xs H Q => ∃ i j, xs = [.int i, .int j] ∧ Q (.int (if j > i then j else i)) H) kMax2 := fun B H xs ds d Q s a e k => by
  unfold kMax2 at e
  split at e
  · cases e
    cases a with
    | cons a1 r =>
      cases r with
      | cons a2 r =>
        cases r
        rw [a1.int_eq, a2.int_eq]
        exact ⟨_, _, rfl, k _ B H (Grow.refl s) (.int _)⟩
  · cases e
def kMin2 : List PyData → Option PyData
  | [.int i, .int j] => some (.int (if j < i then j else i))
  | _ => none
theorem d_min2 : DA (fun xs H Q => ∃ i j, xs = [.int i, .int j] ∧ Q (.int (if j < i then j else i)) H) kMin2 := fun B H xs ds d Q s a e k => by
  unfold kMin2 at e
  split at e
  · cases e
    cases a with
    | cons a1 r =>
      cases r with
      | cons a2 r =>
        cases r
        rw [a1.int_eq, a2.int_eq]
        exact ⟨_, _, rfl, k _ B H (Grow.refl s) (.int _)⟩
  · cases e
/-- a list of ints -/
def intsOf : List PyData → Option (List Int)
  | [] => some []
  | .int i :: ds => (intsOf ds).map (i :: ·)
  | _ => none
omit [LT] in
theorem intsOf_eq : ∀ {ds : List PyData} {ns : List Int}, intsOf ds = some ns → ds = ns.map PyData.int
  | [], ns, h => by cases h; rfl
  | .int i :: ds, ns, h => by
    unfold intsOf at h
    cases q : intsOf ds with
    | none => rw [q] at h; cases h
    | some ms =>
      rw [q] at h
      cases h
      rw [intsOf_eq q]
      rfl
  | .none :: _, _, h => by cases h
  | .bool _ :: _, _, h => by cases h
  | .str _ :: _, _, h => by cases h
  | .list _ :: _, _, h => by cases h
  | .tuple _ :: _, _, h => by cases h
  | .dict _ :: _, _, h => by cases h
omit [LT] in
theorem intsOf_map : ∀ ns : List Int, intsOf (ns.map PyData.int) = some ns
  | [] => rfl
  | n :: ns => by
    show (intsOf (ns.map PyData.int)).map (n :: ·) = _
    rw [intsOf_map ns]
    rfl
theorem AtL.ints_eq {H : Hp} : ∀ {ns : List Int} {vs : List V}, AtL H vs (ns.map PyData.int) → vs = ns.map V.int
  | [], _, h => by cases h; rfl
  | n :: ns, _, h => by
    cases h with
    | cons a r => rw [At.int_eq a, AtL.ints_eq r]; rfl
theorem AtL.ints {H : Hp} : ∀ {ns : List Int}, AtL H (ns.map V.int) (ns.map PyData.int)
  | [] => .nil
  | n :: ns => .cons (.int n) AtL.ints
def kSum : List PyData → Option PyData
  | [.list ds] => (intsOf ds).map fun ns => .int ns.sum
  | _ => none
theorem d_sum {K : PySem.W.Frag} : DA (rSum K) kSum := fun B H xs ds d Q s a e k => by
  unfold kSum at e
  split at e
  · rename_i ds
    cases q : intsOf ds with
    | none => rw [q] at e; cases e
    | some ns =>
      rw [q] at e
      cases e
      have := intsOf_eq q
      subst this
      cases a with
      | cons a1 r =>
        cases r
        obtain ⟨p, ys, rfl, hp, ax⟩ := a1.lst_ex
        rw [ax.ints_eq] at hp
        exact ⟨p, ns, rfl, SqL.of (s _ _ hp), k _ B H (Grow.refl s) (.int _)⟩
  · cases e
def kListOf : List PyData → Option (List PyData)
  | [.list ds] => some ds
  | [.tuple ds] => some ds
  | _ => none
theorem d_listOf {K : PySem.W.Frag} : DAL (fun xs H Q => ∃ p ys, xs = [.ref p] ∧ (SqL K H p ys ∨ SqT K H p ys) ∧ ∀ l, H l = none → Q (.ref l) (upd H l (.lst ys))) kListOf := fun B H xs ds es Q s a e k => by
  unfold kListOf at e
  split at e
  · cases e
    cases a with
    | cons a1 r =>
      cases r
      obtain ⟨p, ys, rfl, hp, ax⟩ := a1.lst_ex
      exact ⟨p, ys, rfl, .inl (SqL.of (s _ _ hp)), fun l hl => k l ys ax hl⟩
  · cases e
    cases a with
    | cons a1 r =>
      cases r
      obtain ⟨p, ys, rfl, hp, ax⟩ := a1.tup_ex
      exact ⟨p, ys, rfl, .inr (SqT.of (s _ _ hp)), fun l hl => k l ys ax hl⟩
  · cases e
def kTupleOf : List PyData → Option PyData
  | [.list ds] => some (.tuple ds)
  | [.tuple ds] => some (.tuple ds)
  | _ => none
theorem d_tupleOf {K : PySem.W.Frag} : DA (fun xs H Q => ∃ p ys, xs = [.ref p] ∧ ((SqL K H p ys ∧ ∀ l, H l = none → Q (.ref l) (upd H l (.tup ys))) ∨ (SqT K H p ys ∧ Q (.ref p) H))) kTupleOf := fun B H xs ds d Q s a e k => by
  unfold kTupleOf at e
  split at e
  · cases e
    cases a with
    | cons a1 r =>
      cases r
      obtain ⟨p, ys, rfl, hp, ax⟩ := a1.lst_ex
      exact ⟨p, ys, rfl, .inl ⟨SqL.of (s _ _ hp), fun l hl => k _ _ _ (Grow.new s hl) (.tup upd_same (ax.up (same_new (s.free hl))))⟩⟩
  · cases e
    cases a with
    | cons a1 r =>
      cases r
      obtain ⟨p, ys, rfl, hp, ax⟩ := a1.tup_ex
      exact ⟨p, ys, rfl, .inr ⟨SqT.of (s _ _ hp), k _ B H (Grow.refl s) (.tup hp ax)⟩⟩
  · cases e
/-! ### in, index: flat things -/
def flatD : PyData → Bool
  | .none => true
  | .bool _ => true
  | .int _ => true
  | .str _ => true
  | _ => false
def vOf : PyData → V
  | .bool b => .bl b
  | .int i => .int i
  | .str x => .str x
  | _ => .non
theorem vOf_at {B : Hp} {v : V} {d : PyData} (a : At B v d) (h : flatD d = true) : v = vOf d := by cases a <;> first | rfl | cases h
theorem vOf_all {B : Hp} : ∀ {vs : List V} {ds : List PyData}, AtL B vs ds → ds.all flatD = true → vs = ds.map vOf
  | _, _, .nil, _ => rfl
  | _, _, .cons a r, h => by
    rw [List.all_cons, Bool.and_eq_true_iff] at h
    rw [vOf_at a h.1, vOf_all r h.2]
    rfl
theorem flat_vOf {d : PyData} (h : flatD d = true) : flatV (vOf d) = true := by cases d <;> first | rfl | cases h
def eqF (d e : PyData) : Bool := eqV (vOf d) (vOf e)
def kIn (neg : Bool) (d e : PyData) : Option PyData :=
  match e with
  | .list ds => if flatD d && ds.all flatD then some (.bool (if neg then !(ds.any fun y => eqF y d) else ds.any fun y => eqF y d)) else none
  | .tuple ds => if flatD d && ds.all flatD then some (.bool (if neg then !(ds.any fun y => eqF y d) else ds.any fun y => eqF y d)) else none
  | _ => none
theorem flat_all {ds : List PyData} (h : ds.all flatD = true) : (ds.map vOf).all flatV = true := by
  rw [List.all_eq_true] at h ⊢
  intro x hx
  obtain ⟨d, hd, rfl⟩ := List.mem_map.mp hx
  exact flat_vOf (h d hd)
theorem inV_map {d : PyData} {ds : List PyData} : inV (vOf d) (ds.map vOf) = ds.any fun y => eqF y d := by
  unfold inV eqF
  rw [List.any_map]
  rfl
theorem d_in {K : PySem.W.Frag} {neg : Bool} : D2 (rIn K neg) (kIn neg) := fun B H x y d1 d2 d Q s a b e k => by
  unfold kIn at e
  split at e
  · split at e
    · rename_i ds c
      cases e
      obtain ⟨c1, c2⟩ := Bool.and_eq_true_iff.mp c
      obtain ⟨p, xs, rfl, hp, ax⟩ := b.lst_ex
      rw [vOf_at a c1]
      have ex := vOf_all ax c2
      subst ex
      refine ⟨p, _, rfl, .inl (SqL.of (s _ _ hp)), flat_vOf c1, flat_all c2, ?_⟩
      rw [inV_map]
      exact k _ B H (Grow.refl s) (.bl _)
    · cases e
  · split at e
    · rename_i ds c
      cases e
      obtain ⟨c1, c2⟩ := Bool.and_eq_true_iff.mp c
      obtain ⟨p, xs, rfl, hp, ax⟩ := b.tup_ex
      rw [vOf_at a c1]
      have ex := vOf_all ax c2
      subst ex
      refine ⟨p, _, rfl, .inr (SqT.of (s _ _ hp)), flat_vOf c1, flat_all c2, ?_⟩
      rw [inV_map]
      exact k _ B H (Grow.refl s) (.bl _)
    · cases e
  · cases e
end Cm

/-! Mirrors: what is walked, what is written, isinstance, the script. -/
namespace Cm
open PySem PySem.Spec PyProof.Rows L2 Cf
variable [LT]

/-! ### iterations -/
theorem PI.imp {X : Cx} {tg e : Expr} {t t' : TI} (h : PI X tg e t) (k : ∀ σ H Q, t' σ H Q → t σ H Q) : PI X tg e t' := ⟨fun pins s σ H Q I z => h.run pins s σ H Q I (k σ H Q z)⟩
theorem iter_list {K : PySem.W.Frag} {B : Hp} {a : Addr} {xs : List V} {ds : List PyData} (h : SqL K B a xs) (al : AtL B xs ds) : IterOk B (Itl K a) ds := by
  have w := walk_list (K := K) (a := a) (xs := xs)
  have hl := al.length
  refine ⟨fun i H hi s => w.goes i H (by omega) (s.seq h), fun H s => by rw [← hl]; exact w.stops H (s.seq h), fun i H x H2 hi s y => ?_⟩
  obtain ⟨rfl, hx⟩ := w.yields i H x H2 (by omega) (s.seq h) y
  obtain ⟨d, ed, ad⟩ := al.get2 hx
  exact ⟨d, ed, fun B1 s1 s2 => ⟨B1, Grow.refl s2, ad.up s1⟩⟩
theorem iter_tup {K : PySem.W.Frag} {B : Hp} {a : Addr} {xs : List V} {ds : List PyData} (h : B a = some (.tup xs)) (al : AtL B xs ds) : IterOk B (Itt K a) ds := by
  have w := walk_tup (K := K) (a := a) (xs := xs)
  have hl := al.length
  refine ⟨fun i H hi s => w.goes i H (by omega) (SqT.of (s _ _ h)), fun H s => by rw [← hl]; exact w.stops H (SqT.of (s _ _ h)), fun i H x H2 hi s y => ?_⟩
  obtain ⟨rfl, hx⟩ := w.yields i H x H2 (by omega) (SqT.of (s _ _ h)) y
  obtain ⟨d, ed, ad⟩ := al.get2 hx
  exact ⟨d, ed, fun B1 s1 s2 => ⟨B1, Grow.refl s2, ad.up s1⟩⟩
def rngD (lo : Int) (n : Nat) : List PyData := (List.range n).map fun i => .int (lo + (i : Nat))
theorem iter_range {B : Hp} {lo : Int} {n : Nat} : IterOk B (Itr lo n) (rngD lo n) := by
  have w := walk_range (lo := lo) (n := n)
  have hl : (rngD lo n).length = n := by unfold rngD; simp
  refine ⟨fun i H hi s => w.goes i H (by omega) trivial, fun H s => by rw [hl]; exact w.stops H trivial, fun i H x H2 hi s y => ?_⟩
  obtain ⟨rfl, rfl⟩ := w.yields i H x H2 (by omega) trivial y
  refine ⟨.int (lo + (i : Nat)), ?_, fun B1 s1 s2 => ⟨B1, Grow.refl s2, .int _⟩⟩
  unfold rngD
  rw [List.getElem?_map, List.getElem?_range (by omega)]
  rfl
def rngC (lo c : Int) (n : Nat) : List PyData := (List.range n).map fun i => .int (lo + (i : Nat) * c)
theorem iter_rangeC {B : Hp} {lo c : Int} {n : Nat} : IterOk B (Itc lo c n) (rngC lo c n) := by
  have w := walk_rangeC (lo := lo) (c := c) (n := n)
  have hl : (rngC lo c n).length = n := by unfold rngC; simp
  refine ⟨fun i H hi s => w.goes i H (by omega) trivial, fun H s => by rw [hl]; exact w.stops H trivial, fun i H x H2 hi s y => ?_⟩
  obtain ⟨rfl, rfl⟩ := w.yields i H x H2 (by omega) trivial y
  refine ⟨.int (lo + (i : Nat) * c), ?_, fun B1 s1 s2 => ⟨B1, Grow.refl s2, .int _⟩⟩
  unfold rngC
  rw [List.getElem?_map, List.getElem?_range (by omega)]
  rfl
def enumD (ds : List PyData) : List PyData := ds.mapIdx fun i d => .tuple [.int (i : Nat), d]
theorem iter_enum {K : PySem.W.Frag} {B : Hp} {a : Addr} {xs : List V} {ds : List PyData} (h : SqL K B a xs) (al : AtL B xs ds) : IterOk B (Ite K a) (enumD ds) := by
  have w := walk_enum (K := K) (a := a) (xs := xs)
  have hl : (enumD ds).length = xs.length := by unfold enumD; rw [List.length_mapIdx, al.length]
  refine ⟨fun i H hi s => w.goes i H (by omega) (s.seq h), fun H s => by rw [hl]; exact w.stops H (s.seq h), fun i H x H2 hi s y => ?_⟩
  obtain ⟨T, x1, x2, rfl, nT, rfl, e1, e2⟩ := w.yields i H x H2 (by omega) (s.seq h) y
  cases e1
  obtain ⟨d, ed, ad⟩ := al.get2 e2
  refine ⟨.tuple [.int (i : Nat), d], ?_, fun B1 s1 s2 => ⟨_, Grow.new s2 nT, .tup upd_same (.cons (.int _) (.cons ((ad.up s1).up (same_new (s2.free nT))) .nil))⟩⟩
  unfold enumD
  rw [List.getElem?_mapIdx, ed]
  rfl
def zipD (ds es : List PyData) : List PyData := List.zipWith (fun d e => .tuple [d, e]) ds es
theorem iter_zip {K : PySem.W.Frag} {B : Hp} {a b : Addr} {xs ys : List V} {ds es : List PyData} (h : SqL K B a xs) (h' : SqL K B b ys) (al : AtL B xs ds) (bl : AtL B ys es) : IterOk B (Itz K a b) (zipD ds es) := by
  have w := walk_zip (K := K) (a := a) (b := b) (xs := xs) (ys := ys) rfl
  have hl : (zipD ds es).length = min xs.length ys.length := by unfold zipD; rw [List.length_zipWith, al.length, bl.length]
  refine ⟨fun i H hi s => w.goes i H (by omega) ⟨s.seq h, s.seq h'⟩, fun H s => by rw [hl]; exact w.stops H ⟨s.seq h, s.seq h'⟩, fun i H x H2 hi s y => ?_⟩
  obtain ⟨T, x1, x2, rfl, nT, rfl, e1, e2⟩ := w.yields i H x H2 (by omega) ⟨s.seq h, s.seq h'⟩ y
  obtain ⟨d, ed, ad⟩ := al.get2 e1
  obtain ⟨e, ee, ae⟩ := bl.get2 e2
  refine ⟨.tuple [d, e], ?_, fun B1 s1 s2 => ⟨_, Grow.new s2 nT, .tup upd_same (.cons ((ad.up s1).up (same_new (s2.free nT))) (.cons ((ae.up s1).up (same_new (s2.free nT))) .nil))⟩⟩
  unfold zipD
  rw [List.getElem?_zipWith, ed, ee]
def asL : PyData → Option (List PyData)
  | .list ds => some ds
  | _ => none
theorem asL_some {d : PyData} {ds : List PyData} (h : asL d = some ds) : d = .list ds := by
  cases d <;> simp [asL] at h
  rw [h]
def asT : PyData → Option (List PyData)
  | .tuple ds => some ds
  | _ => none
theorem asT_some {d : PyData} {ds : List PyData} (h : asT d = some ds) : d = .tuple ds := by
  cases d <;> simp [asT] at h
  rw [h]
def itL (f : M PyData) : M (List PyData) := M.bind f fun d => M.lift (asL d)
def itT (f : M PyData) : M (List PyData) := M.bind f fun d => M.lift (asT d)
def small62 (i : Int) : Bool := decide (-(2 ^ 62) ≤ i ∧ i < 2 ^ 62)
def kR1 : List PyData → Option (List PyData)
  | [.int j] => if small62 j then some (rngD 0 j.toNat) else none
  | _ => none
def kR2 : List PyData → Option (List PyData)
  | [.int i, .int j] => if small62 i && small62 j then some (rngD i (j - i).toNat) else none
  | _ => none
def kR3 : List PyData → Option (List PyData)
  | [.int i, .int j, .int (-1)] => if small62 i && small62 j then some (rngC i (-1) (i - j).toNat) else none
  | _ => none
def kEn : List PyData → Option (List PyData)
  | [.list ds] => some (enumD ds)
  | _ => none
def kZip : List PyData → Option (List PyData)
  | [.list ds, .list es] => some (zipD ds es)
  | _ => none
def itA (k : List PyData → Option (List PyData)) (fa : M (List PyData)) : M (List PyData) := M.bind fa fun xs => M.lift (k xs)
section
variable {X : Cx} {E : XK} {K : PySem.W.Frag} {tg e e2 : Expr} {es : List Expr} {f : M PyData} {fa : M (List PyData)} {p pos : Pos}
theorem i_list (hf : PE X e (tM X.mg E f)) : PI X tg e (tI X.mg E (itL f)) := PI.imp (pi_list hf) fun σ H Q ⟨A, B, ss, fp, ok, h⟩ => by
  refine ⟨A, B, ss, fp, ok, h.seq.mono fun x H1 ⟨d1, B1, ss1, fp1, ok1, a1, g1, h1⟩ => ?_⟩
  obtain ⟨ds, e, h2⟩ := lift_some h1
  rw [asL_some e] at a1
  obtain ⟨p, xs, rfl, hp, al⟩ := a1.lst_ex
  exact ⟨p, rfl, ⟨xs, SqL.of (ok1.sm _ _ hp)⟩, Res.now (rel := IterOk) ok1 h2 _ (iter_list (SqL.of hp) al)⟩
theorem i_tup (hf : PE X e (tM X.mg E f)) : PI X tg e (tI X.mg E (itT f)) := PI.imp (pi_tup hf) fun σ H Q ⟨A, B, ss, fp, ok, h⟩ => by
  refine ⟨A, B, ss, fp, ok, h.seq.mono fun x H1 ⟨d1, B1, ss1, fp1, ok1, a1, g1, h1⟩ => ?_⟩
  obtain ⟨ds, e, h2⟩ := lift_some h1
  rw [asT_some e] at a1
  obtain ⟨p, xs, rfl, hp, al⟩ := a1.tup_ex
  exact ⟨p, rfl, ⟨xs, SqT.of (ok1.sm _ _ hp)⟩, Res.now (rel := IterOk) ok1 h2 _ (iter_tup hp al)⟩
theorem i_range1 (hg : Gl X "range") (hm : X.mg "range" = none) (ha : PA X [e] (tA X.mg E fa)) (hs : starEach [e] X.env = [(false, eval e X.env)] := by rfl) : PI X tg (.Call (.Name "range" p) [e] [] pos) (tI X.mg E (itA kR1 fa)) := PI.imp (pi_range1 hg hm ha hs) fun σ H Q ⟨A, B, ss, fp, ok, h⟩ => by
  refine ⟨A, B, ss, fp, ok, h.seq.mono fun xs H1 ⟨ds, B1, ss1, fp1, ok1, a1, g1, h1⟩ => ?_⟩
  obtain ⟨rs, er, h2⟩ := lift_some h1
  unfold kR1 at er
  split at er
  · split at er
    · rename_i j c
      cases er
      have c := of_decide_eq_true c
      cases a1 with
      | cons b1 r =>
        cases r
        rw [b1.int_eq]
        exact ⟨j, rfl, c.1, c.2, Res.now (rel := IterOk) ok1 h2 _ iter_range⟩
    · cases er
  · cases er
theorem i_range2 (hg : Gl X "range") (hm : X.mg "range" = none) (ha : PA X [e, e2] (tA X.mg E fa)) (hs : starEach [e, e2] X.env = [(false, eval e X.env), (false, eval e2 X.env)] := by rfl) (hs2 : starEach [e2] X.env = [(false, eval e2 X.env)] := by rfl) : PI X tg (.Call (.Name "range" p) [e, e2] [] pos) (tI X.mg E (itA kR2 fa)) := PI.imp (pi_range2 hg hm ha hs hs2) fun σ H Q ⟨A, B, ss, fp, ok, h⟩ => by
  refine ⟨A, B, ss, fp, ok, h.seq.mono fun xs H1 ⟨ds, B1, ss1, fp1, ok1, a1, g1, h1⟩ => ?_⟩
  obtain ⟨rs, er, h2⟩ := lift_some h1
  unfold kR2 at er
  split at er
  · split at er
    · rename_i i j c
      cases er
      obtain ⟨c1, c2⟩ := Bool.and_eq_true_iff.mp c
      have c1 := of_decide_eq_true c1
      have c2 := of_decide_eq_true c2
      cases a1 with
      | cons b1 r =>
        cases r with
        | cons b2 r =>
          cases r
          rw [b1.int_eq, b2.int_eq]
          exact ⟨i, j, rfl, ⟨c1.1, c1.2, c2.1, c2.2⟩, Res.now (rel := IterOk) ok1 h2 _ iter_range⟩
    · cases er
  · cases er
theorem i_range3 {e3 : Expr} (hg : Gl X "range") (hm : X.mg "range" = none) (ha : PA X [e, e2, e3] (tA X.mg E fa)) (h : PI X tg (.Call (.Name "range" p) [e, e2, e3] [] pos) (iRng3 (tA X.mg E fa))) : PI X tg (.Call (.Name "range" p) [e, e2, e3] [] pos) (tI X.mg E (itA kR3 fa)) := PI.imp h fun σ H Q ⟨A, B, ss, fp, ok, h⟩ => by
  refine ⟨A, B, ss, fp, ok, h.seq.mono fun xs H1 ⟨ds, B1, ss1, fp1, ok1, a1, g1, h1⟩ => ?_⟩
  obtain ⟨rs, er, h2⟩ := lift_some h1
  unfold kR3 at er
  split at er
  · split at er
    · rename_i i j c
      cases er
      obtain ⟨c1, c2⟩ := Bool.and_eq_true_iff.mp c
      have c1 := of_decide_eq_true c1
      have c2 := of_decide_eq_true c2
      cases a1 with
      | cons b1 r =>
        cases r with
        | cons b2 r =>
          cases r with
          | cons b3 r =>
            cases r
            rw [b1.int_eq, b2.int_eq, b3.int_eq]
            exact ⟨i, j, -1, _, rfl, RgC.neg c1.1 c1.2 c2.1 c2.2, Res.now (rel := IterOk) ok1 h2 _ iter_rangeC⟩
    · cases er
  · cases er
theorem i_enum {elts : List Expr} {kk : Nat} {tpos : Pos} (hg : Gl X "enumerate") (hm : X.mg "enumerate" = none) (ha : PA X [e] (tA X.mg E fa)) (hs : starEach [e] X.env = [(false, eval e X.env)] := by rfl) : PI X (.Tuple elts kk tpos) (.Call (.Name "enumerate" p) [e] [] pos) (tI X.mg E (itA kEn fa)) := PI.imp (pi_enum hg hm ha hs) fun σ H Q ⟨A, B, ss, fp, ok, h⟩ => by
  refine ⟨A, B, ss, fp, ok, h.seq.mono fun xs H1 ⟨ds, B1, ss1, fp1, ok1, a1, g1, h1⟩ => ?_⟩
  obtain ⟨rs, er, h2⟩ := lift_some h1
  unfold kEn at er
  split at er
  · cases er
    cases a1 with
    | cons b1 r =>
      cases r
      obtain ⟨p, ys, rfl, hp, al⟩ := b1.lst_ex
      exact ⟨p, ys, rfl, SqL.of (ok1.sm _ _ hp), Res.now (rel := IterOk) ok1 h2 _ (iter_enum (SqL.of hp) al)⟩
  · cases er
theorem i_zip {elts : List Expr} {kk : Nat} {tpos : Pos} (hg : Gl X "zip") (hm : X.mg "zip" = none) (ha : PA X [e, e2] (tA X.mg E fa))
    (hs : starEach [e, e2] X.env = (false, eval e X.env) :: starEach [e2] X.env := by rfl) (hpl : (backTo pos (starEach [e2] X.env)).any (·.1) = false := by rfl) : PI X (.Tuple elts kk tpos) (.Call (.Name "zip" p) [e, e2] [] pos) (tI X.mg E (itA kZip fa)) := PI.imp (pi_zip hg hm ha hs hpl) fun σ H Q ⟨A, B, ss, fp, ok, h⟩ => by
  refine ⟨A, B, ss, fp, ok, h.seq.mono fun xs H1 ⟨ds, B1, ss1, fp1, ok1, a1, g1, h1⟩ => ?_⟩
  obtain ⟨rs, er, h2⟩ := lift_some h1
  unfold kZip at er
  split at er
  · cases er
    cases a1 with
    | cons b1 r =>
      cases r with
      | cons b2 r =>
        cases r
        obtain ⟨p, ys, rfl, hp, al⟩ := b1.lst_ex
        obtain ⟨q, zs, rfl, hq, bl⟩ := b2.lst_ex
        exact ⟨p, q, ys, zs, rfl, SqL.of (ok1.sm _ _ hp), SqL.of (ok1.sm _ _ hq), Res.now (rel := IterOk) ok1 h2 _ (iter_zip (SqL.of hp) (SqL.of hq) al bl)⟩
  · cases er

/-! ### writing -/
/-- x.append(e) -/
def sApp (i : Nat) (f : M PyData) : S := fun ss => match ss[i]? with
  | some (.own _ _) => eseq f (fun d s2 => match s2[i]? with
    | some (.own lb ds) => if few ds.length then some (.nx (s2.set i (.own lb (ds ++ [d])))) else none
    | _ => none) ss
  | _ => none
theorem s_app {i : Nat} {st : Expr} (h : PE X st (tBM X.K "list" rAppend (tVar i) (tCons (tM X.mg E f) tNil))) (hs : swapsWith st none pos.line X.env = pure false := by rfl) : PS X (.Expr st pos) (tS X.mg E (sApp i f)) := PS.imp (ps_expr h hs) fun D σ H ⟨A, B, ss, fp, ok, h⟩ => by
  unfold sApp at h
  split at h
  · rename_i lb0 ds0 es
    obtain ⟨p, xs, efp, eσ, hb, hp, al, hlb⟩ := ok.own es
    refine ⟨.ref p, eσ, .inl ⟨rfl, xs, SqL.of hp⟩, A, B, ss, fp, ok, (ResS.seq (rel := At) h).mono fun y H2 ⟨d2, B2, ss2, fp2, ok2, a2, g2, h2⟩ => ?_⟩
    split at h2
    · rename_i lb ds es2
      obtain ⟨p', xs', efp', eσ', hb', hp', al', hlb'⟩ := ok2.own es2
      rw [eσ] at eσ'
      cases eσ'
      split at h2
      · rename_i c
        obtain ⟨ok3, g3⟩ := ok2.write es2 efp' (al'.append (AtL.one a2))
        exact ⟨p, xs', y, rfl, rfl, hp', by rw [al'.length]; exact few_line c, h2 _ _ _ _ g3 ok3⟩
      · exact h2.elim
    · exact h2.elim
  · exact h.elim
/-- x[k] = e -/
def sPut (i : Nat) (fk fv : M PyData) : S := eseq fv fun d => fun ss => match ss[i]? with
  | some (.own _ _) => eseq fk (fun k s2 => match s2[i]?, k with
    | some (.own lb ds), .int j => match ixN ds.length j with
      | some n => some (.nx (s2.set i (.own lb (ds.set n d))))
      | none => none
    | _, _ => none) ss
  | _ => none
theorem s_put {i : Nat} {o k v : Expr} {fk fv : M PyData} (ho : PE X o (tVar i)) (hk : PE X k (tM X.mg E fk)) (hv : PE X v (tM X.mg E fv)) {spos : Pos}
    (ha : ∀ v, assign (.Subscript o k pos) X.env v = (do
      let ov ← holding [v] (eval o X.env)
      let iv ← holding [v, ov] (eval k X.env)
      standAt pos
      holding [v, ov, iv] (setItem ov iv v)
      release [v, ov, iv] []) := by intro _; rfl)
    (hs : swapsWithSole [.Subscript o k pos] v spos.line X.env = pure false := by rfl) (hw : swappedStores [.Subscript o k pos] v X.env = pure none := by rfl) (h1 : (assignEach [.Subscript o k pos] X.env).map (·.2) = [assign (.Subscript o k pos) X.env] := by rfl) :
    PS X (.Assign [.Subscript o k pos] v spos) (tS X.mg E (sPut i fk fv)) := PS.imp (ps_asg hv (pg_sub ho hk set_list ha) hs hw h1) fun D σ H ⟨A, B, ss, fp, ok, h⟩ => by
  refine ⟨A, B, ss, fp, ok, (ResS.seq (rel := At) h).mono fun y H2 ⟨d, B2, ss2, fp2, ok2, a2, g2, h2⟩ => ?_⟩
  split at h2
  · rename_i lb0 ds0 es
    obtain ⟨p, xs, efp, eσ, hb, hp, al, hlb⟩ := ok2.own es
    refine ⟨.ref p, eσ, A, B2, ss2, fp2, ok2, (ResS.seq (rel := At) h2).mono fun z H3 ⟨d3, B3, ss3, fp3, ok3, a3, g3, h3⟩ => ?_⟩
    split at h3
    · rename_i lb ds j es3
      obtain ⟨p', xs', efp', eσ', hb', hp', al', hlb'⟩ := ok3.own es3
      rw [eσ] at eσ'
      cases eσ'
      cases q : ixN ds.length j with
      | none => rw [q] at h3; exact (show False from h3).elim
      | some n =>
        rw [q] at h3
        obtain ⟨ok4, g4⟩ := ok3.write es3 efp' (al'.set n (a2.up g3.bb))
        exact ⟨p, xs', j, n, rfl, a3.int_eq, hp', by rw [al'.length]; exact q, h3 _ _ _ _ g4 ok4⟩
    · exact h3.elim
  · exact h2.elim

/-! ### isinstance -/
def kindD : PyData → String
  | .none => "NoneType" | .bool _ => "bool" | .int _ => "int" | .str _ => "str" | .list _ => "list" | .tuple _ => "tuple" | .dict _ => "dict"
theorem At.ty {H : Hp} {v : V} {d : PyData} (h : At H v d) : TyX K H v (.type (kindD d)) := by
  cases h with
  | non => exact .base .non
  | bl b => exact .base (.bl b)
  | int i => exact .base (.int i)
  | str x => exact .base (.str x)
  | lst e a => exact .base (.lst e)
  | tup e a => exact .base (.tup e)
  | dct e a => exact .fDict e
def kIsi (T : String) (d : PyData) : Option PyData := (kitB (kindD d) T).map .bool
theorem k_isi (e : X.K = K) : CallR X (.builtin "isinstance") (rIsi K) := by subst e; exact call_isi
theorem m_isi {T : String} (ek : X.K = K) (h : PE X e (tCB (rIsi K) (tCons (tM X.mg E f) (tCons (tC (.ty T)) tNil)))) : PE X e (tM X.mg E (m1 (kIsi T) f)) := PE.imp h fun σ H Q ⟨A, B, ss, fp, ok, h⟩ => by
  refine ⟨A, B, ss, fp, ok, h.seq.mono fun x H1 ⟨d1, B1, ss1, fp1, ok1, a1, g1, h1⟩ => ?_⟩
  obtain ⟨d, e, h2⟩ := lift_some h1
  unfold kIsi at e
  cases q : kitB (kindD d1) T with
  | none => rw [q] at e; cases e
  | some b =>
    rw [q] at e
    cases e
    exact ⟨x, .ty T, _, _, b, rfl, .ty T, (a1.up ok1.sm).ty, kit_ty q, Res.now (rel := At) ok1 h2 _ (.bl b)⟩

/-! ### the script -/
open Classical in
/-- script[a:b] -/
noncomputable def mScr (K : PySem.W.Frag) (i : Nat) (lo hi : M (Option Int)) : M SV := fun ss => match ss[i]? with
  | some (.oth (.scr K' ns)) => if K' = K then M.bind lo (fun a => M.bind hi fun b => M.lift (some (.own none (cutD (ns.map .int) a b)))) ss else none
  | _ => none
theorem m_scr {i : Nat} {lo hi : Option Expr} {fl fh : M (Option Int)} {p2 : Pos} (hf : PE X e (tVar i)) (hl : PO X lo (tP X.mg E fl)) (hh : PO X hi (tP X.mg E fh)) : PE X (.Subscript e (.Slice lo hi none p2) pos) (tV X.mg E (mScr X.K i fl fh)) :=
  PE.imp (pe_slice (sl_list : SlR X (rSlL X.K)) hf hl hh) fun σ H Q ⟨A, B, ss, fp, ok, h⟩ => by
    unfold mScr at h
    split at h
    · rename_i K ns es
      split at h
      case isFalse => exact h.elim
      rename_i eK
      subst eK
      obtain ⟨x, eσ, a, rfl, hq⟩ := ok.oth es
      refine ⟨.ref a, eσ, A, B, ss, fp, ok, (ResV.seq (rel := fun _ a b => a = b) h).mono fun lo H2 ⟨l2, B2, ss2, fp2, ok2, a2, g2, h2⟩ => ⟨A, B2, ss2, fp2, ok2, (ResV.seq (rel := fun _ a b => a = b) h2).mono fun hi H3 ⟨l3, B3, ss3, fp3, ok3, a3, g3, h3⟩ => ?_⟩⟩
      obtain ⟨r, er, h4⟩ := liftV_some h3
      subst a2
      subst a3
      cases er
      exact ⟨a, _, rfl, ok3.sm.seq (g3.bb.seq (g2.bb.seq hq)), h4.list ok3 (AtL.ints.cut _ _)⟩
    · exact h.elim

/-! ### for x in [f(c) for c in cs], the new lists each of its own -/
def lcGoO (vs : List Nat) (b : PyData → List SV → Option (List SV)) (f : M SV) : List PyData → List (List PyData) → List SV → Option (List (List PyData) × List SV)
  | [], acc, ss => some (acc, ss)
  | d :: ds, acc, ss => match b d ss with
    | none => none
    | some s1 => match f s1 with
      | some (.val (.own none es) s3) => if few acc.length then lcGoO vs b f ds (acc ++ [es]) (wipeS s3 vs) else none
      | _ => none
def forGoO (i : Nat) (body : S) : List (List PyData) → List SV → Option Out
  | [], ss => some (.nx ss)
  | d :: ds, ss => if i < ss.length then match body (ss.set i (.own none d)) with
      | some (.nx s2) => forGoO i body ds (s2.set i .gone)
      | some (.ct s2) => forGoO i body ds (s2.set i .gone)
      | some (.bk s2) => some (.nx s2)
      | o => o
    else none
def sForO (vs : List Nat) (it : M (List PyData)) (b : PyData → List SV → Option (List SV)) (f : M SV) (i : Nat) (body : S) : S := eseq it fun ds ss => match lcGoO vs b f ds [] (wipeS ss vs) with
  | some (ls, s2) => forGoO i body ls s2
  | none => none
end
/-- lists that are tracked, each alone, beside the slots; D: the list of them -/
structure Kids (B H : Hp) (fp : Nat → Option Addr) (D : Addr) (ps : List Addr) (dss : List (List PyData)) : Prop where
  nd : (D :: ps).Nodup
  len : ps.length = dss.length
  kid : ∀ (j : Nat) (p : Addr), ps[j]? = some p → ∃ xs ds, dss[j]? = some ds ∧ H p = some (.lst xs) ∧ B p = none ∧ AtL B xs ds ∧ ∀ i, fp i ≠ some p
theorem gr_stay {fp fp2 : Nat → Option Addr} {B H B2 H2 : Hp} {D : Addr} {o : HO} (g : Gr fp fp2 B H B2 H2) (e1 : H D = some o) (e2 : B D = none) (e3 : ∀ j, fp j ≠ some D) (n : NT o := by intro _ z; cases z) : H2 D = some o ∧ B2 D = none ∧ ∀ j, fp2 j ≠ some D := by
  refine ⟨g.hh0 D _ e3 e1 n, g.fr D e3 e1 e2 n, fun j ej => ?_⟩
  rcases g.nw j D ej with ⟨k, z⟩ | z
  · exact e3 k z
  · exact z.no e1 n
theorem Kids.gr {fp fp2 : Nat → Option Addr} {B H B2 H2 : Hp} {D : Addr} {ps : List Addr} {dss : List (List PyData)} (h : Kids B H fp D ps dss) (g : Gr fp fp2 B H B2 H2) : Kids B2 H2 fp2 D ps dss :=
  ⟨h.nd, h.len, fun j p e => by
    obtain ⟨xs, ds, e1, e2, e3, a, nf⟩ := h.kid j p e
    obtain ⟨f1, f2, f3⟩ := gr_stay g e2 e3 nf
    exact ⟨xs, ds, e1, f1, f2, a.up g.bb, f3⟩⟩
section
variable {X : Cx} {E : XK}
theorem s_forO {vs : List Nat} {i : Nat} {t : TG} {b : PyData → List SV → Option (List SV)} {it : M (List PyData)} {fv : M SV} {body : S} (G : GOk vs t b) {D0 : Ends} {σ : L2.St} {H : Hp} (h : tS X.mg E (sForO vs it b fv i body) D0 σ H) :
    tFor (iList X.K (tLc (tI X.mg E it) t tYes (tV X.mg L2.E0 fv) vs)) (gName i) (tS X.mg E body) D0 σ H := by
  obtain ⟨A, B, ss, fp, ok, h⟩ := h
  refine ⟨A, B, ss, fp, ok, (ResS.seq (rel := IterOk) h).mono fun J H1 ⟨ds, B1, ss1, fp1, ok1, J1, g1, h1⟩ D hD => ?_⟩
  obtain ⟨jg, js, jy⟩ := J1
  have h1 : ResS X.mg E A B1 fp1 H1 (match lcGoO vs b fv ds [] (wipeS ss1 vs) with | some (ls, s2) => forGoO i body ls s2 | none => none) D0 := h1
  generalize hT : lcGoO vs b fv ds [] (wipeS ss1 vs) = T at h1
  have nn : T ≠ none := fun z => by
    rw [z] at h1
    exact (show False from h1).elim
  obtain ⟨fpw, okw, gw⟩ := ok1.wipe vs
  refine ⟨fun k m H => m = ds.length - k ∧ k ≤ ds.length ∧ ∃ B2 s fp2 ps dss, Same B1 B2 ∧ Ok A B2 H (wipe σ vs) (wipeS s vs) fp2 ∧ Gr fp1 fp2 B1 H1 B2 H ∧ H D = some (.lst (ps.map V.ref)) ∧ B2 D = none ∧ (∀ j, fp2 j ≠ some D) ∧ Kids B2 H fp2 D ps dss ∧ (∀ p ∈ ps, (∃ j, fp1 j = some p) ∨ NF H1 p) ∧ lcGoO vs b fv (ds.drop k) dss (wipeS s vs) = T, ⟨ds.length, by omega, Nat.zero_le _, B1, ss1, fpw, [], [], Same.refl _, okw.grow (Same.refl _) (ok1.sm.trans (same_new hD)) (same_new hD) (fun _ _ z => z), gw.trans (Grow.own ok1.sm hD).gr, upd_same, ok1.sm.free hD, fun j e => ?_, ⟨by simp, rfl, fun j p e => by simp at e⟩, (fun p m => nomatch m), hT⟩, ?_⟩
  · obtain ⟨_, o, ho⟩ := okw.hasO e
    rw [hD] at ho
    cases ho
  rintro k m H ⟨rfl, hi, B2, s, fp2, ps, dss, s2, ok2, g2, hDx, hDB, hDf, kids, org, el⟩
  by_cases hlt : k < ds.length
  · refine .inr ⟨jg k H hlt (s2.trans ok2.sm), fun H' => ∃ B2 s fp2 ps dss, Same B1 B2 ∧ Ok A B2 H' (wipe σ vs) (wipeS s vs) fp2 ∧ Gr fp1 fp2 B1 H1 B2 H' ∧ H' D = some (.lst (ps.map V.ref)) ∧ B2 D = none ∧ (∀ j, fp2 j ≠ some D) ∧ Kids B2 H' fp2 D ps dss ∧ (∀ p ∈ ps, (∃ j, fp1 j = some p) ∨ NF H1 p) ∧ lcGoO vs b fv (ds.drop (k + 1)) dss (wipeS s vs) = T, fun H' h' => ⟨ds.length - (k + 1), by omega, rfl, hlt, h'⟩, fun x H' y => ?_⟩
    obtain ⟨d, ed, hd⟩ := jy k H x H' hlt (s2.trans ok2.sm) y
    obtain ⟨B3, g3, a3⟩ := hd B2 s2 ok2.sm
    have e : ds.drop k = d :: ds.drop (k + 1) := by
      rw [List.drop_eq_getElem_cons hlt]
      have : ds[k] = d := by
        rw [List.getElem?_eq_getElem hlt] at ed
        exact Option.some.inj ed
      rw [this]
    rw [e] at el
    unfold lcGoO at el
    cases q : b d (wipeS s vs) with
    | none => rw [q] at el; exact absurd el.symm nn
    | some s1 =>
      rw [q] at el
      dsimp only at el
      have ok3 := ok2.up g3
      obtain ⟨t1, t2, t3⟩ := gr_stay (g3.gr (fp := fp2)) hDx hDB hDf
      have kids3 := kids.gr (g3.gr (fp := fp2))
      refine G A B3 H' (wipe σ vs) (wipeS s vs) fp2 x d s1 _ ok3 a3 q fun σ4 fp4 w4 ok4 g4 => ?_
      obtain ⟨t4, t5, t6⟩ := gr_stay g4 t1 t2 t3
      have kids4 := kids3.gr g4
      rw [wipe_idem] at w4
      refine ⟨w4, ?_⟩
      unfold tYes
      dsimp only
      rw [if_pos rfl]
      refine ⟨A, B3, s1, fp4, ok4, ?_⟩
      cases qf : fv s1 with
      | none => rw [qf] at el; exact absurd el.symm nn
      | some rf =>
        rw [qf] at el
        cases rf with
        | exc c fs => exact absurd el.symm nn
        | val r s6 =>
          intro yv B6 H6 fp6 g6 ok6
          cases r with
          | gone => exact absurd el.symm nn
          | dat d => exact absurd el.symm nn
          | oth t => exact absurd el.symm nn
          | odk _ _ => exact absurd el.symm nn
          | own lb es =>
            cases lb with
            | some l => exact absurd el.symm nn
            | none =>
              dsimp only at el
              obtain ⟨t10, t11, t12⟩ := gr_stay g6 t4 t5 t6
              have kids6 := kids4.gr g6
              by_cases cf : few dss.length = true
              · rw [if_pos cf] at el
                obtain ⟨p, xs, ep, ev, hb, hp, ax, _⟩ := ok6.own (i := s6.length) (lb := none) (ds := es) (by rw [List.getElem?_concat_length])
                have hl6 : σ4.length = s6.length := by
                  have := ok6.len
                  simp only [List.length_append, List.length_cons, List.length_nil] at this
                  omega
                rw [← hl6, List.getElem?_concat_length] at ev
                cases ev
                have ok7 := ok6.pop
                obtain ⟨fp7, ok8, g8⟩ := ok7.wipe vs
                rw [w4] at ok8
                have gc : Gr fp6 fp7 B6 H6 B6 H6 := gr_cut.trans g8
                obtain ⟨t13, t14, t15⟩ := gr_stay gc t10 t11 t12
                have kids7 := kids6.gr gc
                have pD : p ≠ D := fun z => t12 _ (by rw [← z]; exact ep)
                have pn : ∀ j, fp7 j ≠ some p := fun j ej => by
                  have : ∃ k, cut s6.length fp6 k = some p := by
                    rcases g8.nw j p ej with z | z
                    · exact z
                    · exact z.no hp
                  obtain ⟨k2, ek⟩ := this
                  unfold cut at ek
                  split at ek
                  · have := ok6.inj _ _ _ ek ep
                    omega
                  · cases ek
                have pk : p ∉ ps := fun m => by
                  obtain ⟨j, hj⟩ := List.mem_iff_getElem?.mp m
                  obtain ⟨_, _, _, _, _, _, nf⟩ := kids6.kid j p hj
                  exact nf _ ep
                have nd : ∀ bb o, B6 bb = some o → bb ≠ D := fun bb o eb z => by
                  rw [z, t11] at eb
                  cases eb
                have ok9 : Ok A B6 (upd H6 D (.lst (ps.map V.ref ++ [V.ref p]))) (wipe σ vs) (wipeS s6 vs) fp7 := by
                  refine ⟨fun bb o eb => ?_, ok8.len, fun j t et => (ok8.sl j t et).grow (Same.refl _) fun r er => ⟨(ok8.hasO er).1, upd_ne fun z => t15 j (by rw [← z]; exact er)⟩, ok8.inj, ok8.out, ok8.tb.upd t13⟩
                  rw [upd_ne (nd bb o eb)]
                  exact ok8.sm bb o eb
                have gall : Gr fp1 fp7 B1 H1 B6 H6 := (((g2.trans g3.gr).trans g4).trans g6).trans gc
                have ndk := kids7.nd
                refine ⟨ps.map V.ref, t13, by rw [List.length_map, kids7.len]; exact few_line cf, B6, s6, fp7, ps ++ [p], dss ++ [es], (s2.trans g3.bb).trans g6.bb, ok9, gall.upd (.inr (.of hD)) t13, by rw [upd_same, List.map_append]; rfl, t11, t15, ⟨?_, by rw [List.length_append, List.length_append, kids7.len]; rfl, fun j p2 ej => ?_⟩, fun p2 m => ?_, el⟩
                · rw [← List.cons_append, List.nodup_append]
                  refine ⟨ndk, by simp, fun a ha b2 hb2 => ?_⟩
                  rw [List.mem_singleton] at hb2
                  subst hb2
                  rcases List.mem_cons.mp ha with z | z
                  · rw [z]; exact Ne.symm pD
                  · exact fun y => pk (y ▸ z)
                · by_cases c : j < ps.length
                  · rw [List.getElem?_append_left c] at ej
                    obtain ⟨xs2, ds2, e1, e2, e3, a, nf⟩ := kids7.kid j p2 ej
                    refine ⟨xs2, ds2, by rw [List.getElem?_append_left (by rw [← kids7.len]; exact c)]; exact e1, ?_, e3, a, nf⟩
                    rw [upd_ne fun z => ?_]
                    · exact e2
                    · rw [List.nodup_cons] at ndk
                      exact ndk.1 (z ▸ List.mem_of_getElem? ej)
                  · have hj := (List.getElem?_eq_some_iff.mp ej).1
                    rw [List.length_append, List.length_singleton] at hj
                    have ej2 : j = ps.length := by omega
                    subst ej2
                    rw [List.getElem?_concat_length] at ej
                    cases ej
                    refine ⟨xs, es, by rw [kids7.len, List.getElem?_concat_length], ?_, hb, ax, pn⟩
                    rw [upd_ne pD]
                    exact hp
                · rcases List.mem_append.mp m with z | z
                  · exact org p2 z
                  · rw [List.mem_singleton] at z
                    subst z
                    exact (((g2.trans g3.gr).trans g4).trans g6).nw _ _ ep
              · rw [if_neg cf] at el
                exact absurd el.symm nn
  · have ek : k = ds.length := by omega
    subst ek
    rw [List.drop_length] at el
    refine .inl ⟨js H (s2.trans ok2.sm), D, rfl, ⟨_, SqL.of hDx⟩, ?_⟩
    -- the loop
    rw [← el] at h1
    have h1 : ResS X.mg E A B1 fp1 H1 (forGoO i body dss (wipeS s vs)) D0 := h1
    have okf : Ok A B2 H σ (wipeS s vs) fp2 := Ok.rewipe (τ := wipe σ vs) (by rw [wipe_idem]; exact ok2) wipe_idem
    refine ⟨fun n m σ H => m = dss.length - n ∧ n ≤ dss.length ∧ ∃ B2 ss fp, Ok A B2 H σ ss fp ∧ Gr fp1 fp B1 H1 B2 H ∧ H D = some (.lst (ps.map V.ref)) ∧ B2 D = none ∧ (∀ j, fp j ≠ some D) ∧ Kids B2 H fp D (ps.drop n) (dss.drop n) ∧ ResS X.mg E A B1 fp1 H1 (forGoO i body (dss.drop n) ss) D0, ⟨dss.length, by omega, Nat.zero_le _, B2, _, fp2, okf, g2, hDx, hDB, hDf, kids, h1⟩, ?_⟩
    rintro n m σ H ⟨rfl, hn, B2, ss, fp2, ok2, g2, hDx, hDB, hDf, kn, h2⟩
    by_cases hlt : n < dss.length
    · have hlp : n < ps.length := by rw [kids.len]; exact hlt
      refine .inr ⟨⟨_, .ref ps[n], SqL.of hDx, by rw [List.getElem?_map, List.getElem?_eq_getElem hlp]; rfl⟩, fun σ' H' => ∃ B2 ss fp, Ok A B2 H' σ' ss fp ∧ Gr fp1 fp B1 H1 B2 H' ∧ H' D = some (.lst (ps.map V.ref)) ∧ B2 D = none ∧ (∀ j, fp j ≠ some D) ∧ Kids B2 H' fp D (ps.drop (n + 1)) (dss.drop (n + 1)) ∧ ResS X.mg E A B1 fp1 H1 (forGoO i body (dss.drop (n + 1)) ss) D0, fun σ' H' h' => ⟨dss.length - (n + 1), by omega, rfl, hlt, h'⟩, fun x H' y => ?_⟩
      obtain ⟨rfl, hx⟩ := y
      have hx2 := hx _ (SqL.of hDx)
      rw [List.getElem?_map, List.getElem?_eq_getElem hlp] at hx2
      have ex : x = .ref ps[n] := (Option.some.inj hx2).symm
      subst ex
      have e : dss.drop n = dss[n] :: dss.drop (n + 1) := List.drop_eq_getElem_cons hlt
      have e' : ps.drop n = ps[n] :: ps.drop (n + 1) := List.drop_eq_getElem_cons hlp
      obtain ⟨xs, ds0, e1, e2, e3, ax, nf⟩ := kn.kid 0 ps[n] (by rw [e']; rfl)
      rw [e] at e1
      cases e1
      rw [e] at h2
      unfold forGoO at h2
      by_cases hi2 : i < ss.length
      · rw [if_pos hi2] at h2
        have okS : Ok A B2 H' (σ.set i (some (.ref ps[n]))) (ss.set i (.own none dss[n])) (fset fp2 i (some ps[n])) := ok2.set hi2 ⟨_, xs, rfl, rfl, e3, e2, ax, fun k z => nomatch z⟩ fun j p _ ep => by cases ep; exact nf j
        have gS : Gr fp1 (fset fp2 i (some ps[n])) B1 H1 B2 H' := g2.sub (fun _ h => h) fun j bb ej => by
          by_cases c : j = i
          · rw [c, fset_same] at ej
            cases ej
            exact org _ (List.getElem_mem hlp)
          · rw [fset_ne c] at ej
            exact g2.nw j bb ej
        have ndn := kn.nd
        rw [e', List.nodup_cons, List.nodup_cons] at ndn
        have hDf' : ∀ j, fset fp2 i (some ps[n]) j ≠ some D := fun j ej => by
          by_cases c : j = i
          · rw [c, fset_same] at ej
            cases ej
            exact ndn.1 List.mem_cons_self
          · rw [fset_ne c] at ej
            exact hDf j ej
        have rest : Kids B2 H' (fset fp2 i (some ps[n])) D (ps.drop (n + 1)) (dss.drop (n + 1)) := by
          refine ⟨List.nodup_cons.mpr ⟨fun m => ndn.1 (List.mem_cons_of_mem _ m), ndn.2.2⟩, by rw [List.length_drop, List.length_drop, kids.len], fun j p ej => ?_⟩
          obtain ⟨xs2, ds2, f1, f2, f3, a, nf2⟩ := kn.kid (j + 1) p (by rw [e', List.getElem?_cons_succ]; exact ej)
          rw [e] at f1
          refine ⟨xs2, ds2, by rw [List.getElem?_cons_succ] at f1; exact f1, f2, f3, a, fun j2 ej2 => ?_⟩
          by_cases c : j2 = i
          · rw [c, fset_same] at ej2
            cases ej2
            exact ndn.2.1 (List.mem_of_getElem? ej)
          · rw [fset_ne c] at ej2
            exact nf2 j2 ej2
        refine ⟨A, B2, _, _, okS, ?_⟩
        have on : ∀ {s5 : List SV} {σ5 : L2.St} {B5 H5 : Hp} {fp5 : Nat → Option Addr}, ResS X.mg E A B1 fp1 H1 (forGoO i body (dss.drop (n + 1)) (s5.set i .gone)) D0 → Gr (fset fp2 i (some ps[n])) fp5 B2 H' B5 H5 → Ok A B5 H5 σ5 s5 fp5 →
            ∃ B2 ss fp, Ok A B2 H5 σ5 ss fp ∧ Gr fp1 fp B1 H1 B2 H5 ∧ H5 D = some (.lst (ps.map V.ref)) ∧ B2 D = none ∧ (∀ j, fp j ≠ some D) ∧ Kids B2 H5 fp D (ps.drop (n + 1)) (dss.drop (n + 1)) ∧ ResS X.mg E A B1 fp1 H1 (forGoO i body (dss.drop (n + 1)) ss) D0 := fun {s5 σ5 B5 H5 fp5} h5 g5 ok5 => by
          obtain ⟨d1, d2, d3⟩ := gr_stay g5 hDx hDB hDf'
          by_cases c : i < s5.length
          · obtain ⟨d4, d5, d6⟩ := gr_stay (gr_none (fp := fp5) (i := i) (B := B5) (H := H5)) d1 d2 d3
            exact ⟨B5, _, _, ok5.drop c, (gS.trans g5).trans gr_none, d4, d5, d6, (rest.gr g5).gr gr_none, h5⟩
          · rw [List.set_eq_of_length_le (by omega)] at h5
            exact ⟨B5, _, _, ok5, gS.trans g5, d1, d2, d3, rest.gr g5, h5⟩
        cases qo : body (ss.set i (.own none dss[n])) with
        | none => rw [qo] at h2; exact (show False from h2).elim
        | some o =>
          rw [qo] at h2
          cases o with
          | nx s5 => exact fun σ5 B5 H5 fp5 g5 ok5 => on h2 g5 ok5
          | ct s5 => exact fun σ5 B5 H5 fp5 g5 ok5 => on h2 g5 ok5
          | bk s5 => exact (h2.shift gS : ResS X.mg E A B2 _ H' (some (.nx s5)) D0)
          | rt r s5 => exact h2.shift gS
          | ex c fs => exact h2.shift gS
      · rw [if_neg hi2] at h2
        exact (show False from h2).elim
    · have en : n = dss.length := by omega
      subst en
      rw [List.drop_length] at h2
      exact .inl ⟨⟨_, SqL.of hDx, by rw [List.length_map, kids.len]; exact Nat.le_refl _⟩, (h2.shift g2 : ResS X.mg E A B2 fp2 H (some (.nx ss)) D0) σ B2 H fp2 Gr.refl ok2⟩
/-- for x in [f(c) for c in ..]: body -/
theorem s_forOwn {tg1 iter1 elt : Expr} {scope : Scope} {own : List (Str × Nat)} {i : Nat} {x : Str} {xp pos pos2 : Pos} {t : TG} {b : PyData → List SV → Option (List SV)} {it : M (List PyData)} {fv : M SV} {body : S} {bst : List Stmt} (G : GOk (own.map (·.2)) t b)
    (hp : PassesOwn (model X.prog X.w) X.A X.env X.xe) (hc : X.calm = true) (hN : X.N.Nodup) (hi : X.N[i]? = some x) (hx : Loc X.env.scope x) (hit : PI X tg1 iter1 (tI X.mg E it)) (ok : BlkOk X.N X.env.scope scope own)
    (hg : ∀ (s : Shared) (H : Hp) (C : Addr) (cl : List (Str × Addr)) (fp : List Addr), PG (X.blk s H scope (compEnvC scope cl C X.env) fp) tg1 t)
    (he : ∀ (s : Shared) (H : Hp) (C : Addr) (cl : List (Str × Addr)) (fp : List Addr), PE (X.blk s H scope (compEnvC scope cl C X.env) fp) elt (tV X.mg L2.E0 fv)) (hb : PSs X bst (tS X.mg E body))
    (hs1 : ∀ x, foldedSetIterable iter1 X.env x = pure x := by intro _; rfl) (hs2 : ∀ x, foldedSetIterable (.ListComp elt [⟨tg1, iter1, [], 0⟩] scope pos2) X.env x = pure x := by intro _; rfl) (hf : X.fn x = true ∨ X.env.scope.names.lookup x = some .local := by first | exact .inl rfl | exact .inr rfl | assumption) :
    PS X (.For (.Name x xp) (.ListComp elt [⟨tg1, iter1, [], 0⟩] scope pos2) bst [] pos) (tS X.mg E (sForO (own.map (·.2)) it b fv i body)) :=
  PS.imp (ps_for hp hc (pi_list (pe_lc (tt := tYes) hc hN hit ok hg (fun _ _ _ _ _ => pts_nil) he hs1)) (pg_name hN hi hx hf) hb hs2) fun D σ H h => s_forO G h
end
end Cm

/-! Mirrors: what the assembled texts name. -/
namespace Cm
open PySem PySem.Spec PyProof.Rows L2 Cf
variable [LT]

section
variable {X : Cx} {K : PySem.W.Frag}
theorem k_len (e : X.K = K) : CallR X (.builtin "len") (fun xs H Q => ∃ p ys, xs = [.ref p] ∧ (SqL K H p ys ∨ SqT K H p ys) ∧ Q (.int ys.length) H) := by subst e; exact call_len_seq
theorem k_eqD (e : X.K = K) (hu : X.A.units + 64 < cLine) : OpR X (compareOp .Eq) (rEqD K) := by subst e; exact op_eqD hu
theorem k_neD (e : X.K = K) (hu : X.A.units + 64 < cLine) : OpR X (compareOp .NotEq) (rNeD K) := by subst e; exact op_neD hu
theorem k_in (e : X.K = K) : OpR X (compareOp .In) (rIn K false) := by subst e; exact op_in_seq
theorem k_notin (e : X.K = K) : OpR X (compareOp .NotIn) (rIn K true) := by subst e; exact op_notIn_seq
theorem k_repr (e : X.K = K) (hc : Calm X.A) (hu : X.A.units + 200 < cLine) : CallR X (.builtin "repr") (rRepr K) := by subst e; exact call_repr hc hu
theorem k_list_of (e : X.K = K) : CallR X (.type "list") (fun xs H Q => ∃ p ys, xs = [.ref p] ∧ (SqL K H p ys ∨ SqT K H p ys) ∧ ∀ l, H l = none → Q (.ref l) (upd H l (.lst ys))) := by subst e; exact call_list_of
theorem k_tuple_of (e : X.K = K) : CallR X (.type "tuple") (fun xs H Q => ∃ p ys, xs = [.ref p] ∧ ((SqL K H p ys ∧ ∀ l, H l = none → Q (.ref l) (upd H l (.tup ys))) ∨ (SqT K H p ys ∧ Q (.ref p) H))) := by subst e; exact call_tuple_of
theorem k_index (e : X.K = K) : MtR X "list.index" (rIndex K) := by subst e; exact mt_index
theorem k_sum (e : X.K = K) (hc : X.calm = true) : CallR X (.builtin "sum") (rSum K) := by subst e; exact cr_sum hc
end
section
variable {X : Cx}
/-- list(range(a, b, c)) -/
def tStep (ta : TA) : TE := fun σ H Q => ta σ H fun vs H1 => ∃ (i j c : Int) (n : Nat), vs = [.int i, .int j, .int c] ∧ RgC i j c n ∧ n ≤ 2 ^ 24 ∧ ∀ p, H1 p = none → Q (.ref p) (upd H1 p (.lst ((List.range n).map fun k => V.int (i + (k : Nat) * c))))
theorem vals_step {i c : Int} {n : Nat} {acc : Array Value} (h : ItemsOf (fun k v => ∃ t, v = .int (i + k * c) t) acc n) : Vals ((List.range n).map fun k => V.int (i + (k : Nat) * c)) acc.toList := by
  have e : acc.toList.length = n := by
    rw [Array.length_toList]
    exact h.1
  rw [← e]
  refine vals_of_get acc.toList (fun k => V.int (i + (k : Nat) * c)) fun j u hj => ?_
  obtain ⟨t, rfl⟩ := h.2 j u (by rw [← hj, Array.getElem?_toList])
  exact ⟨t, rfl⟩
theorem pe_list_range {a b c : Expr} {ta : TA} {p pos p2 pos2 : Pos} (h1 : X.mg "list" = none) (h2 : X.mg "range" = none) (ha : PA X [a, b, c] ta) (hc : X.calm = true := by rfl) (g1 : Gl X "list" := by rfl) (g2 : Gl X "range" := by rfl)
    (hs : starEach [a, b, c] X.env = (false, eval a X.env) :: starEach [b, c] X.env := by rfl) (hpl : (backTo pos2 (starEach [b, c] X.env)).any (·.1) = false := by rfl)
    (na : starEach [.Call (.Name "range" p2) [a, b, c] [] pos2] X.env = (false, eval (.Call (.Name "range" p2) [a, b, c] [] pos2) X.env) :: starEach [] X.env := by rfl) :
    PE X (.Call (.Name "list" p) [.Call (.Name "range" p2) [a, b, c] [] pos2] [] pos) (tStep ta) := by
  have inner : ∀ (pins : List (Addr × Obj)) (s : Shared) (σ : L2.St) (H : Hp) (R : Int → Int → Int → Nat → Hp → Prop), Inv X pins σ H s → ta σ H (fun vs H1 => ∃ (i j c : Int) (n : Nat), vs = [.int i, .int j, .int c] ∧ RgC i j c n ∧ R i j c n H1) →
      wpAny (model X.prog X.w) X.A (eval (.Call (.Name "range" p2) [a, b, c] [] pos2) X.env) (fun x s2 => ∃ r i j c n t u v H2, x = .ref r ∧ IsRange s2.heap r i j c t u v ∧ RgC i j c n ∧ Inv X pins σ H2 s2 ∧ R i j c n H2) X.xe s := by
    intro pins s σ H R I h
    refine Call_ (ld_blt I g2 h2 boot_range (PyProof.Rows.callWith_type1 (thn (ha.run pos2 pins s σ H _ I h) fun us s1 ⟨vs, H1, I1, r1, q1⟩ => ?_) hs hpl))
    obtain ⟨i, j, k, n, e, rc, q⟩ := q1
    subst e
    cases r1 with
    | cons r rr =>
      cases rr with
      | cons r' rr =>
        cases rr with
        | cons r'' rr =>
          cases rr
          obtain ⟨t, rfl⟩ := r
          obtain ⟨t', rfl⟩ := r'
          obtain ⟨t'', rfl⟩ := r''
          exact call_range_3 rc.1 ⟨_, i, j, k, n, _, _, _, H1, rfl, IsRange.new _ _ _ _ _ _ _, rc, I1.kept fun b u e => Heap.get?_push_of_some _ e, q⟩ (.inl (PyProof.noPylong_small rc.2.1))
  refine ⟨fun pins s σ H Q I h => ?_⟩
  have h3 : ta σ H (fun vs H1 => ∃ (i j c : Int) (n : Nat), vs = [.int i, .int j, .int c] ∧ RgC i j c n ∧ (n ≤ 2 ^ 24 ∧ ∀ p, H1 p = none → Q (.ref p) (upd H1 p (.lst ((List.range n).map fun k => V.int (i + (k : Nat) * c)))))) := h
  refine Call_ (ld_blt I g1 h1 boot_list (PyProof.Rows.callWith_type1 (args_cons (thn (inner pins s σ H _ I h3) fun x s1 ⟨r, i, j, c, n, t, u, v, H1, ex, hr, rc, I1, hn, q⟩ => args_nil ?_) na) na))
  subst ex
  refine call_list_range (n := n) (I1.ok.hd hc) hr rc.2.2.1 rc.2.2.2 hn fun h' tk acc c' hk e' hi => ?_
  refine ⟨.ref s1.heap.objs.size, upd H1 s1.heap.objs.size (.lst ((List.range n).map fun k => V.int (i + (k : Nat) * c))), I1.laid hk (Nat.le_refl _) (show ObjOk X.prog X.w _ _ _ (.lst ((List.range n).map fun k => V.int (i + (k : Nat) * c))) from ⟨?_, acc.toList, c', vals_step hi, ?_⟩), rfl, q _ (I1.hok.fresh (Nat.le_refl _))⟩
  · rw [List.length_map, List.length_range, sizeLine_eq]
    omega
  · rw [Array.toArray_toList]
    exact e'
end
theorem u65 {k : Nat} {A : Around} (r : Room k A) : A.units + 65 < cLine := by
  have := r.un
  omega
theorem u200 {k : Nat} {A : Around} (r : Room k A) : A.units + 200 < cLine := by
  have := r.un
  omega
section
variable {P : Program} {w : World} {K : PySem.W.Frag} {mg : Str → Option Value} {base : Heap} {N : List Str} {qual : Str} {sc : Scope} {f : Addr} {cdv : Value} {A : Around} {out : List Env} {s : Shared} {H : Hp} {E : XK}
theorem passX : Passes (L2.CX P w) (cxOf (L2.CX P w) P w K mg base N qual sc f cdv A out s H E) E := fun pins σ H1 s1 e s2 I h => passes_call (takes_of (E := E) rfl rfl rfl rfl) (fun _ _ _ _ h => h) pins σ H1 s1 e s2 I h
theorem passO : PassesOwn (model (cxOf (L2.CX P w) P w K mg base N qual sc f cdv A out s H E).prog (cxOf (L2.CX P w) P w K mg base N qual sc f cdv A out s H E).w) (cxOf (L2.CX P w) P w K mg base N qual sc f cdv A out s H E).A (cxOf (L2.CX P w) P w K mg base N qual sc f cdv A out s H E).env (cxOf (L2.CX P w) P w K mg base N qual sc f cdv A out s H E).xe := passes_of rfl
end
def sNever : S := fun _ => none
section
variable {X : Cx} {E : XK} {K : PySem.W.Frag} {st : Stmt} {e e2 e3 : Expr} {es : List Expr} {f g : M PyData} {fa : M (List PyData)} {p pos p2 pos2 : Pos}
theorem s_never : PS X st (tS X.mg E sNever) := PS.imp ps_never fun D σ H ⟨A, B, ss, fp, ok, h⟩ => h
theorem ss_never {sts : List Stmt} : PSs X sts (tS X.mg E sNever) := PSs.imp pss_never fun D σ H ⟨A, B, ss, fp, ok, h⟩ => h
/-! ### list(range(..)) -/
theorem rgV_at {B : Hp} {a b : Int} : AtL B (rgV a b) (rngD a (b - a).toNat) := by
  unfold rgV rngD
  generalize (b - a).toNat = n
  generalize List.range n = l
  induction l with
  | nil => exact .nil
  | cons i l ih => exact .cons (.int _) ih
def kL1 : List PyData → Option (List PyData)
  | [.int j] => if decide (-1000000 ≤ j ∧ j ≤ 1000000) then some (rngD 0 (j - 0).toNat) else none
  | _ => none
theorem kL1_some {d : PyData} {es : List PyData} (h : kL1 [d] = some es) : ∃ j, d = .int j ∧ (-1000000 ≤ j ∧ j ≤ 1000000) ∧ es = rngD 0 (j - 0).toNat := by
  cases d with
  | int j =>
    have h : (if decide (-1000000 ≤ j ∧ j ≤ 1000000) = true then some (rngD 0 (j - 0).toNat) else none) = some es := h
    split at h
    · rename_i c
      cases h
      exact ⟨j, rfl, of_decide_eq_true c, rfl⟩
    · cases h
  | _ => cases h
def kL2 : List PyData → Option (List PyData)
  | [.int i, .int j] => if decide (-1000000 ≤ i ∧ i ≤ 1000000) && decide (-1000000 ≤ j ∧ j ≤ 1000000) then some (rngD i (j - i).toNat) else none
  | _ => none
theorem kL2_some {d e : PyData} {es : List PyData} (h : kL2 [d, e] = some es) : ∃ i j, d = .int i ∧ e = .int j ∧ (-1000000 ≤ i ∧ i ≤ 1000000) ∧ (-1000000 ≤ j ∧ j ≤ 1000000) ∧ es = rngD i (j - i).toNat := by
  unfold kL2 at h
  split at h
  · rename_i i j e
    cases e
    split at h
    · rename_i c
      cases h
      obtain ⟨c1, c2⟩ := Bool.and_eq_true_iff.mp c
      exact ⟨i, j, rfl, rfl, of_decide_eq_true c1, of_decide_eq_true c2, rfl⟩
    · cases h
  · cases h
theorem m_lr1 (h1 : X.mg "list" = none) (h2 : X.mg "range" = none) (hf : PE X e (tM X.mg E f)) (hc : X.calm = true := by rfl) (g1 : Gl X "list" := by rfl) (g2 : Gl X "range" := by rfl)
    (n1 : starEach [e] X.env = (false, eval e X.env) :: starEach [] X.env := by rfl)
    (na : starEach [.Call (.Name "range" p2) [e] [] pos2] X.env = (false, eval (.Call (.Name "range" p2) [e] [] pos2) X.env) :: starEach [] X.env := by rfl) :
    PE X (.Call (.Name "list" p) [.Call (.Name "range" p2) [e] [] pos2] [] pos) (tV X.mg E (mAL kL1 (mCons f mNil))) :=
  PE.imp (pe_listRg hc g1 h1 (prg_1 g2 h2 hf n1) na) fun σ H Q ⟨A, B, ss, fp, ok, h⟩ => by
    have h : ResV X.mg E A B fp σ H (M.bind (M.bind f fun x => M.bind mNil fun xs => M.ret (x :: xs)) (fun xs => M.lift ((kL1 xs).map (.own none))) ss) Q := h
    rw [bind_assoc] at h
    refine ⟨A, B, ss, fp, ok, (ResV.seq (rel := At) h).mono fun x H1 ⟨d1, B1, ss1, fp1, ok1, a1, g1, h1⟩ => ?_⟩
    have h1 : ResV X.mg E A B1 fp1 σ H1 (M.lift ((kL1 [d1]).map (.own none)) ss1) Q := h1
    obtain ⟨r, er, h2⟩ := liftV_some h1
    cases q : kL1 [d1] with
    | none => rw [q] at er; cases er
    | some es =>
      rw [q] at er
      cases er
      obtain ⟨j, rfl, c, rfl⟩ := kL1_some q
      exact ⟨j, a1.int_eq, ⟨by omega, by omega, by omega, by omega, by omega⟩, h2.list ok1 rgV_at⟩
theorem m_lr2 (h1 : X.mg "list" = none) (h2 : X.mg "range" = none) (hf : PE X e (tM X.mg E f)) (hg : PE X e2 (tM X.mg E g)) (hc : X.calm = true := by rfl) (g1 : Gl X "list" := by rfl) (g2 : Gl X "range" := by rfl)
    (n1 : starEach [e, e2] X.env = (false, eval e X.env) :: starEach [e2] X.env := by rfl) (n2 : starEach [e2] X.env = (false, eval e2 X.env) :: starEach [] X.env := by rfl) (hp : (backTo pos2 (starEach [e2] X.env)).any (·.1) = false := by rfl)
    (na : starEach [.Call (.Name "range" p2) [e, e2] [] pos2] X.env = (false, eval (.Call (.Name "range" p2) [e, e2] [] pos2) X.env) :: starEach [] X.env := by rfl) :
    PE X (.Call (.Name "list" p) [.Call (.Name "range" p2) [e, e2] [] pos2] [] pos) (tV X.mg E (mAL kL2 (mCons f (mCons g mNil)))) :=
  PE.imp (pe_listRg hc g1 h1 (prg_2 g2 h2 hf hg n1 n2 hp) na) fun σ H Q ⟨A, B, ss, fp, ok, h⟩ => by
    have h : ResV X.mg E A B fp σ H (M.bind (M.bind f fun x => M.bind (M.bind g fun y => M.bind mNil fun ys => M.ret (y :: ys)) fun xs => M.ret (x :: xs)) (fun xs => M.lift ((kL2 xs).map (.own none))) ss) Q := h
    rw [bind_assoc] at h
    refine ⟨A, B, ss, fp, ok, (ResV.seq (rel := At) h).mono fun x H1 ⟨d1, B1, ss1, fp1, ok1, a1, g1, h1⟩ => ?_⟩
    rw [bind_assoc, bind_assoc] at h1
    refine ⟨A, B1, ss1, fp1, ok1, (ResV.seq (rel := At) h1).mono fun y H2 ⟨d2, B2, ss2, fp2, ok2, a2, g2, h2⟩ => ?_⟩
    have h2 : ResV X.mg E A B2 fp2 σ H2 (M.lift ((kL2 [d1, d2]).map (.own none)) ss2) Q := h2
    obtain ⟨r, er, h3⟩ := liftV_some h2
    cases q : kL2 [d1, d2] with
    | none => rw [q] at er; cases er
    | some es =>
      rw [q] at er
      cases er
      obtain ⟨i, j, rfl, rfl, c1, c2, rfl⟩ := kL2_some q
      exact ⟨i, j, a1.int_eq, a2.int_eq, ⟨by omega, by omega, by omega, by omega, by omega⟩, h3.list ok2 rgV_at⟩
/-! ### list(range(a, b, -1)) -/
def kL3 : List PyData → Option (List PyData)
  | [.int i, .int j, .int (-1)] => if decide (-1000000 ≤ i ∧ i ≤ 1000000) && decide (-1000000 ≤ j ∧ j ≤ 1000000) then some (rngC i (-1) (i - j).toNat) else none
  | _ => none
theorem kL3_some {ds es : List PyData} (h : kL3 ds = some es) : ∃ i j, ds = [.int i, .int j, .int (-1)] ∧ (-1000000 ≤ i ∧ i ≤ 1000000) ∧ (-1000000 ≤ j ∧ j ≤ 1000000) ∧ es = rngC i (-1) (i - j).toNat := by
  unfold kL3 at h
  split at h
  · rename_i i j
    split at h
    · rename_i c
      cases h
      obtain ⟨c1, c2⟩ := Bool.and_eq_true_iff.mp c
      exact ⟨i, j, rfl, of_decide_eq_true c1, of_decide_eq_true c2, rfl⟩
    · cases h
  · cases h
theorem rngC_at {B : Hp} {i c : Int} {n : Nat} : AtL B ((List.range n).map fun k => V.int (i + (k : Nat) * c)) (rngC i c n) := by
  unfold rngC
  generalize List.range n = l
  induction l with
  | nil => exact .nil
  | cons i l ih => exact .cons (.int _) ih
theorem m_lr3 (h1 : X.mg "list" = none) (h2 : X.mg "range" = none) (ha : PA X [e, e2, e3] (tA X.mg E fa)) (hc : X.calm = true := by rfl) (g1 : Gl X "list" := by rfl) (g2 : Gl X "range" := by rfl)
    (hs : starEach [e, e2, e3] X.env = (false, eval e X.env) :: starEach [e2, e3] X.env := by rfl) (hpl : (backTo pos2 (starEach [e2, e3] X.env)).any (·.1) = false := by rfl)
    (na : starEach [.Call (.Name "range" p2) [e, e2, e3] [] pos2] X.env = (false, eval (.Call (.Name "range" p2) [e, e2, e3] [] pos2) X.env) :: starEach [] X.env := by rfl) :
    PE X (.Call (.Name "list" p) [.Call (.Name "range" p2) [e, e2, e3] [] pos2] [] pos) (tV X.mg E (mAL kL3 fa)) :=
  PE.imp (pe_list_range h1 h2 ha hc g1 g2 hs hpl na) fun σ H Q ⟨A, B, ss, fp, ok, h⟩ => by
    refine ⟨A, B, ss, fp, ok, (ResV.seq (rel := AtL) h).mono fun xs H1 ⟨ds, B1, ss1, fp1, ok1, a1, g1, h1⟩ => ?_⟩
    obtain ⟨r, er, h2⟩ := liftV_some h1
    cases q : kL3 ds with
    | none => rw [q] at er; cases er
    | some es =>
      rw [q] at er
      cases er
      obtain ⟨i, j, rfl, c1, c2, rfl⟩ := kL3_some q
      cases a1 with
      | cons b1 r =>
        cases r with
        | cons b2 r =>
          cases r with
          | cons b3 r =>
            cases r
            rw [b1.int_eq, b2.int_eq, b3.int_eq]
            exact ⟨i, j, -1, _, rfl, RgC.neg (by omega) (by omega) (by omega) (by omega), by omega, h2.list ok1 rngC_at⟩
/-! ### index -/
def idxF (ds : List PyData) (d : PyData) : Option Nat := ds.findIdx? fun y => eqF y d
def kIdx (ds : List PyData) : List PyData → Option PyData
  | [d] => if flatD d && ds.all flatD then (idxF ds d).map fun n => .int (n : Nat) else none
  | _ => none
theorem kIdx_some {ds as : List PyData} {r : PyData} (h : kIdx ds as = some r) : ∃ d n, as = [d] ∧ flatD d = true ∧ ds.all flatD = true ∧ idxF ds d = some n ∧ r = .int (n : Nat) := by
  unfold kIdx at h
  split at h
  · rename_i d
    split at h
    · rename_i c
      obtain ⟨c1, c2⟩ := Bool.and_eq_true_iff.mp c
      cases q : idxF ds d with
      | none => rw [q] at h; cases h
      | some n =>
        rw [q] at h
        cases h
        exact ⟨d, n, rfl, c1, c2, q, rfl⟩
    · cases h
  · cases h
def mIndex (f : M PyData) (fa : M (List PyData)) : M PyData := M.bind (itL f) fun ds => M.bind fa fun as => M.lift (kIdx ds as)
theorem m_index (ek : X.K = K) (h : PE X e (tBM X.K "list" (rIndex K) (tM X.mg E f) (tA X.mg E fa))) : PE X e (tM X.mg E (mIndex f fa)) := PE.imp h fun σ H Q ⟨A, B, ss, fp, ok, h⟩ => by
  have h : Res At X.mg E A B fp σ H (M.bind (M.bind f fun d => M.lift (asL d)) (fun ds => M.bind fa fun as => M.lift (kIdx ds as)) ss) Q := h
  rw [bind_assoc] at h
  refine ⟨A, B, ss, fp, ok, h.seq.mono fun x H1 ⟨d1, B1, ss1, fp1, ok1, a1, g1, h1⟩ => ?_⟩
  cases q : asL d1 with
  | none => rw [q] at h1; exact (show False from h1).elim
  | some ds =>
    rw [q] at h1
    have h1 : Res At X.mg E A B1 fp1 σ H1 (M.bind fa (fun as => M.lift (kIdx ds as)) ss1) Q := h1
    rw [asL_some q] at a1
    obtain ⟨p, xs, rfl, hp, al⟩ := a1.lst_ex
    refine ⟨.inl ⟨rfl, xs, SqL.of (ok1.sm _ _ hp)⟩, A, B1, ss1, fp1, ok1, (Res.seq (rel := AtL) h1).mono fun ys H2 ⟨as, B2, ss2, fp2, ok2, a2, g2, h2⟩ => ?_⟩
    obtain ⟨r, er, h3⟩ := lift_some h2
    obtain ⟨d, n, rfl, c1, c2, q, rfl⟩ := kIdx_some er
    cases a2 with
    | cons b1 r =>
      cases r
      have ex := vOf_all al c2
      subst ex
      rw [vOf_at b1 c1]
      unfold idxF at q
      rw [List.findIdx?_eq_some_iff_getElem] at q
      obtain ⟨hn, hy, hl⟩ := q
      refine ⟨p, _, vOf d, n, vOf ds[n], rfl, rfl, SqL.of (ok2.sm _ _ (g2.bb _ _ hp)), flat_vOf c1, flat_all c2, by rw [List.getElem?_map, List.getElem?_eq_getElem hn]; rfl, hy, fun m z hm hz => ?_, Res.now (rel := At) ok2 h3 _ (.int _)⟩
      rw [List.getElem?_map, List.getElem?_eq_getElem (by omega)] at hz
      cases hz
      have := hl m hm
      unfold eqF at this
      simpa using this
end
/-- no tables -/
abbrev LT.nil : LT := ⟨[]⟩
omit [LT] in
/-- the law's own head, from its mirror -/
theorem walkM {l : PySem.W.OpenLaw} {n lev : Nat} {q : Program} {loose : List Str} {XP : (Str → Option Value) → Heap → Prop} {YP : World → Heap → Prop} {d : DefRec} {K : Params → PySem.W.Frag} {x : Str} {F : PySem.W.Frag → M SV}
    (hn : l.most = some n) (hn2 : n ≤ sizeLine) (hdf : d.params.defaults = []) (hr : Room lev callerA) (hY : ∀ (w : World) (h : Heap), YP w h → (K w.params).In h)
    (hF : ∀ (w : World) (mg : Str → Option Value) (fa : Addr) (h : Heap), (K w.params).In h → h.Ns mainGlobals mg → mg d.name = some (.ref fa) →
      ∃ fd : FuncData, (∀ (s : Shared) (u : Value), BindsTo s fd ⟨[u], []⟩ [(x, u)]) ∧ ∀ base : Heap, (K w.params).In base → base.Ns mainGlobals mg → FnG l.prog w (K w.params) mg base (L2.CX l.prog w) lev fa fd [x] (@spM LT.nil 1 mg (F (K w.params))))
    (law : ∀ (K : PySem.W.Frag) (ns : List Int), ns.length ≤ n → ∃ ss, F K [.oth (.scr K ns)] = some (.val (.dat (.bool true)) ss)) :
    PySem.W.WalkO q loose XP YP l.row.toRowW d [] (fun f vs => PySem.call f vs) := by
  refine walkG (x := x) (CX := fun w => L2.CX l.prog w) (sp := fun w => fun vs H Q _ => ∃ (a : Addr) (ns : List Int), vs = [.ref a] ∧ SqL (K w.params) H a (ns.map V.int) ∧ ns.length ≤ n ∧ Only H ∧ ∀ H2, Q (.bl true) H2) hn hn2 hdf hr hY (fun w mg fa h h1 h2 h3 => ?_) (fun w H a ns hl hO hS => ⟨a, ns, rfl, hS, hl, hO, fun _ => rfl⟩) fun w H s e s2 h => ?_
  · obtain ⟨fd, hb, hG⟩ := hF w mg fa h h1 h2 h3
    refine ⟨fd, hb, fun base k1 k2 => (hG base k1 k2).imp fun vs H Q E hh => ?_⟩
    obtain ⟨a, ns, rfl, hS, hl, hO, q⟩ := hh
    obtain ⟨ss, es⟩ := law (K w.params) ns hl
    letI : LT := LT.nil
    refine ⟨rfl, H, [.oth (.scr (K w.params) ns)], noFp, ⟨Same.refl _, rfl, fun i s e => ?_, fun i j p e => (nomatch e), fun _ _ => rfl, ⟨(fun p hp => nomatch hp), fun b ps e => ?_⟩⟩, ?_⟩
    · cases i with
      | zero =>
        cases e
        exact ⟨rfl, .ref a, rfl, a, rfl, hS⟩
      | succ i => simp at e
    · rcases hO b with z | ⟨_, _, z⟩
      · rw [z] at e
        cases e
      · rw [z] at e
        cases e
    · rw [es]
      intro v B2 H2 fp2 g ok2
      have hl2 : ss.length = 1 := by
        have := ok2.len
        simp only [List.length_append, List.length_cons, List.length_nil, List.length_map] at this
        omega
      have z := ok2.sl 1 (.dat (.bool true)) (by rw [← hl2, List.getElem?_concat_length])
      obtain ⟨_, y, ey, ay⟩ := z
      cases ey
      rw [ay.bl_eq]
      exact q H2
  · obtain ⟨_, _, _, _, _, _, _, _, _, _, _, _, z⟩ := h
    exact z
end Cm

/-! Mirrors: enumerate(xs, start=k), sorted rows. -/
namespace Cm
open PySem PySem.Spec PyProof.Rows L2 Cf
variable [LT]

/-! ### enumerate(xs, start=k) -/
/-- the list at a, each item in a new pair with its number from k on -/
def IteS (K : PySem.W.Frag) (a : Addr) (k : Int) : It where
  go i H := ∃ (xs : List V) (x : V), SqL K H a xs ∧ xs[i]? = some x
  yld i H v H' := ∃ T x, v = .ref T ∧ H T = none ∧ H' = upd H T (.tup [.int (k + (i : Nat)), x]) ∧ ∀ xs, SqL K H a xs → xs[i]? = some x
  stop i H := ∃ xs : List V, SqL K H a xs ∧ xs.length = i
theorem two_mem {b e it : Addr} (h : b ∈ [e, it]) : b = e ∨ b = it := by simpa using h
theorem turn_enumS {P : Program} {w : World} {K : PySem.W.Frag} {elts : List Expr} {kk : Nat} {tpos : Pos} (k : Int) (a e it : Addr) :
    Turn P w K (.Tuple elts kk tpos) (IteS K a k) [e, it] e (fun i h => (∃ old, IsEnum h e it (k + ((i : Nat) : Int)) old) ∧ h.IsListIter it a i ∧ e ≠ it) := by
  have apart : ∀ {h : Heap} {i : Nat} {c : Int} {old : Value} {its : Array Value}, IsEnum h e it c old → h.IsListIter it a i → h.IsList a its → a ≠ it ∧ a ≠ e := by
    intro h i c old its he hi hl
    obtain ⟨o, ho, hc, hd⟩ := hi
    obtain ⟨o2, ho2, hc2, _⟩ := hl
    refine ⟨fun z => ?_, fun z => ?_⟩
    · rw [z, ho] at ho2
      cases ho2
      rw [hc] at hc2
      exact absurd hc2 (by decide)
    · rw [z] at ho2
      have he2 := he.symm.trans ho2
      cases he2
      have hc3 : Value.type "enumerate" = Value.type "list" := hc2
      exact absurd hc3 (by decide)
  refine ⟨by simp, fun i h st b hb => ?_, fun i h h' st kp => ?_, ?_, ?_, fun A i s Q E st h => ?_⟩
  · obtain ⟨⟨old, he⟩, ⟨o, ho, hc, hd⟩, _⟩ := st
    rcases two_mem hb with rfl | rfl
    · exact ⟨_, he, fun v q => nomatch q⟩
    · exact ⟨o, ho, fun v q => by rw [hd] at q; cases q⟩
  · obtain ⟨⟨old, he⟩, hi, hne⟩ := st
    exact ⟨⟨old, kp e (by simp) _ he⟩, hi.at fun o q => kp it (by simp) o q, hne⟩
  · intro X hP hw hK hc i pins s σ H E I hf st hg
    subst hP hw hK
    obtain ⟨⟨old, he⟩, hit, hne⟩ := st
    obtain ⟨xs, x, hq, hx⟩ := hg
    obtain ⟨its, rv, p, hz⟩ := I.list hq
    obtain ⟨u, hu, ru⟩ := rv.get hx
    obtain ⟨n1, n2⟩ := apart he hit p.isList
    have hel := Heap.lt_size he
    have hil : it < s.heap.objs.size := by obtain ⟨_, q, _⟩ := hit; exact Heap.lt_size q
    have hlt : i < its.toArray.size := by
      have := (List.getElem?_eq_some_iff.mp hu).1
      simpa using this
    refine wpAny_pyNext_enum_itemC (Draws.list (A := X.A.in1) (I.ok.hd hc) it a n1 its.toArray) he ⟨hit, p.isList⟩ hlt hne (fun z => ?_) fun x' h' tk hP ho hs' hT hsz hk => ?_
    · rcases two_mem z with z | z
      · exact hne z
      · exact n2 z.symm
    obtain rfl : u = x' := by
      have hP2 : its.toArray[i]? = some x' := hP
      have : its[i]? = some x' := by simpa using hP2
      rw [hu] at this
      exact Option.some.inj this
    refine ⟨_, rfl, wpAny_letOwnedTupleGo_enum (s := { s with heap := h', toks := tk + 1 }) ho fun h'' he' sb => ?_⟩
    have hT2 := (sb.2 _ (Nat.ne_of_gt hel)).trans hT
    have new : ObjOk X.prog X.w (upd H s.heap.objs.size (.tup [.int (k + (i : Nat)), x])) h'' s.heap.objs.size (.tup [.int (k + (i : Nat)), x]) :=
      ⟨by show 2 ≤ sizeLine; decide, [.int (k + (i : Nat)) tk, u], .cons ⟨_, rfl⟩ (.cons ru .nil), ⟨_, hT2, rfl, _, rfl⟩⟩
    have kk : ∀ b o, b ∉ [e, it] → s.heap.get? b = some o → h''.get? b = some o := fun b o hb q => by
      have q1 : b ≠ e := fun z => hb (by simp [z])
      have q2 : b ≠ it := fun z => hb (by simp [z])
      exact (sb.2 b q1).trans (hk b o q1 q2 q)
    have I1 : Inv X pins σ (upd H s.heap.objs.size (.tup [.int (k + (i : Nat)), x])) { s with heap := h'', toks := tk + 1 } :=
      I.turnedNew (ch := [e, it]) kk hf (Nat.le_refl _) new
    refine ⟨.ref s.heap.objs.size, _, I1, rfl, ⟨_, x, rfl, I.hok.fresh (Nat.le_refl _), rfl, fun ys hy => by rw [I.list_inj hy hq]; exact hx⟩, ⟨⟨u, ?_⟩, hs'.1.at fun o q => (sb.2 it (Ne.symm hne)).trans q, hne⟩, fun b hb => ?_⟩
    · rw [show k + ((i + 1 : Nat) : Int) = k + (i : Int) + 1 by omega]
      exact he'
    · have hb' : b < s.heap.objs.size := by
        rcases two_mem hb with z | z
        · rw [z]; exact hel
        · rw [z]; exact hil
      rw [upd_ne (Nat.ne_of_lt hb')]
      exact (hf b hb).1
  · intro X hP hw hK hc i pins s σ H E I hf st hg
    subst hP hw hK
    obtain ⟨⟨old, he⟩, hit, hne⟩ := st
    obtain ⟨xs, hq, hx⟩ := hg
    obtain ⟨its, rv, p, hz⟩ := I.list hq
    obtain ⟨n1, n2⟩ := apart he hit p.isList
    obtain ⟨f0, f1, f2, f3, f4, f5⟩ := hf it (by simp)
    have hl : its.toArray.size = i := by
      have := rv.length
      simp
      omega
    subst hl
    exact wpAny_pyNext_enum_endD (Draws.list (A := X.A.in1) (I.ok.hd hc) it a n1 its.toArray) he ⟨hit, p.isList⟩ fun h' eb => ⟨rfl, I.turned (t' := s.toks) (fun b o hb q => eb b o hb q) f0 f1 f3 f4 f5⟩
  · obtain ⟨⟨_, he⟩, _⟩ := st
    exact wpAny_pyIter_enum he h
/-- a built-in class called with keywords -/
theorem callWith_typeK {M : Model} {A : Around} {E : Value → Shared → Prop} {s : Shared} {env : Env} {pos : Pos} {T : String} {e : Expr} {rest : List Expr} {kws : List Keyword} {Q : Value → Shared → Prop}
    (h : wpAny M A (spliced (backTo pos (starEach (e :: rest) env))) (fun vs s1 => wpAny M A (evalAll ((backToKw pos (keywordEach kws env)).map (·.2)))
      (fun ws s2 => wpAny M A (call (.type T) vs (((backToKw pos (keywordEach kws env)).filterMap (·.1)).zip ws)) Q E s2) E s1) E s)
    (he : backTo pos (starEach (e :: rest) env) = (false, eval e env) :: backTo pos (starEach rest env)) (hp : (backTo pos (starEach (e :: rest) env)).any (·.1) = false)
    (ha : (backToKw pos (keywordEach kws env)).all (·.1.isSome) = true) (hk : (backToKw pos (keywordEach kws env)).any (·.1.isNone) = false) :
    wpAny M A (callWith pos (.type T) [] (backTo pos (starEach (e :: rest) env)) (backToKw pos (keywordEach kws env))) Q E s := by
  rw [he] at h hp ⊢
  have h2 := evalArgs_kwB (f := .type T) (Q := fun a s2 => wpAny M A (call (.type T) a.pos a.kw) Q E s2) ha h
  unfold callWith
  refine wpAny_bind (wpAny_holding (wpAny_mono h2 (fun a s1 h1 => wpAny_bind (wpAny_standAt ?_)) fun _ _ z => z))
  simp only [hp, hk, Bool.or_false]
  refine wpAny_bind (wpAny_pure ?_)
  exact wpAny_bind (wpAny_mono h1 (fun r s2 hr => wpAny_bind (wpAny_holding (wpAny_point (wpAny_pure hr)))) fun _ _ z => z)
def iEnumS (K : PySem.W.Frag) (ta tk : TA) : TI := fun σ H R => ta σ H fun vs H1 => tk σ H1 fun zs H2 => ∃ a xs k, vs = [.ref a] ∧ zs = [.int k] ∧ (-(2 ^ 63) ≤ k ∧ k < 2 ^ 63) ∧ SqL K H2 a xs ∧ R (IteS K a k) H2
theorem pi_enumS {X : Cx} {e e2 : Expr} {ta tk : TA} {p pos tpos kpos : Pos} {elts : List Expr} {kk : Nat} (hg : Gl X "enumerate") (hm : X.mg "enumerate" = none) (ha : PA X [e] ta) (hk : PK X [⟨some "start", e2, kpos⟩] tk)
    (he : backTo pos (starEach [e] X.env) = (false, eval e X.env) :: backTo pos (starEach [] X.env) := by rfl) (hp : (backTo pos (starEach [e] X.env)).any (·.1) = false := by rfl) :
    PI X (.Tuple elts kk tpos) (.Call (.Name "enumerate" p) [e] [⟨some "start", e2, kpos⟩] pos) (iEnumS X.K ta tk) := by
  refine ⟨fun pins s σ H R I h => ?_⟩
  refine wpAny_Call_Name_kw (ld_blt I hg hm boot_enumerate (callWith_typeK (thn (ha.run pos pins s σ H _ I h) fun us s1 ⟨vs, H1, I1, r1, q1⟩ => thn (hk.run pos pins s1 σ H1 _ I1 q1) fun ws s2 ⟨zs, H2, I2, r2, q2⟩ => ?_) he hp rfl rfl))
  obtain ⟨a, xs, k, rfl, rfl, hk2, hq, q⟩ := q2
  cases r1 with
  | cons r rr =>
    cases rr
    cases r
    cases r2 with
    | cons r' rr =>
      cases rr
      obtain ⟨t, rfl⟩ := r'
      obtain ⟨its, rv, p', hz⟩ := I2.list hq
      refine enum_begins_start (begins_list a its.toArray) p'.isList hk2.1 hk2.2 fun h' he hit hsz hk => wpAny_pyIter_enum he ?_
      have I3 : Inv X pins σ H2 { s2 with heap := h' } := I2.kept (t' := s2.toks) hk
      refine ⟨s2.heap.objs.size + 1, [s2.heap.objs.size + 1, s2.heap.objs.size], _, _, H2, rfl, I3, turn_enumS k a (s2.heap.objs.size + 1) s2.heap.objs.size, ⟨⟨.none, ?_⟩, ⟨_, hit, rfl, rfl⟩, Nat.succ_ne_self _⟩, fun b hb => ?_, q⟩
      · rw [show k + ((0 : Nat) : Int) = k by omega]
        exact he
      · have hle : s2.heap.objs.size ≤ b := by
          rcases two_mem hb with z | z
          · rw [z]; exact Nat.le_add_right _ _
          · rw [z]; exact Nat.le_refl _
        exact I2.fpOk hle (I2.hok.fresh hle)
def enumS (k : Int) (ds : List PyData) : List PyData := ds.mapIdx fun i d => .tuple [.int (k + (i : Nat)), d]
theorem iter_enumS {K : PySem.W.Frag} {B : Hp} {a : Addr} {k : Int} {xs : List V} {ds : List PyData} (h : SqL K B a xs) (al : AtL B xs ds) : IterOk B (IteS K a k) (enumS k ds) := by
  have hl : (enumS k ds).length = xs.length := by unfold enumS; rw [List.length_mapIdx, al.length]
  refine ⟨fun i H hi s => ⟨xs, xs[i]'(by omega), s.seq h, List.getElem?_eq_getElem _⟩, fun H s => ⟨xs, s.seq h, hl.symm⟩, fun i H x H2 hi s y => ?_⟩
  obtain ⟨T, x, rfl, nT, rfl, e2⟩ := y
  obtain ⟨d, ed, ad⟩ := al.get2 (e2 xs (s.seq h))
  refine ⟨.tuple [.int (k + (i : Nat)), d], ?_, fun B1 s1 s2 => ⟨_, Grow.new s2 nT, .tup upd_same (.cons (.int _) (.cons ((ad.up s1).up (same_new (s2.free nT))) .nil))⟩⟩
  unfold enumS
  rw [List.getElem?_mapIdx, ed]
  rfl
def kEnS : PyData → List PyData → Option (List PyData)
  | .int k, [.list ds] => if small62 k then some (enumS k ds) else none
  | _, _ => none
theorem kEnS_some {d : PyData} {as rs : List PyData} (h : kEnS d as = some rs) : ∃ k ds, d = .int k ∧ as = [.list ds] ∧ (-(2 ^ 62) ≤ k ∧ k < 2 ^ 62) ∧ rs = enumS k ds := by
  unfold kEnS at h
  split at h
  · rename_i k ds
    split at h
    · rename_i c
      cases h
      exact ⟨k, ds, rfl, rfl, of_decide_eq_true c, rfl⟩
    · cases h
  · cases h
def itES (fa : M (List PyData)) (g : M PyData) : M (List PyData) := M.bind fa fun xs => M.bind g fun k => M.lift (kEnS k xs)
section
variable {X : Cx} {E : XK} {K : PySem.W.Frag} {tg e e2 : Expr} {es : List Expr} {f g : M PyData} {fa : M (List PyData)} {p pos kpos : Pos}
theorem i_enumS {elts : List Expr} {kk : Nat} {tpos : Pos} (hg : Gl X "enumerate") (hm : X.mg "enumerate" = none) (ha : PA X [e] (tA X.mg E fa)) (hk : PE X e2 (tM X.mg E g))
    (he : backTo pos (starEach [e] X.env) = (false, eval e X.env) :: backTo pos (starEach [] X.env) := by rfl) (hp : (backTo pos (starEach [e] X.env)).any (·.1) = false := by rfl) :
    PI X (.Tuple elts kk tpos) (.Call (.Name "enumerate" p) [e] [⟨some "start", e2, kpos⟩] pos) (tI X.mg E (itES fa g)) := PI.imp (pi_enumS hg hm ha (pk_cons hk pk_nil) he hp) fun σ H Q ⟨A, B, ss, fp, ok, h⟩ => by
  refine ⟨A, B, ss, fp, ok, h.seq.mono fun xs H1 ⟨ds, B1, ss1, fp1, ok1, a1, g1, h1⟩ => ⟨A, B1, ss1, fp1, ok1, h1.seq.mono fun x H2 ⟨d2, B2, ss2, fp2, ok2, a2, g2, h2⟩ => ?_⟩⟩
  obtain ⟨rs, er, h3⟩ := lift_some h2
  obtain ⟨k, es, rfl, rfl, hk2, rfl⟩ := kEnS_some er
  rw [a2.int_eq]
  have a1 := a1.up g2.bb
  cases a1 with
  | cons b1 r =>
    cases r
    obtain ⟨p, ys, rfl, hp, al⟩ := b1.lst_ex
    exact ⟨p, ys, k, rfl, rfl, ⟨by omega, by omega⟩, SqL.of (ok2.sm _ _ hp), Res.now (rel := IterOk) ok2 h3 _ (iter_enumS (SqL.of hp) al)⟩
end

/-! ### texts compared -/
def kEqS : PyData → PyData → Option PyData
  | .str a, .str b => some (.bool (decide (a = b)))
  | _, _ => none
def kNeS : PyData → PyData → Option PyData
  | .str a, .str b => some (.bool (!decide (a = b)))
  | _, _ => none
theorem dec_strV {a b : Str} : decide (V.str a = V.str b) = decide (a = b) := by
  rw [Bool.eq_iff_iff]
  simp
theorem d_eqS : D2 rEq kEqS := fun B H x y d1 d2 d Q s a b e k => by
  unfold kEqS at e
  split at e
  · cases e
    rw [a.str_eq, b.str_eq]
    refine ⟨rfl, ?_⟩
    rw [dec_strV]
    exact k _ B H (Grow.refl s) (.bl _)
  · cases e
theorem d_neS : D2 rNe kNeS := fun B H x y d1 d2 d Q s a b e k => by
  unfold kNeS at e
  split at e
  · cases e
    rw [a.str_eq, b.str_eq]
    refine ⟨rfl, ?_⟩
    rw [dec_strV]
    exact k _ B H (Grow.refl s) (.bl _)
  · cases e

/-! ### sorted rows -/
def isI : PyData → Bool
  | .int _ => true
  | _ => false
def rowI : PyData → Bool
  | .list ds => ds.all isI
  | _ => false
theorem ints_of {ds : List PyData} (h : ds.all isI = true) : ∃ xs : List Int, ds = xs.map .int := by
  induction ds with
  | nil => exact ⟨[], rfl⟩
  | cons d ds ih =>
    rw [List.all_cons, Bool.and_eq_true] at h
    obtain ⟨xs, e⟩ := ih h.2
    cases d <;> simp [isI] at h
    rename_i i
    exact ⟨i :: xs, by rw [e]; rfl⟩
theorem rowI_ex {d : PyData} (h : rowI d = true) : ∃ xs : List Int, d = .list (xs.map .int) := by
  cases d with
  | list ds =>
    obtain ⟨xs, e⟩ := ints_of h
    exact ⟨xs, by rw [e]⟩
  | _ => cases h
def sortD (ds : List PyData) : List PyData := ds.mergeSort (PySem.W.dataLe false id)
def kSortD : List PyData → Option (List PyData)
  | [.list ds] => if ds.all rowI then some (sortD ds) else none
  | _ => none
theorem kSortD_some {as es : List PyData} (h : kSortD as = some es) : ∃ ds, as = [.list ds] ∧ (∀ d ∈ ds, rowI d = true) ∧ es = sortD ds := by
  unfold kSortD at h
  split at h
  · split at h
    · rename_i c
      cases h
      exact ⟨_, rfl, fun d hd => List.all_eq_true.mp c d hd, rfl⟩
    · cases h
  · cases h
def rSortD (K : PySem.W.Frag) : List V → Hp → VK → Prop := fun vs H Q => ∃ a ds xs B, vs = [.ref a] ∧ Same B H ∧ H a = some (.lst xs) ∧ AtL B xs ds ∧ (∀ d ∈ ds, rowI d = true) ∧ ∀ ys p, AtL B ys (sortD ds) → H p = none → Q (.ref p) (upd H p (.lst ys))
theorem each_at {K : PySem.W.Frag} {H : Hp} {R : Value → PyData → Prop} : ∀ {xs : List V} {us : List Value} {ds : List PyData}, Vals xs us → AtL H xs ds → (∀ v u d, RelV v u → At H v d → d ∈ ds → R u d) → PySem.W.EachIs R us ds
  | _, _, _, .nil, a, h => by
    cases a
    exact .nil
  | _, _, _, .cons r rs, a, h => by
    cases a with
    | cons a as => exact .cons (h _ _ _ r a List.mem_cons_self) (each_at (K := K) rs as fun v u d r a m => h v u d r a (List.mem_cons_of_mem _ m))
theorem at_each {H : Hp} : ∀ {us : List Value} {ds : List PyData}, PySem.W.EachIs (fun u d => ∃ v, RelV v u ∧ At H v d) us ds → ∃ xs, Vals xs us ∧ AtL H xs ds
  | _, _, .nil => ⟨[], .nil, .nil⟩
  | _, _, .cons ⟨v, r, a⟩ h => by
    obtain ⟨xs, rs, as⟩ := at_each h
    exact ⟨v :: xs, .cons r rs, .cons a as⟩
theorem row_noDict {xs : List Int} : PyData.hasDict (.list (xs.map .int)) = false := by
  rw [PyData.hasDict]
  induction xs with
  | nil => rfl
  | cons x xs ih =>
    show PyData.hasDictAll (.int x :: xs.map .int) = false
    rw [PyData.hasDictAll, ih]
    rfl
theorem row_depth {xs : List Int} : PyData.depth (.list (xs.map .int)) ≤ 1 := by
  rw [PyData.depth, PySem.W.depth_ints]
  omega
section
variable {X : Cx} {E : XK} {K : PySem.W.Frag}
theorem cr_sortD (e : X.K = K) (hu : X.A.units + 64 < cLine) : CallR X (.builtin "sorted") (rSortD K) := by
  subst e
  intro pins s σ H vs us Q I r h
  obtain ⟨a, ds, xs, B, rfl, hB, ha, al, hr, q⟩ := h
  obtain ⟨its, rv, hl, hz⟩ := I.list (SqL.of ha)
  rw [Vals.ref1 r]
  have alike : PySem.W.AllAlike ds := fun d hd d' hd' => by
    obtain ⟨x1, rfl⟩ := rowI_ex (hr d hd)
    obtain ⟨x2, rfl⟩ := rowI_ex (hr d' hd')
    rw [PySem.W.alike]
    exact PySem.W.alike_ints x1 x2
  have srt : PySem.W.Sortable ds := .inr fun d hd => by
    obtain ⟨x1, rfl⟩ := rowI_ex (hr d hd)
    exact ⟨fun z => (nomatch z), fun _ z => (nomatch z)⟩
  refine PySem.W.sorted_data (enc := id) (bs := ds) (R := fun u d => ∃ v, RelV v u ∧ At B v d) hl.isList (each_at (K := X.K) rv al fun v u d r a _ => ⟨v, r, a⟩) (each_at (K := X.K) rv al fun v u d r a m => ?_) (by rw [List.map_id]; exact alike) (by rw [List.map_id]; exact srt) (by rw [← al.length]; exact hz) (fun d hd => ?_) fun out hlen ho => ?_
  · obtain ⟨x1, rfl⟩ := rowI_ex (hr d m)
    exact Dp.reads I _ v u (At.dp _ v row_noDict (a.up hB)) r
  · obtain ⟨x1, rfl⟩ := rowI_ex (hr d hd)
    have := row_depth (xs := x1)
    show X.A.units + 2 + PyData.depth (.list (x1.map .int)) < cLine
    omega
  · obtain ⟨ys, ry, ay⟩ := at_each ho
    obtain ⟨ep, he'⟩ := PyProof.Rows.sortedAll_at s.heap its out.toArray
    have hlen2 : ys.length ≤ sizeLine := by
      rw [ry.length, hlen, ← al.length]
      exact hz
    exact ⟨.ref _, upd H (s.heap.objs.size + 1) (.lst ys), I.laid (t' := s.toks) (fun _ _ => PyProof.Rows.sortedAll_old) (Nat.le_succ _) ⟨hlen2, out, ep, ry, he'⟩, rfl, q ys _ ay (I.hok.fresh (Nat.le_succ _))⟩
theorem d_sortD : DAL (rSortD K) kSortD := fun B H xs ds es Q s al hk q => by
  obtain ⟨ds, rfl, hr, rfl⟩ := kSortD_some hk
  cases al with
  | cons a r =>
    cases r
    obtain ⟨p, ys, rfl, hp, al2⟩ := a.lst_ex
    exact ⟨p, ds, ys, B, rfl, s, s _ _ hp, al2, hr, fun zs l a' hl => q l zs a' hl⟩
end
end Cm

/-! Trees and marks: the mathematics. -/
namespace Cm
open PySem PySem.Spec PyProof.Rows L2 Cf

/-- a tree's left depths, from the right -/
inductive Tr : List Int → Prop
  | leaf : Tr [0]
  | cons {d e : Int} {r : List Int} : Tr (e :: r) → 1 ≤ d → d ≤ e + 1 → Tr (d :: e :: r)
theorem Tr.pos {ns : List Int} (h : Tr ns) : 0 < ns.length := by cases h <;> simp
theorem Tr.last : ∀ {ns : List Int}, Tr ns → ns[ns.length - 1]? = some 0
  | _, .leaf => rfl
  | _, .cons (r := r) h _ _ => by
    have q := Tr.last h
    simpa using q
theorem Tr.ge : ∀ {ns : List Int}, Tr ns → ∀ (i : Nat) (d : Int), ns[i]? = some d → (if i = ns.length - 1 then 0 else 1) ≤ d
  | _, .leaf, i, d, h => by
    cases i with
    | zero => simp at h; simp [h]
    | succ i => simp at h
  | _, .cons (d := a) (e := e) (r := r) t h1 h2, 0, d, h => by
    simp at h
    simp
    omega
  | _, .cons (d := a) (e := e) (r := r) t h1 h2, i + 1, d, h => by
    have q := Tr.ge t i d (by simpa using h)
    simp at q ⊢
    exact q
theorem Tr.nonneg {ns : List Int} (h : Tr ns) {d : Int} (m : d ∈ ns) : 0 ≤ d := by
  obtain ⟨i, hi⟩ := List.mem_iff_getElem?.mp m
  have q := h.ge i d hi
  split at q <;> omega
theorem Tr.step : ∀ {ns : List Int}, Tr ns → ∀ (i : Nat) (d e : Int), ns[i]? = some d → ns[i + 1]? = some e → d ≤ e + 1
  | _, .leaf, i, d, e, h, k => by simp at k
  | _, .cons (d := a) (e := b) (r := r) t h1 h2, 0, d, e, h, k => by
    simp at h k
    omega
  | _, .cons (d := a) (e := b) (r := r) t h1 h2, i + 1, d, e, h, k => Tr.step t i d e (by simpa using h) (by simpa using k)
theorem Tr.bound : ∀ {ns : List Int}, Tr ns → ∀ d ∈ ns, d < (ns.length : Int)
  | _, .leaf, d, h => by simp at h; simp [h]
  | _, .cons (d := a) (e := e) (r := r) t h1 h2, d, h => by
    have q := Tr.bound t
    rcases List.mem_cons.mp h with z | z
    · have q1 := q e (List.mem_cons_self)
      simp only [List.length_cons] at q1 ⊢
      omega
    · have q1 := q d z
      simp only [List.length_cons] at q1 ⊢
      omega
/-- n - 1, .., 1, 0 -/
def downs : Nat → List Int
  | 0 => []
  | n + 1 => (n : Int) :: downs n
theorem downs_len : ∀ n, (downs n).length = n
  | 0 => rfl
  | n + 1 => by rw [downs, List.length_cons, downs_len n]
theorem downs_tr : ∀ n, Tr (downs (n + 1))
  | 0 => .leaf
  | n + 1 => by
    have q := downs_tr n
    rw [downs] at q ⊢
    rw [downs]
    exact .cons q (by omega) (by omega)
theorem downs_get : ∀ (n i : Nat), i < n → (downs n)[i]? = some ((n : Int) - 1 - i)
  | 0, i, h => by omega
  | n + 1, 0, h => by simp [downs]
  | n + 1, i + 1, h => by
    rw [downs, List.getElem?_cons_succ, downs_get n i (by omega)]
    congr 1
    omega
/-- the mark of a left depth -/
def mk (d t r : Int) : Int := if d < t then d else t + (d - t) % r
theorem emod_succ {a r : Int} (h : 0 < r) : (a + 1) % r = if a % r + 1 < r then a % r + 1 else 0 := by
  have h0 := Int.emod_nonneg a (show r ≠ 0 by omega)
  have h1 := Int.emod_lt_of_pos a h
  have e : a + 1 = (a % r + 1) + r * (a / r) := by
    have := Int.emod_add_mul_ediv a r
    omega
  rw [e, Int.add_mul_emod_self_left]
  split
  · exact Int.emod_eq_of_lt (by omega) (by assumption)
  · rw [show a % r + 1 = r by omega]
    exact Int.emod_self
theorem mk_step {d t r : Int} (hd : 0 ≤ d) (ht : 0 ≤ t) (hr : 1 ≤ r) : (if mk d t r + 1 < t + r then mk d t r + 1 else t) = mk (d + 1) t r := by
  unfold mk
  by_cases h1 : d < t
  · rw [if_pos h1, if_pos (by omega)]
    by_cases h2 : d + 1 < t
    · rw [if_pos h2]
    · rw [if_neg h2, show d + 1 - t = 0 by omega, Int.zero_emod]
      omega
  · rw [if_neg h1, if_neg (show ¬ d + 1 < t by omega), show d + 1 - t = (d - t) + 1 by omega, emod_succ (by omega)]
    have h0 := Int.emod_nonneg (d - t) (show r ≠ 0 by omega)
    by_cases h2 : (d - t) % r + 1 < r
    · rw [if_pos h2, if_pos (show t + (d - t) % r + 1 < t + r by omega)]
      omega
    · rw [if_neg h2, if_neg (show ¬ t + (d - t) % r + 1 < t + r by omega)]
      omega
theorem mk_zero {t r : Int} (ht : 0 ≤ t) : mk 0 t r = 0 := by
  unfold mk
  split
  · rfl
  · rw [show t = 0 by omega]
    simp
theorem mk_nonneg {d t r : Int} (hd : 0 ≤ d) (ht : 0 ≤ t) (hr : 1 ≤ r) : 0 ≤ mk d t r := by
  unfold mk
  split
  · exact hd
  · have := Int.emod_nonneg (d - t) (show r ≠ 0 by omega)
    omega
theorem mk_lt {d t r : Int} (hd : 0 ≤ d) (ht : 0 ≤ t) (hr : 1 ≤ r) : mk d t r < t + r := by
  unfold mk
  split
  · omega
  · have := Int.emod_lt_of_pos (d - t) (show 0 < r by omega)
    omega
/-- a tree of two parts -/
structure Split (ns l r : List Int) : Prop where
  eq : ns = l.map (· + 1) ++ r
  tl : Tr l
  tr : Tr r
theorem split_ex : ∀ {ns : List Int}, Tr ns → 2 ≤ ns.length → ∃ l r, Split ns l r
  | _, .leaf, h => by simp at h
  | _, .cons (d := d) (e := e) (r := rest) t h1 h2, _ => by
    by_cases hd : d = 1
    · exact ⟨[0], e :: rest, by rw [hd]; rfl, .leaf, t⟩
    · have h2l : 2 ≤ (e :: rest).length := by
        cases t with
        | leaf => omega
        | cons t2 _ _ => simp
      obtain ⟨l, r, s⟩ := split_ex t h2l
      obtain ⟨a, l2, rfl, a0⟩ : ∃ e r, l = e :: r ∧ 0 ≤ e := by
        cases s.tl with
        | leaf => exact ⟨0, [], rfl, by omega⟩
        | cons t h1 h2 => exact ⟨_, _, rfl, by omega⟩
      have e1 := s.eq
      rw [List.map_cons, List.cons_append] at e1
      have e2 : e = a + 1 := (List.cons.inj e1).1
      refine ⟨(d - 1) :: a :: l2, r, ?_, .cons s.tl (by omega) (by omega), s.tr⟩
      rw [List.map_cons, List.cons_append, ← s.eq, show d - 1 + 1 = d by omega]
theorem Split.len {ns l r : List Int} (s : Split ns l r) : ns.length = l.length + r.length := by rw [s.eq, List.length_append, List.length_map]
theorem Split.get {ns l r : List Int} (s : Split ns l r) {i : Nat} (h : i < l.length) : ∃ d, l[i]? = some d ∧ ns[i]? = some (d + 1) := by
  refine ⟨l[i], List.getElem?_eq_getElem h, ?_⟩
  rw [s.eq, List.getElem?_append_left (by rw [List.length_map]; exact h), List.getElem?_map, List.getElem?_eq_getElem h]
  rfl
/-- its left part ends where the first 1 stands -/
theorem Split.one {ns l r : List Int} (s : Split ns l r) {i : Nat} (h : i < l.length) : ∃ d, ns[i]? = some d ∧ (d = 1 ↔ i = l.length - 1) := by
  obtain ⟨d, h1, h2⟩ := s.get h
  refine ⟨d + 1, h2, ?_⟩
  have g := s.tl.ge i d h1
  constructor
  · intro e
    by_cases z : i = l.length - 1
    · exact z
    · rw [if_neg z] at g
      omega
  · intro e
    have q := s.tl.last
    rw [← e, h1] at q
    have : d = 0 := Option.some.inj q
    omega
theorem Split.take {ns l r : List Int} (s : Split ns l r) : ns.take l.length = l.map (· + 1) := by
  rw [s.eq, List.take_append_of_le_length (by rw [List.length_map]; exact Nat.le_refl _)]
  exact List.take_of_length_le (by rw [List.length_map]; exact Nat.le_refl _)
theorem Split.drop {ns l r : List Int} (s : Split ns l r) : ns.drop l.length = r := by
  rw [s.eq, List.drop_append_of_le_length (by rw [List.length_map]; exact Nat.le_refl _)]
  rw [List.drop_of_length_le (by rw [List.length_map]; exact Nat.le_refl _)]
  rfl
/-- what a row must be to be a tree, place by place -/
theorem Tr.of : ∀ {ns : List Int}, 0 < ns.length → (∀ i d, ns[i]? = some d → (if i = ns.length - 1 then 0 else 1) ≤ d) → (∀ i d e, ns[i]? = some d → ns[i + 1]? = some e → d ≤ e + 1) → ns[ns.length - 1]? = some 0 → Tr ns
  | [], h, _, _, _ => by simp at h
  | [d], _, _, _, h => by
    have e : d = 0 := by simpa using h
    rw [e]
    exact .leaf
  | d :: e :: r, _, h1, h2, h3 => by
    refine .cons (Tr.of (by simp) (fun i x hx => ?_) (fun i x y hx hy => h2 (i + 1) x y (by simpa using hx) (by simpa using hy)) (by simpa using h3)) ?_ (h2 0 d e (by simp) (by simp))
    · have q := h1 (i + 1) x (by simpa using hx)
      simp only [List.length_cons] at q ⊢
      split at q <;> split <;> omega
    · have q := h1 0 d (by simp)
      simp only [List.length_cons] at q
      rw [if_neg (by omega)] at q
      exact q

def mks (ns : List Int) (t r : Int) : List Int := ns.map fun d => mk d t r
theorem mks_len {ns : List Int} {t r : Int} : (mks ns t r).length = ns.length := List.length_map _/-! ### how long a text is that shows data -/
structure Sm (k n : Nat) (d : PyData) : Prop where
  sh : d.showable = true
  ly : d.canLay0 = true
  dp : d.depth ≤ k
  ln : d.shown.length ≤ n
theorem Sm.shown {k n : Nat} {d : PyData} (h : Sm k n d) (hk : k ≤ 100) (hn : n ≤ 16777216) : Shown d := ⟨h.sh, PyData.hasDict_of_canLay d h.ly, Nat.le_trans h.dp hk, Nat.le_trans h.ln hn⟩
theorem log2_12 {i : Int} (h : i.natAbs < 10 ^ 12) : i.natAbs.log2 < 1920 := by
  by_cases z : i.natAbs = 0
  · rw [z]
    decide
  · have h2 : i.natAbs < 2 ^ 40 := Nat.lt_of_lt_of_le h (by decide)
    have := (Nat.log2_lt z).mpr h2
    omega
theorem Sm.int {i : Int} (h : i.natAbs < 10 ^ 12) : Sm 0 13 (.int i) :=
  ⟨by simp only [PyData.showable]; exact decide_eq_true (log2_12 h), by simp only [PyData.canLay0], by simp only [PyData.depth]; exact Nat.le_refl _, PyData.shown_int_le h⟩
theorem Sm.non : Sm 0 13 .none := ⟨by simp only [PyData.showable], by simp only [PyData.canLay0], by simp only [PyData.depth]; exact Nat.le_refl _, by rw [PyData.shown_none]; decide⟩
theorem Sm.bl (b : Bool) : Sm 0 13 (.bool b) := ⟨by simp only [PyData.showable], by simp only [PyData.canLay0], by simp only [PyData.depth]; exact Nat.le_refl _, by rw [PyData.shown_bool]; cases b <;> decide⟩
theorem sm_all {k n : Nat} : ∀ {ds : List PyData}, (∀ d ∈ ds, Sm k n d) → PyData.showableAll ds = true ∧ PyData.canLayAll0 ds = true ∧ PyData.depthAll ds ≤ k ∧ ((PyData.shownAll ds).map (·.length)).sum ≤ ds.length * n
  | [], _ => ⟨by simp only [PyData.showableAll], by simp only [PyData.canLayAll0], by simp only [PyData.depthAll]; exact Nat.zero_le _, by simp [PyData.shownAll_nil]⟩
  | d :: ds, h => by
    have h1 := h d List.mem_cons_self
    obtain ⟨a, b, c, e⟩ := sm_all (ds := ds) fun x hx => h x (List.mem_cons_of_mem _ hx)
    refine ⟨by simp only [PyData.showableAll, h1.sh, a, Bool.and_self], by simp only [PyData.canLayAll0, h1.ly, b, Bool.and_self], by simp only [PyData.depthAll]; exact Nat.max_le.mpr ⟨h1.dp, c⟩, ?_⟩
    rw [PyData.shownAll_cons, List.map_cons, List.sum_cons, List.length_cons, Nat.succ_mul]
    have := h1.ln
    omega
theorem Sm.list {k n m : Nat} {ds : List PyData} (h : ∀ d ∈ ds, Sm k n d) (hl : ds.length ≤ m) : Sm (k + 1) (m * (n + 2) + 3) (.list ds) := by
  obtain ⟨a, b, c, e⟩ := sm_all h
  refine ⟨by simp only [PyData.showable]; exact a, by simp only [PyData.canLay0]; exact b, by simp only [PyData.depth]; omega, ?_⟩
  have q := listText_len_le (PyData.shownAll ds)
  rw [PyData.shownAll_length] at q
  have e2 : (PyData.list ds).shown = listText (PyData.shownAll ds) := by simp only [PyData.shown]
  have e3 : ds.length * (n + 2) = ds.length * n + 2 * ds.length := by rw [Nat.mul_add]; omega
  have e4 : ds.length * (n + 2) ≤ m * (n + 2) := Nat.mul_le_mul_right _ hl
  rw [e2]
  omega
theorem Sm.tuple {k n m : Nat} {ds : List PyData} (h : ∀ d ∈ ds, Sm k n d) (hl : ds.length ≤ m) : Sm (k + 1) (m * (n + 2) + 3) (.tuple ds) := by
  obtain ⟨a, b, c, e⟩ := sm_all h
  refine ⟨by simp only [PyData.showable]; exact a, by simp only [PyData.canLay0]; exact b, by simp only [PyData.depth]; omega, ?_⟩
  have q := tupleText_len_le (PyData.shownAll ds)
  rw [PyData.shownAll_length] at q
  have e2 : (PyData.tuple ds).shown = tupleText (PyData.shownAll ds) := by simp only [PyData.shown]
  have e3 : ds.length * (n + 2) = ds.length * n + 2 * ds.length := by rw [Nat.mul_add]; omega
  have e4 : ds.length * (n + 2) ≤ m * (n + 2) := Nat.mul_le_mul_right _ hl
  rw [e2]
  omega
theorem Sm.mono {k n k2 n2 : Nat} {d : PyData} (h : Sm k n d) (hk : k ≤ k2) (hn : n ≤ n2) : Sm k2 n2 d := ⟨h.sh, h.ly, Nat.le_trans h.dp hk, Nat.le_trans h.ln hn⟩
theorem Sm.ints {ns : List Int} {m : Nat} (h : ∀ n ∈ ns, n.natAbs < 10 ^ 12) (hl : ns.length ≤ m) : Sm 1 (m * 15 + 3) ((.list (ns.map .int))) := by
  refine Sm.list (k := 0) (n := 13) (fun d hd => ?_) (by rw [List.length_map]; exact hl)
  obtain ⟨n, hn, rfl⟩ := List.mem_map.mp hd
  exact Sm.int (h n hn)
theorem Sm.pair {k n : Nat} {a b : PyData} (h1 : Sm k n a) (h2 : Sm k n b) : Sm (k + 1) (2 * (n + 2) + 3) (.list [a, b]) :=
  Sm.list (fun d hd => by
    rcases List.mem_cons.mp hd with e | hd
    · rw [e]; exact h1
    · rcases List.mem_cons.mp hd with e | hd
      · rw [e]; exact h2
      · cases hd) (Nat.le_refl 2)

/-! ### data that can be compared -/
theorem Sm.shaped {k n : Nat} {d : PyData} (h : Sm k n d) (hk : k ≤ 64) : SeqAt.shaped d = true := by
  have e : decide (d.depth ≤ 64) = true := decide_eq_true (Nat.le_trans h.dp hk)
  unfold SeqAt.shaped
  rw [h.ly, e]
  rfl
theorem eqv_same {k n : Nat} {d : PyData} (h : Sm k n d) : PyData.eqv d d = true := SeqAt.eqv_refl d h.ly
theorem Sm.big {i : Int} (h : i.natAbs < 10 ^ 30) : Sm 0 31 (.int i) := by
  have h1 : i.natAbs.log2 < 1920 := by
    by_cases z : i.natAbs = 0
    · rw [z]
      decide
    · have h2 : i.natAbs < 2 ^ 100 := Nat.lt_of_lt_of_le h (by decide)
      have := (Nat.log2_lt z).mpr h2
      omega
  refine ⟨by simp only [PyData.showable]; exact decide_eq_true h1, by simp only [PyData.canLay0], by simp only [PyData.depth]; exact Nat.le_refl _, ?_⟩
  rw [PyData.shown_int, PySem.ofString_length]
  exact int_text_length_le10 (k := 30) (by decide) h

theorem Sm.ok {k n : Nat} {d : PyData} (h : Sm k n d) (hk : k ≤ 100) (hn : n ≤ 16777216) : okShow d = true := by
  obtain ⟨a, b, c, e⟩ := h.shown hk hn
  unfold okShow
  rw [a, b, decide_eq_true c, decide_eq_true e]
  rfl
theorem mk_self {m t r : Int} (h0 : 0 ≤ m) (h1 : m < t + r) : mk m t r = m := by
  unfold mk
  split
  · rfl
  · rw [Int.emod_eq_of_lt (by omega) (by omega)]
    omega
/-- marks are told apart by no later mark -/
theorem mk_add {d e t r : Int} (hd : 0 ≤ d) (he : 0 ≤ e) (ht : 0 ≤ t) (hr : 1 ≤ r) (h : mk d t r = mk e t r) : ∀ k : Nat, mk (d + k) t r = mk (e + k) t r
  | 0 => by simpa using h
  | k + 1 => by
    have q := mk_add hd he ht hr h k
    have a := mk_step (d := d + k) (t := t) (r := r) (by omega) ht hr
    have b := mk_step (d := e + k) (t := t) (r := r) (by omega) ht hr
    rw [show d + ((k + 1 : Nat) : Int) = d + k + 1 by omega, show e + ((k + 1 : Nat) : Int) = e + k + 1 by omega, ← a, ← b, q]
theorem mk_addI {d e t r k : Int} (hd : 0 ≤ d) (he : 0 ≤ e) (hk : 0 ≤ k) (ht : 0 ≤ t) (hr : 1 ≤ r) (h : mk d t r = mk e t r) : mk (d + k) t r = mk (e + k) t r := by
  have := mk_add hd he ht hr h k.toNat
  rw [show ((k.toNat : Nat) : Int) = k by omega] at this
  exact this
end Cm

/-! What a mirror makes, step by step. -/
namespace Cm
open PySem PySem.Spec PyProof.Rows L2 Cf

section
variable {α β : Type}
def W (o : Option (R α)) (P : α → List SV → Prop) : Prop := match o with
  | some (.val a s) => P a s
  | _ => False
def WS (o : Option Out) (N : List SV → Prop) (T : SV → List SV → Prop) (B C : List SV → Prop) : Prop := match o with
  | some (.nx s) => N s
  | some (.rt r s) => T r s
  | some (.bk s) => B s
  | some (.ct s) => C s
  | _ => False
/-- o is a, and P of it -/
def L (o : Option α) (s : List SV) (P : α → List SV → Prop) : Prop := ∃ a, o = some a ∧ P a s
/-- a binding -/
def LB (o : Option (List SV)) (P : List SV → Prop) : Prop := ∃ s, o = some s ∧ P s
/-- slot i holds d, P of it; a list of its own stays from now on -/
def At1 (i : Nat) (ss : List SV) (P : PyData → List SV → Prop) : Prop := W (mVar i ss) P
def Set1 (i : Nat) (r : SV) (ss : List SV) (N : List SV → Prop) : Prop := i < ss.length ∧ N (ss.set i r)
variable {P : α → List SV → Prop} {Q : β → List SV → Prop} {ss : List SV} {m : M α} {k : α → M β} {a : α} {N B C : List SV → Prop} {T : SV → List SV → Prop}
theorem W_bind : W (M.bind m k ss) Q ↔ W (m ss) fun a s => W (k a s) Q := by
  unfold M.bind W
  cases m ss with
  | none => exact Iff.rfl
  | some r => cases r <;> exact Iff.rfl
theorem W_ret : W (M.ret a ss) P ↔ P a ss := Iff.rfl
theorem W_lift {o : Option α} : W (M.lift o ss) P ↔ L o ss P := by
  unfold M.lift L W
  cases o with
  | none => simp
  | some a => simp
theorem L_some : L (some a) ss P ↔ P a ss := by simp [L]
theorem L_ite {p : Prop} [Decidable p] : L (if p then some a else none) ss P ↔ p ∧ P a ss := by
  unfold L
  by_cases h : p
  · simp [h]
  · simp [h]
theorem L_map {o : Option β} {f : β → α} : L (o.map f) ss P ↔ L o ss fun b s => P (f b) s := by
  unfold L
  cases o <;> simp
theorem W_mono {P' : α → List SV → Prop} {o : Option (R α)} (h : W o P) (k : ∀ a s, P a s → P' a s) : W o P' := by
  unfold W at *
  split at h
  · exact k _ _ h
  · exact h
theorem WS_mono {N' B' C' : List SV → Prop} {T' : SV → List SV → Prop} {o : Option Out} (h : WS o N T B C) (k1 : ∀ s, N s → N' s) (k2 : ∀ r s, T r s → T' r s) (k3 : ∀ s, B s → B' s) (k4 : ∀ s, C s → C' s) : WS o N' T' B' C' := by
  unfold WS at *
  split at h
  · exact k1 _ h
  · exact k2 _ _ h
  · exact k3 _ h
  · exact k4 _ h
  · exact h.elim
theorem WS_eseq {k : α → S} : WS (eseq m k ss) N T B C ↔ W (m ss) fun a s => WS (k a s) N T B C := by
  unfold eseq WS W
  cases m ss with
  | none => exact Iff.rfl
  | some r => cases r <;> exact Iff.rfl
theorem WS_seq {f g : S} : WS (sSeq f g ss) N T B C ↔ WS (f ss) (fun s => WS (g s) N T B C) T B C := by
  unfold sSeq WS
  cases f ss with
  | none => exact Iff.rfl
  | some r => cases r <;> exact Iff.rfl
theorem WS_nil : WS (sNil ss) N T B C ↔ N ss := Iff.rfl
theorem WS_pass : WS (sPass ss) N T B C ↔ N ss := Iff.rfl
theorem WS_break : WS (sBreak ss) N T B C ↔ B ss := Iff.rfl
theorem WS_cont : WS (sCont ss) N T B C ↔ C ss := Iff.rfl
theorem WS_never : WS (sNever ss) N T B C ↔ False := Iff.rfl
theorem WS_set {i : Nat} {f : M SV} : WS (sSet i f ss) N T B C ↔ W (f ss) fun r s => Set1 i r s N := by
  unfold sSet
  rw [WS_eseq]
  have e : ∀ (r : SV) (s : List SV), WS (if i < s.length then some (.nx (s.set i r)) else none) N T B C ↔ Set1 i r s N := fun r s => by
    unfold Set1
    split
    · rename_i h
      simp [h, WS]
    · rename_i h
      simp [h, WS]
  simp only [e]
theorem WS_ret {f : M SV} : WS (sRet f ss) N T B C ↔ W (f ss) T := by
  unfold sRet
  rw [WS_eseq]
  exact Iff.rfl
theorem WS_retN : WS (sRetN ss) N T B C ↔ T (.dat .none) ss := Iff.rfl
theorem WS_drop {f : M PyData} : WS (sDrop f ss) N T B C ↔ W (f ss) fun _ s => N s := by
  unfold sDrop
  rw [WS_eseq]
  exact Iff.rfl
theorem WS_asg {b : PyData → List SV → Option (List SV)} {f : M PyData} : WS (sAsg b f ss) N T B C ↔ W (f ss) fun d s => LB (b d s) N := by
  unfold sAsg
  rw [WS_eseq]
  have e : ∀ (d : PyData) (s : List SV), WS ((b d s).map .nx) N T B C ↔ LB (b d s) N := fun d s => by
    unfold LB
    cases b d s <;> simp [WS]
  simp only [e]
def ifS (b : Bool) (f g : S) : S := fun s => match b with
  | true => f s
  | false => g s
def ifM (b : Bool) (f g : M α) : M α := fun s => match b with
  | true => f s
  | false => g s
theorem WS_if {c : M Bool} {f g : S} : WS (sIf c f g ss) N T B C ↔ W (c ss) fun b s => WS (ifS b f g s) N T B C := by
  have e : sIf c f g = eseq c fun b => ifS b f g := by
    unfold sIf
    congr 1
    funext b
    cases b <;> rfl
  rw [e, WS_eseq]
theorem ifS_t {f g : S} : WS (ifS true f g ss) N T B C ↔ WS (f ss) N T B C := Iff.rfl
theorem ifS_f {f g : S} : WS (ifS false f g ss) N T B C ↔ WS (g ss) N T B C := Iff.rfl
theorem ifS_not {b : Bool} {f g : S} : WS (ifS (!b) f g ss) N T B C ↔ WS (ifS b g f ss) N T B C := by cases b <;> exact Iff.rfl
theorem ifS_dec {p : Prop} [Decidable p] {f g : S} : WS (ifS (decide p) f g ss) N T B C ↔ (p → WS (f ss) N T B C) ∧ (¬ p → WS (g ss) N T B C) := by
  by_cases h : p
  · simp [h, ifS]
  · simp [h, ifS]
theorem ifS_b {b : Bool} {f g : S} : WS (ifS b f g ss) N T B C ↔ (b = true → WS (f ss) N T B C) ∧ (b = false → WS (g ss) N T B C) := by
  cases b <;> simp [ifS]
theorem ifM_t {f g : M α} : W (ifM true f g ss) P ↔ W (f ss) P := Iff.rfl
theorem ifM_f {f g : M α} : W (ifM false f g ss) P ↔ W (g ss) P := Iff.rfl
theorem ifM_not {b : Bool} {f g : M α} : W (ifM (!b) f g ss) P ↔ W (ifM b g f ss) P := by cases b <;> exact Iff.rfl
theorem ifM_dec {p : Prop} [Decidable p] {f g : M α} : W (ifM (decide p) f g ss) P ↔ (p → W (f ss) P) ∧ (¬ p → W (g ss) P) := by
  by_cases h : p
  · simp [h, ifM]
  · simp [h, ifM]
theorem ifM_b {b : Bool} {f g : M α} : W (ifM b f g ss) P ↔ (b = true → W (f ss) P) ∧ (b = false → W (g ss) P) := by
  cases b <;> simp [ifM]
end
section
variable {ss : List SV} {P : PyData → List SV → Prop} {PB : Bool → List SV → Prop} {PL : List PyData → List SV → Prop} {PV : SV → List SV → Prop} {PI : Option Int → List SV → Prop} {f g h : M PyData} {c c2 : M Bool} {fa : M (List PyData)} {fv : M SV} {N B C : List SV → Prop} {T : SV → List SV → Prop} {d : PyData} {ds es : List PyData} {i j : Int} {lo hi : M (Option Int)} {s : List SV}
theorem W_C : W (mC d ss) P ↔ P d ss := Iff.rfl
theorem W_2 {k} : W (m2 k f g ss) P ↔ W (f ss) fun x s => W (g s) fun y s => L (k x y) s P := by
  unfold m2
  simp only [W_bind, W_lift]
theorem W_1 {k} : W (m1 k f ss) P ↔ W (f ss) fun x s => L (k x) s P := by
  unfold m1
  simp only [W_bind, W_lift]
theorem W_A {k} : W (mA k fa ss) P ↔ W (fa ss) fun xs s => L (k xs) s P := by
  unfold mA
  simp only [W_bind, W_lift]
theorem W_AL {k} : W (mAL k fa ss) PV ↔ W (fa ss) fun xs s => L (k xs) s fun r s => PV (.own none r) s := by
  unfold mAL
  simp only [W_bind, W_lift, L_map]
theorem W_2L {k} : W (m2L k f g ss) PV ↔ W (f ss) fun x s => W (g s) fun y s => L (k x y) s fun r s => PV (.own none r) s := by
  unfold m2L
  simp only [W_bind, W_lift, L_map]
theorem W_nilA : W (mNil ss) PL ↔ PL [] ss := Iff.rfl
theorem W_consA : W (mCons f fa ss) PL ↔ W (f ss) fun x s => W (fa s) fun xs s => PL (x :: xs) s := by
  unfold mCons
  simp only [W_bind, W_ret]
theorem W_B : W (mB f ss) PB ↔ W (f ss) fun d s => L (asB d) s PB := by
  unfold mB
  simp only [W_bind, W_lift]
theorem L_asB {b : Bool} : L (asB (.bool b)) s PB ↔ PB b s := by simp [asB, L]
theorem W_not : W (mNot f ss) P ↔ W (f ss) fun d s => L (asB d) s fun b s => P (.bool (!b)) s := by
  unfold mNot
  rw [W_1]
  simp only [L_map]
theorem W_tnot : W (mtNot c ss) PB ↔ W (c ss) fun b s => PB (!b) s := by
  unfold mtNot
  simp only [W_bind, W_ret]
theorem W_and : W (mAnd f g ss) P ↔ W (f ss) fun d s => L (asB d) s fun b s => W (ifM b g (mC (.bool false)) s) P := by
  have e : mAnd f g = M.bind (mB f) fun b => ifM b g (mC (.bool false)) := by
    unfold mAnd
    congr 1
    funext b
    cases b <;> rfl
  rw [e, W_bind, W_B]
theorem W_or : W (mOr f g ss) P ↔ W (f ss) fun d s => L (asB d) s fun b s => W (ifM b (mC (.bool true)) g s) P := by
  have e : mOr f g = M.bind (mB f) fun b => ifM b (mC (.bool true)) g := by
    unfold mOr
    congr 1
    funext b
    cases b <;> rfl
  rw [e, W_bind, W_B]
theorem W_tand : W (mtAnd c c2 ss) PB ↔ W (c ss) fun b s => W (ifM b c2 (M.ret false) s) PB := by
  have e : mtAnd c c2 = M.bind c fun b => ifM b c2 (M.ret false) := by
    unfold mtAnd
    congr 1
    funext b
    cases b <;> rfl
  rw [e, W_bind]
theorem W_tor : W (mtOr c c2 ss) PB ↔ W (c ss) fun b s => W (ifM b (M.ret true) c2 s) PB := by
  have e : mtOr c c2 = M.bind c fun b => ifM b (M.ret true) c2 := by
    unfold mtOr
    congr 1
    funext b
    cases b <;> rfl
  rw [e, W_bind]
theorem W_if : W (mIf c f g ss) P ↔ W (c ss) fun b s => W (ifM b f g s) P := by
  have e : mIf c f g = M.bind c fun b => ifM b f g := by
    unfold mIf
    congr 1
    funext b
    cases b <;> rfl
  rw [e, W_bind]
theorem W_chain {k k'} : W (mChain k k' f g h ss) P ↔ W (f ss) fun x s => W (g s) fun y s => L ((k x y).bind asB) s fun b s => W (ifM b (M.bind h fun z => M.lift (k' y z)) (mC (.bool false)) s) P := by
  have e : mChain k k' f g h = M.bind f fun x => M.bind g fun y => M.bind (M.lift ((k x y).bind asB)) fun b => ifM b (M.bind h fun z => M.lift (k' y z)) (mC (.bool false)) := by
    unfold mChain
    congr 1
    funext x
    congr 1
    funext y
    congr 1
    funext b
    cases b <;> rfl
  rw [e]
  simp only [W_bind, W_lift]
theorem L_bindB {o : Option PyData} : L (o.bind asB) s PB ↔ L o s fun d s => L (asB d) s PB := by
  unfold L
  cases o <;> simp
theorem few_of {n : Nat} (h : n ≤ 1000000) : few n = true := decide_eq_true h
theorem W_tup : W (mTup fa ss) P ↔ W (fa ss) fun xs s => xs.length ≤ 1000000 ∧ P (.tuple xs) s := by
  unfold mTup
  rw [W_bind]
  have e : ∀ (xs : List PyData) (s : List SV), W (M.lift (if few xs.length then some (.tuple xs) else none) s) P ↔ xs.length ≤ 1000000 ∧ P (.tuple xs) s := fun xs s => by
    rw [W_lift]
    unfold few
    by_cases h : xs.length ≤ 1000000
    · simp [h, L]
    · simp [h, L]
  simp only [e]
theorem W_lst : W (mLst fa ss) PV ↔ W (fa ss) fun xs s => xs.length ≤ 1000000 ∧ PV (.own none xs) s := by
  unfold mLst
  rw [W_bind]
  have e : ∀ (xs : List PyData) (s : List SV), W (M.lift (if few xs.length then some (.own none xs) else none) s) PV ↔ xs.length ≤ 1000000 ∧ PV (.own none xs) s := fun xs s => by
    rw [W_lift]
    unfold few
    by_cases h : xs.length ≤ 1000000
    · simp [h, L]
    · simp [h, L]
  simp only [e]
theorem W_dat : W (mDat f ss) PV ↔ W (f ss) fun d s => PV (.dat d) s := by
  unfold mDat
  simp only [W_bind, W_ret]
theorem W_fz : W (mFz fv ss) P ↔ W (fv ss) fun r s => L (asD r) s P := by
  unfold mFz
  simp only [W_bind, W_lift]
theorem L_asD : L (asD (.dat d)) s P ↔ P d s := by simp [asD, L]
theorem L_asO {lb : Option Nat} : L (asD (.own lb ds)) s P ↔ P (.list ds) s := by simp [asD, L]
theorem W_someI : W (mSome f ss) PI ↔ W (f ss) fun d s => L ((asI d).map some) s PI := by
  unfold mSome
  simp only [W_bind, W_lift]
theorem L_asI1 {PJ : Int → List SV → Prop} : L (asI (.int i)) s PJ ↔ PJ i s := by simp [asI, L]
theorem L_asI : L ((asI (.int i)).map some) s PI ↔ PI (some i) s := by simp [asI, L]
theorem W_noneI : W (mNone ss) PI ↔ PI none ss := Iff.rfl
def cutS (d : PyData) (a b : Option Int) : Option SV := match d with
  | .list ds => some (.own none (cutD ds a b))
  | _ => none
theorem W_slL : W (mSlL f lo hi ss) PV ↔ W (f ss) fun d s => W (lo s) fun a s => W (hi s) fun b s => L (cutS d a b) s PV := by
  unfold mSlL
  simp only [W_bind, W_lift]
  exact Iff.rfl
theorem L_cut {a b : Option Int} : L (cutS (.list ds) a b) s PV ↔ PV (.own none (cutD ds a b)) s := by simp [cutS, L]
theorem WS_for {it : M (List PyData)} {b : PyData → List SV → Option (List SV)} {body : S} : WS (sFor it b body ss) N T B C ↔ W (it ss) fun ds s => WS (forGo b body ds s) N T B C := by
  unfold sFor
  rw [WS_eseq]
theorem WS_while {n : Nat} {c : M Bool} {body : S} : WS (sWhile n c body ss) N T B C ↔ WS (whileGo c body n ss) N T B C := Iff.rfl
theorem W_lc0 {vs : List Nat} {it : M (List PyData)} {b : PyData → List SV → Option (List SV)} : W (mLc vs it b c f ss) PV ↔ W (it ss) fun ds s => W (lcGo vs b c f ds [] (wipeS s vs)) PV := by
  unfold mLc
  rw [W_bind]
theorem W_itL : W (itL f ss) PL ↔ W (f ss) fun d s => L (asL d) s PL := by
  unfold itL
  simp only [W_bind, W_lift]
theorem L_asL : L (asL (.list ds)) s PL ↔ PL ds s := by simp [asL, L]
theorem W_itT : W (itT f ss) PL ↔ W (f ss) fun d s => L (asT d) s PL := by
  unfold itT
  simp only [W_bind, W_lift]
theorem L_asT : L (asT (.tuple ds)) s PL ↔ PL ds s := by simp [asT, L]
theorem W_itA {k} : W (itA k fa ss) PL ↔ W (fa ss) fun xs s => L (k xs) s PL := by
  unfold itA
  simp only [W_bind, W_lift]
theorem W_itES : W (itES fa g ss) PL ↔ W (fa ss) fun xs s => W (g s) fun k s => L (kEnS k xs) s PL := by
  unfold itES
  simp only [W_bind, W_lift]
/-! operators -/
theorem L_add : L (kAdd (.int i) (.int j)) s P ↔ P (.int (i + j)) s := by simp [kAdd, kI, L]
theorem L_sub : L (kSub (.int i) (.int j)) s P ↔ P (.int (i - j)) s := by simp [kSub, kI, L]
theorem L_lt : L (kLt (.int i) (.int j)) s P ↔ P (.bool (decide (i < j))) s := by simp [kLt, kI, L]
theorem L_le : L (kLe (.int i) (.int j)) s P ↔ P (.bool (decide (i ≤ j))) s := by simp [kLe, kI, L]
theorem L_gt : L (kGt (.int i) (.int j)) s P ↔ P (.bool (decide (j < i))) s := by simp [kGt, kI, L]
theorem L_ge : L (kGe (.int i) (.int j)) s P ↔ P (.bool (decide (j ≤ i))) s := by simp [kGe, kI, L]
theorem L_neg : L (kNeg (.int i)) s P ↔ P (.int (-i)) s := by simp [kNeg, L]
theorem L_mul : L (kMul (.int i) (.int j)) s P ↔ ((-(2 ^ 64) < i ∧ i < 2 ^ 64) ∨ (-(2 ^ 64) < j ∧ j < 2 ^ 64)) ∧ P (.int (i * j)) s := by
  show L (if decide ((-(2 ^ 64) < i ∧ i < 2 ^ 64) ∨ (-(2 ^ 64) < j ∧ j < 2 ^ 64)) = true then some (PyData.int (i * j)) else none) s P ↔ _
  rw [L_ite, decide_eq_true_iff]
theorem L_mod : L (kMod (.int i) (.int j)) s P ↔ 0 < j ∧ P (.int (i % j)) s := by
  unfold kMod kI L
  by_cases h : 0 < j
  · simp [h]
  · simp [h]
theorem L_div : L (kDiv (.int i) (.int j)) s P ↔ (0 < j ∧ j < 1073741824) ∧ P (.int (i / j)) s := by
  unfold kDiv kI L
  by_cases h : 0 < j ∧ j < 1073741824
  · simp [h]
  · simp [h]
theorem L_pow : L (kPow (.int i) (.int j)) s P ↔ (0 ≤ j ∧ (Builtin.Int.intBits i : Int) * j ≤ 2 ^ 27) ∧ P (.int (i ^ j.toNat)) s := by
  show L (if decide (0 ≤ j ∧ (Builtin.Int.intBits i : Int) * j ≤ 2 ^ 27) = true then some (PyData.int (i ^ j.toNat)) else none) s P ↔ _
  rw [L_ite, decide_eq_true_iff]
theorem beq_dec {i j : Int} : (i == j) = decide (i = j) := by
  rw [Bool.eq_iff_iff]
  simp
theorem shaped_int : SeqAt.shaped (.int i) = true := by simp [SeqAt.shaped, PyData.canLay0, PyData.depth]
theorem L_eqI : L (kEq (.int i) (.int j)) s P ↔ P (.bool (decide (i = j))) s := by
  unfold kEq L
  simp only [shaped_int, Bool.and_self, if_true, PyData.eqv, beq_dec]
  simp
theorem L_neI : L (kNe (.int i) (.int j)) s P ↔ P (.bool (!decide (i = j))) s := by
  unfold kNe L
  simp only [shaped_int, Bool.and_self, if_true, PyData.eqv, beq_dec]
  simp
theorem L_eqS {a b : Str} : L (kEqS (.str a) (.str b)) s P ↔ P (.bool (decide (a = b))) s := by simp [kEqS, L]
theorem L_neS {a b : Str} : L (kNeS (.str a) (.str b)) s P ↔ P (.bool (!decide (a = b))) s := by simp [kNeS, L]
theorem L_eqD {d e : PyData} : L (kEq d e) s P ↔ (SeqAt.shaped d = true ∧ SeqAt.shaped e = true) ∧ P (.bool (PyData.eqv d e)) s := by
  unfold kEq L
  cases SeqAt.shaped d <;> cases SeqAt.shaped e <;> simp
theorem L_neD {d e : PyData} : L (kNe d e) s P ↔ (SeqAt.shaped d = true ∧ SeqAt.shaped e = true) ∧ P (.bool (!PyData.eqv d e)) s := by
  unfold kNe L
  cases SeqAt.shaped d <;> cases SeqAt.shaped e <;> simp
theorem L_eqL : L (kEq (.list ds) (.list es)) s P ↔ (SeqAt.shaped (.list ds) = true ∧ SeqAt.shaped (.list es) = true) ∧ P (.bool (PyData.eqv (.list ds) (.list es))) s := L_eqD
theorem L_neL : L (kNe (.list ds) (.list es)) s P ↔ (SeqAt.shaped (.list ds) = true ∧ SeqAt.shaped (.list es) = true) ∧ P (.bool (!PyData.eqv (.list ds) (.list es))) s := L_neD
theorem L_eqT : L (kEq (.tuple ds) (.tuple es)) s P ↔ (SeqAt.shaped (.tuple ds) = true ∧ SeqAt.shaped (.tuple es) = true) ∧ P (.bool (PyData.eqv (.tuple ds) (.tuple es))) s := L_eqD
theorem L_neT : L (kNe (.tuple ds) (.tuple es)) s P ↔ (SeqAt.shaped (.tuple ds) = true ∧ SeqAt.shaped (.tuple es) = true) ∧ P (.bool (!PyData.eqv (.tuple ds) (.tuple es))) s := L_neD
theorem L_isN : L (kIs d .none) s P ↔ P (.bool (isNone d)) s := by simp [kIs, isNone, L]
theorem L_isNotN : L (kIsNot d .none) s P ↔ P (.bool (!isNone d)) s := by simp [kIsNot, isNone, L]
theorem L_lenL : L (kLen [.list ds]) s P ↔ P (.int (ds.length : Nat)) s := by simp [kLen, L]
theorem L_lenT : L (kLen [.tuple ds]) s P ↔ P (.int (ds.length : Nat)) s := by simp [kLen, L]
theorem L_int : L (kInt [.int i]) s P ↔ P (.int i) s := by simp [kInt, L]
theorem L_intb {b : Bool} : L (kInt [.bool b]) s P ↔ P (.int (if b then 1 else 0)) s := by simp [kInt, L]
theorem L_max : L (kMax2 [.int i, .int j]) s P ↔ P (.int (if j > i then j else i)) s := by simp [kMax2, L]
theorem L_min : L (kMin2 [.int i, .int j]) s P ↔ P (.int (if j < i then j else i)) s := by simp [kMin2, L]
theorem L_cat : L (kCat (.list ds) (.list es)) s PL ↔ ds.length + es.length ≤ 1000000 ∧ PL (ds ++ es) s := by
  unfold kCat L few
  by_cases h : ds.length + es.length ≤ 1000000
  · simp [h]
  · simp [h]
theorem L_ixL : L (kIx (.list ds) (.int i)) s P ↔ L (atI ds i) s P := Iff.rfl
theorem L_ixT : L (kIx (.tuple ds) (.int i)) s P ↔ L (atI ds i) s P := Iff.rfl
theorem atI_0 {a : PyData} : atI (a :: ds) 0 = some a := by simp [atI, ixN]
theorem atI_s {a : PyData} {n : Nat} : atI (a :: ds) ((n + 1 : Nat) : Int) = atI ds (n : Int) := by
  unfold atI ixN
  have h1 : (0 : Int) ≤ ((n + 1 : Nat) : Int) := Int.natCast_nonneg _
  have h2 : (0 : Int) ≤ (n : Int) := Int.natCast_nonneg _
  rw [if_pos h1, if_pos h2]
  by_cases h : n < ds.length
  · rw [if_pos (by rw [List.length_cons]; omega), if_pos (by omega)]
    simp
  · rw [if_neg (by rw [List.length_cons]; omega), if_neg (by omega)]
    rfl
theorem L_rep : L (kRepr [d]) s P ↔ okShow d = true ∧ P (.str d.shown) s := by
  unfold kRepr L
  by_cases h : okShow d = true
  · simp [h]
  · simp [h]
theorem L_r1 : L (kR1 [.int j]) s PL ↔ small62 j = true ∧ PL (rngD 0 j.toNat) s := by
  unfold kR1 L
  by_cases h : small62 j = true
  · simp [h]
  · simp [h]
theorem L_r2 : L (kR2 [.int i, .int j]) s PL ↔ (small62 i = true ∧ small62 j = true) ∧ PL (rngD i (j - i).toNat) s := by
  unfold kR2 L
  by_cases h : small62 i = true ∧ small62 j = true
  · simp [h]
  · cases h1 : small62 i <;> cases h2 : small62 j <;> simp [h1, h2] at h ⊢
theorem L_en : L (kEn [.list ds]) s PL ↔ PL (enumD ds) s := by simp [kEn, L]
theorem L_enS : L (kEnS (.int i) [.list ds]) s PL ↔ small62 i = true ∧ PL (enumS i ds) s := by
  unfold kEnS L
  by_cases h : small62 i = true
  · simp [h]
  · simp [h]
theorem L_zip : L (kZip [.list ds, .list es]) s PL ↔ PL (zipD ds es) s := by simp [kZip, L]
theorem L_inL : L (kIn false d (.list ds)) s P ↔ (flatD d = true ∧ ds.all flatD = true) ∧ P (.bool (ds.any fun y => eqF y d)) s := by
  show L (if (flatD d && ds.all flatD) = true then some (PyData.bool (ds.any fun y => eqF y d)) else none) s P ↔ _
  rw [L_ite, Bool.and_eq_true]
theorem L_ninL : L (kIn true d (.list ds)) s P ↔ (flatD d = true ∧ ds.all flatD = true) ∧ P (.bool (!(ds.any fun y => eqF y d))) s := by
  show L (if (flatD d && ds.all flatD) = true then some (PyData.bool (!(ds.any fun y => eqF y d))) else none) s P ↔ _
  rw [L_ite, Bool.and_eq_true]
theorem L_isi {t : String} : L (kIsi t d) s P ↔ L (kitB (kindD d) t) s fun b s => P (.bool b) s := by
  unfold kIsi
  rw [L_map]
theorem L_ii : L (kitB (kindD (.int i)) "int") s PB ↔ PB true s := by rw [show kitB (kindD (.int i)) "int" = some true by show kitB "int" "int" = _; decide +kernel]; exact L_some
theorem L_ib : L (kitB (kindD (.int i)) "bool") s PB ↔ PB false s := by rw [show kitB (kindD (.int i)) "bool" = some false by show kitB "int" "bool" = _; decide +kernel]; exact L_some
theorem L_il : L (kitB (kindD (.list ds)) "list") s PB ↔ PB true s := by rw [show kitB (kindD (.list ds)) "list" = some true by show kitB "list" "list" = _; decide +kernel]; exact L_some
theorem LB_nil : LB (bNil [] ss) N ↔ N ss := by simp [LB, bNil]
theorem LB_name {n : Nat} : LB (bName n d ss) N ↔ Set1 n (.dat d) ss N := by
  unfold LB bName Set1
  by_cases h : n < ss.length
  · simp [h]
  · simp [h]
theorem LB_bind {o : Option (List SV)} {k : List SV → Option (List SV)} : LB (o.bind k) N ↔ LB o fun s => LB (k s) N := by
  unfold LB
  cases o <;> simp
theorem LB_cons {b : PyData → List SV → Option (List SV)} {bs : List PyData → List SV → Option (List SV)} : LB (bCons b bs (d :: ds) ss) N ↔ LB (b d ss) fun s => LB (bs ds s) N := by
  show LB ((b d ss).bind (bs ds)) N ↔ _
  rw [LB_bind]
theorem LB_tup {n : Nat} {bs : List PyData → List SV → Option (List SV)} : LB (bTup n bs (.tuple ds) ss) N ↔ ds.length = n ∧ LB (bs ds ss) N := by
  unfold bTup LB
  by_cases h : ds.length = n
  · simp [h]
  · simp [h]
theorem at_natA {α : Type} {xs : List α} {i : Nat} {x : α} (h : xs[i]? = some x) : atI xs (i : Int) = some x := by
  have hl := (List.getElem?_eq_some_iff.mp h).1
  unfold atI ixN
  rw [if_pos (by omega), if_pos (by omega)]
  simpa using h
/-! append, x[k] = e -/
def isOwn : Option SV → Bool
  | some (.own _ _) => true
  | _ => false
def Put (i : Nat) (k : PyData) (d : PyData) (ss : List SV) (N : List SV → Prop) : Prop := match ss[i]?, k with
  | some (.own lb ds), .int j => ∃ n, ixN ds.length j = some n ∧ N (ss.set i (.own lb (ds.set n d)))
  | _, _ => False
theorem WS_put {i : Nat} {k v : M PyData} : WS (sPut i k v ss) N T B C ↔ W (v ss) fun d s => isOwn s[i]? = true ∧ W (k s) fun k s => Put i k d s N := by
  unfold sPut
  rw [WS_eseq]
  have e : ∀ (d : PyData) (s : List SV), WS ((fun ss : List SV => match ss[i]? with
      | some (.own _ _) => eseq k (fun k s2 => match s2[i]?, k with
        | some (.own lb ds), .int j => match ixN ds.length j with
          | some n => some (.nx (s2.set i (.own lb (ds.set n d))))
          | none => none
        | _, _ => none) ss
      | _ => none) s) N T B C ↔ (isOwn s[i]? = true ∧ W (k s) fun k s => Put i k d s N) := fun d s => by
    have e2 : ∀ (k : PyData) (s2 : List SV), WS (match s2[i]?, k with
        | some (.own lb ds), .int j => match ixN ds.length j with
          | some n => some (.nx (s2.set i (.own lb (ds.set n d))))
          | none => none
        | _, _ => none) N T B C ↔ Put i k d s2 N := fun k s2 => by
      unfold Put
      cases s2[i]? with
      | none => exact Iff.rfl
      | some z =>
        cases z with
        | own lb ds =>
          cases k with
          | int j =>
            dsimp only
            cases ixN ds.length j <;> simp [WS]
          | _ => exact Iff.rfl
        | _ => exact Iff.rfl
    dsimp only
    cases q : s[i]? with
    | none => simp [isOwn, WS]
    | some z =>
      cases z with
      | own lb ds =>
        dsimp only
        rw [WS_eseq]
        refine ⟨fun h => ⟨rfl, W_mono h fun k s hk => (e2 k s).mp hk⟩, fun h => W_mono h.2 fun k s hk => (e2 k s).mpr hk⟩
      | _ => simp [isOwn, WS]
  refine ⟨fun h => W_mono h fun d s hd => (e d s).mp hd, fun h => W_mono h fun d s hd => (e d s).mpr hd⟩
def App (i : Nat) (d : PyData) (ss : List SV) (N : List SV → Prop) : Prop := match ss[i]? with
  | some (.own lb ds) => ds.length ≤ 1000000 ∧ N (ss.set i (.own lb (ds ++ [d])))
  | _ => False
theorem WS_appG {i : Nat} (h : isOwn ss[i]? = true) : WS (sApp i f ss) N T B C ↔ W (f ss) fun d s => App i d s N := by
  unfold sApp
  cases q : ss[i]? with
  | none => rw [q] at h; cases h
  | some z =>
    cases z with
    | own lb ds =>
      dsimp only
      rw [WS_eseq]
      have e : ∀ (d : PyData) (s : List SV), WS (match s[i]? with | some (.own lb ds) => if few ds.length then some (.nx (s.set i (.own lb (ds ++ [d])))) else none | _ => none) N T B C ↔ App i d s N := fun d s => by
        unfold App
        cases s[i]? with
        | none => exact Iff.rfl
        | some z =>
          cases z with
          | own lb ds =>
            dsimp only
            unfold few
            by_cases h : ds.length ≤ 1000000
            · simp [h, WS]
            · simp [h, WS]
          | _ => exact Iff.rfl
      refine ⟨fun h => W_mono h fun d s hd => (e d s).mp hd, fun h => W_mono h fun d s hd => (e d s).mpr hd⟩
    | _ => rw [q] at h; cases h
end

section
variable {P : PyData → List SV → Prop} {N B C : List SV → Prop} {T : SV → List SV → Prop} {PV : SV → List SV → Prop} {d e : PyData} {ds : List PyData} {lb : Option Nat} {l : List SV} {r : SV} {f g : M PyData} {x0 x1 x2 x3 x4 x5 x6 x7 x8 x9 x10 x11 x12 x13 x14 x15 : SV}
theorem W_var0 : W (mVar 0 (.dat d :: l)) P ↔ P d (.dat d :: l) := Iff.rfl
theorem W_vark0 {ks : List (PyData × PyData)} : W (mVar 0 (.odk lb ks :: l)) P ↔ P (.dict ks) (.dat (.dict ks) :: l) := Iff.rfl
theorem W_varo0 : W (mVar 0 (.own lb ds :: l)) P ↔ P (.list ds) (.dat (.list ds) :: l) := Iff.rfl
theorem Set_0 : Set1 0 r (x0 :: l) N ↔ N (r :: l) := ⟨fun h => h.2, fun h => ⟨by simp only [List.length_cons]; omega, h⟩⟩

theorem W_ixC0 {k : Int} : W (mIxP 0 (mC (.int k)) (.own lb ds :: l)) P ↔ L (atI ds k) (.own lb ds :: l) P := by
  show W (match atI ds k with | some d => some (R.val d (.own lb ds :: l)) | none => none) P ↔ _
  unfold L
  cases atI ds k <;> simp [W]
theorem WS_app0 : WS (sApp 0 f (.own lb ds :: l)) N T B C ↔ W (f (.own lb ds :: l)) fun d s => App 0 d s N := WS_appG rfl
theorem App_0 : App 0 d (.own lb ds :: l) N ↔ ds.length ≤ 1000000 ∧ N (.own lb (ds ++ [d]) :: l) := Iff.rfl
theorem W_move0 : W (mMove 0 (.own none ds :: l)) PV ↔ PV (.own none ds) (.gone :: l) := Iff.rfl
theorem W_var1 : W (mVar 1 (x0 :: .dat d :: l)) P ↔ P d (x0 :: .dat d :: l) := Iff.rfl
theorem W_vark1 {ks : List (PyData × PyData)} : W (mVar 1 (x0 :: .odk lb ks :: l)) P ↔ P (.dict ks) (x0 :: .dat (.dict ks) :: l) := Iff.rfl
theorem W_varo1 : W (mVar 1 (x0 :: .own lb ds :: l)) P ↔ P (.list ds) (x0 :: .dat (.list ds) :: l) := Iff.rfl
theorem Set_1 : Set1 1 r (x0 :: x1 :: l) N ↔ N (x0 :: r :: l) := ⟨fun h => h.2, fun h => ⟨by simp only [List.length_cons]; omega, h⟩⟩

theorem W_ixC1 {k : Int} : W (mIxP 1 (mC (.int k)) (x0 :: .own lb ds :: l)) P ↔ L (atI ds k) (x0 :: .own lb ds :: l) P := by
  show W (match atI ds k with | some d => some (R.val d (x0 :: .own lb ds :: l)) | none => none) P ↔ _
  unfold L
  cases atI ds k <;> simp [W]
theorem WS_app1 : WS (sApp 1 f (x0 :: .own lb ds :: l)) N T B C ↔ W (f (x0 :: .own lb ds :: l)) fun d s => App 1 d s N := WS_appG rfl
theorem App_1 : App 1 d (x0 :: .own lb ds :: l) N ↔ ds.length ≤ 1000000 ∧ N (x0 :: .own lb (ds ++ [d]) :: l) := Iff.rfl
theorem W_move1 : W (mMove 1 (x0 :: .own none ds :: l)) PV ↔ PV (.own none ds) (x0 :: .gone :: l) := Iff.rfl
theorem W_var2 : W (mVar 2 (x0 :: x1 :: .dat d :: l)) P ↔ P d (x0 :: x1 :: .dat d :: l) := Iff.rfl
theorem W_vark2 {ks : List (PyData × PyData)} : W (mVar 2 (x0 :: x1 :: .odk lb ks :: l)) P ↔ P (.dict ks) (x0 :: x1 :: .dat (.dict ks) :: l) := Iff.rfl
theorem W_varo2 : W (mVar 2 (x0 :: x1 :: .own lb ds :: l)) P ↔ P (.list ds) (x0 :: x1 :: .dat (.list ds) :: l) := Iff.rfl
theorem Set_2 : Set1 2 r (x0 :: x1 :: x2 :: l) N ↔ N (x0 :: x1 :: r :: l) := ⟨fun h => h.2, fun h => ⟨by simp only [List.length_cons]; omega, h⟩⟩

theorem W_ixC2 {k : Int} : W (mIxP 2 (mC (.int k)) (x0 :: x1 :: .own lb ds :: l)) P ↔ L (atI ds k) (x0 :: x1 :: .own lb ds :: l) P := by
  show W (match atI ds k with | some d => some (R.val d (x0 :: x1 :: .own lb ds :: l)) | none => none) P ↔ _
  unfold L
  cases atI ds k <;> simp [W]
theorem WS_app2 : WS (sApp 2 f (x0 :: x1 :: .own lb ds :: l)) N T B C ↔ W (f (x0 :: x1 :: .own lb ds :: l)) fun d s => App 2 d s N := WS_appG rfl
theorem App_2 : App 2 d (x0 :: x1 :: .own lb ds :: l) N ↔ ds.length ≤ 1000000 ∧ N (x0 :: x1 :: .own lb (ds ++ [d]) :: l) := Iff.rfl
theorem W_move2 : W (mMove 2 (x0 :: x1 :: .own none ds :: l)) PV ↔ PV (.own none ds) (x0 :: x1 :: .gone :: l) := Iff.rfl
theorem W_var3 : W (mVar 3 (x0 :: x1 :: x2 :: .dat d :: l)) P ↔ P d (x0 :: x1 :: x2 :: .dat d :: l) := Iff.rfl
theorem W_vark3 {ks : List (PyData × PyData)} : W (mVar 3 (x0 :: x1 :: x2 :: .odk lb ks :: l)) P ↔ P (.dict ks) (x0 :: x1 :: x2 :: .dat (.dict ks) :: l) := Iff.rfl
theorem W_varo3 : W (mVar 3 (x0 :: x1 :: x2 :: .own lb ds :: l)) P ↔ P (.list ds) (x0 :: x1 :: x2 :: .dat (.list ds) :: l) := Iff.rfl
theorem Set_3 : Set1 3 r (x0 :: x1 :: x2 :: x3 :: l) N ↔ N (x0 :: x1 :: x2 :: r :: l) := ⟨fun h => h.2, fun h => ⟨by simp only [List.length_cons]; omega, h⟩⟩

theorem W_ixC3 {k : Int} : W (mIxP 3 (mC (.int k)) (x0 :: x1 :: x2 :: .own lb ds :: l)) P ↔ L (atI ds k) (x0 :: x1 :: x2 :: .own lb ds :: l) P := by
  show W (match atI ds k with | some d => some (R.val d (x0 :: x1 :: x2 :: .own lb ds :: l)) | none => none) P ↔ _
  unfold L
  cases atI ds k <;> simp [W]
theorem WS_app3 : WS (sApp 3 f (x0 :: x1 :: x2 :: .own lb ds :: l)) N T B C ↔ W (f (x0 :: x1 :: x2 :: .own lb ds :: l)) fun d s => App 3 d s N := WS_appG rfl
theorem App_3 : App 3 d (x0 :: x1 :: x2 :: .own lb ds :: l) N ↔ ds.length ≤ 1000000 ∧ N (x0 :: x1 :: x2 :: .own lb (ds ++ [d]) :: l) := Iff.rfl
theorem W_move3 : W (mMove 3 (x0 :: x1 :: x2 :: .own none ds :: l)) PV ↔ PV (.own none ds) (x0 :: x1 :: x2 :: .gone :: l) := Iff.rfl
theorem W_var4 : W (mVar 4 (x0 :: x1 :: x2 :: x3 :: .dat d :: l)) P ↔ P d (x0 :: x1 :: x2 :: x3 :: .dat d :: l) := Iff.rfl
theorem W_vark4 {ks : List (PyData × PyData)} : W (mVar 4 (x0 :: x1 :: x2 :: x3 :: .odk lb ks :: l)) P ↔ P (.dict ks) (x0 :: x1 :: x2 :: x3 :: .dat (.dict ks) :: l) := Iff.rfl
theorem W_varo4 : W (mVar 4 (x0 :: x1 :: x2 :: x3 :: .own lb ds :: l)) P ↔ P (.list ds) (x0 :: x1 :: x2 :: x3 :: .dat (.list ds) :: l) := Iff.rfl
theorem Set_4 : Set1 4 r (x0 :: x1 :: x2 :: x3 :: x4 :: l) N ↔ N (x0 :: x1 :: x2 :: x3 :: r :: l) := ⟨fun h => h.2, fun h => ⟨by simp only [List.length_cons]; omega, h⟩⟩

theorem W_ixC4 {k : Int} : W (mIxP 4 (mC (.int k)) (x0 :: x1 :: x2 :: x3 :: .own lb ds :: l)) P ↔ L (atI ds k) (x0 :: x1 :: x2 :: x3 :: .own lb ds :: l) P := by
  show W (match atI ds k with | some d => some (R.val d (x0 :: x1 :: x2 :: x3 :: .own lb ds :: l)) | none => none) P ↔ _
  unfold L
  cases atI ds k <;> simp [W]
theorem WS_app4 : WS (sApp 4 f (x0 :: x1 :: x2 :: x3 :: .own lb ds :: l)) N T B C ↔ W (f (x0 :: x1 :: x2 :: x3 :: .own lb ds :: l)) fun d s => App 4 d s N := WS_appG rfl
theorem App_4 : App 4 d (x0 :: x1 :: x2 :: x3 :: .own lb ds :: l) N ↔ ds.length ≤ 1000000 ∧ N (x0 :: x1 :: x2 :: x3 :: .own lb (ds ++ [d]) :: l) := Iff.rfl
theorem W_move4 : W (mMove 4 (x0 :: x1 :: x2 :: x3 :: .own none ds :: l)) PV ↔ PV (.own none ds) (x0 :: x1 :: x2 :: x3 :: .gone :: l) := Iff.rfl
theorem W_var5 : W (mVar 5 (x0 :: x1 :: x2 :: x3 :: x4 :: .dat d :: l)) P ↔ P d (x0 :: x1 :: x2 :: x3 :: x4 :: .dat d :: l) := Iff.rfl
theorem W_vark5 {ks : List (PyData × PyData)} : W (mVar 5 (x0 :: x1 :: x2 :: x3 :: x4 :: .odk lb ks :: l)) P ↔ P (.dict ks) (x0 :: x1 :: x2 :: x3 :: x4 :: .dat (.dict ks) :: l) := Iff.rfl
theorem W_varo5 : W (mVar 5 (x0 :: x1 :: x2 :: x3 :: x4 :: .own lb ds :: l)) P ↔ P (.list ds) (x0 :: x1 :: x2 :: x3 :: x4 :: .dat (.list ds) :: l) := Iff.rfl
theorem Set_5 : Set1 5 r (x0 :: x1 :: x2 :: x3 :: x4 :: x5 :: l) N ↔ N (x0 :: x1 :: x2 :: x3 :: x4 :: r :: l) := ⟨fun h => h.2, fun h => ⟨by simp only [List.length_cons]; omega, h⟩⟩

theorem W_ixC5 {k : Int} : W (mIxP 5 (mC (.int k)) (x0 :: x1 :: x2 :: x3 :: x4 :: .own lb ds :: l)) P ↔ L (atI ds k) (x0 :: x1 :: x2 :: x3 :: x4 :: .own lb ds :: l) P := by
  show W (match atI ds k with | some d => some (R.val d (x0 :: x1 :: x2 :: x3 :: x4 :: .own lb ds :: l)) | none => none) P ↔ _
  unfold L
  cases atI ds k <;> simp [W]
theorem WS_app5 : WS (sApp 5 f (x0 :: x1 :: x2 :: x3 :: x4 :: .own lb ds :: l)) N T B C ↔ W (f (x0 :: x1 :: x2 :: x3 :: x4 :: .own lb ds :: l)) fun d s => App 5 d s N := WS_appG rfl
theorem App_5 : App 5 d (x0 :: x1 :: x2 :: x3 :: x4 :: .own lb ds :: l) N ↔ ds.length ≤ 1000000 ∧ N (x0 :: x1 :: x2 :: x3 :: x4 :: .own lb (ds ++ [d]) :: l) := Iff.rfl
theorem W_move5 : W (mMove 5 (x0 :: x1 :: x2 :: x3 :: x4 :: .own none ds :: l)) PV ↔ PV (.own none ds) (x0 :: x1 :: x2 :: x3 :: x4 :: .gone :: l) := Iff.rfl
theorem W_var6 : W (mVar 6 (x0 :: x1 :: x2 :: x3 :: x4 :: x5 :: .dat d :: l)) P ↔ P d (x0 :: x1 :: x2 :: x3 :: x4 :: x5 :: .dat d :: l) := Iff.rfl
theorem W_vark6 {ks : List (PyData × PyData)} : W (mVar 6 (x0 :: x1 :: x2 :: x3 :: x4 :: x5 :: .odk lb ks :: l)) P ↔ P (.dict ks) (x0 :: x1 :: x2 :: x3 :: x4 :: x5 :: .dat (.dict ks) :: l) := Iff.rfl
theorem W_varo6 : W (mVar 6 (x0 :: x1 :: x2 :: x3 :: x4 :: x5 :: .own lb ds :: l)) P ↔ P (.list ds) (x0 :: x1 :: x2 :: x3 :: x4 :: x5 :: .dat (.list ds) :: l) := Iff.rfl
theorem Set_6 : Set1 6 r (x0 :: x1 :: x2 :: x3 :: x4 :: x5 :: x6 :: l) N ↔ N (x0 :: x1 :: x2 :: x3 :: x4 :: x5 :: r :: l) := ⟨fun h => h.2, fun h => ⟨by simp only [List.length_cons]; omega, h⟩⟩

theorem W_ixC6 {k : Int} : W (mIxP 6 (mC (.int k)) (x0 :: x1 :: x2 :: x3 :: x4 :: x5 :: .own lb ds :: l)) P ↔ L (atI ds k) (x0 :: x1 :: x2 :: x3 :: x4 :: x5 :: .own lb ds :: l) P := by
  show W (match atI ds k with | some d => some (R.val d (x0 :: x1 :: x2 :: x3 :: x4 :: x5 :: .own lb ds :: l)) | none => none) P ↔ _
  unfold L
  cases atI ds k <;> simp [W]
theorem WS_app6 : WS (sApp 6 f (x0 :: x1 :: x2 :: x3 :: x4 :: x5 :: .own lb ds :: l)) N T B C ↔ W (f (x0 :: x1 :: x2 :: x3 :: x4 :: x5 :: .own lb ds :: l)) fun d s => App 6 d s N := WS_appG rfl
theorem App_6 : App 6 d (x0 :: x1 :: x2 :: x3 :: x4 :: x5 :: .own lb ds :: l) N ↔ ds.length ≤ 1000000 ∧ N (x0 :: x1 :: x2 :: x3 :: x4 :: x5 :: .own lb (ds ++ [d]) :: l) := Iff.rfl
theorem W_move6 : W (mMove 6 (x0 :: x1 :: x2 :: x3 :: x4 :: x5 :: .own none ds :: l)) PV ↔ PV (.own none ds) (x0 :: x1 :: x2 :: x3 :: x4 :: x5 :: .gone :: l) := Iff.rfl
theorem W_var7 : W (mVar 7 (x0 :: x1 :: x2 :: x3 :: x4 :: x5 :: x6 :: .dat d :: l)) P ↔ P d (x0 :: x1 :: x2 :: x3 :: x4 :: x5 :: x6 :: .dat d :: l) := Iff.rfl
theorem W_vark7 {ks : List (PyData × PyData)} : W (mVar 7 (x0 :: x1 :: x2 :: x3 :: x4 :: x5 :: x6 :: .odk lb ks :: l)) P ↔ P (.dict ks) (x0 :: x1 :: x2 :: x3 :: x4 :: x5 :: x6 :: .dat (.dict ks) :: l) := Iff.rfl
theorem W_varo7 : W (mVar 7 (x0 :: x1 :: x2 :: x3 :: x4 :: x5 :: x6 :: .own lb ds :: l)) P ↔ P (.list ds) (x0 :: x1 :: x2 :: x3 :: x4 :: x5 :: x6 :: .dat (.list ds) :: l) := Iff.rfl
theorem Set_7 : Set1 7 r (x0 :: x1 :: x2 :: x3 :: x4 :: x5 :: x6 :: x7 :: l) N ↔ N (x0 :: x1 :: x2 :: x3 :: x4 :: x5 :: x6 :: r :: l) := ⟨fun h => h.2, fun h => ⟨by simp only [List.length_cons]; omega, h⟩⟩

theorem W_ixC7 {k : Int} : W (mIxP 7 (mC (.int k)) (x0 :: x1 :: x2 :: x3 :: x4 :: x5 :: x6 :: .own lb ds :: l)) P ↔ L (atI ds k) (x0 :: x1 :: x2 :: x3 :: x4 :: x5 :: x6 :: .own lb ds :: l) P := by
  show W (match atI ds k with | some d => some (R.val d (x0 :: x1 :: x2 :: x3 :: x4 :: x5 :: x6 :: .own lb ds :: l)) | none => none) P ↔ _
  unfold L
  cases atI ds k <;> simp [W]
theorem WS_app7 : WS (sApp 7 f (x0 :: x1 :: x2 :: x3 :: x4 :: x5 :: x6 :: .own lb ds :: l)) N T B C ↔ W (f (x0 :: x1 :: x2 :: x3 :: x4 :: x5 :: x6 :: .own lb ds :: l)) fun d s => App 7 d s N := WS_appG rfl
theorem App_7 : App 7 d (x0 :: x1 :: x2 :: x3 :: x4 :: x5 :: x6 :: .own lb ds :: l) N ↔ ds.length ≤ 1000000 ∧ N (x0 :: x1 :: x2 :: x3 :: x4 :: x5 :: x6 :: .own lb (ds ++ [d]) :: l) := Iff.rfl
theorem W_move7 : W (mMove 7 (x0 :: x1 :: x2 :: x3 :: x4 :: x5 :: x6 :: .own none ds :: l)) PV ↔ PV (.own none ds) (x0 :: x1 :: x2 :: x3 :: x4 :: x5 :: x6 :: .gone :: l) := Iff.rfl
theorem W_var8 : W (mVar 8 (x0 :: x1 :: x2 :: x3 :: x4 :: x5 :: x6 :: x7 :: .dat d :: l)) P ↔ P d (x0 :: x1 :: x2 :: x3 :: x4 :: x5 :: x6 :: x7 :: .dat d :: l) := Iff.rfl
theorem W_vark8 {ks : List (PyData × PyData)} : W (mVar 8 (x0 :: x1 :: x2 :: x3 :: x4 :: x5 :: x6 :: x7 :: .odk lb ks :: l)) P ↔ P (.dict ks) (x0 :: x1 :: x2 :: x3 :: x4 :: x5 :: x6 :: x7 :: .dat (.dict ks) :: l) := Iff.rfl
theorem W_varo8 : W (mVar 8 (x0 :: x1 :: x2 :: x3 :: x4 :: x5 :: x6 :: x7 :: .own lb ds :: l)) P ↔ P (.list ds) (x0 :: x1 :: x2 :: x3 :: x4 :: x5 :: x6 :: x7 :: .dat (.list ds) :: l) := Iff.rfl
theorem Set_8 : Set1 8 r (x0 :: x1 :: x2 :: x3 :: x4 :: x5 :: x6 :: x7 :: x8 :: l) N ↔ N (x0 :: x1 :: x2 :: x3 :: x4 :: x5 :: x6 :: x7 :: r :: l) := ⟨fun h => h.2, fun h => ⟨by simp only [List.length_cons]; omega, h⟩⟩

theorem W_ixC8 {k : Int} : W (mIxP 8 (mC (.int k)) (x0 :: x1 :: x2 :: x3 :: x4 :: x5 :: x6 :: x7 :: .own lb ds :: l)) P ↔ L (atI ds k) (x0 :: x1 :: x2 :: x3 :: x4 :: x5 :: x6 :: x7 :: .own lb ds :: l) P := by
  show W (match atI ds k with | some d => some (R.val d (x0 :: x1 :: x2 :: x3 :: x4 :: x5 :: x6 :: x7 :: .own lb ds :: l)) | none => none) P ↔ _
  unfold L
  cases atI ds k <;> simp [W]
theorem WS_app8 : WS (sApp 8 f (x0 :: x1 :: x2 :: x3 :: x4 :: x5 :: x6 :: x7 :: .own lb ds :: l)) N T B C ↔ W (f (x0 :: x1 :: x2 :: x3 :: x4 :: x5 :: x6 :: x7 :: .own lb ds :: l)) fun d s => App 8 d s N := WS_appG rfl
theorem App_8 : App 8 d (x0 :: x1 :: x2 :: x3 :: x4 :: x5 :: x6 :: x7 :: .own lb ds :: l) N ↔ ds.length ≤ 1000000 ∧ N (x0 :: x1 :: x2 :: x3 :: x4 :: x5 :: x6 :: x7 :: .own lb (ds ++ [d]) :: l) := Iff.rfl
theorem W_move8 : W (mMove 8 (x0 :: x1 :: x2 :: x3 :: x4 :: x5 :: x6 :: x7 :: .own none ds :: l)) PV ↔ PV (.own none ds) (x0 :: x1 :: x2 :: x3 :: x4 :: x5 :: x6 :: x7 :: .gone :: l) := Iff.rfl
theorem W_var9 : W (mVar 9 (x0 :: x1 :: x2 :: x3 :: x4 :: x5 :: x6 :: x7 :: x8 :: .dat d :: l)) P ↔ P d (x0 :: x1 :: x2 :: x3 :: x4 :: x5 :: x6 :: x7 :: x8 :: .dat d :: l) := Iff.rfl
theorem W_vark9 {ks : List (PyData × PyData)} : W (mVar 9 (x0 :: x1 :: x2 :: x3 :: x4 :: x5 :: x6 :: x7 :: x8 :: .odk lb ks :: l)) P ↔ P (.dict ks) (x0 :: x1 :: x2 :: x3 :: x4 :: x5 :: x6 :: x7 :: x8 :: .dat (.dict ks) :: l) := Iff.rfl
theorem W_varo9 : W (mVar 9 (x0 :: x1 :: x2 :: x3 :: x4 :: x5 :: x6 :: x7 :: x8 :: .own lb ds :: l)) P ↔ P (.list ds) (x0 :: x1 :: x2 :: x3 :: x4 :: x5 :: x6 :: x7 :: x8 :: .dat (.list ds) :: l) := Iff.rfl
theorem Set_9 : Set1 9 r (x0 :: x1 :: x2 :: x3 :: x4 :: x5 :: x6 :: x7 :: x8 :: x9 :: l) N ↔ N (x0 :: x1 :: x2 :: x3 :: x4 :: x5 :: x6 :: x7 :: x8 :: r :: l) := ⟨fun h => h.2, fun h => ⟨by simp only [List.length_cons]; omega, h⟩⟩

theorem W_ixC9 {k : Int} : W (mIxP 9 (mC (.int k)) (x0 :: x1 :: x2 :: x3 :: x4 :: x5 :: x6 :: x7 :: x8 :: .own lb ds :: l)) P ↔ L (atI ds k) (x0 :: x1 :: x2 :: x3 :: x4 :: x5 :: x6 :: x7 :: x8 :: .own lb ds :: l) P := by
  show W (match atI ds k with | some d => some (R.val d (x0 :: x1 :: x2 :: x3 :: x4 :: x5 :: x6 :: x7 :: x8 :: .own lb ds :: l)) | none => none) P ↔ _
  unfold L
  cases atI ds k <;> simp [W]
theorem WS_app9 : WS (sApp 9 f (x0 :: x1 :: x2 :: x3 :: x4 :: x5 :: x6 :: x7 :: x8 :: .own lb ds :: l)) N T B C ↔ W (f (x0 :: x1 :: x2 :: x3 :: x4 :: x5 :: x6 :: x7 :: x8 :: .own lb ds :: l)) fun d s => App 9 d s N := WS_appG rfl
theorem App_9 : App 9 d (x0 :: x1 :: x2 :: x3 :: x4 :: x5 :: x6 :: x7 :: x8 :: .own lb ds :: l) N ↔ ds.length ≤ 1000000 ∧ N (x0 :: x1 :: x2 :: x3 :: x4 :: x5 :: x6 :: x7 :: x8 :: .own lb (ds ++ [d]) :: l) := Iff.rfl
theorem W_move9 : W (mMove 9 (x0 :: x1 :: x2 :: x3 :: x4 :: x5 :: x6 :: x7 :: x8 :: .own none ds :: l)) PV ↔ PV (.own none ds) (x0 :: x1 :: x2 :: x3 :: x4 :: x5 :: x6 :: x7 :: x8 :: .gone :: l) := Iff.rfl
theorem W_var10 : W (mVar 10 (x0 :: x1 :: x2 :: x3 :: x4 :: x5 :: x6 :: x7 :: x8 :: x9 :: .dat d :: l)) P ↔ P d (x0 :: x1 :: x2 :: x3 :: x4 :: x5 :: x6 :: x7 :: x8 :: x9 :: .dat d :: l) := Iff.rfl
theorem W_vark10 {ks : List (PyData × PyData)} : W (mVar 10 (x0 :: x1 :: x2 :: x3 :: x4 :: x5 :: x6 :: x7 :: x8 :: x9 :: .odk lb ks :: l)) P ↔ P (.dict ks) (x0 :: x1 :: x2 :: x3 :: x4 :: x5 :: x6 :: x7 :: x8 :: x9 :: .dat (.dict ks) :: l) := Iff.rfl
theorem W_varo10 : W (mVar 10 (x0 :: x1 :: x2 :: x3 :: x4 :: x5 :: x6 :: x7 :: x8 :: x9 :: .own lb ds :: l)) P ↔ P (.list ds) (x0 :: x1 :: x2 :: x3 :: x4 :: x5 :: x6 :: x7 :: x8 :: x9 :: .dat (.list ds) :: l) := Iff.rfl
theorem Set_10 : Set1 10 r (x0 :: x1 :: x2 :: x3 :: x4 :: x5 :: x6 :: x7 :: x8 :: x9 :: x10 :: l) N ↔ N (x0 :: x1 :: x2 :: x3 :: x4 :: x5 :: x6 :: x7 :: x8 :: x9 :: r :: l) := ⟨fun h => h.2, fun h => ⟨by simp only [List.length_cons]; omega, h⟩⟩

theorem W_ixC10 {k : Int} : W (mIxP 10 (mC (.int k)) (x0 :: x1 :: x2 :: x3 :: x4 :: x5 :: x6 :: x7 :: x8 :: x9 :: .own lb ds :: l)) P ↔ L (atI ds k) (x0 :: x1 :: x2 :: x3 :: x4 :: x5 :: x6 :: x7 :: x8 :: x9 :: .own lb ds :: l) P := by
  show W (match atI ds k with | some d => some (R.val d (x0 :: x1 :: x2 :: x3 :: x4 :: x5 :: x6 :: x7 :: x8 :: x9 :: .own lb ds :: l)) | none => none) P ↔ _
  unfold L
  cases atI ds k <;> simp [W]
theorem WS_app10 : WS (sApp 10 f (x0 :: x1 :: x2 :: x3 :: x4 :: x5 :: x6 :: x7 :: x8 :: x9 :: .own lb ds :: l)) N T B C ↔ W (f (x0 :: x1 :: x2 :: x3 :: x4 :: x5 :: x6 :: x7 :: x8 :: x9 :: .own lb ds :: l)) fun d s => App 10 d s N := WS_appG rfl
theorem App_10 : App 10 d (x0 :: x1 :: x2 :: x3 :: x4 :: x5 :: x6 :: x7 :: x8 :: x9 :: .own lb ds :: l) N ↔ ds.length ≤ 1000000 ∧ N (x0 :: x1 :: x2 :: x3 :: x4 :: x5 :: x6 :: x7 :: x8 :: x9 :: .own lb (ds ++ [d]) :: l) := Iff.rfl
theorem W_move10 : W (mMove 10 (x0 :: x1 :: x2 :: x3 :: x4 :: x5 :: x6 :: x7 :: x8 :: x9 :: .own none ds :: l)) PV ↔ PV (.own none ds) (x0 :: x1 :: x2 :: x3 :: x4 :: x5 :: x6 :: x7 :: x8 :: x9 :: .gone :: l) := Iff.rfl
theorem W_var11 : W (mVar 11 (x0 :: x1 :: x2 :: x3 :: x4 :: x5 :: x6 :: x7 :: x8 :: x9 :: x10 :: .dat d :: l)) P ↔ P d (x0 :: x1 :: x2 :: x3 :: x4 :: x5 :: x6 :: x7 :: x8 :: x9 :: x10 :: .dat d :: l) := Iff.rfl
theorem W_vark11 {ks : List (PyData × PyData)} : W (mVar 11 (x0 :: x1 :: x2 :: x3 :: x4 :: x5 :: x6 :: x7 :: x8 :: x9 :: x10 :: .odk lb ks :: l)) P ↔ P (.dict ks) (x0 :: x1 :: x2 :: x3 :: x4 :: x5 :: x6 :: x7 :: x8 :: x9 :: x10 :: .dat (.dict ks) :: l) := Iff.rfl
theorem W_varo11 : W (mVar 11 (x0 :: x1 :: x2 :: x3 :: x4 :: x5 :: x6 :: x7 :: x8 :: x9 :: x10 :: .own lb ds :: l)) P ↔ P (.list ds) (x0 :: x1 :: x2 :: x3 :: x4 :: x5 :: x6 :: x7 :: x8 :: x9 :: x10 :: .dat (.list ds) :: l) := Iff.rfl
theorem Set_11 : Set1 11 r (x0 :: x1 :: x2 :: x3 :: x4 :: x5 :: x6 :: x7 :: x8 :: x9 :: x10 :: x11 :: l) N ↔ N (x0 :: x1 :: x2 :: x3 :: x4 :: x5 :: x6 :: x7 :: x8 :: x9 :: x10 :: r :: l) := ⟨fun h => h.2, fun h => ⟨by simp only [List.length_cons]; omega, h⟩⟩

theorem W_ixC11 {k : Int} : W (mIxP 11 (mC (.int k)) (x0 :: x1 :: x2 :: x3 :: x4 :: x5 :: x6 :: x7 :: x8 :: x9 :: x10 :: .own lb ds :: l)) P ↔ L (atI ds k) (x0 :: x1 :: x2 :: x3 :: x4 :: x5 :: x6 :: x7 :: x8 :: x9 :: x10 :: .own lb ds :: l) P := by
  show W (match atI ds k with | some d => some (R.val d (x0 :: x1 :: x2 :: x3 :: x4 :: x5 :: x6 :: x7 :: x8 :: x9 :: x10 :: .own lb ds :: l)) | none => none) P ↔ _
  unfold L
  cases atI ds k <;> simp [W]
theorem WS_app11 : WS (sApp 11 f (x0 :: x1 :: x2 :: x3 :: x4 :: x5 :: x6 :: x7 :: x8 :: x9 :: x10 :: .own lb ds :: l)) N T B C ↔ W (f (x0 :: x1 :: x2 :: x3 :: x4 :: x5 :: x6 :: x7 :: x8 :: x9 :: x10 :: .own lb ds :: l)) fun d s => App 11 d s N := WS_appG rfl
theorem App_11 : App 11 d (x0 :: x1 :: x2 :: x3 :: x4 :: x5 :: x6 :: x7 :: x8 :: x9 :: x10 :: .own lb ds :: l) N ↔ ds.length ≤ 1000000 ∧ N (x0 :: x1 :: x2 :: x3 :: x4 :: x5 :: x6 :: x7 :: x8 :: x9 :: x10 :: .own lb (ds ++ [d]) :: l) := Iff.rfl
theorem W_move11 : W (mMove 11 (x0 :: x1 :: x2 :: x3 :: x4 :: x5 :: x6 :: x7 :: x8 :: x9 :: x10 :: .own none ds :: l)) PV ↔ PV (.own none ds) (x0 :: x1 :: x2 :: x3 :: x4 :: x5 :: x6 :: x7 :: x8 :: x9 :: x10 :: .gone :: l) := Iff.rfl
theorem W_var12 : W (mVar 12 (x0 :: x1 :: x2 :: x3 :: x4 :: x5 :: x6 :: x7 :: x8 :: x9 :: x10 :: x11 :: .dat d :: l)) P ↔ P d (x0 :: x1 :: x2 :: x3 :: x4 :: x5 :: x6 :: x7 :: x8 :: x9 :: x10 :: x11 :: .dat d :: l) := Iff.rfl
theorem W_vark12 {ks : List (PyData × PyData)} : W (mVar 12 (x0 :: x1 :: x2 :: x3 :: x4 :: x5 :: x6 :: x7 :: x8 :: x9 :: x10 :: x11 :: .odk lb ks :: l)) P ↔ P (.dict ks) (x0 :: x1 :: x2 :: x3 :: x4 :: x5 :: x6 :: x7 :: x8 :: x9 :: x10 :: x11 :: .dat (.dict ks) :: l) := Iff.rfl
theorem W_varo12 : W (mVar 12 (x0 :: x1 :: x2 :: x3 :: x4 :: x5 :: x6 :: x7 :: x8 :: x9 :: x10 :: x11 :: .own lb ds :: l)) P ↔ P (.list ds) (x0 :: x1 :: x2 :: x3 :: x4 :: x5 :: x6 :: x7 :: x8 :: x9 :: x10 :: x11 :: .dat (.list ds) :: l) := Iff.rfl
theorem Set_12 : Set1 12 r (x0 :: x1 :: x2 :: x3 :: x4 :: x5 :: x6 :: x7 :: x8 :: x9 :: x10 :: x11 :: x12 :: l) N ↔ N (x0 :: x1 :: x2 :: x3 :: x4 :: x5 :: x6 :: x7 :: x8 :: x9 :: x10 :: x11 :: r :: l) := ⟨fun h => h.2, fun h => ⟨by simp only [List.length_cons]; omega, h⟩⟩

theorem W_ixC12 {k : Int} : W (mIxP 12 (mC (.int k)) (x0 :: x1 :: x2 :: x3 :: x4 :: x5 :: x6 :: x7 :: x8 :: x9 :: x10 :: x11 :: .own lb ds :: l)) P ↔ L (atI ds k) (x0 :: x1 :: x2 :: x3 :: x4 :: x5 :: x6 :: x7 :: x8 :: x9 :: x10 :: x11 :: .own lb ds :: l) P := by
  show W (match atI ds k with | some d => some (R.val d (x0 :: x1 :: x2 :: x3 :: x4 :: x5 :: x6 :: x7 :: x8 :: x9 :: x10 :: x11 :: .own lb ds :: l)) | none => none) P ↔ _
  unfold L
  cases atI ds k <;> simp [W]
theorem WS_app12 : WS (sApp 12 f (x0 :: x1 :: x2 :: x3 :: x4 :: x5 :: x6 :: x7 :: x8 :: x9 :: x10 :: x11 :: .own lb ds :: l)) N T B C ↔ W (f (x0 :: x1 :: x2 :: x3 :: x4 :: x5 :: x6 :: x7 :: x8 :: x9 :: x10 :: x11 :: .own lb ds :: l)) fun d s => App 12 d s N := WS_appG rfl
theorem App_12 : App 12 d (x0 :: x1 :: x2 :: x3 :: x4 :: x5 :: x6 :: x7 :: x8 :: x9 :: x10 :: x11 :: .own lb ds :: l) N ↔ ds.length ≤ 1000000 ∧ N (x0 :: x1 :: x2 :: x3 :: x4 :: x5 :: x6 :: x7 :: x8 :: x9 :: x10 :: x11 :: .own lb (ds ++ [d]) :: l) := Iff.rfl
theorem W_move12 : W (mMove 12 (x0 :: x1 :: x2 :: x3 :: x4 :: x5 :: x6 :: x7 :: x8 :: x9 :: x10 :: x11 :: .own none ds :: l)) PV ↔ PV (.own none ds) (x0 :: x1 :: x2 :: x3 :: x4 :: x5 :: x6 :: x7 :: x8 :: x9 :: x10 :: x11 :: .gone :: l) := Iff.rfl
theorem W_var13 : W (mVar 13 (x0 :: x1 :: x2 :: x3 :: x4 :: x5 :: x6 :: x7 :: x8 :: x9 :: x10 :: x11 :: x12 :: .dat d :: l)) P ↔ P d (x0 :: x1 :: x2 :: x3 :: x4 :: x5 :: x6 :: x7 :: x8 :: x9 :: x10 :: x11 :: x12 :: .dat d :: l) := Iff.rfl
theorem W_vark13 {ks : List (PyData × PyData)} : W (mVar 13 (x0 :: x1 :: x2 :: x3 :: x4 :: x5 :: x6 :: x7 :: x8 :: x9 :: x10 :: x11 :: x12 :: .odk lb ks :: l)) P ↔ P (.dict ks) (x0 :: x1 :: x2 :: x3 :: x4 :: x5 :: x6 :: x7 :: x8 :: x9 :: x10 :: x11 :: x12 :: .dat (.dict ks) :: l) := Iff.rfl
theorem W_varo13 : W (mVar 13 (x0 :: x1 :: x2 :: x3 :: x4 :: x5 :: x6 :: x7 :: x8 :: x9 :: x10 :: x11 :: x12 :: .own lb ds :: l)) P ↔ P (.list ds) (x0 :: x1 :: x2 :: x3 :: x4 :: x5 :: x6 :: x7 :: x8 :: x9 :: x10 :: x11 :: x12 :: .dat (.list ds) :: l) := Iff.rfl
theorem Set_13 : Set1 13 r (x0 :: x1 :: x2 :: x3 :: x4 :: x5 :: x6 :: x7 :: x8 :: x9 :: x10 :: x11 :: x12 :: x13 :: l) N ↔ N (x0 :: x1 :: x2 :: x3 :: x4 :: x5 :: x6 :: x7 :: x8 :: x9 :: x10 :: x11 :: x12 :: r :: l) := ⟨fun h => h.2, fun h => ⟨by simp only [List.length_cons]; omega, h⟩⟩

theorem W_ixC13 {k : Int} : W (mIxP 13 (mC (.int k)) (x0 :: x1 :: x2 :: x3 :: x4 :: x5 :: x6 :: x7 :: x8 :: x9 :: x10 :: x11 :: x12 :: .own lb ds :: l)) P ↔ L (atI ds k) (x0 :: x1 :: x2 :: x3 :: x4 :: x5 :: x6 :: x7 :: x8 :: x9 :: x10 :: x11 :: x12 :: .own lb ds :: l) P := by
  show W (match atI ds k with | some d => some (R.val d (x0 :: x1 :: x2 :: x3 :: x4 :: x5 :: x6 :: x7 :: x8 :: x9 :: x10 :: x11 :: x12 :: .own lb ds :: l)) | none => none) P ↔ _
  unfold L
  cases atI ds k <;> simp [W]
theorem WS_app13 : WS (sApp 13 f (x0 :: x1 :: x2 :: x3 :: x4 :: x5 :: x6 :: x7 :: x8 :: x9 :: x10 :: x11 :: x12 :: .own lb ds :: l)) N T B C ↔ W (f (x0 :: x1 :: x2 :: x3 :: x4 :: x5 :: x6 :: x7 :: x8 :: x9 :: x10 :: x11 :: x12 :: .own lb ds :: l)) fun d s => App 13 d s N := WS_appG rfl
theorem App_13 : App 13 d (x0 :: x1 :: x2 :: x3 :: x4 :: x5 :: x6 :: x7 :: x8 :: x9 :: x10 :: x11 :: x12 :: .own lb ds :: l) N ↔ ds.length ≤ 1000000 ∧ N (x0 :: x1 :: x2 :: x3 :: x4 :: x5 :: x6 :: x7 :: x8 :: x9 :: x10 :: x11 :: x12 :: .own lb (ds ++ [d]) :: l) := Iff.rfl
theorem W_move13 : W (mMove 13 (x0 :: x1 :: x2 :: x3 :: x4 :: x5 :: x6 :: x7 :: x8 :: x9 :: x10 :: x11 :: x12 :: .own none ds :: l)) PV ↔ PV (.own none ds) (x0 :: x1 :: x2 :: x3 :: x4 :: x5 :: x6 :: x7 :: x8 :: x9 :: x10 :: x11 :: x12 :: .gone :: l) := Iff.rfl
theorem W_var14 : W (mVar 14 (x0 :: x1 :: x2 :: x3 :: x4 :: x5 :: x6 :: x7 :: x8 :: x9 :: x10 :: x11 :: x12 :: x13 :: .dat d :: l)) P ↔ P d (x0 :: x1 :: x2 :: x3 :: x4 :: x5 :: x6 :: x7 :: x8 :: x9 :: x10 :: x11 :: x12 :: x13 :: .dat d :: l) := Iff.rfl
theorem W_vark14 {ks : List (PyData × PyData)} : W (mVar 14 (x0 :: x1 :: x2 :: x3 :: x4 :: x5 :: x6 :: x7 :: x8 :: x9 :: x10 :: x11 :: x12 :: x13 :: .odk lb ks :: l)) P ↔ P (.dict ks) (x0 :: x1 :: x2 :: x3 :: x4 :: x5 :: x6 :: x7 :: x8 :: x9 :: x10 :: x11 :: x12 :: x13 :: .dat (.dict ks) :: l) := Iff.rfl
theorem W_varo14 : W (mVar 14 (x0 :: x1 :: x2 :: x3 :: x4 :: x5 :: x6 :: x7 :: x8 :: x9 :: x10 :: x11 :: x12 :: x13 :: .own lb ds :: l)) P ↔ P (.list ds) (x0 :: x1 :: x2 :: x3 :: x4 :: x5 :: x6 :: x7 :: x8 :: x9 :: x10 :: x11 :: x12 :: x13 :: .dat (.list ds) :: l) := Iff.rfl
theorem Set_14 : Set1 14 r (x0 :: x1 :: x2 :: x3 :: x4 :: x5 :: x6 :: x7 :: x8 :: x9 :: x10 :: x11 :: x12 :: x13 :: x14 :: l) N ↔ N (x0 :: x1 :: x2 :: x3 :: x4 :: x5 :: x6 :: x7 :: x8 :: x9 :: x10 :: x11 :: x12 :: x13 :: r :: l) := ⟨fun h => h.2, fun h => ⟨by simp only [List.length_cons]; omega, h⟩⟩

theorem W_ixC14 {k : Int} : W (mIxP 14 (mC (.int k)) (x0 :: x1 :: x2 :: x3 :: x4 :: x5 :: x6 :: x7 :: x8 :: x9 :: x10 :: x11 :: x12 :: x13 :: .own lb ds :: l)) P ↔ L (atI ds k) (x0 :: x1 :: x2 :: x3 :: x4 :: x5 :: x6 :: x7 :: x8 :: x9 :: x10 :: x11 :: x12 :: x13 :: .own lb ds :: l) P := by
  show W (match atI ds k with | some d => some (R.val d (x0 :: x1 :: x2 :: x3 :: x4 :: x5 :: x6 :: x7 :: x8 :: x9 :: x10 :: x11 :: x12 :: x13 :: .own lb ds :: l)) | none => none) P ↔ _
  unfold L
  cases atI ds k <;> simp [W]
theorem WS_app14 : WS (sApp 14 f (x0 :: x1 :: x2 :: x3 :: x4 :: x5 :: x6 :: x7 :: x8 :: x9 :: x10 :: x11 :: x12 :: x13 :: .own lb ds :: l)) N T B C ↔ W (f (x0 :: x1 :: x2 :: x3 :: x4 :: x5 :: x6 :: x7 :: x8 :: x9 :: x10 :: x11 :: x12 :: x13 :: .own lb ds :: l)) fun d s => App 14 d s N := WS_appG rfl
theorem App_14 : App 14 d (x0 :: x1 :: x2 :: x3 :: x4 :: x5 :: x6 :: x7 :: x8 :: x9 :: x10 :: x11 :: x12 :: x13 :: .own lb ds :: l) N ↔ ds.length ≤ 1000000 ∧ N (x0 :: x1 :: x2 :: x3 :: x4 :: x5 :: x6 :: x7 :: x8 :: x9 :: x10 :: x11 :: x12 :: x13 :: .own lb (ds ++ [d]) :: l) := Iff.rfl
theorem W_move14 : W (mMove 14 (x0 :: x1 :: x2 :: x3 :: x4 :: x5 :: x6 :: x7 :: x8 :: x9 :: x10 :: x11 :: x12 :: x13 :: .own none ds :: l)) PV ↔ PV (.own none ds) (x0 :: x1 :: x2 :: x3 :: x4 :: x5 :: x6 :: x7 :: x8 :: x9 :: x10 :: x11 :: x12 :: x13 :: .gone :: l) := Iff.rfl
theorem W_var15 : W (mVar 15 (x0 :: x1 :: x2 :: x3 :: x4 :: x5 :: x6 :: x7 :: x8 :: x9 :: x10 :: x11 :: x12 :: x13 :: x14 :: .dat d :: l)) P ↔ P d (x0 :: x1 :: x2 :: x3 :: x4 :: x5 :: x6 :: x7 :: x8 :: x9 :: x10 :: x11 :: x12 :: x13 :: x14 :: .dat d :: l) := Iff.rfl
theorem W_vark15 {ks : List (PyData × PyData)} : W (mVar 15 (x0 :: x1 :: x2 :: x3 :: x4 :: x5 :: x6 :: x7 :: x8 :: x9 :: x10 :: x11 :: x12 :: x13 :: x14 :: .odk lb ks :: l)) P ↔ P (.dict ks) (x0 :: x1 :: x2 :: x3 :: x4 :: x5 :: x6 :: x7 :: x8 :: x9 :: x10 :: x11 :: x12 :: x13 :: x14 :: .dat (.dict ks) :: l) := Iff.rfl
theorem W_varo15 : W (mVar 15 (x0 :: x1 :: x2 :: x3 :: x4 :: x5 :: x6 :: x7 :: x8 :: x9 :: x10 :: x11 :: x12 :: x13 :: x14 :: .own lb ds :: l)) P ↔ P (.list ds) (x0 :: x1 :: x2 :: x3 :: x4 :: x5 :: x6 :: x7 :: x8 :: x9 :: x10 :: x11 :: x12 :: x13 :: x14 :: .dat (.list ds) :: l) := Iff.rfl
theorem Set_15 : Set1 15 r (x0 :: x1 :: x2 :: x3 :: x4 :: x5 :: x6 :: x7 :: x8 :: x9 :: x10 :: x11 :: x12 :: x13 :: x14 :: x15 :: l) N ↔ N (x0 :: x1 :: x2 :: x3 :: x4 :: x5 :: x6 :: x7 :: x8 :: x9 :: x10 :: x11 :: x12 :: x13 :: x14 :: r :: l) := ⟨fun h => h.2, fun h => ⟨by simp only [List.length_cons]; omega, h⟩⟩

theorem W_ixC15 {k : Int} : W (mIxP 15 (mC (.int k)) (x0 :: x1 :: x2 :: x3 :: x4 :: x5 :: x6 :: x7 :: x8 :: x9 :: x10 :: x11 :: x12 :: x13 :: x14 :: .own lb ds :: l)) P ↔ L (atI ds k) (x0 :: x1 :: x2 :: x3 :: x4 :: x5 :: x6 :: x7 :: x8 :: x9 :: x10 :: x11 :: x12 :: x13 :: x14 :: .own lb ds :: l) P := by
  show W (match atI ds k with | some d => some (R.val d (x0 :: x1 :: x2 :: x3 :: x4 :: x5 :: x6 :: x7 :: x8 :: x9 :: x10 :: x11 :: x12 :: x13 :: x14 :: .own lb ds :: l)) | none => none) P ↔ _
  unfold L
  cases atI ds k <;> simp [W]
theorem WS_app15 : WS (sApp 15 f (x0 :: x1 :: x2 :: x3 :: x4 :: x5 :: x6 :: x7 :: x8 :: x9 :: x10 :: x11 :: x12 :: x13 :: x14 :: .own lb ds :: l)) N T B C ↔ W (f (x0 :: x1 :: x2 :: x3 :: x4 :: x5 :: x6 :: x7 :: x8 :: x9 :: x10 :: x11 :: x12 :: x13 :: x14 :: .own lb ds :: l)) fun d s => App 15 d s N := WS_appG rfl
theorem App_15 : App 15 d (x0 :: x1 :: x2 :: x3 :: x4 :: x5 :: x6 :: x7 :: x8 :: x9 :: x10 :: x11 :: x12 :: x13 :: x14 :: .own lb ds :: l) N ↔ ds.length ≤ 1000000 ∧ N (x0 :: x1 :: x2 :: x3 :: x4 :: x5 :: x6 :: x7 :: x8 :: x9 :: x10 :: x11 :: x12 :: x13 :: x14 :: .own lb (ds ++ [d]) :: l) := Iff.rfl
theorem W_move15 : W (mMove 15 (x0 :: x1 :: x2 :: x3 :: x4 :: x5 :: x6 :: x7 :: x8 :: x9 :: x10 :: x11 :: x12 :: x13 :: x14 :: .own none ds :: l)) PV ↔ PV (.own none ds) (x0 :: x1 :: x2 :: x3 :: x4 :: x5 :: x6 :: x7 :: x8 :: x9 :: x10 :: x11 :: x12 :: x13 :: x14 :: .gone :: l) := Iff.rfl
theorem L_at0 {ss : List SV} {z0 : PyData} : L (atI (z0 :: ds) 0) ss P ↔ P z0 ss := by
  rw [show atI (z0 :: ds) (0 : Int) = some z0 from at_natA (i := 0) rfl]
  exact L_some
theorem L_at1 {ss : List SV} {z0 z1 : PyData} : L (atI (z0 :: z1 :: ds) 1) ss P ↔ P z1 ss := by
  rw [show atI (z0 :: z1 :: ds) (1 : Int) = some z1 from at_natA (i := 1) rfl]
  exact L_some
theorem L_at2 {ss : List SV} {z0 z1 z2 : PyData} : L (atI (z0 :: z1 :: z2 :: ds) 2) ss P ↔ P z2 ss := by
  rw [show atI (z0 :: z1 :: z2 :: ds) (2 : Int) = some z2 from at_natA (i := 2) rfl]
  exact L_some
theorem L_at3 {ss : List SV} {z0 z1 z2 z3 : PyData} : L (atI (z0 :: z1 :: z2 :: z3 :: ds) 3) ss P ↔ P z3 ss := by
  rw [show atI (z0 :: z1 :: z2 :: z3 :: ds) (3 : Int) = some z3 from at_natA (i := 3) rfl]
  exact L_some
theorem L_at4 {ss : List SV} {z0 z1 z2 z3 z4 : PyData} : L (atI (z0 :: z1 :: z2 :: z3 :: z4 :: ds) 4) ss P ↔ P z4 ss := by
  rw [show atI (z0 :: z1 :: z2 :: z3 :: z4 :: ds) (4 : Int) = some z4 from at_natA (i := 4) rfl]
  exact L_some
theorem L_at5 {ss : List SV} {z0 z1 z2 z3 z4 z5 : PyData} : L (atI (z0 :: z1 :: z2 :: z3 :: z4 :: z5 :: ds) 5) ss P ↔ P z5 ss := by
  rw [show atI (z0 :: z1 :: z2 :: z3 :: z4 :: z5 :: ds) (5 : Int) = some z5 from at_natA (i := 5) rfl]
  exact L_some
theorem L_at6 {ss : List SV} {z0 z1 z2 z3 z4 z5 z6 : PyData} : L (atI (z0 :: z1 :: z2 :: z3 :: z4 :: z5 :: z6 :: ds) 6) ss P ↔ P z6 ss := by
  rw [show atI (z0 :: z1 :: z2 :: z3 :: z4 :: z5 :: z6 :: ds) (6 : Int) = some z6 from at_natA (i := 6) rfl]
  exact L_some
theorem L_at7 {ss : List SV} {z0 z1 z2 z3 z4 z5 z6 z7 : PyData} : L (atI (z0 :: z1 :: z2 :: z3 :: z4 :: z5 :: z6 :: z7 :: ds) 7) ss P ↔ P z7 ss := by
  rw [show atI (z0 :: z1 :: z2 :: z3 :: z4 :: z5 :: z6 :: z7 :: ds) (7 : Int) = some z7 from at_natA (i := 7) rfl]
  exact L_some
theorem L_at8 {ss : List SV} {z0 z1 z2 z3 z4 z5 z6 z7 z8 : PyData} : L (atI (z0 :: z1 :: z2 :: z3 :: z4 :: z5 :: z6 :: z7 :: z8 :: ds) 8) ss P ↔ P z8 ss := by
  rw [show atI (z0 :: z1 :: z2 :: z3 :: z4 :: z5 :: z6 :: z7 :: z8 :: ds) (8 : Int) = some z8 from at_natA (i := 8) rfl]
  exact L_some
theorem Put_0 {z0 : PyData} : Put 0 (.int 0) d (.own lb (z0 :: ds) :: l) N ↔ N (.own lb (d :: ds) :: l) := by
  show (∃ n, ixN (z0 :: ds).length 0 = some n ∧ _) ↔ _
  rw [show ixN (z0 :: ds).length 0 = some 0 from by unfold ixN; rw [if_pos (by omega), if_pos (by simp only [List.length_cons]; omega)]; rfl]
  constructor
  · rintro ⟨n, e, h⟩
    cases e
    exact h
  · intro h
    exact ⟨0, rfl, h⟩
theorem Put_1 {z0 z1 : PyData} : Put 0 (.int 1) d (.own lb (z0 :: z1 :: ds) :: l) N ↔ N (.own lb (z0 :: d :: ds) :: l) := by
  show (∃ n, ixN (z0 :: z1 :: ds).length 1 = some n ∧ _) ↔ _
  rw [show ixN (z0 :: z1 :: ds).length 1 = some 1 from by unfold ixN; rw [if_pos (by omega), if_pos (by simp only [List.length_cons]; omega)]; rfl]
  constructor
  · rintro ⟨n, e, h⟩
    cases e
    exact h
  · intro h
    exact ⟨1, rfl, h⟩
theorem Put_2 {z0 z1 z2 : PyData} : Put 0 (.int 2) d (.own lb (z0 :: z1 :: z2 :: ds) :: l) N ↔ N (.own lb (z0 :: z1 :: d :: ds) :: l) := by
  show (∃ n, ixN (z0 :: z1 :: z2 :: ds).length 2 = some n ∧ _) ↔ _
  rw [show ixN (z0 :: z1 :: z2 :: ds).length 2 = some 2 from by unfold ixN; rw [if_pos (by omega), if_pos (by simp only [List.length_cons]; omega)]; rfl]
  constructor
  · rintro ⟨n, e, h⟩
    cases e
    exact h
  · intro h
    exact ⟨2, rfl, h⟩
end

/-! ### loops -/
section
variable {ss : List SV} {N B C : List SV → Prop} {T : SV → List SV → Prop} {b : PyData → List SV → Option (List SV)} {body : S} {ds acc : List PyData} {c t : M Bool} {f : M PyData} {vs : List Nat} {PV : SV → List SV → Prop}
theorem WS_forGo (I : Nat → List SV → Prop) : ∀ {ds : List PyData} {i0 : Nat} {ss : List SV}, I i0 ss → (∀ i d, ds[i]? = some d → ∀ s, I (i0 + i) s → LB (b d s) fun s1 => WS (body s1) (I (i0 + i + 1)) T N (I (i0 + i + 1))) → (∀ s, I (i0 + ds.length) s → N s) → WS (forGo b body ds ss) N T B C
  | [], i0, ss, h, _, e => e ss h
  | d :: ds, i0, ss, h, st, e => by
    obtain ⟨s1, h1, h2⟩ := st 0 d rfl ss h
    have rest : ∀ s2, I (i0 + 1) s2 → WS (forGo b body ds s2) N T B C := fun s2 h3 => by
      refine WS_forGo I (i0 := i0 + 1) h3 (fun i d hd s hs => ?_) fun s hs => e s (by rw [List.length_cons]; rw [show i0 + 1 + ds.length = i0 + (ds.length + 1) by omega] at hs; exact hs)
      have := st (i + 1) d (by simpa using hd) s (by rw [show i0 + 1 + i = i0 + (i + 1) by omega] at hs; exact hs)
      rw [show i0 + (i + 1) + 1 = i0 + 1 + i + 1 by omega] at this
      exact this
    show WS (match b d ss with | none => none | some s1 => match body s1 with | some (.nx s2) => forGo b body ds s2 | some (.ct s2) => forGo b body ds s2 | some (.bk s2) => some (.nx s2) | o => o) N T B C
    rw [h1]
    dsimp only
    cases q : body s1 with
    | none => rw [q] at h2; exact h2
    | some r =>
      rw [q] at h2
      cases r with
      | nx s2 => exact rest s2 h2
      | ct s2 => exact rest s2 h2
      | bk s2 => exact h2
      | rt r s2 => exact h2
      | ex c fs => exact h2
theorem WS_whileGo (I : Nat → List SV → Prop) : ∀ {n m : Nat} {ss : List SV}, m < n → I m ss → (∀ m s, I m s → W (c s) fun v s1 => WS (ifS v body sBreak s1) (fun s2 => ∃ m', m' < m ∧ I m' s2) T N fun s2 => ∃ m', m' < m ∧ I m' s2) → WS (whileGo c body n ss) N T B C
  | 0, m, ss, h, _, _ => by omega
  | n + 1, m, ss, h, hi, st => by
    have h1 := st m ss hi
    show WS (match c ss with | some (.val true s1) => (match body s1 with | some (.nx s2) => whileGo c body n s2 | some (.ct s2) => whileGo c body n s2 | some (.bk s2) => some (.nx s2) | o => o) | some (.val false s1) => some (.nx s1) | some (.exc c fs) => some (.ex c fs) | none => none) N T B C
    cases q : c ss with
    | none => rw [q] at h1; exact h1
    | some r =>
      rw [q] at h1
      cases r with
      | exc c fs => exact h1
      | val v s1 =>
        cases v with
        | false => exact h1
        | true =>
          have h1 : WS (body s1) _ T N _ := h1
          dsimp only
          cases q2 : body s1 with
          | none => rw [q2] at h1; exact h1
          | some r =>
            rw [q2] at h1
            cases r with
            | nx s2 =>
              obtain ⟨m', hm, hi'⟩ := h1
              exact WS_whileGo I (by omega) hi' st
            | ct s2 =>
              obtain ⟨m', hm, hi'⟩ := h1
              exact WS_whileGo I (by omega) hi' st
            | bk s2 => exact h1
            | rt r s2 => exact h1
            | ex c fs => exact h1
theorem W_lcGo {α : Type} (enc : α → PyData) (J : List SV → Prop) (k : α → Bool) (g : α → PyData) : ∀ {xs : List α} {acc : List PyData} {ss : List SV}, J ss → acc.length + xs.length ≤ 1000000 →
    (∀ x ∈ xs, ∀ s, J s → LB (b (enc x) s) fun s1 => W (t s1) fun v s2 => v = k x ∧ ((k x = true → W (f s2) fun y s3 => y = g x ∧ J (wipeS s3 vs)) ∧ (k x = false → J (wipeS s2 vs)))) →
    (∀ s, J s → PV (.own none (acc ++ (xs.filter k).map g)) s) → W (lcGo vs b t f (xs.map enc) acc ss) PV
  | [], acc, ss, h, _, _, e => by
    have := e ss h
    rw [List.filter_nil, List.map_nil, List.append_nil] at this
    exact this
  | d :: ds, acc, ss, h, hl, st, e => by
    rw [List.length_cons] at hl
    obtain ⟨s1, h1, h2⟩ := st d List.mem_cons_self ss h
    show W (match b (enc d) ss with | none => none | some s1 => match t s1 with | some (.val true s2) => (match f s2 with | some (.val y s3) => if few acc.length then lcGo vs b t f (ds.map enc) (acc ++ [y]) (wipeS s3 vs) else none | _ => none) | some (.val false s2) => lcGo vs b t f (ds.map enc) acc (wipeS s2 vs) | _ => none) PV
    rw [h1]
    dsimp only
    cases q : t s1 with
    | none => rw [q] at h2; exact h2
    | some r =>
      rw [q] at h2
      cases r with
      | exc c fs => exact h2
      | val v s2 =>
        obtain ⟨hv, ht, hf⟩ := h2
        cases v with
        | false =>
          refine W_lcGo enc J k g (hf hv.symm) (by omega) (fun d hd => st d (List.mem_cons_of_mem _ hd)) fun s hs => ?_
          have := e s hs
          rw [List.filter_cons, ← hv] at this
          exact this
        | true =>
          have h3 := ht hv.symm
          dsimp only
          cases q2 : f s2 with
          | none => rw [q2] at h3; exact h3
          | some r =>
            rw [q2] at h3
            cases r with
            | exc c fs => exact h3
            | val y s3 =>
              obtain ⟨hy, hj⟩ := h3
              dsimp only
              rw [if_pos (few_of (show acc.length ≤ 1000000 by omega))]
              refine W_lcGo enc J k g hj (by rw [List.length_append, List.length_singleton]; omega) (fun d hd => st d (List.mem_cons_of_mem _ hd)) fun s hs => ?_
              have := e s hs
              rw [List.filter_cons, ← hv] at this
              rw [hy, List.append_assoc]
              exact this
/-- no test -/
theorem W_lcM {α : Type} (enc : α → PyData) (J : List SV → Prop) (g : α → PyData) {xs : List α} {ss : List SV} (h : J ss) (hl : xs.length ≤ 1000000)
    (st : ∀ x ∈ xs, ∀ s, J s → LB (b (enc x) s) fun s1 => W (t s1) fun v s2 => v = true ∧ W (f s2) fun y s3 => y = g x ∧ J (wipeS s3 vs))
    (e : ∀ s, J s → PV (.own none (xs.map g)) s) : W (lcGo vs b t f (xs.map enc) [] ss) PV := by
  refine W_lcGo enc J (fun _ => true) g h (by rw [List.length_nil]; omega) (fun x hx s hs => ?_) fun s hs => ?_
  · obtain ⟨s1, h1, h2⟩ := st x hx s hs
    exact ⟨s1, h1, W_mono h2 fun v s2 q => ⟨q.1, fun _ => q.2, fun z => nomatch z⟩⟩
  · have q : xs.filter (fun _ => true) = xs := by simp
    rw [q]
    exact e s hs
end

/-! ### the loop over lists of their own -/
section
variable {ss : List SV} {N B C : List SV → Prop} {T : SV → List SV → Prop} {b : PyData → List SV → Option (List SV)} {body : S} {f : M SV} {vs : List Nat} {i : Nat} {S0 : List SV} {Pd : List PyData → Prop}
theorem lcGoO_ok : ∀ {ds : List PyData} {acc : List (List PyData)}, acc.length + ds.length ≤ 1000000 → (∀ d ∈ ds, LB (b d S0) fun s1 => W (f s1) fun r s3 => ∃ es, r = .own none es ∧ Pd es ∧ wipeS s3 vs = S0) → (∀ l ∈ acc, Pd l) →
    ∃ ls, lcGoO vs b f ds acc S0 = some (ls, S0) ∧ (∀ l ∈ ls, Pd l) ∧ ls.length = acc.length + ds.length
  | [], acc, _, _, ha => ⟨acc, rfl, ha, rfl⟩
  | d :: ds, acc, hl, h, ha => by
    rw [List.length_cons] at hl
    obtain ⟨s1, h1, h2⟩ := h d List.mem_cons_self
    show ∃ ls, (match b d S0 with | none => none | some s1 => match f s1 with | some (.val (.own none es) s3) => if few acc.length then lcGoO vs b f ds (acc ++ [es]) (wipeS s3 vs) else none | _ => none) = some (ls, S0) ∧ _
    rw [h1]
    dsimp only
    cases q : f s1 with
    | none => rw [q] at h2; exact h2.elim
    | some z =>
      rw [q] at h2
      cases z with
      | exc c fs => exact h2.elim
      | val r s3 =>
        obtain ⟨es, rfl, hp, hw⟩ := h2
        dsimp only
        rw [if_pos (few_of (show acc.length ≤ 1000000 by omega)), hw]
        obtain ⟨ls, e, hq, hn⟩ := lcGoO_ok (ds := ds) (acc := acc ++ [es]) (by rw [List.length_append, List.length_singleton]; omega) (fun d hd => h d (List.mem_cons_of_mem _ hd)) fun l hl => by
          rcases List.mem_append.mp hl with z | z
          · exact ha l z
          · rw [List.mem_singleton.mp z]
            exact hp
        refine ⟨ls, e, hq, ?_⟩
        rw [hn, List.length_append, List.length_singleton, List.length_cons]
        omega
theorem forGoO_ok (I : List SV → Prop) : ∀ {ls : List (List PyData)} {s : List SV}, (∀ l ∈ ls, Pd l) → I s → (∀ d s, Pd d → I s → i < s.length ∧ WS (body (s.set i (.own none d))) (fun s2 => I (s2.set i .gone)) T N fun s2 => I (s2.set i .gone)) → (∀ s, I s → N s) → WS (forGoO i body ls s) N T B C
  | [], s, _, h, _, e => e s h
  | l :: ls, s, hl, h, st, e => by
    obtain ⟨hi, h1⟩ := st l s (hl l List.mem_cons_self) h
    have rest : ∀ s2, I s2 → WS (forGoO i body ls s2) N T B C := fun s2 h2 => forGoO_ok I (fun l m => hl l (List.mem_cons_of_mem _ m)) h2 st e
    show WS (if i < s.length then match body (s.set i (.own none l)) with | some (.nx s2) => forGoO i body ls (s2.set i .gone) | some (.ct s2) => forGoO i body ls (s2.set i .gone) | some (.bk s2) => some (.nx s2) | o => o else none) N T B C
    rw [if_pos hi]
    cases q : body (s.set i (.own none l)) with
    | none => rw [q] at h1; exact h1
    | some z =>
      rw [q] at h1
      cases z with
      | nx s2 => exact rest _ h1
      | ct s2 => exact rest _ h1
      | bk s2 => exact h1
      | rt r s2 => exact h1
      | ex c fs => exact h1
theorem WS_forO {it : M (List PyData)} (I : List SV → Prop) (Pd : List PyData → Prop) (h : W (it ss) fun ds s => ds.length ≤ 1000000 ∧ I (wipeS s vs) ∧ ∀ d ∈ ds, LB (b d (wipeS s vs)) fun s1 => W (f s1) fun r s3 => ∃ es, r = .own none es ∧ Pd es ∧ wipeS s3 vs = wipeS s vs)
    (st : ∀ d s, Pd d → I s → i < s.length ∧ WS (body (s.set i (.own none d))) (fun s2 => I (s2.set i .gone)) T N fun s2 => I (s2.set i .gone)) (e : ∀ s, I s → N s) : WS (sForO vs it b f i body ss) N T B C := by
  unfold sForO
  rw [WS_eseq]
  refine W_mono h fun ds s ⟨hl, hi, hf⟩ => ?_
  obtain ⟨ls, e1, hp, _⟩ := lcGoO_ok (acc := []) (by rw [List.length_nil]; omega) hf fun l hl => nomatch hl
  rw [e1]
  exact forGoO_ok I hp hi st e
theorem W_scr {K : PySem.W.Frag} {ns : List Int} {l : List SV} {lo hi : M (Option Int)} {P : SV → List SV → Prop} : W (mScr K 0 lo hi (.oth (.scr K ns) :: l)) P ↔ W (lo (.oth (.scr K ns) :: l)) fun a s => W (hi s) fun b s => P (.own none (cutD (ns.map .int) a b)) s := by
  have e : mScr K 0 lo hi (.oth (.scr K ns) :: l) = M.bind lo (fun a => M.bind hi fun b => M.lift (some (.own none (cutD (ns.map .int) a b)))) (.oth (.scr K ns) :: l) := by
    unfold mScr
    simp
  rw [e]
  simp only [W_bind, W_lift, L_some]
end
theorem ifM_nT {α : Type} {xs : List PyData} {f g : M α} {ss : List SV} {P : α → List SV → Prop} : W (ifM (isNone (.tuple xs)) f g ss) P ↔ W (g ss) P := Iff.rfl
theorem ifS_nT {xs : List PyData} {f g : S} {ss : List SV} {N B C : List SV → Prop} {T : SV → List SV → Prop} : WS (ifS (isNone (.tuple xs)) f g ss) N T B C ↔ WS (g ss) N T B C := Iff.rfl
theorem ifM_nL {α : Type} {xs : List PyData} {f g : M α} {ss : List SV} {P : α → List SV → Prop} : W (ifM (isNone (.list xs)) f g ss) P ↔ W (g ss) P := Iff.rfl
theorem ifS_nL {xs : List PyData} {f g : S} {ss : List SV} {N B C : List SV → Prop} {T : SV → List SV → Prop} : WS (ifS (isNone (.list xs)) f g ss) N T B C ↔ WS (g ss) N T B C := Iff.rfl
theorem ifM_nI {α : Type} {i : Int} {f g : M α} {ss : List SV} {P : α → List SV → Prop} : W (ifM (isNone (.int i)) f g ss) P ↔ W (g ss) P := Iff.rfl
theorem ifS_nI {i : Int} {f g : S} {ss : List SV} {N B C : List SV → Prop} {T : SV → List SV → Prop} : WS (ifS (isNone (.int i)) f g ss) N T B C ↔ WS (g ss) N T B C := Iff.rfl
theorem ifM_nS {α : Type} {z : Str} {f g : M α} {ss : List SV} {P : α → List SV → Prop} : W (ifM (isNone (.str z)) f g ss) P ↔ W (g ss) P := Iff.rfl
theorem ifS_nS {z : Str} {f g : S} {ss : List SV} {N B C : List SV → Prop} {T : SV → List SV → Prop} : WS (ifS (isNone (.str z)) f g ss) N T B C ↔ WS (g ss) N T B C := Iff.rfl
theorem ifM_nB {α : Type} {b : Bool} {f g : M α} {ss : List SV} {P : α → List SV → Prop} : W (ifM (isNone (.bool b)) f g ss) P ↔ W (g ss) P := Iff.rfl
theorem ifS_nB {b : Bool} {f g : S} {ss : List SV} {N B C : List SV → Prop} {T : SV → List SV → Prop} : WS (ifS (isNone (.bool b)) f g ss) N T B C ↔ WS (g ss) N T B C := Iff.rfl
theorem ifM_nN {α : Type} {f g : M α} {ss : List SV} {P : α → List SV → Prop} : W (ifM (isNone .none) f g ss) P ↔ W (f ss) P := Iff.rfl
theorem ifS_nN {f g : S} {ss : List SV} {N B C : List SV → Prop} {T : SV → List SV → Prop} : WS (ifS (isNone .none) f g ss) N T B C ↔ WS (f ss) N T B C := Iff.rfl
theorem L_sort {ds : List PyData} {s : List SV} {PL : List PyData → List SV → Prop} : L (kSortD [.list ds]) s PL ↔ ds.all rowI = true ∧ PL (sortD ds) s := by
  show L (if ds.all rowI = true then some (sortD ds) else none) s PL ↔ _
  exact L_ite
theorem eqv_nil {xs : List PyData} : PyData.eqv (.list xs) (.list []) = xs.isEmpty := by cases xs <;> simp [PyData.eqv, PyData.eqvAll]
/-! ### defs -/
theorem cut_upto (xs : List PyData) (k : Nat) : cutD xs none (some (k : Int)) = xs.take k := by
  unfold cutD
  rw [HT.sIx_none, HT.sIx_nat, List.drop_zero, Nat.sub_zero, List.take_eq_take_iff]
  omega
theorem cut_from (xs : List PyData) (k : Nat) : cutD xs (some (k : Int)) none = xs.drop k := by
  unfold cutD
  rw [HT.sIx_none, HT.sIx_nat]
  by_cases h : k ≤ xs.length
  · rw [Nat.min_eq_left h]
    exact List.take_of_length_le (by rw [List.length_drop]; exact Nat.le_refl _)
  · rw [Nat.min_eq_right (show xs.length ≤ k by omega), Nat.sub_self, List.take_zero, List.drop_of_length_le (show xs.length ≤ k by omega)]
theorem cut_uptoI {xs : List PyData} {i : Int} {k : Nat} (e : i = (k : Int)) : cutD xs none (some i) = xs.take k := by rw [e, cut_upto]
theorem cut_fromI {xs : List PyData} {i : Int} {k : Nat} (e : i = (k : Int)) : cutD xs (some i) none = xs.drop k := by rw [e, cut_from]
/-- F handed args tells r -/
def Tl (F : M SV) (args : List SV) (r : SV) : Prop := outR r = some r ∧ ∃ ss, F args = some (.val r ss)
section
variable {F : M SV} {args ss : List SV} {r : SV} {n m : Nat} {body : S} {P : SV → List SV → Prop}
theorem Tl_def (ho : outR r = some r) (hl : args.length = n) (h : WS (body (args ++ List.replicate (m - n) .gone)) (fun s => r = .dat .none ∧ n ≤ s.length) (fun r' s => r' = r ∧ n ≤ s.length) (fun _ => False) fun _ => False) : Tl (mDef n m body) args r := by
  refine ⟨ho, ?_⟩
  unfold mDef
  rw [if_pos hl]
  unfold WS at h
  split at h
  · rename_i s e
    rw [e]
    dsimp only
    rw [if_pos h.2, h.1]
    exact ⟨_, rfl⟩
  · rename_i r' s e
    rw [e]
    dsimp only
    rw [if_pos h.2, h.1, ho]
    exact ⟨_, rfl⟩
  · exact h.elim
  · exact h.elim
  · exact h.elim
abbrev LI (ms : List Int) : PyData := .list (ms.map .int)
theorem enum_get {ms : List Int} {i : Nat} {d : PyData} (h : (enumD (ms.map .int))[i]? = some d) : ∃ x, ms[i]? = some x ∧ d = .tuple [.int (i : Nat), .int x] := by
  unfold enumD at h
  rw [List.getElem?_mapIdx, List.getElem?_map] at h
  cases q : ms[i]? with
  | none => rw [q] at h; cases h
  | some x =>
    rw [q] at h
    exact ⟨x, rfl, (Option.some.inj h).symm⟩
theorem rng_get {lo : Int} {n i : Nat} {d : PyData} (h : (rngD lo n)[i]? = some d) : i < n ∧ d = .int (lo + (i : Nat)) := by
  unfold rngD at h
  rw [List.getElem?_map] at h
  by_cases c : i < n
  · rw [List.getElem?_range c] at h
    exact ⟨c, (Option.some.inj h).symm⟩
  · rw [List.getElem?_eq_none (by rw [List.length_range]; omega)] at h
    cases h
theorem rng_mem {lo : Int} {n : Nat} {d : PyData} (h : d ∈ rngD lo n) : ∃ i : Nat, i < n ∧ d = .int (lo + (i : Nat)) := by
  obtain ⟨i, hi⟩ := List.mem_iff_getElem?.mp h
  exact ⟨i, rng_get hi⟩
theorem rng_len {lo : Int} {n : Nat} : (rngD lo n).length = n := by unfold rngD; simp
theorem at_nat {α : Type} {xs : List α} {i : Nat} {x : α} (h : xs[i]? = some x) : atI xs (i : Int) = some x := by
  have hl := (List.getElem?_eq_some_iff.mp h).1
  unfold atI ixN
  rw [if_pos (by omega), if_pos (by omega)]
  simpa using h
theorem at_int {α : Type} {xs : List α} {i : Nat} {k : Int} {x : α} (e : k = (i : Int)) (h : xs[i]? = some x) : atI xs k = some x := by
  rw [e]
  exact at_nat h
theorem at_last {α : Type} {xs : List α} {x : α} (h : xs[xs.length - 1]? = some x) : atI xs (-1) = some x := by
  have hl := (List.getElem?_eq_some_iff.mp h).1
  unfold atI ixN
  rw [if_neg (by omega), if_pos (by omega)]
  have e : ((-1 : Int) + (xs.length : Int)).toNat = xs.length - 1 := by omega
  rw [Option.bind_some, e]
  exact h
theorem L_of {α : Type} {o : Option α} {a : α} {s : List SV} {P : α → List SV → Prop} (h : o = some a) (q : P a s) : L o s P := ⟨a, h, q⟩
/-- what F tells of data -/
def Fn (n : Nat) (F : M SV) (ds : List PyData) (s : List SV) (P : SV → List SV → Prop) : Prop := W (mCallD n F ds s) P
variable {fa : M (List PyData)} {a b c d e f : PyData} {s : List SV}
theorem W_call : W (mCall n F fa ss) P ↔ W (fa ss) fun ds s => Fn n F ds s P := by
  unfold mCall
  rw [W_bind]
  exact Iff.rfl
theorem W_aNil {P : List (Option PyData) → List SV → Prop} : W (aNil ss) P ↔ P [] ss := Iff.rfl
theorem W_aCons {P : List (Option PyData) → List SV → Prop} {g : M PyData} {ga : M (List (Option PyData))} : W (aCons g ga ss) P ↔ W (g ss) fun x s => W (ga s) fun xs s => P (some x :: xs) s := by
  unfold aCons
  simp only [W_bind, W_ret]
theorem W_aBor {P : List (Option PyData) → List SV → Prop} {ga : M (List (Option PyData))} : W (aBor ga ss) P ↔ W (ga ss) fun xs s => P (none :: xs) s := by
  unfold aBor
  simp only [W_bind, W_ret]
def isLent : Option SV → Bool
  | some (.own _ _) => true
  | some (.odk _ _) => true
  | _ => false
theorem W_callB {k i : Nat} {ga : M (List (Option PyData))} : W (mCallB n F k i ga ss) P ↔ isLent ss[i]? = true ∧ W (ga ss) fun as s => W (mCallBD n F k i as s) P := by
  unfold mCallB
  cases q : ss[i]? with
  | none => simp [isLent, W]
  | some z =>
    cases z with
    | own lb ds =>
      dsimp only
      rw [W_bind]
      exact ⟨fun h => ⟨rfl, h⟩, fun h => h.2⟩
    | odk lb ks =>
      dsimp only
      rw [W_bind]
      exact ⟨fun h => ⟨rfl, h⟩, fun h => h.2⟩
    | _ => simp [isLent, W]
/-- a list is lent -/
theorem W_lent {k k' i : Nat} {as : List (Option PyData)} {lb : Option Nat} {ds : List PyData} (hs : ss[i]? = some (.own lb ds)) (hl : as.length = n) (ha : lentAt as k = true)
    (hF : W (F (lendArgs k ds as)) fun r css => ∃ ds', outR r = some r ∧ css[k]? = some (.own (some k') ds') ∧ P r (ss.set i (.own lb ds'))) : W (mCallBD n F k i as ss) P := by
  unfold mCallBD
  rw [if_pos ⟨hl, ha⟩, hs]
  dsimp only
  cases q : F (lendArgs k ds as) with
  | none => rw [q] at hF; exact hF
  | some z =>
    rw [q] at hF
    cases z with
    | exc c fs => exact hF
    | val r css =>
      obtain ⟨ds', h1, h2, h3⟩ := hF
      dsimp only
      rw [h1]
      dsimp only
      rw [h2]
      exact h3
/-- a dict is lent -/
theorem W_lentD {k k' i : Nat} {as : List (Option PyData)} {lb : Option Nat} {ks : List (PyData × PyData)} (hs : ss[i]? = some (.odk lb ks)) (hl : as.length = n) (ha : lentAt as k = true)
    (hF : W (F (lendD k ks as)) fun r css => ∃ ks', outR r = some r ∧ css[k]? = some (.odk (some k') ks') ∧ P r (ss.set i (.odk lb ks'))) : W (mCallBD n F k i as ss) P := by
  unfold mCallBD
  rw [if_pos ⟨hl, ha⟩, hs]
  dsimp only
  cases q : F (lendD k ks as) with
  | none => rw [q] at hF; exact hF
  | some z =>
    rw [q] at hF
    cases z with
    | exc c fs => exact hF
    | val r css =>
      obtain ⟨ds', h1, h2, h3⟩ := hF
      dsimp only
      rw [h1]
      dsimp only
      rw [h2]
      exact h3
theorem W_def (hl : args.length = n) (h : WS (body (args ++ List.replicate (m - n) .gone)) (fun s => n ≤ s.length ∧ P (.dat .none) (fin n s)) (fun r s => n ≤ s.length ∧ outR r = some r ∧ P r (fin n s)) (fun _ => False) fun _ => False) : W (mDef n m body args) P := by
  unfold mDef
  rw [if_pos hl]
  unfold WS at h
  split at h
  · rename_i s e
    rw [e]
    dsimp only
    rw [if_pos h.1]
    exact h.2
  · rename_i r' s e
    rw [e]
    dsimp only
    rw [if_pos h.1, h.2.1]
    exact h.2.2
  · exact h.elim
  · exact h.elim
  · exact h.elim
theorem W_callD {ds : List PyData} : W (mCallD n F ds ss) P ↔ Fn n F ds ss P := Iff.rfl
theorem Fn_of {ds : List PyData} (hl : ds.length = n) (h : Tl F (ds.map .dat) r) : Fn n F ds s P ↔ P r s := by
  obtain ⟨ho, s2, e⟩ := h
  unfold Fn mCallD
  rw [if_pos hl, e]
  dsimp only
  rw [ho]
  exact Iff.rfl
theorem Fn_W {ds : List PyData} (hl : ds.length = n) (h : W (F (ds.map .dat)) fun r _ => outR r = some r ∧ P r s) : Fn n F ds s P := by
  unfold Fn mCallD
  rw [if_pos hl]
  cases q : F (ds.map .dat) with
  | none => rw [q] at h; exact h
  | some z =>
    rw [q] at h
    cases z with
    | exc c fs => exact h
    | val r ss =>
      obtain ⟨h1, h2⟩ := h
      dsimp only
      rw [h1]
      exact h2
theorem Fn_0 (h : Tl F [] r) : Fn 0 F [] s P ↔ P r s := Fn_of rfl h
theorem Fn_1 (h : Tl F [.dat a] r) : Fn 1 F [a] s P ↔ P r s := Fn_of rfl h
theorem Fn_2 (h : Tl F [.dat a, .dat b] r) : Fn 2 F [a, b] s P ↔ P r s := Fn_of rfl h
theorem Fn_3 (h : Tl F [.dat a, .dat b, .dat c] r) : Fn 3 F [a, b, c] s P ↔ P r s := Fn_of rfl h
theorem Fn_4 (h : Tl F [.dat a, .dat b, .dat c, .dat d] r) : Fn 4 F [a, b, c, d] s P ↔ P r s := Fn_of rfl h
theorem Fn_5 (h : Tl F [.dat a, .dat b, .dat c, .dat d, .dat e] r) : Fn 5 F [a, b, c, d, e] s P ↔ P r s := Fn_of rfl h
theorem Fn_6 (h : Tl F [.dat a, .dat b, .dat c, .dat d, .dat e, .dat f] r) : Fn 6 F [a, b, c, d, e, f] s P ↔ P r s := Fn_of rfl h
end
end Cm

/-! Mirrors: own errors, raised and caught. -/
namespace Cm
open PySem PySem.Spec PyProof.Rows L2 Cf
variable [LT]

/-! ### a tuple of classes behind except -/
section
variable {Md : Model} {A : Around} {E : Value → Shared → Prop} {s : Shared} {α : Type}
theorem loop_all {f : α → PUnit → Sem (ForInStep PUnit)} : ∀ {cs : List α} {Q : PUnit → Shared → Prop}, (∀ c ∈ cs, ∀ Q' : ForInStep PUnit → Shared → Prop, Q' (.yield ⟨⟩) s → wpAny Md A (f c ⟨⟩) Q' E s) → Q ⟨⟩ s → wpAny Md A (forIn cs (⟨⟩ : PUnit) f) Q E s
  | [], Q, _, q => by
    rw [List.forIn_nil]
    exact wpAny_pure q
  | c :: cs, Q, h, q => by
    rw [List.forIn_cons]
    exact wpAny_bind (h c List.mem_cons_self _ (loop_all (fun d hd => h d (List.mem_cons_of_mem _ hd)) q))
theorem loop_first {β : Type} {u v : β} {f : α → β → Sem (ForInStep β)} : ∀ {cs : List α} {bs : List Bool} {Q : β → Shared → Prop}, cs.length = bs.length →
    (∀ p ∈ cs.zip bs, ∀ Q' : ForInStep β → Shared → Prop, Q' (if p.2 = true then .done v else .yield u) s → wpAny Md A (f p.1 u) Q' E s) → Q (if bs.any id = true then v else u) s → wpAny Md A (forIn cs u f) Q E s
  | [], [], Q, _, _, q => by
    rw [List.forIn_nil]
    exact wpAny_pure q
  | [], _ :: _, _, h, _, _ => by simp at h
  | _ :: _, [], _, h, _, _ => by simp at h
  | c :: cs, b :: bs, Q, hl, h, q => by
    rw [List.forIn_cons]
    refine wpAny_bind (h (c, b) (by simp) _ ?_)
    cases b with
    | true =>
      rw [if_pos rfl]
      exact wpAny_pure q
    | false =>
      rw [if_neg Bool.false_ne_true]
      exact loop_first (bs := bs) (by simpa using hl) (fun p hp => h p (by rw [List.zip_cons_cons]; exact List.mem_cons_of_mem _ hp)) q
end
theorem exmAny_list {K : PySem.W.Frag} {cls : Value} : ∀ {cs : List Value} {b : Bool}, PySem.W.exmAny K cls cs = some b → ∃ bs, cs.length = bs.length ∧ b = bs.any id ∧ ∀ p ∈ cs.zip bs, PySem.W.exmOne K cls p.1 = some p.2
  | [], b, h => by
    cases h
    exact ⟨[], rfl, rfl, fun p hp => nomatch hp⟩
  | c :: cs, b, h => by
    obtain ⟨b1, d1, h1, h2, rfl⟩ := PySem.W.exmAny_cons h
    obtain ⟨bs, e1, e2, e3⟩ := exmAny_list h2
    refine ⟨b1 :: bs, by simp [e1], by rw [e2]; rfl, fun p hp => ?_⟩
    rw [List.zip_cons_cons] at hp
    rcases List.mem_cons.mp hp with z | z
    · rw [z]
      exact h1
    · exact e3 p z
theorem exm_tuple {Md : Model} {K : PySem.W.Frag} {cs : List Value} {cls : Value} {tp e : Addr} {b : Bool} {h : Heap} (X : K.In h) (LT : PySem.W.Looks Md h (typeOf (.ref e)) cls) (hp : h.get? tp = some { cls := .type "tuple", data := .seq cs.toArray }) (hx : PySem.W.exmAny K cls cs = some b) :
    PySem.W.Looks Md h (excMatches (.ref e) (.ref tp)) b := by
  intro A Q E s k₀ q
  obtain ⟨hh, g, d, tk, os⟩ := s
  have k : ∀ b o, h.get? b = some o → hh.get? b = some o := k₀
  have LT0 : PySem.W.Looks Md hh (isInstance (.ref tp) (.type "tuple")) true := (((PySem.W.Looks.ld hp).andThen .now).andThen (PySem.W.Looks.of_pure isSubtype_tuple_tuple)).keeps k
  have LT1 := LT.keeps k
  have hp' := k _ _ hp
  obtain ⟨bs, e1, e2, e3⟩ := exmAny_list hx
  have each : ∀ p ∈ cs.zip bs, PySem.W.Looks Md hh (isExcClass p.1) true ∧ PySem.W.Looks Md hh (isSubtype cls p.1) p.2 := fun p hp2 => by
    obtain ⟨y1, y2⟩ := PySem.W.exm_cls (M := Md) X (e3 p hp2)
    exact ⟨y1.keeps k, y2.keeps k⟩
  have mem : ∀ c ∈ cs, ∃ b, (c, b) ∈ cs.zip bs := fun c hc => by
    obtain ⟨i, hi⟩ := List.mem_iff_getElem?.mp hc
    have hlt := (List.getElem?_eq_some_iff.mp hi).1
    refine ⟨bs[i]'(by omega), List.mem_iff_getElem?.mpr ⟨i, ?_⟩⟩
    rw [List.getElem?_zip_eq_some]
    exact ⟨hi, List.getElem?_eq_getElem _⟩
  unfold excMatches
  refine wpAny_bind (LT0.at ?_)
  dsimp only
  rw [if_pos rfl]
  first
    | refine wpAny_bind (wpAny_seqItems hp' rfl ?_)
    | refine wpAny_bind (wpAny_bind (wpAny_seqItems hp' rfl (wpAny_pure ?_)))
  dsimp only [Option.getD_some, Option.getD]
  refine wpAny_bind (wpAny_pure (wpAny_bind (loop_all (fun c hc Q' q' => ?_) ?_)))
  · obtain ⟨b2, hb2⟩ := mem c hc
    refine wpAny_bind ((each _ hb2).1.at ?_)
    simp only [Bool.not_true, Bool.false_eq_true, if_false]
    exact wpAny_pure q'
  refine wpAny_bind (LT1.at ?_)
  refine wpAny_bind (loop_first (bs := bs) (u := (none, ())) (v := (some true, ())) e1 (fun p hp2 Q' q' => ?_) ?_)
  · refine wpAny_bind ((each _ hp2).2.at ?_)
    cases h2 : p.2 with
    | true =>
      rw [h2] at q'
      rw [if_pos rfl]
      exact wpAny_pure q'
    | false =>
      rw [h2] at q'
      rw [if_neg Bool.false_ne_true]
      exact wpAny_pure q'
  subst e2
  cases h3 : bs.any id with
  | true =>
    rw [if_pos rfl]
    rw [h3] at q
    exact wpAny_pure q
  | false =>
    rw [if_neg Bool.false_ne_true]
    rw [h3] at q
    exact wpAny_pure q

/-- written names of classes -/
inductive NamesAll (env : Env) (mg : Str → Option Value) : List Expr → List Value → Prop
  | nil : NamesAll env mg [] []
  | cons {x : Str} {p : Pos} {c : Value} {es cs} : env.kindOf x = some .globalImplicit → (x == ("__debug__" : Str)) = false → mg x = some c → NamesAll env mg es cs → NamesAll env mg (.Name x p :: es) (c :: cs)
theorem names_run {X : Cx} {pins : List (Addr × Obj)} {σ : L2.St} {H : Hp} {s : Shared} {pos : Pos} {E : Value → Shared → Prop} (I : Inv X pins σ H s) {es : List Expr} {cs : List Value} (hn : NamesAll X.env X.mg es cs) : ∀ {Q : List Value → Shared → Prop}, Q cs s →
    wpAny (model X.prog X.w) X.A (spliced (backTo pos (starEach es X.env))) Q E s := by
  induction hn with
  | nil => exact fun {Q} q => Calls.spliced_nil q
  | cons hg hd hm _ ih => exact fun {Q} q => Calls.spliced_cons (ld_glob I hg hm (ih q) hd)

/-! ### a caught error is kept -/
theorem flying_kept {B : Heap} {l : List Env} {a : Addr} {Z : Obj → Prop} {h h' : Heap} (x : HandSPX.FlyingZ B l a Z h) (k : ∀ b o, h.get? b = some o → h'.get? b = some o) : HandSPX.FlyingZ B l a Z h' := by
  obtain ⟨f1, f2, f3, oe, vs, T, oT, ts, e1, z, d1, v1, nT, ne, e2, d2, t3⟩ := x
  exact ⟨fun b o e => k b o (f1 b o e), f2, f3.of_keeps fun b o e _ => ⟨o, k b o e, rfl⟩, oe, vs, T, oT, ts, k _ _ e1, z, d1, v1, nT, ne, k _ _ e2, d2, t3⟩
theorem excO_ok {P : Program} {w : World} {H : Hp} {h : Heap} {a C : Addr} {dv : Option Addr} {oe : Obj} (e : h.get? a = some oe) (z : Zc (.ref C) dv oe) (d : ∃ vs, oe.data = .fields vs) : ObjOk P w H h a (excO a C dv) := by
  obtain ⟨vs, hd⟩ := d
  exact ⟨⟨oe, vs, e, z, hd⟩, ⟨oe, e⟩, fun h1 h2 ⟨oe, vs, e, z, hd⟩ k => ⟨oe, vs, k _ e, z, hd⟩⟩
section
variable {X : Cx} {pins : List (Addr × Obj)} {σ : L2.St} {H : Hp} {s : Shared} {a C : Addr} {dv : Option Addr} {oe : Obj}
/-- from now on the object at a, a new one of this def's run, is tracked -/
theorem inv_track (I : Inv X pins σ H s) (na : H a = none) (ha : s.heap.get? a = some oe) (n0 : X.s_0.heap.get? a = none) (nL : a ≠ X.env.locals) (nC : ∀ x c, X.env.cells.lookup x = some c → c ≠ a) (nP : ∀ p ∈ X.pn ++ pins, p.1 ≠ a)
    (z : Zc (.ref C) dv oe) (d : ∃ vs, oe.data = .fields vs) : Inv X pins σ (upd H a (excO a C dv)) s := by
  have ne : ∀ {b : Addr} {o : HO}, H b = some o → b ≠ a := fun {b o} e => ne_of_none e na
  have old : ∀ {b : Addr} {o : Obj}, X.s_0.heap.get? b = some o → b ≠ a := fun {b o} e y => by
    rw [y, n0] at e
    cases e
  refine ⟨I.ok, I.os, I.bare, ⟨I.base.keep, I.base.slot, fun b o e n x => ?_, I.base.there, fun b xs e => ?_, fun b o u e => ?_, fun b ps e => ?_⟩, I.loc, I.cell, ?_, fun x c e => ?_, fun p hp => ?_, fun b o e => ?_, I.len⟩
  · rw [upd_ne (old e)]
    exact I.base.free b o e n x
  · have q := I.base.tups b xs e
    rw [upd_ne (ne q)]
    exact q
  · have q := I.base.frzs b o u e
    rw [upd_ne (ne q)]
    exact q
  · obtain ⟨m, q⟩ := I.base.tbls b ps e
    exact ⟨m, by rw [upd_ne (ne q)]; exact q⟩
  · rw [upd_ne (Ne.symm nL)]
    exact I.free
  · rw [upd_ne (nC x c e)]
    exact I.freeC x c e
  · obtain ⟨h1, h2, h3⟩ := I.pin p hp
    exact ⟨h1, by rw [upd_ne (nP p hp)]; exact h2, h3⟩
  · by_cases c : b = a
    · subst c
      rw [upd_same] at e
      cases e
      exact excO_ok ha z d
    · rw [upd_ne c] at e
      refine (I.hok b o e).stay (fun _ _ _ q => q) (fun b2 q => ?_) fun b2 xs q => ?_
      · rw [upd_ne (ne q)]; exact q
      · rw [upd_ne (ne q)]; exact q
end
/-- try: .. except (A, B) as n: y = n; slots i (n's) and j (y's); N: how many slots; cs: the classes that are caught, errs: those of which it is known whether they are -/
def sTry (mg : Str → Option Value) (errs cs : List Str) (N j : Nat) (f : S) : S := fun ss => match f ss with
  | some (.ex c fs) => if errs.contains c then (if cs.contains c then some (.nx ((List.replicate N .gone).set j (.oth (.exc mg c fs)))) else some (.ex c fs)) else none
  | o => o
section
variable {X : Cx} {E : XK}
theorem s_try {errs cs : List Str} {Cs : List Addr} {elts : List Expr} {tk1} {tpos np pos pos' : Pos} {n : Str} {i j : Nat} {b0 : Stmt} {bst : List Stmt} {f : S}
    (hstk : X.stack = X.env :: X.outer) (hloc : X.env.frame = some X.env.locals) (hnd : X.N.Nodup) (hi : X.N[i]? = some n) (hln : X.env.kindOf n = some .local) (hij : i ≠ j) (hj : j < X.N.length)
    (tk : Takes X (fun cls d _ H => E cls d H)) (hex0 : X.ex = []) (hcs : Cs.length ≤ sizeLine) (hnames : NamesAll X.env X.mg elts (Cs.map Value.ref))
    (hex : ∀ c C, errs.contains c = true → X.mg c = some (.ref C) → PySem.W.exmAny X.K (.ref C) (Cs.map Value.ref) = some (cs.contains c))
    (hb : ∀ (E' : XK) (pn : List (Addr × Obj)) (xe : Value → Shared → Prop), Takes (X.tr pn xe) (fun cls d _ H => E' cls d H) → PassesOwn (model X.prog X.w) X.A X.env xe → PSs (X.tr pn xe) bst (tS X.mg E' f))
    (hsu : ∀ (a : Addr) (pn : List (Addr × Obj)), PS (X.suite a pn) b0 (tAsg (tVar i) (gName j))) :
    PS X (.Try bst [.ExceptHandler (some (.Tuple elts tk1 tpos)) (some n) [b0] pos'] [] [] pos) (tS X.mg E (sTry X.mg errs cs X.N.length j f)) := by
  refine ⟨fun pins s0 σ0 H0 D I0 hh => ?_⟩
  obtain ⟨A, B, ss, fp, ok, h⟩ := hh
  have xok := I0.ok
  have frm : X.A.frames = some (X.env :: X.outer) := by rw [xok.frames, hstk]
  -- what is wanted of an error of the body
  let G : Value → Option Addr → L2.St → Hp → Prop := fun cls d σ H => ∃ b C, cls = .ref C ∧ PySem.W.exmAny X.K cls (Cs.map Value.ref) = some b ∧
    (b = true → ∀ a, H a = none → D.nx (((σ.set i (some (.ref a))).set j (some (.ref a))).set i none) (upd H a (excO a C d))) ∧ (b = false → E cls d H)
  let E' : XK := fun cls d H => ∀ σ : L2.St, σ.length = X.N.length → G cls d σ H
  have body : ResS X.mg E' A B fp H0 (f ss) D := by
    unfold sTry at h
    cases q : f ss with
    | none => rw [q] at h; exact h
    | some o =>
      rw [q] at h
      cases o with
      | nx s2 => exact h
      | bk s2 => exact h
      | ct s2 => exact h
      | rt r s2 => exact h
      | ex c fs =>
        dsimp only at h
        by_cases k1 : errs.contains c = true
        · rw [if_pos k1] at h
          intro C dv B2 H2 em g sm xa σ hσ
          refine ⟨cs.contains c, C, rfl, hex c C k1 em, fun hb a na => ?_, fun hb => ?_⟩
          · rw [if_pos hb] at h
            have nb : B2 a = none := sm.free na
            have sm3 : Same (upd B2 a (excO a C dv)) (upd H2 a (excO a C dv)) := (Grow.new (o := excO a C dv) sm na).bh
            have hl3 : (((σ.set i (some (.ref a))).set j (some (.ref a))).set i none).length = X.N.length := by rw [List.length_set, List.length_set, List.length_set]; exact hσ
            have g2 : Gr fp noFp B H0 (upd B2 a (excO a C dv)) (upd H2 a (excO a C dv)) := g.trans (Grow.new sm na).gr
            refine h _ _ _ noFp g2 ⟨sm3, by rw [hl3, List.length_set, List.length_replicate], fun m t et => ?_, fun _ _ _ y => (nomatch y), fun _ _ => rfl, ok.tbUp g2⟩
            by_cases cj : m = j
            · subst cj
              rw [List.getElem?_set_self (by rw [List.length_replicate]; exact hj)] at et
              cases et
              rw [List.getElem?_set_ne hij, List.getElem?_set_self (by rw [List.length_set, hσ]; exact hj)]
              exact ⟨rfl, .ref a, rfl, a, C, dv, rfl, em, upd_same, xa.up (same_new nb)⟩
            · rw [List.getElem?_set_ne (Ne.symm cj), List.getElem?_replicate] at et
              split at et
              · cases et
                exact rfl
              · cases et
          · rw [if_neg (by rw [hb]; exact Bool.false_ne_true)] at h
            exact h C dv B2 H2 em g sm xa
        · rw [if_neg k1] at h
          exact h.elim
  refine wpAny_Try_except ?_
  refine wpAny_mono ((hb E' (X.pn ++ pins) _ (fun u s1 hxe => ?_) PassesOwn.looking).run [] s0 σ0 H0 D (I0.toTry _) ⟨A, B, ss, fp, ok, body⟩) (fun fl s1 q1 => ?_) fun e s1 q1 => q1
  · -- an error is in the air
    obtain ⟨a, gr, sI, pins2, σ1, H1, cls, d, rfl, JI, keepG, up1, sky, na, os1, bare1, wish⟩ := hxe
    have JX : Inv X pins σ1 H1 sI := JI.ofTry xok
    obtain ⟨b, C, ecls, hm, yes, no⟩ := wish σ1 JX.len
    have sky2 : Sky gr (X.env :: X.outer) a (Zc cls d) X.env.locals s1.heap := by rw [← hstk]; exact sky
    show wpAny (model X.prog X.w) X.A (noteFrame (.ref a) X.env) _ _ _
    refine Sky.land Zc.steady frm hloc sky2 fun hA flA upA => ?_
    have JA : Inv X pins σ1 H1 { s1 with heap := hA } := JX.landed keepG flA.1 (up1.trans upA) os1 bare1
    obtain ⟨oA, vA, eA, zA, dA⟩ := flA.there
    -- where it does not stand
    have offFr : a ∉ frs (X.env :: X.outer) := fun hmem => by
      obtain ⟨_, o2, e2, hnf⟩ := flA.2.2.1.mem hmem
      rw [eA] at e2
      cases e2
      exact hnf _ dA
    have offL : a ≠ X.env.locals := fun y => offFr (List.mem_filterMap.mpr ⟨X.env, List.mem_cons_self, by rw [hloc, y]⟩)
    have offF : a ∉ X.fs := fun hmem => by
      obtain ⟨e, he, q⟩ := List.mem_filterMap.mp hmem
      exact offFr (List.mem_filterMap.mpr ⟨e, List.mem_cons_of_mem _ he, q⟩)
    have offI : sI.heap.get? a = none := by
      cases q : sI.heap.get? a with
      | none => rfl
      | some o =>
        have y := keepG a o q (by rw [hstk]; exact offFr)
        rw [flA.2.1] at y
        cases y
    have off0 : X.s_0.heap.get? a = none := by
      cases q : X.s_0.heap.get? a with
      | none => rfl
      | some o =>
        obtain ⟨o2, e2⟩ := JX.base.there a o q (by rw [hex0]; exact List.not_mem_nil)
        rw [offI] at e2
        cases e2
    have offC : ∀ x c, X.env.cells.lookup x = some c → c ≠ a := fun x c e y => by
      obtain ⟨v, o, e2, _⟩ := JX.cell x c e
      rw [y, offI] at e2
      cases e2
    have offP : ∀ p ∈ X.pn ++ pins, p.1 ≠ a := fun p hp y => by
      have e2 := (JX.pin p hp).1
      rw [y, offI] at e2
      cases e2
    have SA := JA.suite eA dA na offL offF
    refine wpAny_handleBy_cons (codeAny_handlers_test ?_) (by intro q; cases q)
    refine wpAny_Tuple_spliced (names_run (X := X.suite a ((a, oA) :: (X.pn ++ pins))) SA hnames ⟨by rw [List.length_map]; exact hcs, ?_⟩)
    have kA : ∀ b o, hA.get? b = some o → (hA.push { cls := .type "tuple", data := .seq (Cs.map Value.ref).toArray }).get? b = some o := fun b o e => Heap.get?_push_of_some _ e
    have eT : (hA.push { cls := .type "tuple", data := .seq (Cs.map Value.ref).toArray }).get? hA.objs.size = some { cls := .type "tuple", data := .seq (Cs.map Value.ref).toArray } := Heap.get?_push_size _ rfl
    generalize hpush : hA.push { cls := .type "tuple", data := .seq (Cs.map Value.ref).toArray } = hB at kA eT
    have flB := flying_kept flA kA
    have upB : hA.UpToSlots hB := fun b o e _ => ⟨o.slots, kA b o e⟩
    have JB : Inv X pins σ1 H1 { s1 with heap := hB } := JX.landed keepG flB.1 ((up1.trans upA).trans upB) os1 bare1
    have LT : PySem.W.Looks (model X.prog X.w) hB (typeOf (.ref a)) cls := fun A Q E s k q => wpAny_typeOf_ref (k _ _ (kA _ _ eA)) (by rw [zA.1]; exact q)
    refine (exm_tuple (K := X.K) (JB.kIn) LT eT hm).here ?_
    cases b with
    | true =>
      refine codeAny_handlers_suite_as ?_
      refine HandSPX.lands_againZ flB fun hD flD upD => ?_
      have JD : Inv X pins σ1 H1 { s1 with heap := hD } := JX.landed keepG flD.1 (((up1.trans upA).trans upB).trans upD) os1 bare1
      obtain ⟨oD, vD, eD, zD, dD⟩ := flD.there
      have SD := JD.suite eD dD na offL offF
      refine store_ok (X := X.suite a ((a, oD) :: (X.pn ++ pins))) (v := .ref a) SD hnd hi (.inl hln) rfl (fun s5 S5 => ?_) (.inr hln)
      have hiσ : i < σ1.length := by rw [JX.len]; exact (List.getElem?_eq_some_iff.mp hi).1
      have wish2 := yes rfl a na
      refine wpAny_mono ((pss_cons (hsu a ((a, oD) :: (X.pn ++ pins))) pss_nil).run [] s5 _ H1 { nx := fun σ H => σ = (σ1.set i (some (.ref a))).set j (some (.ref a)) ∧ H = H1, rt := fun _ _ => False } S5 ⟨.ref a, List.getElem?_set_self hiσ, rfl, rfl⟩) (fun fl s6 q6 => ?_) (fun _ _ z => False.elim z)
      cases fl with
      | next =>
        obtain ⟨σ6, H6, S6, rfl, rfl⟩ := q6
        have all6 : ∀ p ∈ X.pn ++ ((a, oD) :: pins), p ∈ ((a, oD) :: (X.pn ++ pins)) ++ [] := fun p hp => by
          rw [List.append_nil]
          rcases List.mem_append.mp hp with z | z
          · exact List.mem_cons_of_mem _ (List.mem_append_left _ z)
          · rcases List.mem_cons.mp z with z | z
            · rw [z]
              exact List.mem_cons_self
            · exact List.mem_cons_of_mem _ (List.mem_append_right _ z)
        have J6 : Inv X ((a, oD) :: pins) _ _ s6 := ⟨xok, S6.os, S6.bare, S6.base, S6.loc, S6.cell, S6.free, S6.freeC, fun p hp => S6.pin p (all6 p hp), S6.hok, S6.len⟩
        refine gone_ok J6 hnd hi hln fun s7 J7 => ?_
        have e7 : s7.heap.get? a = some oD := (J7.pin (a, oD) (List.mem_append_right _ List.mem_cons_self)).1
        have J8 : Inv X pins _ _ s7 := ⟨xok, J7.os, J7.bare, J7.base, J7.loc, J7.cell, J7.free, J7.freeC, fun p hp => J7.pin p (by
          rcases List.mem_append.mp hp with z | z
          · exact List.mem_append_left _ z
          · exact List.mem_append_right _ (List.mem_cons_of_mem _ z)), J7.hok, J7.len⟩
        exact ⟨_, _, inv_track (d := ⟨_, dD⟩) (z := by rw [ecls] at zD; exact zD) J8 na e7 off0 offL offC offP, wish2⟩
      | brk =>
        obtain ⟨_, _, _, q⟩ := q6
        exact q.elim
      | cont =>
        obtain ⟨_, _, _, q⟩ := q6
        exact q.elim
      | ret u =>
        obtain ⟨_, _, _, _, _, q⟩ := q6
        exact q.elim
    | false =>
      show wpAny _ X.A (handleBy (.ref a) X.env []) _ _ _
      refine wpAny_handleBy_nil ?_
      obtain ⟨k1, k2, k3, oe, vs, T, oT, ts', he, hz, hd, h1, hr⟩ := id flB
      unfold PySem.passOn
      refine wpAny_bind (wpAny_field he hd h1 ?_)
      have nT : ¬ ((Value.ref T == Value.none) = true) := by simp
      rw [if_neg nT]
      have out : wpAny (model X.prog X.w) X.A (setFlight (.ref a) X.env.frame) (fun _ s4 => wpAny (model X.prog X.w) X.A (throw (.ref a) : Sem Flow) (SP X pins D) X.xe s4) X.xe { s1 with heap := hB } := by
        rw [hloc]
        refine HandSPX.setFlight_upZ flB fun h4 hh4 up4 => wpAny_throw (tk _ _ ?_)
        exact ⟨a, gr, sI, pins, σ1, H1, cls, d, rfl, JX, keepG, ((up1.trans upA).trans upB).trans up4, .inr (.inr (by rw [hstk]; exact hh4)), na, os1, bare1, no rfl⟩
      first
        | exact wpAny_bind (wpAny_pure (wpAny_bind out))
        | exact wpAny_bind out
  · cases fl with
    | next =>
      obtain ⟨σ', H', J', q⟩ := q1
      exact wpAny_execs_nil ⟨σ', H', J'.ofTry xok, q⟩
    | brk =>
      obtain ⟨σ', H', J', q⟩ := q1
      exact ⟨σ', H', J'.ofTry xok, q⟩
    | cont =>
      obtain ⟨σ', H', J', q⟩ := q1
      exact ⟨σ', H', J'.ofTry xok, q⟩
    | ret u =>
      obtain ⟨v, σ', H', J', r, q⟩ := q1
      exact ⟨v, σ', H', J'.ofTry xok, r, q⟩
end
end Cm

/-! Mirrors: an error of one's own is made, raised; what is asked of it when it was caught. -/
namespace Cm
open PySem PySem.Spec PyProof.Rows L2 Cf
variable [LT]

/-! ### {x} of a number or None -/
section
variable {X : Cx}
def tFmtN (te : TE) : TE := fun σ H Q => te σ H fun x H1 => (x = .non ∧ Q (.str "None") H1) ∨ ∃ i : Int, x = .int i ∧ i.natAbs.log2 < 1920 ∧ Q (.str (toString i)) H1
theorem pe_fmtN {e : Expr} {te : TE} {pos : Pos} (he : PE X e te) : PE X (.FormattedValue e (-1) none pos) (tFmtN te) := by
  refine ⟨fun pins s σ H Q I h => ?_⟩
  refine wpAny_FormattedValue_plain (thn (he.run pins s σ H _ I h) fun v s1 hv => ?_)
  obtain ⟨x, H1, I1, r1, q⟩ := hv
  rcases q with ⟨rfl, q⟩ | ⟨i, rfl, hz, q⟩
  · cases r1
    exact wpAny_formatField_none ⟨.str "None", H1, I1.tok _, ⟨_, rfl⟩, q⟩
  · obtain ⟨t, rfl⟩ := r1
    exact wpAny_formatField_int hz ⟨.str (toString i), H1, I1.tok _, ⟨_, rfl⟩, q⟩
end

/-! ### C(x), C an own class of errors -/
/-- what a class of errors with one field is, as the written part has it -/
def oexB (C : Addr) (cd : ClassData) (sl : Array (Option Value)) : Bool := match cd.mro, sl.toList with
  | .ref C' :: bm, [_, _, _, _, some (.builtin n), _] => C' == C && (cd.hasDict && !cd.hasDel) && (PySem.HandSPX.refsVE bm && n == "ValueError.__new__")
  | _, _ => false
theorem oexC_mk {K : PySem.W.Frag} {C : Addr} {dd : Option Addr} {cd : ClassData} {sl : Array (Option Value)} (lk : K.lookup C = some ⟨.type "type", dd, .cls cd, sl⟩) (q : oexB C cd sl = true)
    (sa : PySem.W.findIn K (.ref C) "__setattr__" = some (some (.builtin "object.__setattr__"))) (ex : PySem.W.subIn K (.ref C) (.type "BaseException") = some true) (ty : PySem.W.typeIn K (.ref C) = some (.type "type")) (kp : PySem.W.keepIn K (.ref C) = true) : OexC K C := by
  refine ⟨?_, sa, ex, ty, kp⟩
  unfold oexB at q
  split at q
  · rename_i C' bm k0 k1 k2 k3 n k5 hm hs
    simp only [Bool.and_eq_true, beq_iff_eq, Bool.not_eq_true'] at q
    obtain ⟨⟨rfl, hd, hdel⟩, hv, rfl⟩ := q
    obtain ⟨nm, bs, mro, ns, qn, hdd, sn, sub, ab, col, del⟩ := cd
    dsimp only at hm hdel hd
    subst hm hdel hd
    have hsl : sl = #[k0, k1, k2, k3, some (.builtin "ValueError.__new__"), k5] := by
      obtain ⟨l⟩ := sl
      simp only at hs
      rw [hs]
    subst hsl
    exact ⟨nm, qn, ns, bs, bm, sn, sub, ab, col, dd, k0, k1, k2, k3, k5, lk, hv⟩
  · cases q
/-- __init__(self, x) that keeps x as the field f -/
def spI (C : Addr) (f : Str) (okx : V → Prop) : Sp := fun vs H Q E => ∃ a y, vs = [.ref a, y] ∧ okx y ∧ H a = some (exo a C none) ∧ ∀ dx, H dx = none → dx ≠ a → Q .non (upd (upd H dx (exd dx [(f, y)])) a (exo a C (some dx)))
/-- all that is known of an own class of errors with one field -/
structure ErrC (P : Program) (w : World) (K : PySem.W.Frag) (mg : Str → Option Value) (base : Heap) (c f : Str) (okx : V → Prop) (C : Addr) : Prop where
  ox : OexC K C
  xf : XfC K C
  no : PySem.W.findIn K (.ref C) f = some none
  is : ExcC K C
  ini : ∃ (fI : Addr) (fd : FuncData), PySem.W.findIn K (.ref C) "__init__" = some (some (.ref fI)) ∧ PySem.W.typeIn K (.ref fI) = some (.type "function") ∧ FnOk P w K mg base C8.CX0 1 fI fd ["self", f] (spI C f okx) ∧ Binds K fd ["self", f] []
  nm : mg c = some (.ref C)
section
variable {P : Program} {w : World} {K : PySem.W.Frag} {mg : Str → Option Value} {base : Heap} {c f q : Str} {okx : V → Prop} {C fI : Addr} {fd : FuncData} {st : Stmt} {N : List Str}
abbrev tInit (K : PySem.W.Frag) (f : Str) (te : TE) : TS := tSeq (tDrop (tVeI K (tCons (tVar 0) (tCons te tNil)))) (tOst K f (tVar 0) (tVar 1))
/-- __init__ with any text -/
theorem init_ok {te : TE} (F : C8.Fun K "__init__" q st fI fd) (S : FnScope N ["self", f] (C8.fnScope st)) (ox : OexC K C) (no : PySem.W.findIn K (.ref C) f = some none)
    (hx : ∀ (X : Cx), X.K = K → X.N = N → X.env.scope = C8.fnScope st → X.mg = mg → PSs X (C8.fnBody st) (tInit K f te))
    (ht : ∀ a y, okx y → ∀ σ H, σ[0]? = some (some (.ref a)) → σ[1]? = some (some y) → ∀ Q : VK, (∀ z : Str, Q (.str z) H) → te σ H Q) :
    FnOk P w K mg base C8.CX0 1 fI fd ["self", f] (spI C f okx) := by
  refine C8.fn0 F S (fun vs H Q E ⟨a, y, e, _⟩ => by rw [e]; rfl) fun cdv A outer s H vs Q E hr ⟨a, y, e, hy, ha, hq⟩ => ?_
  subst e
  refine ⟨_, hx _ rfl rfl rfl rfl, ?_⟩
  have s0 : (L2.start N [V.ref a, y])[0]? = some (some (.ref a)) := rfl
  have s1 : (L2.start N [V.ref a, y])[1]? = some (some y) := rfl
  refine ⟨_, s0, ht a y hy _ _ s0 s1 _ fun z => ⟨a, C, [.str z], rfl, by show 1 ≤ 1000; decide, ox, ha, ?_⟩⟩
  exact ⟨y, s1, .ref a, s0, a, C, rfl, ox, no, .inl ⟨ha, fun dx n ne => hq dx n ne⟩⟩
end

/-! ### raise -/
def sRaise (c f : Str) (okd : PyData → Bool) (m : M PyData) : S := eseq m fun d _ => if okd d then some (.ex c [(f, d)]) else none
section
variable {X : Cx} {E : XK} {c f : Str} {okx : V → Prop} {C : Addr} {e : Expr} {m : M PyData} {p p2 p3 : Pos} {okd : PyData → Bool} {lev : Nat}
theorem s_raise (T : ErrC X.prog X.w X.K X.mg X.base c f okx C) (hk : ∀ B v d, At B v d → okd d = true → okx v) (hr : Room (lev + 2) X.A) (tk : Takes X (fun cls d _ H => E cls d H)) (hg : Gl X c) (hp : Passes C8.CX0 X (fun _ _ _ => False)) (he : PE X e (tM X.mg E m)) (hc : X.calm = true := by rfl) (hdb : (c == ("__debug__" : Str)) = false := by decide)
    (hs : starEach [e] X.env = (false, eval e X.env) :: starEach [] X.env := by rfl) :
    PS X (.Raise (some (.Call (.Name c p) [e] [] p2)) none p3) (tS X.mg E (sRaise c f okd m)) := by
  obtain ⟨fI, fd, iC, tI, F1, bI⟩ := T.ini
  refine PS.imp (ps_raise hc tk (pmk_oex T.ox iC tI F1 (hr.mono (by omega)) bI .nil hp hg T.nm (pa_cons he pa_nil hs) hdb hs rfl)) fun D σ H ⟨A, B, ss, fp, ok, h⟩ => ?_
  have h : ResS X.mg E A B fp H (eseq m _ ss) D := h
  refine ⟨A, B, ss, fp, ok, ?_⟩
  unfold eseq at h
  cases q : m ss with
  | none => rw [q] at h; exact h
  | some r =>
    rw [q] at h
    cases r with
    | exc c' fs => exact h
    | val d s2 =>
      dsimp only at h
      by_cases k : okd d = true
      · rw [if_pos k] at h
        intro v B2 H2 fp2 g ok2 a2
        refine ⟨by show 1 ≤ 1000; decide, fun a na => ⟨a, v, rfl, hk _ _ _ a2 k, upd_same, fun dx ndx ne => ?_⟩⟩
        have nd : H2 dx = none := by rw [upd_ne ne] at ndx; exact ndx
        refine ⟨rfl, dx, [(f, v)], upd_same, by rw [upd_ne ne, upd_same], nd, ?_⟩
        have eH : upd (del (upd (upd (upd H2 a (exo a C none)) dx (exd dx [(f, v)])) a (exo a C (some dx))) a) dx (.xd [(f, v)]) = upd H2 dx (.xd [(f, v)]) := by
          funext b
          by_cases e1 : b = dx
          · rw [e1, upd_same, upd_same]
          · rw [upd_ne e1, upd_ne e1]
            by_cases e2 : b = a
            · rw [e2, del_same, na]
            · rw [del_ne e2, upd_ne e2, upd_ne e1, upd_ne e2]
        rw [eH]
        have gN := Grow.new (o := .xd [(f, v)]) ok2.sm nd
        have g0 : Gr fp2 noFp (upd B2 dx (.xd [(f, v)])) (upd H2 dx (.xd [(f, v)])) (upd B2 dx (.xd [(f, v)])) (upd H2 dx (.xd [(f, v)])) := gr_id fun i b e => nomatch e
        exact h C (some dx) _ _ T.nm ((g.trans gN.gr).trans g0) gN.bh ⟨[(f, v)], upd_same, .cons (a2.up gN.bb) .nil⟩
      · rw [if_neg k] at h
        exact h.elim
end

/-! ### what is asked of a caught error -/
/-- x is None -/
def mIsNE (i : Nat) : M PyData := fun ss => match ss[i]? with
  | some (.dat d) => some (.val (.bool (isNone d)) ss)
  | some (.oth (.exc _ _ _)) => some (.val (.bool false) ss)
  | _ => none
/-- isinstance(x, T); g: of which class of errors is it so -/
noncomputable def mIsE (mg : Str → Option Value) (i : Nat) (g : Str → Option Bool) : M PyData := open Classical in fun ss => match ss[i]? with
  | some (.oth (.exc mg' c _)) => if mg' = mg then M.lift ((g c).map .bool) ss else none
  | _ => none
/-- x.f; ok: the classes that are known -/
noncomputable def mFldE (mg : Str → Option Value) (i : Nat) (f : Str) (ok : Str → Bool) : M PyData := open Classical in fun ss => match ss[i]? with
  | some (.oth (.exc mg' c fs)) => if mg' = mg then M.lift (if ok c then fs.lookup f else none) ss else none
  | _ => none
section
variable {X : Cx} {E : XK} {e e2 : Expr} {i : Nat} {p pos p2 : Pos} {n : Str}
theorem m_isNE (hv : PE X (.Name n p) (tVar i)) : PE X (.Compare (.Name n p) [.Is] [.Constant .none 0 p2] pos) (tM X.mg E (mIsNE i)) := by
  refine PE.imp (pe_cmpR op_isN hv pe_non (by rfl)) fun σ H Q ⟨A, B, ss, fp, ok, h⟩ => ?_
  unfold mIsNE at h
  split at h
  · rename_i d ed
    obtain ⟨x, ex, a⟩ := ok.dat ed
    refine ⟨x, ex, rfl, ?_⟩
    rw [isNone_at a]
    exact h.now ok _ (.bl _)
  · rename_i mg' c fs ed
    obtain ⟨x, ex, a, C, dv, rfl, _⟩ := ok.oth ed
    exact ⟨_, ex, rfl, h.now ok _ (.bl _)⟩
  · exact h.elim
theorem excO_at {P : Program} {w : World} {H : Hp} {h : Heap} {a C : Addr} {dv : Option Addr} (hok : HOk P w H h) (e : H a = some (excO a C dv)) : ∃ oe vs, h.get? a = some oe ∧ Zc (.ref C) dv oe ∧ oe.data = .fields vs := (hok a _ e).1
section
variable {prog : Program} {w : World} {A : Around} {F : Value → Shared → Prop} {z : Shared} {K : PySem.W.Frag} {a D : Addr} {oa : Obj} {od : Option Obj}
/-- e.__class__ of an error with or without fields -/
theorem err_class {Q : Option Value → Shared → Prop} (T : ExcC K D) (k : K.In z.heap) (J : PySem.W.InstAt z.heap a oa D od) (q : Q (some (.ref D)) { z with toks := z.toks + 1 }) : wpAny (model prog w) A (getAttr? (.ref a) "__class__") Q F z := by
  have isc : (PySem.W.clsIn K D).isSome = true := by
    obtain ⟨cd, e, _⟩ := PySem.W.any_some T.hd
    rw [e]
    rfl
  have fnd : PySem.W.findObj K D od "__class__" = some (.bind (.builtin "getset_descriptor.__get__") (.builtin "object.__class__")) := by
    cases od with
    | none => exact PySem.W.findObj_dataN isc T.ha T.hn T.ht
    | some o => exact PySem.W.findObj_data isc T.ha T.hn T.ht
  have tyA := J.type (M := model prog w)
  have atA := PySem.W.looks_find (M := model prog w) k J fnd
  have base : PySem.W.Looks (model prog w) z.heap (isInstance (.ref a) (.type "BaseException")) true := tyA.andThen (PySem.W.looks_subIn k T.hs)
  have one := PySem.W.looks_findIn (M := model prog w) k T.hg
  have two := PySem.W.looks_findIn (M := model prog w) k T.hk
  have notO : (onTheHeap (Value.ref D) && (Value.builtin "BaseException.__getattribute__" == Value.builtin "object.__getattribute__")) = false := by
    rw [show (Value.builtin "BaseException.__getattribute__" == Value.builtin "object.__getattribute__") = false by decide +kernel]
    rfl
  have notH : (false && onTheHeap (Value.builtin "BaseException.__getattribute__")) = false := rfl
  have inst : PySem.W.InstAt z.heap a oa D od := J
  revert q
  rcases z with ⟨hh, gg, dd, tt, oo⟩
  intro q
  unfold getAttr? getAttrBy? getAttrBy
  refine wpAny_bind (wpAny_mkText (wpAny_bind (wpAny_attempt (wpAny_holding (wpAny_bind (tyA.at (wpAny_bind (one.at ?_))))))))
  have step : ∀ {α : Type} {m1 m2 : Sem α} {R : α → Shared → Prop} {G : Value → Shared → Prop} {s : Shared}, wpAny (model prog w) A m2 R G s → wpAny (model prog w) A (if (onTheHeap (Value.ref D) && (Value.builtin "BaseException.__getattribute__" == Value.builtin "object.__getattribute__")) = true then m1 else m2) R G s := fun h => by
    rw [if_neg (by rw [notO]; exact Bool.false_ne_true)]
    exact h
  refine step ?_
  unfold getAttrByItsOwn hookBefore
  refine wpAny_bind ?_
  rw [if_pos (by rfl : onTheHeap (Value.ref D) = true)]
  refine two.at (wpAny_bind (wpAny_attempt (wpAny_holding ?_)))
  unfold callGetattribute
  rw [notH, if_neg Bool.false_ne_true]
  unfold boundAndCalled
  rw [PySem.F.excAttr_ValueError.ga.bind (.ref a)]
  refine wpAny_bind (wpAny_pure (wpAny_call (codeAny_call_builtin PySem.F.excAttr_ValueError.ga.plain PySem.F.entry_bexc_ga ?_)))
  refine @PySem.W.check_slot (model prog w) _ _ ⟨hh, gg, dd, tt + 1, oo⟩ "BaseException.__getattribute__" "BaseException" "__getattribute__" (.ref a) [.str "__class__" tt] [] _ (by decide +kernel) (by decide +kernel) base (PySem.F.args_bexc_ga _ _) ?_
  unfold Builtin.«object.__getattribute__»
  refine wpAny_bind (wpAny_of_eq (a := ((Value.ref a : Value), [Value.str "__class__" tt])) (by first | rfl | (simp only [slotArgs]; rfl)) (wpAny_bind (wpAny_pure (wpAny_bind (tyA.at (wpAny_bind (atA.at ?_)))))))
  refine wpAny_bind (wpAny_holding (wpAny_call (PySem.W.class_get (s := ⟨hh, gg, dd, tt + 1, oo⟩) k inst T.hm (wpAny_pure ?_))))
  show wpAny (model prog w) A (handedOut (.ref D)) _ _ _
  rw [PySem.W.handedOut_of (v := .ref D) rfl]
  first
    | exact wpAny_pure q
    | exact wpAny_pure (wpAny_pure q)
    | exact wpAny_pure (wpAny_bind (wpAny_pure (wpAny_pure q)))
theorem err_kit (T : ExcC K D) : PySem.W.KitX K (.ref a) (.ref D) fun h => PySem.W.InstAt h a oa D od := by
  obtain ⟨cd, ec, _⟩ := PySem.W.any_some T.hd
  have cls : ∀ {h : Heap}, K.In h → ∃ o, h.get? D = some o ∧ ∃ c, o.data = .cls c := fun {h} k => by
    unfold PySem.W.clsIn at ec
    split at ec
    · rename_i c d cd' sl lk
      exact ⟨_, k _ _ lk, cd', rfl⟩
    · cases ec
  refine ⟨fun M h _ J => J.type, fun M h k J A R G z kp q => ?_, fun h tp dd its n sl k ht => ?_, fun {prog w A G Q z} k J q => err_class T k J q⟩
  · obtain ⟨o, e, c, ed⟩ := cls k
    unfold isType loadHead
    refine wpAny_bind (wpAny_loadPart (kp _ _ e) ?_)
    obtain ⟨oc, od', oda, osl⟩ := o
    dsimp only at ed
    subst ed
    exact wpAny_pure q
  · obtain ⟨o, e, c, ed⟩ := cls k
    refine Bool.eq_false_iff.mpr fun q => ?_
    have e2 : D = tp := Value.ref.inj (beq_iff_eq.mp q)
    rw [e2, ht] at e
    cases e
    cases ed
end
theorem inst_of {P : Program} {w : World} {H : Hp} {h : Heap} {a C : Addr} {dv : Option Addr} {B : Hp} {fs : List (Str × PyData)} (hok : HOk P w H h) (ha : H a = some (excO a C dv)) (sm : Same B H) (hf : ExAt B dv fs) : ∃ oe od, PySem.W.InstAt h a oe C od := by
  obtain ⟨oe, vs, hget, hz, hv⟩ := excO_at hok ha
  have nc : PySem.W.notCls oe = true := by
    unfold PySem.W.notCls
    rw [hv]
  cases dv with
  | none => exact ⟨oe, none, hget, hz.1, nc, by rw [hz.2]; trivial⟩
  | some dd =>
    obtain ⟨xs, e, _⟩ := hf
    obtain ⟨mA, hns, hr⟩ := (show ObjOk P w H h dd (.xd xs) from hok dd _ (sm _ _ e))
    obtain ⟨od, ho, hl⟩ := lookIn_ns hns
    exact ⟨oe, some od, hget, hz.1, nc, by rw [hz.2]; exact ho⟩
/-- isinstance of a kept error -/
def rIsK (K : PySem.W.Frag) : List V → Hp → VK → Prop := fun xs H Q => ∃ (a C : Addr) (dv : Option Addr) (B : Hp) (fs : List (Str × PyData)) (c : V) (cv : Value) (b : Bool), xs = [.ref a, c] ∧ H a = some (excO a C dv) ∧ Same B H ∧ ExAt B dv fs ∧ ExcC K C ∧ (∀ u, RelV c u → u = cv) ∧ PySem.W.kitOne K (.ref C) cv = some b ∧ Q (.bl b) H
theorem call_isK : CallR X (.builtin "isinstance") (rIsK X.K) := by
  intro pins s σ H xs us Q I r h
  obtain ⟨a, C, dv, B, fs, c, cv, b, rfl, ha, sm, hf, T, hcv, e, q⟩ := h
  cases r with
  | cons rx rr =>
    cases rr with
    | cons rt rr =>
      cases rr
      cases rx
      have ec := hcv _ rt
      subst ec
      obtain ⟨oe, od, J⟩ := inst_of I.hok ha sm hf
      exact PySem.W.kia_one (err_kit T) I.kIn J e (fun z => nomatch z) fun tk => ⟨.bl b, H, I.kept (t' := tk) fun _ _ z => z, rfl, q⟩
theorem AtF.look {H : Hp} : ∀ {vs : List (Str × V)} {ds : List (Str × PyData)} {f : Str} {d : PyData}, AtF H vs ds → ds.lookup f = some d → ∃ v, vs.lookup f = some v ∧ At H v d
  | _, _, f, d, .nil, e => by cases e
  | (g, v) :: vs, (_, d') :: ds, f, d, .cons a r, e => by
    rw [List.lookup_cons] at e ⊢
    split at e
    · cases e
      exact ⟨v, rfl, a⟩
    · exact AtF.look r e
theorem m_isE {K : PySem.W.Frag} {g : Str → Option Bool} {c : V} {cv : Value} (ek : X.K = K) (hc : ∀ u, RelV c u → u = cv) (hT : ∀ n C b, g n = some b → X.mg n = some (.ref C) → ExcC X.K C ∧ PySem.W.kitOne X.K (.ref C) cv = some b)
    (h : PE X e (tCB (rIsK K) (tCons (tVar i) (tCons (tC c) tNil)))) : PE X e (tM X.mg E (mIsE X.mg i g)) := by
  subst ek
  refine PE.imp h fun σ H Q ⟨A, B, ss, fp, ok, h⟩ => ?_
  unfold mIsE at h
  split at h
  · rename_i mg' n fs ed
    split at h
    · rename_i em
      subst em
      obtain ⟨x, ex, a, C, dv, rfl, mC, hB, hf⟩ := ok.oth ed
      obtain ⟨b, eb, h2⟩ := lift_some h
      cases q : g n with
      | none => rw [q] at eb; cases eb
      | some b' =>
        rw [q] at eb
        cases eb
        obtain ⟨T, hk⟩ := hT n C b' q mC
        exact ⟨_, ex, a, C, dv, B, fs, c, cv, b', rfl, ok.sm _ _ hB, ok.sm, hf, T, hc, hk, h2.now ok _ (.bl _)⟩
    · exact h.elim
  · exact h.elim
theorem m_fldE {f : Str} {okc : Str → Bool} (hT : ∀ n C, okc n = true → X.mg n = some (.ref C) → XfC X.K C ∧ PySem.W.findIn X.K (.ref C) f = some none) (hv : PE X e (tVar i)) (hb : attributeBase e f X.env (eval e X.env) = eval e X.env := by rfl) :
    PE X (.Attribute e f pos) (tM X.mg E (mFldE X.mg i f okc)) := by
  refine ⟨fun pins s σ H Q I ⟨A, B, ss, fp, ok, h⟩ => ?_⟩
  unfold mFldE at h
  split at h
  · rename_i mg' n fs ed
    split at h
    · rename_i em
      subst em
      obtain ⟨x, ex, a, C, dv, rfl, mC, hB, hf⟩ := ok.oth ed
      obtain ⟨d, e1, h2⟩ := lift_some h
      split at e1
      · rename_i kc
        obtain ⟨T, hno⟩ := hT n C kc mC
        refine attr_of hb (thn (hv.run pins s σ H (fun v H1 => v = .ref a ∧ H1 = H) I ⟨_, ex, rfl, rfl⟩) fun u s1 ⟨v, H1, I1, rx, ev, eH⟩ => ?_)
        subst ev
        subst eH
        obtain rfl : u = Value.ref a := rx
        obtain ⟨oe, vs, hget, hz, hvs⟩ := excO_at I1.hok (ok.sm _ _ hB)
        cases dv with
        | none =>
          have hf : fs = [] := hf
          rw [hf] at e1
          cases e1
        | some dd =>
          obtain ⟨xs, hx, af⟩ := hf
          obtain ⟨v, lv, av⟩ := af.look e1
          obtain ⟨mA, hns, hr⟩ := (show ObjOk X.prog X.w H1 s1.heap dd (.xd xs) from I1.hok dd _ (ok.sm _ _ hx))
          obtain ⟨od, ho, hl⟩ := lookIn_ns hns
          obtain ⟨w, hw, rw'⟩ := RelO.some_of (v := v) (o := mA f) (by rw [← lv]; exact hr f)
          have J : PySem.W.InstAt s1.heap a oe C (some od) := ⟨hget, hz.1, by unfold PySem.W.notCls; rw [hvs], by rw [hz.2]; exact ho⟩
          exact HandSPX.exc_get I1.kIn J T.ga T.gg T.exC (PySem.W.findObj_own T.hdC hno rfl (by rw [hl, hw])) (handed_of rw') ⟨v, H1, I1.tok _, rw', h2.now ok v av⟩
      · cases e1
    · exact h.elim
  · exact h.elim
end
end Cm

/-! Mirrors: comprehensions with two clauses. -/
namespace Cm
open PySem PySem.Spec PyProof.Rows L2 Cf
variable [LT]
/-- the inner clause: what is gathered, and the slots -/
def lc2In (vs : List Nat) (b : PyData → List SV → Option (List SV)) (t : M Bool) (f : M PyData) : List PyData → List PyData → List SV → Option (List PyData × List SV)
  | [], acc, ss => some (acc, ss)
  | d :: ds, acc, ss => match b d ss with
    | none => none
    | some s1 => match t s1 with
      | some (.val true s2) => match f s2 with
        | some (.val y s3) => if few acc.length then lc2In vs b t f ds (acc ++ [y]) (wipeS s3 vs) else none
        | _ => none
      | some (.val false s2) => lc2In vs b t f ds acc (wipeS s2 vs)
      | _ => none
def lc2Go (vs vs1 : List Nat) (b : PyData → List SV → Option (List SV)) (t : M Bool) (it1 : M (List PyData)) (b1 : PyData → List SV → Option (List SV)) (t1 : M Bool) (f : M PyData) : List PyData → List PyData → List SV → Option (R SV)
  | [], acc, ss => some (.val (.own none acc) ss)
  | d :: ds, acc, ss => match b d ss with
    | none => none
    | some s1 => match t s1 with
      | some (.val true s2) => match it1 s2 with
        | some (.val ds1 s3) => match lc2In vs1 b1 t1 f ds1 acc (wipeS s3 vs1) with
          | some (acc2, s4) => lc2Go vs vs1 b t it1 b1 t1 f ds acc2 (wipeS s4 vs)
          | none => none
        | _ => none
      | some (.val false s2) => lc2Go vs vs1 b t it1 b1 t1 f ds acc (wipeS s2 vs)
      | _ => none
def mLc2 (vs vs1 : List Nat) (it : M (List PyData)) (b : PyData → List SV → Option (List SV)) (t : M Bool) (it1 : M (List PyData)) (b1 : PyData → List SV → Option (List SV)) (t1 : M Bool) (f : M PyData) : M SV := M.bind it fun ds ss => lc2Go vs vs1 b t it1 b1 t1 f ds [] (wipeS ss vs)
theorem wipe_sub {vs us : List Nat} {σ : L2.St} (h : ∀ u ∈ us, u ∈ vs) : L2.wipe (L2.wipe σ us) vs = L2.wipe σ vs := by
  induction us with
  | nil => rfl
  | cons u us ih =>
    show L2.wipe ((L2.wipe σ us).set u none) vs = _
    rw [wipe_set (h u List.mem_cons_self)]
    exact ih fun x hx => h x (List.mem_cons_of_mem _ hx)
/-- a list that is being made at D, beside all else -/
structure LcS (A : List V) (fp1 : Nat → Option Addr) (B1 H1 : Hp) (D : Addr) (σ : L2.St) (ss : List SV) (fp : Nat → Option Addr) (B H : Hp) (acc : List PyData) (xs : List V) : Prop where
  bb : Same B1 B
  ok : Ok A B H σ ss fp
  gr : Gr fp1 fp B1 H1 B H
  hx : H D = some (.lst xs)
  hb : B D = none
  hf : ∀ j, fp j ≠ some D
  ax : AtL B xs acc
section
variable {A : List V} {fp1 fp fp2 : Nat → Option Addr} {B1 H1 B H B2 H2 : Hp} {D : Addr} {σ τ : L2.St} {ss s2 : List SV} {acc : List PyData} {xs : List V} {y : V} {d : PyData}
theorem LcS.step (S : LcS A fp1 B1 H1 D σ ss fp B H acc xs) (g : Gr fp fp2 B H B2 H2) (ok : Ok A B2 H2 τ s2 fp2) : LcS A fp1 B1 H1 D τ s2 fp2 B2 H2 acc xs :=
  have nf : ∀ j, fp2 j ≠ some D := fun j ej => by
    rcases g.nw j D ej with ⟨k, z⟩ | z
    · exact S.hf k z
    · exact z.no S.hx
  ⟨S.bb.trans g.bb, ok, S.gr.trans g, g.hh D _ S.hf S.hx, g.fr D S.hf S.hx S.hb, nf, S.ax.up g.bb⟩
theorem LcS.wipe (S : LcS A fp1 B1 H1 D σ ss fp B H acc xs) (vs : List Nat) : ∃ fp2, LcS A fp1 B1 H1 D (L2.wipe σ vs) (wipeS ss vs) fp2 B H acc xs := by
  obtain ⟨fp2, ok2, g⟩ := S.ok.wipe vs
  exact ⟨fp2, S.step g ok2⟩
theorem LcS.put (S : LcS A fp1 B1 H1 D σ ss fp B H acc xs) (hD : H1 D = none) (a : At B y d) : LcS A fp1 B1 H1 D σ ss fp B (upd H D (.lst (xs ++ [y]))) (acc ++ [d]) (xs ++ [y]) := by
  have nd : ∀ b o, B b = some o → b ≠ D := fun b o eb z => by
    rw [z, S.hb] at eb
    cases eb
  refine ⟨S.bb, ⟨fun b o eb => ?_, S.ok.len, fun j t et => (S.ok.sl j t et).grow (Same.refl _) fun r er => ⟨(S.ok.hasO er).1, upd_ne fun z => S.hf j (by rw [← z]; exact er)⟩, S.ok.inj, S.ok.out, S.ok.tb.upd S.hx⟩, S.gr.upd (.inr (.of hD)) S.hx, upd_same, S.hb, S.hf, S.ax.append (AtL.one a)⟩
  · rw [upd_ne (nd b o eb)]
    exact S.ok.sm b o eb
end
section
variable {X : Cx} {E : XK}
theorem lc2_of {vs vs1 : List Nat} {g g1 : TG} {b b1 : PyData → List SV → Option (List SV)} {it it1 : M (List PyData)} {ft ft1 : M Bool} {f : M PyData} (G : GOk vs g b) (G1 : GOk vs1 g1 b1) (hv : ∀ i ∈ vs1, i ∈ vs) {σ : L2.St} {H : Hp} {Q : VK} (h : tV X.mg E (mLc2 vs vs1 it b ft it1 b1 ft1 f) σ H Q) :
    tLc2 (tI X.mg E it) g (tT X.mg L2.E0 ft) (tI X.mg L2.E0 it1) g1 (tT X.mg L2.E0 ft1) (tM X.mg L2.E0 f) vs vs1 σ H Q := by
  obtain ⟨A, B, ss, fp, ok, h⟩ := h
  refine ⟨A, B, ss, fp, ok, (ResV.seq (rel := IterOk) h).mono fun J H1 ⟨ds, B1, ss1, fp1, ok1, J1, g1', h1⟩ D hD => ?_⟩
  obtain ⟨jg, js, jy⟩ := J1
  have h1 : ResV X.mg E A B1 fp1 σ H1 (lc2Go vs vs1 b ft it1 b1 ft1 f ds [] (wipeS ss1 vs)) Q := h1
  generalize hT : lc2Go vs vs1 b ft it1 b1 ft1 f ds [] (wipeS ss1 vs) = T at h1
  have nn : T ≠ none := fun z => by
    rw [z] at h1
    exact (show False from h1).elim
  obtain ⟨fpw, okw, gw⟩ := ok1.wipe vs
  refine ⟨fun i m H => m = ds.length - i ∧ i ≤ ds.length ∧ ∃ B2 s fp2 acc xs, LcS A fp1 B1 H1 D (wipe σ vs) (wipeS s vs) fp2 B2 H acc xs ∧ lc2Go vs vs1 b ft it1 b1 ft1 f (ds.drop i) acc (wipeS s vs) = T, ⟨ds.length, by omega, Nat.zero_le _, B1, ss1, fpw, [], [], ⟨Same.refl _, okw.grow (Same.refl _) (ok1.sm.trans (same_new hD)) (same_new hD) (fun _ _ z => z), gw.trans (Grow.own ok1.sm hD).gr, upd_same, ok1.sm.free hD, fun j e => ?_, .nil⟩, hT⟩, ?_⟩
  · obtain ⟨_, o, ho⟩ := okw.hasO e
    rw [hD] at ho
    cases ho
  rintro i m H ⟨rfl, hi, B2, s, fp2, acc, xs, S, el⟩
  by_cases hlt : i < ds.length
  · refine .inr ⟨jg i H hlt (S.bb.trans S.ok.sm), fun H' => ∃ B2 s fp2 acc xs, LcS A fp1 B1 H1 D (wipe σ vs) (wipeS s vs) fp2 B2 H' acc xs ∧ lc2Go vs vs1 b ft it1 b1 ft1 f (ds.drop (i + 1)) acc (wipeS s vs) = T, fun H' h' => ⟨ds.length - (i + 1), by omega, rfl, hlt, h'⟩, fun x H' y => ?_⟩
    obtain ⟨d, ed, hd⟩ := jy i H x H' hlt (S.bb.trans S.ok.sm) y
    obtain ⟨B3, g3, a3⟩ := hd B2 S.bb S.ok.sm
    have e : ds.drop i = d :: ds.drop (i + 1) := by
      rw [List.drop_eq_getElem_cons hlt]
      have : ds[i] = d := by
        rw [List.getElem?_eq_getElem hlt] at ed
        exact Option.some.inj ed
      rw [this]
    rw [e] at el
    unfold lc2Go at el
    cases q : b d (wipeS s vs) with
    | none => rw [q] at el; exact absurd el.symm nn
    | some s1 =>
      rw [q] at el
      dsimp only at el
      have S3 := S.step g3.gr (S.ok.up g3)
      refine G A B3 H' (wipe σ vs) (wipeS s vs) fp2 x d s1 _ S3.ok a3 q fun σ4 fp4 w4 ok4 g4 => ?_
      have S4 := S3.step g4 ok4
      rw [wipe_idem] at w4
      refine ⟨w4, A, B3, s1, fp4, ok4, ?_⟩
      cases qt : ft s1 with
      | none => rw [qt] at el; exact absurd el.symm nn
      | some rt =>
        rw [qt] at el
        cases rt with
        | exc c fs => exact absurd el.symm nn
        | val bb s5 =>
          intro bv B5 H5 fp5 g5 ok5 rb
          subst rb
          have S5 := S4.step g5 ok5
          cases bv with
          | false =>
            dsimp only at el
            refine iteF ?_
            obtain ⟨fp6, S6⟩ := S5.wipe vs
            rw [w4] at S6
            exact ⟨B5, s5, fp6, acc, xs, S6, el⟩
          | true =>
            dsimp only at el
            refine iteT ⟨A, B5, s5, fp5, ok5, ?_⟩
            cases q1 : it1 s5 with
            | none => rw [q1] at el; exact absurd el.symm nn
            | some r1 =>
              rw [q1] at el
              cases r1 with
              | exc c fs => exact absurd el.symm nn
              | val ds1 s6 =>
                dsimp only at el
                intro J1 B6 H6 fp6 g6 ok6 JJ
                obtain ⟨kg, ks, ky⟩ := JJ
                have S6 := S5.step g6 ok6
                generalize hU : lc2In vs1 b1 ft1 f ds1 acc (wipeS s6 vs1) = U at el
                cases U with
                | none => exact absurd el.symm nn
                | some pr =>
                obtain ⟨accE, sE⟩ := pr
                dsimp only at el
                obtain ⟨fp7, S7⟩ := S6.wipe vs1
                refine ⟨fun j k H => k = ds1.length - j ∧ j ≤ ds1.length ∧ ∃ B2 s fp2 acc xs, Same B6 B2 ∧ LcS A fp1 B1 H1 D (wipe σ4 vs1) (wipeS s vs1) fp2 B2 H acc xs ∧ lc2In vs1 b1 ft1 f (ds1.drop j) acc (wipeS s vs1) = some (accE, sE), ⟨ds1.length, by omega, Nat.zero_le _, B6, s6, fp7, acc, xs, Same.refl _, S7, hU⟩, ?_⟩
                rintro j k H ⟨rfl, hj, Ba, sa, fpa, ac, ya, s6a, Sa, ea⟩
                by_cases hlj : j < ds1.length
                · refine .inr ⟨kg j H hlj (s6a.trans Sa.ok.sm), fun H' => ∃ B2 s fp2 acc xs, Same B6 B2 ∧ LcS A fp1 B1 H1 D (wipe σ4 vs1) (wipeS s vs1) fp2 B2 H' acc xs ∧ lc2In vs1 b1 ft1 f (ds1.drop (j + 1)) acc (wipeS s vs1) = some (accE, sE), fun H' h' => ⟨ds1.length - (j + 1), by omega, rfl, hlj, h'⟩, fun x H' y => ?_⟩
                  obtain ⟨d1, ed1, hd1⟩ := ky j H x H' hlj (s6a.trans Sa.ok.sm) y
                  obtain ⟨Bb, gb, ab⟩ := hd1 Ba s6a Sa.ok.sm
                  have e1 : ds1.drop j = d1 :: ds1.drop (j + 1) := by
                    rw [List.drop_eq_getElem_cons hlj]
                    have : ds1[j] = d1 := by
                      rw [List.getElem?_eq_getElem hlj] at ed1
                      exact Option.some.inj ed1
                    rw [this]
                  rw [e1] at ea
                  unfold lc2In at ea
                  cases q2 : b1 d1 (wipeS sa vs1) with
                  | none => rw [q2] at ea; cases ea
                  | some sb =>
                    rw [q2] at ea
                    dsimp only at ea
                    have Sb := Sa.step gb.gr (Sa.ok.up gb)
                    refine G1 A Bb H' (wipe σ4 vs1) (wipeS sa vs1) fpa x d1 sb _ Sb.ok ab q2 fun σc fpc wc okc gc => ?_
                    have Sc := Sb.step gc okc
                    rw [wipe_idem] at wc
                    refine ⟨wc, A, Bb, sb, fpc, okc, ?_⟩
                    cases qt1 : ft1 sb with
                    | none => rw [qt1] at ea; cases ea
                    | some rt1 =>
                      rw [qt1] at ea
                      cases rt1 with
                      | exc c fs => cases ea
                      | val bb1 sd =>
                        intro bv1 Bd Hd fpd gd okd rb1
                        subst rb1
                        have Sd := Sc.step gd okd
                        cases bv1 with
                        | false =>
                          dsimp only at ea
                          refine iteF ?_
                          obtain ⟨fpe, Se⟩ := Sd.wipe vs1
                          rw [wc] at Se
                          exact ⟨Bd, sd, fpe, ac, ya, (s6a.trans gb.bb).trans gd.bb, Se, ea⟩
                        | true =>
                          dsimp only at ea
                          refine iteT ⟨A, Bd, sd, fpd, okd, ?_⟩
                          cases qf : f sd with
                          | none => rw [qf] at ea; cases ea
                          | some rf =>
                            rw [qf] at ea
                            cases rf with
                            | exc c fs => cases ea
                            | val yd se =>
                              dsimp only at ea
                              intro yv Be He fpe ge oke ay
                              have Se := Sd.step ge oke
                              by_cases cf : few ac.length = true
                              · rw [if_pos cf] at ea
                                refine ⟨ya, Se.hx, by rw [Se.ax.length]; exact few_line cf, ?_⟩
                                obtain ⟨fpf, Sf⟩ := Se.wipe vs1
                                rw [wc] at Sf
                                exact ⟨Be, se, fpf, _, _, ((s6a.trans gb.bb).trans gd.bb).trans ge.bb, Sf.put hD ay, ea⟩
                              · rw [if_neg cf] at ea
                                cases ea
                · have ej : j = ds1.length := by omega
                  subst ej
                  rw [List.drop_length] at ea
                  unfold lc2In at ea
                  cases ea
                  refine .inl ⟨ks H (s6a.trans Sa.ok.sm), ?_⟩
                  obtain ⟨fpz, Sz⟩ := Sa.wipe vs
                  rw [wipe_sub hv, w4] at Sz
                  exact ⟨Ba, _, fpz, _, ya, Sz, el⟩
  · have ei : i = ds.length := by omega
    subst ei
    rw [List.drop_length] at el
    refine .inl ⟨js H (S.bb.trans S.ok.sm), ?_⟩
    rw [← el] at h1
    have okf : Ok A B2 H σ (wipeS s vs) fp2 := Ok.rewipe (τ := wipe σ vs) (by rw [wipe_idem]; exact S.ok) wipe_idem
    have okp := okf.push (w := some (.ref D)) (r := .own none acc) (q := some D) ⟨D, xs, rfl, rfl, S.hb, S.hx, S.ax, fun k z => nomatch z⟩ fun j p ep => by cases ep; exact S.hf j
    refine h1 (.ref D) B2 H _ (S.gr.sub (fun _ h => h) fun j bb eb => ?_) okp
    by_cases c : j = (wipeS s vs).length
    · rw [c, fset_same] at eb
      cases eb
      exact .inr (.of hD)
    · rw [fset_ne c] at eb
      exact S.gr.nw j bb eb
theorem m_lc2 {elt tg iter tg1 iter1 : Expr} {ifs ifs1 : List Expr} {scope : Scope} {own : List (Str × Nat)} {vs1 : List Nat} {pos : Pos} {t t1 : TG} {b b1 : PyData → List SV → Option (List SV)} {it it1 : M (List PyData)} {ft ft1 : M Bool} {f : M PyData} (G : GOk (own.map (·.2)) t b) (G1 : GOk vs1 t1 b1) (hv : ∀ i ∈ vs1, i ∈ own.map (·.2)) (hc : X.calm = true) (hN : X.N.Nodup) (hi : PI X tg iter (tI X.mg E it)) (ok : BlkOk X.N X.env.scope scope own)
    (hg : ∀ (s : Shared) (H : Hp) (C : Addr) (cl : List (Str × Addr)) (fp : List Addr), PG (X.blk s H scope (compEnvC scope cl C X.env) fp) tg t) (ht : ∀ (s : Shared) (H : Hp) (C : Addr) (cl : List (Str × Addr)) (fp : List Addr), PTs (X.blk s H scope (compEnvC scope cl C X.env) fp) ifs (tT X.mg L2.E0 ft))
    (hi1 : ∀ (s : Shared) (H : Hp) (C : Addr) (cl : List (Str × Addr)) (fp : List Addr), PI (X.blk s H scope (compEnvC scope cl C X.env) fp) tg1 iter1 (tI X.mg L2.E0 it1))
    (hg1 : ∀ (s : Shared) (H : Hp) (C : Addr) (cl : List (Str × Addr)) (fp : List Addr), PG (X.blk s H scope (compEnvC scope cl C X.env) fp) tg1 t1) (ht1 : ∀ (s : Shared) (H : Hp) (C : Addr) (cl : List (Str × Addr)) (fp : List Addr), PTs (X.blk s H scope (compEnvC scope cl C X.env) fp) ifs1 (tT X.mg L2.E0 ft1))
    (he : ∀ (s : Shared) (H : Hp) (C : Addr) (cl : List (Str × Addr)) (fp : List Addr), PE (X.blk s H scope (compEnvC scope cl C X.env) fp) elt (tM X.mg L2.E0 f)) (hs : ∀ x, foldedSetIterable iter X.env x = pure x := by intro _; rfl) (hs1 : ∀ env x, foldedSetIterable iter1 env x = pure x := by intro _ _; rfl) :
    PE X (.ListComp elt [⟨tg, iter, ifs, 0⟩, ⟨tg1, iter1, ifs1, 0⟩] scope pos) (tV X.mg E (mLc2 (own.map (·.2)) vs1 it b ft it1 b1 ft1 f)) := PE.imp (pe_lc2 hc hN hi ok hv hg ht hi1 hg1 ht1 he hs hs1) fun _ _ _ h => lc2_of G G1 hv h
end
end Cm

/-! Mirrors: a list of two new lists that is read once and then added to. -/
namespace Cm
open PySem PySem.Spec PyProof.Rows L2 Cf
variable [LT]
def isGone : Option SV → Bool
  | some .gone => true
  | _ => false
/-- x = [e1, e2]; if repr(x) != e3: return False; x[0].append(None) -/
def sNew2 (i : Nat) (f1 f2 : M SV) (g : M PyData) : S := fun ss => match f1 ss with
  | some (.val (.own none d1) s1) => match f2 s1 with
    | some (.val (.own none d2) s2) => if i < s2.length ∧ few d1.length = true ∧ okShow (.list [.list d1, .list d2]) = true then match g (s2.set i .gone) with
      | some (.val (.str t) s3) => if isGone s3[i]? = true then if (PyData.list [.list d1, .list d2]).shown = t then some (.nx s3) else some (.rt (.dat (.bool false)) s3) else none
      | _ => none
      else none
    | _ => none
  | _ => none
theorem sNew2_inv {i : Nat} {f1 f2 : M SV} {g : M PyData} {ss : List SV} {o : Out} (h : sNew2 i f1 f2 g ss = some o) : ∃ d1 s1 d2 s2 t s3, f1 ss = some (.val (.own none d1) s1) ∧ f2 s1 = some (.val (.own none d2) s2) ∧ i < s2.length ∧ few d1.length = true ∧ okShow (.list [.list d1, .list d2]) = true ∧ g (s2.set i .gone) = some (.val (.str t) s3) ∧
    o = if (PyData.list [.list d1, .list d2]).shown = t then .nx s3 else .rt (.dat (.bool false)) s3 := by
  unfold sNew2 at h
  split at h
  · rename_i d1 s1 q1
    split at h
    · rename_i d2 s2 q2
      split at h
      · rename_i c
        split at h
        · rename_i t s3 q3
          split at h
          · refine ⟨d1, s1, d2, s2, t, s3, q1, q2, c.1, c.2.1, c.2.2, q3, ?_⟩
            split at h
            · rename_i e
              rw [if_pos e]
              exact (Option.some.inj h).symm
            · rename_i e
              rw [if_neg e]
              exact (Option.some.inj h).symm
          · cases h
        · cases h
      · cases h
    · cases h
  · cases h
/-- an object that no one owns, and that does not stay -/
structure Off (fp : Nat → Option Addr) (B H : Hp) (b : Addr) (o : HO) : Prop where
  nf : ∀ j, fp j ≠ some b
  nb : B b = none
  at_ : H b = some o
section
variable {fp fp2 : Nat → Option Addr} {A : List V} {B H B2 H2 : Hp} {b D : Addr} {o : HO} {σ : L2.St} {ss : List SV} {v : V} {r : SV} {i : Nat} {w : Option V}
theorem Off.step (f : Off fp B H b o) (g : Gr fp fp2 B H B2 H2) (n : NT o := by intro _ z; cases z) : Off fp2 B2 H2 b o :=
  have nf : ∀ j, fp2 j ≠ some b := fun j ej => by
    rcases g.nw j b ej with ⟨k, z⟩ | z
    · exact f.nf k z
    · exact z.no f.at_ n
  ⟨nf, g.fr b f.nf f.at_ f.nb n, g.hh0 b o f.nf f.at_ n⟩
theorem Off.ne (f : Off fp B H b o) (h : H D = none) : b ≠ D := fun z => by
  have := f.at_
  rw [z, h] at this
  cases this
/-- the value beside the slots is let go -/
theorem Ok.let1 {ds : List PyData} (ok : Ok A B H (σ ++ [some v]) (ss ++ [.own none ds]) fp) : ∃ p xs, v = .ref p ∧ AtL B xs ds ∧ Off (cut ss.length fp) B H p (.lst xs) ∧ fp ss.length = some p := by
  have hl : σ.length = ss.length := by
    have := ok.len
    simp only [List.length_append, List.length_cons, List.length_nil] at this
    omega
  obtain ⟨p, xs, e, ev, hb, hp, a, _⟩ := ok.own (i := ss.length) (List.getElem?_concat_length)
  rw [← hl, List.getElem?_concat_length] at ev
  cases ev
  refine ⟨p, xs, rfl, a, ⟨fun j ej => ?_, hb, hp⟩, e⟩
  unfold cut at ej
  split at ej
  · have := ok.inj j ss.length p ej e
    omega
  · cases ej
end
section
variable {X : Cx} {E : XK} {K : PySem.W.Frag} {st1 st2 st3 : Stmt} {rest : List Stmt} {i : Nat} {f1 f2 : M SV} {g : M PyData} {k : S}
theorem s_new2 (h1 : PS X st1 (tAsg (tLst (tCons (tV X.mg E f1) (tCons (tV X.mg E f2) tNil))) (gName i)))
    (h2 : PS X st2 (tIfS (tTest (tOp rNe (tCB (rRepr K) (tCons (tVar i) tNil)) (tM X.mg E g))) (tS X.mg E (sRet (mDat (mC (.bool false))))) tNext))
    (h3 : PS X st3 (tDrop (tBM X.K "list" rAppend (tOp (rIxL X.K) (tVar i) (tM X.mg E (mC (.int 0)))) (tCons (tM X.mg E (mC .none)) tNil))))
    (hr : PSs X rest (tS X.mg E k)) : PSs X (st1 :: st2 :: st3 :: rest) (tS X.mg E (sSeq (sNew2 i f1 f2 g) k)) :=
  PSs.imp (pss_cons h1 (pss_cons h2 (pss_cons h3 hr))) fun D σ H ⟨A, B, ss, fp, ok, h⟩ => by
    unfold sSeq at h
    cases q : sNew2 i f1 f2 g ss with
    | none => rw [q] at h; exact (show False from h).elim
    | some o =>
    rw [q] at h
    obtain ⟨d1, s1, d2, s2, t, s3, q1, q2, hi, hf, hs, q3, eo⟩ := sNew2_inv q
    refine ⟨A, B, ss, fp, ok, ?_⟩
    rw [q1]
    intro x1 B1 H1 fp1 g1 ok1
    obtain ⟨p1, xs1, rfl, a1, o1, e1⟩ := ok1.let1
    have n1 := g1.nw _ _ e1
    have okx := ok1.pop
    have g1 : Gr fp _ B H B1 H1 := g1.trans (gr_cut (n := s1.length))
    refine ⟨A, B1, s1, _, okx, ?_⟩
    rw [q2]
    intro x2 B2 H2 fp2 g2 ok2
    obtain ⟨p2, xs2, rfl, a2, o2, e2⟩ := ok2.let1
    have ok2x := ok2.pop
    have g2 := g2.trans (gr_cut (n := s2.length))
    have o1 := o1.step g2
    refine ⟨by show 2 ≤ sizeLine; decide, fun D0 hD => ?_⟩
    have gD : Gr _ (fset (cut s2.length fp2) i none) B2 H2 B2 (upd H2 D0 (.lst [.ref p1, .ref p2])) := (Grow.own ok2x.sm hD).gr.trans (gr_fset fun _ z => nomatch z)
    have ok3 := (ok2x.up (Grow.own (o := .lst [.ref p1, .ref p2]) ok2x.sm hD)).setGone (w := some (.ref D0)) hi
    have nD : ∀ j, fset (cut s2.length fp2) i none j ≠ some D0 := fun j ej => by
      rcases gD.nw j D0 ej with ⟨m, z⟩ | z
      · obtain ⟨_, oo, ho⟩ := ok2x.hasO z
        rw [hD] at ho
        cases ho
      · have := (ok3.hasO ej)
        by_cases c : j = i
        · rw [c, fset_same] at ej; cases ej
        · rw [fset_ne c] at ej
          obtain ⟨_, oo, ho⟩ := ok2x.hasO ej
          rw [hD] at ho
          cases ho
    have oD : Off (fset (cut s2.length fp2) i none) B2 (upd H2 D0 (.lst [.ref p1, .ref p2])) D0 (.lst [.ref p1, .ref p2]) := ⟨nD, ok2x.sm.free hD, upd_same⟩
    have o1 := o1.step gD
    have o2 := o2.step gD
    have ei : (σ.set i (some (V.ref D0)))[i]? = some (some (.ref D0)) := List.getElem?_set_self (by rw [ok2x.len]; exact hi)
    have at3 : At (upd H2 D0 (.lst [.ref p1, .ref p2])) (.ref D0) (.list [.list d1, .list d2]) := .lst upd_same (.cons (.lst o1.at_ ((a1.up g2.bb).up ok3.sm)) (.cons (.lst o2.at_ (a2.up ok3.sm)) .nil))
    unfold okShow at hs
    simp only [Bool.and_eq_true, Bool.not_eq_true', decide_eq_true_eq] at hs
    obtain ⟨⟨⟨c1, c2⟩, c3⟩, c4⟩ := hs
    refine ⟨.ref D0, ei, .ref D0, _, rfl, At.dp _ _ c2 at3, ⟨c1, c2, c3, c4⟩, A, B2, s2.set i .gone, _, ok3, ?_⟩
    rw [q3]
    intro y B4 H4 fp4 g4 ok4 ay
    rw [ay.str_eq]
    have o1 := o1.step g4
    have oD := oD.step g4
    refine ⟨rfl, _, rfl, ?_⟩
    rw [dec_strV]
    by_cases ct : (PyData.list [.list d1, .list d2]).shown = t
    · rw [if_pos ct] at eo
      cases eo
      have h : ResS X.mg E A B fp H (k s3) D := h
      rw [decide_eq_true ct]
      refine iteF ?_
      unfold tNext
      show tSeq _ _ _ _ _
      unfold tSeq tDrop tBM tOp
      refine ⟨.ref D0, ei, A, B4, s3, fp4, ok4, fun v5 B5 H5 fp5 g5 ok5 a5 => ?_⟩
      have o1 := o1.step g5
      have oD := oD.step g5
      refine ⟨D0, [.ref p1, .ref p2], 0, .ref p1, rfl, a5.int_eq, SqL.of oD.at_, rfl, .inl ⟨rfl, xs1, SqL.of o1.at_⟩, A, B5, s3, fp5, ok5, fun v6 B6 H6 fp6 g6 ok6 a6 => ?_⟩
      have o1 := o1.step g6
      refine ⟨p1, xs1, v6, rfl, rfl, o1.at_, by rw [a1.length]; exact few_line hf, ?_⟩
      have ok7 : Ok A B6 (upd H6 p1 (.lst (xs1 ++ [v6]))) (σ.set i (some (.ref D0))) s3 fp6 := by
        refine ⟨fun b o eb => ?_, ok6.len, fun j t et => (ok6.sl j t et).grow (Same.refl _) fun r er => ⟨(ok6.hasO er).1, upd_ne fun z => o1.nf j (by rw [← z]; exact er)⟩, ok6.inj, ok6.out, ok6.tb.upd o1.at_⟩
        rw [upd_ne fun z => by rw [z, o1.nb] at eb; cases eb]
        exact ok6.sm b o eb
      have ga := ((((g1.trans g2).trans gD).trans g4).trans g5).trans g6
      have gz : Gr fp fp6 B H B6 (upd H6 p1 (.lst (xs1 ++ [v6]))) := ga.upd n1 o1.at_
      exact ⟨A, B6, s3, fp6, ok7, h.shift gz⟩
    · rw [if_neg ct] at eo
      cases eo
      have h : ResS X.mg E A B fp H (some (.rt (.dat (.bool false)) s3)) D := h
      rw [decide_eq_false ct]
      refine iteT ?_
      have ga := ((g1.trans g2).trans gD).trans g4
      exact ⟨A, B4, s3, fp4, ok4, fun v s5 B5 H5 fp5 g5 ok5 => h v s5 B5 H5 fp5 (ga.trans g5) ok5⟩
end
end Cm

/-! Mirrors: a thing's own truth; the sum of an own list. -/
namespace Cm
open PySem PySem.Spec PyProof.Rows L2 Cf
variable [LT]
def truD : PyData → Option Bool
  | .none => some false
  | .bool b => some b
  | .int i => some (i != 0)
  | .list ds => some (!ds.isEmpty)
  | .tuple ds => some (!ds.isEmpty)
  | _ => none
def mTru (f : M PyData) : M Bool := M.bind f fun d => M.lift (truD d)
def mSumP (i : Nat) : M PyData := fun ss => match ss[i]? with
  | some (.own _ ds) => match intsOf ds with
    | some ns => some (.val (.int ns.sum) ss)
    | none => none
  | _ => none
theorem AtL.empty {H : Hp} {vs : List V} {ds : List PyData} (h : AtL H vs ds) : vs.isEmpty = ds.isEmpty := by
  cases h <;> rfl
section
variable {X : Cx} {E : XK} {e : Expr} {f : M PyData}
theorem m_truth (hf : PE X e (tM X.mg E f)) (he : ∀ whole, isTrue e X.env whole = (do let v ← whole; standAt e.pos; holding [v] (truthy v)) := by intro _; rfl) : PT X e (tT X.mg E (mTru f)) :=
  PT.imp (pt_truth hf he) fun σ H Q ⟨A, B, ss, fp, ok, h⟩ => by
    refine ⟨A, B, ss, fp, ok, h.seq.mono fun x H1 ⟨d1, B1, ss1, fp1, ok1, a1, g1, h1⟩ => ?_⟩
    obtain ⟨b, e, h2⟩ := lift_some h1
    refine ⟨b, ?_, h2.now ok1 b rfl⟩
    cases a1 with
    | non => cases e; rfl
    | bl c => cases e; rfl
    | int i => cases e; rfl
    | str z => cases e
    | lst hp ax =>
      cases e
      exact .inl ⟨_, SqL.of (ok1.sm _ _ hp), by rw [ax.empty]⟩
    | tup hp ax =>
      cases e
      exact .inr (.inl ⟨_, SqT.of (ok1.sm _ _ hp), by rw [ax.empty]⟩)
    | dct hp ax => cases e
theorem m_sumP {K : PySem.W.Frag} (i : Nat) (h : PE X e (tCB (rSum K) (tCons (tVar i) tNil))) : PE X e (tM X.mg E (mSumP i)) :=
  PE.imp h fun σ H Q ⟨A, B, ss, fp, ok, h⟩ => by
    unfold mSumP at h
    cases q : ss[i]? with
    | none => rw [q] at h; exact (show False from h).elim
    | some s =>
      rw [q] at h
      cases s with
      | own lb ds =>
        dsimp only at h
        obtain ⟨p, xs, efp, eσ, hb, hp, al, hlb⟩ := ok.own q
        cases z : intsOf ds with
        | none => rw [z] at h; exact (show False from h).elim
        | some ns =>
          rw [z] at h
          have := intsOf_eq z
          subst this
          rw [al.ints_eq] at hp
          exact ⟨.ref p, eσ, p, ns, rfl, SqL.of hp, h _ _ _ _ Gr.refl ok (.int _)⟩
      | gone => exact (show False from h).elim
      | dat d => exact (show False from h).elim
      | oth t => exact (show False from h).elim
      | odk _ _ => exact (show False from h).elim
end
end Cm

/-! Steps of the mirrors of M12 .. M14. -/
namespace Cm
open PySem PySem.Spec PyProof.Rows L2 Cf
section
variable {P : PyData → List SV → Prop} {PB : Bool → List SV → Prop} {PV : SV → List SV → Prop} {PL : List PyData → List SV → Prop} {ss : List SV} {f : M PyData} {N B C : List SV → Prop} {T : SV → List SV → Prop} {ds : List PyData} {vs vs1 : List Nat} {b b1 : PyData → List SV → Option (List SV)} {t t1 : M Bool} {it it1 : M (List PyData)} {i : Nat} {lb : Option Nat} {ns : List Int}
theorem W_tru : W (mTru f ss) PB ↔ W (f ss) fun d s => L (truD d) s PB := by
  unfold mTru
  rw [W_bind]
  simp only [W_lift]
theorem L_truL : L (truD (.list ds)) ss PB ↔ PB (!ds.isEmpty) ss := ⟨fun ⟨_, e, h⟩ => by cases e; exact h, fun h => ⟨_, rfl, h⟩⟩
theorem W_sumP (hs : ss[i]? = some (.own lb (ns.map .int))) : W (mSumP i ss) P ↔ P (.int ns.sum) ss := by
  unfold mSumP
  rw [hs]
  dsimp only
  rw [intsOf_map]
  exact Iff.rfl
theorem W_lc2 : W (mLc2 vs vs1 it b t it1 b1 t1 f ss) PV ↔ W (it ss) fun ds s => W (lc2Go vs vs1 b t it1 b1 t1 f ds [] (wipeS s vs)) PV := by
  unfold mLc2
  rw [W_bind]
theorem lc2In_ok {β : Type} (enc : β → PyData) (J : List SV → Prop) (g : β → PyData) : ∀ {xs : List β} {acc : List PyData} {ss : List SV}, J ss → acc.length + xs.length ≤ 1000000 →
    (∀ x ∈ xs, ∀ s, J s → LB (b1 (enc x) s) fun s1 => W (t1 s1) fun v s2 => v = true ∧ W (f s2) fun y s3 => y = g x ∧ J (wipeS s3 vs1)) →
    ∃ s, lc2In vs1 b1 t1 f (xs.map enc) acc ss = some (acc ++ xs.map g, s) ∧ J s
  | [], acc, ss, h, _, _ => ⟨ss, by simp [lc2In], h⟩
  | x :: xs, acc, ss, h, hl, st => by
    rw [List.length_cons] at hl
    obtain ⟨s1, h1, h2⟩ := st x List.mem_cons_self ss h
    show ∃ s, (match b1 (enc x) ss with | none => none | some s1 => match t1 s1 with | some (.val true s2) => (match f s2 with | some (.val y s3) => if few acc.length then lc2In vs1 b1 t1 f (xs.map enc) (acc ++ [y]) (wipeS s3 vs1) else none | _ => none) | some (.val false s2) => lc2In vs1 b1 t1 f (xs.map enc) acc (wipeS s2 vs1) | _ => none) = _ ∧ J s
    rw [h1]
    dsimp only
    cases q : t1 s1 with
    | none => rw [q] at h2; exact h2.elim
    | some r =>
      rw [q] at h2
      cases r with
      | exc c fs => exact h2.elim
      | val v s2 =>
        obtain ⟨hv, hw⟩ := h2
        subst hv
        dsimp only
        cases q2 : f s2 with
        | none => rw [q2] at hw; exact hw.elim
        | some r =>
          rw [q2] at hw
          cases r with
          | exc c fs => exact hw.elim
          | val y s3 =>
            obtain ⟨hy, hj⟩ := hw
            dsimp only
            rw [if_pos (few_of (show acc.length ≤ 1000000 by omega))]
            obtain ⟨s, e, j⟩ := lc2In_ok enc J g (xs := xs) (acc := acc ++ [y]) hj (by rw [List.length_append, List.length_singleton]; omega) (fun d hd => st d (List.mem_cons_of_mem _ hd))
            exact ⟨s, by rw [e, hy, List.append_assoc]; rfl, j⟩
/-- two clauses, no test -/
theorem W_lc2M {α β : Type} (enc : α → PyData) (enc1 : β → PyData) (inn : α → List β) (J : List SV → Prop) (J1 : α → List SV → Prop) (g : α → β → PyData) : ∀ {xs : List α} {acc : List PyData} {ss : List SV}, J ss → acc.length + (xs.flatMap inn).length ≤ 1000000 →
    (∀ x ∈ xs, ∀ s, J s → LB (b (enc x) s) fun s1 => W (t s1) fun v s2 => v = true ∧ W (it1 s2) fun d1 s3 => d1 = (inn x).map enc1 ∧ J1 x (wipeS s3 vs1)) →
    (∀ x ∈ xs, ∀ y ∈ inn x, ∀ s, J1 x s → LB (b1 (enc1 y) s) fun s1 => W (t1 s1) fun v s2 => v = true ∧ W (f s2) fun z s3 => z = g x y ∧ J1 x (wipeS s3 vs1)) →
    (∀ x s, J1 x s → J (wipeS s vs)) →
    (∀ s, J s → PV (.own none (acc ++ xs.flatMap fun x => (inn x).map (g x))) s) → W (lc2Go vs vs1 b t it1 b1 t1 f (xs.map enc) acc ss) PV
  | [], acc, ss, h, _, _, _, _, e => by
    have := e ss h
    rw [List.flatMap_nil, List.append_nil] at this
    exact this
  | x :: xs, acc, ss, h, hl, st, st1, bk, e => by
    rw [List.flatMap_cons, List.length_append] at hl
    obtain ⟨s1, h1, h2⟩ := st x List.mem_cons_self ss h
    show W (match b (enc x) ss with | none => none | some s1 => match t s1 with | some (.val true s2) => (match it1 s2 with | some (.val ds1 s3) => (match lc2In vs1 b1 t1 f ds1 acc (wipeS s3 vs1) with | some (acc2, s4) => lc2Go vs vs1 b t it1 b1 t1 f (xs.map enc) acc2 (wipeS s4 vs) | none => none) | _ => none) | some (.val false s2) => lc2Go vs vs1 b t it1 b1 t1 f (xs.map enc) acc (wipeS s2 vs) | _ => none) PV
    rw [h1]
    dsimp only
    cases q : t s1 with
    | none => rw [q] at h2; exact h2.elim
    | some r =>
      rw [q] at h2
      cases r with
      | exc c fs => exact h2.elim
      | val v s2 =>
        obtain ⟨hv, hw⟩ := h2
        subst hv
        dsimp only
        cases q2 : it1 s2 with
        | none => rw [q2] at hw; exact hw.elim
        | some r =>
          rw [q2] at hw
          cases r with
          | exc c fs => exact hw.elim
          | val d1 s3 =>
            obtain ⟨hd, hj⟩ := hw
            subst hd
            dsimp only
            obtain ⟨s4, e4, j4⟩ := lc2In_ok (b1 := b1) (t1 := t1) (f := f) (vs1 := vs1) enc1 (J1 x) (g x) (xs := inn x) (acc := acc) hj (by omega) (fun y hy s hs => st1 x List.mem_cons_self y hy s hs)
            rw [e4]
            dsimp only
            refine W_lc2M enc enc1 inn J J1 g (bk x s4 j4) (by rw [List.length_append, List.length_map]; omega) (fun d hd => st d (List.mem_cons_of_mem _ hd)) (fun d hd => st1 d (List.mem_cons_of_mem _ hd)) bk fun s hs => ?_
            have := e s hs
            rw [List.flatMap_cons, ← List.append_assoc] at this
            exact this
theorem WS_new2 {f1 f2 : M SV} {g : M PyData} (h : W (f1 ss) fun r1 s1 => ∃ d1, r1 = .own none d1 ∧ W (f2 s1) fun r2 s2 => ∃ d2, r2 = .own none d2 ∧ i < s2.length ∧ few d1.length = true ∧ okShow (.list [.list d1, .list d2]) = true ∧ W (g (s2.set i .gone)) fun z s3 => z = .str (PyData.list [.list d1, .list d2]).shown ∧ isGone s3[i]? = true ∧ N s3) :
    WS (sNew2 i f1 f2 g ss) N T B C := by
  unfold sNew2
  cases q1 : f1 ss with
  | none => rw [q1] at h; exact h.elim
  | some r =>
    rw [q1] at h
    cases r with
    | exc c fs => exact h.elim
    | val r1 s1 =>
      obtain ⟨d1, rfl, h⟩ := h
      dsimp only
      cases q2 : f2 s1 with
      | none => rw [q2] at h; exact h.elim
      | some r =>
        rw [q2] at h
        cases r with
        | exc c fs => exact h.elim
        | val r2 s2 =>
          obtain ⟨d2, rfl, hi, hf, hs, h⟩ := h
          dsimp only
          rw [if_pos ⟨hi, hf, hs⟩]
          cases q3 : g (s2.set i .gone) with
          | none => rw [q3] at h; exact h.elim
          | some r =>
            rw [q3] at h
            cases r with
            | exc c fs => exact h.elim
            | val z s3 =>
              obtain ⟨rfl, hg, hN⟩ := h
              dsimp only
              rw [if_pos hg, if_pos rfl]
              exact hN
end
end Cm

/-! Mirrors: dicts whose keys are ints or texts. -/
namespace Cm
open PySem PySem.Spec PyProof.Rows L2 Cf
variable [LT]
def keyOf : PyData → Option Key
  | .int i => some (.inl i)
  | .str x => some (.inr x)
  | _ => none
/-- what stands at a key -/
def valD : List (PyData × PyData) → Key → Option PyData
  | [], _ => none
  | (k, d) :: ks, key => if keyOf k = some key then some d else valD ks key
/-- set in its place, or at the end -/
def setD (key : Key) (d : PyData) : List (PyData × PyData) → List (PyData × PyData)
  | [] => []
  | (k, e) :: ks => (if keyOf k = some key then (k, d) else (k, e)) :: setD key d ks
def putD (ks : List (PyData × PyData)) (k : PyData) (key : Key) (d : PyData) : List (PyData × PyData) := if (valD ks key).isSome then setD key d ks else ks ++ [(k, d)]
theorem At.key {H : Hp} {v : V} {k : PyData} {key : Key} (a : At H v k) (e : keyOf k = some key) : v = kV key := by
  cases k with
  | int i => cases e; rw [a.int_eq]; rfl
  | str x => cases e; rw [a.str_eq]; rfl
  | _ => cases e
theorem AtK.get {H : Hp} : ∀ {xs : List (Key × V)} {ks : List (PyData × PyData)} (key : Key), AtK H xs ks → match valD ks key with
    | some d => ∃ v, valV xs key = some v ∧ At H v d
    | none => valV xs key = none
  | _, _, key, .nil => rfl
  | _, _, key, .ki (i := i) (v := v) (d := d) (vs := vs) (ds := ds) a r => by
    have ih := AtK.get key r
    by_cases c : (Sum.inl i : Key) = key
    · rw [show valD ((.int i, d) :: ds) key = some d from if_pos (by rw [← c]; rfl)]
      exact ⟨v, valV_pos c, a⟩
    · rw [show valD ((.int i, d) :: ds) key = valD ds key from if_neg fun z => c (Option.some.inj z), valV_neg c]
      exact ih
  | _, _, key, .kt (x := x) (v := v) (d := d) (vs := vs) (ds := ds) a r => by
    have ih := AtK.get key r
    by_cases c : (Sum.inr x : Key) = key
    · rw [show valD ((.str x, d) :: ds) key = some d from if_pos (by rw [← c]; rfl)]
      exact ⟨v, valV_pos c, a⟩
    · rw [show valD ((.str x, d) :: ds) key = valD ds key from if_neg fun z => c (Option.some.inj z), valV_neg c]
      exact ih
theorem AtK.length {H : Hp} : ∀ {xs : List (Key × V)} {ks : List (PyData × PyData)}, AtK H xs ks → xs.length = ks.length
  | _, _, .nil => rfl
  | _, _, .ki _ r => by rw [List.length_cons, List.length_cons, AtK.length r]
  | _, _, .kt _ r => by rw [List.length_cons, List.length_cons, AtK.length r]
theorem AtK.snoc {H : Hp} {v : V} {k d : PyData} {key : Key} (e : keyOf k = some key) (av : At H v d) : ∀ {xs : List (Key × V)} {ks : List (PyData × PyData)}, AtK H xs ks → AtK H (xs ++ [(key, v)]) (ks ++ [(k, d)])
  | _, _, .nil => by
    cases k with
    | int i => cases e; exact .ki av .nil
    | str x => cases e; exact .kt av .nil
    | _ => cases e
  | _, _, .ki a r => .ki a (AtK.snoc e av r)
  | _, _, .kt a r => .kt a (AtK.snoc e av r)
theorem AtK.set {H : Hp} {v : V} {d : PyData} {key : Key} (av : At H v d) : ∀ {xs : List (Key × V)} {ks : List (PyData × PyData)}, AtK H xs ks → AtK H (xs.map fun kv => if kv.1 = key then (kv.1, v) else kv) (setD key d ks)
  | _, _, .nil => .nil
  | _, _, .ki (i := i) (v := w) (d := e) (vs := vs) (ds := ds) a r => by
    have ih := AtK.set (key := key) av r
    rw [List.map_cons]
    show AtK H _ ((if some (Sum.inl i) = some key then (PyData.int i, d) else (PyData.int i, e)) :: setD key d ds)
    by_cases c : (Sum.inl i : Key) = key
    · rw [if_pos c, if_pos (by rw [c])]
      exact .ki av ih
    · rw [if_neg c, if_neg fun z => c (Option.some.inj z)]
      exact .ki a ih
  | _, _, .kt (x := x) (v := w) (d := e) (vs := vs) (ds := ds) a r => by
    have ih := AtK.set (key := key) av r
    rw [List.map_cons]
    show AtK H _ ((if some (Sum.inr x) = some key then (PyData.str x, d) else (PyData.str x, e)) :: setD key d ds)
    by_cases c : (Sum.inr x : Key) = key
    · rw [if_pos c, if_pos (by rw [c])]
      exact .kt av ih
    · rw [if_neg c, if_neg fun z => c (Option.some.inj z)]
      exact .kt a ih
theorem AtK.put {H : Hp} {v : V} {k d : PyData} {key : Key} {xs : List (Key × V)} {ks : List (PyData × PyData)} (a : AtK H xs ks) (e : keyOf k = some key) (av : At H v d) : AtK H (putK xs key v) (putD ks k key d) := by
  unfold putK putD
  rw [valV_any]
  have g := a.get key
  cases q : valD ks key with
  | some d2 =>
    rw [q] at g
    obtain ⟨w, e1, _⟩ := g
    rw [e1]
    exact a.set av
  | none =>
    rw [q] at g
    rw [show valV xs key = none from g]
    exact a.snoc e av
/-! ### the mirrors -/
def mDNew : M SV := M.ret (.odk none [])
/-- d[k], d data that stays -/
def kDGet : PyData → PyData → Option PyData
  | .dict ks, k => (keyOf k).bind (valD ks)
  | _, _ => none
/-- k in d, d data that stays -/
def kDIn (neg : Bool) : PyData → PyData → Option PyData
  | k, .dict ks => (keyOf k).map fun key => .bool (if neg then !(valD ks key).isSome else (valD ks key).isSome)
  | _, _ => none
/-- d[k], d an own dict that stays so -/
def mDGetP (i : Nat) (g : M PyData) : M PyData := fun ss => match ss[i]? with
  | some (.odk _ _) => M.bind g (fun y s2 => match s2[i]? with
    | some (.odk _ ks) => match (keyOf y).bind (valD ks) with
      | some d => some (.val d s2)
      | none => none
    | _ => none) ss
  | _ => none
/-- k in d, d an own dict that stays so -/
def mDInP (neg : Bool) (i : Nat) (g : M PyData) : M PyData := M.bind g fun y s2 => match s2[i]? with
  | some (.odk _ ks) => match keyOf y with
    | some key => some (.val (.bool (if neg then !(valD ks key).isSome else (valD ks key).isSome)) s2)
    | none => none
  | _ => none
/-- d[k] = e, d an own dict -/
def sDPutM (i : Nat) (fk fv : M PyData) : S := eseq fv fun d => fun ss => match ss[i]? with
  | some (.odk _ _) => eseq fk (fun k s2 => match s2[i]?, keyOf k with
    | some (.odk lb ks), some key => if few ks.length then some (.nx (s2.set i (.odk lb (putD ks k key d)))) else none
    | _, _ => none) ss
  | _ => none
theorem dget_frz {H : Hp} {a : Addr} {ob : Obj} {kvs : List (Key × V)} {k : Key} (e : H a = some (.frz ob (.dK kvs))) : DGet H a (kV k) (valV kvs k) := .inl ⟨kvs, k, .inr ⟨ob, e⟩, rfl, rfl⟩
section
variable {X : Cx} {E : XK} {e o : Expr} {f g fk fv : M PyData} {i : Nat} {pos pos' : Pos} {value : Expr}
theorem m_dnew : PE X (.Dict [] [] pos) (tV X.mg E mDNew) := PE.imp pe_dnewK fun σ H Q ⟨A, B, ss, fp, ok, h⟩ p hp => by
  obtain ⟨ok2, g2⟩ := ok.pushOdk (ks := []) (ys := []) hp .nil
  exact h _ _ _ _ g2 ok2
theorem d_dget : ∀ {B H : Hp} {x y : V} {d1 d2 d : PyData}, Same B H → At B x d1 → At B y d2 → kDGet d1 d2 = some d → ∃ a v, x = .ref a ∧ DGet H a y (some v) ∧ At B v d := fun {B H x y d1 d2 d} s a b e => by
  unfold kDGet at e
  split at e
  · rename_i ks
    cases a with
    | dct hp ak =>
      cases q : keyOf d2 with
      | none => rw [q] at e; cases e
      | some key =>
        rw [q] at e
        have e : valD ks key = some d := e
        have g := ak.get key
        rw [e] at g
        obtain ⟨v, e1, av⟩ := g
        rw [b.key q]
        exact ⟨_, v, rfl, by rw [← e1]; exact dget_frz (s _ _ hp), av⟩
  · cases e
theorem m_dget (hu : X.A.units + 1 < cLine) (ho : PE X o (tM X.mg E f)) (hi : PE X e (tM X.mg E g)) (hs : NoSl e) : PE X (.Subscript o e pos) (tM X.mg E (m2 kDGet f g)) :=
  PE.imp (pe_dget hu ho hi hs) fun σ H Q ⟨A, B, ss, fp, ok, h⟩ => by
    refine ⟨A, B, ss, fp, ok, h.seq.mono fun x H1 ⟨d1, B1, ss1, fp1, ok1, a1, g1, h1⟩ => ⟨A, B1, ss1, fp1, ok1, h1.seq.mono fun y H2 ⟨d2, B2, ss2, fp2, ok2, a2, g2, h2⟩ => ?_⟩⟩
    obtain ⟨d, e, h3⟩ := lift_some h2
    obtain ⟨a, v, e1, e2, av⟩ := d_dget ok2.sm (a1.up g2.bb) a2 e
    exact ⟨a, v, e1, e2, h3.now ok2 v av⟩
theorem m_dgetP (hu : X.A.units + 1 < cLine) (ho : PE X o (tVar i)) (hi : PE X e (tM X.mg E g)) (hs : NoSl e) : PE X (.Subscript o e pos) (tM X.mg E (mDGetP i g)) :=
  PE.imp (pe_dget hu ho hi hs) fun σ H Q ⟨A, B, ss, fp, ok, h⟩ => by
    unfold mDGetP at h
    split at h
    · rename_i lb ks0 es
      obtain ⟨p, xs, efp, eσ, hb, hp, al, hlb⟩ := ok.odk es
      refine ⟨.ref p, eσ, A, B, ss, fp, ok, h.seq.mono fun y H2 ⟨d2, B2, ss2, fp2, ok2, a2, g2, h2⟩ => ?_⟩
      split at h2
      · rename_i lb2 ks es2
        obtain ⟨p', xs', efp', eσ', hb', hp', al', hlb'⟩ := ok2.odk es2
        rw [eσ] at eσ'
        cases eσ'
        cases q : keyOf d2 with
        | none => rw [q] at h2; exact (show False from h2).elim
        | some key =>
          rw [q] at h2
          have gg := al'.get key
          cases q2 : valD ks key with
          | none => rw [show (some key).bind (valD ks) = none from q2] at h2; exact (show False from h2).elim
          | some d =>
            rw [show (some key).bind (valD ks) = some d from q2] at h2
            rw [q2] at gg
            obtain ⟨v, e1, av⟩ := gg
            rw [a2.key q]
            exact ⟨p, v, rfl, by rw [← e1]; exact DGet.k hp', Res.now (rel := At) ok2 h2 v av⟩
      · exact h2.elim
    · exact h.elim
theorem inP_of {neg : Bool} {td : TE} {σ : L2.St} {H : Hp} {R : V → Addr → Option V → Hp → Prop} {Q : VK} (hR : ∀ y a ov H', (R y a ov H' ↔ DGet H' a y ov ∧ Q (.bl (if neg then !ov.isSome else ov.isSome)) H')) (h : tM X.mg E (mDInP neg i g) σ H Q) :
    tM X.mg E g σ H fun y H1 => ∃ x, σ[i]? = some (some x) ∧ ∃ a ov, x = .ref a ∧ R y a ov H1 := by
  obtain ⟨A, B, ss, fp, ok, h⟩ := h
  refine ⟨A, B, ss, fp, ok, h.seq.mono fun y H2 ⟨d2, B2, ss2, fp2, ok2, a2, g2, h2⟩ => ?_⟩
  split at h2
  · rename_i lb2 ks es2
    obtain ⟨p, xs, efp, eσ, hb, hp, al, hlb⟩ := ok2.odk es2
    cases q : keyOf d2 with
    | none => rw [q] at h2; exact (show False from h2).elim
    | some key =>
      rw [q] at h2
      have gg := al.get key
      refine ⟨.ref p, eσ, p, valV xs key, rfl, (hR _ _ _ _).mpr ⟨?_, ?_⟩⟩
      · rw [a2.key q]
        exact DGet.k hp
      · have e : (valV xs key).isSome = (valD ks key).isSome := by
          cases q2 : valD ks key with
          | none =>
            rw [q2] at gg
            rw [show valV xs key = none from gg]
            rfl
          | some d =>
            rw [q2] at gg
            obtain ⟨v, e1, _⟩ := gg
            rw [e1]
            rfl
        rw [e]
        exact Res.now (rel := At) ok2 h2 _ (.bl _)
  · exact h2.elim
theorem m_dinP (hu : X.A.units + 1 < cLine) (hi : PE X e (tM X.mg E g)) (ho : PE X o (tVar i)) (hb : behindInMarks .In o = false) : PE X (.Compare e [.In] [o] pos) (tM X.mg E (mDInP false i g)) :=
  PE.imp (pe_cmp (pc_din hu hi ho) hb) fun σ H Q h => inP_of (neg := false) (td := tVar i) (R := fun y a ov H' => DGet H' a y ov ∧ Q (.bl ov.isSome) H') (fun _ _ _ _ => Iff.rfl) h
theorem m_dninP (hu : X.A.units + 1 < cLine) (hi : PE X e (tM X.mg E g)) (ho : PE X o (tVar i)) (hb : behindInMarks .NotIn o = false) : PE X (.Compare e [.NotIn] [o] pos) (tM X.mg E (mDInP true i g)) :=
  PE.imp (pe_cmp (pc_dnotin hu hi ho) hb) fun σ H Q h => inP_of (neg := true) (td := tVar i) (R := fun y a ov H' => DGet H' a y ov ∧ Q (.bl (!ov.isSome)) H') (fun _ _ _ _ => Iff.rfl) h
theorem m_tdinP (hu : X.A.units + 1 < cLine) (hi : PE X e (tM X.mg E g)) (ho : PE X o (tVar i)) (hb : behindInMarks .In o = false) : PT X (.Compare e [.In] [o] pos) (tT X.mg E (mB (mDInP false i g))) :=
  PT.imp (pt_cmp (pc_din hu hi ho) hb) fun σ H Q h => by
    have h := tTest_of h
    exact inP_of (neg := false) (td := tVar i) (R := fun y a ov H' => DGet H' a y ov ∧ ∃ c, V.bl ov.isSome = .bl c ∧ Q c H') (fun _ _ _ _ => Iff.rfl) h
theorem m_tdninP (hu : X.A.units + 1 < cLine) (hi : PE X e (tM X.mg E g)) (ho : PE X o (tVar i)) (hb : behindInMarks .NotIn o = false) : PT X (.Compare e [.NotIn] [o] pos) (tT X.mg E (mB (mDInP true i g))) :=
  PT.imp (pt_cmp (pc_dnotin hu hi ho) hb) fun σ H Q h => by
    have h := tTest_of h
    exact inP_of (neg := true) (td := tVar i) (R := fun y a ov H' => DGet H' a y ov ∧ ∃ c, V.bl (!ov.isSome) = .bl c ∧ Q c H') (fun _ _ _ _ => Iff.rfl) h
theorem s_dput (hu : X.A.units + 1 < cLine) (ho : PE X o (tVar i)) (hk : PE X e (tM X.mg E fk)) (hv : PE X value (tM X.mg E fv)) (hs : swapsWith value (some (.Subscript o e pos')) pos.line X.env = pure false := by rfl) :
    PS X (.Assign [.Subscript o e pos'] value pos) (tS X.mg E (sDPutM i fk fv)) := PS.imp (ps_dput hu ho hk hv hs) fun D σ H ⟨A, B, ss, fp, ok, h⟩ => by
  refine ⟨A, B, ss, fp, ok, (ResS.seq (rel := At) h).mono fun v H1 ⟨d, B1, ss1, fp1, ok1, a1, g1, h1⟩ => ?_⟩
  split at h1
  · rename_i lb0 ks0 es
    obtain ⟨p, xs, efp, eσ, hb, hp, al, hlb⟩ := ok1.odk es
    refine ⟨.ref p, eσ, A, B1, ss1, fp1, ok1, (ResS.seq (rel := At) h1).mono fun y H2 ⟨k, B2, ss2, fp2, ok2, a2, g2, h2⟩ => ?_⟩
    split at h2
    · rename_i lb ks key es2 ek
      obtain ⟨p', xs', efp', eσ', hb', hp', al', hlb'⟩ := ok2.odk es2
      rw [eσ] at eσ'
      cases eσ'
      split at h2
      · rename_i c
        obtain ⟨ok3, g3⟩ := ok2.writeD es2 efp' (al'.put ek (a1.up g2.bb))
        rw [a2.key ek]
        exact ⟨p, _, rfl, DPut.k hp' (by rw [al'.length]; exact few_line c), h2 _ _ _ _ g3 ok3⟩
      · exact h2.elim
    · exact h2.elim
  · exact h1.elim
/-- len of an own dict that stays so -/
def mDLenP (i : Nat) : M PyData := fun ss => match ss[i]? with
  | some (.odk _ ks) => some (.val (.int (ks.length : Nat)) ss)
  | _ => none
theorem k_lenD2 : CallR X (.builtin "len") (fun xs H Q => ∃ a kvs, xs = [.ref a] ∧ Rd H a (.dK kvs) ∧ Q (.int kvs.length) H) := by
  intro pins s σ H xs us Q I r h
  obtain ⟨a, kvs, rfl, e, q⟩ := h
  rw [Vals.ref1 r]
  exact L2.d_len I e fun t s2 I2 => ⟨.int kvs.length, H, I2, ⟨_, rfl⟩, q⟩
theorem m_dlenP (h : PE X e (tCB (fun xs H Q => ∃ a kvs, xs = [.ref a] ∧ Rd H a (.dK kvs) ∧ Q (.int kvs.length) H) (tCons (tVar i) tNil))) : PE X e (tM X.mg E (mDLenP i)) :=
  PE.imp h fun σ H Q ⟨A, B, ss, fp, ok, h⟩ => by
    unfold mDLenP at h
    split at h
    · rename_i lb ks es
      obtain ⟨p, xs, efp, eσ, hb, hp, al, hlb⟩ := ok.odk es
      exact ⟨.ref p, eσ, p, xs, rfl, .inl hp, h _ _ _ _ Gr.refl ok (by rw [al.length]; exact .int _)⟩
    · exact h.elim
/-- len of a dict that stays -/
def kLenD : List PyData → Option PyData
  | [.dict ks] => some (.int (ks.length : Nat))
  | _ => none
theorem d_lenD : DA (fun xs H Q => ∃ a kvs, xs = [.ref a] ∧ Rd H a (.dK kvs) ∧ Q (.int kvs.length) H) kLenD := fun B H xs ds d Q s a e k => by
  unfold kLenD at e
  split at e
  · cases e
    cases a with
    | cons a1 r =>
      cases r
      cases a1 with
      | dct hp ak => exact ⟨_, _, rfl, .inr ⟨_, s _ _ hp⟩, by rw [ak.length]; exact k _ B H (Grow.refl s) (.int _)⟩
  · cases e
/-- k in d, d data that stays -/
theorem d_din {B H : Hp} {x y : V} {d1 d2 d : PyData} {neg : Bool} (s : Same B H) (a : At B y d1) (b : At B x d2) (e : kDIn neg d1 d2 = some d) : ∃ p ov, x = .ref p ∧ DGet H p y ov ∧ d = .bool (if neg then !ov.isSome else ov.isSome) := by
  unfold kDIn at e
  split at e
  · rename_i k ks
    cases b with
    | dct hp ak =>
      cases q : keyOf d1 with
      | none => rw [q] at e; cases e
      | some key =>
        rw [q] at e
        cases e
        have gg := ak.get key
        refine ⟨_, _, rfl, by rw [a.key q]; exact dget_frz (s _ _ hp), ?_⟩
        cases q2 : valD ks key with
        | none =>
          rw [q2] at gg
          rw [show valV _ key = none from gg]
          dsimp only
          rw [q2]
          rfl
        | some d =>
          rw [q2] at gg
          obtain ⟨v, e1, _⟩ := gg
          rw [e1]
          dsimp only
          rw [q2]
          rfl
  · cases e
theorem m_din (hu : X.A.units + 1 < cLine) (hi : PE X e (tM X.mg E g)) (ho : PE X o (tM X.mg E f)) (hb : behindInMarks .In o = false) : PE X (.Compare e [.In] [o] pos) (tM X.mg E (m2 (kDIn false) g f)) :=
  PE.imp (pe_cmp (pc_din hu hi ho) hb) fun σ H Q ⟨A, B, ss, fp, ok, h⟩ => by
    refine ⟨A, B, ss, fp, ok, h.seq.mono fun x H1 ⟨d1, B1, ss1, fp1, ok1, a1, g1, h1⟩ => ⟨A, B1, ss1, fp1, ok1, h1.seq.mono fun y H2 ⟨d2, B2, ss2, fp2, ok2, a2, g2, h2⟩ => ?_⟩⟩
    obtain ⟨d, e, h3⟩ := lift_some h2
    obtain ⟨p, ov, e1, e2, e3⟩ := d_din ok2.sm (a1.up g2.bb) a2 e
    subst e3
    exact ⟨p, ov, e1, e2, h3.now ok2 _ (.bl _)⟩
theorem m_dnin (hu : X.A.units + 1 < cLine) (hi : PE X e (tM X.mg E g)) (ho : PE X o (tM X.mg E f)) (hb : behindInMarks .NotIn o = false) : PE X (.Compare e [.NotIn] [o] pos) (tM X.mg E (m2 (kDIn true) g f)) :=
  PE.imp (pe_cmp (pc_dnotin hu hi ho) hb) fun σ H Q ⟨A, B, ss, fp, ok, h⟩ => by
    refine ⟨A, B, ss, fp, ok, h.seq.mono fun x H1 ⟨d1, B1, ss1, fp1, ok1, a1, g1, h1⟩ => ⟨A, B1, ss1, fp1, ok1, h1.seq.mono fun y H2 ⟨d2, B2, ss2, fp2, ok2, a2, g2, h2⟩ => ?_⟩⟩
    obtain ⟨d, e, h3⟩ := lift_some h2
    obtain ⟨p, ov, e1, e2, e3⟩ := d_din ok2.sm (a1.up g2.bb) a2 e
    subst e3
    exact ⟨p, ov, e1, e2, h3.now ok2 _ (.bl _)⟩
end
end Cm

/-! Mirrors: d.setdefault(k, v) of an own dict; an own list asked whether it is empty. -/
namespace Cm
open PySem PySem.Spec PyProof.Rows L2 Cf
variable [LT]
theorem mt_setdefault {X : Cx} : MtM X "dict.setdefault" rSetd := by
  intro pins s σ H x vs u us Q I rx rv h
  obtain ⟨a, kvs, k, v, rfl, rfl, ea, hl, w1, w2⟩ := h
  obtain rfl : u = Value.ref a := rx
  cases rv with
  | cons ry rv =>
    cases rv with
    | cons rd rv =>
      cases rv
      obtain ⟨z, hd, vs0, rel, dd⟩ := dk_of I.hok ea
      have hz : vs0.length ≤ sizeLine := by rw [← rel.length]; exact z
      refine call_meetsIn F.slot_dict_setdefault dd.typeIs F.entry_dict_setdefault (F.args_dict_setdefault_3 _ _ _) (kt_meets_setdefault (mixKind X.prog X.w) _ (kV_is ry) hd _) ⟨vs0, dd, hz, fun u hu => ?_, fun hn h' dd' hs => ?_⟩
      · have rr := rel.val k
        rw [hu] at rr
        cases hv : valV kvs k with
        | none => rw [hv] at rr; exact False.elim rr
        | some x =>
          rw [hv] at rr
          exact (⟨x, H, I.tok _, rr, w1 x hv⟩ : EP X pins σ Q u _)
      · have rr := rel.val k
        rw [hn] at rr
        cases hv : valV kvs k with
        | some x => rw [hv] at rr; exact False.elim rr
        | none =>
          have hl2 : (putK kvs k v).length ≤ sizeLine := by have := length_putK kvs k v; omega
          exact (⟨v, _, d_write (t' := s.toks + 1) I (by rw [ea]; exact True.intro) hs (let ⟨q, _, _, hq, _⟩ := dd'; ⟨q, hq⟩) (dk_new hl2 hd (rel.put k rd) dd'), rd, w2 hv⟩ : EP X pins σ Q _ _)
/-- d.setdefault(k, e), d an own dict -/
def mSetDef (i : Nat) (fk fv : M PyData) : M PyData := fun ss => match ss[i]? with
  | some (.odk _ _) => M.bind fk (fun k => M.bind fv fun d s2 => match s2[i]?, keyOf k with
    | some (.odk lb ks), some key => match valD ks key with
      | some d2 => if few ks.length then some (.val d2 s2) else none
      | none => if few ks.length then some (.val d (s2.set i (.odk lb (putD ks k key d)))) else none
    | _, _ => none) ss
  | _ => none
section
variable {X : Cx} {E : XK} {e : Expr} {fk fv : M PyData} {i : Nat}
theorem m_setdef (h : PE X e (tBM X.K "dict" rSetd (tVar i) (tCons (tM X.mg E fk) (tCons (tM X.mg E fv) tNil)))) : PE X e (tM X.mg E (mSetDef i fk fv)) :=
  PE.imp h fun σ H Q ⟨A, B, ss, fp, ok, h⟩ => by
    unfold mSetDef at h
    split at h
    · rename_i lb0 ks0 es
      obtain ⟨p, xs, efp, eσ, hb, hp, al, hlb⟩ := ok.odk es
      refine ⟨.ref p, eσ, .inr (.inr (.inl ⟨rfl, .inl ⟨xs, hp⟩⟩)), A, B, ss, fp, ok, h.seq.mono fun y H1 ⟨k, B1, ss1, fp1, ok1, a1, g1, h1⟩ => ⟨A, B1, ss1, fp1, ok1, h1.seq.mono fun z H2 ⟨d, B2, ss2, fp2, ok2, a2, g2, h2⟩ => ?_⟩⟩
      split at h2
      · rename_i lb ks key es2 ek
        obtain ⟨p', xs', efp', eσ', hb', hp', al', hlb'⟩ := ok2.odk es2
        rw [eσ] at eσ'
        cases eσ'
        have gg := al'.get key
        have ey := (a1.up g2.bb).key ek
        cases q : valD ks key with
        | some d2 =>
          rw [q] at h2 gg
          dsimp only at h2
          obtain ⟨v, e1, av⟩ := gg
          by_cases c : few ks.length = true
          · rw [if_pos c] at h2
            refine ⟨p, xs', key, z, rfl, by rw [ey], hp', by rw [al'.length]; exact few_line c, fun u hu => ?_, fun hn => by rw [e1] at hn; cases hn⟩
            rw [e1] at hu
            cases hu
            exact Res.now (rel := At) ok2 h2 v av
          · rw [if_neg c] at h2
            exact h2.elim
        | none =>
          rw [q] at h2 gg
          dsimp only at h2
          have gg : valV xs' key = none := gg
          by_cases c : few ks.length = true
          · rw [if_pos c] at h2
            refine ⟨p, xs', key, z, rfl, by rw [ey], hp', by rw [al'.length]; exact few_line c, fun u hu => (by rw [gg] at hu; cases hu), fun _ => ?_⟩
            obtain ⟨ok3, g3⟩ := ok2.writeD es2 efp' (al'.put ek a2)
            exact h2 _ _ _ _ g3 ok3 a2
          · rw [if_neg c] at h2
            exact h2.elim
      · exact h2.elim
    · exact h.elim
/-- e1 op e2, e1 an own list that stays so -/
def mCmpP (k : PyData → PyData → Option PyData) (i : Nat) (g : M PyData) : M PyData := fun ss => match ss[i]? with
  | some (.own _ _) => M.bind g (fun y s2 => match s2[i]? with
    | some (.own _ ds) => match k (.list ds) y with
      | some (.bool b) => some (.val (.bool b) s2)
      | _ => none
    | _ => none) ss
  | _ => none
/-- e1 op e2, e2 an own list that stays so -/
def mCmpQ (k : PyData → PyData → Option PyData) (i : Nat) (f : M PyData) : M PyData := M.bind f fun x s2 => match s2[i]? with
  | some (.own _ ds) => match k x (.list ds) with
    | some (.bool b) => some (.val (.bool b) s2)
    | _ => none
  | _ => none
theorem cmpP_of {op : CmpOp} {r : R2} {k : PyData → PyData → Option PyData} (hd : D2 r k) {g : M PyData} {σ : L2.St} {H : Hp} {Q : VK} (h : tM X.mg E (mCmpP k i g) σ H Q) : tOp r (tVar i) (tM X.mg E g) σ H Q := by
  obtain ⟨A, B, ss, fp, ok, h⟩ := h
  unfold mCmpP at h
  split at h
  · rename_i lb0 ds0 es
    obtain ⟨p, xs, efp, eσ, hb, hp, al, hlb⟩ := ok.own es
    refine ⟨.ref p, eσ, A, B, ss, fp, ok, h.seq.mono fun y H2 ⟨d2, B2, ss2, fp2, ok2, a2, g2, h2⟩ => ?_⟩
    split at h2
    · rename_i lb ds es2
      obtain ⟨p', xs', efp', eσ', hb', hp', al', hlb'⟩ := ok2.own es2
      rw [eσ] at eσ'
      cases eσ'
      split at h2
      · rename_i b ek
        refine hd H2 H2 (.ref p) y _ _ _ Q (Same.refl _) (.lst hp' (al'.up ok2.sm)) (a2.up ok2.sm) ek fun v B3 H3 g3 av => ?_
        have hh : Same H2 H3 := fun b o e => g3.hh b o e
        rw [av.bl_eq]
        exact Res.now (rel := At) (ok2.grow (Same.refl _) (ok2.sm.trans hh) hh (fun _ _ z => z)) (h2.shift (Gr.mk4 (Same.refl _) (fun b o _ e => hh b o e) (fun _ _ _ z => z) (fun j b e => .inl ⟨j, e⟩) (tt_of hh))) _ (.bl _)
      · exact h2.elim
    · exact h2.elim
  · exact h.elim
theorem cmpQ_of {op : CmpOp} {r : R2} {k : PyData → PyData → Option PyData} (hd : D2 r k) {f : M PyData} {σ : L2.St} {H : Hp} {Q : VK} (h : tM X.mg E (mCmpQ k i f) σ H Q) : tOp r (tM X.mg E f) (tVar i) σ H Q := by
  obtain ⟨A, B, ss, fp, ok, h⟩ := h
  refine ⟨A, B, ss, fp, ok, h.seq.mono fun x H2 ⟨d2, B2, ss2, fp2, ok2, a2, g2, h2⟩ => ?_⟩
  split at h2
  · rename_i lb ds es2
    obtain ⟨p, xs', efp', eσ', hb', hp', al', hlb'⟩ := ok2.own es2
    split at h2
    · rename_i b ek
      refine ⟨.ref p, eσ', hd H2 H2 x (.ref p) _ _ _ Q (Same.refl _) (a2.up ok2.sm) (.lst hp' (al'.up ok2.sm)) ek fun v B3 H3 g3 av => ?_⟩
      have hh : Same H2 H3 := fun b o e => g3.hh b o e
      rw [av.bl_eq]
      exact Res.now (rel := At) (ok2.grow (Same.refl _) (ok2.sm.trans hh) hh (fun _ _ z => z)) (h2.shift (Gr.mk4 (Same.refl _) (fun b o _ e => hh b o e) (fun _ _ _ z => z) (fun j b e => .inl ⟨j, e⟩) (tt_of hh))) _ (.bl _)
    · exact h2.elim
  · exact h2.elim
theorem m_cmpP {op : CmpOp} {r : R2} {k : PyData → PyData → Option PyData} {e e2 : Expr} {g : M PyData} {pos : Pos} (ho : OpR X (compareOp op) r) (hd : D2 r k) (hf : PE X e (tVar i)) (hg : PE X e2 (tM X.mg E g)) (hm : behindInMarks op e2 = false) : PE X (.Compare e [op] [e2] pos) (tM X.mg E (mCmpP k i g)) :=
  PE.imp (pe_cmpR ho hf hg hm) fun σ H Q h => cmpP_of (op := op) hd h
theorem m_tcmpP {op : CmpOp} {r : R2} {k : PyData → PyData → Option PyData} {e e2 : Expr} {g : M PyData} {pos : Pos} (ho : OpR X (compareOp op) r) (hd : D2 r k) (hf : PE X e (tVar i)) (hg : PE X e2 (tM X.mg E g)) (hm : behindInMarks op e2 = false) : PT X (.Compare e [op] [e2] pos) (tT X.mg E (mB (mCmpP k i g))) :=
  PT.imp (pt_cmpR ho hf hg hm) fun σ H Q h => cmpP_of (op := op) hd (tTest_of h)
theorem m_cmpQ {op : CmpOp} {r : R2} {k : PyData → PyData → Option PyData} {e e2 : Expr} {f : M PyData} {pos : Pos} (ho : OpR X (compareOp op) r) (hd : D2 r k) (hf : PE X e (tM X.mg E f)) (hg : PE X e2 (tVar i)) (hm : behindInMarks op e2 = false) : PE X (.Compare e [op] [e2] pos) (tM X.mg E (mCmpQ k i f)) :=
  PE.imp (pe_cmpR ho hf hg hm) fun σ H Q h => cmpQ_of (op := op) hd h
theorem m_tcmpQ {op : CmpOp} {r : R2} {k : PyData → PyData → Option PyData} {e e2 : Expr} {f : M PyData} {pos : Pos} (ho : OpR X (compareOp op) r) (hd : D2 r k) (hf : PE X e (tM X.mg E f)) (hg : PE X e2 (tVar i)) (hm : behindInMarks op e2 = false) : PT X (.Compare e [op] [e2] pos) (tT X.mg E (mB (mCmpQ k i f))) :=
  PT.imp (pt_cmpR ho hf hg hm) fun σ H Q h => cmpQ_of (op := op) hd (tTest_of h)
end
end Cm

/-! Mirrors: a call that is lent several lists and dicts. -/
namespace Cm
open PySem PySem.Spec PyProof.Rows L2 Cf
variable [LT]
abbrev Arg := Sum PyData Nat
def AtM (σ : L2.St) (B : Hp) (vs : List V) (as : List Arg) : Prop := vs.length = as.length ∧ ∀ (j : Nat) (a : Arg), as[j]? = some a → ∃ v, vs[j]? = some v ∧ match a with
  | .inl d => At B v d
  | .inr i => σ[i]? = some (some v)
def lent1 : Option SV → Bool
  | some (.own _ _) => true
  | some (.odk _ _) => true
  | _ => false
def tAM (mg : Str → Option Value) (E : XK) (f : M (List Arg)) : TA := fun σ H Q => tR (AtM σ) mg E f σ H Q
def amNil : M (List Arg) := M.ret []
def amCons (f : M PyData) (fa : M (List Arg)) : M (List Arg) := M.bind f fun x => M.bind fa fun xs => M.ret (.inl x :: xs)
def amSlot (i : Nat) (fa : M (List Arg)) : M (List Arg) := fun ss => if lent1 ss[i]? = true then (M.bind fa fun xs => M.ret (.inr i :: xs)) ss else none
theorem AtM.cons {σ : L2.St} {B : Hp} {v : V} {vs : List V} {a : Arg} {as : List Arg} (h : AtM σ B vs as) (k : match a with | .inl d => At B v d | .inr i => σ[i]? = some (some v)) : AtM σ B (v :: vs) (a :: as) := by
  refine ⟨by rw [List.length_cons, List.length_cons, h.1], fun j b e => ?_⟩
  cases j with
  | zero =>
    simp at e
    subst e
    exact ⟨v, rfl, k⟩
  | succ j => exact h.2 j b (by simpa using e)
section
variable {X : Cx} {E : XK} {e : Expr} {es : List Expr} {f : M PyData} {fa : M (List Arg)} {i : Nat}
theorem am_nil : PA X [] (tAM X.mg E amNil) := PA.imp pa_nil fun σ H Q ⟨A, B, ss, fp, ok, h⟩ => Res.now (rel := AtM σ) ok h [] ⟨rfl, fun j a e => by simp at e⟩
theorem am_cons (hf : PE X e (tM X.mg E f)) (hr : PA X es (tAM X.mg E fa)) (hs : starEach (e :: es) X.env = (false, eval e X.env) :: starEach es X.env := by rfl) : PA X (e :: es) (tAM X.mg E (amCons f fa)) := PA.imp (pa_cons hf hr hs) fun σ H Q ⟨A, B, ss, fp, ok, h⟩ => by
  refine ⟨A, B, ss, fp, ok, (Res.seq (rel := At) h).mono fun x H1 ⟨d1, B1, ss1, fp1, ok1, a1, g1, h1⟩ => ⟨A, B1, ss1, fp1, ok1, (Res.seq (rel := AtM σ) h1).mono fun xs H2 ⟨ds, B2, ss2, fp2, ok2, a2, g2, h2⟩ => ?_⟩⟩
  exact Res.now (rel := AtM σ) ok2 h2 (x :: xs) (a2.cons (a := .inl d1) (a1.up g2.bb))
theorem am_slot (hf : PE X e (tVar i)) (hr : PA X es (tAM X.mg E fa)) (hs : starEach (e :: es) X.env = (false, eval e X.env) :: starEach es X.env := by rfl) : PA X (e :: es) (tAM X.mg E (amSlot i fa)) := PA.imp (pa_cons hf hr hs) fun σ H Q ⟨A, B, ss, fp, ok, h⟩ => by
  unfold amSlot at h
  by_cases c : lent1 ss[i]? = true
  · rw [if_pos c] at h
    have hv : ∃ v, σ[i]? = some (some v) := by
      cases q : ss[i]? with
      | none => rw [q] at c; cases c
      | some s =>
        rw [q] at c
        cases s with
        | own lb ds =>
          obtain ⟨p, xs, efp, eσ, _⟩ := ok.own q
          exact ⟨_, eσ⟩
        | odk lb ks =>
          obtain ⟨p, xs, efp, eσ, _⟩ := ok.odk q
          exact ⟨_, eσ⟩
        | gone => cases c
        | dat d => cases c
        | oth t => cases c
    obtain ⟨v, ev⟩ := hv
    refine ⟨v, ev, A, B, ss, fp, ok, (Res.seq (rel := AtM σ) h).mono fun xs H2 ⟨ds, B2, ss2, fp2, ok2, a2, g2, h2⟩ => ?_⟩
    exact Res.now (rel := AtM σ) ok2 h2 (v :: xs) (a2.cons (a := .inr i) ev)
  · rw [if_neg c] at h
    exact h.elim
end
def isSlot (i : Nat) : Arg → Bool
  | .inr j => j == i
  | _ => false
/-- where slot i is lent -/
def lentPos (as : List Arg) (i : Nat) : Option Nat := as.findIdx? (isSlot i)
theorem lentPos_some {as : List Arg} {i j : Nat} (h : lentPos as i = some j) : as[j]? = some (.inr i) := by
  unfold lentPos at h
  rw [List.findIdx?_eq_some_iff_getElem] at h
  obtain ⟨hl, h1, _⟩ := h
  rw [List.getElem?_eq_getElem hl]
  cases q : as[j] with
  | inl d => rw [q] at h1; cases h1
  | inr k =>
    rw [q] at h1
    have : k = i := by simpa [isSlot] using h1
    rw [this]
theorem lentPos_none {as : List Arg} {i j : Nat} (h : lentPos as i = none) : as[j]? ≠ some (.inr i) := fun e => by
  unfold lentPos at h
  rw [List.findIdx?_eq_none_iff] at h
  have := h _ (List.mem_of_getElem? e)
  simp [isSlot] at this
def argSV (ss : List SV) (j : Nat) : Arg → SV
  | .inl d => .dat d
  | .inr i => match ss[i]? with
    | some (.own _ ds) => .own (some j) ds
    | some (.odk _ ks) => .odk (some j) ks
    | _ => .gone
def lbOf : SV → Option Nat
  | .own lb _ => lb
  | .odk lb _ => lb
  | _ => none
/-- each slot is lent once, and holds a list or a dict of its own -/
def okLend (ss : List SV) (as : List Arg) : Bool := as.zipIdx.all fun q => match q.1 with
  | .inl _ => true
  | .inr i => lentPos as i == some q.2 && lent1 ss[i]?
theorem okLend_at {ss : List SV} {as : List Arg} (h : okLend ss as = true) {i j : Nat} (e : as[j]? = some (.inr i)) : lentPos as i = some j ∧ lent1 ss[i]? = true := by
  unfold okLend at h
  rw [List.all_eq_true] at h
  have m : ((Sum.inr i : Arg), j) ∈ as.zipIdx := by
    rw [List.mem_zipIdx_iff_getElem?]
    exact e
  have := h _ m
  dsimp only at this
  rw [Bool.and_eq_true, beq_iff_eq] at this
  exact this
def backAll (ss css : List SV) (as : List Arg) : List SV := ss.mapIdx fun i s => match lentPos as i with
  | some j => back (lbOf s) css[j]?
  | none => s
def mCallMD (n : Nat) (F : M SV) (as : List Arg) : M SV := fun ss => if as.length = n ∧ okLend ss as = true then match F (as.mapIdx (argSV ss)) with
  | some (.val r css) => match outR r with
    | some r' => some (.val r' (backAll ss css as))
    | none => none
  | some (.exc c fs) => some (.exc c fs)
  | none => none
  else none
def mCallM (n : Nat) (F : M SV) (fa : M (List Arg)) : M SV := M.bind fa (mCallMD n F)
section
variable {mg : Str → Option Value} {E : XK} {A : List V} {B H : Hp} {σ : L2.St} {ss : List SV} {fp : Nat → Option Addr} {as : List Arg} {vs : List V} {Q : VK} {n : Nat} {F : M SV}
/-- what the callee's slots own at its start -/
def fpM (fp : Nat → Option Addr) (as : List Arg) : Nat → Option Addr := fun j => match as[j]? with
  | some (.inr i) => fp i
  | _ => none
theorem fpM_some {j : Nat} {p : Addr} (h : fpM fp as j = some p) : ∃ i, as[j]? = some (.inr i) ∧ fp i = some p := by
  unfold fpM at h
  split at h
  · rename_i i e
    exact ⟨i, e, h⟩
  · cases h
theorem ok_lend (ok : Ok A B H σ ss fp) (a : AtM σ B vs as) (hk : okLend ss as = true) : Ok vs B H (vs.map some) (as.mapIdx (argSV ss)) (fpM fp as) := by
  refine ⟨ok.sm, by rw [List.length_map, List.length_mapIdx, a.1], fun j t e => ?_, fun x y p ex ey => ?_, fun j hj => ?_, ok.tb⟩
  · rw [List.getElem?_mapIdx] at e
    cases q : as[j]? with
    | none => rw [q] at e; cases e
    | some b =>
      rw [q] at e
      have e : some (argSV ss j b) = some t := e
      cases e
      obtain ⟨v, ev, rv⟩ := a.2 j b q
      cases b with
      | inl d =>
        show SlotOk vs B H _ (.dat d) _
        exact ⟨by unfold fpM; rw [q], v, by rw [List.getElem?_map, ev]; rfl, rv⟩
      | inr i =>
        have ef : fpM fp as j = fp i := by unfold fpM; rw [q]
        have rv : σ[i]? = some (some v) := rv
        obtain ⟨_, hl⟩ := okLend_at hk q
        cases qs : ss[i]? with
        | none => rw [qs] at hl; cases hl
        | some s =>
          rw [qs] at hl
          cases s with
          | gone => cases hl
          | dat d => cases hl
          | oth t => cases hl
          | own lb ds =>
            obtain ⟨p, xs, efp, eσ, hb, hp, al, hlb⟩ := ok.own qs
            rw [rv] at eσ
            cases eσ
            rw [show argSV ss j (.inr i) = .own (some j) ds by unfold argSV; dsimp only; rw [qs]]
            exact ⟨p, xs, ef.trans efp, by rw [List.getElem?_map, ev]; rfl, hb, hp, al, fun m hm => by cases hm; exact ev⟩
          | odk lb ks =>
            obtain ⟨p, xs, efp, eσ, hb, hp, al, hlb⟩ := ok.odk qs
            rw [rv] at eσ
            cases eσ
            rw [show argSV ss j (.inr i) = .odk (some j) ks by unfold argSV; dsimp only; rw [qs]]
            exact ⟨p, xs, ef.trans efp, by rw [List.getElem?_map, ev]; rfl, hb, hp, al, fun m hm => by cases hm; exact ev⟩
  · obtain ⟨i, e1, e2⟩ := fpM_some ex
    obtain ⟨i2, e3, e4⟩ := fpM_some ey
    have := ok.inj i i2 p e2 e4
    subst this
    have h1 := (okLend_at hk e1).1
    rw [(okLend_at hk e3).1] at h1
    exact (Option.some.inj h1).symm
  · unfold fpM
    rw [List.getElem?_eq_none (by rw [List.length_mapIdx] at hj; exact hj)]
/-- what a slot owns behind the call -/
def fpB (fp : Nat → Option Addr) (css : List SV) (as : List Arg) : Nat → Option Addr := fun i => match lentPos as i with
  | some j => match css[j]? with
    | some (.own (some _) _) => fp i
    | some (.odk (some _) _) => fp i
    | _ => none
  | none => fp i
theorem fpB_some {css : List SV} {i : Nat} {p : Addr} (h : fpB fp css as i = some p) : fp i = some p := by
  unfold fpB at h
  split at h
  · split at h
    · exact h
    · exact h
    · cases h
  · exact h
theorem call_lentM (ok : Ok A B H σ ss fp) (a : AtM σ B vs as) (h : ResV mg E A B fp σ H (mCallMD n F as ss) Q) : spM n mg F vs H Q E := by
  unfold mCallMD at h
  split at h
  · rename_i hc
    obtain ⟨hn, hk⟩ := hc
    refine ⟨by rw [a.1]; exact hn, B, _, _, ok_lend ok a hk, ?_⟩
    have sub : ∀ {b : Addr}, (∀ j, fp j ≠ some b) → ∀ j, fpM fp as j ≠ some b := fun {b} nb j e => by
      obtain ⟨i, _, e2⟩ := fpM_some e
      exact nb i e2
    cases q : F (as.mapIdx (argSV ss)) with
    | none => rw [q] at h; exact h
    | some r =>
      cases r with
      | exc c fs =>
        rw [q] at h
        intro C dv B2 H2 e g s ea
        exact h C dv B2 H2 e (g.sub (fun b nb => sub nb) fun i b z => nomatch z) s ea
      | val r css =>
        rw [q] at h
        cases o : outR r with
        | none => dsimp only at h; rw [o] at h; exact (show False from h).elim
        | some r' =>
          dsimp only at h
          rw [o] at h
          have h : ResV mg E A B fp σ H (some (.val r' (backAll ss css as))) Q := h
          intro v B2 H2 fp2 g ok2
          have hl : (vs.map some).length = css.length := by
            have := ok2.len
            simp only [List.length_append, List.length_cons, List.length_nil] at this
            omega
          have z := ok2.sl css.length r (by rw [List.getElem?_concat_length])
          rw [← hl, List.getElem?_concat_length, hl] at z
          have hbl : (backAll ss css as).length = ss.length := List.length_mapIdx ..
          -- what a lent slot is now
          have lent : ∀ i j s, ss[i]? = some s → lentPos as i = some j → SlotOk A B2 H2 (σ[i]?.join) (back (lbOf s) css[j]?) (fpB fp css as i) ∧ ∀ p, fpB fp css as i = some p → fp2 j = some p ∧ j < css.length := fun i j s es ej => by
            have eas := lentPos_some ej
            obtain ⟨w, ew, rw_⟩ := a.2 j _ eas
            have rw_ : σ[i]? = some (some w) := rw_
            have hj := (List.getElem?_eq_some_iff.mp eas).1
            have hjc : j < css.length := by
              rw [List.length_map, a.1] at hl
              omega
            have hls := (okLend_at hk eas).2
            have own : ∃ p, fp i = some p ∧ w = .ref p ∧ ∀ k, lbOf s = some k → A[k]? = some (.ref p) := by
              rw [es] at hls
              cases s with
              | gone => cases hls
              | dat d => cases hls
              | oth t => cases hls
              | own lb ds =>
                obtain ⟨p, xs, efp, eσ, hb, hp, al, hlb⟩ := ok.own es
                rw [rw_] at eσ
                cases eσ
                exact ⟨p, efp, rfl, hlb⟩
              | odk lb ks =>
                obtain ⟨p, xs, efp, eσ, hb, hp, al, hlb⟩ := ok.odk es
                rw [rw_] at eσ
                cases eσ
                exact ⟨p, efp, rfl, hlb⟩
            obtain ⟨p, efp, rfl, hlb⟩ := own
            unfold fpB
            rw [ej]
            dsimp only
            cases qc : css[j]? with
            | none => exact ⟨rfl, fun p z => nomatch z⟩
            | some t =>
              cases t with
              | gone => exact ⟨rfl, fun p z => nomatch z⟩
              | dat d => exact ⟨rfl, fun p z => nomatch z⟩
              | oth t => exact ⟨rfl, fun p z => nomatch z⟩
              | own l2 ds2 =>
                cases l2 with
                | none => exact ⟨rfl, fun p z => nomatch z⟩
                | some m =>
                  have y := ok2.sl j (.own (some m) ds2) (by rw [List.getElem?_append_left hjc]; exact qc)
                  obtain ⟨p2, xs2, e1, ev2, hb2, hp2, a2, l⟩ := y
                  rw [List.getElem?_append_left (by rw [hl]; exact hjc), List.getElem?_map, ew] at ev2
                  cases ev2
                  exact ⟨⟨p, xs2, efp, by rw [rw_]; rfl, hb2, hp2, a2, hlb⟩, fun p3 z => by rw [efp] at z; cases z; exact ⟨e1, hjc⟩⟩
              | odk l2 ks2 =>
                cases l2 with
                | none => exact ⟨rfl, fun p z => nomatch z⟩
                | some m =>
                  have y := ok2.sl j (.odk (some m) ks2) (by rw [List.getElem?_append_left hjc]; exact qc)
                  obtain ⟨p2, xs2, e1, ev2, hb2, hp2, a2, l⟩ := y
                  rw [List.getElem?_append_left (by rw [hl]; exact hjc), List.getElem?_map, ew] at ev2
                  cases ev2
                  exact ⟨⟨p, xs2, efp, by rw [rw_]; rfl, hb2, hp2, a2, hlb⟩, fun p3 z => by rw [efp] at z; cases z; exact ⟨e1, hjc⟩⟩
          have okc : Ok A B2 H2 σ (backAll ss css as) (fpB fp css as) := by
            refine ⟨ok2.sm, by rw [hbl]; exact ok.len, fun i t e => ?_, fun x y r ex ey => ok.inj x y r (fpB_some ex) (fpB_some ey), fun j hj => ?_, ok2.tb⟩
            · unfold backAll at e
              rw [List.getElem?_mapIdx] at e
              cases qs : ss[i]? with
              | none => rw [qs] at e; cases e
              | some s =>
                rw [qs] at e
                cases ej : lentPos as i with
                | some j =>
                  have e : some (match lentPos as i with | some j => back (lbOf s) css[j]? | none => s) = some t := e
                  rw [ej] at e
                  cases e
                  exact (lent i j s qs ej).1
                | none =>
                  have e : some (match lentPos as i with | some j => back (lbOf s) css[j]? | none => s) = some t := e
                  rw [ej] at e
                  cases e
                  rw [show fpB fp css as i = fp i by unfold fpB; rw [ej]]
                  exact (ok.sl i s qs).grow g.bb fun r er => by
                    obtain ⟨hb2, o2, ho2, nt2⟩ := ok.hasO2 er
                    have nr : ∀ x, fpM fp as x ≠ some r := fun x ex => by
                      obtain ⟨i2, e1, e2⟩ := fpM_some ex
                      have := ok.inj i2 i r e2 er
                      subst this
                      exact lentPos_none ej e1
                    exact ⟨g.fr r nr ho2 hb2 nt2.1, by rw [ho2]; exact g.hh0 r o2 nr ho2 nt2.1⟩
            · cases qf : fpB fp css as j with
              | none => rfl
              | some p =>
                have := fpB_some qf
                rw [ok.out j (by rw [hbl] at hj; exact hj)] at this
                cases this
          have nw : ∀ i r, fp2 css.length = some r → fpB fp css as i ≠ some r := fun i r e1 e2 => by
            have ei := fpB_some e2
            obtain ⟨_, o2, ho2, nto⟩ := ok.hasO2 ei
            rcases g.nw _ _ e1 with ⟨x, y⟩ | y
            · obtain ⟨i2, e3, e4⟩ := fpM_some y
              have := ok.inj i2 i r e4 ei
              subst this
              have ep := (okLend_at hk e3).1
              obtain ⟨s, es⟩ : ∃ s, ss[i2]? = some s := by
                cases qs : ss[i2]? with
                | none =>
                  have := ok.out i2 (List.getElem?_eq_none_iff.mp qs)
                  rw [this] at e4
                  cases e4
                | some s => exact ⟨s, rfl⟩
              obtain ⟨z2, hx⟩ := (lent i2 x s es ep).2 r e2
              have := ok2.inj _ _ _ e1 z2
              omega
            · exact y.no ho2 nto.1
          have pushed := okc.push (z.out o) nw
          refine h v B2 H2 _ (g.sub (fun b nb => sub nb) fun j b e => ?_) pushed
          by_cases c : j = (backAll ss css as).length
          · rw [c, fset_same] at e
            rcases g.nw _ _ e with ⟨x, y⟩ | y
            · obtain ⟨i, _, e2⟩ := fpM_some y
              exact .inl ⟨i, e2⟩
            · exact .inr y
          · rw [fset_ne c] at e
            exact .inl ⟨j, fpB_some e⟩
  · exact (show False from h).elim
end
section
variable {X : Cx} {E : XK} {lev n : Nat} {f : Addr} {fd : FuncData} {ps : List Str} {F : M SV} {x : Str} {p pos : Pos} {e : Expr} {es : List Expr} {fa : M (List Arg)}
theorem m_callM (Fn : FnG X.prog X.w X.K X.mg X.base (L2.CX X.prog X.w) lev f fd ps (spM n X.mg F)) (hc : Calm X.A) (hr : Room lev X.A) (hg : Gl X x) (hm : X.mg x = some (.ref f)) (hk : PySem.W.keepIn X.K (.ref f) = true) (hb : Binds X.K fd ps []) (hx : Passes (L2.CX X.prog X.w) X E)
    (ha : PA X (e :: es) (tAM X.mg E fa)) (hdb : (x == ("__debug__" : Str)) = false := by decide) (he : starEach (e :: es) X.env = (false, eval e X.env) :: starEach es X.env := by rfl) (hpl : (backTo pos (starEach es X.env)).any (·.1) = false := by rfl) :
    PE X (.Call (.Name x p) (e :: es) [] pos) (tV X.mg E (mCallM n F fa)) :=
  PE.imp (pg_call Fn hc hr hg hm hk hb hx ha hdb he hpl) fun σ H Q ⟨A, B, ss, fp, ok, h⟩ => by
    refine ⟨A, B, ss, fp, ok, (ResV.seq (rel := AtM σ) h).mono fun vs H1 ⟨as, B1, ss1, fp1, ok1, a1, g1, h1⟩ => ?_⟩
    show spM n X.mg F (vs ++ []) H1 Q E
    rw [List.append_nil]
    exact call_lentM ok1 a1 h1
end
end Cm

/-! Mirrors: a dict written with its entries. -/
namespace Cm
open PySem PySem.Spec PyProof.Rows L2 Cf
variable [LT]
inductive AtP (B : Hp) : List (V × V) → List (PyData × PyData) → Prop
  | nil : AtP B [] []
  | cons {x y : V} {k d : PyData} {vs : List (V × V)} {ks : List (PyData × PyData)} : At B x k → At B y d → AtP B vs ks → AtP B ((x, y) :: vs) ((k, d) :: ks)
theorem AtP.up {B B2 : Hp} (s : Same B B2) : ∀ {vs : List (V × V)} {ks : List (PyData × PyData)}, AtP B vs ks → AtP B2 vs ks
  | _, _, .nil => .nil
  | _, _, .cons a b r => .cons (a.up s) (b.up s) (AtP.up s r)
def mPairs : List (M PyData × M PyData) → M (List (PyData × PyData))
  | [] => M.ret []
  | (f, g) :: r => M.bind f fun k => M.bind g fun d => M.bind (mPairs r) fun ks => M.ret ((k, d) :: ks)
def foldD : List (PyData × PyData) → List (PyData × PyData) → Option (List (PyData × PyData))
  | acc, [] => some acc
  | acc, (k, d) :: r => match keyOf k with
    | some key => foldD (putD acc k key d) r
    | none => none
def mDisp (ps : List (M PyData × M PyData)) : M SV := M.bind (mPairs ps) fun kds => M.lift (if kds.length ≤ 15 then (foldD [] kds).map (.odk none) else none)
theorem fold_at {B : Hp} : ∀ {kds : List (PyData × PyData)} {vs : List (V × V)} {acc out : List (PyData × PyData)} {xs : List (Key × V)}, AtP B vs kds → AtK B xs acc → foldD acc kds = some out → ∃ kvs : List (Key × V), vs = kvs.map (fun kv => (kV kv.1, kv.2)) ∧ kvs.length = kds.length ∧ AtK B (mergeK xs kvs) out
  | [], _, acc, out, xs, .nil, a, e => by
    cases e
    exact ⟨[], rfl, rfl, a⟩
  | (k, d) :: kds, _, acc, out, xs, .cons (x := x) (y := y) ak ad r, a, e => by
    rw [foldD] at e
    cases q : keyOf k with
    | none => rw [q] at e; cases e
    | some key =>
      rw [q] at e
      obtain ⟨kvs, e1, e2, e3⟩ := fold_at r (a.put q ad) e
      exact ⟨(key, y) :: kvs, by rw [ak.key q, e1]; rfl, by rw [List.length_cons, List.length_cons, e2], e3⟩
section
variable {X : Cx} {E : XK} {A : List V} {p : Addr} {σ : L2.St}
theorem pairs_of : ∀ {ps : List (M PyData × M PyData)} {B H : Hp} {ss : List SV} {fp : Nat → Option Addr} {Q : List (V × V) → Hp → Prop}, Ok A B H σ ss fp →
    Res AtP X.mg E A B fp σ H (mPairs ps ss) Q → tPairs (ps.map fun q => (tM X.mg E q.1, tM X.mg E q.2)) σ H Q
  | [], B, H, ss, fp, Q, ok, h => Res.now (rel := AtP) ok h [] .nil
  | (f, g) :: r, B, H, ss, fp, Q, ok, h => by
    refine ⟨A, B, ss, fp, ok, (Res.seq (rel := At) h).mono fun x H1 ⟨k, B1, ss1, fp1, ok1, a1, g1, h1⟩ => ⟨A, B1, ss1, fp1, ok1, (Res.seq (rel := At) h1).mono fun y H2 ⟨d, B2, ss2, fp2, ok2, a2, g2, h2⟩ => ?_⟩⟩
    have h3 : Res AtP X.mg E A B2 fp2 σ H2 (mPairs r ss2) fun vs H3 => Q ((x, y) :: vs) H3 := (Res.seq (rel := AtP) h2).mono fun vs H3 ⟨ks, B3, ss3, fp3, ok3, a3, g3, h3⟩ =>
      Res.now (rel := AtP) ok3 h3 ((x, y) :: vs) (.cons (a1.up (g2.bb.trans g3.bb)) (a2.up g3.bb) a3)
    exact pairs_of ok2 h3
theorem m_disp {pos : Pos} {keys : List (Option Expr)} {values : List Expr} {ps : List (M PyData × M PyData)} (h : PPs X pos keys values (ps.map fun q => (tM X.mg E q.1, tM X.mg E q.2))) (hall : keys.all (·.isSome) = true := by rfl) (hl : keys.length = values.length := by rfl) (h0 : keys ≠ [] := by exact fun z => nomatch z)
    (h15 : keys.length ≤ 15 := by decide) : PE X (.Dict keys values pos) (tV X.mg E (mDisp ps)) :=
  PE.imp (pe_disp h hall hl h0 h15) fun σ H Q ⟨A, B, ss, fp, ok, h⟩ p hp => by
    have gD : Grow B H B (upd H p (.dK [])) := Grow.own ok.sm hp
    have ok1 := ok.up gD
    have nD : ∀ j, fp j ≠ some p := fun j ej => by
      obtain ⟨_, o, ho⟩ := ok.hasO ej
      rw [hp] at ho
      cases ho
    have of1 : Off fp B (upd H p (.dK [])) p (.dK []) := ⟨nD, ok.sm.free hp, upd_same⟩
    refine pairs_of ok1 ?_
    have h : ResV X.mg E A B fp σ H (M.bind (mPairs ps) (fun kds => M.lift (if kds.length ≤ 15 then (foldD [] kds).map (.odk none) else none)) ss) Q := h
    cases q : mPairs ps ss with
    | none =>
      unfold M.bind at h
      rw [q] at h
      exact h
    | some r =>
      cases r with
      | exc c fs =>
        rw [bind_exc q] at h
        have h : ExcW X.mg E fp B H c fs := h
        exact h.shift gD.gr
      | val kds ss2 =>
        rw [bind_val q] at h
        intro vs B2 H2 fp2 g2 ok2 a2
        have of2 := of1.step g2
        obtain ⟨r, er, h3⟩ := liftV_some h
        split at er
        · rename_i c
          cases q2 : foldD [] kds with
          | none => rw [q2] at er; cases er
          | some out =>
            rw [q2] at er
            cases er
            obtain ⟨kvs, e1, e2, e3⟩ := fold_at (xs := []) a2 .nil q2
            refine ⟨of2.at_, kvs, e1, by omega, ?_⟩
            have okw : Ok A B2 (upd H2 p (.dK (mergeK [] kvs))) (σ ++ [some (.ref p)]) (ss2 ++ [.odk none out]) (fset fp2 ss2.length (some p)) := by
              have okb : Ok A B2 (upd H2 p (.dK (mergeK [] kvs))) σ ss2 fp2 := by
                refine ⟨fun b o eb => ?_, ok2.len, fun j t et => (ok2.sl j t et).grow (Same.refl _) fun r er => ⟨(ok2.hasO er).1, upd_ne fun z => of2.nf j (by rw [← z]; exact er)⟩, ok2.inj, ok2.out, ok2.tb.upd of2.at_⟩
                rw [upd_ne fun z => by rw [z, of2.nb] at eb; cases eb]
                exact ok2.sm b o eb
              exact okb.push (q := some p) ⟨p, _, rfl, rfl, of2.nb, upd_same, e3, fun k z => nomatch z⟩ fun j x ex => by cases ex; exact of2.nf j
            have ga := gD.gr.trans g2
            refine h3 (.ref p) B2 _ _ ((ga.upd (.inr (.of hp)) of2.at_).sub (fun _ h => h) fun j b e => ?_) okw
            · by_cases cj : j = ss2.length
              · rw [cj, fset_same] at e
                cases e
                exact .inr (.of hp)
              · rw [fset_ne cj] at e
                exact ga.nw j b e
        · cases er
end
end Cm

/-! Mirrors: enumerate(x) of a text, x.pop(), x.extend(ys), an own list's truth, f-strings. -/
namespace Cm
open PySem PySem.Spec PyProof.Rows L2 Cf
variable [LT]

/-! ### enumerate(x), x a text -/
/-- the text x, each sign in a new pair with its number -/
def IteT (x : Str) : It where
  go i _ := i < x.cps.size
  yld i H v H' := ∃ T c, v = .ref T ∧ H T = none ∧ H' = upd H T (.tup [.int (i : Nat), .str ⟨#[c]⟩]) ∧ x.cps[i]? = some c
  stop i _ := x.cps.size = i
theorem turn_enumT {P : Program} {w : World} {K : PySem.W.Frag} {elts : List Expr} {kk : Nat} {tpos : Pos} (x : Str) (tk : Tok) (e it : Addr) :
    Turn P w K (.Tuple elts kk tpos) (IteT x) [e, it] e (fun i h => (∃ old, IsEnum h e it ((i : Nat) : Int) old) ∧ h.IsStrIter it (strIterType x) x tk i ∧ e ≠ it) := by
  refine ⟨by simp, fun i h st b hb => ?_, fun i h h' st kp => ?_, ?_, ?_, fun A i s Q E st h => ?_⟩
  · obtain ⟨⟨old, he⟩, ⟨o, ho, hc, hd⟩, _⟩ := st
    rcases two_mem hb with rfl | rfl
    · exact ⟨_, he, fun v q => nomatch q⟩
    · exact ⟨o, ho, fun v q => by rw [hd] at q; cases q⟩
  · obtain ⟨⟨old, he⟩, ⟨o, ho, r⟩, hne⟩ := st
    exact ⟨⟨old, kp e (by simp) _ he⟩, ⟨o, kp it (by simp) o ho, r⟩, hne⟩
  · intro X hP hw hK hc i pins s σ H E I hf st hg
    subst hP hw hK
    obtain ⟨⟨old, he⟩, hit, hne⟩ := st
    have hel := Heap.lt_size he
    have hil : it < s.heap.objs.size := by obtain ⟨_, q, _⟩ := hit; exact Heap.lt_size q
    refine wpAny_pyNext_enum_itemC (Draws.text (A := X.A.in1) (I.ok.hd hc) it x tk) he hit hg hne (fun z => ?_) fun x' h' tk' hP ho hs' hT hsz hk => ?_
    · have z2 : e = it := by simpa using z
      exact hne z2
    obtain ⟨c, u, hcx, rfl⟩ := hP
    refine ⟨_, rfl, wpAny_letOwnedTupleGo_enum (s := { s with heap := h', toks := tk' + 1 }) ho fun h'' he' sb => ?_⟩
    have hT2 := (sb.2 _ (Nat.ne_of_gt hel)).trans hT
    have new : ObjOk X.prog X.w (upd H s.heap.objs.size (.tup [.int (i : Nat), .str ⟨#[c]⟩])) h'' s.heap.objs.size (.tup [.int (i : Nat), .str ⟨#[c]⟩]) :=
      ⟨by show 2 ≤ sizeLine; decide, [.int (i : Nat) tk', .str ⟨#[c]⟩ u], .cons ⟨_, rfl⟩ (.cons ⟨_, rfl⟩ .nil), ⟨_, hT2, rfl, _, rfl⟩⟩
    have kk : ∀ b o, b ∉ [e, it] → s.heap.get? b = some o → h''.get? b = some o := fun b o hb q => by
      have q1 : b ≠ e := fun z => hb (by simp [z])
      have q2 : b ≠ it := fun z => hb (by simp [z])
      exact (sb.2 b q1).trans (hk b o q1 q2 q)
    have I1 : Inv X pins σ (upd H s.heap.objs.size (.tup [.int (i : Nat), .str ⟨#[c]⟩])) { s with heap := h'', toks := tk' + 1 } :=
      I.turnedNew (ch := [e, it]) kk hf (Nat.le_refl _) new
    refine ⟨.ref s.heap.objs.size, _, I1, rfl, ⟨_, c, rfl, I.hok.fresh (Nat.le_refl _), rfl, hcx⟩, ⟨⟨.str ⟨#[c]⟩ u, ?_⟩, ?_, hne⟩, fun b hb => ?_⟩
    · rw [show ((i + 1 : Nat) : Int) = (i : Int) + 1 by omega]
      exact he'
    · obtain ⟨o, q, r⟩ := hs'
      exact ⟨o, (sb.2 it (Ne.symm hne)).trans q, r⟩
    · have hb' : b < s.heap.objs.size := by
        rcases two_mem hb with z | z
        · rw [z]; exact hel
        · rw [z]; exact hil
      rw [upd_ne (Nat.ne_of_lt hb')]
      exact (hf b hb).1
  · intro X hP hw hK hc i pins s σ H E I hf st hg
    subst hP hw hK
    obtain ⟨⟨old, he⟩, hit, hne⟩ := st
    obtain ⟨f0, f1, f2, f3, f4, f5⟩ := hf it (by simp)
    have hg : x.cps.size = i := hg
    subst hg
    exact wpAny_pyNext_enum_endD (Draws.text (A := X.A.in1) (I.ok.hd hc) it x tk) he hit fun h' eb => ⟨rfl, I.turned (t' := s.toks) (fun b o hb q => eb b o hb q) f0 f1 f3 f4 f5⟩
  · obtain ⟨⟨_, he⟩, _⟩ := st
    exact wpAny_pyIter_enum he h
def iEnumT (ta : TA) : TI := fun σ H R => ta σ H fun vs H1 => ∃ x, vs = [.str x] ∧ R (IteT x) H1
theorem pi_enumT {X : Cx} {e : Expr} {ta : TA} {p pos tpos : Pos} {elts : List Expr} {kk : Nat} (hg : Gl X "enumerate") (hm : X.mg "enumerate" = none) (ha : PA X [e] ta) (hs : starEach [e] X.env = [(false, eval e X.env)] := by rfl) :
    PI X (.Tuple elts kk tpos) (.Call (.Name "enumerate" p) [e] [] pos) (iEnumT ta) := by
  refine ⟨fun pins s σ H R I h => ?_⟩
  refine Call_ (ld_blt I hg hm boot_enumerate (PyProof.Rows.callWith_type1 (thn (ha.run pos pins s σ H _ I h) fun us s1 ⟨vs, H1, I1, r1, q1⟩ => ?_) hs rfl))
  obtain ⟨x, ex, q⟩ := q1
  subst ex
  cases r1 with
  | cons r rr =>
    cases rr
    obtain ⟨tk, rfl⟩ := r
    refine call_enumerate_str fun h' he hit hsz hk => wpAny_pyIter_enum he ?_
    have I2 : Inv X pins σ H1 { s1 with heap := h' } := I1.kept (t' := s1.toks) hk
    refine ⟨s1.heap.objs.size + 1, [s1.heap.objs.size + 1, s1.heap.objs.size], _, _, H1, rfl, I2, turn_enumT x tk (s1.heap.objs.size + 1) s1.heap.objs.size, ⟨⟨.none, he⟩, hit, Nat.succ_ne_self _⟩, fun b hb => ?_, q⟩
    have hle : s1.heap.objs.size ≤ b := by
      rcases two_mem hb with z | z
      · rw [z]; exact Nat.le_add_right _ _
      · rw [z]; exact Nat.le_refl _
    exact I1.fpOk hle (I1.hok.fresh hle)

/-- the signs of a text, each as a text -/
def signsD (x : Str) : List PyData := x.cps.toList.map fun c => .str ⟨#[c]⟩
theorem length_signsD (x : Str) : (signsD x).length = x.cps.size := by unfold signsD; rw [List.length_map, Array.length_toList]
theorem iter_enumT {B : Hp} {x : Str} : IterOk B (IteT x) (enumD (signsD x)) := by
  have hl : (enumD (signsD x)).length = x.cps.size := by unfold enumD; rw [List.length_mapIdx, length_signsD]
  refine ⟨fun i H hi s => show i < x.cps.size by rw [← hl]; exact hi, fun H s => hl.symm, fun i H v H2 hi s y => ?_⟩
  obtain ⟨T, c, rfl, nT, rfl, e2⟩ := y
  refine ⟨.tuple [.int (i : Nat), .str ⟨#[c]⟩], ?_, fun B1 s1 s2 => ⟨_, Grow.new s2 nT, .tup upd_same (.cons (.int _) (.cons (.str _) .nil))⟩⟩
  unfold enumD signsD
  rw [List.getElem?_mapIdx, List.getElem?_map, Array.getElem?_toList, e2]
  rfl
def kEnT : List PyData → Option (List PyData)
  | [.str x] => some (enumD (signsD x))
  | _ => none
section
variable {X : Cx} {E : XK} {K : PySem.W.Frag} {tg e e2 : Expr} {es : List Expr} {f g : M PyData} {fa : M (List PyData)} {p pos kpos : Pos} {i : Nat}
theorem i_enumT {elts : List Expr} {kk : Nat} {tpos : Pos} (hg : Gl X "enumerate") (hm : X.mg "enumerate" = none) (ha : PA X [e] (tA X.mg E fa)) (hs : starEach [e] X.env = [(false, eval e X.env)] := by rfl) : PI X (.Tuple elts kk tpos) (.Call (.Name "enumerate" p) [e] [] pos) (tI X.mg E (itA kEnT fa)) := PI.imp (pi_enumT hg hm ha hs) fun σ H Q ⟨A, B, ss, fp, ok, h⟩ => by
  refine ⟨A, B, ss, fp, ok, h.seq.mono fun xs H1 ⟨ds, B1, ss1, fp1, ok1, a1, g1, h1⟩ => ?_⟩
  obtain ⟨rs, er, h2⟩ := lift_some h1
  unfold kEnT at er
  split at er
  · cases er
    cases a1 with
    | cons b1 r =>
      cases r
      rw [b1.str_eq]
      exact ⟨_, rfl, Res.now (rel := IterOk) ok1 h2 _ iter_enumT⟩
  · cases er

/-! ### x.pop(), x.extend(ys), the truth of an own list -/
def mPop (i : Nat) : M PyData := fun ss => match ss[i]? with
  | some (.own lb ds) => match ds.getLast? with
    | some d => some (.val d (ss.set i (.own lb ds.dropLast)))
    | none => none
  | _ => none
theorem m_pop (h : PE X e (tBM0 X.K "list" rPop (tVar i))) : PE X e (tM X.mg E (mPop i)) := PE.imp h fun σ H Q ⟨A, B, ss, fp, ok, h⟩ => by
  unfold mPop at h
  split at h
  · rename_i lb ds es
    obtain ⟨p, xs, efp, eσ, hb, hp, al, hlb⟩ := ok.own es
    cases q : ds.getLast? with
    | none => rw [q] at h; exact (show False from h).elim
    | some d =>
      rw [q] at h
      rw [List.getLast?_eq_getElem?, ← al.length] at q
      obtain ⟨y, e1, a1⟩ := al.get q
      rw [List.dropLast_eq_take, ← al.length] at h
      obtain ⟨ok3, g3⟩ := ok.write es efp (al.take (xs.length - 1))
      refine ⟨.ref p, eσ, .inl ⟨rfl, xs, SqL.of hp⟩, p, xs, y, rfl, rfl, hp, e1, ?_⟩
      rw [List.dropLast_eq_take]
      exact h _ _ _ _ g3 ok3 a1
  · exact h.elim
/-- x.extend(e) -/
def sExt (i : Nat) (f : M PyData) : S := fun ss => match ss[i]? with
  | some (.own _ _) => eseq f (fun d s2 => match s2[i]?, d with
    | some (.own lb ds), .list es => if few (ds.length + es.length) then some (.nx (s2.set i (.own lb (ds ++ es)))) else none
    | _, _ => none) ss
  | _ => none
theorem s_ext {st : Expr} (h : PE X st (tBM X.K "list" rExtend (tVar i) (tCons (tM X.mg E f) tNil))) (hs : swapsWith st none pos.line X.env = pure false := by rfl) : PS X (.Expr st pos) (tS X.mg E (sExt i f)) := PS.imp (ps_expr h hs) fun D σ H ⟨A, B, ss, fp, ok, h⟩ => by
  unfold sExt at h
  split at h
  · rename_i lb0 ds0 es
    obtain ⟨p, xs, efp, eσ, hb, hp, al, hlb⟩ := ok.own es
    refine ⟨.ref p, eσ, .inl ⟨rfl, xs, SqL.of hp⟩, A, B, ss, fp, ok, (ResS.seq (rel := At) h).mono fun y H2 ⟨d2, B2, ss2, fp2, ok2, a2, g2, h2⟩ => ?_⟩
    split at h2
    · rename_i lb ds zs es2
      obtain ⟨p', xs', efp', eσ', hb', hp', al', hlb'⟩ := ok2.own es2
      rw [eσ] at eσ'
      cases eσ'
      split at h2
      · rename_i c
        obtain ⟨b, ys, rfl, hy, ay⟩ := a2.lst_ex
        obtain ⟨ok3, g3⟩ := ok2.write es2 efp' (al'.append ay)
        exact ⟨p, b, xs', ys, rfl, rfl, hp', ok2.sm _ _ hy, by rw [al'.length, ay.length]; exact Nat.le_of_lt (few_line c), h2 _ _ _ _ g3 ok3⟩
      · exact h2.elim
    · exact h2.elim
  · exact h.elim
def mTruP (i : Nat) : M Bool := fun ss => match ss[i]? with
  | some (.own _ ds) => some (.val (!ds.isEmpty) ss)
  | _ => none
theorem m_truP (i : Nat) (hf : PE X e (tVar i)) (he : ∀ whole, isTrue e X.env whole = (do let v ← whole; standAt e.pos; holding [v] (truthy v)) := by intro _; rfl) : PT X e (tT X.mg E (mTruP i)) :=
  PT.imp (pt_truth hf he) fun σ H Q ⟨A, B, ss, fp, ok, h⟩ => by
    unfold mTruP at h
    split at h
    · rename_i lb ds es
      obtain ⟨p, xs, efp, eσ, hb, hp, al, hlb⟩ := ok.own es
      exact ⟨.ref p, eσ, !ds.isEmpty, .inl ⟨_, SqL.of hp, by rw [al.empty]⟩, h.now ok _ rfl⟩
    · exact h.elim

/-! ### f-strings -/
def kFmt : PyData → Option PyData
  | .str y => if few y.length then some (.str y) else none
  | .int i => if i.natAbs.log2 < 1920 then some (.str (toString i)) else none
  | _ => none
theorem m_fmt (hf : PE X e (tM X.mg E f)) : PE X (.FormattedValue e (-1) none pos) (tM X.mg E (m1 kFmt f)) := PE.imp (pe_fmt hf) fun σ H Q ⟨A, B, ss, fp, ok, h⟩ => by
  refine ⟨A, B, ss, fp, ok, h.seq.mono fun x H1 ⟨d1, B1, ss1, fp1, ok1, a1, g1, h1⟩ => ?_⟩
  obtain ⟨d, e, h2⟩ := lift_some h1
  unfold kFmt at e
  split at e
  · split at e
    · rename_i y c
      cases e
      exact .inl ⟨y, a1.str_eq, Nat.le_of_lt (few_line c), Res.now (rel := At) ok1 h2 _ (.str _)⟩
    · cases e
  · split at e
    · rename_i i c
      cases e
      exact .inr ⟨i, a1.int_eq, c, Res.now (rel := At) ok1 h2 _ (.str _)⟩
    · cases e
  · cases e
def mJs : List (M PyData) → Str → M PyData
  | [], acc => M.ret (.str acc)
  | f :: fs, acc => M.bind f fun d => match d with
    | .str y => if few (acc.length + y.length) then mJs fs (acc ++ y) else fun _ => none
    | _ => fun _ => none
inductive PJm (X : Cx) (E : XK) : List Expr → List (M PyData) → Prop where
  | nil : PJm X E [] []
  | cons {e : Expr} {f : M PyData} {es : List Expr} {fs : List (M PyData)} (h : PE X e (tM X.mg E f)) (r : PJm X E es fs) : PJm X E (e :: es) (f :: fs)
theorem PJm.pj {es : List Expr} {fs : List (M PyData)} (h : PJm X E es fs) : PJ X es (fs.map fun f => tM X.mg E f) := by
  induction h with
  | nil => exact .nil
  | cons h r ih => exact .cons h ih
theorem js_of {A : List V} {σ : L2.St} {Q : VK} : ∀ {fs : List (M PyData)} {acc : Str} {B H : Hp} {ss : List SV} {fp : Nat → Option Addr}, Ok A B H σ ss fp → Res At X.mg E A B fp σ H (mJs fs acc ss) Q →
    tJs (fs.map fun f => tM X.mg E f) acc σ H fun out H1 => Q (.str out) H1
  | [], acc, B, H, ss, fp, ok, h => Res.now (rel := At) ok h _ (.str _)
  | f :: fs, acc, B, H, ss, fp, ok, h => by
    refine ⟨A, B, ss, fp, ok, (Res.seq (rel := At) (show Res At X.mg E A B fp σ H (M.bind f _ ss) Q from h)).mono fun x H1 ⟨d1, B1, ss1, fp1, ok1, a1, g1, h1⟩ => ?_⟩
    split at h1
    · rename_i y
      split at h1
      · rename_i c
        exact ⟨y, a1.str_eq, by rw [Str.length_append]; exact Nat.le_of_lt (few_line c), js_of ok1 h1⟩
      · exact (show False from h1).elim
    · exact (show False from h1).elim
theorem m_joined {v1 v2 : Expr} {rest : List Expr} {fs : List (M PyData)} (h : PJm X E (v1 :: v2 :: rest) fs) : PE X (.JoinedStr (v1 :: v2 :: rest) pos) (tM X.mg E (mJs fs Str.empty)) :=
  PE.imp (pe_joined h.pj) fun σ H Q ⟨A, B, ss, fp, ok, h⟩ => js_of ok h
end
end Cm

/-! sum(xs, ys) of lists, raw. -/
namespace Cm
open PySem
open Sem (wp)
section
variable {prog : Program} {w : World} {A : Around} {R : Result → Shared → Prop} {I : Addr} {fp wr : List Addr} {n : Nat} {P : Nat → Value → Prop} {St : Nat → Heap → Prop}
def catTo (it : Nat → List Value) (start : List Value) : Nat → List Value
  | 0 => start
  | i + 1 => catTo it start i ++ it i
theorem code_sum_lists (W : Walks prog w A.in1 I fp wr n P St) (adr : Nat → Addr) (it : Nat → List Value) (start : List Value) (h0 : Heap) (hval : ∀ i v, P i v → v = .ref (adr i)) (hA : ∀ i, i < n → adr i ∉ wr ∧ ∃ c, IsL h0 (adr i) (it i).toArray c) (hwr : ∀ b ∈ wr, b < h0.objs.size)
    (hz : (catTo it start n).length ≤ sizeLine) (S : Addr) (hSf : S ∉ fp) (hS0 : h0.objs.size ≤ S) :
    ∀ (k i : Nat) (s : Shared) (T : Addr) (c : Nat), n - i = k → i ≤ n → St i s.heap → s.heap.get? S = some { cls := .type "list", dict := none, data := .seq #[.ref T] c, slots := #[] } →
    (∃ c, IsL s.heap T (catTo it start i).toArray c) → T ≠ S → T ∉ wr → (∀ b o, b ∉ wr → b ≠ S → h0.get? b = some o → s.heap.get? b = some o) →
    (∀ h' tk T', (∀ b o, b ∉ wr → b ≠ S → s.heap.get? b = some o → h'.get? b = some o) → (∃ c, IsL h' T' (catTo it start n).toArray c) → (T' = T ∨ h0.objs.size ≤ T') → R (.ok (.ret (.ref T'))) { s with heap := h', toks := tk }) →
    codeAny (model prog w) A (.builtin "sum.loop" ⟨[.ref I, .ref S, rawInt 2, rawInt 0], []⟩) R s := by
  have hSw : S ∉ wr := fun h => hSf (W.sub _ h)
  have mono : ∀ i, i ≤ n → (catTo it start i).length ≤ sizeLine := by
    have step : ∀ i, (catTo it start i).length ≤ (catTo it start (i + 1)).length := fun i => by
      show _ ≤ (catTo it start i ++ it i).length
      rw [List.length_append]; omega
    have up : ∀ j i, (catTo it start i).length ≤ (catTo it start (i + j)).length := fun j => by
      induction j with
      | zero => intro i; exact Nat.le_refl _
      | succ j ih => intro i; exact Nat.le_trans (ih i) (step (i + j))
    intro i hi
    have := up (n - i) i
    rw [show i + (n - i) = n by omega] at this
    exact Nat.le_trans this hz
  intro k
  induction k with
  | zero =>
    intro i s T c hk hi hst hS hT hTS hTw hK hR
    have hin : i = n := by omega
    subst hin
    refine codeAny_builtin F.entry_sum_loop ?_
    rw [Around.under_plainId F.plain_sum_loop _]
    show wpAny _ A.in1 (seqItems? (.ref S) >>= _) _ _ s
    refine wpAny_bind (wpAny_seqItems hS rfl ?_)
    show wpAny _ A.in1 (tryCatch (pyNext (.ref I)) _ >>= _) _ _ s
    refine wpAny_bind (wpAny_tryCatch (W.done s _ _ hst fun h' tk hk' => ?_))
    obtain ⟨c2, hT⟩ := hT
    exact wpAny_pure (hR h' tk T (fun b o hbw _ e => hk' b o hbw e) ⟨c2, hk' _ _ hTw hT⟩ (.inl rfl))
  | succ k ih =>
    intro i s T c hk hi hst hS hT hTS hTw hK hR
    have hlt : i < n := by omega
    refine codeAny_builtin F.entry_sum_loop ?_
    rw [Around.under_plainId F.plain_sum_loop _]
    show wpAny _ A.in1 (seqItems? (.ref S) >>= _) _ _ s
    refine wpAny_bind (wpAny_seqItems hS rfl ?_)
    show wpAny _ A.in1 (tryCatch (pyNext (.ref I)) _ >>= _) _ _ s
    refine wpAny_bind (wpAny_tryCatch (W.item i s _ _ hlt hst fun v h' tk hP hst' hk' => ?_))
    have hv := hval i v hP
    subst hv
    have hS' := hk' S _ hSw hS
    obtain ⟨c2, hT⟩ := hT
    obtain ⟨ha, c3, hA3⟩ := hA i hlt
    have haS : adr i ≠ S := fun z => by
      have := Heap.lt_size hA3
      rw [z] at this
      exact Nat.lt_irrefl _ (Nat.lt_of_lt_of_le this hS0)
    have hA4 : IsL h' (adr i) (it i).toArray c3 := hk' _ _ ha (hK _ _ ha haS hA3)
    have hT4 : IsL h' T (catTo it start i).toArray c2 := hk' _ _ hTw hT
    show wpAny _ A.in1 ((holding [Value.ref (adr i)] (binaryOp .Add (.ref T) (.ref (adr i)))).attempt >>= _) _ _ _
    refine wpAny_bind (wpAny_attempt (wpAny_holding (PySem.P.add_list hT4 hA4 ?_ (by rw [List.size_toArray, List.size_toArray, ← List.length_append]; exact mono (i + 1) hlt))))
    have eA : (catTo it start i).toArray ++ (it i).toArray = (catTo it start (i + 1)).toArray := by
      show _ = (catTo it start i ++ it i).toArray
      simp
    rw [eA]
    have hSl := Heap.lt_size hS'
    have hSp := Heap.get?_push_of_some { cls := .type "list", data := .seq (catTo it start (i + 1)).toArray } hS'
    have hTn : (h'.push { cls := .type "list", data := .seq (catTo it start (i + 1)).toArray }).get? h'.objs.size = some { cls := .type "list", data := .seq (catTo it start (i + 1)).toArray } := Heap.get?_push_size _ rfl
    have hne : h'.objs.size ≠ S := Nat.ne_of_gt hSl
    show wpAny _ A.in1 (updateSeq S (fun _ => #[.ref h'.objs.size]) >>= _) _ _ _
    refine wpAny_bind ?_
    refine wpAny_updateSeq hSp rfl ?_
    have hS2 := Heap.get?_update_self (Obj.mapSeq fun _ => #[Value.ref h'.objs.size]) hSp rfl
    refine wpAny_bind (wpAny_letGo ?_)
    refine wpAny_bind ?_
    have kk : ∀ b o, b ≠ S → h'.get? b = some o → Heap.get? (Heap.update (Heap.update (h'.push { cls := .type "list", data := .seq (catTo it start (i + 1)).toArray }) S (Obj.mapSeq fun _ => #[Value.ref h'.objs.size])) S (Obj.mapSeq fun _ => #[Value.ref h'.objs.size])) b = some o := fun b o hb e =>
      (Heap.get?_update_other _ _ (Ne.symm hb)).trans ((Heap.get?_update_other _ _ (Ne.symm hb)).trans (Heap.get?_push_of_some _ e))
    have hsz : h0.objs.size ≤ h'.objs.size := Nat.le_trans hS0 (Nat.le_of_lt hSl)
    refine wpAny_updateSeq hS2 rfl (wpAny_pure ⟨plainId_quiet F.plain_sum_loop _, ih (i + 1) _ h'.objs.size _ (by omega) hlt (W.frame _ _ _ hst' fun b hb o e => kk b o (fun z => hSf (by rw [← z]; exact hb)) e) (Heap.get?_update_self _ hS2 rfl) ⟨_, (Heap.get?_update_other _ _ (Ne.symm hne)).trans ((Heap.get?_update_other _ _ (Ne.symm hne)).trans hTn)⟩ hne ?_ ?_ fun h'' tk'' T'' hk'' hT'' hn => ?_⟩)
    · intro z
      exact Nat.lt_irrefl _ (Nat.lt_of_lt_of_le (hwr _ z) hsz)
    · exact fun b o hbw hbS e => kk b o hbS (hk' b o hbw (hK b o hbw hbS e))
    · exact hR h'' tk'' T'' (fun b o hbw hbS e => hk'' b o hbw hbS (kk b o hbS (hk' b o hbw e))) hT'' (.inr (hn.elim (fun z => by rw [z]; exact hsz) id))
end
section
variable {prog : Program} {w : World} {A : Around} {E : Value → Shared → Prop} {s : Shared}
theorem args_sum2 (a b : Value) : argsOk "sum" ⟨[a, b], []⟩ := by unfold argsOk; kernel_rfl
theorem sub_list_str : isSubtype (.type "list") (.type "str") = pure false := by rw [isSubtype_type]; kernel_rfl
theorem sub_list_bytes : isSubtype (.type "list") (.type "bytes") = pure false := by rw [isSubtype_type]; kernel_rfl
theorem sub_list_bytearray : isSubtype (.type "list") (.type "bytearray") = pure false := by rw [isSubtype_type]; kernel_rfl
/-- sum(xs, ys): the lists of xs one behind the other, behind ys -/
theorem sum_lists {l b : Addr} {items : Array Value} {Q : Value → Shared → Prop} (adr : Nat → Addr) (it : Nat → List Value) (start : List Value) (hh : A.handled = none) (hl : s.heap.IsList l items) (hv : ∀ (i : Nat) (v : Value), items[i]? = some v → v = Value.ref (adr i))
    (hb : ∃ c, IsL s.heap b start.toArray c) (hA : ∀ i, i < items.size → ∃ c, IsL s.heap (adr i) (it i).toArray c) (hz : (catTo it start items.size).length ≤ sizeLine)
    (h : ∀ h' tk T, (∀ b o, s.heap.get? b = some o → h'.get? b = some o) → (∃ c, IsL h' T (catTo it start items.size).toArray c) → (T = b ∨ s.heap.objs.size ≤ T) → Q (.ref T) { s with heap := h', toks := tk }) :
    wpAny (model prog w) A (call (.builtin "sum") [.ref l, .ref b]) Q E s := by
  refine call_function_tree F.kind_sum F.plain_sum F.entry_sum (args_sum2 _ _) ?_
  unfold Builtin.«sum»
  simp only [List.length_cons, List.length_nil]
  rw [if_neg (by decide)]
  refine wpAny_bind (wpAny_of_eq (show Builtin.Builtins.bindParams "sum" ["start"] 0 ⟨[.ref b], []⟩ = pure [some (.ref b)] from rfl) ?_)
  have hlt : l < s.heap.objs.size := by obtain ⟨_, e, _⟩ := hl; exact Heap.lt_size e
  obtain ⟨cb, hb⟩ := hb
  have hbl := Heap.lt_size hb
  refine wpAny_bind (wpAny_pyIter_list hl ?_)
  have eT : ∀ {s' : Shared}, (∀ o, s.heap.get? b = some o → s'.heap.get? b = some o) → s'.TypeIs (.ref b) "list" := fun k => ⟨_, k _ hb, rfl⟩
  refine wpAny_bind (wpAny_pure ?_)
  simp only [List.forIn_cons, List.forIn_nil]
  refine wpAny_bind (wpAny_bind (wpAny_bind (wpAny_isInstance (T := "list") (b := false) (eT fun o e => Heap.get?_push_of_some _ e) sub_list_str ?_)))
  simp only [Bool.false_eq_true, if_false]
  refine wpAny_pure (wpAny_bind (wpAny_bind (wpAny_isInstance (T := "list") (b := false) (eT fun o e => Heap.get?_push_of_some _ e) sub_list_bytes ?_)))
  simp only [Bool.false_eq_true, if_false]
  refine wpAny_pure (wpAny_bind (wpAny_bind (wpAny_isInstance (T := "list") (b := false) (eT fun o e => Heap.get?_push_of_some _ e) sub_list_bytearray ?_)))
  simp only [Bool.false_eq_true, if_false]
  refine wpAny_pure (wpAny_pure ?_)
  refine wpAny_bind (wpAny_newObj_type ?_)
  let h2 := s.heap.push { cls := .type "list_iterator", data := .fields #[.ref l, .int 0 0] }
  have hs2 : h2.objs.size = s.heap.objs.size + 1 := Heap.size_push ..
  have W : Walks prog w A.in1 s.heap.objs.size [s.heap.objs.size, l] [s.heap.objs.size] items.size (fun i v => items[i]? = some v) (fun i h => h.IsListIter s.heap.objs.size l i ∧ h.IsList l items) := Walks.list (A := A.in1) hh _ l (Nat.ne_of_lt hlt) items
  have hSf : h2.objs.size ∉ [s.heap.objs.size, l] := fun hm => by
    rw [hs2] at hm
    rcases List.mem_cons.mp hm with z | hm
    · exact Nat.succ_ne_self _ z
    · have z : s.heap.objs.size + 1 = l := by simpa using hm
      rw [← z] at hlt
      exact Nat.lt_irrefl _ (Nat.lt_of_succ_lt hlt)
  have kp : ∀ {o' o2 : Obj} (b : Addr) (o : Obj), s.heap.get? b = some o → ((s.heap.push o').push o2).get? b = some o := fun b o e => Heap.get?_push_of_some _ (Heap.get?_push_of_some _ e)
  have ne2 : ∀ {b : Addr}, b < s.heap.objs.size → b ≠ h2.objs.size := fun {b} h z => by
    rw [z, hs2] at h
    exact Nat.lt_irrefl _ (Nat.lt_of_succ_lt h)
  refine wpAny_pure ⟨plainId_quiet F.plain_sum_loop _, code_sum_lists W adr it start h2 hv (fun i hi => ?_) (fun b hb => ?_) hz h2.objs.size hSf (Nat.le_refl _) items.size 0 _ b 0 rfl (Nat.zero_le _)
    ⟨⟨_, Heap.get?_push_of_some _ (Heap.get?_push_size _ rfl), rfl, rfl⟩, hl.at fun o e => kp l o e⟩ (Heap.get?_push_size _ rfl) ⟨cb, kp _ _ hb⟩ (ne2 hbl) (fun z => ?_) (fun b o _ _ e => Heap.get?_push_of_some _ e) fun h' tk T hk hT ht => ?_⟩
  · obtain ⟨c, e⟩ := hA i hi
    refine ⟨fun z => ?_, c, Heap.get?_push_of_some _ e⟩
    have z : adr i = s.heap.objs.size := by simpa using z
    exact Nat.ne_of_lt (Heap.lt_size e) z
  · have z : b = s.heap.objs.size := by simpa using hb
    rw [z, hs2]
    exact Nat.lt_succ_self _
  · have z : b = s.heap.objs.size := by simpa using z
    exact Nat.ne_of_lt hbl z
  · refine h h' tk T (fun b o e => hk b o (fun z => ?_) (ne2 (Heap.lt_size e)) (kp b o e)) hT (ht.imp id fun z => by rw [hs2] at z; exact Nat.le_of_succ_le z)
    have z : b = s.heap.objs.size := by simpa using z
    exact Nat.ne_of_lt (Heap.lt_size e) z
end
end Cm

/-! Mirrors: sum(xs, ys) of lists. -/
namespace Cm
open PySem PySem.Spec PyProof.Rows L2 Cf
variable [LT]
inductive LL (H : Hp) : List V → List (List V) → Prop
  | nil : LL H [] []
  | cons {q : Addr} {zs : List V} {xs : List V} {zss : List (List V)} : H q = some (.lst zs) → LL H xs zss → LL H (.ref q :: xs) (zs :: zss)
theorem LL.length {H : Hp} : ∀ {xs : List V} {zss : List (List V)}, LL H xs zss → xs.length = zss.length
  | _, _, .nil => rfl
  | _, _, .cons _ r => by rw [List.length_cons, List.length_cons, LL.length r]
theorem LL.get {H : Hp} : ∀ {xs : List V} {zss : List (List V)} {i : Nat} {x : V}, LL H xs zss → xs[i]? = some x → ∃ q zs, x = .ref q ∧ zss[i]? = some zs ∧ H q = some (.lst zs)
  | _, _, _, _, .nil, e => by simp at e
  | _, _, 0, _, .cons (q := q) (zs := zs) h r, e => by
    simp at e
    exact ⟨q, zs, e.symm, rfl, h⟩
  | _, _, i + 1, x, .cons h r, e => by
    obtain ⟨q, zs, e1, e2, e3⟩ := LL.get (i := i) (x := x) r (by simpa using e)
    exact ⟨q, zs, e1, by simpa using e2, e3⟩
def rSumLL : List V → Hp → VK → Prop := fun vs H Q => ∃ (a b : Addr) (xs ys : List V) (zss : List (List V)), vs = [.ref a, .ref b] ∧ H a = some (.lst xs) ∧ H b = some (.lst ys) ∧ LL H xs zss ∧ (ys ++ zss.flatten).length ≤ sizeLine ∧
  (zss.flatten = [] → Q (.ref b) H) ∧ ∀ p, H p = none → Q (.ref p) (upd H p (.lst (ys ++ zss.flatten)))
theorem cr_sumL {X : Cx} (hc : X.calm = true) : CallR X (.builtin "sum") rSumLL := by
  intro pins s σ H vs us Q I r h
  obtain ⟨a, b, xs, ys, zss, rfl, ha, hb, hl, hz, q1, q2⟩ := h
  obtain ⟨u1, u2, rfl, r1, r2⟩ := vals2 r
  cases r1
  cases r2
  obtain ⟨_, its, n, rv, hlen, ea⟩ := I.lstM ha
  obtain ⟨_, st, nb, rb, hlb, eb⟩ := I.lstM hb
  have sk : ∀ i : Nat, ∃ it : List Value, ∀ q zs, xs[i]? = some (.ref q) → zss[i]? = some zs → Vals zs it ∧ ∃ c, IsL s.heap q it.toArray c := fun i => by
    cases e : xs[i]? with
    | none => exact ⟨[], fun q zs h => nomatch h⟩
    | some x =>
      obtain ⟨q, zs, rfl, e2, hq⟩ := hl.get e
      obtain ⟨_, it, c, rz, _, eq⟩ := I.lstM hq
      refine ⟨it, fun q' zs' h1 h2 => ?_⟩
      have h1 := Option.some.inj h1
      cases h1
      rw [e2] at h2
      cases h2
      exact ⟨rz, c, eq⟩
  obtain ⟨it, hit⟩ := Classical.skolem.mp sk
  have hsz : its.toArray.size = zss.length := by rw [List.size_toArray, ← hlen, hl.length]
  have hcat : ∀ i, i ≤ zss.length → Vals (ys ++ (zss.take i).flatten) (catTo it st i) := fun i => by
    induction i with
    | zero =>
      intro _
      rw [List.take_zero, List.flatten_nil, List.append_nil]
      exact rb
    | succ i ih =>
      intro hi
      have hi2 : i < xs.length := by rw [hl.length]; omega
      obtain ⟨q, zs, e1, e2, e3⟩ := hl.get (List.getElem?_eq_getElem hi2)
      have e0 : xs[i]? = some (.ref q) := by rw [List.getElem?_eq_getElem hi2, e1]
      rw [List.take_succ, e2, List.flatten_append, ← List.append_assoc]
      refine (ih (by omega)).append ?_
      show Vals (zs ++ []) _
      rw [List.append_nil]
      exact (hit i q zs e0 e2).1
  have hall := hcat zss.length (Nat.le_refl _)
  rw [List.take_length] at hall
  refine sum_lists (items := its.toArray) (fun i => match xs[i]? with | some (.ref q) => q | _ => 0) it st (I.ok.hd hc) ⟨_, ea, rfl, n, rfl⟩ (fun i v e => ?_) ⟨nb, eb⟩ (fun i hi => ?_) (by rw [hsz, ← hall.length]; exact hz) fun h' tk T hk hT ht => ?_
  · have e2 : its[i]? = some v := by simpa using e
    have hi : i < its.length := (List.getElem?_eq_some_iff.mp e2).1
    have hi2 : i < xs.length := by omega
    obtain ⟨u, eu, ru⟩ := rv.get (List.getElem?_eq_getElem hi2)
    obtain ⟨q, zs, e1, e3, e4⟩ := hl.get (List.getElem?_eq_getElem hi2)
    rw [e2] at eu
    cases eu
    rw [e1] at ru
    cases ru
    rw [List.getElem?_eq_getElem hi2, e1]
  · rw [hsz] at hi
    have hi2 : i < xs.length := by rw [hl.length]; omega
    obtain ⟨q, zs, e1, e3, e4⟩ := hl.get (List.getElem?_eq_getElem hi2)
    have e0 : xs[i]? = some (.ref q) := by rw [List.getElem?_eq_getElem hi2, e1]
    rw [e0]
    exact (hit i q zs e0 e3).2
  · obtain ⟨c, hT⟩ := hT
    rw [hsz] at hT
    rcases ht with rfl | ht
    · have e1 := hk _ _ eb
      rw [hT] at e1
      have e2 : (catTo it st zss.length).toArray = st.toArray := by
        have e3 := Option.some.inj e1
        injection e3 with _ _ e4 _
        injection e4 with e5 _
      have e6 : (catTo it st zss.length).length = st.length := by
        rw [← List.size_toArray, e2, List.size_toArray]
      rw [← hall.length, List.length_append, hlb] at e6
      exact ⟨.ref _, H, I.kept hk, rfl, q1 (List.eq_nil_of_length_eq_zero (by omega))⟩
    · exact ⟨.ref T, _, I.laid (t' := tk) (o := .lst (ys ++ zss.flatten)) (fun b u q => hk b u q) ht ⟨hz, _, c, hall, hT⟩, rfl, q2 T (I.hok.fresh ht)⟩
def lsOf : List PyData → Option (List (List PyData))
  | [] => some []
  | .list ds :: r => (lsOf r).map fun x => ds :: x
  | _ :: _ => none
theorem lsOf_eq : ∀ {ds : List PyData} {dss : List (List PyData)}, lsOf ds = some dss → ds = dss.map .list
  | [], _, e => by cases e; rfl
  | .list ds :: r, _, e => by
    rw [lsOf] at e
    cases q : lsOf r with
    | none => rw [q] at e; cases e
    | some x =>
      rw [q] at e
      cases e
      rw [List.map_cons, lsOf_eq q]
  | .none :: _, _, e => by cases e
  | .bool _ :: _, _, e => by cases e
  | .int _ :: _, _, e => by cases e
  | .str _ :: _, _, e => by cases e
  | .tuple _ :: _, _, e => by cases e
  | .dict _ :: _, _, e => by cases e
omit [LT] in
theorem lsOf_map : ∀ dss : List (List PyData), lsOf (dss.map .list) = some dss
  | [] => rfl
  | d :: r => by rw [List.map_cons, lsOf, lsOf_map r]; rfl
theorem AtL.lists {B H : Hp} (s : Same B H) : ∀ {xs : List V} {dss : List (List PyData)}, AtL B xs (dss.map .list) → ∃ zss, LL H xs zss ∧ AtL B zss.flatten dss.flatten
  | _, [], h => by cases h; exact ⟨[], .nil, .nil⟩
  | _, d :: r, h => by
    cases h with
    | cons a t =>
      obtain ⟨p, ys, rfl, hp, ax⟩ := a.lst_ex
      obtain ⟨zss, h1, h2⟩ := AtL.lists s t
      exact ⟨ys :: zss, .cons (s _ _ hp) h1, ax.append h2⟩
def kSumL : List PyData → Option PyData
  | [.list ds, .list es] => match lsOf ds with
    | some dss => if few (es ++ dss.flatten).length then some (.list (es ++ dss.flatten)) else none
    | none => none
  | _ => none
theorem d_sumL : DA rSumLL kSumL := fun B H xs ds d Q s a e k => by
  unfold kSumL at e
  split at e
  · rename_i ds es
    split at e
    · rename_i dss eq
      split at e
      · rename_i c
        cases e
        have := lsOf_eq eq
        subst this
        cases a with
        | cons a1 r =>
          cases r with
          | cons a2 r =>
            cases r
            obtain ⟨p, xs, rfl, hp, ax⟩ := a1.lst_ex
            obtain ⟨q, ys, rfl, hq, ay⟩ := a2.lst_ex
            obtain ⟨zss, h1, h2⟩ := ax.lists s
            have h3 := ay.append h2
            refine ⟨p, q, xs, ys, zss, rfl, s _ _ hp, s _ _ hq, h1, by rw [h3.length]; exact Nat.le_of_lt (few_line c), fun z => ?_, fun t ht => k _ _ _ (Grow.new s ht) (.lst upd_same (h3.up (same_new (s.free ht))))⟩
            rw [z, List.append_nil] at h3
            exact k _ B H (Grow.refl s) (.lst hq h3)
      · cases e
    · cases e
  · cases e
theorem lookup_relabel {env : Env} : ∀ {names : List (Str × NameKind)} {x : Str}, (names.lookup x = some .cell ∨ names.lookup x = some .free) →
    ((names.map fun (n, k) => if (k == NameKind.free && env.scope.kind == .function && env.kindOf n == some .cell) then (n, NameKind.cell) else (n, k)).lookup x = some .cell ∨
     (names.map fun (n, k) => if (k == NameKind.free && env.scope.kind == .function && env.kindOf n == some .cell) then (n, NameKind.cell) else (n, k)).lookup x = some .free)
  | [], _, h => by simp at h
  | (n, k) :: r, x, h => by
    have ih := @lookup_relabel env r x
    rw [List.map_cons]
    by_cases e : x = n
    · subst e
      rw [List.lookup_cons_self] at h
      by_cases c : (k == NameKind.free && env.scope.kind == .function && env.kindOf x == some .cell) = true
      · left
        simp only [c, if_true, List.lookup_cons_self]
      · simp only [c, if_false, List.lookup_cons_self, Bool.false_eq_true]
        exact h
    · have e2 : (x == n) = false := beq_false_of_ne e
      rw [List.lookup_cons, e2] at h
      have i2 := ih h
      by_cases c : (k == NameKind.free && env.scope.kind == .function && env.kindOf n == some .cell) = true
      · simp only [c, if_true, List.lookup_cons, e2]
        exact i2
      · simp only [c, if_false, List.lookup_cons, e2, Bool.false_eq_true]
        exact i2
/-- a block within a block -/
theorem blkOk_n {X : Cx} {s : Shared} {H : Hp} {sc scope : Scope} {C : Addr} {cl : List (Str × Addr)} {fp : List Addr} {own : List (Str × Nat)} (h : BlkOk X.N sc scope own) : BlkOk (X.blk s H sc (compEnvC sc cl C X.env) fp).N (X.blk s H sc (compEnvC sc cl C X.env) fp).env.scope scope own :=
  ⟨h.kind, h.uniq, h.ix, fun y hy e => lookup_relabel (h.free y hy e), h.own⟩
end Cm

/-! Steps of the mirrors of M19, M20. -/
namespace Cm
open PySem PySem.Spec PyProof.Rows L2 Cf
section
variable {P : PyData → List SV → Prop} {PB : Bool → List SV → Prop} {PV : SV → List SV → Prop} {PL : List PyData → List SV → Prop} {ss : List SV} {f : M PyData} {fs : List (M PyData)} {fa : M (List PyData)} {N B C : List SV → Prop} {T : SV → List SV → Prop} {d : PyData} {ds : List PyData} {i : Nat} {lb : Option Nat} {acc x y : Str}
theorem W_index : W (mIndex f fa ss) P ↔ W (f ss) fun d s => L (asL d) s fun ds s => W (fa s) fun as s => L (kIdx ds as) s P := by
  unfold mIndex
  simp only [W_bind, W_lift, W_itL]
theorem W_popG (hs : ss[i]? = some (.own lb (ds ++ [d]))) : W (mPop i ss) P ↔ P d (ss.set i (.own lb ds)) := by
  unfold mPop
  rw [hs]
  dsimp only
  rw [List.getLast?_concat]
  dsimp only
  rw [List.dropLast_concat]
  exact Iff.rfl
def Ext (i : Nat) (d : PyData) (ss : List SV) (N : List SV → Prop) : Prop := ∃ lb ds es, ss[i]? = some (.own lb ds) ∧ d = .list es ∧ ds.length + es.length ≤ 1000000 ∧ N (ss.set i (.own lb (ds ++ es)))
theorem WS_extG (h : isOwn ss[i]? = true) : W (f ss) (fun d s => Ext i d s N) → WS (sExt i f ss) N T B C := fun q => by
  unfold sExt
  cases e : ss[i]? with
  | none => rw [e] at h; cases h
  | some z =>
    cases z with
    | own lb ds =>
      dsimp only
      rw [WS_eseq]
      refine W_mono q fun d s ⟨lb, ds, es, h1, h2, h3, h4⟩ => ?_
      subst h2
      rw [h1]
      dsimp only
      rw [if_pos (few_of h3)]
      exact h4
    | _ => rw [e] at h; cases h
theorem W_truPG (hs : ss[i]? = some (.own lb ds)) : W (mTruP i ss) PB ↔ PB (!ds.isEmpty) ss := by
  unfold mTruP
  rw [hs]
  exact Iff.rfl
theorem W_ixNG {k : Int} (hs : ss[i]? = some (.own lb ds)) : W (mIxP i (m1 kNeg (mC (.int k))) ss) P ↔ L (atI ds (-k)) ss P := by
  have e : mIxP i (m1 kNeg (mC (.int k))) ss = match atI ds (-k) with | some d => some (R.val d ss) | none => none := by
    unfold mIxP
    rw [hs]
    show (match ss[i]? with | some (SV.own _ ds) => (match PyData.int (-k) with | .int k => (match atI ds k with | some d => some (R.val d ss) | none => none) | _ => none) | _ => none) = _
    rw [hs]
  rw [e]
  unfold L
  cases atI ds (-k) <;> simp [W]
theorem L_fmtS : L (kFmt (.str x)) ss P ↔ x.length ≤ 1000000 ∧ P (.str x) ss := by
  unfold kFmt few
  by_cases h : x.length ≤ 1000000
  · simp [h, L]
  · simp [h, L]
theorem L_addS : L (kAddS (.str x) (.str y)) ss P ↔ x.length + y.length ≤ 1000000 ∧ P (.str (x ++ y)) ss := by
  unfold kAddS few
  by_cases h : x.length + y.length ≤ 1000000
  · simp [h, L]
  · simp [h, L]
def Js (acc : Str) (fs : List (M PyData)) (d : PyData) (s : List SV) (P : PyData → List SV → Prop) : Prop := ∃ y, d = .str y ∧ acc.length + y.length ≤ 1000000 ∧ W (mJs fs (acc ++ y) s) P
theorem W_js : W (mJs (f :: fs) acc ss) P ↔ W (f ss) fun d s => Js acc fs d s P := by
  have e : ∀ d s, W ((match d with | .str y => if few (acc.length + y.length) then mJs fs (acc ++ y) else fun _ => none | _ => fun _ => none : M PyData) s) P ↔ Js acc fs d s P := fun d s => by
    unfold Js few
    cases d with
    | str y =>
      dsimp only
      by_cases h : acc.length + y.length ≤ 1000000
      · simp [h]
      · simp [h, W]
    | _ => simp [W]
  show W (M.bind f _ ss) P ↔ _
  rw [W_bind]
  exact ⟨fun h => W_mono h fun d s hd => (e d s).mp hd, fun h => W_mono h fun d s hd => (e d s).mpr hd⟩
theorem Js_str : Js acc fs (.str y) ss P ↔ acc.length + y.length ≤ 1000000 ∧ W (mJs fs (acc ++ y) ss) P := by
  unfold Js
  constructor
  · rintro ⟨z, e, h⟩
    cases e
    exact h
  · exact fun h => ⟨y, rfl, h⟩
theorem W_js0 : W (mJs [] acc ss) P ↔ P (.str acc) ss := Iff.rfl
theorem L_enT : L (kEnT [.str x]) ss PL ↔ PL (enumD (signsD x)) ss := by simp [kEnT, L]
theorem L_is : L (kitB (kindD (.str x)) "str") ss PB ↔ PB true ss := by rw [show kitB (kindD (.str x)) "str" = some true by show kitB "str" "str" = _; decide +kernel]; exact L_some
theorem L_sumL {dss : List (List PyData)} : L (kSumL [.list (dss.map .list), .list ds]) ss P ↔ (ds ++ dss.flatten).length ≤ 1000000 ∧ P (.list (ds ++ dss.flatten)) ss := by
  unfold kSumL few
  dsimp only
  rw [lsOf_map]
  dsimp only
  generalize (ds ++ dss.flatten) = z
  by_cases h : z.length ≤ 1000000
  · simp [h, L]
  · simp [h, L]
theorem flat_ints : ∀ ns : List Int, (ns.map PyData.int).all flatD = true
  | [] => rfl
  | n :: ns => by rw [List.map_cons, List.all_cons, flat_ints ns]; rfl
theorem eqF_int {a b : Int} : eqF (.int a) (.int b) = decide (a = b) := by
  show eqV (.int a) (.int b) = _
  unfold eqV
  by_cases h : a = b
  · simp [h]
  · simp [h]
theorem idx_at : ∀ {ns : List Int} {k : Int} {n : Nat}, ns[n]? = some k → (∀ m d, m < n → ns[m]? = some d → d ≠ k) → idxF (ns.map .int) (.int k) = some n
  | [], k, n, h, _ => by simp at h
  | a :: ns, k, 0, h, _ => by
    have e : a = k := by simpa using h
    unfold idxF
    rw [List.map_cons, List.findIdx?_cons, eqF_int, e]
    simp
  | a :: ns, k, n + 1, h, hn => by
    have e := idx_at (ns := ns) (k := k) (n := n) (by simpa using h) fun m d hm hd => hn (m + 1) d (by omega) (by simpa using hd)
    have h0 : a ≠ k := hn 0 a (by omega) rfl
    unfold idxF at e ⊢
    rw [List.map_cons, List.findIdx?_cons, eqF_int, decide_eq_false h0, e]
    rfl
theorem L_idx {ns : List Int} {k : Int} {n : Nat} (h : ns[n]? = some k) (hn : ∀ m d, m < n → ns[m]? = some d → d ≠ k) : L (kIdx (ns.map .int) [.int k]) ss P ↔ P (.int (n : Nat)) ss := by
  have e : kIdx (ns.map .int) [.int k] = some (.int (n : Nat)) := by
    unfold kIdx
    dsimp only
    rw [flat_ints, idx_at h hn]
    rfl
  rw [e]
  exact L_some
end
end Cm

/-! Mirrors: except A as e; what a def's run takes of errors. -/
namespace Cm
open PySem PySem.Spec PyProof.Rows L2 Cf
variable [LT]
/-- try: .. except A as n: y = n; g: of the classes that may come, whether they are caught -/
def sTryG (mg : Str → Option Value) (g : Str → Option Bool) (N j : Nat) (f : S) : S := fun ss => match f ss with
  | some (.ex c fs) => match g c with
    | some true => some (.nx ((List.replicate N .gone).set j (.oth (.exc mg c fs))))
    | some false => some (.ex c fs)
    | none => none
  | o => o
section
variable {X : Cx} {E : XK}
theorem s_try1 {g : Str → Option Bool} {C0 : Addr} {xC : Str} {np pos pos' : Pos} {n : Str} {i j : Nat} {b0 : Stmt} {bst : List Stmt} {f : S}
    (hstk : X.stack = X.env :: X.outer) (hloc : X.env.frame = some X.env.locals) (hnd : X.N.Nodup) (hi : X.N[i]? = some n) (hln : X.env.kindOf n = some .local) (hij : i ≠ j) (hj : j < X.N.length)
    (tk : Takes X (fun cls d _ H => E cls d H)) (hex0 : X.ex = []) (hgC : Gl X xC) (hdC : (xC == ("__debug__" : Str)) = false) (hmC : X.mg xC = some (.ref C0))
    (hex : ∀ c C b, g c = some b → X.mg c = some (.ref C) → PySem.W.exmOne X.K (.ref C) (.ref C0) = some b)
    (hb : ∀ (E' : XK) (pn : List (Addr × Obj)) (xe : Value → Shared → Prop), Takes (X.tr pn xe) (fun cls d _ H => E' cls d H) → PassesOwn (model X.prog X.w) X.A X.env xe → PSs (X.tr pn xe) bst (tS X.mg E' f))
    (hsu : ∀ (a : Addr) (pn : List (Addr × Obj)), PS (X.suite a pn) b0 (tAsg (tVar i) (gName j))) :
    PS X (.Try bst [.ExceptHandler (some (.Name xC np)) (some n) [b0] pos'] [] [] pos) (tS X.mg E (sTryG X.mg g X.N.length j f)) := by
  refine ⟨fun pins s0 σ0 H0 D I0 hh => ?_⟩
  obtain ⟨A, B, ss, fp, ok, h⟩ := hh
  have xok := I0.ok
  have frm : X.A.frames = some (X.env :: X.outer) := by rw [xok.frames, hstk]
  -- what is wanted of an error of the body
  let G : Value → Option Addr → L2.St → Hp → Prop := fun cls d σ H => ∃ b C, cls = .ref C ∧ PySem.W.exmOne X.K cls (.ref C0) = some b ∧
    (b = true → ∀ a, H a = none → D.nx (((σ.set i (some (.ref a))).set j (some (.ref a))).set i none) (upd H a (excO a C d))) ∧ (b = false → E cls d H)
  let E' : XK := fun cls d H => ∀ σ : L2.St, σ.length = X.N.length → G cls d σ H
  have body : ResS X.mg E' A B fp H0 (f ss) D := by
    unfold sTryG at h
    cases q : f ss with
    | none => rw [q] at h; exact h
    | some o =>
      rw [q] at h
      cases o with
      | nx s2 => exact h
      | bk s2 => exact h
      | ct s2 => exact h
      | rt r s2 => exact h
      | ex c fs =>
        dsimp only at h
        cases k1 : g c with
        | some bb =>
          rw [k1] at h
          intro C dv B2 H2 em gg sm xa σ hσ
          refine ⟨bb, C, rfl, hex c C bb k1 em, fun hb a na => ?_, fun hb => ?_⟩
          · rw [hb] at h
            have nb : B2 a = none := sm.free na
            have sm3 : Same (upd B2 a (excO a C dv)) (upd H2 a (excO a C dv)) := (Grow.new (o := excO a C dv) sm na).bh
            have hl3 : (((σ.set i (some (.ref a))).set j (some (.ref a))).set i none).length = X.N.length := by rw [List.length_set, List.length_set, List.length_set]; exact hσ
            have g2 : Gr fp noFp B H0 (upd B2 a (excO a C dv)) (upd H2 a (excO a C dv)) := gg.trans (Grow.new sm na).gr
            refine h _ _ _ noFp g2 ⟨sm3, by rw [hl3, List.length_set, List.length_replicate], fun m t et => ?_, fun _ _ _ y => (nomatch y), fun _ _ => rfl, ok.tbUp g2⟩
            by_cases cj : m = j
            · subst cj
              rw [List.getElem?_set_self (by rw [List.length_replicate]; exact hj)] at et
              cases et
              rw [List.getElem?_set_ne hij, List.getElem?_set_self (by rw [List.length_set, hσ]; exact hj)]
              exact ⟨rfl, .ref a, rfl, a, C, dv, rfl, em, upd_same, xa.up (same_new nb)⟩
            · rw [List.getElem?_set_ne (Ne.symm cj), List.getElem?_replicate] at et
              split at et
              · cases et
                exact rfl
              · cases et
          · rw [hb] at h
            exact h C dv B2 H2 em gg sm xa
        | none =>
          rw [k1] at h
          exact h.elim
  refine wpAny_Try_except ?_
  refine wpAny_mono ((hb E' (X.pn ++ pins) _ (fun u s1 hxe => ?_) PassesOwn.looking).run [] s0 σ0 H0 D (I0.toTry _) ⟨A, B, ss, fp, ok, body⟩) (fun fl s1 q1 => ?_) fun e s1 q1 => q1
  · -- an error is in the air
    obtain ⟨a, gr, sI, pins2, σ1, H1, cls, d, rfl, JI, keepG, up1, sky, na, os1, bare1, wish⟩ := hxe
    have JX : Inv X pins σ1 H1 sI := JI.ofTry xok
    obtain ⟨b, C, ecls, hm, yes, no⟩ := wish σ1 JX.len
    have sky2 : Sky gr (X.env :: X.outer) a (Zc cls d) X.env.locals s1.heap := by rw [← hstk]; exact sky
    show wpAny (model X.prog X.w) X.A (noteFrame (.ref a) X.env) _ _ _
    refine Sky.land Zc.steady frm hloc sky2 fun hA flA upA => ?_
    have JA : Inv X pins σ1 H1 { s1 with heap := hA } := JX.landed keepG flA.1 (up1.trans upA) os1 bare1
    obtain ⟨oA, vA, eA, zA, dA⟩ := flA.there
    -- where it does not stand
    have offFr : a ∉ frs (X.env :: X.outer) := fun hmem => by
      obtain ⟨_, o2, e2, hnf⟩ := flA.2.2.1.mem hmem
      rw [eA] at e2
      cases e2
      exact hnf _ dA
    have offL : a ≠ X.env.locals := fun y => offFr (List.mem_filterMap.mpr ⟨X.env, List.mem_cons_self, by rw [hloc, y]⟩)
    have offF : a ∉ X.fs := fun hmem => by
      obtain ⟨e, he, q⟩ := List.mem_filterMap.mp hmem
      exact offFr (List.mem_filterMap.mpr ⟨e, List.mem_cons_of_mem _ he, q⟩)
    have offI : sI.heap.get? a = none := by
      cases q : sI.heap.get? a with
      | none => rfl
      | some o =>
        have y := keepG a o q (by rw [hstk]; exact offFr)
        rw [flA.2.1] at y
        cases y
    have off0 : X.s_0.heap.get? a = none := by
      cases q : X.s_0.heap.get? a with
      | none => rfl
      | some o =>
        obtain ⟨o2, e2⟩ := JX.base.there a o q (by rw [hex0]; exact List.not_mem_nil)
        rw [offI] at e2
        cases e2
    have offC : ∀ x c, X.env.cells.lookup x = some c → c ≠ a := fun x c e y => by
      obtain ⟨v, o, e2, _⟩ := JX.cell x c e
      rw [y, offI] at e2
      cases e2
    have offP : ∀ p ∈ X.pn ++ pins, p.1 ≠ a := fun p hp y => by
      have e2 := (JX.pin p hp).1
      rw [y, offI] at e2
      cases e2
    have SA := JA.suite eA dA na offL offF
    refine wpAny_handleBy_cons (codeAny_handlers_test ?_) (by intro q; cases q)
    refine ld_glob (X := X.suite a ((a, oA) :: (X.pn ++ pins))) SA hgC hmC ?_ hdC
    have LT : PySem.W.Looks (model X.prog X.w) hA (typeOf (.ref a)) cls := fun A Q E s k q => wpAny_typeOf_ref (k _ _ eA) (by rw [zA.1]; exact q)
    have flB := flA
    have upB : hA.UpToSlots hA := fun b o e _ => ⟨o.slots, e⟩
    refine (PySem.W.exm_one (K := X.K) (JA.kIn) LT hm).here ?_
    cases b with
    | true =>
      refine codeAny_handlers_suite_as ?_
      refine HandSPX.lands_againZ flB fun hD flD upD => ?_
      have JD : Inv X pins σ1 H1 { s1 with heap := hD } := JX.landed keepG flD.1 (((up1.trans upA).trans upB).trans upD) os1 bare1
      obtain ⟨oD, vD, eD, zD, dD⟩ := flD.there
      have SD := JD.suite eD dD na offL offF
      refine store_ok (X := X.suite a ((a, oD) :: (X.pn ++ pins))) (v := .ref a) SD hnd hi (.inl hln) rfl (fun s5 S5 => ?_) (.inr hln)
      have hiσ : i < σ1.length := by rw [JX.len]; exact (List.getElem?_eq_some_iff.mp hi).1
      have wish2 := yes rfl a na
      refine wpAny_mono ((pss_cons (hsu a ((a, oD) :: (X.pn ++ pins))) pss_nil).run [] s5 _ H1 { nx := fun σ H => σ = (σ1.set i (some (.ref a))).set j (some (.ref a)) ∧ H = H1, rt := fun _ _ => False } S5 ⟨.ref a, List.getElem?_set_self hiσ, rfl, rfl⟩) (fun fl s6 q6 => ?_) (fun _ _ z => False.elim z)
      cases fl with
      | next =>
        obtain ⟨σ6, H6, S6, rfl, rfl⟩ := q6
        have all6 : ∀ p ∈ X.pn ++ ((a, oD) :: pins), p ∈ ((a, oD) :: (X.pn ++ pins)) ++ [] := fun p hp => by
          rw [List.append_nil]
          rcases List.mem_append.mp hp with z | z
          · exact List.mem_cons_of_mem _ (List.mem_append_left _ z)
          · rcases List.mem_cons.mp z with z | z
            · rw [z]
              exact List.mem_cons_self
            · exact List.mem_cons_of_mem _ (List.mem_append_right _ z)
        have J6 : Inv X ((a, oD) :: pins) _ _ s6 := ⟨xok, S6.os, S6.bare, S6.base, S6.loc, S6.cell, S6.free, S6.freeC, fun p hp => S6.pin p (all6 p hp), S6.hok, S6.len⟩
        refine gone_ok J6 hnd hi hln fun s7 J7 => ?_
        have e7 : s7.heap.get? a = some oD := (J7.pin (a, oD) (List.mem_append_right _ List.mem_cons_self)).1
        have J8 : Inv X pins _ _ s7 := ⟨xok, J7.os, J7.bare, J7.base, J7.loc, J7.cell, J7.free, J7.freeC, fun p hp => J7.pin p (by
          rcases List.mem_append.mp hp with z | z
          · exact List.mem_append_left _ z
          · exact List.mem_append_right _ (List.mem_cons_of_mem _ z)), J7.hok, J7.len⟩
        exact ⟨_, _, inv_track (d := ⟨_, dD⟩) (z := by rw [ecls] at zD; exact zD) J8 na e7 off0 offL offC offP, wish2⟩
      | brk =>
        obtain ⟨_, _, _, q⟩ := q6
        exact q.elim
      | cont =>
        obtain ⟨_, _, _, q⟩ := q6
        exact q.elim
      | ret u =>
        obtain ⟨_, _, _, _, _, q⟩ := q6
        exact q.elim
    | false =>
      show wpAny _ X.A (handleBy (.ref a) X.env []) _ _ _
      refine wpAny_handleBy_nil ?_
      obtain ⟨k1, k2, k3, oe, vs, T, oT, ts', he, hz, hd, h1, hr⟩ := id flB
      unfold PySem.passOn
      refine wpAny_bind (wpAny_field he hd h1 ?_)
      have nT : ¬ ((Value.ref T == Value.none) = true) := by simp
      rw [if_neg nT]
      have out : wpAny (model X.prog X.w) X.A (setFlight (.ref a) X.env.frame) (fun _ s4 => wpAny (model X.prog X.w) X.A (throw (.ref a) : Sem Flow) (SP X pins D) X.xe s4) X.xe { s1 with heap := hA } := by
        rw [hloc]
        refine HandSPX.setFlight_upZ flB fun h4 hh4 up4 => wpAny_throw (tk _ _ ?_)
        exact ⟨a, gr, sI, pins, σ1, H1, cls, d, rfl, JX, keepG, ((up1.trans upA).trans upB).trans up4, .inr (.inr (by rw [hstk]; exact hh4)), na, os1, bare1, no rfl⟩
      first
        | exact wpAny_bind (wpAny_pure (wpAny_bind out))
        | exact wpAny_bind out
  · cases fl with
    | next =>
      obtain ⟨σ', H', J', q⟩ := q1
      exact wpAny_execs_nil ⟨σ', H', J'.ofTry xok, q⟩
    | brk =>
      obtain ⟨σ', H', J', q⟩ := q1
      exact ⟨σ', H', J'.ofTry xok, q⟩
    | cont =>
      obtain ⟨σ', H', J', q⟩ := q1
      exact ⟨σ', H', J'.ofTry xok, q⟩
    | ret u =>
      obtain ⟨v, σ', H', J', r, q⟩ := q1
      exact ⟨v, σ', H', J'.ofTry xok, r, q⟩
end

/-! ### facts of several classes -/
inductive KnowX (K : PySem.W.Frag) (mg : Str → Option Value) (C0 : Addr) : List (Str × Bool) → Prop
  | nil : KnowX K mg C0 []
  | cons {c : Str} {C : Addr} {b : Bool} {l : List (Str × Bool)} (nm : mg c = some (.ref C)) (e : PySem.W.exmOne K (.ref C) (.ref C0) = some b) (r : KnowX K mg C0 l) : KnowX K mg C0 ((c, b) :: l)
theorem KnowX.hex {K : PySem.W.Frag} {mg : Str → Option Value} {C0 : Addr} : ∀ {l : List (Str × Bool)}, KnowX K mg C0 l → ∀ c C b, l.lookup c = some b → mg c = some (.ref C) → PySem.W.exmOne K (.ref C) (.ref C0) = some b
  | _, .nil, c, C, b, e, m => by cases e
  | _, .cons (c := c0) nm e0 r, c, C, b, e, m => by
    rw [List.lookup_cons] at e
    by_cases h : c = c0
    · subst h
      simp only [beq_self_eq_true, if_true] at e
      cases e
      rw [nm] at m
      cases m
      exact e0
    · have h2 : (c == c0) = false := beq_false_of_ne h
      rw [h2] at e
      exact r.hex c C b e m
inductive KnowIs (K : PySem.W.Frag) (mg : Str → Option Value) (cv : Value) : List (Str × Bool) → Prop
  | nil : KnowIs K mg cv []
  | cons {c : Str} {C : Addr} {b : Bool} {l : List (Str × Bool)} (nm : mg c = some (.ref C)) (i : ExcC K C) (e : PySem.W.kitOne K (.ref C) cv = some b) (r : KnowIs K mg cv l) : KnowIs K mg cv ((c, b) :: l)
theorem KnowIs.hT {K : PySem.W.Frag} {mg : Str → Option Value} {cv : Value} : ∀ {l : List (Str × Bool)}, KnowIs K mg cv l → ∀ n C b, l.lookup n = some b → mg n = some (.ref C) → ExcC K C ∧ PySem.W.kitOne K (.ref C) cv = some b
  | _, .nil, c, C, b, e, m => by cases e
  | _, .cons (c := c0) nm i e0 r, c, C, b, e, m => by
    rw [List.lookup_cons] at e
    by_cases h : c = c0
    · subst h
      simp only [beq_self_eq_true, if_true] at e
      cases e
      rw [nm] at m
      cases m
      exact ⟨i, e0⟩
    · have h2 : (c == c0) = false := beq_false_of_ne h
      rw [h2] at e
      exact r.hT c C b e m
inductive KnowF (K : PySem.W.Frag) (mg : Str → Option Value) (f : Str) : List Str → Prop
  | nil : KnowF K mg f []
  | cons {c : Str} {C : Addr} {l : List Str} (nm : mg c = some (.ref C)) (x : XfC K C) (e : PySem.W.findIn K (.ref C) f = some none) (r : KnowF K mg f l) : KnowF K mg f (c :: l)
theorem KnowF.hT {K : PySem.W.Frag} {mg : Str → Option Value} {f : Str} : ∀ {l : List Str}, KnowF K mg f l → ∀ n C, l.contains n = true → mg n = some (.ref C) → XfC K C ∧ PySem.W.findIn K (.ref C) f = some none
  | _, .nil, c, C, e, m => by cases e
  | _, .cons (c := c0) nm x e0 r, c, C, e, m => by
    rw [List.contains_cons, Bool.or_eq_true] at e
    by_cases h : c = c0
    · subst h
      rw [nm] at m
      cases m
      exact ⟨x, e0⟩
    · exact r.hT c C (e.resolve_left (by simpa using h)) m

/-! ### what a def's run takes of errors -/
section
variable {P : Program} {w : World} {K : PySem.W.Frag} {mg : Str → Option Value} {base : Heap} {N : List Str} {qual : Str} {sc : Scope} {f : Addr} {cdv : Value} {A : Around} {out : List Env} {s : Shared} {H : Hp} {E : XK}
theorem takesX : Takes (cxOf (L2.CX P w) P w K mg base N qual sc f cdv A out s H E) (fun cls d _ H => E cls d H) := takes_of (E := E) rfl rfl rfl rfl
end
theorem passT {X : Cx} {E : XK} (tk : Takes X (fun cls d _ H => E cls d H)) : Passes (L2.CX X.prog X.w) X E := fun pins σ H1 s1 e s2 I h => passes_call tk (fun _ _ _ _ h => h) pins σ H1 s1 e s2 I h

/-! ### __init__ of an own error -/
section
variable {P : Program} {w : World} {K : PySem.W.Frag} {mg : Str → Option Value} {base : Heap} {c f q : Str} {okx : V → Prop} {C fI : Addr} {fd : FuncData} {st : Stmt} {N : List Str}
theorem init_ok2 {te : TE} (F : Fun K "__init__" q st fI fd) (S : FnScope N ["self", f] (defScope st)) (ox : OexC K C) (no : PySem.W.findIn K (.ref C) f = some none)
    (hx : ∀ cdv A outer s H E, PSs (cxOf L2.CX0 P w K mg base N q (defScope st) fI cdv A outer s H E).nox (defBody st) (tInit K f te))
    (ht : ∀ a y, okx y → ∀ σ H, σ[0]? = some (some (.ref a)) → σ[1]? = some (some y) → ∀ Q : VK, (∀ z : Str, Q (.str z) H) → te σ H Q) :
    FnOk P w K mg base C8.CX0 1 fI fd ["self", f] (spI C f okx) := by
  refine F.ok S (fun vs H Q E ⟨a, y, e, _⟩ => by rw [e]; rfl) fun cdv A outer s H vs Q E hr ⟨a, y, e, hy, ha, hq⟩ => ?_
  subst e
  refine ⟨_, hx _ _ _ _ _ _, ?_⟩
  have s0 : (L2.start N [V.ref a, y])[0]? = some (some (.ref a)) := rfl
  have s1 : (L2.start N [V.ref a, y])[1]? = some (some y) := rfl
  refine ⟨_, s0, ht a y hy _ _ s0 s1 _ fun z => ⟨a, C, [.str z], rfl, by show 1 ≤ 1000; decide, ox, ha, ?_⟩⟩
  exact ⟨y, s1, .ref a, s0, a, C, rfl, ox, no, .inl ⟨ha, fun dx n ne => hq dx n ne⟩⟩
/-- f"..{x}.." -/
def teF (a b : Str) : TE := fun σ H Q => tJs [tC (.str a), tFmtN (tVar 1), tC (.str b)] Str.empty σ H fun out H1 => Q (.str out) H1
def okF : V → Prop
  | .non => True
  | .int i => i.natAbs < 10 ^ 30
  | _ => False
def okFd : PyData → Bool
  | .none => true
  | .int i => decide (i.natAbs < 10 ^ 30)
  | _ => false
theorem okF_of : ∀ B v d, At B v d → okFd d = true → okF v := fun B v d a h => by
  cases a with
  | non => trivial
  | int i =>
    show i.natAbs < 10 ^ 30
    exact of_decide_eq_true h
  | _ => cases h
theorem te_ok {a b : Str} (ha : a.length ≤ 1000) (hb : b.length ≤ 1000) : ∀ (x : Addr) y, okF y → ∀ σ H, σ[0]? = some (some (.ref x)) → σ[1]? = some (some y) → ∀ Q : VK, (∀ z : Str, Q (.str z) H) → teF a b σ H Q := by
  intro x y hy σ H s0 s1 Q q
  have line : ∀ n : Nat, n ≤ 3000 → n ≤ sizeLine := fun n h => by rw [sizeLine_eq]; omega
  have e0 : (Str.empty ++ a).length ≤ sizeLine := by rw [Str.empty_append]; exact line _ (by omega)
  refine ⟨a, rfl, e0, ?_⟩
  rw [Str.empty_append]
  cases y with
  | non =>
    have e3 : (("None" : Str)).length = 4 := by decide +kernel
    refine ⟨_, s1, .inl ⟨rfl, _, rfl, by rw [Str.length_append, e3]; exact line _ (by omega), b, rfl, by rw [Str.length_append, Str.length_append, e3]; exact line _ (by omega), q _⟩⟩
  | int i =>
    have hi : i.natAbs < 10 ^ 30 := hy
    have e3 : (PySem.Str.ofString (toString i)).length ≤ 31 := by
      rw [PySem.ofString_length]
      exact int_text_length_le10 (k := 30) (by decide) hi
    have e2 : i.natAbs.log2 < 1920 := by
      by_cases z : i.natAbs = 0
      · rw [z]
        decide
      · have h2 : i.natAbs < 2 ^ 100 := Nat.lt_of_lt_of_le hi (by decide)
        have := (Nat.log2_lt z).mpr h2
        omega
    refine ⟨_, s1, .inr ⟨i, rfl, e2, _, rfl, ?_, b, rfl, ?_, q _⟩⟩
    · rw [Str.length_append]
      exact line _ (by have := e3; omega)
    · rw [Str.length_append, Str.length_append]
      exact line _ (by have := e3; omega)
  | _ => exact hy.elim
theorem err_mk {dd : Option Addr} {cd : ClassData} {sl : Array (Option Value)} (nm : mg c = some (.ref C)) (lk : K.lookup C = some ⟨.type "type", dd, .cls cd, sl⟩) (q1 : oexB C cd sl = true)
    (sa : PySem.W.findIn K (.ref C) "__setattr__" = some (some (.builtin "object.__setattr__"))) (ex : PySem.W.subIn K (.ref C) (.type "BaseException") = some true) (ty : PySem.W.typeIn K (.ref C) = some (.type "type")) (kp : PySem.W.keepIn K (.ref C) = true)
    (ga : PySem.W.findIn K (.ref C) "__getattribute__" = some (some (.builtin "BaseException.__getattribute__"))) (gg : PySem.W.findIn K (.ref C) "__getattr__" = some none) (hd : PySem.W.hasDictIn K C = true) (no : PySem.W.findIn K (.ref C) f = some none) (e1 : PySem.W.findIn K (.ref C) "__class__" = some (some (.builtin "object.__class__"))) (e2 : PySem.W.specialIn K (.builtin "object.__class__") "__get__" = some (some (.builtin "getset_descriptor.__get__")))
    (e3 : PySem.W.takesIn K (.builtin "object.__class__") = some true) (e4 : PySem.W.mroIn K C (.type "object") = some true)
    (i1 : PySem.W.findIn K (.ref C) "__init__" = some (some (.ref fI))) (i2 : PySem.W.typeIn K (.ref fI) = some (.type "function"))
    (ok : OexC K C → FnOk P w K mg base C8.CX0 1 fI fd ["self", f] (spI C f okx)) (b : Binds K fd ["self", f] []) : ErrC P w K mg base c f okx C :=
  have ox := oexC_mk lk q1 sa ex ty kp
  have xf : XfC K C := ⟨ga, gg, ex, hd⟩
  ⟨ox, xf, no, ⟨xf.ga, xf.gg, xf.exC, xf.hdC, e1, e2, e3, e4⟩, ⟨fI, fd, i1, i2, ok ox, b⟩, nm⟩
end
theorem kit_sub {K : PySem.W.Frag} {C : Addr} {T : String} {b : Bool} (hm : PySem.W.kitMeta T = true) (h : PySem.W.subIn K (.ref C) (.type T) = some b) : PySem.W.kitOne K (.ref C) (.type T) = some b := by
  show (if ((Value.ref C == Value.type T) = true) then some true else if PySem.W.kitMeta T = true then PySem.W.subIn K (.ref C) (.type T) else none) = some b
  rw [if_neg (by intro z; have := beq_iff_eq.mp z; cases this), if_pos hm]
  exact h
/-- the first statement of a class -/
def iniOf : Stmt → Stmt
  | .ClassDef (body := x :: _) .. => x
  | x => x
def okA : V → Prop := fun _ => True
def okAd : PyData → Bool := fun _ => true
theorem okA_of : ∀ B v d, At B v d → okAd d = true → okA v := fun _ _ _ _ _ => trivial
/-- x is not None -/
def mIsNotNE (i : Nat) : M PyData := fun ss => match ss[i]? with
  | some (.dat d) => some (.val (.bool (!isNone d)) ss)
  | some (.oth (.exc _ _ _)) => some (.val (.bool true) ss)
  | _ => none
theorem m_isNotNE {X : Cx} {E : XK} {i : Nat} {p pos p2 : Pos} {n : Str} (hv : PE X (.Name n p) (tVar i)) : PE X (.Compare (.Name n p) [.IsNot] [.Constant .none 0 p2] pos) (tM X.mg E (mIsNotNE i)) := by
  refine PE.imp (pe_cmpR op_notN hv pe_non (by rfl)) fun σ H Q ⟨A, B, ss, fp, ok, h⟩ => ?_
  unfold mIsNotNE at h
  split at h
  · rename_i d ed
    obtain ⟨x, ex, a⟩ := ok.dat ed
    refine ⟨x, ex, rfl, ?_⟩
    rw [isNone_at a]
    exact h.now ok _ (.bl _)
  · rename_i mg' c fs ed
    obtain ⟨x, ex, a, C, dv, rfl, _⟩ := ok.oth ed
    exact ⟨_, ex, rfl, h.now ok _ (.bl _)⟩
  · exact h.elim
theorem m_tisNE {X : Cx} {E : XK} {i : Nat} {p pos p2 : Pos} {n : Str} (hv : PE X (.Name n p) (tVar i)) : PT X (.Compare (.Name n p) [.Is] [.Constant .none 0 p2] pos) (tT X.mg E (mB (mIsNE i))) := by
  refine PT.imp (pt_cmpR op_isN hv pe_non (by rfl)) fun σ H Q h => ?_
  obtain ⟨A, B, ss, fp, ok, h⟩ := tTest_of h
  unfold mIsNE at h
  split at h
  · rename_i d ed
    obtain ⟨x, ex, a⟩ := ok.dat ed
    refine ⟨x, ex, rfl, ?_⟩
    rw [isNone_at a]
    exact h.now ok _ (.bl _)
  · rename_i mg' c fs ed
    obtain ⟨x, ex, a, C, dv, rfl, _⟩ := ok.oth ed
    exact ⟨_, ex, rfl, h.now ok _ (.bl _)⟩
  · exact h.elim
theorem m_tisNotNE {X : Cx} {E : XK} {i : Nat} {p pos p2 : Pos} {n : Str} (hv : PE X (.Name n p) (tVar i)) : PT X (.Compare (.Name n p) [.IsNot] [.Constant .none 0 p2] pos) (tT X.mg E (mB (mIsNotNE i))) := by
  refine PT.imp (pt_cmpR op_notN hv pe_non (by rfl)) fun σ H Q h => ?_
  obtain ⟨A, B, ss, fp, ok, h⟩ := tTest_of h
  unfold mIsNotNE at h
  split at h
  · rename_i d ed
    obtain ⟨x, ex, a⟩ := ok.dat ed
    refine ⟨x, ex, rfl, ?_⟩
    rw [isNone_at a]
    exact h.now ok _ (.bl _)
  · rename_i mg' c fs ed
    obtain ⟨x, ex, a, C, dv, rfl, _⟩ := ok.oth ed
    exact ⟨_, ex, rfl, h.now ok _ (.bl _)⟩
  · exact h.elim
omit [LT] in
/-- the law's end, where its mirror speaks of the module's names -/
theorem walkMG {l : PySem.W.OpenLaw} {n lev : Nat} {q : Program} {loose : List Str} {XP : (Str → Option Value) → Heap → Prop} {YP : World → Heap → Prop} {d : DefRec} {K : Params → PySem.W.Frag} {x : Str} {F : (Str → Option Value) → PySem.W.Frag → M SV}
    (hn : l.most = some n) (hn2 : n ≤ sizeLine) (hdf : d.params.defaults = []) (hr : Room lev callerA) (hY : ∀ (w : World) (h : Heap), YP w h → (K w.params).In h)
    (hF : ∀ (w : World) (mg : Str → Option Value) (fa : Addr) (h : Heap), (K w.params).In h → h.Ns mainGlobals mg → mg d.name = some (.ref fa) →
      ∃ fd : FuncData, (∀ (s : Shared) (u : Value), BindsTo s fd ⟨[u], []⟩ [(x, u)]) ∧ ∀ base : Heap, (K w.params).In base → base.Ns mainGlobals mg → FnG l.prog w (K w.params) mg base (L2.CX l.prog w) lev fa fd [x] (@spM LT.nil 1 mg (F mg (K w.params))))
    (law : ∀ (mg : Str → Option Value) (K : PySem.W.Frag) (ns : List Int), ns.length ≤ n → ∃ ss, F mg K [.oth (.scr K ns)] = some (.val (.dat (.bool true)) ss)) :
    PySem.W.WalkO q loose XP YP l.row.toRowW d [] (fun f vs => PySem.call f vs) := by
  refine walkG (x := x) (CX := fun w => L2.CX l.prog w) (sp := fun w => fun vs H Q _ => ∃ (a : Addr) (ns : List Int), vs = [.ref a] ∧ SqL (K w.params) H a (ns.map V.int) ∧ ns.length ≤ n ∧ Only H ∧ ∀ H2, Q (.bl true) H2) hn hn2 hdf hr hY (fun w mg fa h h1 h2 h3 => ?_) (fun w H a ns hl hO hS => ⟨a, ns, rfl, hS, hl, hO, fun _ => rfl⟩) fun w H s e s2 h => ?_
  · obtain ⟨fd, hb, hG⟩ := hF w mg fa h h1 h2 h3
    refine ⟨fd, hb, fun base k1 k2 => (hG base k1 k2).imp fun vs H Q E hh => ?_⟩
    obtain ⟨a, ns, rfl, hS, hl, hO, q⟩ := hh
    obtain ⟨ss, es⟩ := law mg (K w.params) ns hl
    letI : LT := LT.nil
    refine ⟨rfl, H, [.oth (.scr (K w.params) ns)], noFp, ⟨Same.refl _, rfl, fun i s e => ?_, fun i j p e => (nomatch e), fun _ _ => rfl, ⟨(fun p hp => nomatch hp), fun b ps e => ?_⟩⟩, ?_⟩
    · cases i with
      | zero =>
        cases e
        exact ⟨rfl, .ref a, rfl, a, rfl, hS⟩
      | succ i => simp at e
    · rcases hO b with z | ⟨_, _, z⟩
      · rw [z] at e
        cases e
      · rw [z] at e
        cases e
    · rw [es]
      intro v B2 H2 fp2 g ok2
      have hl2 : ss.length = 1 := by
        have := ok2.len
        simp only [List.length_append, List.length_cons, List.length_nil, List.length_map] at this
        omega
      have z := ok2.sl 1 (.dat (.bool true)) (by rw [← hl2, List.getElem?_concat_length])
      obtain ⟨_, y, ey, ay⟩ := z
      cases ey
      rw [ay.bl_eq]
      exact q H2
  · obtain ⟨_, _, _, _, _, _, _, _, _, _, _, _, z⟩ := h
    exact z
end Cm

/-! Mirrors: x[a:b] of a text, x * n of a text, repr of an empty dict. -/
namespace Cm
open PySem PySem.Spec PyProof.Rows L2 Cf
variable [LT]
def repS (z : Str) (n : Nat) : Str := ⟨(List.replicate n z.cps).foldl (· ++ ·) #[]⟩
theorem fold_size {a : Array Nat} : ∀ (n : Nat) (acc : Array Nat), ((List.replicate n a).foldl (· ++ ·) acc).size = acc.size + n * a.size
  | 0, acc => by simp
  | n + 1, acc => by
    rw [List.replicate_succ, List.foldl_cons, fold_size n, Array.size_append, Nat.succ_mul]
    omega
theorem repS_len {z : Str} {n : Nat} : (repS z n).length = n * z.length := by
  show ((List.replicate n z.cps).foldl (· ++ ·) #[]).size = _
  rw [fold_size]
  show 0 + n * z.cps.size = n * z.cps.size
  omega
theorem fold_list {a : Array Nat} : ∀ (n : Nat) (acc : Array Nat), ((List.replicate n a).foldl (· ++ ·) acc).toList = acc.toList ++ (List.replicate n a.toList).flatten
  | 0, acc => by simp
  | n + 1, acc => by
    rw [List.replicate_succ, List.foldl_cons, fold_list n, Array.toList_append, List.replicate_succ, List.flatten_cons, List.append_assoc]
section
variable {X : Cx}
def rMulS : R2 := fun x y H Q => ∃ (z : Str) (n : Int), x = .str z ∧ y = .int n ∧ (2 ≤ n ∧ n ≤ 2000) ∧ (1 ≤ z.length ∧ z.length ≤ 100) ∧ Q (.str (repS z n.toNat)) H
theorem op_mulS : OpR X (binaryOp .Mult) rMulS := by
  intro pins s σ H x y v u Q I rx ry h
  obtain ⟨z, n, rfl, rfl, ⟨h1, h2⟩, ⟨h3, h4⟩, q⟩ := h
  obtain ⟨t, rfl⟩ := rx
  obtain ⟨u, rfl⟩ := ry
  have hb : z.length * n.toNat ≤ 200000 := by
    have := Nat.mul_le_mul h4 (show n.toNat ≤ 2000 by omega)
    omega
  have e1 : ¬ n < 1 := by omega
  have e2 : (n == 1 || z.length == 0) = false := by
    have a : (n == 1) = false := beq_false_of_ne (by omega)
    have b : (z.length == 0) = false := beq_false_of_ne (by omega)
    rw [a, b]
    rfl
  refine PySem.P.mul_str ?_ (fun _ _ => ?_) (fun _ _ => ?_) ?_
  · rw [decide_eq_false (show ¬ n < -(2 ^ 63 : Int) by omega), decide_eq_false (show ¬ n ≥ 2 ^ 63 by omega)]
    rfl
  · have : (2 ^ 63 - 1 : Int) / n ≥ 1000 := by
      apply Int.le_ediv_of_mul_le (by omega)
      omega
    omega
  · unfold Builtin.Str.tooLong
    refine decide_eq_false ?_
    rw [sizeLine_eq]
    omega
  · rw [if_neg e1, e2, if_neg Bool.false_ne_true]
    refine ⟨?_, ?_⟩
    · have e3 : (repS z n.toNat).length ≤ sizeLine := by
        rw [repS_len, Nat.mul_comm, sizeLine_eq]
        omega
      exact e3
    · exact ⟨.str (repS z n.toNat), H, I.tok _, ⟨_, rfl⟩, q⟩
def rReprE : List V → Hp → VK → Prop := fun xs H Q => ∃ a, xs = [.ref a] ∧ Rd H a (.dK []) ∧ Q (.str (PyData.dict []).shown) H
theorem k_reprE (hc : Calm X.A) (hu : X.A.units + 200 < cLine) : CallR X (.builtin "repr") rReprE := by
  intro pins s σ H xs us Q I r h
  obtain ⟨a, rfl, e, q⟩ := h
  rw [Vals.ref1 r]
  obtain ⟨z, hd, vs, rel, o, es, ep, ho, hx, hdat, _, hp, _⟩ := dk_rd I.hok e
  cases rel
  have he : es.toList = [] := by
    cases hp' : es.toList with
    | nil => rfl
    | cons x r => rw [hp'] at hp; cases hp
  have rd : Reads s.heap (.ref a) (.dict []) [a] := Reads.dict (kvs := []) ho hx.1 hdat (by rw [he]; exact .nil) (by rw [he]; exact .nil)
  refine repr_of_reads' rd (by decide) (fun _ m => ?_) hc (by rw [show (PyData.dict []).depth = 1 from by simp [PyData.depth, PyData.depthKv]]; omega) (fun b o e => e) (fun h' t tk k => ⟨.str (PyData.dict []).shown, H, I.kept k, ⟨_, rfl⟩, q⟩) (by decide)
  rw [List.mem_singleton] at m
  rw [← m] at hd
  simp at hd
end
/-! ### the mirrors -/
def kMulS : PyData → PyData → Option PyData
  | .str z, .int n => if decide (2 ≤ n ∧ n ≤ 2000) && decide (1 ≤ z.length ∧ z.length ≤ 100) then some (.str (repS z n.toNat)) else none
  | _, _ => none
theorem d_mulS : D2 rMulS kMulS := fun B H x y d1 d2 d Q s a b e k => by
  unfold kMulS at e
  split at e
  · split at e
    · rename_i z n c
      cases e
      obtain ⟨c1, c2⟩ := Bool.and_eq_true_iff.mp c
      exact ⟨z, n, a.str_eq, b.int_eq, of_decide_eq_true c1, of_decide_eq_true c2, k _ B H (Grow.refl s) (.str _)⟩
    · cases e
  · cases e
def kRepr2 : List PyData → Option PyData
  | [.dict []] => some (.str (PyData.dict []).shown)
  | ds => kRepr ds
def rRepr2 (K : PySem.W.Frag) : List V → Hp → VK → Prop := fun xs H Q => rRepr K xs H Q ∨ rReprE xs H Q
theorem k_repr2 {X : Cx} {K : PySem.W.Frag} (e : X.K = K) (hc : Calm X.A) (hu : X.A.units + 200 < cLine) : CallR X (.builtin "repr") (rRepr2 K) := fun pins s σ H xs us Q I r h => by
  rcases h with h | h
  · exact k_repr (K := K) e hc hu pins s σ H xs us Q I r h
  · exact k_reprE hc hu pins s σ H xs us Q I r h
theorem d_repr2 {K : PySem.W.Frag} : DA (rRepr2 K) kRepr2 := fun B H xs ds d Q s a e k => by
  unfold kRepr2 at e
  split at e
  · cases e
    cases a with
    | cons a1 r =>
      cases r
      cases a1 with
      | dct h1 h2 =>
        cases h2
        exact .inr ⟨_, rfl, .inr ⟨_, s _ _ h1⟩, k _ B H (Grow.refl s) (.str _)⟩
  · exact .inl (d_repr B H xs _ d Q s a e k)
section
variable {X : Cx} {K : PySem.W.Frag} {E : XK} {e : Expr} {f : M PyData} {pos p2 : Pos}
def kCutS : PyData → Option Int → Option Int → Option PyData
  | .str z, a, b => if few z.length then some (.str (L2.cutS z a b)) else none
  | _, _, _ => none
def mSlS (f : M PyData) (lo hi : M (Option Int)) : M PyData := M.bind f fun d => M.bind lo fun a => M.bind hi fun b => M.lift (kCutS d a b)
theorem m_slS {lo hi : Option Expr} {fl fh : M (Option Int)} (hf : PE X e (tM X.mg E f)) (hl : PO X lo (tP X.mg E fl)) (hh : PO X hi (tP X.mg E fh)) : PE X (.Subscript e (.Slice lo hi none p2) pos) (tM X.mg E (mSlS f fl fh)) :=
  PE.imp (pe_slice sl_str hf hl hh) fun σ H Q ⟨A, B, ss, fp, ok, h⟩ => by
    refine ⟨A, B, ss, fp, ok, h.seq.mono fun x H1 ⟨d1, B1, ss1, fp1, ok1, a1, g1, h1⟩ => ⟨A, B1, ss1, fp1, ok1, (Res.seq (rel := fun _ a b => a = b) h1).mono fun lo H2 ⟨l2, B2, ss2, fp2, ok2, a2, g2, h2⟩ => ⟨A, B2, ss2, fp2, ok2, (Res.seq (rel := fun _ a b => a = b) h2).mono fun hi H3 ⟨l3, B3, ss3, fp3, ok3, a3, g3, h3⟩ => ?_⟩⟩⟩
    obtain ⟨r, er, h4⟩ := lift_some h3
    subst a2
    subst a3
    unfold kCutS at er
    cases d1 with
    | str z =>
      dsimp only at er
      by_cases c : few z.length = true
      · rw [if_pos c] at er
        cases er
        exact ⟨z, a1.str_eq, Nat.le_of_lt (few_line c), Res.now (rel := At) ok3 h4 _ (.str _)⟩
      · rw [if_neg c] at er
        cases er
    | _ => cases er
end
end Cm

/-! Steps of the mirrors of M21, M22: errors raised and caught, texts. -/
namespace Cm
open PySem PySem.Spec PyProof.Rows L2 Cf
def EX (o : Option Out) (c : Str) (fs : List (Str × PyData)) : Prop := o = some (.ex c fs)
def EM {α : Type} (o : Option (R α)) (c : Str) (fs : List (Str × PyData)) : Prop := o = some (.exc c fs)
section
variable {c : Str} {fs : List (Str × PyData)} {f g : S} {ss : List SV} {N B C : List SV → Prop} {T : SV → List SV → Prop} {P : PyData → List SV → Prop}
theorem W_val {α : Type} {o : Option (R α)} {P : α → List SV → Prop} (h : W o P) : ∃ a s, o = some (.val a s) ∧ P a s := by
  unfold W at h
  split at h
  · exact ⟨_, _, rfl, h⟩
  · exact h.elim
theorem EX_seqL (h : EX (f ss) c fs) : EX (sSeq f g ss) c fs := by
  unfold EX sSeq at *
  rw [h]
theorem EX_seqR (h : WS (f ss) (fun s => EX (g s) c fs) (fun _ _ => False) (fun _ => False) fun _ => False) : EX (sSeq f g ss) c fs := by
  unfold EX sSeq at *
  unfold WS at h
  split at h
  · rename_i e
    rw [e]
    exact h
  · exact h.elim
  · exact h.elim
  · exact h.elim
  · exact h.elim
theorem EX_if {cnd : M Bool} (h : W (cnd ss) fun b s => EX (ifS b f g s) c fs) : EX (sIf cnd f g ss) c fs := by
  obtain ⟨b, s, e, h⟩ := W_val h
  have e2 : sIf cnd f g = eseq cnd fun b => ifS b f g := by
    unfold sIf
    congr 1
    funext b
    cases b <;> rfl
  rw [e2]
  unfold EX eseq
  rw [e]
  exact h
theorem EX_for {it : M (List PyData)} {b : PyData → List SV → Option (List SV)} {body : S} (h : W (it ss) fun ds s => EX (forGo b body ds s) c fs) : EX (sFor it b body ss) c fs := by
  obtain ⟨ds, s, e, h⟩ := W_val h
  unfold EX sFor eseq
  rw [e]
  exact h
theorem EX_forGo {b : PyData → List SV → Option (List SV)} {body : S} (I : Nat → List SV → Prop) : ∀ {n i0 : Nat} {ds : List PyData} {ss : List SV}, I i0 ss → n < ds.length →
    (∀ i d, i < n → ds[i]? = some d → ∀ s, I (i0 + i) s → LB (b d s) fun s1 => WS (body s1) (I (i0 + i + 1)) (fun _ _ => False) (fun _ => False) (I (i0 + i + 1))) →
    (∀ d, ds[n]? = some d → ∀ s, I (i0 + n) s → LB (b d s) fun s1 => EX (body s1) c fs) → EX (forGo b body ds ss) c fs
  | n, i0, [], ss, h, hl, _, _ => by simp at hl
  | 0, i0, d :: ds, ss, h, hl, st, fin => by
    obtain ⟨s1, h1, h2⟩ := fin d rfl ss h
    unfold EX at *
    show (match b d ss with | none => none | some s1 => _) = _
    rw [h1]
    dsimp only
    rw [h2]
  | n + 1, i0, d :: ds, ss, h, hl, st, fin => by
    obtain ⟨s1, h1, h2⟩ := st 0 d (by omega) rfl ss h
    have rest : ∀ s2, I (i0 + 1) s2 → EX (forGo b body ds s2) c fs := fun s2 h3 => by
      refine EX_forGo I (n := n) (i0 := i0 + 1) h3 (by rw [List.length_cons] at hl; omega) (fun i d hi hd s hs => ?_) fun d hd s hs => ?_
      · have := st (i + 1) d (by omega) (by simpa using hd) s (by rw [show i0 + 1 + i = i0 + (i + 1) by omega] at hs; exact hs)
        rw [show i0 + (i + 1) + 1 = i0 + 1 + i + 1 by omega] at this
        exact this
      · exact fin d (by simpa using hd) s (by rw [show i0 + 1 + n = i0 + (n + 1) by omega] at hs; exact hs)
    unfold EX at *
    show (match b d ss with | none => none | some s1 => _) = _
    rw [h1]
    dsimp only
    unfold WS at h2
    split at h2
    · rename_i s2 e
      rw [e]
      exact rest s2 h2
    · exact h2.elim
    · exact h2.elim
    · rename_i s2 e
      rw [e]
      exact rest s2 h2
    · exact h2.elim
theorem EX_raise {fl : Str} {okd : PyData → Bool} {m : M PyData} {v : PyData} (h : W (m ss) fun d s => okd d = true ∧ d = v) : EX (sRaise c fl okd m ss) c [(fl, v)] := by
  obtain ⟨d, s, e, h1, h2⟩ := W_val h
  unfold EX sRaise eseq
  rw [e]
  dsimp only
  rw [if_pos h1, h2]
theorem EX_drop {m : M PyData} (h : EM (m ss) c fs) : EX (sDrop m ss) c fs := by
  unfold EX sDrop eseq
  rw [h]
theorem EM_fz {m : M SV} (h : EM (m ss) c fs) : EM (mFz m ss) c fs := by
  unfold EM mFz M.bind at *
  rw [h]
theorem EM_call {n : Nat} {F : M SV} {fa : M (List PyData)} (h : W (fa ss) fun ds s => ds.length = n ∧ F (ds.map .dat) = some (.exc c fs)) : EM (mCall n F fa ss) c fs := by
  obtain ⟨ds, s, e, h1, h2⟩ := W_val h
  unfold EM mCall M.bind
  rw [e]
  dsimp only
  unfold mCallD
  rw [if_pos h1, h2]
theorem EM_def {n m : Nat} {body : S} {args : List SV} (hl : args.length = n) (h : EX (body (args ++ List.replicate (m - n) .gone)) c fs) : mDef n m body args = some (.exc c fs) := by
  unfold mDef
  rw [if_pos hl, h]
theorem WS_try_ok {mg : Str → Option Value} {gk : Str → Option Bool} {n j : Nat} (h : WS (f ss) N T B C) : WS (sTryG mg gk n j f ss) N T B C := by
  unfold sTryG
  unfold WS at h
  split at h
  · rename_i e; rw [e]; exact h
  · rename_i e; rw [e]; exact h
  · rename_i e; rw [e]; exact h
  · rename_i e; rw [e]; exact h
  · exact h.elim
theorem WS_try_ex {mg : Str → Option Value} {gk : Str → Option Bool} {n j : Nat} (h : EX (f ss) c fs) (hg : gk c = some true) (k : N ((List.replicate n .gone).set j (.oth (.exc mg c fs)))) : WS (sTryG mg gk n j f ss) N T B C := by
  unfold sTryG
  rw [h]
  dsimp only
  rw [hg]
  exact k
variable {i : Nat} {mg : Str → Option Value} {d : PyData} {b : Bool}
theorem W_isNE_e (hs : ss[i]? = some (.oth (.exc mg c fs))) : W (mIsNE i ss) P ↔ P (.bool false) ss := by
  unfold mIsNE
  rw [hs]
  exact Iff.rfl
theorem W_isNE_d (hs : ss[i]? = some (.dat d)) : W (mIsNE i ss) P ↔ P (.bool (isNone d)) ss := by
  unfold mIsNE
  rw [hs]
  exact Iff.rfl
theorem W_isE {gi : Str → Option Bool} (hs : ss[i]? = some (.oth (.exc mg c fs))) (hg : gi c = some b) : W (mIsE mg i gi ss) P ↔ P (.bool b) ss := by
  unfold mIsE
  rw [hs]
  dsimp only
  rw [if_pos rfl, hg]
  exact Iff.rfl
theorem W_fldE {fl : Str} {ok : Str → Bool} (hs : ss[i]? = some (.oth (.exc mg c fs))) (hk : ok c = true) (hl : fs.lookup fl = some d) : W (mFldE mg i fl ok ss) P ↔ P d ss := by
  unfold mFldE
  rw [hs]
  dsimp only
  rw [if_pos rfl, if_pos hk, hl]
  exact Iff.rfl
theorem W_slS {f : M PyData} {lo hi : M (Option Int)} : W (mSlS f lo hi ss) P ↔ W (f ss) fun d s => W (lo s) fun a s => W (hi s) fun b s => L (kCutS d a b) s P := by
  unfold mSlS
  simp only [W_bind, W_lift]
theorem L_cutS {z : Str} {a b : Option Int} : L (kCutS (.str z) a b) ss P ↔ z.length ≤ 1000000 ∧ P (.str (L2.cutS z a b)) ss := by
  unfold kCutS few
  by_cases h : z.length ≤ 1000000
  · simp [h, L]
  · simp [h, L]
theorem L_mulS {z : Str} {n : Int} : L (kMulS (.str z) (.int n)) ss P ↔ ((2 ≤ n ∧ n ≤ 2000) ∧ (1 ≤ z.length ∧ z.length ≤ 100)) ∧ P (.str (repS z n.toNat)) ss := by
  unfold kMulS
  dsimp only
  by_cases h : (2 ≤ n ∧ n ≤ 2000) ∧ (1 ≤ z.length ∧ z.length ≤ 100)
  · rw [if_pos (by rw [decide_eq_true h.1, decide_eq_true h.2]; rfl)]
    exact ⟨fun q => ⟨h, L_some.mp q⟩, fun q => L_some.mpr q.2⟩
  · rw [if_neg (fun z => h (by rw [Bool.and_eq_true, decide_eq_true_eq, decide_eq_true_eq] at z; exact z))]
    exact ⟨fun ⟨_, e, _⟩ => (nomatch e), fun q => absurd q.1 h⟩
theorem L_lenS {z : Str} : L (kLenS [.str z]) ss P ↔ z.length ≤ 1000000 ∧ P (.int (z.length : Nat)) ss := by
  unfold kLenS few
  by_cases h : z.length ≤ 1000000
  · simp [h, L]
  · simp [h, L]
end
end Cm

/-! Mirrors: except (A, B) as e with facts by lists; isinstance with an own class of errors; an own class made. -/
namespace Cm
open PySem PySem.Spec PyProof.Rows L2 Cf
variable [LT]
section
variable {X : Cx} {E : XK}
theorem s_tryT {g : Str → Option Bool} {Cs : List Addr} {elts : List Expr} {tk1} {tpos pos pos' : Pos} {n : Str} {i j : Nat} {b0 : Stmt} {bst : List Stmt} {f : S}
    (hstk : X.stack = X.env :: X.outer) (hloc : X.env.frame = some X.env.locals) (hnd : X.N.Nodup) (hi : X.N[i]? = some n) (hln : X.env.kindOf n = some .local) (hij : i ≠ j) (hj : j < X.N.length)
    (tk : Takes X (fun cls d _ H => E cls d H)) (hex0 : X.ex = []) (hcs : Cs.length ≤ sizeLine) (hnames : NamesAll X.env X.mg elts (Cs.map Value.ref))
    (hex : ∀ c C b, g c = some b → X.mg c = some (.ref C) → PySem.W.exmAny X.K (.ref C) (Cs.map Value.ref) = some b)
    (hb : ∀ (E' : XK) (pn : List (Addr × Obj)) (xe : Value → Shared → Prop), Takes (X.tr pn xe) (fun cls d _ H => E' cls d H) → PassesOwn (model X.prog X.w) X.A X.env xe → PSs (X.tr pn xe) bst (tS X.mg E' f))
    (hsu : ∀ (a : Addr) (pn : List (Addr × Obj)), PS (X.suite a pn) b0 (tAsg (tVar i) (gName j))) :
    PS X (.Try bst [.ExceptHandler (some (.Tuple elts tk1 tpos)) (some n) [b0] pos'] [] [] pos) (tS X.mg E (sTryG X.mg g X.N.length j f)) := by
  refine ⟨fun pins s0 σ0 H0 D I0 hh => ?_⟩
  obtain ⟨A, B, ss, fp, ok, h⟩ := hh
  have xok := I0.ok
  have frm : X.A.frames = some (X.env :: X.outer) := by rw [xok.frames, hstk]
  -- what is wanted of an error of the body
  let G : Value → Option Addr → L2.St → Hp → Prop := fun cls d σ H => ∃ b C, cls = .ref C ∧ PySem.W.exmAny X.K cls (Cs.map Value.ref) = some b ∧
    (b = true → ∀ a, H a = none → D.nx (((σ.set i (some (.ref a))).set j (some (.ref a))).set i none) (upd H a (excO a C d))) ∧ (b = false → E cls d H)
  let E' : XK := fun cls d H => ∀ σ : L2.St, σ.length = X.N.length → G cls d σ H
  have body : ResS X.mg E' A B fp H0 (f ss) D := by
    unfold sTryG at h
    cases q : f ss with
    | none => rw [q] at h; exact h
    | some o =>
      rw [q] at h
      cases o with
      | nx s2 => exact h
      | bk s2 => exact h
      | ct s2 => exact h
      | rt r s2 => exact h
      | ex c fs =>
        dsimp only at h
        cases k1 : g c with
        | some bb =>
          rw [k1] at h
          intro C dv B2 H2 em gg sm xa σ hσ
          refine ⟨bb, C, rfl, hex c C bb k1 em, fun hb a na => ?_, fun hb => ?_⟩
          · rw [hb] at h
            have nb : B2 a = none := sm.free na
            have sm3 : Same (upd B2 a (excO a C dv)) (upd H2 a (excO a C dv)) := (Grow.new (o := excO a C dv) sm na).bh
            have hl3 : (((σ.set i (some (.ref a))).set j (some (.ref a))).set i none).length = X.N.length := by rw [List.length_set, List.length_set, List.length_set]; exact hσ
            have g2 : Gr fp noFp B H0 (upd B2 a (excO a C dv)) (upd H2 a (excO a C dv)) := gg.trans (Grow.new sm na).gr
            refine h _ _ _ noFp g2 ⟨sm3, by rw [hl3, List.length_set, List.length_replicate], fun m t et => ?_, fun _ _ _ y => (nomatch y), fun _ _ => rfl, ok.tbUp g2⟩
            by_cases cj : m = j
            · subst cj
              rw [List.getElem?_set_self (by rw [List.length_replicate]; exact hj)] at et
              cases et
              rw [List.getElem?_set_ne hij, List.getElem?_set_self (by rw [List.length_set, hσ]; exact hj)]
              exact ⟨rfl, .ref a, rfl, a, C, dv, rfl, em, upd_same, xa.up (same_new nb)⟩
            · rw [List.getElem?_set_ne (Ne.symm cj), List.getElem?_replicate] at et
              split at et
              · cases et
                exact rfl
              · cases et
          · rw [hb] at h
            exact h C dv B2 H2 em gg sm xa
        | none =>
          rw [k1] at h
          exact h.elim
  refine wpAny_Try_except ?_
  refine wpAny_mono ((hb E' (X.pn ++ pins) _ (fun u s1 hxe => ?_) PassesOwn.looking).run [] s0 σ0 H0 D (I0.toTry _) ⟨A, B, ss, fp, ok, body⟩) (fun fl s1 q1 => ?_) fun e s1 q1 => q1
  · -- an error is in the air
    obtain ⟨a, gr, sI, pins2, σ1, H1, cls, d, rfl, JI, keepG, up1, sky, na, os1, bare1, wish⟩ := hxe
    have JX : Inv X pins σ1 H1 sI := JI.ofTry xok
    obtain ⟨b, C, ecls, hm, yes, no⟩ := wish σ1 JX.len
    have sky2 : Sky gr (X.env :: X.outer) a (Zc cls d) X.env.locals s1.heap := by rw [← hstk]; exact sky
    show wpAny (model X.prog X.w) X.A (noteFrame (.ref a) X.env) _ _ _
    refine Sky.land Zc.steady frm hloc sky2 fun hA flA upA => ?_
    have JA : Inv X pins σ1 H1 { s1 with heap := hA } := JX.landed keepG flA.1 (up1.trans upA) os1 bare1
    obtain ⟨oA, vA, eA, zA, dA⟩ := flA.there
    -- where it does not stand
    have offFr : a ∉ frs (X.env :: X.outer) := fun hmem => by
      obtain ⟨_, o2, e2, hnf⟩ := flA.2.2.1.mem hmem
      rw [eA] at e2
      cases e2
      exact hnf _ dA
    have offL : a ≠ X.env.locals := fun y => offFr (List.mem_filterMap.mpr ⟨X.env, List.mem_cons_self, by rw [hloc, y]⟩)
    have offF : a ∉ X.fs := fun hmem => by
      obtain ⟨e, he, q⟩ := List.mem_filterMap.mp hmem
      exact offFr (List.mem_filterMap.mpr ⟨e, List.mem_cons_of_mem _ he, q⟩)
    have offI : sI.heap.get? a = none := by
      cases q : sI.heap.get? a with
      | none => rfl
      | some o =>
        have y := keepG a o q (by rw [hstk]; exact offFr)
        rw [flA.2.1] at y
        cases y
    have off0 : X.s_0.heap.get? a = none := by
      cases q : X.s_0.heap.get? a with
      | none => rfl
      | some o =>
        obtain ⟨o2, e2⟩ := JX.base.there a o q (by rw [hex0]; exact List.not_mem_nil)
        rw [offI] at e2
        cases e2
    have offC : ∀ x c, X.env.cells.lookup x = some c → c ≠ a := fun x c e y => by
      obtain ⟨v, o, e2, _⟩ := JX.cell x c e
      rw [y, offI] at e2
      cases e2
    have offP : ∀ p ∈ X.pn ++ pins, p.1 ≠ a := fun p hp y => by
      have e2 := (JX.pin p hp).1
      rw [y, offI] at e2
      cases e2
    have SA := JA.suite eA dA na offL offF
    refine wpAny_handleBy_cons (codeAny_handlers_test ?_) (by intro q; cases q)
    refine wpAny_Tuple_spliced (names_run (X := X.suite a ((a, oA) :: (X.pn ++ pins))) SA hnames ⟨by rw [List.length_map]; exact hcs, ?_⟩)
    have kA : ∀ b o, hA.get? b = some o → (hA.push { cls := .type "tuple", data := .seq (Cs.map Value.ref).toArray }).get? b = some o := fun b o e => Heap.get?_push_of_some _ e
    have eT : (hA.push { cls := .type "tuple", data := .seq (Cs.map Value.ref).toArray }).get? hA.objs.size = some { cls := .type "tuple", data := .seq (Cs.map Value.ref).toArray } := Heap.get?_push_size _ rfl
    generalize hpush : hA.push { cls := .type "tuple", data := .seq (Cs.map Value.ref).toArray } = hB at kA eT
    have flB := flying_kept flA kA
    have upB : hA.UpToSlots hB := fun b o e _ => ⟨o.slots, kA b o e⟩
    have JB : Inv X pins σ1 H1 { s1 with heap := hB } := JX.landed keepG flB.1 ((up1.trans upA).trans upB) os1 bare1
    have LT : PySem.W.Looks (model X.prog X.w) hB (typeOf (.ref a)) cls := fun A Q E s k q => wpAny_typeOf_ref (k _ _ (kA _ _ eA)) (by rw [zA.1]; exact q)
    refine (exm_tuple (K := X.K) (JB.kIn) LT eT hm).here ?_
    cases b with
    | true =>
      refine codeAny_handlers_suite_as ?_
      refine HandSPX.lands_againZ flB fun hD flD upD => ?_
      have JD : Inv X pins σ1 H1 { s1 with heap := hD } := JX.landed keepG flD.1 (((up1.trans upA).trans upB).trans upD) os1 bare1
      obtain ⟨oD, vD, eD, zD, dD⟩ := flD.there
      have SD := JD.suite eD dD na offL offF
      refine store_ok (X := X.suite a ((a, oD) :: (X.pn ++ pins))) (v := .ref a) SD hnd hi (.inl hln) rfl (fun s5 S5 => ?_) (.inr hln)
      have hiσ : i < σ1.length := by rw [JX.len]; exact (List.getElem?_eq_some_iff.mp hi).1
      have wish2 := yes rfl a na
      refine wpAny_mono ((pss_cons (hsu a ((a, oD) :: (X.pn ++ pins))) pss_nil).run [] s5 _ H1 { nx := fun σ H => σ = (σ1.set i (some (.ref a))).set j (some (.ref a)) ∧ H = H1, rt := fun _ _ => False } S5 ⟨.ref a, List.getElem?_set_self hiσ, rfl, rfl⟩) (fun fl s6 q6 => ?_) (fun _ _ z => False.elim z)
      cases fl with
      | next =>
        obtain ⟨σ6, H6, S6, rfl, rfl⟩ := q6
        have all6 : ∀ p ∈ X.pn ++ ((a, oD) :: pins), p ∈ ((a, oD) :: (X.pn ++ pins)) ++ [] := fun p hp => by
          rw [List.append_nil]
          rcases List.mem_append.mp hp with z | z
          · exact List.mem_cons_of_mem _ (List.mem_append_left _ z)
          · rcases List.mem_cons.mp z with z | z
            · rw [z]
              exact List.mem_cons_self
            · exact List.mem_cons_of_mem _ (List.mem_append_right _ z)
        have J6 : Inv X ((a, oD) :: pins) _ _ s6 := ⟨xok, S6.os, S6.bare, S6.base, S6.loc, S6.cell, S6.free, S6.freeC, fun p hp => S6.pin p (all6 p hp), S6.hok, S6.len⟩
        refine gone_ok J6 hnd hi hln fun s7 J7 => ?_
        have e7 : s7.heap.get? a = some oD := (J7.pin (a, oD) (List.mem_append_right _ List.mem_cons_self)).1
        have J8 : Inv X pins _ _ s7 := ⟨xok, J7.os, J7.bare, J7.base, J7.loc, J7.cell, J7.free, J7.freeC, fun p hp => J7.pin p (by
          rcases List.mem_append.mp hp with z | z
          · exact List.mem_append_left _ z
          · exact List.mem_append_right _ (List.mem_cons_of_mem _ z)), J7.hok, J7.len⟩
        exact ⟨_, _, inv_track (d := ⟨_, dD⟩) (z := by rw [ecls] at zD; exact zD) J8 na e7 off0 offL offC offP, wish2⟩
      | brk =>
        obtain ⟨_, _, _, q⟩ := q6
        exact q.elim
      | cont =>
        obtain ⟨_, _, _, q⟩ := q6
        exact q.elim
      | ret u =>
        obtain ⟨_, _, _, _, _, q⟩ := q6
        exact q.elim
    | false =>
      show wpAny _ X.A (handleBy (.ref a) X.env []) _ _ _
      refine wpAny_handleBy_nil ?_
      obtain ⟨k1, k2, k3, oe, vs, T, oT, ts', he, hz, hd, h1, hr⟩ := id flB
      unfold PySem.passOn
      refine wpAny_bind (wpAny_field he hd h1 ?_)
      have nT : ¬ ((Value.ref T == Value.none) = true) := by simp
      rw [if_neg nT]
      have out : wpAny (model X.prog X.w) X.A (setFlight (.ref a) X.env.frame) (fun _ s4 => wpAny (model X.prog X.w) X.A (throw (.ref a) : Sem Flow) (SP X pins D) X.xe s4) X.xe { s1 with heap := hB } := by
        rw [hloc]
        refine HandSPX.setFlight_upZ flB fun h4 hh4 up4 => wpAny_throw (tk _ _ ?_)
        exact ⟨a, gr, sI, pins, σ1, H1, cls, d, rfl, JX, keepG, ((up1.trans upA).trans upB).trans up4, .inr (.inr (by rw [hstk]; exact hh4)), na, os1, bare1, no rfl⟩
      first
        | exact wpAny_bind (wpAny_pure (wpAny_bind out))
        | exact wpAny_bind out
  · cases fl with
    | next =>
      obtain ⟨σ', H', J', q⟩ := q1
      exact wpAny_execs_nil ⟨σ', H', J'.ofTry xok, q⟩
    | brk =>
      obtain ⟨σ', H', J', q⟩ := q1
      exact ⟨σ', H', J'.ofTry xok, q⟩
    | cont =>
      obtain ⟨σ', H', J', q⟩ := q1
      exact ⟨σ', H', J'.ofTry xok, q⟩
    | ret u =>
      obtain ⟨v, σ', H', J', r, q⟩ := q1
      exact ⟨v, σ', H', J'.ofTry xok, r, q⟩
end
/-! ### facts -/
inductive KX2 (K : PySem.W.Frag) (cls : Value) : List Addr → Bool → Prop
  | nil : KX2 K cls [] false
  | cons {D : Addr} {b d : Bool} {l : List Addr} (e : PySem.W.exmOne K cls (.ref D) = some b) (r : KX2 K cls l d) : KX2 K cls (D :: l) (b || d)
theorem KX2.any {K : PySem.W.Frag} {cls : Value} : ∀ {l : List Addr} {b : Bool}, KX2 K cls l b → PySem.W.exmAny K cls (l.map Value.ref) = some b
  | _, _, .nil => rfl
  | _, _, .cons e r => by
    show PySem.W.exmAny K cls (_ :: _) = _
    unfold PySem.W.exmAny
    rw [e, r.any]
inductive KnowXA (K : PySem.W.Frag) (mg : Str → Option Value) (Cs : List Addr) : List (Str × Bool) → Prop
  | nil : KnowXA K mg Cs []
  | cons {c : Str} {C : Addr} {b : Bool} {l : List (Str × Bool)} (nm : mg c = some (.ref C)) (e : KX2 K (.ref C) Cs b) (r : KnowXA K mg Cs l) : KnowXA K mg Cs ((c, b) :: l)
theorem KnowXA.hex {K : PySem.W.Frag} {mg : Str → Option Value} {Cs : List Addr} : ∀ {l : List (Str × Bool)}, KnowXA K mg Cs l → ∀ c C b, l.lookup c = some b → mg c = some (.ref C) → PySem.W.exmAny K (.ref C) (Cs.map Value.ref) = some b
  | _, .nil, c, C, b, e, m => by cases e
  | _, .cons (c := c0) nm e0 r, c, C, b, e, m => by
    rw [List.lookup_cons] at e
    by_cases h : c = c0
    · subst h
      simp only [beq_self_eq_true, if_true] at e
      cases e
      rw [nm] at m
      cases m
      exact e0.any
    · have h2 : (c == c0) = false := beq_false_of_ne h
      rw [h2] at e
      exact r.hex c C b e m
theorem kit_ref {K : PySem.W.Frag} {C D : Addr} {cd : ClassData} {b : Bool} (hd : PySem.W.clsIn K D = some cd) (ht : PySem.W.typeIn K (.ref D) = some (.type "type")) (hne : C ≠ D) (h : PySem.W.subIn K (.ref C) (.ref D) = some b) : PySem.W.kitOne K (.ref C) (.ref D) = some b := by
  show (if ((Value.ref C == Value.ref D) = true) then some true else if ((PySem.W.clsIn K D).isSome && PySem.W.typeIn K (.ref D) == some (.type "type")) = true then PySem.W.subIn K (.ref C) (.ref D) else none) = some b
  rw [if_neg (by intro z; have := beq_iff_eq.mp z; cases this; exact hne rfl), if_pos (by rw [hd, ht]; rfl)]
  exact h
theorem kit_self {K : PySem.W.Frag} {C : Addr} : PySem.W.kitOne K (.ref C) (.ref C) = some true := by
  show (if ((Value.ref C == Value.ref C) = true) then some true else _) = some true
  rw [if_pos (beq_self_eq_true _)]
/-- .. whether or not they are the same, where subIn tells -/
theorem kit_refB {K : PySem.W.Frag} {C D : Addr} {b : Bool} (hd : PySem.W.hasDictIn K D = true) (ht : PySem.W.typeIn K (.ref D) = some (.type "type")) (h : PySem.W.subIn K (.ref C) (.ref D) = some b) (hs : C = D → b = true) : PySem.W.kitOne K (.ref C) (.ref D) = some b := by
  by_cases c : C = D
  · subst c
    rw [hs rfl]
    exact kit_self
  · obtain ⟨cd, e, _⟩ := PySem.W.any_some hd
    exact kit_ref e ht c h

/-! ### an own class is made -/
section
variable {X : Cx} {CX : CXT} {lev : Nat} {C f : Addr} {fd : FuncData} {ps : List Str} {sp : Sp} {E : XK} {x : Str} {p pos : Pos} {e : Expr} {es : List Expr} {t : TA}
theorem run_makeG {pins : List (Addr × Obj)} {σ : L2.St} {H : Hp} {s : Shared} {Q : VK} {us : List Value} {vs : List V} (M : Mk X.K C f) (F : FnG X.prog X.w X.K X.mg X.base CX lev f fd ps sp) (hc : Calm X.A) (hr : Room (lev + 1) X.A) (hb : Binds X.K fd ps [])
    (hx : Passes CX X E) (I : Inv X pins σ H s) (r : Vals vs us)
    (h : ∀ x dx, H x = none → H dx = none → dx ≠ x → sp (.ref x :: vs) (upd (upd H dx (.own x)) x (.ins C dx [])) (fun v H2 => v = .non ∧ Q (.ref x) H2) E) :
    wpAny (model X.prog X.w) X.A (call (.ref C) us) (EP X pins σ Q) X.xe s := by
  have hq := h (s.heap.objs.size + 1) s.heap.objs.size (I.hok.fresh (Nat.le_succ _)) (I.hok.fresh (Nat.le_refl _)) (Nat.ne_of_lt (Nat.lt_succ_self _))
  have I2 := Inv.made (C := C) I
  have r2 : Vals (V.ref (s.heap.objs.size + 1) :: vs) (Value.ref (s.heap.objs.size + 1) :: us) := .cons rfl r
  have hl : ((Value.ref (s.heap.objs.size + 1) :: us) ++ []).length = ps.length := by
    rw [List.append_nil, ← r2.length, F.len _ _ _ _ hq]
  have b2 := hb _ (Value.ref (s.heap.objs.size + 1) :: us) I2.kIn hl
  rw [List.append_nil] at b2
  refine wpAny_call (make_map (f := f) I.kIn M.makes M.init (beq_iff_eq.mp M.fn) (codeAny_mono (F.go _ X.stack _ _ ⟨Value.ref (s.heap.objs.size + 1) :: us, []⟩ (Value.ref (s.heap.objs.size + 1) :: us) _ _ E hc (hr.make C us [])
    (I2.env0.make C us []) b2 r2 hq) fun r s' hq' => ?_))
  cases r with
  | error e => exact hx pins σ _ _ e s' I2 hq'
  | ok fl =>
    cases fl with
    | ret u =>
      obtain ⟨v, H', I3, rv, ev, q3⟩ := I2.after hq'
      subst ev
      exact ⟨rv, ⟨V.ref (s.heap.objs.size + 1), H', I3, rfl, q3⟩⟩
    | next => exact False.elim hq'
    | brk => exact False.elim hq'
    | cont => exact False.elim hq'
theorem pg_make (M : Mk X.K C f) (F : FnG X.prog X.w X.K X.mg X.base CX lev f fd ps sp) (hc : Calm X.A) (hr : Room (lev + 1) X.A) (hg : Gl X x) (hm : X.mg x = some (.ref C)) (hb : Binds X.K fd ps []) (hx : Passes CX X E)
    (ha : PA X (e :: es) t) (hdb : (x == ("__debug__" : Str)) = false := by decide) (he : starEach (e :: es) X.env = (false, eval e X.env) :: starEach es X.env := by rfl) (hpl : (backTo pos (starEach es X.env)).any (·.1) = false := by rfl) :
    PE X (.Call (.Name x p) (e :: es) [] pos) (tMake C sp [] E t) := by
  refine ⟨fun pins s σ H Q I h => ?_⟩
  refine wpAny_Call_Name_kw (ld_glob I hg hm ?_ hdb)
  refine PySem.W.callWith_K (h₀ := X.base) I.ok.mod.kin M.kp (thn (ha.run pos pins s σ H _ I h) fun us s1 ⟨vs, H1, I1, r, q⟩ => ⟨I1.kIn, ?_⟩) he hpl
  refine run_makeG M F hc hr hb hx I1 r fun x dx h1 h2 h3 => ?_
  have := q x dx h1 h2 h3
  rw [List.append_nil] at this
  exact this
end
/-- __init__(self, a, b, c) that asks fi and then keeps a list of a, and b and c -/
def spN (C : Addr) (mg : Str → Option Value) (fi : M PyData) : Sp := fun vs H Q E => ∃ x v1 v2 v3 dx d1 d2 d3 B, vs = [.ref x, v1, v2, v3] ∧ H x = some (.ins C dx []) ∧ B x = none ∧ Same B H ∧ TbOk B H ∧ At B v1 d1 ∧ At B v2 d2 ∧ At B v3 d3 ∧
  Res At mg E [] B noFp (vs.map some) H (fi [.gone, .dat d1, .dat d2, .dat d3]) (fun _ H2 => (∃ es, d1 = .list es) ∧ ∀ H3 : Hp, (∀ b o, b ≠ x → H2 b = some o → H3 b = some o) → Q .non H3)
/-- three questions -/
def ask3 (f1 f2 f3 : M PyData) : M PyData := M.bind f1 fun _ => M.bind f2 fun _ => M.bind f3 fun _ => M.ret .none
section
variable {P : Program} {w : World} {K : PySem.W.Frag} {mg : Str → Option Value} {base : Heap} {C f : Addr} {fd : FuncData} {st : Stmt} {N ps : List Str} {q a1 a2 a3 : Str} {lev : Nat} {f1 f2 f3 : M PyData}
def tInit3 (K : PySem.W.Frag) (mg : Str → Option Value) (E : XK) (f1 f2 f3 : M PyData) (tl : TE) (a1 a2 a3 : Str) : TS :=
  tSeq (tDrop (tM mg E f1)) (tSeq (tDrop (tM mg E f2)) (tSeq (tDrop (tM mg E f3)) (tSeq (sFld K (tVar 0) tl a1) (tSeq (sFld K (tVar 0) (tVar 2) a2) (sFld K (tVar 0) (tVar 3) a3)))))
abbrev tListOf (K : PySem.W.Frag) (i : Nat) : TE := tCB (fun xs H Q => ∃ p ys, xs = [.ref p] ∧ (SqL K H p ys ∨ SqT K H p ys) ∧ ∀ l, H l = none → Q (.ref l) (upd H l (.lst ys))) (tCons (tVar i) tNil)
theorem init3_ok (F : Fun K "__init__" q st f fd) (Sc : FnScope N ps (defScope st)) (hps : ps.length = 4) (hN : N.length = 4) (cl : Cls K C) (n1 : NoAttr K C a1) (n2 : NoAttr K C a2) (n3 : NoAttr K C a3)
    (hb : ∀ (cdv : Value) (A : Around) (out : List Env) (s : Shared) (H : Hp) (E : XK), Calm A → Room lev (A.deeper (envOfC q (defScope st) s.heap.objs.size f cdv)) → PSs (cxOf (L2.CX P w) P w K mg base N q (defScope st) f cdv A out s H E) (defBody st) (tInit3 K mg E f1 f2 f3 (tListOf K 1) a1 a2 a3)) :
    FnG P w K mg base (L2.CX P w) (lev + 1) f fd ps (spN C mg (ask3 f1 f2 f3)) := by
  refine okG F Sc (fun vs H Q E ⟨x, v1, v2, v3, dx, d1, d2, d3, B, e, _⟩ => by rw [e, hps]; rfl) fun cdv A out s H vs Q E hc hr h => ⟨_, hb cdv A out s H E hc hr, ?_⟩
  obtain ⟨x, v1, v2, v3, dx, d1, d2, d3, B, rfl, hx, bx, sm, tb, t1, t2, t3, h⟩ := h
  have okS : Ok [] B H ([V.ref x, v1, v2, v3].map some) [.gone, .dat d1, .dat d2, .dat d3] noFp := by
    refine ⟨sm, rfl, fun i t e => ?_, fun i j p e => (nomatch e), fun _ _ => rfl, tb⟩
    match i, e with
    | 0, e => cases e; exact rfl
    | 1, e => cases e; exact ⟨rfl, _, rfl, t1⟩
    | 2, e => cases e; exact ⟨rfl, _, rfl, t2⟩
    | 3, e => cases e; exact ⟨rfl, _, rfl, t3⟩
    | i + 4, e => simp at e
  have est : L2.start N [V.ref x, v1, v2, v3] = [V.ref x, v1, v2, v3].map some := by
    unfold L2.start
    rw [hN]
    rfl
  rw [est]
  have o0 : Off noFp B H x (.ins C dx []) := ⟨fun _ z => (nomatch z), bx, hx⟩
  unfold tInit3 tSeq tDrop
  refine ⟨[], B, _, noFp, okS, (Res.seq (rel := At) h).mono fun u1 H1 ⟨_, B1, ss1, fp1, ok1, _, g1, h1⟩ => ?_⟩
  refine ⟨[], B1, _, fp1, ok1, (Res.seq (rel := At) h1).mono fun u2 H2 ⟨_, B2, ss2, fp2, ok2, _, g2, h2⟩ => ?_⟩
  refine ⟨[], B2, _, fp2, ok2, (Res.seq (rel := At) h2).mono fun u3 H3 ⟨_, B3, ss3, fp3, ok3, _, g3, h3⟩ => ?_⟩
  have o3 := Off.step (Off.step (Off.step o0 g1) g2) g3
  obtain ⟨⟨es, e1⟩, go⟩ := Res.now (rel := At) ok3 h3 .non .non
  subst e1
  have t1' := ((t1.up g1.bb).up g2.bb).up g3.bb
  obtain ⟨p, xs, rfl, hp, al⟩ := t1'.lst_ex
  refine ⟨.ref p, rfl, p, xs, rfl, .inl (SqL.of (ok3.sm _ _ hp)), fun l hl => ?_⟩
  have nl : x ≠ l := fun z => by
    have := o3.at_
    rw [z, hl] at this
    cases this
  refine ⟨.ref x, rfl, x, C, dx, [], rfl, by rw [upd_ne nl]; exact o3.at_, cl, n1, by decide, ?_⟩
  refine ⟨v2, rfl, .ref x, rfl, x, C, dx, _, rfl, upd_same, cl, n2, Nat.lt_of_le_of_lt (length_putF a1 (V.ref l) []) (by decide), ?_⟩
  refine ⟨v3, rfl, .ref x, rfl, x, C, dx, _, rfl, upd_same, cl, n3, ?_, ?_⟩
  · have h1 := length_putF a2 v2 (putF a1 (V.ref l) [])
    have h2 := length_putF a1 (V.ref l) []
    have h3 : ([] : List (Str × V)).length = 0 := rfl
    omega
  · refine go _ fun b o nb eb => ?_
    rw [upd_ne nb, upd_ne nb, upd_ne nb, upd_ne fun z => by rw [z, hl] at eb; cases eb]
    exact eb
end
/-- C(e, e, e): what it is, is not known -/
def mMk (fi : M PyData) (fa : M (List PyData)) : M SV := M.bind fa fun ds => fun ss => match ds with
  | [d1, d2, d3] => match fi [.gone, .dat d1, .dat d2, .dat d3] with
    | some (.val _ _) => match d1 with
      | .list _ => some (.val .gone ss)
      | _ => none
    | some (.exc c fs) => some (.exc c fs)
    | none => none
  | _ => none
section
variable {X : Cx} {lev : Nat} {C f : Addr} {fd : FuncData} {ps : List Str} {E : XK} {x : Str} {p pos : Pos} {e : Expr} {es : List Expr} {fa : M (List PyData)} {fi : M PyData}
theorem m_make (M0 : Mk X.K C f) (F : FnG X.prog X.w X.K X.mg X.base (L2.CX X.prog X.w) lev f fd ps (spN C X.mg fi)) (hc : Calm X.A) (hr : Room (lev + 1) X.A) (hg : Gl X x) (hm : X.mg x = some (.ref C)) (hb : Binds X.K fd ps []) (hx : Passes (L2.CX X.prog X.w) X E)
    (ha : PA X (e :: es) (tA X.mg E fa)) (hdb : (x == ("__debug__" : Str)) = false := by decide) (he : starEach (e :: es) X.env = (false, eval e X.env) :: starEach es X.env := by rfl) (hpl : (backTo pos (starEach es X.env)).any (·.1) = false := by rfl) :
    PE X (.Call (.Name x p) (e :: es) [] pos) (tV X.mg E (mMk fi fa)) :=
  PE.imp (pg_make M0 F hc hr hg hm hb hx ha hdb he hpl) fun σ H Q ⟨A, B, ss, fp, ok, h⟩ => by
    refine ⟨A, B, ss, fp, ok, h.seq.mono fun vs H1 ⟨ds, B1, ss1, fp1, ok1, a1, g1, h1⟩ => ?_⟩
    intro a dx na ndx ne
    rw [List.append_nil]
    split at h1
    · rename_i d1 d2 d3
      cases a1 with
      | @cons v1 _ _ _ t1 r => cases r with
        | @cons v2 _ _ _ t2 r => cases r with
          | @cons v3 _ _ _ t3 r =>
            cases r
            have ba : B1 a = none := ok1.sm.free na
            have k1 : Same H1 (upd (upd H1 dx (.own a)) a (.ins C dx [])) := (same_new ndx).trans (same_new (by rw [upd_ne ne.symm]; exact na))
            have gr0 : Gr fp1 fp1 B1 H1 B1 (upd (upd H1 dx (.own a)) a (.ins C dx [])) := Gr.mk4 (Same.refl _) (fun b o _ e => k1 b o e) (fun _ _ _ e => e) (fun i b e => .inl ⟨i, e⟩) (tt_of k1)
            refine ⟨a, v1, v2, v3, dx, d1, d2, d3, B1, rfl, upd_same, ba, ok1.sm.trans k1, ok1.tbUp gr0, t1, t2, t3, ?_⟩
            cases q : fi [.gone, .dat d1, .dat d2, .dat d3] with
            | none => rw [q] at h1; exact h1
            | some r =>
              rw [q] at h1
              cases r with
              | exc c fs =>
                intro C' dv B2 H2 e g s ea
                exact (show ExcW X.mg E fp1 B1 H1 c fs from h1) C' dv B2 H2 e (gr0.trans (g.sub (fun b n i z => nomatch z) fun i b z => nomatch z)) s ea
              | val r0 ss0 =>
                dsimp only at h1
                split at h1
                · rename_i es0
                  intro v B2 H2 fp2 g ok2 _
                  refine ⟨⟨_, rfl⟩, fun H3 k => ⟨rfl, ?_⟩⟩
                  have fra : B2 a = none := g.fr a (fun i z => nomatch z) upd_same ba
                  have h12 : ∀ b o, H1 b = some o → NT o → H3 b = some o := fun b o e n => k b o (ne_of_none e na) (g.hh0 b o (fun i z => nomatch z) (k1 b o e) n)
                  have s23 : Same B2 H3 := fun b o e => k b o (fun z => by rw [z, fra] at e; cases e) (ok2.sm b o e)
                  have fr1 : ∀ b o, H1 b = some o → NT o → B1 b = none → B2 b = none := fun b o e n z => g.fr0 b o (fun i z => nomatch z) (k1 b o e) n z
                  have a2 : H2 a = some (.ins C dx []) := g.hh a _ (fun i z => nomatch z) upd_same
                  have tt3 : LamX.Tabs LT.T H2 → LamX.Tabs LT.T H3 := tabs_keep (fun b ps e => k b _ (fun z => by rw [z, a2] at e; cases e) e) (fun b f e => k b _ (fun z => by rw [z, a2] at e; cases e) e)
                  have okc : Ok A B2 H3 σ ss1 fp1 := ok1.growT g.bb s23 h12 fr1 ⟨tt3 ok2.tb.tabs, ok2.tb.nb⟩
                  refine (show ResV X.mg E A B1 fp1 σ H1 (some (.val .gone ss1)) Q from h1) (.ref a) B2 H3 _ ⟨g.bb, fun b o _ e n => h12 b o e n, fun b o _ e n z => fr1 b o e n z, fun j b e => ?_, fun t => tt3 (g.tt (tt_of k1 t)), g.nb⟩ (okc.push (w := some (.ref a)) (r := .gone) (q := none) rfl (fun _ _ z => nomatch z))
                  by_cases c : j = ss1.length
                  · rw [c, fset_same] at e
                    cases e
                  · rw [fset_ne c] at e
                    exact .inl ⟨j, e⟩
                · exact (show False from h1).elim
    · exact (show False from h1).elim
def sDropV (f : M SV) : S := eseq f fun _ ss => some (.nx ss)
theorem s_dropV {fv : M SV} (he : PE X e (tV X.mg E fv)) (hs : swapsWith e none pos.line X.env = pure false := by rfl) : PS X (.Expr e pos) (tS X.mg E (sDropV fv)) := PS.imp (ps_expr he hs) fun D σ H ⟨A, B, ss, fp, ok, h⟩ => by
  refine ⟨A, B, ss, fp, ok, h.seqV.mono fun v H1 ⟨r, B1, ss1, fp1, ok1, g1, h1⟩ => ?_⟩
  exact h1 σ B1 H1 _ gr_cut ok1.pop
end
end Cm

/-! Mirrors: dicts that are walked, listed, sorted, shown; texts sorted; lcm; lists searched for tuples. -/
namespace Cm
open PySem PySem.Spec PyProof.Rows L2 Cf
variable [LT]
omit [LT] in
theorem u1 {k : Nat} {A : Around} (r : Room k A) : A.units + 1 < cLine := by
  have := r.un
  omega
/-! ### keys -/
def keyD : Key → PyData
  | .inl i => .int i
  | .inr x => .str x
omit [LT] in
theorem AtK.keys {H : Hp} : ∀ {xs : List (Key × V)} {ks : List (PyData × PyData)}, AtK H xs ks → ks.map (·.1) = xs.map fun kv => keyD kv.1
  | _, _, .nil => rfl
  | _, _, .ki _ r => by rw [List.map_cons, List.map_cons, AtK.keys r]; rfl
  | _, _, .kt _ r => by rw [List.map_cons, List.map_cons, AtK.keys r]; rfl
omit [LT] in
theorem at_key {H : Hp} (k : Key) : At H (kV k) (keyD k) := by
  cases k with
  | inl i => exact .int i
  | inr x => exact .str x
def dKeys : PyData → Option (List PyData)
  | .dict ks => some (ks.map (·.1))
  | _ => none
/-- the keys of a dict that is data -/
def itK (f : M PyData) : M (List PyData) := M.bind f fun d => M.lift (dKeys d)
section
variable {X : Cx} {E : XK} {e tg : Expr} {f : M PyData}
theorem i_keys (hf : PE X e (tM X.mg E f)) : PI X tg e (tI X.mg E (itK f)) := PI.imp (pi_keys hf) fun σ H R ⟨A, B, ss, fp, ok, h⟩ => by
  refine ⟨A, B, ss, fp, ok, (Res.seq (rel := At) h).mono fun x H1 ⟨d1, B1, ss1, fp1, ok1, a1, g1, h1⟩ => ?_⟩
  obtain ⟨ds, e, h2⟩ := lift_some h1
  unfold dKeys at e
  split at e
  · rename_i ks
    cases e
    cases a1 with
    | @dct p o kvs _ hp ak =>
      refine ⟨p, o, rfl, .inl ⟨kvs, ok1.sm _ _ hp, Res.now (rel := IterOk) ok1 h2 _ ?_⟩⟩
      have hk : ∀ H, Same B1 H → H p = some (.frz o (.dK kvs)) := fun H s => s _ _ hp
      have w := walk_keys (d := p) (o := o) (kvs := kvs)
      have hl : (ks.map (·.1)).length = kvs.length := by rw [List.length_map, ak.length]
      refine ⟨fun i H hi s => w.goes i H (by rw [← hl]; exact hi) (hk H s), fun H s => by rw [hl]; exact w.stops H (hk H s), fun i H x H2 hi s y => ?_⟩
      obtain ⟨rfl, k, v, e1, rfl⟩ := w.yields i H x H2 (by rw [← hl]; exact hi) (hk H s) y
      refine ⟨keyD k, by rw [ak.keys, List.getElem?_map, e1]; rfl, fun B2 _ s2 => ⟨B2, Grow.refl s2, at_key k⟩⟩
  · cases e
end
section
variable {X : Cx} {E : XK} {e o : Expr} {f g : M PyData} {pos : Pos}
theorem m_tdin (hu : X.A.units + 1 < cLine) (hi : PE X e (tM X.mg E g)) (ho : PE X o (tM X.mg E f)) (hb : behindInMarks .In o = false) : PT X (.Compare e [.In] [o] pos) (tT X.mg E (mB (m2 (kDIn false) g f))) :=
  PT.imp (pt_cmp (pc_din hu hi ho) hb) fun σ H Q h => by
    obtain ⟨A, B, ss, fp, ok, h⟩ := tTest_of h
    refine ⟨A, B, ss, fp, ok, h.seq.mono fun x H1 ⟨d1, B1, ss1, fp1, ok1, a1, g1, h1⟩ => ⟨A, B1, ss1, fp1, ok1, h1.seq.mono fun y H2 ⟨d2, B2, ss2, fp2, ok2, a2, g2, h2⟩ => ?_⟩⟩
    obtain ⟨d, e, h3⟩ := lift_some h2
    obtain ⟨p, ov, e1, e2, e3⟩ := d_din ok2.sm (a1.up g2.bb) a2 e
    subst e3
    exact ⟨p, ov, e1, e2, h3.now ok2 _ (.bl _)⟩
theorem m_tdnin (hu : X.A.units + 1 < cLine) (hi : PE X e (tM X.mg E g)) (ho : PE X o (tM X.mg E f)) (hb : behindInMarks .NotIn o = false) : PT X (.Compare e [.NotIn] [o] pos) (tT X.mg E (mB (m2 (kDIn true) g f))) :=
  PT.imp (pt_cmp (pc_dnotin hu hi ho) hb) fun σ H Q h => by
    obtain ⟨A, B, ss, fp, ok, h⟩ := tTest_of h
    refine ⟨A, B, ss, fp, ok, h.seq.mono fun x H1 ⟨d1, B1, ss1, fp1, ok1, a1, g1, h1⟩ => ⟨A, B1, ss1, fp1, ok1, h1.seq.mono fun y H2 ⟨d2, B2, ss2, fp2, ok2, a2, g2, h2⟩ => ?_⟩⟩
    obtain ⟨d, e, h3⟩ := lift_some h2
    obtain ⟨p, ov, e1, e2, e3⟩ := d_din ok2.sm (a1.up g2.bb) a2 e
    subst e3
    exact ⟨p, ov, e1, e2, h3.now ok2 _ (.bl _)⟩
end
/-! ### list(d), all, lcm -/
def kListD : List PyData → Option (List PyData)
  | [.dict ks] => some (ks.map (·.1))
  | _ => none
omit [LT] in
theorem atL_keys {H : Hp} : ∀ kvs : List (Key × V), AtL H (kvs.map fun kv => kV kv.1) (kvs.map fun kv => keyD kv.1)
  | [] => .nil
  | kv :: r => .cons (at_key kv.1) (atL_keys r)
theorem d_listD : DAL (fun xs H Q => ∃ (a : Addr) (kvs : List (Key × V)), xs = [.ref a] ∧ Rd H a (.dK kvs) ∧ ∀ p, H p = none → Q (.ref p) (upd H p (.lst (kvs.map fun kv => kV kv.1)))) kListD := fun B H xs ds es Q s a e k => by
  unfold kListD at e
  split at e
  · cases e
    cases a with
    | cons a1 r =>
      cases r
      cases a1 with
      | @dct p o kvs ks hp ak => exact ⟨p, kvs, rfl, .inr ⟨o, s _ _ hp⟩, fun l hl => k l _ (by rw [ak.keys]; exact atL_keys kvs) hl⟩
  · cases e
def bools : List PyData → Option (List Bool)
  | [] => some []
  | .bool b :: ds => (bools ds).map (b :: ·)
  | _ => none
omit [LT] in
theorem bools_eq : ∀ {ds : List PyData} {bs : List Bool}, bools ds = some bs → ds = bs.map PyData.bool
  | [], _, h => by cases h; rfl
  | .bool b :: ds, bs, h => by
    unfold bools at h
    cases q : bools ds with
    | none => rw [q] at h; cases h
    | some cs =>
      rw [q] at h
      cases h
      rw [List.map_cons, ← bools_eq q]
  | .none :: _, _, h => by unfold bools at h; cases h
  | .int _ :: _, _, h => by unfold bools at h; cases h
  | .str _ :: _, _, h => by unfold bools at h; cases h
  | .list _ :: _, _, h => by unfold bools at h; cases h
  | .tuple _ :: _, _, h => by unfold bools at h; cases h
  | .dict _ :: _, _, h => by unfold bools at h; cases h
omit [LT] in
theorem bools_map : ∀ bs : List Bool, bools (bs.map PyData.bool) = some bs
  | [] => rfl
  | b :: bs => by rw [List.map_cons, bools, bools_map bs]; rfl
omit [LT] in
theorem atL_bools {H : Hp} : ∀ {xs : List V} {bs : List Bool}, AtL H xs (bs.map PyData.bool) → xs = bs.map V.bl
  | _, [], h => by cases h; rfl
  | _, b :: bs, h => by
    cases h with
    | cons a r => rw [a.bl_eq, atL_bools r]; rfl
def kAll : List PyData → Option PyData
  | [.list ds] => (bools ds).map fun bs => .bool (bs.all id)
  | _ => none
theorem d_all {K : PySem.W.Frag} : DA (rAll K) kAll := fun B H xs ds d Q s a e k => by
  unfold kAll at e
  split at e
  · rename_i ds'
    cases q : bools ds' with
    | none => rw [q] at e; cases e
    | some bs =>
      rw [q] at e
      cases e
      cases a with
      | cons a1 r =>
        cases r
        rw [bools_eq q] at a1
        obtain ⟨p, ys, rfl, hp, al⟩ := a1.lst_ex
        refine ⟨p, bs, rfl, ?_, k _ B H (Grow.refl s) (.bl _)⟩
        rw [← atL_bools al]
        exact SqL.of (s _ _ hp)
  · cases e
theorem k_all {X : Cx} {K : PySem.W.Frag} (e : X.K = K) (hc : X.calm = true) : CallR X (.builtin "all") (rAll K) := by subst e; exact cr_all hc
def rLcm : List V → Hp → VK → Prop := fun xs H Q => ∃ a b : Int, xs = [.int a, .int b] ∧ a.natAbs < 2 ^ 64 ∧ b.natAbs < 2 ^ 64 ∧ Q (.int ((a.natAbs.lcm b.natAbs : Nat) : Int)) H
theorem k_lcm {X : Cx} : CallR X (.builtin "math.lcm") rLcm := by
  intro pins s σ H xs us Q I r h
  obtain ⟨a, b, rfl, ha, hb, q⟩ := h
  cases r with
  | cons r1 r =>
    cases r with
    | cons r2 r =>
      cases r
      obtain ⟨t, rfl⟩ := r1
      obtain ⟨u, rfl⟩ := r2
      exact PySem.W.mc_lcm ha hb fun _ => ⟨.int _, H, I.tok _, ⟨_, rfl⟩, q⟩
def kLcm : List PyData → Option PyData
  | [.int a, .int b] => if decide (a.natAbs < 2 ^ 64) && decide (b.natAbs < 2 ^ 64) then some (.int ((a.natAbs.lcm b.natAbs : Nat) : Int)) else none
  | _ => none
theorem d_lcm : DA rLcm kLcm := fun B H xs ds d Q s a e k => by
  unfold kLcm at e
  split at e
  · split at e
    · rename_i c
      obtain ⟨c1, c2⟩ := Bool.and_eq_true_iff.mp c
      cases e
      cases a with
      | cons a1 r =>
        cases r with
        | cons a2 r =>
          cases r
          rw [a1.int_eq, a2.int_eq]
          exact ⟨_, _, rfl, of_decide_eq_true c1, of_decide_eq_true c2, k _ B H (Grow.refl s) (.int _)⟩
    · cases e
  · cases e
/-- a built-in that the module has under a name -/
theorem pe_callG {X : Cx} {id : String} {r : List V → Hp → VK → Prop} {x : Str} {p pos : Pos} {e : Expr} {es : List Expr} {t : TA} (hc : CallR X (.builtin id) r) (hg : Gl X x) (hm : X.mg x = some (.builtin id)) (ha : PA X (e :: es) t) (hdb : (x == ("__debug__" : Str)) = false := by decide)
    (he : starEach (e :: es) X.env = (false, eval e X.env) :: starEach es X.env := by rfl) (hpl : (backTo pos (starEach es X.env)).any (·.1) = false := by rfl) : PE X (.Call (.Name x p) (e :: es) [] pos) (tCB r t) := by
  refine ⟨fun pins s σ H Q I h => ?_⟩
  refine wpAny_Call_Name_kw (ld_glob I hg hm ?_ hdb)
  exact PyProof.Rows.callWith_builtin1 (thn (ha.run pos pins s σ H _ I h) fun us s1 ⟨vs, H1, I1, r1, q1⟩ => hc pins s1 σ H1 vs us Q I1 r1 q1) he hpl
/-! ### texts sorted -/
def isT : PyData → Option Str
  | .str x => some x
  | _ => none
def texts : List PyData → Option (List Str)
  | [] => some []
  | .str x :: ds => (texts ds).map (x :: ·)
  | _ => none
omit [LT] in
theorem texts_eq : ∀ {ds : List PyData} {xs : List Str}, texts ds = some xs → ds = xs.map PyData.str
  | [], _, h => by cases h; rfl
  | .str b :: ds, bs, h => by
    unfold texts at h
    cases q : texts ds with
    | none => rw [q] at h; cases h
    | some cs =>
      rw [q] at h
      cases h
      rw [List.map_cons, ← texts_eq q]
  | .none :: _, _, h => by unfold texts at h; cases h
  | .int _ :: _, _, h => by unfold texts at h; cases h
  | .bool _ :: _, _, h => by unfold texts at h; cases h
  | .list _ :: _, _, h => by unfold texts at h; cases h
  | .tuple _ :: _, _, h => by unfold texts at h; cases h
  | .dict _ :: _, _, h => by unfold texts at h; cases h
omit [LT] in
theorem texts_map : ∀ xs : List Str, texts (xs.map PyData.str) = some xs
  | [] => rfl
  | b :: bs => by rw [List.map_cons, texts, texts_map bs]; rfl
omit [LT] in
theorem atL_texts {H : Hp} : ∀ {xs : List V} {bs : List Str}, AtL H xs (bs.map PyData.str) → xs = bs.map V.str
  | _, [], h => by cases h; rfl
  | _, b :: bs, h => by
    cases h with
    | cons a r => rw [a.str_eq, atL_texts r]; rfl
omit [LT] in
theorem atL_strs {H : Hp} : ∀ xs : List Str, AtL H (xs.map V.str) (xs.map PyData.str)
  | [] => .nil
  | x :: xs => .cons (.str x) (atL_strs xs)
def leT (a b : Str) : Bool := !ltCps b.cps.toList a.cps.toList
def sortT (xs : List Str) : List Str := xs.mergeSort leT
omit [LT] in
theorem ltC_anti : ∀ {a b : List Nat}, ltCps a b = false → ltCps b a = false → a = b
  | [], [], _, _ => rfl
  | [], _ :: _, h, _ => by simp [ltCps] at h
  | _ :: _, [], _, h => by simp [ltCps] at h
  | a :: r, b :: t, h, k => by
    simp only [ltCps, Bool.or_eq_false_iff, Bool.and_eq_false_iff, decide_eq_false_iff_not] at h k
    have e : a = b := by omega
    subst e
    have h2 : ltCps r t = false := by
      rcases h.2 with z | z
      · simp at z
      · exact z
    have k2 : ltCps t r = false := by
      rcases k.2 with z | z
      · simp at z
      · exact z
    rw [ltC_anti h2 k2]
omit [LT] in
theorem ltC_total (a b : List Nat) : ltCps a b = false ∨ ltCps b a = false := by
  rw [ltCps_eq, ltCps_eq]
  by_cases c : a < b
  · exact .inr (decide_eq_false (List.lt_asymm c))
  · exact .inl (decide_eq_false c)
omit [LT] in
theorem leT_trans {a b c : Str} (h : leT a b = true) (k : leT b c = true) : leT a c = true := by
  unfold leT at *
  rw [Bool.not_eq_true', ltCps_eq, decide_eq_false_iff_not] at *
  exact List.not_lt.mpr (List.le_trans (List.not_lt.mp h) (List.not_lt.mp k))
omit [LT] in
theorem rising_pw : ∀ (p : Str) (l : List Str), risingS p l = true → (p :: l).Pairwise fun a b => leT a b = true
  | p, [], _ => List.pairwise_singleton ..
  | p, x :: r, h => by
    unfold risingS at h
    rw [Bool.and_eq_true] at h
    have ih := rising_pw x r h.2
    refine List.pairwise_cons.mpr ⟨fun y hy => ?_, ih⟩
    rcases List.mem_cons.mp hy with z | z
    · rw [z]; exact h.1
    · exact leT_trans (b := x) h.1 ((List.pairwise_cons.mp ih).1 y z)
omit [LT] in
theorem sortT_uniq {ys xs : List Str} (hp : ys.Perm xs) (hs : sortedS ys = true) : ys = sortT xs := by
  have h1 : ys.Pairwise fun a b => leT a b = true := by
    cases ys with
    | nil => exact .nil
    | cons y r => exact rising_pw y r hs
  have h2 : (sortT xs).Pairwise fun a b => leT a b = true := List.pairwise_mergeSort (le := leT) (fun a b c h k => leT_trans h k) (fun a b => by
    unfold leT
    rcases ltC_total b.cps.toList a.cps.toList with z | z <;> simp [z]) xs
  refine List.Perm.eq_of_pairwise (le := fun a b => leT a b = true) (fun a b _ _ h k => ?_) h1 h2 (hp.trans (List.mergeSort_perm xs leT).symm)
  unfold leT at h k
  rw [Bool.not_eq_true'] at h k
  have := ltC_anti h k
  cases a
  cases b
  simp at this
  rw [this]
def kSortT : List PyData → Option (List PyData)
  | [.list ds] => match texts ds with
    | some xs => if decide (xs.length < 64) then some ((sortT xs).map .str) else none
    | none => none
  | _ => none
theorem k_sortT {X : Cx} {K : PySem.W.Frag} (e : X.K = K) : CallR X (.builtin "sorted") (rSortedS K) := by subst e; exact cr_sortedS
theorem d_sortT {K : PySem.W.Frag} : DAL (rSortedS K) kSortT := fun B H xs ds es Q s a e k => by
  unfold kSortT at e
  split at e
  · rename_i ds'
    split at e
    · rename_i ts q
      split at e
      · rename_i c
        cases e
        cases a with
        | cons a1 r =>
          cases r
          rw [texts_eq q] at a1
          obtain ⟨p, ys, rfl, hp, al⟩ := a1.lst_ex
          refine ⟨p, ts, rfl, ?_, of_decide_eq_true c, fun zs l hz hs hl => ?_⟩
          · rw [← atL_texts al]
            exact SqL.of (s _ _ hp)
          · rw [sortT_uniq hz hs]
            exact k l _ (atL_strs _) hl
      · cases e
    · cases e
  · cases e
/-- sorted(d) -/
def kSortK : List PyData → Option (List PyData)
  | [.dict ks] => match texts (ks.map (·.1)) with
    | some xs => if decide (xs.length < 64) then some ((sortT xs).map .str) else none
    | none => none
  | _ => none
omit [LT] in
theorem keys_strs : ∀ {kvs : List (Key × V)} {xs : List Str}, (kvs.map fun kv => keyD kv.1) = xs.map PyData.str → kvs.map (·.1) = xs.map Sum.inr
  | [], [], _ => rfl
  | [], _ :: _, h => by simp at h
  | _ :: _, [], h => by simp at h
  | (k, v) :: r, x :: xs, h => by
    simp only [List.map_cons, List.cons.injEq] at h
    rw [List.map_cons, List.map_cons, keys_strs h.2]
    cases k with
    | inl i => cases h.1
    | inr y =>
      have := h.1
      simp [keyD] at this
      rw [this]
def rSortK : List V → Hp → VK → Prop := fun xs H Q => ∃ (a : Addr) (kvs : List (Key × V)) (ks : List Str), xs = [.ref a] ∧ Rd H a (.dK kvs) ∧ kvs.map (·.1) = ks.map Sum.inr ∧ ks.length < 64 ∧ ∀ ys p, ys.Perm ks → sortedS ys = true → H p = none → Q (.ref p) (upd H p (.lst (ys.map V.str)))
theorem d_sortK : DAL rSortK kSortK := fun B H xs ds es Q s a e k => by
  unfold kSortK at e
  split at e
  · rename_i ds'
    split at e
    · rename_i ts q
      split at e
      · rename_i c
        cases e
        cases a with
        | cons a1 r =>
          cases r
          cases a1 with
          | @dct p o kvs ks hp ak =>
            have q2 := texts_eq q
            rw [ak.keys] at q2
            refine ⟨p, kvs, ts, rfl, .inr ⟨o, s _ _ hp⟩, keys_strs q2, of_decide_eq_true c, fun zs l hz hs hl => ?_⟩
            rw [sortT_uniq hz hs]
            exact k l _ (atL_strs _) hl
      · cases e
    · cases e
  · cases e
end Cm

/-! Mirrors: dict comprehensions. -/
namespace Cm
open PySem PySem.Spec PyProof.Rows L2 Cf
variable [LT]
def dcGo (vs : List Nat) (b : PyData → List SV → Option (List SV)) (t : M Bool) (fk fv : M PyData) : List PyData → List (PyData × PyData) → List SV → Option (R SV)
  | [], acc, ss => some (.val (.odk none acc) ss)
  | d :: ds, acc, ss => match b d ss with
    | none => none
    | some s1 => match t s1 with
      | some (.val true s2) => match fk s2 with
        | some (.val k s3) => match fv s3 with
          | some (.val y s4) => match keyOf k with
            | some key => if few acc.length then dcGo vs b t fk fv ds (putD acc k key y) (wipeS s4 vs) else none
            | none => none
          | _ => none
        | _ => none
      | some (.val false s2) => dcGo vs b t fk fv ds acc (wipeS s2 vs)
      | _ => none
def mDc (vs : List Nat) (it : M (List PyData)) (b : PyData → List SV → Option (List SV)) (t : M Bool) (fk fv : M PyData) : M SV := M.bind it fun ds ss => dcGo vs b t fk fv ds [] (wipeS ss vs)
/-- a dict that is being made at D, beside all else -/
structure DcS (A : List V) (fp1 : Nat → Option Addr) (B1 H1 : Hp) (D : Addr) (σ : L2.St) (ss : List SV) (fp : Nat → Option Addr) (B H : Hp) (acc : List (PyData × PyData)) (xs : List (Key × V)) : Prop where
  bb : Same B1 B
  ok : Ok A B H σ ss fp
  gr : Gr fp1 fp B1 H1 B H
  hx : H D = some (.dK xs)
  hb : B D = none
  hf : ∀ j, fp j ≠ some D
  ax : AtK B xs acc
section
variable {A : List V} {fp1 fp fp2 : Nat → Option Addr} {B1 H1 B H B2 H2 : Hp} {D : Addr} {σ τ : L2.St} {ss s2 : List SV} {acc : List (PyData × PyData)} {xs : List (Key × V)} {y : V} {k d : PyData} {key : Key}
theorem DcS.step (S : DcS A fp1 B1 H1 D σ ss fp B H acc xs) (g : Gr fp fp2 B H B2 H2) (ok : Ok A B2 H2 τ s2 fp2) : DcS A fp1 B1 H1 D τ s2 fp2 B2 H2 acc xs :=
  have nf : ∀ j, fp2 j ≠ some D := fun j ej => by
    rcases g.nw j D ej with ⟨k, z⟩ | z
    · exact S.hf k z
    · exact z.no S.hx
  ⟨S.bb.trans g.bb, ok, S.gr.trans g, g.hh D _ S.hf S.hx, g.fr D S.hf S.hx S.hb, nf, AtK.mono g.bb _ _ S.ax⟩
theorem DcS.wipe (S : DcS A fp1 B1 H1 D σ ss fp B H acc xs) (vs : List Nat) : ∃ fp2, DcS A fp1 B1 H1 D (L2.wipe σ vs) (wipeS ss vs) fp2 B H acc xs := by
  obtain ⟨fp2, ok2, g⟩ := S.ok.wipe vs
  exact ⟨fp2, S.step g ok2⟩
theorem DcS.put (S : DcS A fp1 B1 H1 D σ ss fp B H acc xs) (hD : H1 D = none) (e : keyOf k = some key) (a : At B y d) : DcS A fp1 B1 H1 D σ ss fp B (upd H D (.dK (putK xs key y))) (putD acc k key d) (putK xs key y) := by
  have nd : ∀ b o, B b = some o → b ≠ D := fun b o eb z => by
    rw [z, S.hb] at eb
    cases eb
  refine ⟨S.bb, ⟨fun b o eb => ?_, S.ok.len, fun j t et => (S.ok.sl j t et).grow (Same.refl _) fun r er => ⟨(S.ok.hasO er).1, upd_ne fun z => S.hf j (by rw [← z]; exact er)⟩, S.ok.inj, S.ok.out, S.ok.tb.upd S.hx⟩, S.gr.upd (.inr (.of hD)) S.hx, upd_same, S.hb, S.hf, S.ax.put e a⟩
  rw [upd_ne (nd b o eb)]
  exact S.ok.sm b o eb
end
section
variable {X : Cx} {E : XK}
theorem dc_of {vs : List Nat} {t : TG} {b : PyData → List SV → Option (List SV)} {it : M (List PyData)} {ft : M Bool} {fk fv : M PyData} (G : GOk vs t b) {σ : L2.St} {H : Hp} {Q : VK} (h : tV X.mg E (mDc vs it b ft fk fv) σ H Q) :
    tDc (tI X.mg E it) t (tT X.mg L2.E0 ft) (tM X.mg L2.E0 fk) (tM X.mg L2.E0 fv) vs σ H Q := by
  obtain ⟨A, B, ss, fp, ok, h⟩ := h
  refine ⟨A, B, ss, fp, ok, (ResV.seq (rel := IterOk) h).mono fun J H1 ⟨ds, B1, ss1, fp1, ok1, J1, g1, h1⟩ D hD => ?_⟩
  obtain ⟨jg, js, jy⟩ := J1
  have h1 : ResV X.mg E A B1 fp1 σ H1 (dcGo vs b ft fk fv ds [] (wipeS ss1 vs)) Q := h1
  generalize hT : dcGo vs b ft fk fv ds [] (wipeS ss1 vs) = T at h1
  have nn : T ≠ none := fun z => by
    rw [z] at h1
    exact (show False from h1).elim
  obtain ⟨fpw, okw, gw⟩ := ok1.wipe vs
  refine ⟨fun i m H => m = ds.length - i ∧ i ≤ ds.length ∧ ∃ B2 s fp2 acc xs, DcS A fp1 B1 H1 D (wipe σ vs) (wipeS s vs) fp2 B2 H acc xs ∧ dcGo vs b ft fk fv (ds.drop i) acc (wipeS s vs) = T, ⟨ds.length, by omega, Nat.zero_le _, B1, ss1, fpw, [], [], ⟨Same.refl _, okw.grow (Same.refl _) (ok1.sm.trans (same_new hD)) (same_new hD) (fun _ _ z => z), gw.trans (Grow.own ok1.sm hD).gr, upd_same, ok1.sm.free hD, fun j e => ?_, .nil⟩, hT⟩, ?_⟩
  · obtain ⟨_, o, ho⟩ := okw.hasO e
    rw [hD] at ho
    cases ho
  rintro i m H ⟨rfl, hi, B2, s, fp2, acc, xs, S, el⟩
  by_cases hlt : i < ds.length
  · refine .inr ⟨jg i H hlt (S.bb.trans S.ok.sm), fun H' => ∃ B2 s fp2 acc xs, DcS A fp1 B1 H1 D (wipe σ vs) (wipeS s vs) fp2 B2 H' acc xs ∧ dcGo vs b ft fk fv (ds.drop (i + 1)) acc (wipeS s vs) = T, fun H' h' => ⟨ds.length - (i + 1), by omega, rfl, hlt, h'⟩, fun x H' y => ?_⟩
    obtain ⟨d, ed, hd⟩ := jy i H x H' hlt (S.bb.trans S.ok.sm) y
    obtain ⟨B3, g3, a3⟩ := hd B2 S.bb S.ok.sm
    have e : ds.drop i = d :: ds.drop (i + 1) := by
      rw [List.drop_eq_getElem_cons hlt]
      have : ds[i] = d := by
        rw [List.getElem?_eq_getElem hlt] at ed
        exact Option.some.inj ed
      rw [this]
    rw [e] at el
    unfold dcGo at el
    cases q : b d (wipeS s vs) with
    | none => rw [q] at el; exact absurd el.symm nn
    | some s1 =>
      rw [q] at el
      dsimp only at el
      have S3 := S.step g3.gr (S.ok.up g3)
      refine G A B3 H' (wipe σ vs) (wipeS s vs) fp2 x d s1 _ S3.ok a3 q fun σ4 fp4 w4 ok4 g4 => ?_
      have S4 := S3.step g4 ok4
      rw [wipe_idem] at w4
      refine ⟨w4, A, B3, s1, fp4, ok4, ?_⟩
      cases qt : ft s1 with
      | none => rw [qt] at el; exact absurd el.symm nn
      | some rt =>
        rw [qt] at el
        cases rt with
        | exc c fs => exact absurd el.symm nn
        | val bb s5 =>
          intro bv B5 H5 fp5 g5 ok5 rb
          subst rb
          have S5 := S4.step g5 ok5
          cases bv with
          | false =>
            dsimp only at el
            refine iteF ?_
            obtain ⟨fp6, S6⟩ := S5.wipe vs
            rw [w4] at S6
            exact ⟨B5, s5, fp6, acc, xs, S6, el⟩
          | true =>
            dsimp only at el
            refine iteT ⟨A, B5, s5, fp5, ok5, ?_⟩
            cases qk : fk s5 with
            | none => rw [qk] at el; exact absurd el.symm nn
            | some rk =>
              rw [qk] at el
              cases rk with
              | exc c fs => exact absurd el.symm nn
              | val kd s6 =>
                dsimp only at el
                intro kv B6 H6 fp6 g6 ok6 ak
                have S6 := S5.step g6 ok6
                refine ⟨A, B6, s6, fp6, ok6, ?_⟩
                cases qf : fv s6 with
                | none => rw [qf] at el; exact absurd el.symm nn
                | some rf =>
                  rw [qf] at el
                  cases rf with
                  | exc c fs => exact absurd el.symm nn
                  | val yd s7 =>
                    dsimp only at el
                    intro yv B7 H7 fp7 g7 ok7 ay
                    have S7 := S6.step g7 ok7
                    cases qq : keyOf kd with
                    | none => rw [qq] at el; exact absurd el.symm nn
                    | some key =>
                      rw [qq] at el
                      dsimp only at el
                      by_cases cf : few acc.length = true
                      · rw [if_pos cf] at el
                        refine ⟨xs, key, (ak.up g7.bb).key qq, S7.hx, by rw [S7.ax.length]; exact few_line cf, ?_⟩
                        obtain ⟨fp8, S8⟩ := S7.wipe vs
                        rw [w4] at S8
                        exact ⟨B7, s7, fp8, _, _, S8.put hD qq ay, el⟩
                      · rw [if_neg cf] at el
                        exact absurd el.symm nn
  · have ei : i = ds.length := by omega
    subst ei
    rw [List.drop_length] at el
    refine .inl ⟨js H (S.bb.trans S.ok.sm), ?_⟩
    rw [← el] at h1
    have okf : Ok A B2 H σ (wipeS s vs) fp2 := Ok.rewipe (τ := wipe σ vs) (by rw [wipe_idem]; exact S.ok) wipe_idem
    have okp := okf.push (w := some (.ref D)) (r := .odk none acc) (q := some D) ⟨D, xs, rfl, rfl, S.hb, S.hx, S.ax, fun k z => nomatch z⟩ fun j p ep => by cases ep; exact S.hf j
    refine h1 (.ref D) B2 H _ (S.gr.sub (fun _ h => h) fun j bb eb => ?_) okp
    by_cases c : j = (wipeS s vs).length
    · rw [c, fset_same] at eb
      cases eb
      exact .inr (.of hD)
    · rw [fset_ne c] at eb
      exact S.gr.nw j bb eb
theorem m_dc {kx vx tg iter : Expr} {ifs : List Expr} {scope : Scope} {own : List (Str × Nat)} {pos : Pos} {t : TG} {b : PyData → List SV → Option (List SV)} {it : M (List PyData)} {ft : M Bool} {fk fv : M PyData} (G : GOk (own.map (·.2)) t b) (hc : X.calm = true) (hN : X.N.Nodup) (hi : PI X tg iter (tI X.mg E it)) (ok : BlkOk X.N X.env.scope scope own)
    (hg : ∀ (s : Shared) (H : Hp) (C : Addr) (cl : List (Str × Addr)) (fp : List Addr), PG (X.blk s H scope (compEnvC scope cl C X.env) fp) tg t) (ht : ∀ (s : Shared) (H : Hp) (C : Addr) (cl : List (Str × Addr)) (fp : List Addr), PTs (X.blk s H scope (compEnvC scope cl C X.env) fp) ifs (tT X.mg L2.E0 ft))
    (hk : ∀ (s : Shared) (H : Hp) (C : Addr) (cl : List (Str × Addr)) (fp : List Addr), PE (X.blk s H scope (compEnvC scope cl C X.env) fp) kx (tM X.mg L2.E0 fk))
    (he : ∀ (s : Shared) (H : Hp) (C : Addr) (cl : List (Str × Addr)) (fp : List Addr), PE (X.blk s H scope (compEnvC scope cl C X.env) fp) vx (tM X.mg L2.E0 fv)) (hs : ∀ x, foldedSetIterable iter X.env x = pure x := by intro _; rfl) :
    PE X (.DictComp kx vx [⟨tg, iter, ifs, 0⟩] scope pos) (tV X.mg E (mDc (own.map (·.2)) it b ft fk fv)) := PE.imp (pe_dc hc hN hi ok hg ht hk he hs) fun _ _ _ h => dc_of G h
end
end Cm

/-! Mirrors: repr of a flat dict, lists searched for tuples, xs[::-1], dict(pairs), list(d.items()). -/
namespace Cm
open PySem PySem.Spec PyProof.Rows L2 Cf
variable [LT]
def vD : V → PyData
  | .int i => .int i
  | .str x => .str x
  | .bl b => .bool b
  | _ => .none
def okV : V → Bool
  | .int _ => true
  | .str _ => true
  | .bl _ => true
  | .non => true
  | _ => false
def flat4 : PyData → Bool
  | .none => true
  | .bool _ => true
  | .int _ => true
  | .str _ => true
  | _ => false
omit [LT] in
theorem at_flat4 {H : Hp} {v : V} {d : PyData} (a : At H v d) (f : flat4 d = true) : d = vD v ∧ okV v = true := by
  cases a with
  | non => exact ⟨rfl, rfl⟩
  | bl b => exact ⟨rfl, rfl⟩
  | int i => exact ⟨rfl, rfl⟩
  | str x => exact ⟨rfl, rfl⟩
  | lst _ _ => cases f
  | tup _ _ => cases f
  | dct _ _ => cases f
def dictD (kvs : List (Key × V)) : List (PyData × PyData) := kvs.map fun kv => (keyD kv.1, vD kv.2)
omit [LT] in
theorem atK_flat {H : Hp} : ∀ {kvs : List (Key × V)} {ks : List (PyData × PyData)}, AtK H kvs ks → (∀ p ∈ ks, flat4 p.2 = true) → ks = dictD kvs ∧ ∀ kv ∈ kvs, okV kv.2 = true
  | _, _, .nil, _ => ⟨rfl, fun _ m => nomatch m⟩
  | _, _, .ki a r, f => by
    obtain ⟨h1, h2⟩ := atK_flat r fun p m => f p (List.mem_cons_of_mem _ m)
    obtain ⟨e1, e2⟩ := at_flat4 a (f _ List.mem_cons_self)
    refine ⟨by rw [h1, e1]; rfl, fun kv m => ?_⟩
    rcases List.mem_cons.mp m with z | z
    · rw [z]; exact e2
    · exact h2 kv z
  | _, _, .kt a r, f => by
    obtain ⟨h1, h2⟩ := atK_flat r fun p m => f p (List.mem_cons_of_mem _ m)
    obtain ⟨e1, e2⟩ := at_flat4 a (f _ List.mem_cons_self)
    refine ⟨by rw [h1, e1]; rfl, fun kv m => ?_⟩
    rcases List.mem_cons.mp m with z | z
    · rw [z]; exact e2
    · exact h2 kv z
omit [LT] in
theorem reads_flat {h : Heap} {v : V} {u : Value} (r : RelV v u) (o : okV v = true) : Reads h u (vD v) [] := by
  cases v with
  | int i =>
    obtain ⟨t, rfl⟩ := r
    exact .int i t
  | str x =>
    obtain ⟨t, rfl⟩ := r
    exact .str x t
  | bl b =>
    cases r
    exact .bool b
  | non =>
    cases r
    exact .none
  | _ => cases o
omit [LT] in
theorem reads_key {h : Heap} {k : Key} {u : Value} (r : keyIs k u = true) : Reads h u (keyD k) [] := by
  rcases keyIs_shape r with ⟨i, t, rfl, rfl⟩ | ⟨x, t, rfl, rfl⟩
  · first
    | exact .int _ _
    | exact .str _ _
  · first
    | exact .int _ _
    | exact .str _ _
omit [LT] in
theorem reads_pairs {P : Program} {w : World} {h : Heap} : ∀ {kvs : List (Key × V)} {vs : List (Key × Value)} {es : List DictEntry}, KV kvs vs → Pairs (mixKind P w) es vs → (∀ kv ∈ kvs, okV kv.2 = true) →
    ReadsAll h (es.map (·.key)) (kvs.map fun kv => keyD kv.1) [] ∧ ReadsAll h (es.map (·.val)) (kvs.map fun kv => vD kv.2) []
  | [], _, _, .nil, .nil, _ => ⟨.nil, .nil⟩
  | kv :: kvs, v :: vs, e :: es, .cons r rs, .cons p1 p2 ps, hok => by
    obtain ⟨i1, i2⟩ := reads_pairs (h := h) rs ps fun x hx => hok x (List.mem_cons_of_mem _ hx)
    have o := hok kv List.mem_cons_self
    have r1 : Reads h e.key (keyD kv.1) [] := reads_key (by
      have := r.1
      rw [this]
      exact p1)
    have r2 : Reads h e.val (vD kv.2) [] := reads_flat (by
      rw [p2]
      exact r.2) o
    exact ⟨ReadsAll.cons r1 i1, ReadsAll.cons r2 i2⟩
section
variable {X : Cx}
def rReprD : List V → Hp → VK → Prop := fun xs H Q => ∃ a kvs, xs = [.ref a] ∧ Rd H a (.dK kvs) ∧ (∀ kv ∈ kvs, okV kv.2 = true) ∧ ((PyData.dict (dictD kvs)).showable = true ∧ (PyData.dict (dictD kvs)).depth ≤ 100 ∧ (PyData.dict (dictD kvs)).shown.length ≤ sizeLine) ∧ Q (.str (PyData.dict (dictD kvs)).shown) H
theorem k_reprD (hc : Calm X.A) (hu : X.A.units + 200 < cLine) : CallR X (.builtin "repr") rReprD := by
  intro pins s σ H xs us Q I r h
  obtain ⟨a, kvs, rfl, e, ok, ⟨h1, h3, h4⟩, q⟩ := h
  rw [Vals.ref1 r]
  obtain ⟨z, hd, vs, rel, o, es, ep, ho, hx, hdat, _, hp, _⟩ := dk_rd I.hok e
  obtain ⟨r1, r2⟩ := reads_pairs (h := s.heap) rel hp ok
  have rd : Reads s.heap (.ref a) (.dict (dictD kvs)) [a] := Reads.dict (kvs := dictD kvs) ho hx.1 hdat (by unfold dictD; rw [List.map_map]; exact r1) (by unfold dictD; rw [List.map_map]; exact r2)
  refine repr_of_reads' rd h1 (fun _ m => ?_) hc (by omega) (fun b o e => e) (fun h' t tk k => ⟨.str (PyData.dict (dictD kvs)).shown, H, I.kept k, ⟨_, rfl⟩, q⟩) h4
  rw [List.mem_singleton] at m
  rw [← m] at hd
  simp at hd
end
/-- repr of a dict whose values are flat -/
def kReprD : List PyData → Option PyData
  | [.dict ks] => if ks.all (fun p => flat4 p.2) && (PyData.dict ks).showable && decide ((PyData.dict ks).depth ≤ 100) && decide ((PyData.dict ks).shown.length ≤ sizeLine) then some (.str (PyData.dict ks).shown) else none
  | _ => none
theorem d_reprD : DA rReprD kReprD := fun B H xs ds d Q s a e k => by
  unfold kReprD at e
  split at e
  · rename_i ks
    split at e
    · rename_i c
      simp only [Bool.and_eq_true, decide_eq_true_eq, List.all_eq_true] at c
      obtain ⟨⟨⟨c1, c2⟩, c3⟩, c4⟩ := c
      cases e
      cases a with
      | cons a1 r =>
        cases r
        cases a1 with
        | @dct p o kvs _ hp ak =>
          obtain ⟨e1, e2⟩ := atK_flat ak c1
          subst e1
          exact ⟨p, kvs, rfl, .inr ⟨o, s _ _ hp⟩, e2, ⟨c2, c3, c4⟩, k _ B H (Grow.refl s) (.str _)⟩
    · cases e
  · cases e
/-! ### deep search -/
def okDeep (d : PyData) : Bool := !d.hasDict && SeqAt.shaped d
def kInD : PyData → PyData → Option PyData
  | d, .list ds => if okDeep d && okDeep (.list ds) then some (.bool (ds.any fun z => PyData.eqv z d)) else none
  | _, _ => none
theorem k_inD {X : Cx} {K : PySem.W.Frag} (e : X.K = K) (hu : X.A.units + 65 < cLine) : OpR X (compareOp .In) (rInD K) := by subst e; exact op_inD hu
theorem d_inD {K : PySem.W.Frag} : D2 (rInD K) kInD := fun B H x y d1 d2 d Q s a b e k => by
  unfold kInD at e
  split at e
  · rename_i ds
    split at e
    · rename_i c
      unfold okDeep at c
      simp only [Bool.and_eq_true, Bool.not_eq_true'] at c
      cases e
      exact ⟨d1, ds, At.dp _ _ c.1.1 (a.up s), At.dp _ _ c.2.1 (b.up s), c.1.2, c.2.2, k _ B H (Grow.refl s) (.bl _)⟩
    · cases e
  · cases e
def ixD (ds : List PyData) (d : PyData) : Option Nat := ds.findIdx? fun z => PyData.eqv z d
def kIdxD (ds : List PyData) : List PyData → Option PyData
  | [d] => if okDeep d && okDeep (.list ds) then (ixD ds d).map fun n => .int (n : Nat) else none
  | _ => none
def mIndexD (f : M PyData) (fa : M (List PyData)) : M PyData := M.bind (itL f) fun ds => M.bind fa fun as => M.lift (kIdxD ds as)
section
variable {X : Cx} {E : XK} {e : Expr} {K : PySem.W.Frag} {f : M PyData} {fa : M (List PyData)}
theorem k_indexD (e : X.K = K) (hu : X.A.units + 65 < cLine) : MtR X "list.index" (rIndexD K) := by subst e; exact mt_indexD hu
theorem m_indexD (ek : X.K = K) (h : PE X e (tBM X.K "list" (rIndexD K) (tM X.mg E f) (tA X.mg E fa))) : PE X e (tM X.mg E (mIndexD f fa)) := PE.imp h fun σ H Q ⟨A, B, ss, fp, ok, h⟩ => by
  have h : Res At X.mg E A B fp σ H (M.bind (M.bind f fun d => M.lift (asL d)) (fun ds => M.bind fa fun as => M.lift (kIdxD ds as)) ss) Q := h
  rw [bind_assoc] at h
  refine ⟨A, B, ss, fp, ok, h.seq.mono fun x H1 ⟨d1, B1, ss1, fp1, ok1, a1, g1, h1⟩ => ?_⟩
  cases q : asL d1 with
  | none => rw [q] at h1; exact (show False from h1).elim
  | some ds =>
    rw [q] at h1
    have h1 : Res At X.mg E A B1 fp1 σ H1 (M.bind fa (fun as => M.lift (kIdxD ds as)) ss1) Q := h1
    rw [asL_some q] at a1
    obtain ⟨p, xs, rfl, hp, al⟩ := a1.lst_ex
    refine ⟨.inl ⟨rfl, xs, SqL.of (ok1.sm _ _ hp)⟩, A, B1, ss1, fp1, ok1, (Res.seq (rel := AtL) h1).mono fun ys H2 ⟨as, B2, ss2, fp2, ok2, a2, g2, h2⟩ => ?_⟩
    obtain ⟨r, er, h3⟩ := lift_some h2
    unfold kIdxD at er
    split at er
    · rename_i d
      split at er
      · rename_i c
        unfold okDeep at c
        simp only [Bool.and_eq_true, Bool.not_eq_true'] at c
        cases q : ixD ds d with
        | none => rw [q] at er; cases er
        | some n =>
          rw [q] at er
          cases er
          cases a2 with
          | @cons y _ _ _ b1 rr =>
            cases rr
            unfold ixD at q
            rw [List.findIdx?_eq_some_iff_getElem] at q
            obtain ⟨hn, hy, hl⟩ := q
            refine ⟨p, y, d, ds, n, ds[n], rfl, rfl, At.dp _ _ c.2.1 ((a1.up g2.bb).up ok2.sm), At.dp _ _ c.1.1 (b1.up ok2.sm), c.2.2, c.1.2, by rw [List.getElem?_eq_getElem hn], hy, fun m z hm hz => ?_, Res.now (rel := At) ok2 h3 _ (.int _)⟩
            rw [List.getElem?_eq_getElem (by omega)] at hz
            cases hz
            simpa using hl m hm
      · cases er
    · cases er
end
/-- xs[::-1] -/
def kRevD : List PyData → Option (List PyData)
  | [.list ds] => some ds.reverse
  | _ => none
def mRevL (f : M PyData) : M SV := M.bind (itL f) fun ds => M.ret (.own none ds.reverse)
omit [LT] in
theorem AtL.rev {H : Hp} : ∀ {xs : List V} {ds : List PyData}, AtL H xs ds → AtL H xs.reverse ds.reverse
  | [], _, a => by cases a; exact .nil
  | x :: xs, _, a => by
    cases a with
    | cons h r =>
      rw [List.reverse_cons, List.reverse_cons]
      exact (AtL.rev r).append (.one h)
section
variable {X : Cx} {E : XK} {e : Expr} {f : M PyData}
theorem m_revL {k : Nat} {p1 p2 p3 pos : Pos} (h : PE X e (tM X.mg E f)) : PE X (.Subscript e (.Slice none none (some (.UnaryOp .USub (.Constant (.int 1) k p1) p2)) p3) pos) (tV X.mg E (mRevL f)) := PE.imp (pe_revL h) fun σ H Q ⟨A, B, ss, fp, ok, h⟩ => by
  have h : ResV X.mg E A B fp σ H (M.bind (M.bind f fun d => M.lift (asL d)) (fun ds => M.ret (SV.own none ds.reverse)) ss) Q := h
  rw [bind_assoc] at h
  refine ⟨A, B, ss, fp, ok, (ResV.seq (rel := At) h).mono fun x H1 ⟨d1, B1, ss1, fp1, ok1, a1, g1, h1⟩ => ?_⟩
  cases q : asL d1 with
  | none => rw [q] at h1; exact (show False from h1).elim
  | some ds =>
    rw [q] at h1
    have h1 : ResV X.mg E A B1 fp1 σ H1 (some (.val (.own none ds.reverse) ss1)) Q := h1
    rw [asL_some q] at a1
    obtain ⟨p, xs, rfl, hp, al⟩ := a1.lst_ex
    refine ⟨p, xs, rfl, SqL.of (ok1.sm _ _ hp), fun l hl => ?_⟩
    obtain ⟨ok2, g2⟩ := ok1.pushOwn hl al.rev
    exact h1 _ _ _ _ g2 ok2
end
end Cm

/-! Mirrors: dict(pairs), list(d.items()). -/
namespace Cm
open PySem PySem.Spec PyProof.Rows L2 Cf
variable [LT]
def pairD : PyData → Option (PyData × PyData)
  | .tuple [k, d] => some (k, d)
  | _ => none
def pairsD : List PyData → Option (List (PyData × PyData))
  | [] => some []
  | d :: ds => match pairD d, pairsD ds with
    | some p, some ps => some (p :: ps)
    | _, _ => none
/-- dict(xs), xs a list of pairs -/
def kDictP : List PyData → Option (List (PyData × PyData))
  | [.list ds] => (pairsD ds).bind (foldD [])
  | _ => none
def mDictP (fa : M (List PyData)) : M SV := M.bind fa fun as => M.lift ((kDictP as).map (.odk none))
omit [LT] in
theorem pairD_some {d k e : PyData} (h : pairD d = some (k, e)) : d = .tuple [k, e] := by
  unfold pairD at h
  split at h
  · cases h
    rfl
  · cases h
omit [LT] in
theorem pairs_at {H : Hp} : ∀ {ds : List PyData} {xs : List V} {ps : List (PyData × PyData)}, AtL H xs ds → pairsD ds = some ps → ∃ (as : List Addr) (vs : List (V × V)), xs = as.map V.ref ∧ AtP H vs ps ∧ Paired (fun (p : Addr) (v : V × V) => H p = some (.tup [v.1, v.2])) as vs
  | [], _, _, a, h => by
    cases a
    cases h
    exact ⟨[], [], rfl, .nil, .nil⟩
  | d :: ds, _, ps, a, h => by
    unfold pairsD at h
    cases q1 : pairD d with
    | none => rw [q1] at h; cases h
    | some pr =>
      obtain ⟨k, e⟩ := pr
      cases q2 : pairsD ds with
      | none => rw [q1, q2] at h; cases h
      | some ps' =>
        rw [q1, q2] at h
        cases h
        cases a with
        | cons a1 r =>
          rw [pairD_some q1] at a1
          obtain ⟨p, ys, rfl, hp, al⟩ := a1.tup_ex
          obtain ⟨as, vs, rfl, h2, h3⟩ := pairs_at r q2
          cases al with
          | cons b1 r1 =>
            cases r1 with
            | cons b2 r2 =>
              cases r2
              exact ⟨p :: as, _ :: vs, rfl, .cons b1 b2 h2, .cons hp h3⟩
def rDictP (K : PySem.W.Frag) : List V → Hp → VK → Prop := fun xs H Q => ∃ (a : Addr) (ps : List Addr) (kvs : List (Key × V)), xs = [.ref a] ∧ SqL K H a (ps.map V.ref) ∧ Paired (fun p kv => SqT K H p [kV kv.1, kv.2]) ps kvs ∧ ∀ p, H p = none → Q (.ref p) (upd H p (.dK (mergeK [] kvs)))
omit [LT] in
theorem paired_kv {K : PySem.W.Frag} {H H2 : Hp} (s : Same H H2) : ∀ {as : List Addr} {kvs : List (Key × V)}, Paired (fun (p : Addr) (v : V × V) => H p = some (.tup [v.1, v.2])) as (kvs.map fun kv => (kV kv.1, kv.2)) → Paired (fun p (kv : Key × V) => SqT K H2 p [kV kv.1, kv.2]) as kvs
  | _, [], h => by cases h; exact .nil
  | _, kv :: kvs, h => by
    cases h with
    | cons a r => exact .cons (SqT.of (s _ _ a)) (paired_kv s r)
section
variable {X : Cx} {E : XK} {e : Expr} {K : PySem.W.Frag} {fa : M (List PyData)}
theorem k_dictP (e : X.K = K) (hc : X.calm = true) : CallR X (.type "dict") (rDictP K) := by subst e; exact call_dictP hc
theorem m_dictP (h : PE X e (tCB (rDictP K) (tA X.mg E fa))) : PE X e (tV X.mg E (mDictP fa)) := PE.imp h fun σ H Q ⟨A, B, ss, fp, ok, h⟩ => by
  refine ⟨A, B, ss, fp, ok, (ResV.seq (rel := AtL) h).mono fun xs H1 ⟨as, B1, ss1, fp1, ok1, a1, g1, h1⟩ => ?_⟩
  cases q : kDictP as with
  | none =>
    rw [q] at h1
    exact (show False from h1).elim
  | some out =>
    rw [q] at h1
    have h1 : ResV X.mg E A B1 fp1 σ H1 (some (.val (.odk none out) ss1)) Q := h1
    unfold kDictP at q
    split at q
    · rename_i ds
      cases qp : pairsD ds with
      | none => rw [qp] at q; cases q
      | some ps =>
        rw [qp] at q
        have q : foldD [] ps = some out := q
        cases a1 with
        | cons b r =>
          cases r
          obtain ⟨p, ys, rfl, hp, al⟩ := b.lst_ex
          obtain ⟨as', vs, rfl, h2, h3⟩ := pairs_at al qp
          obtain ⟨kvs, e1, e2, e3⟩ := fold_at (xs := []) h2 .nil q
          subst e1
          refine ⟨p, as', kvs, rfl, SqL.of (ok1.sm _ _ hp), paired_kv ok1.sm h3, fun l hl => ?_⟩
          obtain ⟨ok2, g2⟩ := ok1.pushOdk hl e3
          exact h1 _ _ _ _ g2 ok2
    · cases q
end
/-! ### list(d.items()) -/
def mItems (f : M PyData) : M SV := M.bind f fun d => match d with
  | .dict ks => M.ret (.own none (ks.map fun p => .tuple [p.1, p.2]))
  | _ => fun _ => none
def rItemsF : V → Hp → VK → Prop := fun x H Q => ∃ (d : Addr) (kvs : List (Key × V)), x = .ref d ∧ Rd H d (.dK kvs) ∧
  ∀ (H2 : Hp) (l : Addr) (ts : List Addr), Same H H2 → H l = none → (∀ t ∈ ts, H t = none) → l ∉ ts → H2 l = some (.lst (ts.map V.ref)) → Paired (fun (t : Addr) (q : Key × V) => H2 t = some (.tup [kV q.1, q.2])) ts kvs → Q (.ref l) H2
section
variable {X : Cx} {e : Expr} {te : TE} {p apos cpos pos : Pos}
/-- as the library's own rule, of a dict that may be locked -/
theorem pe_itemsF (calm : X.calm = true) (he : PE X e te) (gl : Gl X "list") (no : X.mg "list" = none) (boot : bootBuiltins "list" = some (.type "list")) (base : attributeBase e "items" X.env (eval e X.env) = eval e X.env := by rfl) (line : (apos.endLine == cpos.line) = true := by rfl)
    (star : starEach [.Call (.Attribute e "items" apos) [] [] cpos] X.env = (false, eval (.Call (.Attribute e "items" apos) [] [] cpos) X.env) :: starEach [] X.env := by rfl) :
    PE X (.Call (.Name "list" p) [.Call (.Attribute e "items" apos) [] [] cpos] [] pos) (fun σ H Q => te σ H fun x H1 => rItemsF x H1 Q) := ⟨fun pins s σ H Q I wish => by
  refine wpAny_Call_Name_kw (ld_blt I gl no boot (PyProof.Rows.callWith_type1 ?_ star rfl))
  rw [star]
  refine Calls.spliced_cons (x := eval (.Call (.Attribute e "items" apos) [] [] cpos) X.env) (rest := backTo pos (starEach [] X.env)) ?_
  refine wpAny_Call_method (T := "dict") (id := "dict.items") base rfl line F.plainAttrs_dict F.slot_dict_items F.type_dict_items (thn (he.run pins s σ H _ I wish) fun u sA hyp => ?_)
  obtain ⟨x, HA, IA, rx, d, kvs, rfl, rd, fin⟩ := hyp
  have eu : u = Value.ref d := rx
  subst eu
  obtain ⟨short, plain, vs, kv, whole⟩ := dk_rd IA.hok rd
  obtain ⟨ep, stands⟩ := whole.dictAt
  refine ⟨whole.typeIs, whole.mapOf.noDict, method_meetsIn F.slot_dict_items F.entry_dict_items rfl (PySem.evalArgs_none ⟨rfl, whole.typeIs, F.args_dict_items_1 _, _, meets_dict_items (mixKind X.prog X.w) d plain, ⟨vs, whole⟩, Calls.spliced_nil ?_⟩)⟩
  have IB : Inv X pins σ HA { sA with heap := sA.heap.push { cls := .type "dict_items", data := .fields #[.ref d] } } := IA.kept (t' := sA.toks) fun b ob z => Heap.get?_push_of_some _ z
  have few : vs.length ≤ sizeLine := by
    rw [← Paired.length kv]
    exact short
  refine PySem.W.kdx_call (knd := mixKind X.prog X.w) (kvs := vs) (ep := ep) (IA.ok.hd calm) ⟨_, Heap.get?_push_size _ rfl, rfl, rfl⟩ (stands.push _) few fun heap2 tk acc n ts keep at_ long each cells => ?_
  obtain ⟨H2, s1, s2, s3, s4, s5, s6, J⟩ := LiI.items_laid (tk := tk) IB short kv keep at_ long each cells
  exact ⟨.ref _, H2, J, rfl, fin H2 _ ts s1 s2 s3 s4 s5 s6⟩⟩
end
omit [LT] in
theorem tups_at {H2 B2 B : Hp} (s : Same B B2) : ∀ {ts : List Addr} {kvs : List (Key × V)} {ks : List (PyData × PyData)}, Paired (fun (t : Addr) (q : Key × V) => H2 t = some (.tup [kV q.1, q.2])) ts kvs → (∀ t ∈ ts, B2 t = H2 t) → AtK B kvs ks → AtL B2 (ts.map V.ref) (ks.map fun p => .tuple [p.1, p.2])
  | _, [], _, h, _, a => by cases h; cases a; exact .nil
  | _, kv :: kvs, _, h, m, a => by
    cases h with
    | @cons t _ ts _ e r =>
      have et : B2 t = some (.tup [kV kv.1, kv.2]) := (m t List.mem_cons_self).trans e
      cases a with
      | ki av ar => exact .cons (.tup et (.cons (.int _) (.cons (av.up s) .nil))) (tups_at s r (fun t z => m t (List.mem_cons_of_mem _ z)) ar)
      | kt av ar => exact .cons (.tup et (.cons (.str _) (.cons (av.up s) .nil))) (tups_at s r (fun t z => m t (List.mem_cons_of_mem _ z)) ar)
section
variable {X : Cx} {E : XK} {e : Expr} {f : M PyData}
theorem m_items (h : PE X e (fun σ H Q => tM X.mg E f σ H fun x H1 => rItemsF x H1 Q)) : PE X e (tV X.mg E (mItems f)) := PE.imp h fun σ H Q ⟨A, B, ss, fp, ok, h⟩ => by
  refine ⟨A, B, ss, fp, ok, (ResV.seq (rel := At) h).mono fun x H1 ⟨d1, B1, ss1, fp1, ok1, a1, g1, h1⟩ => ?_⟩
  cases a1 with
  | @dct p o kvs ks hp ak =>
    have h1 : ResV X.mg E A B1 fp1 σ H1 (some (.val (.own none (ks.map fun p => .tuple [p.1, p.2])) ss1)) Q := h1
    refine ⟨p, kvs, rfl, .inr ⟨o, ok1.sm _ _ hp⟩, fun H2 l ts s12 hl ht nl el pr => ?_⟩
    classical
    let B2 : Hp := fun b => if b ∈ ts then H2 b else B1 b
    have bn : ∀ b, H1 b = none → B1 b = none := fun b z => ok1.sm.free z
    have s2 : Same B1 B2 := fun b u z => by
      show (if b ∈ ts then H2 b else B1 b) = some u
      rw [if_neg fun m => by rw [bn b (ht b m)] at z; cases z]
      exact z
    have s3 : Same B2 H2 := fun b u z => by
      have z : (if b ∈ ts then H2 b else B1 b) = some u := z
      by_cases m : b ∈ ts
      · rw [if_pos m] at z
        exact z
      · rw [if_neg m] at z
        exact s12 _ _ (ok1.sm _ _ z)
    have at_ts : ∀ t ∈ ts, B2 t = H2 t := fun t m => if_pos m
    have tup : ∀ {ts : List Addr} {kvs : List (Key × V)}, Paired (fun (t : Addr) (q : Key × V) => H2 t = some (.tup [kV q.1, q.2])) ts kvs → ∀ t ∈ ts, ∃ xs, H2 t = some (.tup xs) := fun {ts kvs} w => by
      induction w with
      | nil => exact fun t m => nomatch m
      | cons e _ ih =>
        intro t m
        rcases List.mem_cons.mp m with z | z
        · rw [z]; exact ⟨_, e⟩
        · exact ih t z
    have nb : ∀ b ps, B2 b = some (.tbl ps) → B1 b = some (.tbl ps) := fun b ps z => by
      have z : (if b ∈ ts then H2 b else B1 b) = some (.tbl ps) := z
      by_cases m : b ∈ ts
      · rw [if_pos m] at z
        obtain ⟨xs, e⟩ := tup pr b m
        rw [e] at z
        cases z
      · rw [if_neg m] at z
        exact z
    have fr : ∀ b, H1 b ≠ none → B1 b = none → B2 b = none := fun b z w => by
      show (if b ∈ ts then H2 b else B1 b) = none
      rw [if_neg fun m => z (ht b m)]
      exact w
    have ok2 : Ok A B2 H2 σ ss1 fp1 := ok1.grow s2 s3 s12 fr nb
    have lb : B2 l = none := by
      show (if l ∈ ts then H2 l else B1 l) = none
      rw [if_neg nl]
      exact bn l hl
    have nf : ∀ j, fp1 j ≠ some l := fun j ej => by
      obtain ⟨_, oo, ho⟩ := ok1.hasO ej
      rw [hl] at ho
      cases ho
    have ok3 := ok2.push (w := some (.ref l)) (r := .own none (ks.map fun p => .tuple [p.1, p.2])) (q := some l) ⟨l, _, rfl, rfl, lb, el, tups_at s2 pr at_ts ak, fun k z => nomatch z⟩ fun j p ep => by cases ep; exact nf j
    refine h1 (.ref l) B2 H2 _ (Gr.mk4 s2 (fun b o _ z => s12 b o z) (fun b _ z w => fr b z w) (fun j b ej => ?_) (tt_of s12) nb) ok3
    by_cases c : j = ss1.length
    · rw [c, fset_same] at ej
      cases ej
      exact .inr hl
    · rw [fset_ne c] at ej
      exact .inl ⟨j, ej⟩
  | _ => exact (show False from h1).elim
end
/-! ### a sign of a text -/
def kIxS : PyData → PyData → Option PyData
  | .str z, .int i => if decide (z.length ≤ 1000) then (atI z.cps.toList i).map fun c => .str ⟨#[c]⟩ else none
  | _, _ => none
theorem d_ixS : D2 rIxS kIxS := fun B H x y d1 d2 d Q s a b e k => by
  unfold kIxS at e
  split at e
  · rename_i z i
    split at e
    · rename_i c
      cases q : atI z.cps.toList i with
      | none => rw [q] at e; cases e
      | some n =>
        rw [q] at e
        cases e
        exact ⟨z, i, n, a.str_eq, b.int_eq, Nat.le_trans (of_decide_eq_true c) (by decide), q, k _ B H (Grow.refl s) (.str _)⟩
    · cases e
  · cases e
section
variable {X : Cx} {E : XK} {e e2 : Expr} {f g : M PyData} {pos : Pos}
theorem m_ixS (hf : PE X e (tM X.mg E f)) (hg : PE X e2 (tM X.mg E g)) (hs : PlainIx e2) : PE X (.Subscript e e2 pos) (tM X.mg E (m2 kIxS f g)) :=
  PE.imp (pe_ix ix_str hf hg hs) fun _ _ _ h => tOp_of d_ixS h
end
end Cm

/-! Cut trees and marks: the mathematics. -/
namespace Cm
open PySem PySem.Spec PyProof.Rows L2 Cf
-- @trjoin
theorem tr_join : ∀ {l r : List Int}, Tr l → Tr r → Tr (l.map (· + 1) ++ r)
  | _, _, .leaf, .leaf => .cons .leaf (by decide) (by decide)
  | _, _, .leaf, .cons (d := d) (e := e) (r := r) t h1 h2 => .cons (.cons t h1 h2) (by decide) (by show (0 : Int) + 1 ≤ d + 1; omega)
  | _, _, .cons (d := d) (e := e) (r := r) t h1 h2, hr => by
    have ih := tr_join t hr
    rw [List.map_cons, List.cons_append] at ih
    rw [List.map_cons, List.map_cons, List.cons_append, List.cons_append]
    exact .cons ih (by omega) (by omega)
-- @cut
/-- a tail and a ring as they are asked for -/
structure TR (t r : Int) : Prop where
  t0 : 0 ≤ t
  t1 : t ≤ 40
  r0 : 1 ≤ r
  r1 : r ≤ 10000
theorem TR.rp {t r : Int} (h : TR t r) : 0 < r := by have := h.r0; omega
/-- the cut tree of sizes, the last one first -/
def cutR : List Int → List Int
  | [] => []
  | s :: pre => (cutR pre).map (· + 1) ++ downs s.toNat
theorem cutR_len : ∀ {zs : List Int}, (∀ s ∈ zs, 1 ≤ s) → ((cutR zs).length : Int) = zs.sum
  | [], _ => rfl
  | s :: pre, h => by
    have ih := cutR_len (zs := pre) fun x hx => h x (List.mem_cons_of_mem _ hx)
    have := h s List.mem_cons_self
    rw [cutR, List.length_append, List.length_map, downs_len, List.sum_cons]
    omega
theorem downs_trI {s : Int} (h : 1 ≤ s) : Tr (downs s.toNat) := by
  obtain ⟨n, hn⟩ : ∃ n : Nat, s.toNat = n + 1 := ⟨s.toNat - 1, by omega⟩
  rw [hn]
  exact downs_tr n
theorem cutR_tr : ∀ {zs : List Int}, zs ≠ [] → (∀ s ∈ zs, 1 ≤ s) → Tr (cutR zs)
  | [], h, _ => absurd rfl h
  | [s], _, h => downs_trI (h s List.mem_cons_self)
  | s :: x :: pre, _, h => tr_join (cutR_tr (by simp) fun y hy => h y (List.mem_cons_of_mem _ hy)) (downs_trI (h s List.mem_cons_self))
theorem cutR_split {s : Int} {zs : List Int} (hz : zs ≠ []) (h : ∀ x ∈ s :: zs, 1 ≤ x) : Split (cutR (s :: zs)) (cutR zs) (downs s.toNat) :=
  ⟨rfl, cutR_tr hz fun y hy => h y (List.mem_cons_of_mem _ hy), downs_trI (h s List.mem_cons_self)⟩
theorem cutR_snoc {s : Int} : ∀ {xs : List Int}, cutR (xs ++ [s]) = (downs s.toNat).map (· + (xs.length : Int)) ++ cutR xs
  | [] => by simp [cutR]
  | x :: xs => by
    rw [List.cons_append, cutR, cutR_snoc (xs := xs), List.map_append, List.map_map, cutR, ← List.append_assoc]
    congr 2
    apply List.map_congr_left
    intro d _
    show d + (xs.length : Int) + 1 = d + (((x :: xs).length : Nat) : Int)
    rw [List.length_cons]
    omega
theorem cut_flat : ∀ {zs : List Int}, (zs.zip (downs zs.length)).flatMap (fun p => (downs p.1.toNat).map fun d => d + p.2) = cutR zs.reverse
  | [] => rfl
  | s :: rest => by
    rw [List.length_cons, downs, List.zip_cons_cons, List.flatMap_cons, cut_flat (zs := rest), List.reverse_cons, cutR_snoc, List.length_reverse]
theorem downs_add : ∀ {m n : Nat}, downs (m + n) = (downs m).map (· + (n : Int)) ++ downs n
  | 0, n => by simp [downs]
  | m + 1, n => by
    rw [show m + 1 + n = (m + n) + 1 by omega, downs, downs_add (m := m), downs, List.map_cons, List.cons_append]
    congr 1
theorem downs_mem : ∀ {n : Nat} {d : Int}, d ∈ downs n → 0 ≤ d ∧ d < n
  | 0, d, h => by cases h
  | n + 1, d, h => by
    rcases List.mem_cons.mp h with e | e
    · omega
    · have := downs_mem e
      omega
/-- the tree's leaves and those of the fold bear the same marks, turned a and b times more -/
def Gp (t r : Int) (ns : List Int) (a b : Int) : Prop := ns.map (fun d => mk (d + a) t r) = (downs ns.length).map fun d => mk (d + b) t r
instance {t r : Int} {ns : List Int} {a b : Int} : Decidable (Gp t r ns a b) := by unfold Gp; infer_instance
def cnd (t r b q : Int) : Prop := q = 1 ∨ (t ≤ b + 1 ∧ (q - 1) % r = 0)
theorem mk_iff {t r b q : Int} (h : TR t r) (hb : 0 ≤ b) (hq : 1 ≤ q) : mk (b + 1) t r = mk (b + q) t r ↔ cnd t r b q := by
  have r0 := h.r0
  unfold mk cnd
  by_cases c1 : b + 1 < t
  · rw [if_pos c1]
    by_cases c2 : b + q < t
    · rw [if_pos c2]
      omega
    · rw [if_neg c2]
      have := Int.emod_nonneg (b + q - t) (show r ≠ 0 by omega)
      generalize (b + q - t) % r = z at this
      generalize (q - 1) % r = y
      omega
  · rw [if_neg c1, if_neg (show ¬ b + q < t by omega)]
    have e : ((b + q - t) % r = (b + 1 - t) % r) ↔ (q - 1) % r = 0 := by
      rw [Int.emod_eq_emod_iff_emod_sub_eq_zero, show b + q - t - (b + 1 - t) = q - 1 by omega]
    constructor
    · intro z
      refine .inr ⟨by omega, e.mp (by omega)⟩
    · rintro (z | ⟨_, z⟩)
      · rw [z]
      · have := e.mpr z
        omega
theorem G_leaf {t r a b : Int} : Gp t r [0] a b ↔ mk a t r = mk b t r := by
  unfold Gp
  simp [downs]
theorem G_downs {t r a b : Int} (h : TR t r) (ha : 0 ≤ a) (hb : 0 ≤ b) (e : mk a t r = mk b t r) {n : Nat} : Gp t r (downs n) a b := by
  unfold Gp
  rw [downs_len]
  apply List.map_congr_left
  intro d hd
  have := (downs_mem hd).1
  have q := mk_addI ha hb this h.t0 h.r0 e
  rw [show d + a = a + d by omega, show d + b = b + d by omega]
  exact q
theorem G_split {t r a b : Int} (h : TR t r) (ha : 0 ≤ a) (hb : 0 ≤ b) (e : mk a t r = mk b t r) {ns l rr : List Int} (s : Split ns l rr) :
    Gp t r ns a b ↔ cnd t r b rr.length ∧ Gp t r l (a + 1) (b + rr.length) ∧ Gp t r rr a b := by
  have l0 := s.tl.pos
  have r0 := s.tr.pos
  have key : Gp t r ns a b ↔ Gp t r l (a + 1) (b + rr.length) ∧ Gp t r rr a b := by
    unfold Gp
    rw [s.len, downs_add, List.map_append, s.eq, List.map_append, List.map_map, List.map_map]
    have e1 : l.map ((fun d => mk (d + a) t r) ∘ (· + 1)) = l.map fun d => mk (d + (a + 1)) t r := by
      apply List.map_congr_left
      intro d _
      show mk (d + 1 + a) t r = mk (d + (a + 1)) t r
      congr 1
      omega
    have e2 : (downs l.length).map ((fun d => mk (d + b) t r) ∘ (· + (rr.length : Int))) = (downs l.length).map fun d => mk (d + (b + rr.length)) t r := by
      apply List.map_congr_left
      intro d _
      show mk (d + rr.length + b) t r = mk (d + (b + rr.length)) t r
      congr 1
      omega
    rw [e1, e2]
    constructor
    · intro q
      exact List.append_inj q (by rw [List.length_map, List.length_map, downs_len])
    · rintro ⟨q1, q2⟩
      rw [q1, q2]
  rw [key]
  refine ⟨fun ⟨q1, q2⟩ => ⟨?_, q1, q2⟩, fun ⟨_, q1, q2⟩ => ⟨q1, q2⟩⟩
  refine (mk_iff h hb (by omega)).mp ?_
  have x := congrArg (·[l.length - 1]?) q1
  rw [List.getElem?_map, List.getElem?_map, s.tl.last, downs_get _ _ (by omega)] at x
  have x := Option.some.inj x
  dsimp only at x
  have y := mk_addI ha hb (show (0 : Int) ≤ 1 by omega) h.t0 h.r0 e
  rw [← y]
  rw [show (0 : Int) + (a + 1) = a + 1 by omega, show (l.length : Int) - 1 - ((l.length - 1 : Nat) : Int) + (b + rr.length) = b + rr.length by omega] at x
  exact x
/-- what the pieces behind the first must be, the last one first -/
def Cq (t r : Int) : List Int → Int → Prop
  | [], _ => True
  | s :: qs, b => cnd t r b s ∧ Cq t r qs (b + s)
theorem G_cut {t r : Int} (h : TR t r) {s1 : Int} : ∀ {qs : List Int} {a b : Int}, (∀ x ∈ qs ++ [s1], 1 ≤ x) → 0 ≤ a → 0 ≤ b → mk a t r = mk b t r → (Gp t r (cutR (qs ++ [s1])) a b ↔ Cq t r qs b)
  | [], a, b, hz, ha, hb, e => by
    rw [List.nil_append, show cutR [s1] = downs s1.toNat by simp [cutR]]
    exact ⟨fun _ => trivial, fun _ => G_downs h ha hb e⟩
  | s :: qs, a, b, hz, ha, hb, e => by
    have hs : 1 ≤ s := hz s List.mem_cons_self
    have sp := cutR_split (s := s) (zs := qs ++ [s1]) (by simp) hz
    have key := G_split h ha hb e sp
    rw [downs_len, show ((s.toNat : Nat) : Int) = s by omega] at key
    rw [List.cons_append, key]
    show _ ↔ cnd t r b s ∧ Cq t r qs (b + s)
    constructor
    · rintro ⟨q1, q2, q3⟩
      have e2 : mk (a + 1) t r = mk (b + s) t r := (mk_addI ha hb (show (0 : Int) ≤ 1 by omega) h.t0 h.r0 e).trans ((mk_iff h hb hs).mpr q1)
      exact ⟨q1, (G_cut h (fun x hx => hz x (List.mem_cons_of_mem _ hx)) (by omega) (by omega) e2).mp q2⟩
    · rintro ⟨q1, q2⟩
      have e2 : mk (a + 1) t r = mk (b + s) t r := (mk_addI ha hb (show (0 : Int) ≤ 1 by omega) h.t0 h.r0 e).trans ((mk_iff h hb hs).mpr q1)
      exact ⟨q1, (G_cut h (fun x hx => hz x (List.mem_cons_of_mem _ hx)) (by omega) (by omega) e2).mpr q2, G_downs h ha hb e⟩
theorem Cq_iff {t r : Int} (h : TR t r) : ∀ {qs : List Int} {b : Int}, 0 ≤ b → (∀ x ∈ qs, 1 ≤ x) → (Cq t r qs b ↔ (∀ x ∈ qs.take (t - 1 - b).toNat, x = 1) ∧ ∀ x ∈ qs.drop (t - 1 - b).toNat, (x - 1) % r = 0)
  | [], b, _, _ => by simp [Cq]
  | s :: qs, b, hb, hq => by
    have hs := hq s List.mem_cons_self
    have hq2 : ∀ x ∈ qs, 1 ≤ x := fun x hx => hq x (List.mem_cons_of_mem _ hx)
    have ih := Cq_iff h (qs := qs) (b := b + s) (by omega) hq2
    show cnd t r b s ∧ Cq t r qs (b + s) ↔ _
    rw [ih]
    by_cases c : t - 1 - b ≤ 0
    · rw [show (t - 1 - (b + s)).toNat = 0 by omega, show (t - 1 - b).toNat = 0 by omega]
      simp only [List.take_zero, List.drop_zero, List.not_mem_nil, false_imp_iff, implies_true, true_and, List.mem_cons, forall_eq_or_imp]
      unfold cnd
      constructor
      · rintro ⟨q1 | ⟨_, q1⟩, q2⟩
        · exact ⟨by rw [q1]; simp, q2⟩
        · exact ⟨q1, q2⟩
      · rintro ⟨q1, q2⟩
        exact ⟨.inr ⟨by omega, q1⟩, q2⟩
    · obtain ⟨k, hk⟩ : ∃ k : Nat, (t - 1 - b).toNat = k + 1 := ⟨(t - 1 - b).toNat - 1, by omega⟩
      rw [hk, List.take_succ_cons, List.drop_succ_cons]
      simp only [List.mem_cons, forall_eq_or_imp]
      unfold cnd
      constructor
      · rintro ⟨q1 | ⟨q1, _⟩, q2, q3⟩
        · rw [q1, show (t - 1 - (b + 1)).toNat = k by omega] at q2 q3
          exact ⟨⟨q1, q2⟩, q3⟩
        · omega
      · rintro ⟨⟨q1, q2⟩, q3⟩
        refine ⟨.inl q1, ?_⟩
        rw [q1, show (t - 1 - (b + 1)).toNat = k by omega]
        exact ⟨q2, q3⟩
/-- a cutting is safe as the document says -/
theorem safe_iff {t r : Int} (h : TR t r) {s1 : Int} {rest : List Int} (hz : ∀ x ∈ s1 :: rest, 1 ≤ x) : Gp t r (cutR (s1 :: rest).reverse) 0 0 ↔
    (∀ x ∈ rest.drop (rest.length - (t - 1).toNat), x = 1) ∧ ∀ x ∈ rest.take (rest.length - (t - 1).toNat), (x - 1) % r = 0 := by
  rw [List.reverse_cons, G_cut h (fun x hx => hz x (by
    rcases List.mem_append.mp hx with q | q
    · exact List.mem_cons_of_mem _ (List.mem_reverse.mp q)
    · rw [List.mem_singleton.mp q]; exact List.mem_cons_self)) (by omega) (by omega) rfl,
    Cq_iff h (by omega) (fun x hx => hz x (List.mem_cons_of_mem _ (List.mem_reverse.mp hx))), show t - 1 - 0 = t - 1 by omega, List.take_reverse, List.drop_reverse]
  simp only [List.mem_reverse]
end Cm

/-! Tails and rings; how great a ring of many letters is. -/
namespace Cm
open PySem PySem.Spec PyProof.Rows L2 Cf
/-! ### going on and on -/
def orb {α : Type} (nx : α → α) (a : α) : Nat → α
  | 0 => a
  | n + 1 => nx (orb nx a n)
/-- the first n are all unlike, the next one is the one at t -/
structure Cyc {α : Type} (s : Nat → α) (t n : Nat) : Prop where
  lt : t < n
  un : ∀ i j, i < n → j < n → s i = s j → i = j
  eq : s n = s t
theorem Cyc.uniq {α : Type} {s : Nat → α} {t n t2 n2 : Nat} (h : Cyc s t n) (k : Cyc s t2 n2) : t = t2 ∧ n = n2 := by
  have e : n = n2 := by
    rcases Nat.lt_trichotomy n n2 with l | l | l
    · have := k.un n t l (Nat.lt_trans h.lt l) h.eq
      have := h.lt
      omega
    · exact l
    · have := h.un n2 t2 l (Nat.lt_trans k.lt l) k.eq
      have := k.lt
      omega
  subst e
  exact ⟨h.un t t2 h.lt k.lt (h.eq.symm.trans k.eq), rfl⟩
/-- as many unlike ones as there are, at most -/
theorem holes {α : Type} [DecidableEq α] : ∀ (n : Nat) (S : List α) (s : Nat → α), (∀ i, i < n → s i ∈ S) → (∀ i j, i < n → j < n → s i = s j → i = j) → n ≤ S.length
  | 0, _, _, _, _ => Nat.zero_le _
  | n + 1, S, s, h, u => by
    have hm := h n (Nat.lt_succ_self n)
    have ih := holes n (S.erase (s n)) s (fun i hi => (List.mem_erase_of_ne fun e => by
      have := u i n (by omega) (by omega) e
      omega).mpr (h i (by omega))) (fun i j hi hj e => u i j (by omega) (by omega) e)
    rw [List.length_erase_of_mem hm] at ih
    have := List.length_pos_of_mem hm
    omega
/-! ### tails and rings -/
theorem mod_iff {i j r : Nat} (h : j ≤ i) : i % r = j % r ↔ r ∣ i - j := by
  constructor
  · intro e
    exact Nat.dvd_of_mod_eq_zero (Nat.sub_mod_eq_zero_of_mod_eq e)
  · rintro ⟨k, hk⟩
    have e : i = j + r * k := by omega
    rw [e, Nat.add_mul_mod_self_left]
theorem mod_shift {i j t r : Nat} (hi : t ≤ i) (hj : t ≤ j) : (i - t) % r = (j - t) % r ↔ i % r = j % r := by
  rcases Nat.le_total j i with h | h
  · rw [mod_iff h, mod_iff (show j - t ≤ i - t by omega), show i - t - (j - t) = i - j by omega]
  · constructor
    · intro e
      refine ((mod_iff h).mpr ?_).symm
      have := (mod_iff (show i - t ≤ j - t by omega)).mp e.symm
      rw [show j - t - (i - t) = j - i by omega] at this
      exact this
    · intro e
      refine ((mod_iff (show i - t ≤ j - t by omega)).mpr ?_).symm
      have := (mod_iff h).mp e.symm
      rw [show j - t - (i - t) = j - i by omega]
      exact this
theorem mod_lcm {i j r s : Nat} : i % Nat.lcm r s = j % Nat.lcm r s ↔ i % r = j % r ∧ i % s = j % s := by
  have key : ∀ {i j : Nat}, j ≤ i → (i % Nat.lcm r s = j % Nat.lcm r s ↔ i % r = j % r ∧ i % s = j % s) := fun {i j} h => by
    rw [mod_iff h, mod_iff h, mod_iff h]
    exact ⟨fun d => ⟨Nat.dvd_trans (Nat.dvd_lcm_left r s) d, Nat.dvd_trans (Nat.dvd_lcm_right r s) d⟩, fun ⟨a, b⟩ => Nat.lcm_dvd a b⟩
  rcases Nat.le_total j i with h | h
  · exact key h
  · have := key h
    constructor
    · intro e
      have q := this.mp e.symm
      exact ⟨q.1.symm, q.2.symm⟩
    · intro e
      exact (this.mpr ⟨e.1.symm, e.2.symm⟩).symm
/-- a row whose things come again from t on, every r -/
structure Per {α : Type} (s : Nat → α) (t r : Nat) : Prop where
  pos : 0 < r
  iff : ∀ i j, s i = s j ↔ i = j ∨ (t ≤ i ∧ t ≤ j ∧ i % r = j % r)
theorem Per.cyc {α : Type} {s : Nat → α} {t r : Nat} (h : Per s t r) : Cyc s t (t + r) := by
  have hp := h.pos
  refine ⟨by omega, fun i j hi hj e => ?_, (h.iff _ _).mpr (.inr ⟨by omega, Nat.le_refl _, by rw [Nat.add_mod_right]⟩)⟩
  rcases (h.iff i j).mp e with e | ⟨a, b, c⟩
  · exact e
  · have c2 := (mod_shift a b).mpr c
    rw [Nat.mod_eq_of_lt (show i - t < r by omega), Nat.mod_eq_of_lt (show j - t < r by omega)] at c2
    omega
theorem orb_add {α : Type} {nx : α → α} {a : α} {i j : Nat} (h : orb nx a i = orb nx a j) : ∀ k, orb nx a (i + k) = orb nx a (j + k)
  | 0 => h
  | k + 1 => congrArg nx (orb_add h k)
theorem Cyc.red {α : Type} {nx : α → α} {a : α} {t n : Nat} (h : Cyc (orb nx a) t n) : ∀ b, orb nx a (t + b) = orb nx a (t + b % (n - t)) := fun b => by
  have lt := h.lt
  induction b using Nat.strongRecOn with
  | _ b ih =>
    by_cases c : b < n - t
    · rw [Nat.mod_eq_of_lt c]
    · have e1 := orb_add h.eq (b - (n - t))
      rw [show n + (b - (n - t)) = t + b by omega] at e1
      rw [e1, ih (b - (n - t)) (by omega), Nat.mod_eq_sub_mod (show b ≥ n - t by omega)]
theorem Cyc.per {α : Type} {nx : α → α} {a : α} {t n : Nat} (h : Cyc (orb nx a) t n) : Per (orb nx a) t (n - t) := by
  have lt := h.lt
  have rp : 0 < n - t := by omega
  have low : ∀ i, t ≤ i → orb nx a i = orb nx a (t + (i - t) % (n - t)) ∧ t + (i - t) % (n - t) < n := fun i hi => by
    have e := h.red (i - t)
    rw [show t + (i - t) = i by omega] at e
    have := Nat.mod_lt (i - t) rp
    exact ⟨e, by omega⟩
  refine ⟨rp, fun i j => ⟨fun e => ?_, fun e => ?_⟩⟩
  · by_cases hi : t ≤ i
    · obtain ⟨ei, li⟩ := low i hi
      by_cases hj : t ≤ j
      · obtain ⟨ej, lj⟩ := low j hj
        have := h.un _ _ li lj (ei.symm.trans (e.trans ej))
        exact .inr ⟨hi, hj, (mod_shift hi hj).mp (by omega)⟩
      · have := h.un _ _ li (show j < n by omega) (ei.symm.trans e)
        omega
    · by_cases hj : t ≤ j
      · obtain ⟨ej, lj⟩ := low j hj
        have := h.un _ _ (show i < n by omega) lj (e.trans ej)
        omega
      · exact .inl (h.un i j (by omega) (by omega) e)
  · rcases e with rfl | ⟨hi, hj, c⟩
    · rfl
    · rw [(low i hi).1, (low j hj).1, (mod_shift hi hj).mpr c]
/-- two rows side by side -/
theorem Per.pair {α β γ : Type} {s : Nat → α} {u : Nat → β} {v : Nat → γ} {t r t2 r2 : Nat} (h : Per s t r) (k : Per u t2 r2) (hv : ∀ i j, v i = v j ↔ s i = s j ∧ u i = u j) : Per v (max t t2) (Nat.lcm r r2) := by
  refine ⟨Nat.lcm_pos h.pos k.pos, fun i j => ?_⟩
  rw [hv, h.iff, k.iff, mod_lcm, Nat.max_le, Nat.max_le]
  constructor
  · rintro ⟨a | ⟨a, b, c⟩, d | ⟨d, e, f⟩⟩
    · exact .inl a
    · exact .inl a
    · exact .inl d
    · exact .inr ⟨⟨a, d⟩, ⟨b, e⟩, c, f⟩
  · rintro (a | ⟨⟨a, d⟩, ⟨b, e⟩, c, f⟩)
    · exact ⟨.inl a, .inl a⟩
    · exact ⟨.inr ⟨a, b, c⟩, .inr ⟨d, e, f⟩⟩
/-- a row that says nothing -/
theorem Per.one {α : Type} (a : α) : Per (fun _ => a) 0 1 := ⟨by omega, fun i j => ⟨fun _ => .inr ⟨Nat.zero_le _, Nat.zero_le _, by omega⟩, fun _ => rfl⟩⟩

theorem exists_cyc {α : Type} [DecidableEq α] (S : List α) (s : Nat → α) (h : ∀ i, s i ∈ S) : ∃ t n, Cyc s t n ∧ n ≤ S.length := by
  have key : ∀ n, (∀ i j, i < n → j < n → s i = s j → i = j) ∨ ∃ t n', Cyc s t n' ∧ n' ≤ S.length := fun n => by
    induction n with
    | zero => exact .inl fun i j hi => absurd hi (by omega)
    | succ n ih =>
      rcases ih with ih | ih
      · by_cases c : ∃ t, t < n ∧ s n = s t
        · obtain ⟨t, h1, h2⟩ := c
          exact .inr ⟨t, n, ⟨h1, ih, h2⟩, holes n S s (fun i _ => h i) ih⟩
        · refine .inl fun i j hi hj e => ?_
          by_cases ci : i = n
          · by_cases cj : j = n
            · omega
            · subst ci
              exact absurd ⟨j, by omega, e⟩ c
          · by_cases cj : j = n
            · subst cj
              exact absurd ⟨i, by omega, e.symm⟩ c
            · exact ih i j (by omega) (by omega) e
      · exact .inr ih
  rcases key (S.length + 1) with h1 | h1
  · have := holes (S.length + 1) S s (fun i _ => h i) h1
    omega
  · exact h1
theorem cube_le : ∀ r : Nat, 1 ≤ r → r ^ 3 ≤ 3 ^ r := fun r h => by
  have big : ∀ k : Nat, (k + 3) ^ 3 ≤ 3 ^ (k + 3) := fun k => by
    induction k with
    | zero => decide
    | succ k ih =>
      have h1 : (3 * (k + 1 + 3)) ^ 3 ≤ (4 * (k + 3)) ^ 3 := Nat.pow_le_pow_left (by omega) 3
      rw [Nat.mul_pow, Nat.mul_pow] at h1
      have e2 : 3 ^ (k + 1 + 3) = 3 * 3 ^ (k + 3) := by rw [show k + 1 + 3 = (k + 3) + 1 by omega, Nat.pow_succ, Nat.mul_comm]
      rw [e2]
      have e3 : (3 : Nat) ^ 3 = 27 := by decide
      have e4 : (4 : Nat) ^ 3 = 64 := by decide
      rw [e3, e4] at h1
      omega
  match r, h with
  | 1, _ => decide
  | 2, _ => decide
  | k + 3, _ => exact big k
/-- how great the ring of many can be: U, what lies on their cycles -/
structure Bd {α : Type} (nx : α → α) (ls : List α) (l : Nat) (U : List α) : Prop where
  fix : ∀ u ∈ U, orb nx u l = u
  nd : U.Nodup
  sub : ∀ u ∈ U, u ∈ ls
  le : l ^ 3 ≤ 3 ^ U.length
  pos : 0 < l
theorem orb_plus {α : Type} {nx : α → α} {a : α} : ∀ {i j : Nat}, orb nx (orb nx a i) j = orb nx a (i + j)
  | i, 0 => rfl
  | i, j + 1 => congrArg nx (orb_plus (i := i) (j := j))
theorem orb_mul {α : Type} {nx : α → α} {u : α} {l : Nat} (h : orb nx u l = u) : ∀ k, orb nx u (l * k) = u
  | 0 => rfl
  | k + 1 => by
    rw [Nat.mul_succ, ← orb_plus, orb_mul h k, h]
theorem Bd.step {α : Type} {nx : α → α} {ls : List α} {l : Nat} {U : List α} (B : Bd nx ls l U) {c : α} {t r : Nat} (P : Per (orb nx c) t r) (hc : ∀ i, orb nx c i ∈ ls) : ∃ U', Bd nx ls (Nat.lcm l r) U' := by
  have rp := P.pos
  by_cases d : r ∣ l
  · have e : Nat.lcm l r = l := Nat.dvd_antisymm (Nat.lcm_dvd (Nat.dvd_refl l) d) (Nat.dvd_lcm_left l r)
    rw [e]
    exact ⟨U, B⟩
  · have back : ∀ j, orb nx (orb nx c (t + j)) r = orb nx c (t + j) := fun j => by
      rw [orb_plus]
      exact (P.iff _ _).mpr (.inr ⟨by omega, by omega, by rw [Nat.add_mod_right]⟩)
    have off : ∀ j, orb nx c (t + j) ∉ U := fun j m => by
      have e := B.fix _ m
      rw [orb_plus] at e
      have := B.pos
      rcases (P.iff _ _).mp e with z | ⟨_, _, z⟩
      · omega
      · refine d ?_
        have := (mod_iff (show t + j ≤ t + j + l by omega)).mp z
        rw [show t + j + l - (t + j) = l by omega] at this
        exact this
    have grow : ∀ {u : α} {m : Nat}, orb nx u m = u → m ∣ Nat.lcm l r → orb nx u (Nat.lcm l r) = u := fun {u m} e ⟨k, hk⟩ => by
      rw [hk]
      exact orb_mul e k
    refine ⟨U ++ (List.range r).map fun j => orb nx c (t + j), ?_, ?_, ?_, ?_, Nat.lcm_pos B.pos rp⟩
    · intro u m
      rcases List.mem_append.mp m with m | m
      · exact grow (B.fix u m) (Nat.dvd_lcm_left l r)
      · obtain ⟨j, _, rfl⟩ := List.mem_map.mp m
        exact grow (back j) (Nat.dvd_lcm_right l r)
    · rw [List.nodup_append]
      refine ⟨B.nd, ?_, fun a ha b hb e => ?_⟩
      · refine List.pairwise_map.mpr (List.Pairwise.imp_of_mem (fun {i j} hi hj hij e => ?_) List.pairwise_lt_range)
        rw [List.mem_range] at hi hj
        rcases (P.iff _ _).mp e with z | ⟨_, _, z⟩
        · omega
        · have z2 := (mod_shift (t := t) (show t ≤ t + i by omega) (show t ≤ t + j by omega)).mpr z
          rw [Nat.mod_eq_of_lt (by omega), Nat.mod_eq_of_lt (by omega)] at z2
          omega
      · obtain ⟨j, _, rfl⟩ := List.mem_map.mp hb
        rw [e] at ha
        exact off j ha
    · intro u m
      rcases List.mem_append.mp m with m | m
      · exact B.sub u m
      · obtain ⟨j, _, rfl⟩ := List.mem_map.mp m
        exact hc _
    · rw [List.length_append, List.length_map, List.length_range, Nat.pow_add]
      have h1 : Nat.lcm l r ≤ l * r := Nat.le_of_dvd (Nat.mul_pos B.pos rp) (Nat.lcm_dvd (Nat.dvd_mul_right l r) (Nat.dvd_mul_left r l))
      refine Nat.le_trans (Nat.pow_le_pow_left h1 3) ?_
      rw [Nat.mul_pow]
      exact Nat.mul_le_mul B.le (cube_le r rp)
theorem len_le_of_sub {α : Type} [DecidableEq α] : ∀ {U ls : List α}, U.Nodup → (∀ u ∈ U, u ∈ ls) → U.length ≤ ls.length
  | [], _, _, _ => Nat.zero_le _
  | u :: U, ls, nd, h => by
    rw [List.nodup_cons] at nd
    have hm := h u List.mem_cons_self
    have ih := len_le_of_sub (ls := ls.erase u) nd.2 fun v hv => (List.mem_erase_of_ne fun e => nd.1 (by rw [← e]; exact hv)).mpr (h v (List.mem_cons_of_mem _ hv))
    rw [List.length_erase_of_mem hm] at ih
    have := List.length_pos_of_mem hm
    rw [List.length_cons]
    omega
theorem Bd.small {α : Type} [DecidableEq α] {nx : α → α} {ls : List α} {l : Nat} {U : List α} (B : Bd nx ls l U) (h : ls.length ≤ 26) : l ≤ 14000 := by
  have h1 : U.length ≤ 26 := Nat.le_trans (len_le_of_sub B.nd B.sub) h
  have h2 : l ^ 3 ≤ 3 ^ 26 := Nat.le_trans B.le (Nat.pow_le_pow_right (by decide) h1)
  refine Nat.not_lt.mp fun z => ?_
  have h3 : 14001 ^ 3 ≤ l ^ 3 := Nat.pow_le_pow_left z 3
  have : (14001 : Nat) ^ 3 ≤ 3 ^ 26 := Nat.le_trans h3 h2
  revert this
  decide
end Cm

namespace Cm
open PySem PySem.Spec PyProof.Rows L2 Cf

def topS (i : Nat) : Stmt := PySem.Challenge.pw_cutfolds_k20_cycles_of_powers.main.body.getD i (.Pass ⟨0, 0, 0, 0⟩)
abbrev s_is_whole : Stmt := topS 6
abbrev N_is_whole : List Str := ["thing"]
theorem sc_is_whole : FnScope ["thing"] ["thing"] (defScope s_is_whole) := ⟨rfl, rfl, rfl, by decide +kernel, rfl, by decide +kernel, by decide +kernel⟩
abbrev s_is_whole_within : Stmt := topS 7
abbrev N_is_whole_within : List Str := ["thing", "least", "most"]
theorem sc_is_whole_within : FnScope ["thing", "least", "most"] ["thing", "least", "most"] (defScope s_is_whole_within) := ⟨rfl, rfl, rfl, by decide +kernel, rfl, by decide +kernel, by decide +kernel⟩
abbrev s_check_factor : Stmt := topS 14
abbrev N_check_factor : List Str := ["factor"]
theorem sc_check_factor : FnScope ["factor"] ["factor"] (defScope s_check_factor) := ⟨rfl, rfl, rfl, by decide +kernel, rfl, by decide +kernel, by decide +kernel⟩
abbrev s_check_modulus : Stmt := topS 15
abbrev N_check_modulus : List Str := ["modulus"]
theorem sc_check_modulus : FnScope ["modulus"] ["modulus"] (defScope s_check_modulus) := ⟨rfl, rfl, rfl, by decide +kernel, rfl, by decide +kernel, by decide +kernel⟩
abbrev s_cycle : Stmt := topS 13
abbrev N_cycle : List Str := ["start", "following", "places", "thing", "tail"]
theorem sc_cycle : FnScope ["start", "following", "places", "thing", "tail"] ["start", "following"] (defScope s_cycle) := ⟨rfl, rfl, rfl, by decide +kernel, rfl, by decide +kernel, by decide +kernel⟩
abbrev s_cycle_of_factor : Stmt := topS 11
abbrev N_cycle_of_factor : List Str := ["factor", "modulus", "number"]
theorem sc_cycle_of_factor : FnScope ["factor", "modulus", "number"] ["factor", "modulus"] (defScope s_cycle_of_factor) := ⟨rfl, rfl, rfl, by decide +kernel, rfl, by decide +kernel, by decide +kernel⟩
abbrev s_is_letter : Stmt := topS 17
abbrev N_is_letter : List Str := ["thing"]
theorem sc_is_letter : FnScope ["thing"] ["thing"] (defScope s_is_letter) := ⟨rfl, rfl, rfl, by decide +kernel, rfl, by decide +kernel, by decide +kernel⟩
abbrev s_check_letters : Stmt := topS 16
abbrev N_check_letters : List Str := ["letters", "key"]
theorem sc_check_letters : FnScope ["letters", "key"] ["letters"] (defScope s_check_letters) := ⟨rfl, rfl, rfl, by decide +kernel, rfl, by decide +kernel, by decide +kernel⟩
abbrev s_cycle_of_letters : Stmt := topS 12
abbrev N_cycle_of_letters : List Str := ["letters", "tail", "ring", "letter", "own_tail", "own_ring"]
theorem sc_cycle_of_letters : FnScope ["letters", "tail", "ring", "letter", "own_tail", "own_ring"] ["letters"] (defScope s_cycle_of_letters) := ⟨rfl, rfl, rfl, by decide +kernel, rfl, by decide +kernel, by decide +kernel⟩
abbrev s_l_draws : Stmt := topS 19
abbrev N_l_draws : List Str := ["_law_cell"]
theorem sc_l_draws : FnScope ["_law_cell"] ["_law_cell"] (defScope s_l_draws) := ⟨rfl, rfl, rfl, by decide +kernel, rfl, by decide +kernel, by decide +kernel⟩
abbrev s_l_next : Stmt := topS 20
abbrev N_l_next : List Str := ["_law_draws_here", "_law_k", "_law_number"]
theorem sc_l_next : FnScope ["_law_draws_here", "_law_k", "_law_number"] ["_law_draws_here"] (defScope s_l_next) := ⟨rfl, rfl, rfl, by decide +kernel, rfl, by decide +kernel, by decide +kernel⟩
abbrev s_l_powers : Stmt := topS 21
abbrev N_l_powers : List Str := ["_law_step", "_law_by", "_law_seen", "_law_power"]
theorem sc_l_powers : FnScope ["_law_step", "_law_by", "_law_seen", "_law_power"] ["_law_step", "_law_by"] (defScope s_l_powers) := ⟨rfl, rfl, rfl, by decide +kernel, rfl, by decide +kernel, by decide +kernel⟩
abbrev s_l_factor_right : Stmt := topS 22
abbrev N_l_factor_right : List Str := ["_law_step", "_law_by", "_law_due"]
theorem sc_l_factor_right : FnScope ["_law_step", "_law_by", "_law_due"] ["_law_step", "_law_by"] (defScope s_l_factor_right) := ⟨rfl, rfl, rfl, by decide +kernel, rfl, by decide +kernel, by decide +kernel⟩
abbrev s_l_table : Stmt := topS 23
abbrev N_l_table : List Str := ["_law_draws_here", "_law_every", "_law_kind", "_law_told", "_law_at", "_law_letter", "_law_pick", "_law_some"]
theorem sc_l_table : FnScope ["_law_draws_here", "_law_every", "_law_kind", "_law_told", "_law_at", "_law_letter", "_law_pick", "_law_some"] ["_law_draws_here"] (defScope s_l_table) := ⟨rfl, rfl, rfl, by decide +kernel, rfl, by decide +kernel, by decide +kernel⟩
abbrev s_l_turned : Stmt := topS 24
abbrev N_l_turned : List Str := ["_law_table_here", "_law_rows", "_law_after", "_law_letter"]
theorem sc_l_turned : FnScope ["_law_table_here", "_law_rows", "_law_after", "_law_letter"] ["_law_table_here"] (defScope s_l_turned) := ⟨rfl, rfl, rfl, by decide +kernel, rfl, by decide +kernel, by decide +kernel⟩
abbrev s_l_letters_right : Stmt := topS 25
abbrev N_l_letters_right : List Str := ["_law_table_here", "_law_kept", "_law_due", "_law_other"]
theorem sc_l_letters_right : FnScope ["_law_table_here", "_law_kept", "_law_due", "_law_other"] ["_law_table_here"] (defScope s_l_letters_right) := ⟨rfl, rfl, rfl, by decide +kernel, rfl, by decide +kernel, by decide +kernel⟩
abbrev s_law : Stmt := topS 26
abbrev N_law : List Str := ["_law_script", "_law_draws_here", "_law_far", "_law_step", "_law_by", "_law_some", "_law_table_here", "_law_cell"]
theorem sc_law : FnScope ["_law_script", "_law_draws_here", "_law_far", "_law_step", "_law_by", "_law_some", "_law_table_here", "_law_cell"] ["_law_script"] (defScope s_law) := ⟨rfl, rfl, rfl, by decide +kernel, rfl, by decide +kernel, by decide +kernel⟩
/-- the built-ins and constants that are meant -/
structure Bt (mg : Str → Option Value) : Prop where
  b_all : mg "all" = none
  b_bool : mg "bool" = none
  b_dict : mg "dict" = none
  b_enumerate : mg "enumerate" = none
  b_int : mg "int" = none
  b_isinstance : mg "isinstance" = none
  b_len : mg "len" = none
  b_list : mg "list" = none
  b_max : mg "max" = none
  b_range : mg "range" = none
  b_repr : mg "repr" = none
  b_sorted : mg "sorted" = none
  b_str : mg "str" = none
  b_tuple : mg "tuple" = none
  g_lcm : mg "lcm" = some (.builtin "math.lcm")
  x_MOST_LETTERS : ∃ t, mg "MOST_LETTERS" = some (.int 26 t)
  x_MOST_MODULUS : ∃ t, mg "MOST_MODULUS" = some (.int 10000 t)
theorem Bt.c_MOST_LETTERS {mg : Str → Option Value} (T : Bt mg) : mg "MOST_LETTERS" = some (.int 26 (Classical.choose T.x_MOST_LETTERS)) := Classical.choose_spec T.x_MOST_LETTERS
theorem Bt.c_MOST_MODULUS {mg : Str → Option Value} (T : Bt mg) : mg "MOST_MODULUS" = some (.int 10000 (Classical.choose T.x_MOST_MODULUS)) := Classical.choose_spec T.x_MOST_MODULUS
/-- a def that is called, with its mirror -/
structure Callee [LT] (P : Program) (w : World) (K : PySem.W.Frag) (mg : Str → Option Value) (base : Heap) (lev : Nat) (x : Str) (ps : List Str) (F : M SV) where
  f : Addr
  fd : FuncData
  ok : FnG P w K mg base (L2.CX P w) lev f fd ps (spM ps.length mg F)
  mg : mg x = some (.ref f)
  kp : PySem.W.keepIn K (.ref f) = true
  bd : Binds K fd ps []
def pk_cycle_of_factor_modulus_factor {α : Type} : List α → List α | [a0, a1] => [a1, a0] | _ => []
theorem at_pk_cycle_of_factor_modulus_factor : ∀ (B : Hp) (zs : List V) (ds : List PyData), AtL B zs ds → AtL B (pk_cycle_of_factor_modulus_factor zs) (pk_cycle_of_factor_modulus_factor ds) := by
  intro B zs ds r
  cases r with
  | nil => exact .nil
  | cons q0 r =>
    cases r with
    | nil => exact .nil
    | cons q1 r =>
      cases r with
      | nil => exact (.cons q1 (.cons q0 .nil))
      | cons _ _ => exact .nil
def pk_cycle_of_letters_letters {α : Type} : List α → List α | [a0] => [a0] | _ => []
theorem at_pk_cycle_of_letters_letters : ∀ (B : Hp) (zs : List V) (ds : List PyData), AtL B zs ds → AtL B (pk_cycle_of_letters_letters zs) (pk_cycle_of_letters_letters ds) := by
  intro B zs ds r
  cases r with
  | nil => exact .nil
  | cons q0 r =>
    cases r with
    | nil => exact (.cons q0 .nil)
    | cons _ _ => exact .nil
def B_is_whole : S := (sRet (mDat (mAnd (m1 (kIsi "int") (mVar 0)) (mNot (m1 (kIsi "bool") (mVar 0))))))
def F_is_whole : M SV := mDef 1 1 B_is_whole
def B_is_whole_within : S := (sRet (mDat (mAnd (mFz (mCall 1 F_is_whole (mCons (mVar 0) mNil))) (mChain kLe kLe (mVar 1) (mVar 0) (mVar 2)))))
def F_is_whole_within : M SV := mDef 3 3 B_is_whole_within
def B_check_factor : S := (sIf (mtNot (mB (mFz (mCall 1 F_is_whole (mCons (mVar 0) mNil))))) sNever sNil)
def F_check_factor : M SV := mDef 1 1 B_check_factor
def B_check_modulus : S := (sIf (mtNot (mB (mFz (mCall 3 F_is_whole_within (mCons (mVar 0) (mCons (mC (.int 1)) (mCons (mC (.int 10000)) mNil))))))) sNever sNil)
def F_check_modulus : M SV := mDef 1 1 B_check_modulus
def B_cycle : S := (sSeq (sSet 2 mDNew)
  (sSeq (sSet 3 (mDat (mVar 0)))
  (sSeq (sWhile 20000 (mB (mDInP true 2 (mVar 3))) (sSeq (sDPutM 2 (mVar 3) (mDLenP 2))
  (sSet 3 (mDat (m2 kDGet (mVar 1) (mVar 3))))))
  (sSeq (sSet 4 (mDat (mDGetP 2 (mVar 3))))
  (sRet (mDat (mTup (mCons (mVar 4) (mCons (m2 kSub (mDLenP 2) (mVar 4)) mNil)))))))))
def F_cycle : M SV := mDef 2 5 B_cycle
def B_cycle_of_factor : S := (sSeq (sDrop (mFz (mCall 1 F_check_factor (mCons (mVar 0) mNil))))
  (sSeq (sDrop (mFz (mCall 1 F_check_modulus (mCons (mVar 1) mNil))))
  (sRet (mCall 2 F_cycle (mCons (m2 kMod (mC (.int 1)) (mVar 1)) (mCons (mFz (mDc [2] (itA kR1 (mCons (mVar 1) mNil)) (bName 2) (M.ret true) (mVar 2) (m2 kMod (m2 kMul (mVar 2) (mVar 0)) (mVar 1)))) mNil))))))
def F_cycle_of_factor : M SV := mDef 2 3 B_cycle_of_factor
def B_is_letter : S := (sRet (mDat (mAnd (m1 (kIsi "str") (mVar 0)) (m2 kEq (mA kLenS (mCons (mVar 0) mNil)) (mC (.int 1))))))
def F_is_letter : M SV := mDef 1 1 B_is_letter
def B_check_letters : S := (sSeq (sIf (mtOr (mtNot (mB (m1 (kIsi "dict") (mVar 0)))) (mtNot (mB (mChain kLe kLe (mC (.int 1)) (mA kLenD (mCons (mVar 0) mNil)) (mC (.int 26)))))) sNever sNil)
  (sSeq (sIf (mtNot (mB (mA kAll (mCons (mFz (mLc [1] (itK (mVar 0)) (bName 1) (M.ret true) (mFz (mCall 1 F_is_letter (mCons (mVar 1) mNil))))) mNil)))) sNever sNil)
  (sFor (itL (mFz (mAL kSortT (mCons (mFz (mAL kListD (mCons (mVar 0) mNil))) mNil)))) (bName 1) (sIf (mtOr (mtNot (mB (mFz (mCall 1 F_is_letter (mCons (m2 kDGet (mVar 0) (mVar 1)) mNil))))) (mB (m2 (kDIn true) (m2 kDGet (mVar 0) (mVar 1)) (mVar 0)))) sNever sNil))))
def F_check_letters : M SV := mDef 1 2 B_check_letters
def B_cycle_of_letters : S := (sSeq (sDrop (mFz (mCall 1 F_check_letters (mCons (mVar 0) mNil))))
  (sSeq (sSet 1 (mDat (mC (.int 0))))
  (sSeq (sSet 2 (mDat (mC (.int 1))))
  (sSeq (sFor (itK (mVar 0)) (bName 3) (sSeq (sAsg (bTup 2 (bCons (bName 4) (bCons (bName 5) bNil))) (mFz (mCall 2 F_cycle (mCons (mVar 3) (mCons (mVar 0) mNil)))))
  (sSeq (sSet 1 (mDat (mA kMax2 (mCons (mVar 1) (mCons (mVar 4) mNil)))))
  (sSet 2 (mDat (mA kLcm (mCons (mVar 2) (mCons (mVar 5) mNil))))))))
  (sRet (mDat (mTup (mCons (mVar 1) (mCons (mVar 2) mNil)))))))))
def F_cycle_of_letters : M SV := mDef 1 6 B_cycle_of_letters
def B_l_draws : S := (sRet (mLst (mCons (m2 kMod (mA kInt (mCons (mVar 0) mNil)) (m2 kPow (m2 kPow (m2 kPow (mC (.int 10)) (mC (.int 60))) (mC (.int 60))) (mC (.int 4)))) (mCons (mC (.int 0)) (mCons (m2 kGe (mVar 0) (m2 kPow (mC (.int 10)) (mC (.int 18)))) mNil)))))
def F_l_draws : M SV := mDef 1 1 B_l_draws
def B_l_next : S := (sSeq (sPut 0 (mC (.int 1)) (m2 kAdd (mIxP 0 (mC (.int 1))) (mC (.int 1))))
  (sSeq (sSet 1 (mDat (mIxP 0 (mC (.int 1)))))
  (sSeq (sIf (mB (mIxP 0 (mC (.int 2)))) (sSeq (sSet 2 (mDat (m2 kMod (mA kInt (mCons (mIxP 0 (mC (.int 0))) mNil)) (m2 kPow (mC (.int 10)) (mC (.int 6))))))
  (sSeq (sPut 0 (mC (.int 0)) (m2 kDiv (mIxP 0 (mC (.int 0))) (m2 kPow (mC (.int 10)) (mC (.int 6)))))
  (sRet (mDat (mVar 2))))) sNil)
  (sSeq (sSet 2 (mDat (m2 kMod (mA kInt (mCons (m2 kMul (m2 kAdd (m2 kAdd (m2 kMod (mA kInt (mCons (mIxP 0 (mC (.int 0))) mNil)) (mC (.int 1000003))) (m2 kMul (m2 kMul (mVar 1) (mVar 1)) (mC (.int 7919)))) (mVar 1)) (mC (.int 48271))) mNil)) (mC (.int 2147483629)))))
  (sSeq (sSet 2 (mDat (m2 kMod (mA kInt (mCons (m2 kMul (mVar 2) (mVar 2)) mNil)) (mC (.int 2147483587)))))
  (sRet (mDat (m2 kDiv (m2 kMod (mA kInt (mCons (m2 kMul (mVar 2) (m2 kAdd (mVar 2) (mC (.int 2)))) mNil)) (mC (.int 2147483579))) (mC (.int 7))))))))))
def F_l_next : M SV := mDef 1 3 B_l_next
def B_l_powers : S := (sSeq (sSet 2 mDNew)
  (sSeq (sSet 3 (mDat (m2 kMod (mC (.int 1)) (mVar 1))))
  (sSeq (sWhile 20000 (mB (mDInP true 2 (mVar 3))) (sSeq (sDPutM 2 (mVar 3) (mDLenP 2))
  (sSet 3 (mDat (m2 kMod (mA kInt (mCons (m2 kMul (mVar 3) (mVar 0)) mNil)) (mVar 1))))))
  (sRet (mDat (mTup (mCons (mDGetP 2 (mVar 3)) (mCons (m2 kSub (mDLenP 2) (mDGetP 2 (mVar 3))) mNil))))))))
def F_l_powers : M SV := mDef 2 4 B_l_powers
def B_l_factor_right : S := (sSeq (sSet 2 (mDat (mA kRepr (mCons (mFz (mCall 2 F_l_powers (mCons (mVar 0) (mCons (mVar 1) mNil)))) mNil))))
  (sRet (mDat (mAnd (m2 kEqS (mA kRepr (mCons (mFz (mCall 2 F_cycle_of_factor (mCons (mVar 0) (mCons (mVar 1) mNil)))) mNil)) (mVar 2)) (m2 kEqS (mA kRepr (mCons (mFz (M.bind (mCons (mVar 1) (mCons (mVar 0) mNil)) fun ds => mCallD 2 F_cycle_of_factor (pk_cycle_of_factor_modulus_factor ds))) mNil)) (mVar 2))))))
def F_l_factor_right : M SV := mDef 2 3 B_l_factor_right
def B_l_table : S := (sSeq (sSet 1 (mDat (mSlS (mC (.str "abcdefghijklmnopqrstuvwxyz")) mNone (mSome (m2 kAdd (mC (.int 1)) (m2 kMod (mA kInt (mCons (mFz (mCallB 1 F_l_next 0 0 (aBor aNil))) mNil)) (mC (.int 26))))))))
  (sSeq (sSet 2 (mDat (m2 kMod (mA kInt (mCons (mFz (mCallB 1 F_l_next 0 0 (aBor aNil))) mNil)) (mC (.int 3)))))
  (sSeq (sSet 3 mDNew)
  (sSeq (sFor (itA kEnT (mCons (mVar 1) mNil)) (bTup 2 (bCons (bName 4) (bCons (bName 5) bNil))) (sSeq (sSet 6 (mDat (mA kInt (mCons (mFz (mCallB 1 F_l_next 0 0 (aBor aNil))) mNil))))
  (sSeq (sSet 7 (mLst (mCons (m2 kIxS (mVar 1) (m2 kMod (mVar 6) (mA kLenS (mCons (mVar 1) mNil)))) (mCons (m2 kIxS (mVar 1) (m2 kMod (m2 kAdd (mVar 4) (mC (.int 1))) (mA kLenS (mCons (mVar 1) mNil)))) (mCons (mVar 5) mNil)))))
  (sDPutM 3 (mVar 5) (m2 kIx (mVar 7) (mIf (mB (m2 kGt (m2 kMod (mVar 6) (mC (.int 3))) (mC (.int 0)))) (mVar 2) (mC (.int 0))))))))
  (sRet (mDat (mVar 3)))))))
def F_l_table : M SV := mDef 1 8 B_l_table
def B_l_turned : S := (sSeq (sSet 1 (mLst (mCons (mA kTupleOf (mCons (mFz (mAL kSortK (mCons (mVar 0) mNil))) mNil)) mNil)))
  (sWhile 100000000 (mB (mC (.bool true))) (sSeq (sSet 2 (mDat (mA kTupleOf (mCons (mFz (mLc [3] (itT (mIxP 1 (m1 kNeg (mC (.int 1))))) (bName 3) (M.ret true) (m2 kDGet (mVar 0) (mVar 3)))) mNil))))
  (sSeq (sIf (mB (mCmpQ kInD 1 (mVar 2))) (sRet (mDat (mTup (mCons (mIndexD (mVar 1) (mCons (mVar 2) mNil)) (mCons (m2 kSub (mA kLen (mCons (mVar 1) mNil)) (mIndexD (mVar 1) (mCons (mVar 2) mNil))) mNil))))) sNil)
  (sApp 1 (mVar 2))))))
def F_l_turned : M SV := mDef 1 4 B_l_turned
def B_l_letters_right : S := (sSeq (sSet 1 (mDat (mA kReprD (mCons (mVar 0) mNil))))
  (sSeq (sSet 2 (mDat (mA kRepr (mCons (mFz (mCall 1 F_l_turned (mCons (mVar 0) mNil))) mNil))))
  (sSeq (sSet 3 (mDictP (mCons (mFz (mRevL (mFz (mItems (mVar 0))))) mNil)))
  (sSeq (sIf (mtOr (mB (m2 kNeS (mA kRepr (mCons (mFz (mCall 1 F_cycle_of_letters (mCons (mVar 0) mNil))) mNil)) (mVar 2))) (mB (m2 kNeS (mA kRepr (mCons (mFz (M.bind (mCons (mVar 3) mNil) fun ds => mCallD 1 F_cycle_of_letters (pk_cycle_of_letters_letters ds))) mNil)) (mVar 2)))) (sRet (mDat (mC (.bool false)))) sNil)
  (sRet (mDat (mAnd (m2 kEqS (mA kReprD (mCons (mVar 0) mNil)) (mVar 1)) (m2 kEqS (mA kReprD (mCons (mFz (mDictP (mCons (mFz (mRevL (mFz (mItems (mVar 3))))) mNil))) mNil)) (mVar 1)))))))))
def F_l_letters_right : M SV := mDef 1 4 B_l_letters_right
noncomputable def B_law (K : PySem.W.Frag) : S := (sSeq (sForO [7] (itL (mFz (m2L kCat (mFz (mScr K 0 mNone (mSome (mC (.int 6))))) (mFz (mLst (mCons (mC (.int 0)) mNil)))))) (bName 7) (mCall 1 F_l_draws (mCons (mVar 7) mNil)) 1 (sSeq (sSet 2 (mDat (m2 kIx (mFz (mLst (mCons (mC (.int 1)) (mCons (mC (.int 1)) (mCons (m2 kPow (mC (.int 10)) (mC (.int 13))) mNil))))) (m2 kMod (mA kInt (mCons (mFz (mCallB 1 F_l_next 0 1 (aBor aNil))) mNil)) (mC (.int 3))))))
  (sSeq (sSet 3 (mDat (m2 kMul (m2 kSub (m2 kMod (mA kInt (mCons (mFz (mCallB 1 F_l_next 0 1 (aBor aNil))) mNil)) (m2 kPow (mC (.int 10)) (mC (.int 6)))) (mC (.int 500000))) (mVar 2))))
  (sSeq (sSet 4 (mDat (m2 kAdd (mC (.int 1)) (m2 kMod (mA kInt (mCons (mFz (mCallB 1 F_l_next 0 1 (aBor aNil))) mNil)) (m2 kIx (mFz (mLst (mCons (mC (.int 12)) (mCons (mC (.int 2000)) mNil)))) (m2 kMod (mA kInt (mCons (mFz (mCallB 1 F_l_next 0 1 (aBor aNil))) mNil)) (mC (.int 2))))))))
  (sIf (mtOr (mtNot (mB (mFz (mCall 2 F_l_factor_right (mCons (mVar 3) (mCons (mVar 4) mNil)))))) (mtNot (mB (mFz (mCall 1 F_l_letters_right (mCons (mFz (mCallB 1 F_l_table 0 1 (aBor aNil))) mNil)))))) (sRet (mDat (mC (.bool false)))) sNil)))))
  (sSeq (sSet 5 (mLst (mCons (mTup (mCons (mC (.int 0)) (mCons (mC (.int 1)) mNil))) (mCons (mTup (mCons (mC (.int 0)) (mCons (mC (.int 2)) mNil))) (mCons (mTup (mCons (mC (.int 1)) (mCons (mC (.int 7)) mNil))) (mCons (mTup (mCons (m1 kNeg (mC (.int 1))) (mCons (mC (.int 7)) mNil))) (mCons (mTup (mCons (m1 kNeg (mC (.int 1))) (mCons (mC (.int 2)) mNil))) (mCons (mTup (mCons (mC (.int 2)) (mCons (mC (.int 8192)) mNil))) (mCons (mTup (mCons (mC (.int 10)) (mCons (mC (.int 10000)) mNil))) (mCons (mTup (mCons (mC (.int 5)) (mCons (mC (.int 9973)) mNil))) (mCons (mTup (mCons (m1 kNeg (mC (.int 1))) (mCons (mC (.int 1)) mNil))) (mCons (mTup (mCons (mC (.int 6)) (mCons (mC (.int 36)) mNil))) mNil))))))))))))
  (sSeq (sFor (itL (mFz (m2L kCat (mVar 5) (mFz (mLst (mCons (mTup (mCons (mC (.int 7)) (mCons (mC (.int 1)) mNil))) (mCons (mTup (mCons (mC (.int 2)) (mCons (mC (.int 12)) mNil))) (mCons (mTup (mCons (mC (.int 0)) (mCons (mC (.int 5)) mNil))) (mCons (mTup (mCons (mC (.int 997300000000000000000011)) (mCons (mC (.int 9973)) mNil))) mNil))))))))) (bTup 2 (bCons (bName 3) (bCons (bName 4) bNil))) (sIf (mtNot (mB (mFz (mCall 2 F_l_factor_right (mCons (mVar 3) (mCons (mVar 4) mNil)))))) (sRet (mDat (mC (.bool false)))) sNil))
  (sSeq (sSet 5 (mLst (mCons (mFz (mDisp [((mC (.str "a")), (mC (.str "b"))), ((mC (.str "b")), (mC (.str "a"))), ((mC (.str "c")), (mC (.str "d"))), ((mC (.str "d")), (mC (.str "e"))), ((mC (.str "e")), (mC (.str "c")))])) (mCons (mFz (mDisp [((mC (.str "\n")), (mC (.str "]"))), ((mC (.str "]")), (mC (.str "^"))), ((mC (.str "^")), (mC (.str "-"))), ((mC (.str "-")), (mC (.str "\n")))])) mNil))))
  (sSeq (sFor (itL (mFz (m2L kCat (mVar 5) (mFz (mLst (mCons (mFz (mDisp [((mC (.str "0")), (mC (.str "1"))), ((mC (.str "1")), (mC (.str "0")))])) (mCons (mFz (mDisp [((mC (.str " ")), (mC (.str "."))), ((mC (.str ".")), (mC (.str " ")))])) (mCons (mFz (mDisp [((mC (.str "(")), (mC (.str "(")))])) (mCons (mFz (mDisp [((mC (.str "_")), (mC (.str "Z"))), ((mC (.str "Z")), (mC (.str "Z")))])) mNil))))))))) (bName 6) (sIf (mtNot (mB (mFz (mCall 1 F_l_letters_right (mCons (mVar 6) mNil))))) (sRet (mDat (mC (.bool false)))) sNil))
  (sSeq (sIf (mB (m2 kNe (mFz (mCall 1 F_cycle_of_letters (mCons (mFz (mDisp [((mC (.str "a")), (mC (.str "b"))), ((mC (.str "b")), (mC (.str "c"))), ((mC (.str "c")), (mC (.str "b"))), ((mC (.str "d")), (mC (.str "d")))])) mNil))) (mTup (mCons (mC (.int 1)) (mCons (mC (.int 2)) mNil))))) (sRet (mDat (mC (.bool false)))) sNil)
  (sRet (mDat (mAnd (m2 kEq (mFz (mCall 1 F_cycle_of_letters (mCons (mFz (mDisp [((mC (.str "a")), (mC (.str "A"))), ((mC (.str "A")), (mC (.str "A")))])) mNil))) (mTup (mCons (mC (.int 1)) (mCons (mC (.int 1)) mNil)))) (m2 kEq (mFz (mCall 1 F_cycle_of_letters (mCons (mFz (mDisp [((mC (.str "a")), (mC (.str "A"))), ((mC (.str "A")), (mC (.str "a")))])) mNil))) (mTup (mCons (mC (.int 0)) (mCons (mC (.int 2)) mNil)))))))))))))
noncomputable def F_law (K : PySem.W.Frag) : M SV := mDef 1 8 (B_law K)
section
variable [LT] {P : Program} {w : World} {K : PySem.W.Frag} {mg : Str → Option Value} {base : Heap}
theorem ok_is_whole {f : Addr} {fd : FuncData} (Fn : Fun K "is_whole" "is_whole" s_is_whole f fd) (T : Bt mg) : FnG P w K mg base (L2.CX P w) 1 f fd ["thing"] (spM 1 mg F_is_whole) := by
  refine def_ok (N := ["thing"]) (ps := ["thing"]) (body := B_is_whole) Fn sc_is_whole fun cdv A out s H E hc hr => ?_
  have hu200 := u200 hr
  have hu64 := hr.units
  have hu65 := u65 hr
  have hu1 := u1 hr
  have hx := passX (P := P) (w := w) (K := K) (mg := mg) (base := base) (N := ["thing"]) (qual := "is_whole") (sc := defScope s_is_whole) (f := f) (cdv := cdv) (A := A) (out := out) (s := s) (H := H) (E := E)
  have hp := passO (P := P) (w := w) (K := K) (mg := mg) (base := base) (N := ["thing"]) (qual := "is_whole") (sc := defScope s_is_whole) (f := f) (cdv := cdv) (A := A) (out := out) (s := s) (H := H) (E := E)
  exact (s_one (s_ret (m_dat (m_and (m_isi (K := K) rfl (pe_callB (k_isi (K := K) rfl) (by rfl) T.b_isinstance (by decide +kernel) (pa_cons (m_var 0 (pv 0)) (pa_cons (pe_bltn (v := .ty "int") (u := .type "int") (by rfl) T.b_int (by decide +kernel) rfl) pa_nil)))) (m_one (m_not (m_isi (K := K) rfl (pe_callB (k_isi (K := K) rfl) (by rfl) T.b_isinstance (by decide +kernel) (pa_cons (m_var 0 (pv 0)) (pa_cons (pe_bltn (v := .ty "bool") (u := .type "bool") (by rfl) T.b_bool (by decide +kernel) rfl) pa_nil))))))))))
theorem ok_is_whole_within {f : Addr} {fd : FuncData} (Fn : Fun K "is_whole_within" "is_whole_within" s_is_whole_within f fd) (T : Bt mg) (D_is_whole : Callee P w K mg base 1 "is_whole" ["thing"] F_is_whole) : FnG P w K mg base (L2.CX P w) 2 f fd ["thing", "least", "most"] (spM 3 mg F_is_whole_within) := by
  refine def_ok (N := ["thing", "least", "most"]) (ps := ["thing", "least", "most"]) (body := B_is_whole_within) Fn sc_is_whole_within fun cdv A out s H E hc hr => ?_
  have hu200 := u200 hr
  have hu64 := hr.units
  have hu65 := u65 hr
  have hu1 := u1 hr
  have hx := passX (P := P) (w := w) (K := K) (mg := mg) (base := base) (N := ["thing", "least", "most"]) (qual := "is_whole_within") (sc := defScope s_is_whole_within) (f := f) (cdv := cdv) (A := A) (out := out) (s := s) (H := H) (E := E)
  have hp := passO (P := P) (w := w) (K := K) (mg := mg) (base := base) (N := ["thing", "least", "most"]) (qual := "is_whole_within") (sc := defScope s_is_whole_within) (f := f) (cdv := cdv) (A := A) (out := out) (s := s) (H := H) (E := E)
  exact (s_one (s_ret (m_dat (m_and (m_fz (m_call D_is_whole.ok hc (hr.mono (by decide)) (by rfl) D_is_whole.mg D_is_whole.kp D_is_whole.bd hx (m_cons (m_var 0 (pv 0)) m_nil))) (m_one (m_chain op_le op_le d_le d_le (m_var 1 (pv 1)) (m_var 0 (pv 0)) (m_var 2 (pv 2))))))))
theorem ok_check_factor {f : Addr} {fd : FuncData} (Fn : Fun K "_check_factor" "_check_factor" s_check_factor f fd) (T : Bt mg) (D_is_whole : Callee P w K mg base 1 "is_whole" ["thing"] F_is_whole) : FnG P w K mg base (L2.CX P w) 2 f fd ["factor"] (spM 1 mg F_check_factor) := by
  refine def_ok (N := ["factor"]) (ps := ["factor"]) (body := B_check_factor) Fn sc_check_factor fun cdv A out s H E hc hr => ?_
  have hu200 := u200 hr
  have hu64 := hr.units
  have hu65 := u65 hr
  have hu1 := u1 hr
  have hx := passX (P := P) (w := w) (K := K) (mg := mg) (base := base) (N := ["factor"]) (qual := "_check_factor") (sc := defScope s_check_factor) (f := f) (cdv := cdv) (A := A) (out := out) (s := s) (H := H) (E := E)
  have hp := passO (P := P) (w := w) (K := K) (mg := mg) (base := base) (N := ["factor"]) (qual := "_check_factor") (sc := defScope s_check_factor) (f := f) (cdv := cdv) (A := A) (out := out) (s := s) (H := H) (E := E)
  exact (s_one (s_if (m_tnot (m_tval (m_fz (m_call D_is_whole.ok hc (hr.mono (by decide)) (by rfl) D_is_whole.mg D_is_whole.kp D_is_whole.bd hx (m_cons (m_var 0 (pv 0)) m_nil))))) (s_one s_never) s_nil))
theorem ok_check_modulus {f : Addr} {fd : FuncData} (Fn : Fun K "_check_modulus" "_check_modulus" s_check_modulus f fd) (T : Bt mg) (D_is_whole_within : Callee P w K mg base 2 "is_whole_within" ["thing", "least", "most"] F_is_whole_within) : FnG P w K mg base (L2.CX P w) 3 f fd ["modulus"] (spM 1 mg F_check_modulus) := by
  refine def_ok (N := ["modulus"]) (ps := ["modulus"]) (body := B_check_modulus) Fn sc_check_modulus fun cdv A out s H E hc hr => ?_
  have hu200 := u200 hr
  have hu64 := hr.units
  have hu65 := u65 hr
  have hu1 := u1 hr
  have hx := passX (P := P) (w := w) (K := K) (mg := mg) (base := base) (N := ["modulus"]) (qual := "_check_modulus") (sc := defScope s_check_modulus) (f := f) (cdv := cdv) (A := A) (out := out) (s := s) (H := H) (E := E)
  have hp := passO (P := P) (w := w) (K := K) (mg := mg) (base := base) (N := ["modulus"]) (qual := "_check_modulus") (sc := defScope s_check_modulus) (f := f) (cdv := cdv) (A := A) (out := out) (s := s) (H := H) (E := E)
  exact (s_one (s_if (m_tnot (m_tval (m_fz (m_call D_is_whole_within.ok hc (hr.mono (by decide)) (by rfl) D_is_whole_within.mg D_is_whole_within.kp D_is_whole_within.bd hx (m_cons (m_var 0 (pv 0)) (m_cons m_int (m_cons (m_const (pe_glob (v := .int 10000) rfl (T.c_MOST_MODULUS) ⟨_, rfl⟩) (fun _ => .int _)) m_nil))))))) (s_one s_never) s_nil))
theorem ok_cycle {f : Addr} {fd : FuncData} (Fn : Fun K "_cycle" "_cycle" s_cycle f fd) (T : Bt mg) : FnG P w K mg base (L2.CX P w) 1 f fd ["start", "following"] (spM 2 mg F_cycle) := by
  refine def_ok (N := ["start", "following", "places", "thing", "tail"]) (ps := ["start", "following"]) (body := B_cycle) Fn sc_cycle fun cdv A out s H E hc hr => ?_
  have hu200 := u200 hr
  have hu64 := hr.units
  have hu65 := u65 hr
  have hu1 := u1 hr
  have hx := passX (P := P) (w := w) (K := K) (mg := mg) (base := base) (N := ["start", "following", "places", "thing", "tail"]) (qual := "_cycle") (sc := defScope s_cycle) (f := f) (cdv := cdv) (A := A) (out := out) (s := s) (H := H) (E := E)
  have hp := passO (P := P) (w := w) (K := K) (mg := mg) (base := base) (N := ["start", "following", "places", "thing", "tail"]) (qual := "_cycle") (sc := defScope s_cycle) (f := f) (cdv := cdv) (A := A) (out := out) (s := s) (H := H) (E := E)
  exact (s_cons (s_set (i := 2) sc_cycle.nd rfl (.inl rfl) m_dnew)
    (s_cons (s_set (i := 3) sc_cycle.nd rfl (.inl rfl) (m_dat (m_var 0 (pv 0))))
    (s_cons (s_while 20000 hp (m_tdninP hu1 (m_var 3 (pv 3)) (pv 2) (by rfl)) (s_cons (s_dput (i := 2) hu1 (pv 2) (m_var 3 (pv 3)) (m_dlenP (i := 2) (pe_callB k_lenD2 (by rfl) T.b_len PySem.boot_len (pa_cons (pv 2) pa_nil))))
    (s_one (s_set (i := 3) sc_cycle.nd rfl (.inl rfl) (m_dat (m_dget hu1 (m_var 1 (pv 1)) (m_var 3 (pv 3)) (fun _ _ => rfl)))))))
    (s_cons (s_set (i := 4) sc_cycle.nd rfl (.inl rfl) (m_dat (m_dgetP hu1 (pv 2) (m_var 3 (pv 3)) (fun _ _ => rfl))))
    (s_one (s_ret (m_dat (m_tup (m_cons (m_var 4 (pv 4)) (m_cons (m_op op_sub d_sub (m_dlenP (i := 2) (pe_callB k_lenD2 (by rfl) T.b_len PySem.boot_len (pa_cons (pv 2) pa_nil))) (m_var 4 (pv 4))) m_nil))))))))))
theorem ok_cycle_of_factor {f : Addr} {fd : FuncData} (Fn : Fun K "cycle_of_factor" "cycle_of_factor" s_cycle_of_factor f fd) (T : Bt mg) (D__check_factor : Callee P w K mg base 2 "_check_factor" ["factor"] F_check_factor) (D__check_modulus : Callee P w K mg base 3 "_check_modulus" ["modulus"] F_check_modulus) (D__cycle : Callee P w K mg base 1 "_cycle" ["start", "following"] F_cycle) : FnG P w K mg base (L2.CX P w) 4 f fd ["factor", "modulus"] (spM 2 mg F_cycle_of_factor) := by
  refine def_ok (N := ["factor", "modulus", "number"]) (ps := ["factor", "modulus"]) (body := B_cycle_of_factor) Fn sc_cycle_of_factor fun cdv A out s H E hc hr => ?_
  have hu200 := u200 hr
  have hu64 := hr.units
  have hu65 := u65 hr
  have hu1 := u1 hr
  have hx := passX (P := P) (w := w) (K := K) (mg := mg) (base := base) (N := ["factor", "modulus", "number"]) (qual := "cycle_of_factor") (sc := defScope s_cycle_of_factor) (f := f) (cdv := cdv) (A := A) (out := out) (s := s) (H := H) (E := E)
  have hp := passO (P := P) (w := w) (K := K) (mg := mg) (base := base) (N := ["factor", "modulus", "number"]) (qual := "cycle_of_factor") (sc := defScope s_cycle_of_factor) (f := f) (cdv := cdv) (A := A) (out := out) (s := s) (H := H) (E := E)
  exact (s_cons (s_drop (m_fz (m_call D__check_factor.ok hc (hr.mono (by decide)) (by rfl) D__check_factor.mg D__check_factor.kp D__check_factor.bd hx (m_cons (m_var 0 (pv 0)) m_nil))))
    (s_cons (s_drop (m_fz (m_call D__check_modulus.ok hc (hr.mono (by decide)) (by rfl) D__check_modulus.mg D__check_modulus.kp D__check_modulus.bd hx (m_cons (m_var 1 (pv 1)) m_nil))))
    (s_one (s_ret (m_call D__cycle.ok hc (hr.mono (by decide)) (by rfl) D__cycle.mg D__cycle.kp D__cycle.bd hx (m_cons (m_op op_mod d_mod m_int (m_var 1 (pv 1))) (m_cons (m_fz (m_dc (own := [("number", 2)]) (g_name (by decide)) (by rfl) sc_cycle_of_factor.nd (i_range1 (by rfl) T.b_range (m_cons (m_var 1 (pv 1)) m_nil)) (blkOk_by (own := [("number", 2)]) (N := N_cycle_of_factor) (sc := defScope s_cycle_of_factor) (by decide +kernel)) (fun _ _ _ _ _ => (pg_name (i := 2) sc_cycle_of_factor.nd rfl (.inl rfl))) (fun _ _ _ _ _ => m_tsNil) (fun _ _ _ _ _ => (m_var 2 (pv 2))) (fun _ _ _ _ _ => (m_op op_mod d_mod (m_op op_mul d_mul (m_var 2 (pv 2)) (m_var 0 (pv 0))) (m_var 1 (pv 1)))))) m_nil)))))))
theorem ok_is_letter {f : Addr} {fd : FuncData} (Fn : Fun K "_is_letter" "_is_letter" s_is_letter f fd) (T : Bt mg) : FnG P w K mg base (L2.CX P w) 1 f fd ["thing"] (spM 1 mg F_is_letter) := by
  refine def_ok (N := ["thing"]) (ps := ["thing"]) (body := B_is_letter) Fn sc_is_letter fun cdv A out s H E hc hr => ?_
  have hu200 := u200 hr
  have hu64 := hr.units
  have hu65 := u65 hr
  have hu1 := u1 hr
  have hx := passX (P := P) (w := w) (K := K) (mg := mg) (base := base) (N := ["thing"]) (qual := "_is_letter") (sc := defScope s_is_letter) (f := f) (cdv := cdv) (A := A) (out := out) (s := s) (H := H) (E := E)
  have hp := passO (P := P) (w := w) (K := K) (mg := mg) (base := base) (N := ["thing"]) (qual := "_is_letter") (sc := defScope s_is_letter) (f := f) (cdv := cdv) (A := A) (out := out) (s := s) (H := H) (E := E)
  exact (s_one (s_ret (m_dat (m_and (m_isi (K := K) rfl (pe_callB (k_isi (K := K) rfl) (by rfl) T.b_isinstance (by decide +kernel) (pa_cons (m_var 0 (pv 0)) (pa_cons (pe_bltn (v := .ty "str") (u := .type "str") (by rfl) T.b_str (by decide +kernel) rfl) pa_nil)))) (m_one (m_cmp (k_eqD (K := K) rfl hu64) d_eq (m_appl d_lenS (pe_callB call_len_str (by rfl) T.b_len PySem.boot_len (m_cons (m_var 0 (pv 0)) m_nil)) rfl) m_int (nomark _)))))))
theorem ok_check_letters {f : Addr} {fd : FuncData} (Fn : Fun K "_check_letters" "_check_letters" s_check_letters f fd) (T : Bt mg) (D__is_letter : Callee P w K mg base 1 "_is_letter" ["thing"] F_is_letter) : FnG P w K mg base (L2.CX P w) 2 f fd ["letters"] (spM 1 mg F_check_letters) := by
  refine def_ok (N := ["letters", "key"]) (ps := ["letters"]) (body := B_check_letters) Fn sc_check_letters fun cdv A out s H E hc hr => ?_
  have hu200 := u200 hr
  have hu64 := hr.units
  have hu65 := u65 hr
  have hu1 := u1 hr
  have hx := passX (P := P) (w := w) (K := K) (mg := mg) (base := base) (N := ["letters", "key"]) (qual := "_check_letters") (sc := defScope s_check_letters) (f := f) (cdv := cdv) (A := A) (out := out) (s := s) (H := H) (E := E)
  have hp := passO (P := P) (w := w) (K := K) (mg := mg) (base := base) (N := ["letters", "key"]) (qual := "_check_letters") (sc := defScope s_check_letters) (f := f) (cdv := cdv) (A := A) (out := out) (s := s) (H := H) (E := E)
  exact (s_cons (s_if (PW.pt (m_tor (m_tnot (m_tval (m_isi (K := K) rfl (pe_callB (k_isi (K := K) rfl) (by rfl) T.b_isinstance (by decide +kernel) (pa_cons (m_var 0 (pv 0)) (pa_cons (pe_bltn (v := .ty "dict") (u := .type "dict") (by rfl) T.b_dict (by decide +kernel) rfl) pa_nil)))))) (m_tor1 (m_tnot (m_tchain op_le op_le d_le d_le m_int (m_appl d_lenD (pe_callB k_lenD2 (by rfl) T.b_len PySem.boot_len (m_cons (m_var 0 (pv 0)) m_nil)) rfl) (m_const (pe_glob (v := .int 26) rfl (T.c_MOST_LETTERS) ⟨_, rfl⟩) (fun _ => .int _))))))) (s_one s_never) s_nil)
    (s_cons (s_if (m_tnot (m_tval (m_appl d_all (pe_callB (k_all (K := K) rfl rfl) (by rfl) T.b_all (by decide +kernel) (m_cons (m_fz (m_lc (own := [("key", 1)]) (g_name (by decide)) (by rfl) sc_check_letters.nd (i_keys (m_var 0 (pv 0))) (blkOk_by (own := [("key", 1)]) (N := N_check_letters) (sc := defScope s_check_letters) (by decide +kernel)) (fun _ _ _ _ _ => (pg_name (i := 1) sc_check_letters.nd rfl (.inl rfl))) (fun _ _ _ _ _ => m_tsNil) (fun _ _ _ _ _ => (m_fz (m_call D__is_letter.ok hc (hr.mono (by decide)) (by rfl) D__is_letter.mg D__is_letter.kp D__is_letter.bd passL (m_cons (m_var 1 (pv 1)) m_nil)))))) m_nil)) rfl))) (s_one s_never) s_nil)
    (s_one (s_for (vs := [1]) hp rfl (g_name (by decide)) (i_list (m_fz (m_applL d_sortT (pe_callB (k_sortT (K := K) rfl) (by rfl) T.b_sorted (by decide +kernel) (m_cons (m_fz (m_applL d_listD (pe_callTy (call_listD rfl) (by rfl) T.b_list (by decide +kernel) (m_cons (m_var 0 (pv 0)) m_nil)) rfl)) m_nil)) rfl))) (pg_name (i := 1) sc_check_letters.nd rfl (.inl rfl)) (s_one (s_if (PW.pt (m_tor (m_tnot (m_tval (m_fz (m_call D__is_letter.ok hc (hr.mono (by decide)) (by rfl) D__is_letter.mg D__is_letter.kp D__is_letter.bd hx (m_cons (m_dget hu1 (m_var 0 (pv 0)) (m_var 1 (pv 1)) (fun _ _ => rfl)) m_nil))))) (m_tor1 (m_tdnin hu1 (m_dget hu1 (m_var 0 (pv 0)) (m_var 1 (pv 1)) (fun _ _ => rfl)) (m_var 0 (pv 0)) (by rfl))))) (s_one s_never) s_nil))))))
theorem ok_cycle_of_letters {f : Addr} {fd : FuncData} (Fn : Fun K "cycle_of_letters" "cycle_of_letters" s_cycle_of_letters f fd) (T : Bt mg) (D__cycle : Callee P w K mg base 1 "_cycle" ["start", "following"] F_cycle) (D__check_letters : Callee P w K mg base 2 "_check_letters" ["letters"] F_check_letters) : FnG P w K mg base (L2.CX P w) 3 f fd ["letters"] (spM 1 mg F_cycle_of_letters) := by
  refine def_ok (N := ["letters", "tail", "ring", "letter", "own_tail", "own_ring"]) (ps := ["letters"]) (body := B_cycle_of_letters) Fn sc_cycle_of_letters fun cdv A out s H E hc hr => ?_
  have hu200 := u200 hr
  have hu64 := hr.units
  have hu65 := u65 hr
  have hu1 := u1 hr
  have hx := passX (P := P) (w := w) (K := K) (mg := mg) (base := base) (N := ["letters", "tail", "ring", "letter", "own_tail", "own_ring"]) (qual := "cycle_of_letters") (sc := defScope s_cycle_of_letters) (f := f) (cdv := cdv) (A := A) (out := out) (s := s) (H := H) (E := E)
  have hp := passO (P := P) (w := w) (K := K) (mg := mg) (base := base) (N := ["letters", "tail", "ring", "letter", "own_tail", "own_ring"]) (qual := "cycle_of_letters") (sc := defScope s_cycle_of_letters) (f := f) (cdv := cdv) (A := A) (out := out) (s := s) (H := H) (E := E)
  exact (s_cons (s_drop (m_fz (m_call D__check_letters.ok hc (hr.mono (by decide)) (by rfl) D__check_letters.mg D__check_letters.kp D__check_letters.bd hx (m_cons (m_var 0 (pv 0)) m_nil))))
    (s_cons (s_set (i := 1) sc_cycle_of_letters.nd rfl (.inl rfl) (m_dat m_int))
    (s_cons (s_set (i := 2) sc_cycle_of_letters.nd rfl (.inl rfl) (m_dat m_int))
    (s_cons (s_for (vs := [3]) hp rfl (g_name (by decide)) (i_keys (m_var 0 (pv 0))) (pg_name (i := 3) sc_cycle_of_letters.nd rfl (.inl rfl)) (s_cons (s_asg (vs := [4, 5]) (g_tup (K := K) (g_cons (g_name (by decide)) (g_cons (g_name (by decide)) g_nil))) (m_fz (m_call D__cycle.ok hc (hr.mono (by decide)) (by rfl) D__cycle.mg D__cycle.kp D__cycle.bd hx (m_cons (m_var 3 (pv 3)) (m_cons (m_var 0 (pv 0)) m_nil)))) (pg_tup rfl (pgs_cons (pg_name (i := 4) sc_cycle_of_letters.nd rfl (.inl rfl)) (pgs_cons (pg_name (i := 5) sc_cycle_of_letters.nd rfl (.inl rfl)) pgs_nil))))
    (s_cons (s_set (i := 1) sc_cycle_of_letters.nd rfl (.inl rfl) (m_dat (m_appl d_max2 (pe_callB (call_max2 rfl) (by rfl) T.b_max (by decide +kernel) (m_cons (m_var 1 (pv 1)) (m_cons (m_var 4 (pv 4)) m_nil))) rfl)))
    (s_one (s_set (i := 2) sc_cycle_of_letters.nd rfl (.inl rfl) (m_dat (m_appl d_lcm (pe_callG k_lcm (by rfl) T.g_lcm (m_cons (m_var 2 (pv 2)) (m_cons (m_var 5 (pv 5)) m_nil))) rfl)))))))
    (s_one (s_ret (m_dat (m_tup (m_cons (m_var 1 (pv 1)) (m_cons (m_var 2 (pv 2)) m_nil))))))))))
theorem ok_l_draws {f : Addr} {fd : FuncData} (Fn : Fun K "_law_draws" "_law_draws" s_l_draws f fd) (T : Bt mg) : FnG P w K mg base (L2.CX P w) 1 f fd ["_law_cell"] (spM 1 mg F_l_draws) := by
  refine def_ok (N := ["_law_cell"]) (ps := ["_law_cell"]) (body := B_l_draws) Fn sc_l_draws fun cdv A out s H E hc hr => ?_
  have hu200 := u200 hr
  have hu64 := hr.units
  have hu65 := u65 hr
  have hu1 := u1 hr
  have hx := passX (P := P) (w := w) (K := K) (mg := mg) (base := base) (N := ["_law_cell"]) (qual := "_law_draws") (sc := defScope s_l_draws) (f := f) (cdv := cdv) (A := A) (out := out) (s := s) (H := H) (E := E)
  have hp := passO (P := P) (w := w) (K := K) (mg := mg) (base := base) (N := ["_law_cell"]) (qual := "_law_draws") (sc := defScope s_l_draws) (f := f) (cdv := cdv) (A := A) (out := out) (s := s) (H := H) (E := E)
  exact (s_one (s_ret (m_lst (m_cons (m_op op_mod d_mod (m_appl d_int (pe_callTy call_int1 (by rfl) T.b_int (by decide +kernel) (m_cons (m_var 0 (pv 0)) m_nil)) rfl) (m_op op_powW d_pow (m_op op_powW d_pow (m_op op_powW d_pow m_int m_int) m_int) m_int)) (m_cons m_int (m_cons (m_cmp op_ge d_ge (m_var 0 (pv 0)) (m_op op_powW d_pow m_int m_int) (nomark _)) m_nil))))))
theorem ok_l_next {f : Addr} {fd : FuncData} (Fn : Fun K "_law_next" "_law_next" s_l_next f fd) (T : Bt mg) : FnG P w K mg base (L2.CX P w) 1 f fd ["_law_draws_here"] (spM 1 mg F_l_next) := by
  refine def_ok (N := ["_law_draws_here", "_law_k", "_law_number"]) (ps := ["_law_draws_here"]) (body := B_l_next) Fn sc_l_next fun cdv A out s H E hc hr => ?_
  have hu200 := u200 hr
  have hu64 := hr.units
  have hu65 := u65 hr
  have hu1 := u1 hr
  have hx := passX (P := P) (w := w) (K := K) (mg := mg) (base := base) (N := ["_law_draws_here", "_law_k", "_law_number"]) (qual := "_law_next") (sc := defScope s_l_next) (f := f) (cdv := cdv) (A := A) (out := out) (s := s) (H := H) (E := E)
  have hp := passO (P := P) (w := w) (K := K) (mg := mg) (base := base) (N := ["_law_draws_here", "_law_k", "_law_number"]) (qual := "_law_next") (sc := defScope s_l_next) (f := f) (cdv := cdv) (A := A) (out := out) (s := s) (H := H) (E := E)
  exact (s_cons (s_put (i := 0) (pv 0) m_int (m_op op_add d_add (m_ixP 0 (K := K) rfl (pv 0) m_int (fun _ _ => rfl)) m_int))
    (s_cons (s_set (i := 1) sc_l_next.nd rfl (.inl rfl) (m_dat (m_ixP 0 (K := K) rfl (pv 0) m_int (fun _ _ => rfl))))
    (s_cons (s_if (m_tval (m_ixP 0 (K := K) rfl (pv 0) m_int (fun _ _ => rfl))) (s_cons (s_set (i := 2) sc_l_next.nd rfl (.inl rfl) (m_dat (m_op op_mod d_mod (m_appl d_int (pe_callTy call_int1 (by rfl) T.b_int (by decide +kernel) (m_cons (m_ixP 0 (K := K) rfl (pv 0) m_int (fun _ _ => rfl)) m_nil)) rfl) (m_op op_powW d_pow m_int m_int))))
    (s_cons (s_put (i := 0) (pv 0) m_int (m_op op_fdiv d_div (m_ixP 0 (K := K) rfl (pv 0) m_int (fun _ _ => rfl)) (m_op op_powW d_pow m_int m_int)))
    (s_one (s_ret (m_dat (m_var 2 (pv 2))))))) s_nil)
    (s_cons (s_set (i := 2) sc_l_next.nd rfl (.inl rfl) (m_dat (m_op op_mod d_mod (m_appl d_int (pe_callTy call_int1 (by rfl) T.b_int (by decide +kernel) (m_cons (m_op op_mul d_mul (m_op op_add d_add (m_op op_add d_add (m_op op_mod d_mod (m_appl d_int (pe_callTy call_int1 (by rfl) T.b_int (by decide +kernel) (m_cons (m_ixP 0 (K := K) rfl (pv 0) m_int (fun _ _ => rfl)) m_nil)) rfl) m_int) (m_op op_mul d_mul (m_op op_mul d_mul (m_var 1 (pv 1)) (m_var 1 (pv 1))) m_int)) (m_var 1 (pv 1))) m_int) m_nil)) rfl) m_int)))
    (s_cons (s_set (i := 2) sc_l_next.nd rfl (.inl rfl) (m_dat (m_op op_mod d_mod (m_appl d_int (pe_callTy call_int1 (by rfl) T.b_int (by decide +kernel) (m_cons (m_op op_mul d_mul (m_var 2 (pv 2)) (m_var 2 (pv 2))) m_nil)) rfl) m_int)))
    (s_one (s_ret (m_dat (m_op op_fdiv d_div (m_op op_mod d_mod (m_appl d_int (pe_callTy call_int1 (by rfl) T.b_int (by decide +kernel) (m_cons (m_op op_mul d_mul (m_var 2 (pv 2)) (m_op op_add d_add (m_var 2 (pv 2)) m_int)) m_nil)) rfl) m_int) m_int)))))))))
theorem ok_l_powers {f : Addr} {fd : FuncData} (Fn : Fun K "_law_powers" "_law_powers" s_l_powers f fd) (T : Bt mg) : FnG P w K mg base (L2.CX P w) 1 f fd ["_law_step", "_law_by"] (spM 2 mg F_l_powers) := by
  refine def_ok (N := ["_law_step", "_law_by", "_law_seen", "_law_power"]) (ps := ["_law_step", "_law_by"]) (body := B_l_powers) Fn sc_l_powers fun cdv A out s H E hc hr => ?_
  have hu200 := u200 hr
  have hu64 := hr.units
  have hu65 := u65 hr
  have hu1 := u1 hr
  have hx := passX (P := P) (w := w) (K := K) (mg := mg) (base := base) (N := ["_law_step", "_law_by", "_law_seen", "_law_power"]) (qual := "_law_powers") (sc := defScope s_l_powers) (f := f) (cdv := cdv) (A := A) (out := out) (s := s) (H := H) (E := E)
  have hp := passO (P := P) (w := w) (K := K) (mg := mg) (base := base) (N := ["_law_step", "_law_by", "_law_seen", "_law_power"]) (qual := "_law_powers") (sc := defScope s_l_powers) (f := f) (cdv := cdv) (A := A) (out := out) (s := s) (H := H) (E := E)
  exact (s_cons (s_set (i := 2) sc_l_powers.nd rfl (.inl rfl) m_dnew)
    (s_cons (s_set (i := 3) sc_l_powers.nd rfl (.inl rfl) (m_dat (m_op op_mod d_mod m_int (m_var 1 (pv 1)))))
    (s_cons (s_while 20000 hp (m_tdninP hu1 (m_var 3 (pv 3)) (pv 2) (by rfl)) (s_cons (s_dput (i := 2) hu1 (pv 2) (m_var 3 (pv 3)) (m_dlenP (i := 2) (pe_callB k_lenD2 (by rfl) T.b_len PySem.boot_len (pa_cons (pv 2) pa_nil))))
    (s_one (s_set (i := 3) sc_l_powers.nd rfl (.inl rfl) (m_dat (m_op op_mod d_mod (m_appl d_int (pe_callTy call_int1 (by rfl) T.b_int (by decide +kernel) (m_cons (m_op op_mul d_mul (m_var 3 (pv 3)) (m_var 0 (pv 0))) m_nil)) rfl) (m_var 1 (pv 1))))))))
    (s_one (s_ret (m_dat (m_tup (m_cons (m_dgetP hu1 (pv 2) (m_var 3 (pv 3)) (fun _ _ => rfl)) (m_cons (m_op op_sub d_sub (m_dlenP (i := 2) (pe_callB k_lenD2 (by rfl) T.b_len PySem.boot_len (pa_cons (pv 2) pa_nil))) (m_dgetP hu1 (pv 2) (m_var 3 (pv 3)) (fun _ _ => rfl))) m_nil)))))))))
theorem ok_l_factor_right {f : Addr} {fd : FuncData} (Fn : Fun K "_law_factor_right" "_law_factor_right" s_l_factor_right f fd) (T : Bt mg) (D_cycle_of_factor : Callee P w K mg base 4 "cycle_of_factor" ["factor", "modulus"] F_cycle_of_factor) (D__law_powers : Callee P w K mg base 1 "_law_powers" ["_law_step", "_law_by"] F_l_powers) (kb_cycle_of_factor_modulus_factor : KBindsE K D_cycle_of_factor.fd ["factor", "modulus"] ["modulus", "factor"] pk_cycle_of_factor_modulus_factor pk_cycle_of_factor_modulus_factor) : FnG P w K mg base (L2.CX P w) 5 f fd ["_law_step", "_law_by"] (spM 2 mg F_l_factor_right) := by
  refine def_ok (N := ["_law_step", "_law_by", "_law_due"]) (ps := ["_law_step", "_law_by"]) (body := B_l_factor_right) Fn sc_l_factor_right fun cdv A out s H E hc hr => ?_
  have hu200 := u200 hr
  have hu64 := hr.units
  have hu65 := u65 hr
  have hu1 := u1 hr
  have hx := passX (P := P) (w := w) (K := K) (mg := mg) (base := base) (N := ["_law_step", "_law_by", "_law_due"]) (qual := "_law_factor_right") (sc := defScope s_l_factor_right) (f := f) (cdv := cdv) (A := A) (out := out) (s := s) (H := H) (E := E)
  have hp := passO (P := P) (w := w) (K := K) (mg := mg) (base := base) (N := ["_law_step", "_law_by", "_law_due"]) (qual := "_law_factor_right") (sc := defScope s_l_factor_right) (f := f) (cdv := cdv) (A := A) (out := out) (s := s) (H := H) (E := E)
  exact (s_cons (s_set (i := 2) sc_l_factor_right.nd rfl (.inl rfl) (m_dat (m_appl d_repr (pe_callB (k_repr (K := K) rfl hc hu200) (by rfl) T.b_repr (by decide +kernel) (m_cons (m_fz (m_call D__law_powers.ok hc (hr.mono (by decide)) (by rfl) D__law_powers.mg D__law_powers.kp D__law_powers.bd hx (m_cons (m_var 0 (pv 0)) (m_cons (m_var 1 (pv 1)) m_nil)))) m_nil)) rfl)))
    (s_one (s_ret (m_dat (m_and (m_cmp op_eq d_eqS (m_appl d_repr (pe_callB (k_repr (K := K) rfl hc hu200) (by rfl) T.b_repr (by decide +kernel) (m_cons (m_fz (m_call D_cycle_of_factor.ok hc (hr.mono (by decide)) (by rfl) D_cycle_of_factor.mg D_cycle_of_factor.kp D_cycle_of_factor.bd hx (m_cons (m_var 0 (pv 0)) (m_cons (m_var 1 (pv 1)) m_nil)))) m_nil)) rfl) (m_var 2 (pv 2)) (nomark _)) (m_one (m_cmp op_eq d_eqS (m_appl d_repr (pe_callB (k_repr (K := K) rfl hc hu200) (by rfl) T.b_repr (by decide +kernel) (m_cons (m_fz (m_callK pk_cycle_of_factor_modulus_factor D_cycle_of_factor.ok hc (hr.mono (by decide)) (by rfl) D_cycle_of_factor.mg D_cycle_of_factor.kp kb_cycle_of_factor_modulus_factor hx at_pk_cycle_of_factor_modulus_factor (m_kcons (m_var 1 (pv 1)) (m_kcons (m_var 0 (pv 0)) m_knil)))) m_nil)) rfl) (m_var 2 (pv 2)) (nomark _))))))))
theorem ok_l_table {f : Addr} {fd : FuncData} (Fn : Fun K "_law_table" "_law_table" s_l_table f fd) (T : Bt mg) (D__law_next : Callee P w K mg base 1 "_law_next" ["_law_draws_here"] F_l_next) : FnG P w K mg base (L2.CX P w) 2 f fd ["_law_draws_here"] (spM 1 mg F_l_table) := by
  refine def_ok (N := ["_law_draws_here", "_law_every", "_law_kind", "_law_told", "_law_at", "_law_letter", "_law_pick", "_law_some"]) (ps := ["_law_draws_here"]) (body := B_l_table) Fn sc_l_table fun cdv A out s H E hc hr => ?_
  have hu200 := u200 hr
  have hu64 := hr.units
  have hu65 := u65 hr
  have hu1 := u1 hr
  have hx := passX (P := P) (w := w) (K := K) (mg := mg) (base := base) (N := ["_law_draws_here", "_law_every", "_law_kind", "_law_told", "_law_at", "_law_letter", "_law_pick", "_law_some"]) (qual := "_law_table") (sc := defScope s_l_table) (f := f) (cdv := cdv) (A := A) (out := out) (s := s) (H := H) (E := E)
  have hp := passO (P := P) (w := w) (K := K) (mg := mg) (base := base) (N := ["_law_draws_here", "_law_every", "_law_kind", "_law_told", "_law_at", "_law_letter", "_law_pick", "_law_some"]) (qual := "_law_table") (sc := defScope s_l_table) (f := f) (cdv := cdv) (A := A) (out := out) (s := s) (H := H) (E := E)
  exact (s_cons (s_set (i := 1) sc_l_table.nd rfl (.inl rfl) (m_dat (m_slS m_str m_none (m_some (m_op op_add d_add m_int (m_op op_mod d_mod (m_appl d_int (pe_callTy call_int1 (by rfl) T.b_int (by decide +kernel) (m_cons (m_fz (m_callB (k := 0) (i := 0) D__law_next.ok hc (hr.mono (by decide)) (by rfl) D__law_next.mg D__law_next.kp D__law_next.bd hx (a_bor (pv 0) a_nil))) m_nil)) rfl) m_int))))))
    (s_cons (s_set (i := 2) sc_l_table.nd rfl (.inl rfl) (m_dat (m_op op_mod d_mod (m_appl d_int (pe_callTy call_int1 (by rfl) T.b_int (by decide +kernel) (m_cons (m_fz (m_callB (k := 0) (i := 0) D__law_next.ok hc (hr.mono (by decide)) (by rfl) D__law_next.mg D__law_next.kp D__law_next.bd hx (a_bor (pv 0) a_nil))) m_nil)) rfl) m_int)))
    (s_cons (s_set (i := 3) sc_l_table.nd rfl (.inl rfl) m_dnew)
    (s_cons (s_for (vs := [4, 5]) hp rfl (g_tup (K := K) (g_cons (g_name (by decide)) (g_cons (g_name (by decide)) g_nil))) (i_enumT (by rfl) T.b_enumerate (m_cons (m_var 1 (pv 1)) m_nil)) (pg_tup rfl (pgs_cons (pg_name (i := 4) sc_l_table.nd rfl (.inl rfl)) (pgs_cons (pg_name (i := 5) sc_l_table.nd rfl (.inl rfl)) pgs_nil))) (s_cons (s_set (i := 6) sc_l_table.nd rfl (.inl rfl) (m_dat (m_appl d_int (pe_callTy call_int1 (by rfl) T.b_int (by decide +kernel) (m_cons (m_fz (m_callB (k := 0) (i := 0) D__law_next.ok hc (hr.mono (by decide)) (by rfl) D__law_next.mg D__law_next.kp D__law_next.bd hx (a_bor (pv 0) a_nil))) m_nil)) rfl)))
    (s_cons (s_set (i := 7) sc_l_table.nd rfl (.inl rfl) (m_lst (m_cons (m_ixS (m_var 1 (pv 1)) (m_op op_mod d_mod (m_var 6 (pv 6)) (m_appl d_lenS (pe_callB call_len_str (by rfl) T.b_len PySem.boot_len (m_cons (m_var 1 (pv 1)) m_nil)) rfl)) (fun _ _ => rfl)) (m_cons (m_ixS (m_var 1 (pv 1)) (m_op op_mod d_mod (m_op op_add d_add (m_var 4 (pv 4)) m_int) (m_appl d_lenS (pe_callB call_len_str (by rfl) T.b_len PySem.boot_len (m_cons (m_var 1 (pv 1)) m_nil)) rfl)) (fun _ _ => rfl)) (m_cons (m_var 5 (pv 5)) m_nil)))))
    (s_one (s_dput (i := 3) hu1 (pv 3) (m_var 5 (pv 5)) (m_ix (K := K) rfl (m_var 7 (pv 7)) (m_if (m_tcmp op_gt d_gt (m_op op_mod d_mod (m_var 6 (pv 6)) m_int) m_int (nomark _)) (m_var 2 (pv 2)) m_int) (fun _ _ => rfl)))))))
    (s_one (s_ret (m_dat (m_var 3 (pv 3)))))))))
theorem ok_l_turned {f : Addr} {fd : FuncData} (Fn : Fun K "_law_turned" "_law_turned" s_l_turned f fd) (T : Bt mg) : FnG P w K mg base (L2.CX P w) 1 f fd ["_law_table_here"] (spM 1 mg F_l_turned) := by
  refine def_ok (N := ["_law_table_here", "_law_rows", "_law_after", "_law_letter"]) (ps := ["_law_table_here"]) (body := B_l_turned) Fn sc_l_turned fun cdv A out s H E hc hr => ?_
  have hu200 := u200 hr
  have hu64 := hr.units
  have hu65 := u65 hr
  have hu1 := u1 hr
  have hx := passX (P := P) (w := w) (K := K) (mg := mg) (base := base) (N := ["_law_table_here", "_law_rows", "_law_after", "_law_letter"]) (qual := "_law_turned") (sc := defScope s_l_turned) (f := f) (cdv := cdv) (A := A) (out := out) (s := s) (H := H) (E := E)
  have hp := passO (P := P) (w := w) (K := K) (mg := mg) (base := base) (N := ["_law_table_here", "_law_rows", "_law_after", "_law_letter"]) (qual := "_law_turned") (sc := defScope s_l_turned) (f := f) (cdv := cdv) (A := A) (out := out) (s := s) (H := H) (E := E)
  exact (s_cons (s_set (i := 1) sc_l_turned.nd rfl (.inl rfl) (m_lst (m_cons (m_appl d_tupleOf (pe_callTy (k_tuple_of (K := K) rfl) (by rfl) T.b_tuple (by decide +kernel) (m_cons (m_fz (m_applL d_sortK (pe_callB (call_sortedD rfl) (by rfl) T.b_sorted (by decide +kernel) (m_cons (m_var 0 (pv 0)) m_nil)) rfl)) m_nil)) rfl) m_nil)))
    (s_one (s_while 100000000 hp (m_tval m_bl) (s_cons (s_set (i := 2) sc_l_turned.nd rfl (.inl rfl) (m_dat (m_appl d_tupleOf (pe_callTy (k_tuple_of (K := K) rfl) (by rfl) T.b_tuple (by decide +kernel) (m_cons (m_fz (m_lc (own := [("_law_letter", 3)]) (g_name (by decide)) (by rfl) sc_l_turned.nd (i_tup (m_ixP 1 (K := K) rfl (pv 1) (m_un un_neg d_neg m_int) (fun _ _ => rfl))) (blkOk_by (own := [("_law_letter", 3)]) (N := N_l_turned) (sc := defScope s_l_turned) (by decide +kernel)) (fun _ _ _ _ _ => (pg_name (i := 3) sc_l_turned.nd rfl (.inl rfl))) (fun _ _ _ _ _ => m_tsNil) (fun _ _ _ _ _ => (m_dget hu1 (m_var 0 (pv 0)) (m_var 3 (pv 3)) (fun _ _ => rfl))))) m_nil)) rfl)))
    (s_cons (s_if (m_tcmpQ (k_inD (K := K) rfl hu65) d_inD (m_var 2 (pv 2)) (pv 1) rfl) (s_one (s_ret (m_dat (m_tup (m_cons (m_indexD (K := K) rfl (pe_bm PySem.F.plainAttrs_list PySem.F.slot_list_index PySem.F.type_list_index (k_indexD (K := K) rfl hu65) (m_var 1 (pv 1)) (m_cons (m_var 2 (pv 2)) m_nil))) (m_cons (m_op op_sub d_sub (m_appl d_len (pe_callB (k_len (K := K) rfl) (by rfl) T.b_len PySem.boot_len (m_cons (m_var 1 (pv 1)) m_nil)) rfl) (m_indexD (K := K) rfl (pe_bm PySem.F.plainAttrs_list PySem.F.slot_list_index PySem.F.type_list_index (k_indexD (K := K) rfl hu65) (m_var 1 (pv 1)) (m_cons (m_var 2 (pv 2)) m_nil)))) m_nil)))))) s_nil)
    (s_one (s_app (i := 1) (pe_bm PySem.F.plainAttrs_list PySem.F.slot_list_append PySem.F.type_list_append mt_append (pv 1) (pa_cons (m_var 2 (pv 2)) pa_nil)))))))))
theorem ok_l_letters_right {f : Addr} {fd : FuncData} (Fn : Fun K "_law_letters_right" "_law_letters_right" s_l_letters_right f fd) (T : Bt mg) (D_cycle_of_letters : Callee P w K mg base 3 "cycle_of_letters" ["letters"] F_cycle_of_letters) (D__law_turned : Callee P w K mg base 1 "_law_turned" ["_law_table_here"] F_l_turned) (kb_cycle_of_letters_letters : KBindsE K D_cycle_of_letters.fd ["letters"] ["letters"] pk_cycle_of_letters_letters pk_cycle_of_letters_letters) : FnG P w K mg base (L2.CX P w) 4 f fd ["_law_table_here"] (spM 1 mg F_l_letters_right) := by
  refine def_ok (N := ["_law_table_here", "_law_kept", "_law_due", "_law_other"]) (ps := ["_law_table_here"]) (body := B_l_letters_right) Fn sc_l_letters_right fun cdv A out s H E hc hr => ?_
  have hu200 := u200 hr
  have hu64 := hr.units
  have hu65 := u65 hr
  have hu1 := u1 hr
  have hx := passX (P := P) (w := w) (K := K) (mg := mg) (base := base) (N := ["_law_table_here", "_law_kept", "_law_due", "_law_other"]) (qual := "_law_letters_right") (sc := defScope s_l_letters_right) (f := f) (cdv := cdv) (A := A) (out := out) (s := s) (H := H) (E := E)
  have hp := passO (P := P) (w := w) (K := K) (mg := mg) (base := base) (N := ["_law_table_here", "_law_kept", "_law_due", "_law_other"]) (qual := "_law_letters_right") (sc := defScope s_l_letters_right) (f := f) (cdv := cdv) (A := A) (out := out) (s := s) (H := H) (E := E)
  exact (s_cons (s_set (i := 1) sc_l_letters_right.nd rfl (.inl rfl) (m_dat (m_appl d_reprD (pe_callB (k_reprD hc hu200) (by rfl) T.b_repr (by decide +kernel) (m_cons (m_var 0 (pv 0)) m_nil)) rfl)))
    (s_cons (s_set (i := 2) sc_l_letters_right.nd rfl (.inl rfl) (m_dat (m_appl d_repr (pe_callB (k_repr (K := K) rfl hc hu200) (by rfl) T.b_repr (by decide +kernel) (m_cons (m_fz (m_call D__law_turned.ok hc (hr.mono (by decide)) (by rfl) D__law_turned.mg D__law_turned.kp D__law_turned.bd hx (m_cons (m_var 0 (pv 0)) m_nil))) m_nil)) rfl)))
    (s_cons (s_set (i := 3) sc_l_letters_right.nd rfl (.inl rfl) (m_dictP (K := K) (pe_callTy (k_dictP (K := K) rfl rfl) (by rfl) T.b_dict (by decide +kernel) (m_cons (m_fz (m_revL (m_fz (m_items (pe_itemsF rfl (m_var 0 (pv 0)) (by rfl) T.b_list (by decide +kernel)))))) m_nil))))
    (s_cons (s_if (PW.pt (m_tor (m_tcmp op_ne d_neS (m_appl d_repr (pe_callB (k_repr (K := K) rfl hc hu200) (by rfl) T.b_repr (by decide +kernel) (m_cons (m_fz (m_call D_cycle_of_letters.ok hc (hr.mono (by decide)) (by rfl) D_cycle_of_letters.mg D_cycle_of_letters.kp D_cycle_of_letters.bd hx (m_cons (m_var 0 (pv 0)) m_nil))) m_nil)) rfl) (m_var 2 (pv 2)) (nomark _)) (m_tor1 (m_tcmp op_ne d_neS (m_appl d_repr (pe_callB (k_repr (K := K) rfl hc hu200) (by rfl) T.b_repr (by decide +kernel) (m_cons (m_fz (m_callK pk_cycle_of_letters_letters D_cycle_of_letters.ok hc (hr.mono (by decide)) (by rfl) D_cycle_of_letters.mg D_cycle_of_letters.kp kb_cycle_of_letters_letters hx at_pk_cycle_of_letters_letters (m_kcons (m_var 3 (pv 3)) m_knil))) m_nil)) rfl) (m_var 2 (pv 2)) (nomark _))))) (s_one (s_ret (m_dat m_bl))) s_nil)
    (s_one (s_ret (m_dat (m_and (m_cmp op_eq d_eqS (m_appl d_reprD (pe_callB (k_reprD hc hu200) (by rfl) T.b_repr (by decide +kernel) (m_cons (m_var 0 (pv 0)) m_nil)) rfl) (m_var 1 (pv 1)) (nomark _)) (m_one (m_cmp op_eq d_eqS (m_appl d_reprD (pe_callB (k_reprD hc hu200) (by rfl) T.b_repr (by decide +kernel) (m_cons (m_fz (m_dictP (K := K) (pe_callTy (k_dictP (K := K) rfl rfl) (by rfl) T.b_dict (by decide +kernel) (m_cons (m_fz (m_revL (m_fz (m_items (pe_itemsF rfl (m_var 3 (pv 3)) (by rfl) T.b_list (by decide +kernel)))))) m_nil)))) m_nil)) rfl) (m_var 1 (pv 1)) (nomark _)))))))))))
theorem ok_law {f : Addr} {fd : FuncData} (Fn : Fun K "law" "law" s_law f fd) (T : Bt mg) (D_cycle_of_letters : Callee P w K mg base 3 "cycle_of_letters" ["letters"] F_cycle_of_letters) (D__law_draws : Callee P w K mg base 1 "_law_draws" ["_law_cell"] F_l_draws) (D__law_next : Callee P w K mg base 1 "_law_next" ["_law_draws_here"] F_l_next) (D__law_factor_right : Callee P w K mg base 5 "_law_factor_right" ["_law_step", "_law_by"] F_l_factor_right) (D__law_table : Callee P w K mg base 2 "_law_table" ["_law_draws_here"] F_l_table) (D__law_letters_right : Callee P w K mg base 4 "_law_letters_right" ["_law_table_here"] F_l_letters_right) : FnG P w K mg base (L2.CX P w) 6 f fd ["_law_script"] (spM 1 mg (F_law K)) := by
  refine def_ok (N := ["_law_script", "_law_draws_here", "_law_far", "_law_step", "_law_by", "_law_some", "_law_table_here", "_law_cell"]) (ps := ["_law_script"]) (body := (B_law K)) Fn sc_law fun cdv A out s H E hc hr => ?_
  have hu200 := u200 hr
  have hu64 := hr.units
  have hu65 := u65 hr
  have hu1 := u1 hr
  have hx := passX (P := P) (w := w) (K := K) (mg := mg) (base := base) (N := ["_law_script", "_law_draws_here", "_law_far", "_law_step", "_law_by", "_law_some", "_law_table_here", "_law_cell"]) (qual := "law") (sc := defScope s_law) (f := f) (cdv := cdv) (A := A) (out := out) (s := s) (H := H) (E := E)
  have hp := passO (P := P) (w := w) (K := K) (mg := mg) (base := base) (N := ["_law_script", "_law_draws_here", "_law_far", "_law_step", "_law_by", "_law_some", "_law_table_here", "_law_cell"]) (qual := "law") (sc := defScope s_law) (f := f) (cdv := cdv) (A := A) (out := out) (s := s) (H := H) (E := E)
  exact (s_cons (s_forOwn (own := [("_law_cell", 7)]) (i := 1) (g_name (by decide)) hp rfl sc_law.nd rfl (.inl rfl) (i_list (m_fz (m_opL op_cat d_cat (m_fz (m_scr (i := 0) (pv 0) m_none (m_some m_int))) (m_fz (m_lst (m_cons m_int m_nil)))))) (blkOk_by (own := [("_law_cell", 7)]) (N := N_law) (sc := defScope s_law) (by decide +kernel)) (fun _ _ _ _ _ => (pg_name (i := 7) sc_law.nd rfl (.inl rfl))) (fun _ _ _ _ _ => (m_call D__law_draws.ok hc (hr.mono (by decide)) (by rfl) D__law_draws.mg D__law_draws.kp D__law_draws.bd passL (m_cons (m_var 7 (pv 7)) m_nil))) (s_cons (s_set (i := 2) sc_law.nd rfl (.inl rfl) (m_dat (m_ix (K := K) rfl (m_fz (m_lst (m_cons m_int (m_cons m_int (m_cons (m_op op_powW d_pow m_int m_int) m_nil))))) (m_op op_mod d_mod (m_appl d_int (pe_callTy call_int1 (by rfl) T.b_int (by decide +kernel) (m_cons (m_fz (m_callB (k := 0) (i := 1) D__law_next.ok hc (hr.mono (by decide)) (by rfl) D__law_next.mg D__law_next.kp D__law_next.bd hx (a_bor (pv 1) a_nil))) m_nil)) rfl) m_int) (fun _ _ => rfl))))
    (s_cons (s_set (i := 3) sc_law.nd rfl (.inl rfl) (m_dat (m_op op_mul d_mul (m_op op_sub d_sub (m_op op_mod d_mod (m_appl d_int (pe_callTy call_int1 (by rfl) T.b_int (by decide +kernel) (m_cons (m_fz (m_callB (k := 0) (i := 1) D__law_next.ok hc (hr.mono (by decide)) (by rfl) D__law_next.mg D__law_next.kp D__law_next.bd hx (a_bor (pv 1) a_nil))) m_nil)) rfl) (m_op op_powW d_pow m_int m_int)) m_int) (m_var 2 (pv 2)))))
    (s_cons (s_set (i := 4) sc_law.nd rfl (.inl rfl) (m_dat (m_op op_add d_add m_int (m_op op_mod d_mod (m_appl d_int (pe_callTy call_int1 (by rfl) T.b_int (by decide +kernel) (m_cons (m_fz (m_callB (k := 0) (i := 1) D__law_next.ok hc (hr.mono (by decide)) (by rfl) D__law_next.mg D__law_next.kp D__law_next.bd hx (a_bor (pv 1) a_nil))) m_nil)) rfl) (m_ix (K := K) rfl (m_fz (m_lst (m_cons m_int (m_cons m_int m_nil)))) (m_op op_mod d_mod (m_appl d_int (pe_callTy call_int1 (by rfl) T.b_int (by decide +kernel) (m_cons (m_fz (m_callB (k := 0) (i := 1) D__law_next.ok hc (hr.mono (by decide)) (by rfl) D__law_next.mg D__law_next.kp D__law_next.bd hx (a_bor (pv 1) a_nil))) m_nil)) rfl) m_int) (fun _ _ => rfl))))))
    (s_one (s_if (PW.pt (m_tor (m_tnot (m_tval (m_fz (m_call D__law_factor_right.ok hc (hr.mono (by decide)) (by rfl) D__law_factor_right.mg D__law_factor_right.kp D__law_factor_right.bd hx (m_cons (m_var 3 (pv 3)) (m_cons (m_var 4 (pv 4)) m_nil)))))) (m_tor1 (m_tnot (m_tval (m_fz (m_call D__law_letters_right.ok hc (hr.mono (by decide)) (by rfl) D__law_letters_right.mg D__law_letters_right.kp D__law_letters_right.bd hx (m_cons (m_fz (m_callB (k := 0) (i := 1) D__law_table.ok hc (hr.mono (by decide)) (by rfl) D__law_table.mg D__law_table.kp D__law_table.bd hx (a_bor (pv 1) a_nil))) m_nil)))))))) (s_one (s_ret (m_dat m_bl))) s_nil))))))
    (s_cons (s_set (i := 5) sc_law.nd rfl (.inl rfl) (m_lst (m_cons (m_tup (m_cons m_int (m_cons m_int m_nil))) (m_cons (m_tup (m_cons m_int (m_cons m_int m_nil))) (m_cons (m_tup (m_cons m_int (m_cons m_int m_nil))) (m_cons (m_tup (m_cons (m_un un_neg d_neg m_int) (m_cons m_int m_nil))) (m_cons (m_tup (m_cons (m_un un_neg d_neg m_int) (m_cons m_int m_nil))) (m_cons (m_tup (m_cons m_int (m_cons m_int m_nil))) (m_cons (m_tup (m_cons m_int (m_cons m_int m_nil))) (m_cons (m_tup (m_cons m_int (m_cons m_int m_nil))) (m_cons (m_tup (m_cons (m_un un_neg d_neg m_int) (m_cons m_int m_nil))) (m_cons (m_tup (m_cons m_int (m_cons m_int m_nil))) m_nil))))))))))))
    (s_cons (s_for (vs := [3, 4]) hp rfl (g_tup (K := K) (g_cons (g_name (by decide)) (g_cons (g_name (by decide)) g_nil))) (i_list (m_fz (m_opL op_cat d_cat (m_var 5 (pv 5)) (m_fz (m_lst (m_cons (m_tup (m_cons m_int (m_cons m_int m_nil))) (m_cons (m_tup (m_cons m_int (m_cons m_int m_nil))) (m_cons (m_tup (m_cons m_int (m_cons m_int m_nil))) (m_cons (m_tup (m_cons m_int (m_cons m_int m_nil))) m_nil))))))))) (pg_tup rfl (pgs_cons (pg_name (i := 3) sc_law.nd rfl (.inl rfl)) (pgs_cons (pg_name (i := 4) sc_law.nd rfl (.inl rfl)) pgs_nil))) (s_one (s_if (m_tnot (m_tval (m_fz (m_call D__law_factor_right.ok hc (hr.mono (by decide)) (by rfl) D__law_factor_right.mg D__law_factor_right.kp D__law_factor_right.bd hx (m_cons (m_var 3 (pv 3)) (m_cons (m_var 4 (pv 4)) m_nil)))))) (s_one (s_ret (m_dat m_bl))) s_nil)))
    (s_cons (s_set (i := 5) sc_law.nd rfl (.inl rfl) (m_lst (m_cons (m_fz (m_disp (ps := [((mC (.str "a")), (mC (.str "b"))), ((mC (.str "b")), (mC (.str "a"))), ((mC (.str "c")), (mC (.str "d"))), ((mC (.str "d")), (mC (.str "e"))), ((mC (.str "e")), (mC (.str "c")))]) (pps_cons m_str m_str (pps_cons m_str m_str (pps_cons m_str m_str (pps_cons m_str m_str (pps_cons m_str m_str pps_nil))))))) (m_cons (m_fz (m_disp (ps := [((mC (.str "\n")), (mC (.str "]"))), ((mC (.str "]")), (mC (.str "^"))), ((mC (.str "^")), (mC (.str "-"))), ((mC (.str "-")), (mC (.str "\n")))]) (pps_cons m_str m_str (pps_cons m_str m_str (pps_cons m_str m_str (pps_cons m_str m_str pps_nil)))))) m_nil))))
    (s_cons (s_for (vs := [6]) hp rfl (g_name (by decide)) (i_list (m_fz (m_opL op_cat d_cat (m_var 5 (pv 5)) (m_fz (m_lst (m_cons (m_fz (m_disp (ps := [((mC (.str "0")), (mC (.str "1"))), ((mC (.str "1")), (mC (.str "0")))]) (pps_cons m_str m_str (pps_cons m_str m_str pps_nil)))) (m_cons (m_fz (m_disp (ps := [((mC (.str " ")), (mC (.str "."))), ((mC (.str ".")), (mC (.str " ")))]) (pps_cons m_str m_str (pps_cons m_str m_str pps_nil)))) (m_cons (m_fz (m_disp (ps := [((mC (.str "(")), (mC (.str "(")))]) (pps_cons m_str m_str pps_nil))) (m_cons (m_fz (m_disp (ps := [((mC (.str "_")), (mC (.str "Z"))), ((mC (.str "Z")), (mC (.str "Z")))]) (pps_cons m_str m_str (pps_cons m_str m_str pps_nil)))) m_nil))))))))) (pg_name (i := 6) sc_law.nd rfl (.inl rfl)) (s_one (s_if (m_tnot (m_tval (m_fz (m_call D__law_letters_right.ok hc (hr.mono (by decide)) (by rfl) D__law_letters_right.mg D__law_letters_right.kp D__law_letters_right.bd hx (m_cons (m_var 6 (pv 6)) m_nil))))) (s_one (s_ret (m_dat m_bl))) s_nil)))
    (s_cons (s_if (m_tcmp (k_neD (K := K) rfl hu64) d_ne (m_fz (m_call D_cycle_of_letters.ok hc (hr.mono (by decide)) (by rfl) D_cycle_of_letters.mg D_cycle_of_letters.kp D_cycle_of_letters.bd hx (m_cons (m_fz (m_disp (ps := [((mC (.str "a")), (mC (.str "b"))), ((mC (.str "b")), (mC (.str "c"))), ((mC (.str "c")), (mC (.str "b"))), ((mC (.str "d")), (mC (.str "d")))]) (pps_cons m_str m_str (pps_cons m_str m_str (pps_cons m_str m_str (pps_cons m_str m_str pps_nil)))))) m_nil))) (m_tup (m_cons m_int (m_cons m_int m_nil))) (nomark _)) (s_one (s_ret (m_dat m_bl))) s_nil)
    (s_one (s_ret (m_dat (m_and (m_cmp (k_eqD (K := K) rfl hu64) d_eq (m_fz (m_call D_cycle_of_letters.ok hc (hr.mono (by decide)) (by rfl) D_cycle_of_letters.mg D_cycle_of_letters.kp D_cycle_of_letters.bd hx (m_cons (m_fz (m_disp (ps := [((mC (.str "a")), (mC (.str "A"))), ((mC (.str "A")), (mC (.str "A")))]) (pps_cons m_str m_str (pps_cons m_str m_str pps_nil)))) m_nil))) (m_tup (m_cons m_int (m_cons m_int m_nil))) (nomark _)) (m_one (m_cmp (k_eqD (K := K) rfl hu64) d_eq (m_fz (m_call D_cycle_of_letters.ok hc (hr.mono (by decide)) (by rfl) D_cycle_of_letters.mg D_cycle_of_letters.kp D_cycle_of_letters.bd hx (m_cons (m_fz (m_disp (ps := [((mC (.str "a")), (mC (.str "A"))), ((mC (.str "A")), (mC (.str "a")))]) (pps_cons m_str m_str (pps_cons m_str m_str pps_nil)))) m_nil))) (m_tup (m_cons m_int (m_cons m_int m_nil))) (nomark _)))))))))))))
end
theorem kb_mk_cycle_of_factor_modulus_factor {K : PySem.W.Frag} {f : Addr} {fd : FuncData} (F : Fun K "cycle_of_factor" "cycle_of_factor" s_cycle_of_factor f fd) : KBindsE K fd ["factor", "modulus"] ["modulus", "factor"] pk_cycle_of_factor_modulus_factor pk_cycle_of_factor_modulus_factor := by
  obtain ⟨oc, od, kV, doc, pm, an, cdv, ct, osl, rfl, lk, hcd⟩ := F.ex
  refine ⟨fun s ws _ hl => ?_, fun {zs ws} r => ?_⟩
  · match ws, hl with
    | [u0, u1], _ => exact .of_eq rfl
  ·
    cases r with
    | nil => exact .nil
    | cons q0 r =>
      cases r with
      | nil => exact .nil
      | cons q1 r =>
        cases r with
        | nil => exact (.cons q1 (.cons q0 .nil))
        | cons _ _ => exact .nil
theorem kb_mk_cycle_of_letters_letters {K : PySem.W.Frag} {f : Addr} {fd : FuncData} (F : Fun K "cycle_of_letters" "cycle_of_letters" s_cycle_of_letters f fd) : KBindsE K fd ["letters"] ["letters"] pk_cycle_of_letters_letters pk_cycle_of_letters_letters := by
  obtain ⟨oc, od, kV, doc, pm, an, cdv, ct, osl, rfl, lk, hcd⟩ := F.ex
  refine ⟨fun s ws _ hl => ?_, fun {zs ws} r => ?_⟩
  · match ws, hl with
    | [u0], _ => exact .of_eq rfl
  ·
    cases r with
    | nil => exact .nil
    | cons q0 r =>
      cases r with
      | nil => exact (.cons q0 .nil)
      | cons _ _ => exact .nil
/-! ### what the top has left -/
theorem all_mk [LT] {l : PySem.W.OpenLaw} {w : World} {K : PySem.W.Frag} {h : Heap} {mg : Str → Option Value} {fa f1 f2 f3 f4 f5 f6 f7 f8 f9 f10 f11 f12 f13 f14 f15 f16 f17 : Addr} (X : K.In h) (G : h.Ns mainGlobals mg) (hfa : mg "law" = some (.ref fa))
    {od1 an1 od2 an2 od3 an3 od4 an4 od5 an5 od6 an6 od7 an7 od8 an8 od9 an9 od10 an10 od11 an11 od12 an12 od13 an13 od14 an14 od15 an15 od16 an16 od17 an17 : Option Addr} {sl1 sl2 sl3 sl4 sl5 sl6 sl7 sl8 sl9 sl10 sl11 sl12 sl13 sl14 sl15 sl16 sl17 : Array (Option Value)} {oc1 kV1 dc1 pm1 cd1 ct1 oc2 kV2 dc2 pm2 cd2 ct2 oc3 kV3 dc3 pm3 cd3 ct3 oc4 kV4 dc4 pm4 cd4 ct4 oc5 kV5 dc5 pm5 cd5 ct5 oc6 kV6 dc6 pm6 cd6 ct6 oc7 kV7 dc7 pm7 cd7 ct7 oc8 kV8 dc8 pm8 cd8 ct8 oc9 kV9 dc9 pm9 cd9 ct9 oc10 kV10 dc10 pm10 cd10 ct10 oc11 kV11 dc11 pm11 cd11 ct11 oc12 kV12 dc12 pm12 cd12 ct12 oc13 kV13 dc13 pm13 cd13 ct13 oc14 kV14 dc14 pm14 cd14 ct14 oc15 kV15 dc15 pm15 cd15 ct15 oc16 kV16 dc16 pm16 cd16 ct16 oc17 kV17 dc17 pm17 cd17 ct17 : Value} {tk_MOST_LETTERS tk_MOST_MODULUS : Tok}
    (a1 : PySem.W.nsIn K mainGlobals "is_whole" = some (some (.ref f1))) (l1 : K.lookup f1 = some ⟨oc1, od1, .func (PySem.W.fnOf "is_whole" "is_whole" (defArgs s_is_whole) (defBody s_is_whole) (defScope s_is_whole) .none kV1 dc1 pm1 an1 cd1 ct1), sl1⟩) (c1 : PySem.W.codeIn K cd1 "is_whole" = true) (k1 : PySem.W.keepIn K (.ref f1) = true)
    (a2 : PySem.W.nsIn K mainGlobals "is_whole_within" = some (some (.ref f2))) (l2 : K.lookup f2 = some ⟨oc2, od2, .func (PySem.W.fnOf "is_whole_within" "is_whole_within" (defArgs s_is_whole_within) (defBody s_is_whole_within) (defScope s_is_whole_within) .none kV2 dc2 pm2 an2 cd2 ct2), sl2⟩) (c2 : PySem.W.codeIn K cd2 "is_whole_within" = true) (k2 : PySem.W.keepIn K (.ref f2) = true)
    (a3 : PySem.W.nsIn K mainGlobals "_check_factor" = some (some (.ref f3))) (l3 : K.lookup f3 = some ⟨oc3, od3, .func (PySem.W.fnOf "_check_factor" "_check_factor" (defArgs s_check_factor) (defBody s_check_factor) (defScope s_check_factor) .none kV3 dc3 pm3 an3 cd3 ct3), sl3⟩) (c3 : PySem.W.codeIn K cd3 "_check_factor" = true) (k3 : PySem.W.keepIn K (.ref f3) = true)
    (a4 : PySem.W.nsIn K mainGlobals "_check_modulus" = some (some (.ref f4))) (l4 : K.lookup f4 = some ⟨oc4, od4, .func (PySem.W.fnOf "_check_modulus" "_check_modulus" (defArgs s_check_modulus) (defBody s_check_modulus) (defScope s_check_modulus) .none kV4 dc4 pm4 an4 cd4 ct4), sl4⟩) (c4 : PySem.W.codeIn K cd4 "_check_modulus" = true) (k4 : PySem.W.keepIn K (.ref f4) = true)
    (a5 : PySem.W.nsIn K mainGlobals "_cycle" = some (some (.ref f5))) (l5 : K.lookup f5 = some ⟨oc5, od5, .func (PySem.W.fnOf "_cycle" "_cycle" (defArgs s_cycle) (defBody s_cycle) (defScope s_cycle) .none kV5 dc5 pm5 an5 cd5 ct5), sl5⟩) (c5 : PySem.W.codeIn K cd5 "_cycle" = true) (k5 : PySem.W.keepIn K (.ref f5) = true)
    (a6 : PySem.W.nsIn K mainGlobals "cycle_of_factor" = some (some (.ref f6))) (l6 : K.lookup f6 = some ⟨oc6, od6, .func (PySem.W.fnOf "cycle_of_factor" "cycle_of_factor" (defArgs s_cycle_of_factor) (defBody s_cycle_of_factor) (defScope s_cycle_of_factor) .none kV6 dc6 pm6 an6 cd6 ct6), sl6⟩) (c6 : PySem.W.codeIn K cd6 "cycle_of_factor" = true) (k6 : PySem.W.keepIn K (.ref f6) = true)
    (a7 : PySem.W.nsIn K mainGlobals "_is_letter" = some (some (.ref f7))) (l7 : K.lookup f7 = some ⟨oc7, od7, .func (PySem.W.fnOf "_is_letter" "_is_letter" (defArgs s_is_letter) (defBody s_is_letter) (defScope s_is_letter) .none kV7 dc7 pm7 an7 cd7 ct7), sl7⟩) (c7 : PySem.W.codeIn K cd7 "_is_letter" = true) (k7 : PySem.W.keepIn K (.ref f7) = true)
    (a8 : PySem.W.nsIn K mainGlobals "_check_letters" = some (some (.ref f8))) (l8 : K.lookup f8 = some ⟨oc8, od8, .func (PySem.W.fnOf "_check_letters" "_check_letters" (defArgs s_check_letters) (defBody s_check_letters) (defScope s_check_letters) .none kV8 dc8 pm8 an8 cd8 ct8), sl8⟩) (c8 : PySem.W.codeIn K cd8 "_check_letters" = true) (k8 : PySem.W.keepIn K (.ref f8) = true)
    (a9 : PySem.W.nsIn K mainGlobals "cycle_of_letters" = some (some (.ref f9))) (l9 : K.lookup f9 = some ⟨oc9, od9, .func (PySem.W.fnOf "cycle_of_letters" "cycle_of_letters" (defArgs s_cycle_of_letters) (defBody s_cycle_of_letters) (defScope s_cycle_of_letters) .none kV9 dc9 pm9 an9 cd9 ct9), sl9⟩) (c9 : PySem.W.codeIn K cd9 "cycle_of_letters" = true) (k9 : PySem.W.keepIn K (.ref f9) = true)
    (a10 : PySem.W.nsIn K mainGlobals "_law_draws" = some (some (.ref f10))) (l10 : K.lookup f10 = some ⟨oc10, od10, .func (PySem.W.fnOf "_law_draws" "_law_draws" (defArgs s_l_draws) (defBody s_l_draws) (defScope s_l_draws) .none kV10 dc10 pm10 an10 cd10 ct10), sl10⟩) (c10 : PySem.W.codeIn K cd10 "_law_draws" = true) (k10 : PySem.W.keepIn K (.ref f10) = true)
    (a11 : PySem.W.nsIn K mainGlobals "_law_next" = some (some (.ref f11))) (l11 : K.lookup f11 = some ⟨oc11, od11, .func (PySem.W.fnOf "_law_next" "_law_next" (defArgs s_l_next) (defBody s_l_next) (defScope s_l_next) .none kV11 dc11 pm11 an11 cd11 ct11), sl11⟩) (c11 : PySem.W.codeIn K cd11 "_law_next" = true) (k11 : PySem.W.keepIn K (.ref f11) = true)
    (a12 : PySem.W.nsIn K mainGlobals "_law_powers" = some (some (.ref f12))) (l12 : K.lookup f12 = some ⟨oc12, od12, .func (PySem.W.fnOf "_law_powers" "_law_powers" (defArgs s_l_powers) (defBody s_l_powers) (defScope s_l_powers) .none kV12 dc12 pm12 an12 cd12 ct12), sl12⟩) (c12 : PySem.W.codeIn K cd12 "_law_powers" = true) (k12 : PySem.W.keepIn K (.ref f12) = true)
    (a13 : PySem.W.nsIn K mainGlobals "_law_factor_right" = some (some (.ref f13))) (l13 : K.lookup f13 = some ⟨oc13, od13, .func (PySem.W.fnOf "_law_factor_right" "_law_factor_right" (defArgs s_l_factor_right) (defBody s_l_factor_right) (defScope s_l_factor_right) .none kV13 dc13 pm13 an13 cd13 ct13), sl13⟩) (c13 : PySem.W.codeIn K cd13 "_law_factor_right" = true) (k13 : PySem.W.keepIn K (.ref f13) = true)
    (a14 : PySem.W.nsIn K mainGlobals "_law_table" = some (some (.ref f14))) (l14 : K.lookup f14 = some ⟨oc14, od14, .func (PySem.W.fnOf "_law_table" "_law_table" (defArgs s_l_table) (defBody s_l_table) (defScope s_l_table) .none kV14 dc14 pm14 an14 cd14 ct14), sl14⟩) (c14 : PySem.W.codeIn K cd14 "_law_table" = true) (k14 : PySem.W.keepIn K (.ref f14) = true)
    (a15 : PySem.W.nsIn K mainGlobals "_law_turned" = some (some (.ref f15))) (l15 : K.lookup f15 = some ⟨oc15, od15, .func (PySem.W.fnOf "_law_turned" "_law_turned" (defArgs s_l_turned) (defBody s_l_turned) (defScope s_l_turned) .none kV15 dc15 pm15 an15 cd15 ct15), sl15⟩) (c15 : PySem.W.codeIn K cd15 "_law_turned" = true) (k15 : PySem.W.keepIn K (.ref f15) = true)
    (a16 : PySem.W.nsIn K mainGlobals "_law_letters_right" = some (some (.ref f16))) (l16 : K.lookup f16 = some ⟨oc16, od16, .func (PySem.W.fnOf "_law_letters_right" "_law_letters_right" (defArgs s_l_letters_right) (defBody s_l_letters_right) (defScope s_l_letters_right) .none kV16 dc16 pm16 an16 cd16 ct16), sl16⟩) (c16 : PySem.W.codeIn K cd16 "_law_letters_right" = true) (k16 : PySem.W.keepIn K (.ref f16) = true)
    (a17 : PySem.W.nsIn K mainGlobals "law" = some (some (.ref f17))) (l17 : K.lookup f17 = some ⟨oc17, od17, .func (PySem.W.fnOf "law" "law" (defArgs s_law) (defBody s_law) (defScope s_law) .none kV17 dc17 pm17 an17 cd17 ct17), sl17⟩) (c17 : PySem.W.codeIn K cd17 "law" = true) (k17 : PySem.W.keepIn K (.ref f17) = true)
    (z_all : PySem.W.nsIn K mainGlobals "all" = some none)
    (z_bool : PySem.W.nsIn K mainGlobals "bool" = some none)
    (z_dict : PySem.W.nsIn K mainGlobals "dict" = some none)
    (z_enumerate : PySem.W.nsIn K mainGlobals "enumerate" = some none)
    (z_int : PySem.W.nsIn K mainGlobals "int" = some none)
    (z_isinstance : PySem.W.nsIn K mainGlobals "isinstance" = some none)
    (z_len : PySem.W.nsIn K mainGlobals "len" = some none)
    (z_list : PySem.W.nsIn K mainGlobals "list" = some none)
    (z_max : PySem.W.nsIn K mainGlobals "max" = some none)
    (z_range : PySem.W.nsIn K mainGlobals "range" = some none)
    (z_repr : PySem.W.nsIn K mainGlobals "repr" = some none)
    (z_sorted : PySem.W.nsIn K mainGlobals "sorted" = some none)
    (z_str : PySem.W.nsIn K mainGlobals "str" = some none)
    (z_tuple : PySem.W.nsIn K mainGlobals "tuple" = some none)
    (zg_lcm : PySem.W.nsIn K mainGlobals "lcm" = some (some (.builtin "math.lcm")))
    (z_MOST_LETTERS : PySem.W.nsIn K mainGlobals "MOST_LETTERS" = some (some (.int 26 tk_MOST_LETTERS)))
    (z_MOST_MODULUS : PySem.W.nsIn K mainGlobals "MOST_MODULUS" = some (some (.int 10000 tk_MOST_MODULUS)))
    : ∃ fd : FuncData, (∀ (s : Shared) (v : Value), BindsTo s fd ⟨[v], []⟩ [("_law_script", v)]) ∧ ∀ base : Heap, K.In base → base.Ns mainGlobals mg → FnG l.prog w K mg base (L2.CX l.prog w) 6 fa fd ["_law_script"] (spM 1 mg (F_law K)) := by
  have e := hfa.symm.trans (PySem.W.mg_of X G a17)
  cases e
  have T : Bt mg := ⟨PySem.W.mg_none_of X G z_all, PySem.W.mg_none_of X G z_bool, PySem.W.mg_none_of X G z_dict, PySem.W.mg_none_of X G z_enumerate, PySem.W.mg_none_of X G z_int, PySem.W.mg_none_of X G z_isinstance, PySem.W.mg_none_of X G z_len, PySem.W.mg_none_of X G z_list, PySem.W.mg_none_of X G z_max, PySem.W.mg_none_of X G z_range, PySem.W.mg_none_of X G z_repr, PySem.W.mg_none_of X G z_sorted, PySem.W.mg_none_of X G z_str, PySem.W.mg_none_of X G z_tuple, PySem.W.mg_of X G zg_lcm, ⟨_, PySem.W.mg_of X G z_MOST_LETTERS⟩, ⟨_, PySem.W.mg_of X G z_MOST_MODULUS⟩⟩
  have F1 := fun_mk (st := s_is_whole) l1 c1 k1
  have b1 := F1.binds (ps := ["thing"]) fun _ _ _ _ _ _ us hl => match us, hl with | [_], _ => rfl
  have F2 := fun_mk (st := s_is_whole_within) l2 c2 k2
  have b2 := F2.binds (ps := ["thing", "least", "most"]) fun _ _ _ _ _ _ us hl => match us, hl with | [_, _, _], _ => rfl
  have F3 := fun_mk (st := s_check_factor) l3 c3 k3
  have b3 := F3.binds (ps := ["factor"]) fun _ _ _ _ _ _ us hl => match us, hl with | [_], _ => rfl
  have F4 := fun_mk (st := s_check_modulus) l4 c4 k4
  have b4 := F4.binds (ps := ["modulus"]) fun _ _ _ _ _ _ us hl => match us, hl with | [_], _ => rfl
  have F5 := fun_mk (st := s_cycle) l5 c5 k5
  have b5 := F5.binds (ps := ["start", "following"]) fun _ _ _ _ _ _ us hl => match us, hl with | [_, _], _ => rfl
  have F6 := fun_mk (st := s_cycle_of_factor) l6 c6 k6
  have b6 := F6.binds (ps := ["factor", "modulus"]) fun _ _ _ _ _ _ us hl => match us, hl with | [_, _], _ => rfl
  have F7 := fun_mk (st := s_is_letter) l7 c7 k7
  have b7 := F7.binds (ps := ["thing"]) fun _ _ _ _ _ _ us hl => match us, hl with | [_], _ => rfl
  have F8 := fun_mk (st := s_check_letters) l8 c8 k8
  have b8 := F8.binds (ps := ["letters"]) fun _ _ _ _ _ _ us hl => match us, hl with | [_], _ => rfl
  have F9 := fun_mk (st := s_cycle_of_letters) l9 c9 k9
  have b9 := F9.binds (ps := ["letters"]) fun _ _ _ _ _ _ us hl => match us, hl with | [_], _ => rfl
  have F10 := fun_mk (st := s_l_draws) l10 c10 k10
  have b10 := F10.binds (ps := ["_law_cell"]) fun _ _ _ _ _ _ us hl => match us, hl with | [_], _ => rfl
  have F11 := fun_mk (st := s_l_next) l11 c11 k11
  have b11 := F11.binds (ps := ["_law_draws_here"]) fun _ _ _ _ _ _ us hl => match us, hl with | [_], _ => rfl
  have F12 := fun_mk (st := s_l_powers) l12 c12 k12
  have b12 := F12.binds (ps := ["_law_step", "_law_by"]) fun _ _ _ _ _ _ us hl => match us, hl with | [_, _], _ => rfl
  have F13 := fun_mk (st := s_l_factor_right) l13 c13 k13
  have b13 := F13.binds (ps := ["_law_step", "_law_by"]) fun _ _ _ _ _ _ us hl => match us, hl with | [_, _], _ => rfl
  have F14 := fun_mk (st := s_l_table) l14 c14 k14
  have b14 := F14.binds (ps := ["_law_draws_here"]) fun _ _ _ _ _ _ us hl => match us, hl with | [_], _ => rfl
  have F15 := fun_mk (st := s_l_turned) l15 c15 k15
  have b15 := F15.binds (ps := ["_law_table_here"]) fun _ _ _ _ _ _ us hl => match us, hl with | [_], _ => rfl
  have F16 := fun_mk (st := s_l_letters_right) l16 c16 k16
  have b16 := F16.binds (ps := ["_law_table_here"]) fun _ _ _ _ _ _ us hl => match us, hl with | [_], _ => rfl
  have F17 := fun_mk (st := s_law) l17 c17 k17
  have b17 := F17.binds (ps := ["_law_script"]) fun _ _ _ _ _ _ us hl => match us, hl with | [_], _ => rfl
  refine ⟨PySem.W.fnOf "law" "law" (defArgs s_law) (defBody s_law) (defScope s_law) .none kV17 dc17 pm17 an17 cd17 ct17, fun s v => .of_eq rfl, fun base _ _ => ?_⟩
  let D1 : Callee l.prog w K mg base 1 "is_whole" ["thing"] F_is_whole := ⟨f1, _, ok_is_whole F1 T, PySem.W.mg_of X G a1, k1, b1⟩
  let D2 : Callee l.prog w K mg base 2 "is_whole_within" ["thing", "least", "most"] F_is_whole_within := ⟨f2, _, ok_is_whole_within F2 T D1, PySem.W.mg_of X G a2, k2, b2⟩
  let D3 : Callee l.prog w K mg base 2 "_check_factor" ["factor"] F_check_factor := ⟨f3, _, ok_check_factor F3 T D1, PySem.W.mg_of X G a3, k3, b3⟩
  let D4 : Callee l.prog w K mg base 3 "_check_modulus" ["modulus"] F_check_modulus := ⟨f4, _, ok_check_modulus F4 T D2, PySem.W.mg_of X G a4, k4, b4⟩
  let D5 : Callee l.prog w K mg base 1 "_cycle" ["start", "following"] F_cycle := ⟨f5, _, ok_cycle F5 T, PySem.W.mg_of X G a5, k5, b5⟩
  let D6 : Callee l.prog w K mg base 4 "cycle_of_factor" ["factor", "modulus"] F_cycle_of_factor := ⟨f6, _, ok_cycle_of_factor F6 T D3 D4 D5, PySem.W.mg_of X G a6, k6, b6⟩
  let D7 : Callee l.prog w K mg base 1 "_is_letter" ["thing"] F_is_letter := ⟨f7, _, ok_is_letter F7 T, PySem.W.mg_of X G a7, k7, b7⟩
  let D8 : Callee l.prog w K mg base 2 "_check_letters" ["letters"] F_check_letters := ⟨f8, _, ok_check_letters F8 T D7, PySem.W.mg_of X G a8, k8, b8⟩
  let D9 : Callee l.prog w K mg base 3 "cycle_of_letters" ["letters"] F_cycle_of_letters := ⟨f9, _, ok_cycle_of_letters F9 T D5 D8, PySem.W.mg_of X G a9, k9, b9⟩
  let D10 : Callee l.prog w K mg base 1 "_law_draws" ["_law_cell"] F_l_draws := ⟨f10, _, ok_l_draws F10 T, PySem.W.mg_of X G a10, k10, b10⟩
  let D11 : Callee l.prog w K mg base 1 "_law_next" ["_law_draws_here"] F_l_next := ⟨f11, _, ok_l_next F11 T, PySem.W.mg_of X G a11, k11, b11⟩
  let D12 : Callee l.prog w K mg base 1 "_law_powers" ["_law_step", "_law_by"] F_l_powers := ⟨f12, _, ok_l_powers F12 T, PySem.W.mg_of X G a12, k12, b12⟩
  have kb_cycle_of_factor_modulus_factor13 : KBindsE K D6.fd ["factor", "modulus"] ["modulus", "factor"] pk_cycle_of_factor_modulus_factor pk_cycle_of_factor_modulus_factor := kb_mk_cycle_of_factor_modulus_factor F6
  let D13 : Callee l.prog w K mg base 5 "_law_factor_right" ["_law_step", "_law_by"] F_l_factor_right := ⟨f13, _, ok_l_factor_right F13 T D6 D12 kb_cycle_of_factor_modulus_factor13, PySem.W.mg_of X G a13, k13, b13⟩
  let D14 : Callee l.prog w K mg base 2 "_law_table" ["_law_draws_here"] F_l_table := ⟨f14, _, ok_l_table F14 T D11, PySem.W.mg_of X G a14, k14, b14⟩
  let D15 : Callee l.prog w K mg base 1 "_law_turned" ["_law_table_here"] F_l_turned := ⟨f15, _, ok_l_turned F15 T, PySem.W.mg_of X G a15, k15, b15⟩
  have kb_cycle_of_letters_letters16 : KBindsE K D9.fd ["letters"] ["letters"] pk_cycle_of_letters_letters pk_cycle_of_letters_letters := kb_mk_cycle_of_letters_letters F9
  let D16 : Callee l.prog w K mg base 4 "_law_letters_right" ["_law_table_here"] F_l_letters_right := ⟨f16, _, ok_l_letters_right F16 T D9 D15 kb_cycle_of_letters_letters16, PySem.W.mg_of X G a16, k16, b16⟩
  exact ok_law F17 T D9 D10 D11 D13 D14 D16

/-! ### the mathematics -/
theorem t_is_whole {i : Int} : Tl F_is_whole [.dat (.int i)] (.dat (.bool true)) := by
  refine Tl_def rfl rfl ?_
  simp only [List.cons_append, List.nil_append, List.replicate_succ, List.replicate_zero, Nat.reduceSub, Nat.sub_self]
  unfold B_is_whole
  try simp only [↓W_bind, ↓W_ret, ↓W_lift, ↓L_some, ↓L_map, ↓WS_eseq, ↓WS_seq, ↓WS_nil, ↓WS_pass, ↓WS_break, ↓WS_cont, ↓WS_never, ↓WS_set, ↓WS_ret, ↓WS_retN, ↓WS_drop, ↓WS_asg, ↓WS_if, ↓ifS_t, ↓ifS_f, ↓ifS_not, ↓ifS_dec, ↓ifM_t, ↓ifM_f, ↓ifM_not, ↓ifM_dec, ↓W_C, ↓W_2, ↓W_1, ↓W_A, ↓W_AL, ↓W_2L, ↓W_nilA, ↓W_consA, ↓W_B, ↓L_asB, ↓W_not, ↓W_tnot, ↓W_and, ↓W_or, ↓W_tand, ↓W_tor, ↓W_if, ↓W_chain, ↓L_bindB, ↓W_tup, ↓W_lst, ↓W_dat, ↓W_fz, ↓L_asD, ↓L_asO, ↓W_someI, ↓L_asI, ↓L_asI1, ↓W_noneI, ↓W_slL, ↓L_cut, ↓WS_for, ↓WS_while, ↓WS_put, ↓W_lc0, ↓W_itL, ↓L_asL, ↓W_itT, ↓L_asT, ↓W_itA, ↓W_itES, ↓L_add, ↓L_sub, ↓L_lt, ↓L_le, ↓L_gt, ↓L_ge, ↓L_neg, ↓L_mul, ↓L_mod, ↓L_div, ↓L_pow, ↓L_eqI, ↓L_neI, ↓L_eqL, ↓L_neL, ↓L_eqT, ↓L_neT, ↓L_eqS, ↓L_neS, ↓L_isN, ↓L_isNotN, ↓L_lenL, ↓L_lenT, ↓L_int, ↓L_intb, ↓L_max, ↓L_min, ↓L_cat, ↓L_ixL, ↓L_ixT, ↓L_rep, ↓L_r1, ↓L_r2, ↓L_en, ↓L_enS, ↓L_zip, ↓L_inL, ↓L_ninL, ↓L_isi, ↓L_ii, ↓L_ib, ↓L_il, ↓LB_nil, ↓LB_name, ↓LB_bind, ↓LB_cons, ↓LB_tup, ↓W_call, ↓W_callD, ↓W_aNil, ↓W_aCons, ↓W_aBor, ↓W_callB, ↓W_scr, ↓L_sort, ↓ifM_nT, ↓ifS_nT, ↓ifM_nL, ↓ifS_nL, ↓ifM_nI, ↓ifS_nI, ↓ifM_nS, ↓ifS_nS, ↓ifM_nB, ↓ifS_nB, ↓ifM_nN, ↓ifS_nN, ↓W_var0, ↓W_varo0, ↓W_vark0, ↓Set_0, ↓W_ixC0, ↓WS_app0, ↓App_0, ↓W_move0, ↓W_var1, ↓W_varo1, ↓W_vark1, ↓Set_1, ↓W_ixC1, ↓WS_app1, ↓App_1, ↓W_move1, ↓W_var2, ↓W_varo2, ↓W_vark2, ↓Set_2, ↓W_ixC2, ↓WS_app2, ↓App_2, ↓W_move2, ↓W_var3, ↓W_varo3, ↓W_vark3, ↓Set_3, ↓W_ixC3, ↓WS_app3, ↓App_3, ↓W_move3, ↓W_var4, ↓W_varo4, ↓W_vark4, ↓Set_4, ↓W_ixC4, ↓WS_app4, ↓App_4, ↓W_move4, ↓W_var5, ↓W_varo5, ↓W_vark5, ↓Set_5, ↓W_ixC5, ↓WS_app5, ↓App_5, ↓W_move5, ↓W_var6, ↓W_varo6, ↓W_vark6, ↓Set_6, ↓W_ixC6, ↓WS_app6, ↓App_6, ↓W_move6, ↓W_var7, ↓W_varo7, ↓W_vark7, ↓Set_7, ↓W_ixC7, ↓WS_app7, ↓App_7, ↓W_move7, ↓W_var8, ↓W_varo8, ↓W_vark8, ↓Set_8, ↓W_ixC8, ↓WS_app8, ↓App_8, ↓W_move8, ↓W_var9, ↓W_varo9, ↓W_vark9, ↓Set_9, ↓W_ixC9, ↓WS_app9, ↓App_9, ↓W_move9, ↓W_var10, ↓W_varo10, ↓W_vark10, ↓Set_10, ↓W_ixC10, ↓WS_app10, ↓App_10, ↓W_move10, ↓W_var11, ↓W_varo11, ↓W_vark11, ↓Set_11, ↓W_ixC11, ↓WS_app11, ↓App_11, ↓W_move11, ↓W_var12, ↓W_varo12, ↓W_vark12, ↓Set_12, ↓W_ixC12, ↓WS_app12, ↓App_12, ↓W_move12, ↓W_var13, ↓W_varo13, ↓W_vark13, ↓Set_13, ↓W_ixC13, ↓WS_app13, ↓App_13, ↓W_move13, ↓W_var14, ↓W_varo14, ↓W_vark14, ↓Set_14, ↓W_ixC14, ↓WS_app14, ↓App_14, ↓W_move14, ↓W_var15, ↓W_varo15, ↓W_vark15, ↓Set_15, ↓W_ixC15, ↓WS_app15, ↓App_15, ↓W_move15, ↓L_at0, ↓L_at1, ↓L_at2, ↓L_at3, ↓L_at4, ↓L_at5, ↓L_at6, ↓L_at7, ↓L_at8, ↓Put_0, ↓Put_1, ↓Put_2, wipeS, List.set_cons_zero, List.set_cons_succ, List.length_map]
  (first | exact ⟨rfl, Nat.le_refl _⟩ | exact ⟨trivial, Nat.le_refl _⟩ | exact trivial | (simp; done))
theorem t_within {i lo hi : Int} (h1 : lo ≤ i) (h2 : i ≤ hi) : Tl F_is_whole_within [.dat (.int i), .dat (.int lo), .dat (.int hi)] (.dat (.bool true)) := by
  refine Tl_def rfl rfl ?_
  simp only [List.cons_append, List.nil_append, List.replicate_succ, List.replicate_zero, Nat.reduceSub, Nat.sub_self]
  unfold B_is_whole_within
  simp only [W_call, Fn_1 t_is_whole, ↓W_bind, ↓W_ret, ↓W_lift, ↓L_some, ↓L_map, ↓WS_eseq, ↓WS_seq, ↓WS_nil, ↓WS_pass, ↓WS_break, ↓WS_cont, ↓WS_never, ↓WS_set, ↓WS_ret, ↓WS_retN, ↓WS_drop, ↓WS_asg, ↓WS_if, ↓ifS_t, ↓ifS_f, ↓ifS_not, ↓ifS_dec, ↓ifM_t, ↓ifM_f, ↓ifM_not, ↓ifM_dec, ↓W_C, ↓W_2, ↓W_1, ↓W_A, ↓W_AL, ↓W_2L, ↓W_nilA, ↓W_consA, ↓W_B, ↓L_asB, ↓W_not, ↓W_tnot, ↓W_and, ↓W_or, ↓W_tand, ↓W_tor, ↓W_if, ↓W_chain, ↓L_bindB, ↓W_tup, ↓W_lst, ↓W_dat, ↓W_fz, ↓L_asD, ↓L_asO, ↓W_someI, ↓L_asI, ↓L_asI1, ↓W_noneI, ↓W_slL, ↓L_cut, ↓WS_for, ↓WS_while, ↓WS_put, ↓W_lc0, ↓W_itL, ↓L_asL, ↓W_itT, ↓L_asT, ↓W_itA, ↓W_itES, ↓L_add, ↓L_sub, ↓L_lt, ↓L_le, ↓L_gt, ↓L_ge, ↓L_neg, ↓L_mul, ↓L_mod, ↓L_div, ↓L_pow, ↓L_eqI, ↓L_neI, ↓L_eqL, ↓L_neL, ↓L_eqT, ↓L_neT, ↓L_eqS, ↓L_neS, ↓L_isN, ↓L_isNotN, ↓L_lenL, ↓L_lenT, ↓L_int, ↓L_intb, ↓L_max, ↓L_min, ↓L_cat, ↓L_ixL, ↓L_ixT, ↓L_rep, ↓L_r1, ↓L_r2, ↓L_en, ↓L_enS, ↓L_zip, ↓L_inL, ↓L_ninL, ↓L_isi, ↓L_ii, ↓L_ib, ↓L_il, ↓LB_nil, ↓LB_name, ↓LB_bind, ↓LB_cons, ↓LB_tup, ↓W_call, ↓W_callD, ↓W_aNil, ↓W_aCons, ↓W_aBor, ↓W_callB, ↓W_scr, ↓L_sort, ↓ifM_nT, ↓ifS_nT, ↓ifM_nL, ↓ifS_nL, ↓ifM_nI, ↓ifS_nI, ↓ifM_nS, ↓ifS_nS, ↓ifM_nB, ↓ifS_nB, ↓ifM_nN, ↓ifS_nN, ↓W_var0, ↓W_varo0, ↓W_vark0, ↓Set_0, ↓W_ixC0, ↓WS_app0, ↓App_0, ↓W_move0, ↓W_var1, ↓W_varo1, ↓W_vark1, ↓Set_1, ↓W_ixC1, ↓WS_app1, ↓App_1, ↓W_move1, ↓W_var2, ↓W_varo2, ↓W_vark2, ↓Set_2, ↓W_ixC2, ↓WS_app2, ↓App_2, ↓W_move2, ↓W_var3, ↓W_varo3, ↓W_vark3, ↓Set_3, ↓W_ixC3, ↓WS_app3, ↓App_3, ↓W_move3, ↓W_var4, ↓W_varo4, ↓W_vark4, ↓Set_4, ↓W_ixC4, ↓WS_app4, ↓App_4, ↓W_move4, ↓W_var5, ↓W_varo5, ↓W_vark5, ↓Set_5, ↓W_ixC5, ↓WS_app5, ↓App_5, ↓W_move5, ↓W_var6, ↓W_varo6, ↓W_vark6, ↓Set_6, ↓W_ixC6, ↓WS_app6, ↓App_6, ↓W_move6, ↓W_var7, ↓W_varo7, ↓W_vark7, ↓Set_7, ↓W_ixC7, ↓WS_app7, ↓App_7, ↓W_move7, ↓W_var8, ↓W_varo8, ↓W_vark8, ↓Set_8, ↓W_ixC8, ↓WS_app8, ↓App_8, ↓W_move8, ↓W_var9, ↓W_varo9, ↓W_vark9, ↓Set_9, ↓W_ixC9, ↓WS_app9, ↓App_9, ↓W_move9, ↓W_var10, ↓W_varo10, ↓W_vark10, ↓Set_10, ↓W_ixC10, ↓WS_app10, ↓App_10, ↓W_move10, ↓W_var11, ↓W_varo11, ↓W_vark11, ↓Set_11, ↓W_ixC11, ↓WS_app11, ↓App_11, ↓W_move11, ↓W_var12, ↓W_varo12, ↓W_vark12, ↓Set_12, ↓W_ixC12, ↓WS_app12, ↓App_12, ↓W_move12, ↓W_var13, ↓W_varo13, ↓W_vark13, ↓Set_13, ↓W_ixC13, ↓WS_app13, ↓App_13, ↓W_move13, ↓W_var14, ↓W_varo14, ↓W_vark14, ↓Set_14, ↓W_ixC14, ↓WS_app14, ↓App_14, ↓W_move14, ↓W_var15, ↓W_varo15, ↓W_vark15, ↓Set_15, ↓W_ixC15, ↓WS_app15, ↓App_15, ↓W_move15, ↓L_at0, ↓L_at1, ↓L_at2, ↓L_at3, ↓L_at4, ↓L_at5, ↓L_at6, ↓L_at7, ↓L_at8, ↓Put_0, ↓Put_1, ↓Put_2, wipeS, List.set_cons_zero, List.set_cons_succ, List.length_map]
  exact ⟨fun _ => ⟨by rw [decide_eq_true h2], Nat.le_refl _⟩, fun h => absurd h1 h⟩
theorem t_factor {t : Int} : Tl F_check_factor [.dat (.int t)] (.dat .none) := by
  refine Tl_def rfl rfl ?_
  simp only [List.cons_append, List.nil_append, List.replicate_succ, List.replicate_zero, Nat.reduceSub, Nat.sub_self]
  unfold B_check_factor
  simp only [W_call, Fn_1 t_is_whole, ↓W_bind, ↓W_ret, ↓W_lift, ↓L_some, ↓L_map, ↓WS_eseq, ↓WS_seq, ↓WS_nil, ↓WS_pass, ↓WS_break, ↓WS_cont, ↓WS_never, ↓WS_set, ↓WS_ret, ↓WS_retN, ↓WS_drop, ↓WS_asg, ↓WS_if, ↓ifS_t, ↓ifS_f, ↓ifS_not, ↓ifS_dec, ↓ifM_t, ↓ifM_f, ↓ifM_not, ↓ifM_dec, ↓W_C, ↓W_2, ↓W_1, ↓W_A, ↓W_AL, ↓W_2L, ↓W_nilA, ↓W_consA, ↓W_B, ↓L_asB, ↓W_not, ↓W_tnot, ↓W_and, ↓W_or, ↓W_tand, ↓W_tor, ↓W_if, ↓W_chain, ↓L_bindB, ↓W_tup, ↓W_lst, ↓W_dat, ↓W_fz, ↓L_asD, ↓L_asO, ↓W_someI, ↓L_asI, ↓L_asI1, ↓W_noneI, ↓W_slL, ↓L_cut, ↓WS_for, ↓WS_while, ↓WS_put, ↓W_lc0, ↓W_itL, ↓L_asL, ↓W_itT, ↓L_asT, ↓W_itA, ↓W_itES, ↓L_add, ↓L_sub, ↓L_lt, ↓L_le, ↓L_gt, ↓L_ge, ↓L_neg, ↓L_mul, ↓L_mod, ↓L_div, ↓L_pow, ↓L_eqI, ↓L_neI, ↓L_eqL, ↓L_neL, ↓L_eqT, ↓L_neT, ↓L_eqS, ↓L_neS, ↓L_isN, ↓L_isNotN, ↓L_lenL, ↓L_lenT, ↓L_int, ↓L_intb, ↓L_max, ↓L_min, ↓L_cat, ↓L_ixL, ↓L_ixT, ↓L_rep, ↓L_r1, ↓L_r2, ↓L_en, ↓L_enS, ↓L_zip, ↓L_inL, ↓L_ninL, ↓L_isi, ↓L_ii, ↓L_ib, ↓L_il, ↓LB_nil, ↓LB_name, ↓LB_bind, ↓LB_cons, ↓LB_tup, ↓W_call, ↓W_callD, ↓W_aNil, ↓W_aCons, ↓W_aBor, ↓W_callB, ↓W_scr, ↓L_sort, ↓ifM_nT, ↓ifS_nT, ↓ifM_nL, ↓ifS_nL, ↓ifM_nI, ↓ifS_nI, ↓ifM_nS, ↓ifS_nS, ↓ifM_nB, ↓ifS_nB, ↓ifM_nN, ↓ifS_nN, ↓W_var0, ↓W_varo0, ↓W_vark0, ↓Set_0, ↓W_ixC0, ↓WS_app0, ↓App_0, ↓W_move0, ↓W_var1, ↓W_varo1, ↓W_vark1, ↓Set_1, ↓W_ixC1, ↓WS_app1, ↓App_1, ↓W_move1, ↓W_var2, ↓W_varo2, ↓W_vark2, ↓Set_2, ↓W_ixC2, ↓WS_app2, ↓App_2, ↓W_move2, ↓W_var3, ↓W_varo3, ↓W_vark3, ↓Set_3, ↓W_ixC3, ↓WS_app3, ↓App_3, ↓W_move3, ↓W_var4, ↓W_varo4, ↓W_vark4, ↓Set_4, ↓W_ixC4, ↓WS_app4, ↓App_4, ↓W_move4, ↓W_var5, ↓W_varo5, ↓W_vark5, ↓Set_5, ↓W_ixC5, ↓WS_app5, ↓App_5, ↓W_move5, ↓W_var6, ↓W_varo6, ↓W_vark6, ↓Set_6, ↓W_ixC6, ↓WS_app6, ↓App_6, ↓W_move6, ↓W_var7, ↓W_varo7, ↓W_vark7, ↓Set_7, ↓W_ixC7, ↓WS_app7, ↓App_7, ↓W_move7, ↓W_var8, ↓W_varo8, ↓W_vark8, ↓Set_8, ↓W_ixC8, ↓WS_app8, ↓App_8, ↓W_move8, ↓W_var9, ↓W_varo9, ↓W_vark9, ↓Set_9, ↓W_ixC9, ↓WS_app9, ↓App_9, ↓W_move9, ↓W_var10, ↓W_varo10, ↓W_vark10, ↓Set_10, ↓W_ixC10, ↓WS_app10, ↓App_10, ↓W_move10, ↓W_var11, ↓W_varo11, ↓W_vark11, ↓Set_11, ↓W_ixC11, ↓WS_app11, ↓App_11, ↓W_move11, ↓W_var12, ↓W_varo12, ↓W_vark12, ↓Set_12, ↓W_ixC12, ↓WS_app12, ↓App_12, ↓W_move12, ↓W_var13, ↓W_varo13, ↓W_vark13, ↓Set_13, ↓W_ixC13, ↓WS_app13, ↓App_13, ↓W_move13, ↓W_var14, ↓W_varo14, ↓W_vark14, ↓Set_14, ↓W_ixC14, ↓WS_app14, ↓App_14, ↓W_move14, ↓W_var15, ↓W_varo15, ↓W_vark15, ↓Set_15, ↓W_ixC15, ↓WS_app15, ↓App_15, ↓W_move15, ↓L_at0, ↓L_at1, ↓L_at2, ↓L_at3, ↓L_at4, ↓L_at5, ↓L_at6, ↓L_at7, ↓L_at8, ↓Put_0, ↓Put_1, ↓Put_2, wipeS, List.set_cons_zero, List.set_cons_succ, List.length_map]
  (first | exact ⟨rfl, Nat.le_refl _⟩ | exact ⟨trivial, Nat.le_refl _⟩ | exact trivial | (simp; done))
theorem t_modulus {r : Int} (h1 : 1 ≤ r) (h2 : r ≤ 10000) : Tl F_check_modulus [.dat (.int r)] (.dat .none) := by
  refine Tl_def rfl rfl ?_
  simp only [List.cons_append, List.nil_append, List.replicate_succ, List.replicate_zero, Nat.reduceSub, Nat.sub_self]
  unfold B_check_modulus
  simp only [W_call, Fn_3 (t_within h1 h2), ↓W_bind, ↓W_ret, ↓W_lift, ↓L_some, ↓L_map, ↓WS_eseq, ↓WS_seq, ↓WS_nil, ↓WS_pass, ↓WS_break, ↓WS_cont, ↓WS_never, ↓WS_set, ↓WS_ret, ↓WS_retN, ↓WS_drop, ↓WS_asg, ↓WS_if, ↓ifS_t, ↓ifS_f, ↓ifS_not, ↓ifS_dec, ↓ifM_t, ↓ifM_f, ↓ifM_not, ↓ifM_dec, ↓W_C, ↓W_2, ↓W_1, ↓W_A, ↓W_AL, ↓W_2L, ↓W_nilA, ↓W_consA, ↓W_B, ↓L_asB, ↓W_not, ↓W_tnot, ↓W_and, ↓W_or, ↓W_tand, ↓W_tor, ↓W_if, ↓W_chain, ↓L_bindB, ↓W_tup, ↓W_lst, ↓W_dat, ↓W_fz, ↓L_asD, ↓L_asO, ↓W_someI, ↓L_asI, ↓L_asI1, ↓W_noneI, ↓W_slL, ↓L_cut, ↓WS_for, ↓WS_while, ↓WS_put, ↓W_lc0, ↓W_itL, ↓L_asL, ↓W_itT, ↓L_asT, ↓W_itA, ↓W_itES, ↓L_add, ↓L_sub, ↓L_lt, ↓L_le, ↓L_gt, ↓L_ge, ↓L_neg, ↓L_mul, ↓L_mod, ↓L_div, ↓L_pow, ↓L_eqI, ↓L_neI, ↓L_eqL, ↓L_neL, ↓L_eqT, ↓L_neT, ↓L_eqS, ↓L_neS, ↓L_isN, ↓L_isNotN, ↓L_lenL, ↓L_lenT, ↓L_int, ↓L_intb, ↓L_max, ↓L_min, ↓L_cat, ↓L_ixL, ↓L_ixT, ↓L_rep, ↓L_r1, ↓L_r2, ↓L_en, ↓L_enS, ↓L_zip, ↓L_inL, ↓L_ninL, ↓L_isi, ↓L_ii, ↓L_ib, ↓L_il, ↓LB_nil, ↓LB_name, ↓LB_bind, ↓LB_cons, ↓LB_tup, ↓W_call, ↓W_callD, ↓W_aNil, ↓W_aCons, ↓W_aBor, ↓W_callB, ↓W_scr, ↓L_sort, ↓ifM_nT, ↓ifS_nT, ↓ifM_nL, ↓ifS_nL, ↓ifM_nI, ↓ifS_nI, ↓ifM_nS, ↓ifS_nS, ↓ifM_nB, ↓ifS_nB, ↓ifM_nN, ↓ifS_nN, ↓W_var0, ↓W_varo0, ↓W_vark0, ↓Set_0, ↓W_ixC0, ↓WS_app0, ↓App_0, ↓W_move0, ↓W_var1, ↓W_varo1, ↓W_vark1, ↓Set_1, ↓W_ixC1, ↓WS_app1, ↓App_1, ↓W_move1, ↓W_var2, ↓W_varo2, ↓W_vark2, ↓Set_2, ↓W_ixC2, ↓WS_app2, ↓App_2, ↓W_move2, ↓W_var3, ↓W_varo3, ↓W_vark3, ↓Set_3, ↓W_ixC3, ↓WS_app3, ↓App_3, ↓W_move3, ↓W_var4, ↓W_varo4, ↓W_vark4, ↓Set_4, ↓W_ixC4, ↓WS_app4, ↓App_4, ↓W_move4, ↓W_var5, ↓W_varo5, ↓W_vark5, ↓Set_5, ↓W_ixC5, ↓WS_app5, ↓App_5, ↓W_move5, ↓W_var6, ↓W_varo6, ↓W_vark6, ↓Set_6, ↓W_ixC6, ↓WS_app6, ↓App_6, ↓W_move6, ↓W_var7, ↓W_varo7, ↓W_vark7, ↓Set_7, ↓W_ixC7, ↓WS_app7, ↓App_7, ↓W_move7, ↓W_var8, ↓W_varo8, ↓W_vark8, ↓Set_8, ↓W_ixC8, ↓WS_app8, ↓App_8, ↓W_move8, ↓W_var9, ↓W_varo9, ↓W_vark9, ↓Set_9, ↓W_ixC9, ↓WS_app9, ↓App_9, ↓W_move9, ↓W_var10, ↓W_varo10, ↓W_vark10, ↓Set_10, ↓W_ixC10, ↓WS_app10, ↓App_10, ↓W_move10, ↓W_var11, ↓W_varo11, ↓W_vark11, ↓Set_11, ↓W_ixC11, ↓WS_app11, ↓App_11, ↓W_move11, ↓W_var12, ↓W_varo12, ↓W_vark12, ↓Set_12, ↓W_ixC12, ↓WS_app12, ↓App_12, ↓W_move12, ↓W_var13, ↓W_varo13, ↓W_vark13, ↓Set_13, ↓W_ixC13, ↓WS_app13, ↓App_13, ↓W_move13, ↓W_var14, ↓W_varo14, ↓W_vark14, ↓Set_14, ↓W_ixC14, ↓WS_app14, ↓App_14, ↓W_move14, ↓W_var15, ↓W_varo15, ↓W_vark15, ↓Set_15, ↓W_ixC15, ↓WS_app15, ↓App_15, ↓W_move15, ↓L_at0, ↓L_at1, ↓L_at2, ↓L_at3, ↓L_at4, ↓L_at5, ↓L_at6, ↓L_at7, ↓L_at8, ↓Put_0, ↓Put_1, ↓Put_2, wipeS, List.set_cons_zero, List.set_cons_succ, List.length_map]
  (first | exact ⟨rfl, Nat.le_refl _⟩ | exact ⟨trivial, Nat.le_refl _⟩ | exact trivial | (simp; done))
/-! ### going on in a dict until a thing comes again -/
/-- what the places hold -/
def pl (x : Nat → PyData) (n : Nat) : List (PyData × PyData) := (List.range n).map fun j => (x j, .int (j : Nat))
theorem pl_len {x : Nat → PyData} {n : Nat} : (pl x n).length = n := by
  unfold pl
  rw [List.length_map, List.length_range]
theorem pl_succ {x : Nat → PyData} {n : Nat} : pl x (n + 1) = pl x n ++ [(x n, .int (n : Nat))] := by
  unfold pl
  rw [List.range_succ, List.map_append]
  rfl
theorem valD_app {ks : List (PyData × PyData)} {k d : PyData} {key : Key} : valD (ks ++ [(k, d)]) key = match valD ks key with | some e => some e | none => if keyOf k = some key then some d else none := by
  induction ks with
  | nil => simp [valD]
  | cons p ks ih =>
    obtain ⟨k2, d2⟩ := p
    rw [List.cons_append, valD, valD]
    by_cases c : keyOf k2 = some key
    · rw [if_pos c, if_pos c]
    · rw [if_neg c, if_neg c, ih]
theorem pl_none {x : Nat → PyData} {ky : Nat → Key} (hk : ∀ i, keyOf (x i) = some (ky i)) {k : Key} : ∀ {n : Nat}, (∀ i, i < n → ky i ≠ k) → valD (pl x n) k = none
  | 0, _ => rfl
  | n + 1, h => by
    rw [pl_succ, valD_app, pl_none hk fun i hi => h i (by omega)]
    dsimp only
    rw [if_neg fun z => h n (by omega) (Option.some.inj ((hk n).symm.trans z))]
theorem pl_val {x : Nat → PyData} {ky : Nat → Key} (hk : ∀ i, keyOf (x i) = some (ky i)) {t : Nat} : ∀ {n : Nat}, (∀ i j, i < n → j < n → ky i = ky j → i = j) → t < n → valD (pl x n) (ky t) = some (.int (t : Nat))
  | 0, _, h => by omega
  | n + 1, u, h => by
    rw [pl_succ, valD_app]
    by_cases e : t = n
    · subst e
      rw [pl_none hk fun i hi z => by
        have := u i t (by omega) (by omega) z
        omega]
      dsimp only
      rw [if_pos (hk t)]
    · rw [pl_val hk (fun i j hi hj => u i j (by omega) (by omega)) (by omega)]
theorem loop_go {c : M Bool} {body : S} {st : Nat → List SV} {n : Nat} (hc : ∀ i, i < n → c (st i) = some (.val true (st i))) (hb : ∀ i, i < n → body (st i) = some (.nx (st (i + 1)))) (he : c (st n) = some (.val false (st n))) : ∀ {m i : Nat}, i ≤ n → n - i < m → whileGo c body m (st i) = some (.nx (st n))
  | 0, i, _, h => by omega
  | m + 1, i, hi, h => by
    unfold whileGo
    by_cases e : i = n
    · subst e
      rw [he]
    · rw [hc i (by omega)]
      dsimp only
      rw [hb i (by omega)]
      exact loop_go hc hb he (by omega) (by omega)
section
variable {a b x y : PyData} {ks : List (PyData × PyData)} {l : List SV} {key : Key}
theorem din_go (hk : keyOf x = some key) : mB (mDInP true 2 (mVar 3)) (.dat a :: .dat b :: .odk none ks :: .dat x :: l) = some (.val (!(valD ks key).isSome) (.dat a :: .dat b :: .odk none ks :: .dat x :: l)) := by
  have e : mDInP true 2 (mVar 3) (.dat a :: .dat b :: .odk none ks :: .dat x :: l) = some (.val (.bool (!(valD ks key).isSome)) (.dat a :: .dat b :: .odk none ks :: .dat x :: l)) := by
    show (match keyOf x with | some key => some (R.val (PyData.bool (!(valD ks key).isSome)) (.dat a :: .dat b :: .odk none ks :: .dat x :: l)) | none => none) = _
    rw [hk]
  unfold mB M.bind
  rw [e]
  rfl
theorem dput_go (hk : keyOf x = some key) (hn : ks.length ≤ 1000000) : sDPutM 2 (mVar 3) (mDLenP 2) (.dat a :: .dat b :: .odk none ks :: .dat x :: l) = some (.nx (.dat a :: .dat b :: .odk none (putD ks x key (.int (ks.length : Nat))) :: .dat x :: l)) := by
  simp [sDPutM, eseq, mDLenP, mVar, hk, few_of hn]
theorem dget_go (hk : keyOf x = some key) {d : PyData} (hv : valD ks key = some d) : mDGetP 2 (mVar 3) (.dat a :: .dat b :: .odk none ks :: .dat x :: l) = some (.val d (.dat a :: .dat b :: .odk none ks :: .dat x :: l)) := by
  show (match (keyOf x).bind (valD ks) with | some d => some (R.val d (.dat a :: .dat b :: .odk none ks :: .dat x :: l)) | none => none) = _
  rw [hk]
  show (match valD ks key with | some d => some (R.val d (.dat a :: .dat b :: .odk none ks :: .dat x :: l)) | none => none) = _
  rw [hv]
end
theorem putD_new {ks : List (PyData × PyData)} {k d : PyData} {key : Key} (h : valD ks key = none) : putD ks k key d = ks ++ [(k, d)] := by
  unfold putD
  rw [h]
  rfl
theorem WS_eq {o : Option Out} {s : List SV} {N : List SV → Prop} {T : SV → List SV → Prop} {B C : List SV → Prop} (h : o = some (.nx s)) (k : N s) : WS o N T B C := by
  rw [h]
  exact k
theorem W_eq {α : Type} {o : Option (R α)} {a : α} {s : List SV} {P : α → List SV → Prop} (h : o = some (.val a s)) (k : P a s) : W o P := by
  rw [h]
  exact k
theorem W_dnew {s : List SV} {P : SV → List SV → Prop} : W (mDNew s) P ↔ P (.odk none []) s := Iff.rfl
theorem W_dlen2 {a b : SV} {lb : Option Nat} {ks : List (PyData × PyData)} {l : List SV} {P : PyData → List SV → Prop} : W (mDLenP 2 (a :: b :: .odk lb ks :: l)) P ↔ P (.int (ks.length : Nat)) (a :: b :: .odk lb ks :: l) := Iff.rfl
theorem t_cycle {D : PyData} {x : Nat → PyData} {ky : Nat → Key} (hk : ∀ i, keyOf (x i) = some (ky i)) {t n : Nat} (C : Cyc ky t n) (hn : n ≤ 15000) (hx : ∀ i, kDGet D (x i) = some (x (i + 1))) :
    Tl F_cycle [.dat (x 0), .dat D] (.dat (.tuple [.int (t : Nat), .int ((n : Nat) - (t : Nat))])) := by
  refine Tl_def rfl rfl ?_
  simp only [List.cons_append, List.nil_append, List.replicate_succ, List.replicate_zero, Nat.reduceSub, Nat.sub_self]
  unfold B_cycle
  simp only [W_dnew, ↓W_bind, ↓W_ret, ↓W_lift, ↓L_some, ↓L_map, ↓WS_eseq, ↓WS_seq, ↓WS_nil, ↓WS_pass, ↓WS_break, ↓WS_cont, ↓WS_never, ↓WS_set, ↓WS_ret, ↓WS_retN, ↓WS_drop, ↓WS_asg, ↓WS_if, ↓ifS_t, ↓ifS_f, ↓ifS_not, ↓ifS_dec, ↓ifM_t, ↓ifM_f, ↓ifM_not, ↓ifM_dec, ↓W_C, ↓W_2, ↓W_1, ↓W_A, ↓W_AL, ↓W_2L, ↓W_nilA, ↓W_consA, ↓W_B, ↓L_asB, ↓W_not, ↓W_tnot, ↓W_and, ↓W_or, ↓W_tand, ↓W_tor, ↓W_if, ↓W_chain, ↓L_bindB, ↓W_tup, ↓W_lst, ↓W_dat, ↓W_fz, ↓L_asD, ↓L_asO, ↓W_someI, ↓L_asI, ↓L_asI1, ↓W_noneI, ↓W_slL, ↓L_cut, ↓WS_for, ↓WS_while, ↓WS_put, ↓W_lc0, ↓W_itL, ↓L_asL, ↓W_itT, ↓L_asT, ↓W_itA, ↓W_itES, ↓L_add, ↓L_sub, ↓L_lt, ↓L_le, ↓L_gt, ↓L_ge, ↓L_neg, ↓L_mul, ↓L_mod, ↓L_div, ↓L_pow, ↓L_eqI, ↓L_neI, ↓L_eqL, ↓L_neL, ↓L_eqT, ↓L_neT, ↓L_eqS, ↓L_neS, ↓L_isN, ↓L_isNotN, ↓L_lenL, ↓L_lenT, ↓L_int, ↓L_intb, ↓L_max, ↓L_min, ↓L_cat, ↓L_ixL, ↓L_ixT, ↓L_rep, ↓L_r1, ↓L_r2, ↓L_en, ↓L_enS, ↓L_zip, ↓L_inL, ↓L_ninL, ↓L_isi, ↓L_ii, ↓L_ib, ↓L_il, ↓LB_nil, ↓LB_name, ↓LB_bind, ↓LB_cons, ↓LB_tup, ↓W_call, ↓W_callD, ↓W_aNil, ↓W_aCons, ↓W_aBor, ↓W_callB, ↓W_scr, ↓L_sort, ↓ifM_nT, ↓ifS_nT, ↓ifM_nL, ↓ifS_nL, ↓ifM_nI, ↓ifS_nI, ↓ifM_nS, ↓ifS_nS, ↓ifM_nB, ↓ifS_nB, ↓ifM_nN, ↓ifS_nN, ↓W_var0, ↓W_varo0, ↓W_vark0, ↓Set_0, ↓W_ixC0, ↓WS_app0, ↓App_0, ↓W_move0, ↓W_var1, ↓W_varo1, ↓W_vark1, ↓Set_1, ↓W_ixC1, ↓WS_app1, ↓App_1, ↓W_move1, ↓W_var2, ↓W_varo2, ↓W_vark2, ↓Set_2, ↓W_ixC2, ↓WS_app2, ↓App_2, ↓W_move2, ↓W_var3, ↓W_varo3, ↓W_vark3, ↓Set_3, ↓W_ixC3, ↓WS_app3, ↓App_3, ↓W_move3, ↓W_var4, ↓W_varo4, ↓W_vark4, ↓Set_4, ↓W_ixC4, ↓WS_app4, ↓App_4, ↓W_move4, ↓W_var5, ↓W_varo5, ↓W_vark5, ↓Set_5, ↓W_ixC5, ↓WS_app5, ↓App_5, ↓W_move5, ↓W_var6, ↓W_varo6, ↓W_vark6, ↓Set_6, ↓W_ixC6, ↓WS_app6, ↓App_6, ↓W_move6, ↓W_var7, ↓W_varo7, ↓W_vark7, ↓Set_7, ↓W_ixC7, ↓WS_app7, ↓App_7, ↓W_move7, ↓W_var8, ↓W_varo8, ↓W_vark8, ↓Set_8, ↓W_ixC8, ↓WS_app8, ↓App_8, ↓W_move8, ↓W_var9, ↓W_varo9, ↓W_vark9, ↓Set_9, ↓W_ixC9, ↓WS_app9, ↓App_9, ↓W_move9, ↓W_var10, ↓W_varo10, ↓W_vark10, ↓Set_10, ↓W_ixC10, ↓WS_app10, ↓App_10, ↓W_move10, ↓W_var11, ↓W_varo11, ↓W_vark11, ↓Set_11, ↓W_ixC11, ↓WS_app11, ↓App_11, ↓W_move11, ↓W_var12, ↓W_varo12, ↓W_vark12, ↓Set_12, ↓W_ixC12, ↓WS_app12, ↓App_12, ↓W_move12, ↓W_var13, ↓W_varo13, ↓W_vark13, ↓Set_13, ↓W_ixC13, ↓WS_app13, ↓App_13, ↓W_move13, ↓W_var14, ↓W_varo14, ↓W_vark14, ↓Set_14, ↓W_ixC14, ↓WS_app14, ↓App_14, ↓W_move14, ↓W_var15, ↓W_varo15, ↓W_vark15, ↓Set_15, ↓W_ixC15, ↓WS_app15, ↓App_15, ↓W_move15, ↓L_at0, ↓L_at1, ↓L_at2, ↓L_at3, ↓L_at4, ↓L_at5, ↓L_at6, ↓L_at7, ↓L_at8, ↓Put_0, ↓Put_1, ↓Put_2, wipeS, List.set_cons_zero, List.set_cons_succ, List.length_map]
  refine WS_eq (loop_go (st := fun i => [.dat (x 0), .dat D, .odk none (pl x i), .dat (x i), .gone]) (n := n) (fun i hi => ?_) (fun i hi => ?_) ?_ (i := 0) (m := 20000) (Nat.zero_le _) (by omega)) ?_
  · rw [din_go (hk i), pl_none hk fun j hj e => by
      have := C.un j i (by omega) hi e
      omega]
    rfl
  · have e1 := dput_go (a := x 0) (b := D) (l := [.gone]) (ks := pl x i) (hk i) (by rw [pl_len]; omega)
    unfold sSeq
    rw [e1, putD_new (pl_none hk fun j hj e => by
      have := C.un j i (by omega) hi e
      omega), pl_len]
    show sSet 3 (mDat (m2 kDGet (mVar 1) (mVar 3))) _ = _
    simp [sSet, mDat, m2, M.bind, mVar, M.lift, hx, M.ret, eseq, pl_succ]
  · rw [din_go (hk n), C.eq, pl_val hk C.un C.lt]
    rfl
  · try simp only [↓W_bind, ↓W_ret, ↓W_lift, ↓L_some, ↓L_map, ↓WS_eseq, ↓WS_seq, ↓WS_nil, ↓WS_pass, ↓WS_break, ↓WS_cont, ↓WS_never, ↓WS_set, ↓WS_ret, ↓WS_retN, ↓WS_drop, ↓WS_asg, ↓WS_if, ↓ifS_t, ↓ifS_f, ↓ifS_not, ↓ifS_dec, ↓ifM_t, ↓ifM_f, ↓ifM_not, ↓ifM_dec, ↓W_C, ↓W_2, ↓W_1, ↓W_A, ↓W_AL, ↓W_2L, ↓W_nilA, ↓W_consA, ↓W_B, ↓L_asB, ↓W_not, ↓W_tnot, ↓W_and, ↓W_or, ↓W_tand, ↓W_tor, ↓W_if, ↓W_chain, ↓L_bindB, ↓W_tup, ↓W_lst, ↓W_dat, ↓W_fz, ↓L_asD, ↓L_asO, ↓W_someI, ↓L_asI, ↓L_asI1, ↓W_noneI, ↓W_slL, ↓L_cut, ↓WS_for, ↓WS_while, ↓WS_put, ↓W_lc0, ↓W_itL, ↓L_asL, ↓W_itT, ↓L_asT, ↓W_itA, ↓W_itES, ↓L_add, ↓L_sub, ↓L_lt, ↓L_le, ↓L_gt, ↓L_ge, ↓L_neg, ↓L_mul, ↓L_mod, ↓L_div, ↓L_pow, ↓L_eqI, ↓L_neI, ↓L_eqL, ↓L_neL, ↓L_eqT, ↓L_neT, ↓L_eqS, ↓L_neS, ↓L_isN, ↓L_isNotN, ↓L_lenL, ↓L_lenT, ↓L_int, ↓L_intb, ↓L_max, ↓L_min, ↓L_cat, ↓L_ixL, ↓L_ixT, ↓L_rep, ↓L_r1, ↓L_r2, ↓L_en, ↓L_enS, ↓L_zip, ↓L_inL, ↓L_ninL, ↓L_isi, ↓L_ii, ↓L_ib, ↓L_il, ↓LB_nil, ↓LB_name, ↓LB_bind, ↓LB_cons, ↓LB_tup, ↓W_call, ↓W_callD, ↓W_aNil, ↓W_aCons, ↓W_aBor, ↓W_callB, ↓W_scr, ↓L_sort, ↓ifM_nT, ↓ifS_nT, ↓ifM_nL, ↓ifS_nL, ↓ifM_nI, ↓ifS_nI, ↓ifM_nS, ↓ifS_nS, ↓ifM_nB, ↓ifS_nB, ↓ifM_nN, ↓ifS_nN, ↓W_var0, ↓W_varo0, ↓W_vark0, ↓Set_0, ↓W_ixC0, ↓WS_app0, ↓App_0, ↓W_move0, ↓W_var1, ↓W_varo1, ↓W_vark1, ↓Set_1, ↓W_ixC1, ↓WS_app1, ↓App_1, ↓W_move1, ↓W_var2, ↓W_varo2, ↓W_vark2, ↓Set_2, ↓W_ixC2, ↓WS_app2, ↓App_2, ↓W_move2, ↓W_var3, ↓W_varo3, ↓W_vark3, ↓Set_3, ↓W_ixC3, ↓WS_app3, ↓App_3, ↓W_move3, ↓W_var4, ↓W_varo4, ↓W_vark4, ↓Set_4, ↓W_ixC4, ↓WS_app4, ↓App_4, ↓W_move4, ↓W_var5, ↓W_varo5, ↓W_vark5, ↓Set_5, ↓W_ixC5, ↓WS_app5, ↓App_5, ↓W_move5, ↓W_var6, ↓W_varo6, ↓W_vark6, ↓Set_6, ↓W_ixC6, ↓WS_app6, ↓App_6, ↓W_move6, ↓W_var7, ↓W_varo7, ↓W_vark7, ↓Set_7, ↓W_ixC7, ↓WS_app7, ↓App_7, ↓W_move7, ↓W_var8, ↓W_varo8, ↓W_vark8, ↓Set_8, ↓W_ixC8, ↓WS_app8, ↓App_8, ↓W_move8, ↓W_var9, ↓W_varo9, ↓W_vark9, ↓Set_9, ↓W_ixC9, ↓WS_app9, ↓App_9, ↓W_move9, ↓W_var10, ↓W_varo10, ↓W_vark10, ↓Set_10, ↓W_ixC10, ↓WS_app10, ↓App_10, ↓W_move10, ↓W_var11, ↓W_varo11, ↓W_vark11, ↓Set_11, ↓W_ixC11, ↓WS_app11, ↓App_11, ↓W_move11, ↓W_var12, ↓W_varo12, ↓W_vark12, ↓Set_12, ↓W_ixC12, ↓WS_app12, ↓App_12, ↓W_move12, ↓W_var13, ↓W_varo13, ↓W_vark13, ↓Set_13, ↓W_ixC13, ↓WS_app13, ↓App_13, ↓W_move13, ↓W_var14, ↓W_varo14, ↓W_vark14, ↓Set_14, ↓W_ixC14, ↓WS_app14, ↓App_14, ↓W_move14, ↓W_var15, ↓W_varo15, ↓W_vark15, ↓Set_15, ↓W_ixC15, ↓WS_app15, ↓App_15, ↓W_move15, ↓L_at0, ↓L_at1, ↓L_at2, ↓L_at3, ↓L_at4, ↓L_at5, ↓L_at6, ↓L_at7, ↓L_at8, ↓Put_0, ↓Put_1, ↓Put_2, wipeS, List.set_cons_zero, List.set_cons_succ, List.length_map]
    refine W_eq (dget_go (hk n) (by rw [C.eq]; exact pl_val hk C.un C.lt)) ?_
    simp only [W_dlen2, pl_len, ↓W_bind, ↓W_ret, ↓W_lift, ↓L_some, ↓L_map, ↓WS_eseq, ↓WS_seq, ↓WS_nil, ↓WS_pass, ↓WS_break, ↓WS_cont, ↓WS_never, ↓WS_set, ↓WS_ret, ↓WS_retN, ↓WS_drop, ↓WS_asg, ↓WS_if, ↓ifS_t, ↓ifS_f, ↓ifS_not, ↓ifS_dec, ↓ifM_t, ↓ifM_f, ↓ifM_not, ↓ifM_dec, ↓W_C, ↓W_2, ↓W_1, ↓W_A, ↓W_AL, ↓W_2L, ↓W_nilA, ↓W_consA, ↓W_B, ↓L_asB, ↓W_not, ↓W_tnot, ↓W_and, ↓W_or, ↓W_tand, ↓W_tor, ↓W_if, ↓W_chain, ↓L_bindB, ↓W_tup, ↓W_lst, ↓W_dat, ↓W_fz, ↓L_asD, ↓L_asO, ↓W_someI, ↓L_asI, ↓L_asI1, ↓W_noneI, ↓W_slL, ↓L_cut, ↓WS_for, ↓WS_while, ↓WS_put, ↓W_lc0, ↓W_itL, ↓L_asL, ↓W_itT, ↓L_asT, ↓W_itA, ↓W_itES, ↓L_add, ↓L_sub, ↓L_lt, ↓L_le, ↓L_gt, ↓L_ge, ↓L_neg, ↓L_mul, ↓L_mod, ↓L_div, ↓L_pow, ↓L_eqI, ↓L_neI, ↓L_eqL, ↓L_neL, ↓L_eqT, ↓L_neT, ↓L_eqS, ↓L_neS, ↓L_isN, ↓L_isNotN, ↓L_lenL, ↓L_lenT, ↓L_int, ↓L_intb, ↓L_max, ↓L_min, ↓L_cat, ↓L_ixL, ↓L_ixT, ↓L_rep, ↓L_r1, ↓L_r2, ↓L_en, ↓L_enS, ↓L_zip, ↓L_inL, ↓L_ninL, ↓L_isi, ↓L_ii, ↓L_ib, ↓L_il, ↓LB_nil, ↓LB_name, ↓LB_bind, ↓LB_cons, ↓LB_tup, ↓W_call, ↓W_callD, ↓W_aNil, ↓W_aCons, ↓W_aBor, ↓W_callB, ↓W_scr, ↓L_sort, ↓ifM_nT, ↓ifS_nT, ↓ifM_nL, ↓ifS_nL, ↓ifM_nI, ↓ifS_nI, ↓ifM_nS, ↓ifS_nS, ↓ifM_nB, ↓ifS_nB, ↓ifM_nN, ↓ifS_nN, ↓W_var0, ↓W_varo0, ↓W_vark0, ↓Set_0, ↓W_ixC0, ↓WS_app0, ↓App_0, ↓W_move0, ↓W_var1, ↓W_varo1, ↓W_vark1, ↓Set_1, ↓W_ixC1, ↓WS_app1, ↓App_1, ↓W_move1, ↓W_var2, ↓W_varo2, ↓W_vark2, ↓Set_2, ↓W_ixC2, ↓WS_app2, ↓App_2, ↓W_move2, ↓W_var3, ↓W_varo3, ↓W_vark3, ↓Set_3, ↓W_ixC3, ↓WS_app3, ↓App_3, ↓W_move3, ↓W_var4, ↓W_varo4, ↓W_vark4, ↓Set_4, ↓W_ixC4, ↓WS_app4, ↓App_4, ↓W_move4, ↓W_var5, ↓W_varo5, ↓W_vark5, ↓Set_5, ↓W_ixC5, ↓WS_app5, ↓App_5, ↓W_move5, ↓W_var6, ↓W_varo6, ↓W_vark6, ↓Set_6, ↓W_ixC6, ↓WS_app6, ↓App_6, ↓W_move6, ↓W_var7, ↓W_varo7, ↓W_vark7, ↓Set_7, ↓W_ixC7, ↓WS_app7, ↓App_7, ↓W_move7, ↓W_var8, ↓W_varo8, ↓W_vark8, ↓Set_8, ↓W_ixC8, ↓WS_app8, ↓App_8, ↓W_move8, ↓W_var9, ↓W_varo9, ↓W_vark9, ↓Set_9, ↓W_ixC9, ↓WS_app9, ↓App_9, ↓W_move9, ↓W_var10, ↓W_varo10, ↓W_vark10, ↓Set_10, ↓W_ixC10, ↓WS_app10, ↓App_10, ↓W_move10, ↓W_var11, ↓W_varo11, ↓W_vark11, ↓Set_11, ↓W_ixC11, ↓WS_app11, ↓App_11, ↓W_move11, ↓W_var12, ↓W_varo12, ↓W_vark12, ↓Set_12, ↓W_ixC12, ↓WS_app12, ↓App_12, ↓W_move12, ↓W_var13, ↓W_varo13, ↓W_vark13, ↓Set_13, ↓W_ixC13, ↓WS_app13, ↓App_13, ↓W_move13, ↓W_var14, ↓W_varo14, ↓W_vark14, ↓Set_14, ↓W_ixC14, ↓WS_app14, ↓App_14, ↓W_move14, ↓W_var15, ↓W_varo15, ↓W_vark15, ↓Set_15, ↓W_ixC15, ↓WS_app15, ↓App_15, ↓W_move15, ↓L_at0, ↓L_at1, ↓L_at2, ↓L_at3, ↓L_at4, ↓L_at5, ↓L_at6, ↓L_at7, ↓L_at8, ↓Put_0, ↓Put_1, ↓Put_2, wipeS, List.set_cons_zero, List.set_cons_succ, List.length_map]
    exact ⟨by simp, trivial, by simp⟩

theorem nx_of {o : Option Out} {X : List SV} (h : WS o (fun s => s = X) (fun _ _ => False) (fun _ => False) fun _ => False) : o = some (.nx X) := by
  cases o with
  | none => exact h.elim
  | some z =>
    cases z with
    | nx s =>
      have h : s = X := h
      rw [h]
    | _ => exact (show False from h).elim
/-! ### powers -/
def pw (a m : Int) : Nat → Int
  | 0 => 1 % m
  | n + 1 => pw a m n * a % m
theorem pw_in {a m : Int} (h : 1 ≤ m) : ∀ n, 0 ≤ pw a m n ∧ pw a m n < m
  | 0 => ⟨Int.emod_nonneg _ (by omega), Int.emod_lt_of_pos _ (by omega)⟩
  | n + 1 => ⟨Int.emod_nonneg _ (by omega), Int.emod_lt_of_pos _ (by omega)⟩
theorem pw_cyc {a m : Int} (h : 1 ≤ m) (h2 : m ≤ 10000) : ∃ t n, Cyc (fun i => (Sum.inl (pw a m i) : Key)) t n ∧ n ≤ 10000 := by
  obtain ⟨t, n, C, hn⟩ := exists_cyc ((List.range m.toNat).map fun (j : Nat) => (j : Int)) (pw a m) fun i => by
    obtain ⟨h3, h4⟩ := pw_in (a := a) h i
    exact List.mem_map.mpr ⟨(pw a m i).toNat, List.mem_range.mpr (by omega), by omega⟩
  rw [List.length_map, List.length_range] at hn
  exact ⟨t, n, ⟨C.lt, fun i j hi hj e => C.un i j hi hj (Sum.inl.inj e), congrArg Sum.inl C.eq⟩, by omega⟩
def stP (a m : Int) (i : Nat) : List SV := [.dat (.int a), .dat (.int m), .odk none (pl (fun i => .int (pw a m i)) i), .dat (.int (pw a m i))]
theorem t_powers {a m : Int} (h : 1 ≤ m) (h2 : m ≤ 10000) {t n : Nat} (C : Cyc (fun i => (Sum.inl (pw a m i) : Key)) t n) (hn : n ≤ 10000) : Tl F_l_powers [.dat (.int a), .dat (.int m)] (.dat (.tuple [.int (t : Nat), .int ((n : Nat) - (t : Nat))])) := by
  have hk : ∀ i, keyOf (PyData.int (pw a m i)) = some (Sum.inl (pw a m i)) := fun i => rfl
  refine Tl_def rfl rfl ?_
  simp only [List.cons_append, List.nil_append, List.replicate_succ, List.replicate_zero, Nat.reduceSub, Nat.sub_self]
  unfold B_l_powers
  simp only [W_dnew, ↓W_bind, ↓W_ret, ↓W_lift, ↓L_some, ↓L_map, ↓WS_eseq, ↓WS_seq, ↓WS_nil, ↓WS_pass, ↓WS_break, ↓WS_cont, ↓WS_never, ↓WS_set, ↓WS_ret, ↓WS_retN, ↓WS_drop, ↓WS_asg, ↓WS_if, ↓ifS_t, ↓ifS_f, ↓ifS_not, ↓ifS_dec, ↓ifM_t, ↓ifM_f, ↓ifM_not, ↓ifM_dec, ↓W_C, ↓W_2, ↓W_1, ↓W_A, ↓W_AL, ↓W_2L, ↓W_nilA, ↓W_consA, ↓W_B, ↓L_asB, ↓W_not, ↓W_tnot, ↓W_and, ↓W_or, ↓W_tand, ↓W_tor, ↓W_if, ↓W_chain, ↓L_bindB, ↓W_tup, ↓W_lst, ↓W_dat, ↓W_fz, ↓L_asD, ↓L_asO, ↓W_someI, ↓L_asI, ↓L_asI1, ↓W_noneI, ↓W_slL, ↓L_cut, ↓WS_for, ↓WS_while, ↓WS_put, ↓W_lc0, ↓W_itL, ↓L_asL, ↓W_itT, ↓L_asT, ↓W_itA, ↓W_itES, ↓L_add, ↓L_sub, ↓L_lt, ↓L_le, ↓L_gt, ↓L_ge, ↓L_neg, ↓L_mul, ↓L_mod, ↓L_div, ↓L_pow, ↓L_eqI, ↓L_neI, ↓L_eqL, ↓L_neL, ↓L_eqT, ↓L_neT, ↓L_eqS, ↓L_neS, ↓L_isN, ↓L_isNotN, ↓L_lenL, ↓L_lenT, ↓L_int, ↓L_intb, ↓L_max, ↓L_min, ↓L_cat, ↓L_ixL, ↓L_ixT, ↓L_rep, ↓L_r1, ↓L_r2, ↓L_en, ↓L_enS, ↓L_zip, ↓L_inL, ↓L_ninL, ↓L_isi, ↓L_ii, ↓L_ib, ↓L_il, ↓LB_nil, ↓LB_name, ↓LB_bind, ↓LB_cons, ↓LB_tup, ↓W_call, ↓W_callD, ↓W_aNil, ↓W_aCons, ↓W_aBor, ↓W_callB, ↓W_scr, ↓L_sort, ↓ifM_nT, ↓ifS_nT, ↓ifM_nL, ↓ifS_nL, ↓ifM_nI, ↓ifS_nI, ↓ifM_nS, ↓ifS_nS, ↓ifM_nB, ↓ifS_nB, ↓ifM_nN, ↓ifS_nN, ↓W_var0, ↓W_varo0, ↓W_vark0, ↓Set_0, ↓W_ixC0, ↓WS_app0, ↓App_0, ↓W_move0, ↓W_var1, ↓W_varo1, ↓W_vark1, ↓Set_1, ↓W_ixC1, ↓WS_app1, ↓App_1, ↓W_move1, ↓W_var2, ↓W_varo2, ↓W_vark2, ↓Set_2, ↓W_ixC2, ↓WS_app2, ↓App_2, ↓W_move2, ↓W_var3, ↓W_varo3, ↓W_vark3, ↓Set_3, ↓W_ixC3, ↓WS_app3, ↓App_3, ↓W_move3, ↓W_var4, ↓W_varo4, ↓W_vark4, ↓Set_4, ↓W_ixC4, ↓WS_app4, ↓App_4, ↓W_move4, ↓W_var5, ↓W_varo5, ↓W_vark5, ↓Set_5, ↓W_ixC5, ↓WS_app5, ↓App_5, ↓W_move5, ↓W_var6, ↓W_varo6, ↓W_vark6, ↓Set_6, ↓W_ixC6, ↓WS_app6, ↓App_6, ↓W_move6, ↓W_var7, ↓W_varo7, ↓W_vark7, ↓Set_7, ↓W_ixC7, ↓WS_app7, ↓App_7, ↓W_move7, ↓W_var8, ↓W_varo8, ↓W_vark8, ↓Set_8, ↓W_ixC8, ↓WS_app8, ↓App_8, ↓W_move8, ↓W_var9, ↓W_varo9, ↓W_vark9, ↓Set_9, ↓W_ixC9, ↓WS_app9, ↓App_9, ↓W_move9, ↓W_var10, ↓W_varo10, ↓W_vark10, ↓Set_10, ↓W_ixC10, ↓WS_app10, ↓App_10, ↓W_move10, ↓W_var11, ↓W_varo11, ↓W_vark11, ↓Set_11, ↓W_ixC11, ↓WS_app11, ↓App_11, ↓W_move11, ↓W_var12, ↓W_varo12, ↓W_vark12, ↓Set_12, ↓W_ixC12, ↓WS_app12, ↓App_12, ↓W_move12, ↓W_var13, ↓W_varo13, ↓W_vark13, ↓Set_13, ↓W_ixC13, ↓WS_app13, ↓App_13, ↓W_move13, ↓W_var14, ↓W_varo14, ↓W_vark14, ↓Set_14, ↓W_ixC14, ↓WS_app14, ↓App_14, ↓W_move14, ↓W_var15, ↓W_varo15, ↓W_vark15, ↓Set_15, ↓W_ixC15, ↓WS_app15, ↓App_15, ↓W_move15, ↓L_at0, ↓L_at1, ↓L_at2, ↓L_at3, ↓L_at4, ↓L_at5, ↓L_at6, ↓L_at7, ↓L_at8, ↓Put_0, ↓Put_1, ↓Put_2, wipeS, List.set_cons_zero, List.set_cons_succ, List.length_map]
  refine ⟨by omega, ?_⟩
  rw [show [SV.dat (PyData.int a), SV.dat (PyData.int m), SV.odk none [], SV.dat (PyData.int (1 % m))] = stP a m 0 from rfl]
  have loop : whileGo (mB (mDInP true 2 (mVar 3))) (sSeq (sDPutM 2 (mVar 3) (mDLenP 2)) (sSet 3 (mDat (m2 kMod (mA kInt (mCons (m2 kMul (mVar 3) (mVar 0)) mNil)) (mVar 1))))) 20000 (stP a m 0) = some (.nx (stP a m n)) := by
   refine loop_go (fun i hi => ?_) (fun i hi => ?_) ?_ (Nat.zero_le _) (by omega)
   all_goals unfold stP
   · rw [din_go (hk i), pl_none hk fun j hj e => by
      have := C.un j i (by omega) hi e
      omega]
     rfl
   · have e1 := dput_go (a := .int a) (b := .int m) (l := []) (ks := pl (fun i => .int (pw a m i)) i) (hk i) (by rw [pl_len]; omega)
     unfold sSeq
     rw [e1, putD_new (pl_none hk fun j hj e => by
       have := C.un j i (by omega) hi e
       omega), pl_len]
     obtain ⟨p0, p1⟩ := pw_in (a := a) h i
     have hp : (-(2 ^ 64) < pw a m i ∧ pw a m i < 2 ^ 64) := ⟨by omega, by omega⟩
     have hw : WS (sSet 3 (mDat (m2 kMod (mA kInt (mCons (m2 kMul (mVar 3) (mVar 0)) mNil)) (mVar 1))) [.dat (.int a), .dat (.int m), .odk none (pl (fun i => .int (pw a m i)) i ++ [(.int (pw a m i), .int (i : Nat))]), .dat (.int (pw a m i))]) (fun s => s = [.dat (.int a), .dat (.int m), .odk none (pl (fun i => .int (pw a m i)) (i + 1)), .dat (.int (pw a m (i + 1)))]) (fun _ _ => False) (fun _ => False) (fun _ => False) := by
       try simp only [↓W_bind, ↓W_ret, ↓W_lift, ↓L_some, ↓L_map, ↓WS_eseq, ↓WS_seq, ↓WS_nil, ↓WS_pass, ↓WS_break, ↓WS_cont, ↓WS_never, ↓WS_set, ↓WS_ret, ↓WS_retN, ↓WS_drop, ↓WS_asg, ↓WS_if, ↓ifS_t, ↓ifS_f, ↓ifS_not, ↓ifS_dec, ↓ifM_t, ↓ifM_f, ↓ifM_not, ↓ifM_dec, ↓W_C, ↓W_2, ↓W_1, ↓W_A, ↓W_AL, ↓W_2L, ↓W_nilA, ↓W_consA, ↓W_B, ↓L_asB, ↓W_not, ↓W_tnot, ↓W_and, ↓W_or, ↓W_tand, ↓W_tor, ↓W_if, ↓W_chain, ↓L_bindB, ↓W_tup, ↓W_lst, ↓W_dat, ↓W_fz, ↓L_asD, ↓L_asO, ↓W_someI, ↓L_asI, ↓L_asI1, ↓W_noneI, ↓W_slL, ↓L_cut, ↓WS_for, ↓WS_while, ↓WS_put, ↓W_lc0, ↓W_itL, ↓L_asL, ↓W_itT, ↓L_asT, ↓W_itA, ↓W_itES, ↓L_add, ↓L_sub, ↓L_lt, ↓L_le, ↓L_gt, ↓L_ge, ↓L_neg, ↓L_mul, ↓L_mod, ↓L_div, ↓L_pow, ↓L_eqI, ↓L_neI, ↓L_eqL, ↓L_neL, ↓L_eqT, ↓L_neT, ↓L_eqS, ↓L_neS, ↓L_isN, ↓L_isNotN, ↓L_lenL, ↓L_lenT, ↓L_int, ↓L_intb, ↓L_max, ↓L_min, ↓L_cat, ↓L_ixL, ↓L_ixT, ↓L_rep, ↓L_r1, ↓L_r2, ↓L_en, ↓L_enS, ↓L_zip, ↓L_inL, ↓L_ninL, ↓L_isi, ↓L_ii, ↓L_ib, ↓L_il, ↓LB_nil, ↓LB_name, ↓LB_bind, ↓LB_cons, ↓LB_tup, ↓W_call, ↓W_callD, ↓W_aNil, ↓W_aCons, ↓W_aBor, ↓W_callB, ↓W_scr, ↓L_sort, ↓ifM_nT, ↓ifS_nT, ↓ifM_nL, ↓ifS_nL, ↓ifM_nI, ↓ifS_nI, ↓ifM_nS, ↓ifS_nS, ↓ifM_nB, ↓ifS_nB, ↓ifM_nN, ↓ifS_nN, ↓W_var0, ↓W_varo0, ↓W_vark0, ↓Set_0, ↓W_ixC0, ↓WS_app0, ↓App_0, ↓W_move0, ↓W_var1, ↓W_varo1, ↓W_vark1, ↓Set_1, ↓W_ixC1, ↓WS_app1, ↓App_1, ↓W_move1, ↓W_var2, ↓W_varo2, ↓W_vark2, ↓Set_2, ↓W_ixC2, ↓WS_app2, ↓App_2, ↓W_move2, ↓W_var3, ↓W_varo3, ↓W_vark3, ↓Set_3, ↓W_ixC3, ↓WS_app3, ↓App_3, ↓W_move3, ↓W_var4, ↓W_varo4, ↓W_vark4, ↓Set_4, ↓W_ixC4, ↓WS_app4, ↓App_4, ↓W_move4, ↓W_var5, ↓W_varo5, ↓W_vark5, ↓Set_5, ↓W_ixC5, ↓WS_app5, ↓App_5, ↓W_move5, ↓W_var6, ↓W_varo6, ↓W_vark6, ↓Set_6, ↓W_ixC6, ↓WS_app6, ↓App_6, ↓W_move6, ↓W_var7, ↓W_varo7, ↓W_vark7, ↓Set_7, ↓W_ixC7, ↓WS_app7, ↓App_7, ↓W_move7, ↓W_var8, ↓W_varo8, ↓W_vark8, ↓Set_8, ↓W_ixC8, ↓WS_app8, ↓App_8, ↓W_move8, ↓W_var9, ↓W_varo9, ↓W_vark9, ↓Set_9, ↓W_ixC9, ↓WS_app9, ↓App_9, ↓W_move9, ↓W_var10, ↓W_varo10, ↓W_vark10, ↓Set_10, ↓W_ixC10, ↓WS_app10, ↓App_10, ↓W_move10, ↓W_var11, ↓W_varo11, ↓W_vark11, ↓Set_11, ↓W_ixC11, ↓WS_app11, ↓App_11, ↓W_move11, ↓W_var12, ↓W_varo12, ↓W_vark12, ↓Set_12, ↓W_ixC12, ↓WS_app12, ↓App_12, ↓W_move12, ↓W_var13, ↓W_varo13, ↓W_vark13, ↓Set_13, ↓W_ixC13, ↓WS_app13, ↓App_13, ↓W_move13, ↓W_var14, ↓W_varo14, ↓W_vark14, ↓Set_14, ↓W_ixC14, ↓WS_app14, ↓App_14, ↓W_move14, ↓W_var15, ↓W_varo15, ↓W_vark15, ↓Set_15, ↓W_ixC15, ↓WS_app15, ↓App_15, ↓W_move15, ↓L_at0, ↓L_at1, ↓L_at2, ↓L_at3, ↓L_at4, ↓L_at5, ↓L_at6, ↓L_at7, ↓L_at8, ↓Put_0, ↓Put_1, ↓Put_2, wipeS, List.set_cons_zero, List.set_cons_succ, List.length_map]
       exact ⟨.inl hp, by omega, by rw [pl_succ]; rfl⟩
     exact nx_of hw
   · rw [din_go (hk n), show (Sum.inl (pw a m n) : Key) = Sum.inl (pw a m t) from C.eq, pl_val (ky := fun i => (Sum.inl (pw a m i) : Key)) hk C.un C.lt]
     rfl
  rw [loop]
  show (fun s => _) (stP a m n)
  unfold stP
  · try simp only [↓W_bind, ↓W_ret, ↓W_lift, ↓L_some, ↓L_map, ↓WS_eseq, ↓WS_seq, ↓WS_nil, ↓WS_pass, ↓WS_break, ↓WS_cont, ↓WS_never, ↓WS_set, ↓WS_ret, ↓WS_retN, ↓WS_drop, ↓WS_asg, ↓WS_if, ↓ifS_t, ↓ifS_f, ↓ifS_not, ↓ifS_dec, ↓ifM_t, ↓ifM_f, ↓ifM_not, ↓ifM_dec, ↓W_C, ↓W_2, ↓W_1, ↓W_A, ↓W_AL, ↓W_2L, ↓W_nilA, ↓W_consA, ↓W_B, ↓L_asB, ↓W_not, ↓W_tnot, ↓W_and, ↓W_or, ↓W_tand, ↓W_tor, ↓W_if, ↓W_chain, ↓L_bindB, ↓W_tup, ↓W_lst, ↓W_dat, ↓W_fz, ↓L_asD, ↓L_asO, ↓W_someI, ↓L_asI, ↓L_asI1, ↓W_noneI, ↓W_slL, ↓L_cut, ↓WS_for, ↓WS_while, ↓WS_put, ↓W_lc0, ↓W_itL, ↓L_asL, ↓W_itT, ↓L_asT, ↓W_itA, ↓W_itES, ↓L_add, ↓L_sub, ↓L_lt, ↓L_le, ↓L_gt, ↓L_ge, ↓L_neg, ↓L_mul, ↓L_mod, ↓L_div, ↓L_pow, ↓L_eqI, ↓L_neI, ↓L_eqL, ↓L_neL, ↓L_eqT, ↓L_neT, ↓L_eqS, ↓L_neS, ↓L_isN, ↓L_isNotN, ↓L_lenL, ↓L_lenT, ↓L_int, ↓L_intb, ↓L_max, ↓L_min, ↓L_cat, ↓L_ixL, ↓L_ixT, ↓L_rep, ↓L_r1, ↓L_r2, ↓L_en, ↓L_enS, ↓L_zip, ↓L_inL, ↓L_ninL, ↓L_isi, ↓L_ii, ↓L_ib, ↓L_il, ↓LB_nil, ↓LB_name, ↓LB_bind, ↓LB_cons, ↓LB_tup, ↓W_call, ↓W_callD, ↓W_aNil, ↓W_aCons, ↓W_aBor, ↓W_callB, ↓W_scr, ↓L_sort, ↓ifM_nT, ↓ifS_nT, ↓ifM_nL, ↓ifS_nL, ↓ifM_nI, ↓ifS_nI, ↓ifM_nS, ↓ifS_nS, ↓ifM_nB, ↓ifS_nB, ↓ifM_nN, ↓ifS_nN, ↓W_var0, ↓W_varo0, ↓W_vark0, ↓Set_0, ↓W_ixC0, ↓WS_app0, ↓App_0, ↓W_move0, ↓W_var1, ↓W_varo1, ↓W_vark1, ↓Set_1, ↓W_ixC1, ↓WS_app1, ↓App_1, ↓W_move1, ↓W_var2, ↓W_varo2, ↓W_vark2, ↓Set_2, ↓W_ixC2, ↓WS_app2, ↓App_2, ↓W_move2, ↓W_var3, ↓W_varo3, ↓W_vark3, ↓Set_3, ↓W_ixC3, ↓WS_app3, ↓App_3, ↓W_move3, ↓W_var4, ↓W_varo4, ↓W_vark4, ↓Set_4, ↓W_ixC4, ↓WS_app4, ↓App_4, ↓W_move4, ↓W_var5, ↓W_varo5, ↓W_vark5, ↓Set_5, ↓W_ixC5, ↓WS_app5, ↓App_5, ↓W_move5, ↓W_var6, ↓W_varo6, ↓W_vark6, ↓Set_6, ↓W_ixC6, ↓WS_app6, ↓App_6, ↓W_move6, ↓W_var7, ↓W_varo7, ↓W_vark7, ↓Set_7, ↓W_ixC7, ↓WS_app7, ↓App_7, ↓W_move7, ↓W_var8, ↓W_varo8, ↓W_vark8, ↓Set_8, ↓W_ixC8, ↓WS_app8, ↓App_8, ↓W_move8, ↓W_var9, ↓W_varo9, ↓W_vark9, ↓Set_9, ↓W_ixC9, ↓WS_app9, ↓App_9, ↓W_move9, ↓W_var10, ↓W_varo10, ↓W_vark10, ↓Set_10, ↓W_ixC10, ↓WS_app10, ↓App_10, ↓W_move10, ↓W_var11, ↓W_varo11, ↓W_vark11, ↓Set_11, ↓W_ixC11, ↓WS_app11, ↓App_11, ↓W_move11, ↓W_var12, ↓W_varo12, ↓W_vark12, ↓Set_12, ↓W_ixC12, ↓WS_app12, ↓App_12, ↓W_move12, ↓W_var13, ↓W_varo13, ↓W_vark13, ↓Set_13, ↓W_ixC13, ↓WS_app13, ↓App_13, ↓W_move13, ↓W_var14, ↓W_varo14, ↓W_vark14, ↓Set_14, ↓W_ixC14, ↓WS_app14, ↓App_14, ↓W_move14, ↓W_var15, ↓W_varo15, ↓W_vark15, ↓Set_15, ↓W_ixC15, ↓WS_app15, ↓App_15, ↓W_move15, ↓L_at0, ↓L_at1, ↓L_at2, ↓L_at3, ↓L_at4, ↓L_at5, ↓L_at6, ↓L_at7, ↓L_at8, ↓Put_0, ↓Put_1, ↓Put_2, wipeS, List.set_cons_zero, List.set_cons_succ, List.length_map]
    have ev1 : valD (pl (fun i => .int (pw a m i)) n) (Sum.inl (pw a m n)) = some (.int (t : Nat)) := by
      rw [show (Sum.inl (pw a m n) : Key) = Sum.inl (pw a m t) from C.eq]
      exact pl_val (ky := fun i => (Sum.inl (pw a m i) : Key)) hk C.un C.lt
    refine W_eq (dget_go (hk n) ev1) ?_
    simp only [W_dlen2, pl_len, ↓W_bind, ↓W_ret, ↓W_lift, ↓L_some, ↓L_map, ↓WS_eseq, ↓WS_seq, ↓WS_nil, ↓WS_pass, ↓WS_break, ↓WS_cont, ↓WS_never, ↓WS_set, ↓WS_ret, ↓WS_retN, ↓WS_drop, ↓WS_asg, ↓WS_if, ↓ifS_t, ↓ifS_f, ↓ifS_not, ↓ifS_dec, ↓ifM_t, ↓ifM_f, ↓ifM_not, ↓ifM_dec, ↓W_C, ↓W_2, ↓W_1, ↓W_A, ↓W_AL, ↓W_2L, ↓W_nilA, ↓W_consA, ↓W_B, ↓L_asB, ↓W_not, ↓W_tnot, ↓W_and, ↓W_or, ↓W_tand, ↓W_tor, ↓W_if, ↓W_chain, ↓L_bindB, ↓W_tup, ↓W_lst, ↓W_dat, ↓W_fz, ↓L_asD, ↓L_asO, ↓W_someI, ↓L_asI, ↓L_asI1, ↓W_noneI, ↓W_slL, ↓L_cut, ↓WS_for, ↓WS_while, ↓WS_put, ↓W_lc0, ↓W_itL, ↓L_asL, ↓W_itT, ↓L_asT, ↓W_itA, ↓W_itES, ↓L_add, ↓L_sub, ↓L_lt, ↓L_le, ↓L_gt, ↓L_ge, ↓L_neg, ↓L_mul, ↓L_mod, ↓L_div, ↓L_pow, ↓L_eqI, ↓L_neI, ↓L_eqL, ↓L_neL, ↓L_eqT, ↓L_neT, ↓L_eqS, ↓L_neS, ↓L_isN, ↓L_isNotN, ↓L_lenL, ↓L_lenT, ↓L_int, ↓L_intb, ↓L_max, ↓L_min, ↓L_cat, ↓L_ixL, ↓L_ixT, ↓L_rep, ↓L_r1, ↓L_r2, ↓L_en, ↓L_enS, ↓L_zip, ↓L_inL, ↓L_ninL, ↓L_isi, ↓L_ii, ↓L_ib, ↓L_il, ↓LB_nil, ↓LB_name, ↓LB_bind, ↓LB_cons, ↓LB_tup, ↓W_call, ↓W_callD, ↓W_aNil, ↓W_aCons, ↓W_aBor, ↓W_callB, ↓W_scr, ↓L_sort, ↓ifM_nT, ↓ifS_nT, ↓ifM_nL, ↓ifS_nL, ↓ifM_nI, ↓ifS_nI, ↓ifM_nS, ↓ifS_nS, ↓ifM_nB, ↓ifS_nB, ↓ifM_nN, ↓ifS_nN, ↓W_var0, ↓W_varo0, ↓W_vark0, ↓Set_0, ↓W_ixC0, ↓WS_app0, ↓App_0, ↓W_move0, ↓W_var1, ↓W_varo1, ↓W_vark1, ↓Set_1, ↓W_ixC1, ↓WS_app1, ↓App_1, ↓W_move1, ↓W_var2, ↓W_varo2, ↓W_vark2, ↓Set_2, ↓W_ixC2, ↓WS_app2, ↓App_2, ↓W_move2, ↓W_var3, ↓W_varo3, ↓W_vark3, ↓Set_3, ↓W_ixC3, ↓WS_app3, ↓App_3, ↓W_move3, ↓W_var4, ↓W_varo4, ↓W_vark4, ↓Set_4, ↓W_ixC4, ↓WS_app4, ↓App_4, ↓W_move4, ↓W_var5, ↓W_varo5, ↓W_vark5, ↓Set_5, ↓W_ixC5, ↓WS_app5, ↓App_5, ↓W_move5, ↓W_var6, ↓W_varo6, ↓W_vark6, ↓Set_6, ↓W_ixC6, ↓WS_app6, ↓App_6, ↓W_move6, ↓W_var7, ↓W_varo7, ↓W_vark7, ↓Set_7, ↓W_ixC7, ↓WS_app7, ↓App_7, ↓W_move7, ↓W_var8, ↓W_varo8, ↓W_vark8, ↓Set_8, ↓W_ixC8, ↓WS_app8, ↓App_8, ↓W_move8, ↓W_var9, ↓W_varo9, ↓W_vark9, ↓Set_9, ↓W_ixC9, ↓WS_app9, ↓App_9, ↓W_move9, ↓W_var10, ↓W_varo10, ↓W_vark10, ↓Set_10, ↓W_ixC10, ↓WS_app10, ↓App_10, ↓W_move10, ↓W_var11, ↓W_varo11, ↓W_vark11, ↓Set_11, ↓W_ixC11, ↓WS_app11, ↓App_11, ↓W_move11, ↓W_var12, ↓W_varo12, ↓W_vark12, ↓Set_12, ↓W_ixC12, ↓WS_app12, ↓App_12, ↓W_move12, ↓W_var13, ↓W_varo13, ↓W_vark13, ↓Set_13, ↓W_ixC13, ↓WS_app13, ↓App_13, ↓W_move13, ↓W_var14, ↓W_varo14, ↓W_vark14, ↓Set_14, ↓W_ixC14, ↓WS_app14, ↓App_14, ↓W_move14, ↓W_var15, ↓W_varo15, ↓W_vark15, ↓Set_15, ↓W_ixC15, ↓WS_app15, ↓App_15, ↓W_move15, ↓L_at0, ↓L_at1, ↓L_at2, ↓L_at3, ↓L_at4, ↓L_at5, ↓L_at6, ↓L_at7, ↓L_at8, ↓Put_0, ↓Put_1, ↓Put_2, wipeS, List.set_cons_zero, List.set_cons_succ, List.length_map]
    refine W_eq (dget_go (hk n) ev1) ?_
    try simp only [↓W_bind, ↓W_ret, ↓W_lift, ↓L_some, ↓L_map, ↓WS_eseq, ↓WS_seq, ↓WS_nil, ↓WS_pass, ↓WS_break, ↓WS_cont, ↓WS_never, ↓WS_set, ↓WS_ret, ↓WS_retN, ↓WS_drop, ↓WS_asg, ↓WS_if, ↓ifS_t, ↓ifS_f, ↓ifS_not, ↓ifS_dec, ↓ifM_t, ↓ifM_f, ↓ifM_not, ↓ifM_dec, ↓W_C, ↓W_2, ↓W_1, ↓W_A, ↓W_AL, ↓W_2L, ↓W_nilA, ↓W_consA, ↓W_B, ↓L_asB, ↓W_not, ↓W_tnot, ↓W_and, ↓W_or, ↓W_tand, ↓W_tor, ↓W_if, ↓W_chain, ↓L_bindB, ↓W_tup, ↓W_lst, ↓W_dat, ↓W_fz, ↓L_asD, ↓L_asO, ↓W_someI, ↓L_asI, ↓L_asI1, ↓W_noneI, ↓W_slL, ↓L_cut, ↓WS_for, ↓WS_while, ↓WS_put, ↓W_lc0, ↓W_itL, ↓L_asL, ↓W_itT, ↓L_asT, ↓W_itA, ↓W_itES, ↓L_add, ↓L_sub, ↓L_lt, ↓L_le, ↓L_gt, ↓L_ge, ↓L_neg, ↓L_mul, ↓L_mod, ↓L_div, ↓L_pow, ↓L_eqI, ↓L_neI, ↓L_eqL, ↓L_neL, ↓L_eqT, ↓L_neT, ↓L_eqS, ↓L_neS, ↓L_isN, ↓L_isNotN, ↓L_lenL, ↓L_lenT, ↓L_int, ↓L_intb, ↓L_max, ↓L_min, ↓L_cat, ↓L_ixL, ↓L_ixT, ↓L_rep, ↓L_r1, ↓L_r2, ↓L_en, ↓L_enS, ↓L_zip, ↓L_inL, ↓L_ninL, ↓L_isi, ↓L_ii, ↓L_ib, ↓L_il, ↓LB_nil, ↓LB_name, ↓LB_bind, ↓LB_cons, ↓LB_tup, ↓W_call, ↓W_callD, ↓W_aNil, ↓W_aCons, ↓W_aBor, ↓W_callB, ↓W_scr, ↓L_sort, ↓ifM_nT, ↓ifS_nT, ↓ifM_nL, ↓ifS_nL, ↓ifM_nI, ↓ifS_nI, ↓ifM_nS, ↓ifS_nS, ↓ifM_nB, ↓ifS_nB, ↓ifM_nN, ↓ifS_nN, ↓W_var0, ↓W_varo0, ↓W_vark0, ↓Set_0, ↓W_ixC0, ↓WS_app0, ↓App_0, ↓W_move0, ↓W_var1, ↓W_varo1, ↓W_vark1, ↓Set_1, ↓W_ixC1, ↓WS_app1, ↓App_1, ↓W_move1, ↓W_var2, ↓W_varo2, ↓W_vark2, ↓Set_2, ↓W_ixC2, ↓WS_app2, ↓App_2, ↓W_move2, ↓W_var3, ↓W_varo3, ↓W_vark3, ↓Set_3, ↓W_ixC3, ↓WS_app3, ↓App_3, ↓W_move3, ↓W_var4, ↓W_varo4, ↓W_vark4, ↓Set_4, ↓W_ixC4, ↓WS_app4, ↓App_4, ↓W_move4, ↓W_var5, ↓W_varo5, ↓W_vark5, ↓Set_5, ↓W_ixC5, ↓WS_app5, ↓App_5, ↓W_move5, ↓W_var6, ↓W_varo6, ↓W_vark6, ↓Set_6, ↓W_ixC6, ↓WS_app6, ↓App_6, ↓W_move6, ↓W_var7, ↓W_varo7, ↓W_vark7, ↓Set_7, ↓W_ixC7, ↓WS_app7, ↓App_7, ↓W_move7, ↓W_var8, ↓W_varo8, ↓W_vark8, ↓Set_8, ↓W_ixC8, ↓WS_app8, ↓App_8, ↓W_move8, ↓W_var9, ↓W_varo9, ↓W_vark9, ↓Set_9, ↓W_ixC9, ↓WS_app9, ↓App_9, ↓W_move9, ↓W_var10, ↓W_varo10, ↓W_vark10, ↓Set_10, ↓W_ixC10, ↓WS_app10, ↓App_10, ↓W_move10, ↓W_var11, ↓W_varo11, ↓W_vark11, ↓Set_11, ↓W_ixC11, ↓WS_app11, ↓App_11, ↓W_move11, ↓W_var12, ↓W_varo12, ↓W_vark12, ↓Set_12, ↓W_ixC12, ↓WS_app12, ↓App_12, ↓W_move12, ↓W_var13, ↓W_varo13, ↓W_vark13, ↓Set_13, ↓W_ixC13, ↓WS_app13, ↓App_13, ↓W_move13, ↓W_var14, ↓W_varo14, ↓W_vark14, ↓Set_14, ↓W_ixC14, ↓WS_app14, ↓App_14, ↓W_move14, ↓W_var15, ↓W_varo15, ↓W_vark15, ↓Set_15, ↓W_ixC15, ↓WS_app15, ↓App_15, ↓W_move15, ↓L_at0, ↓L_at1, ↓L_at2, ↓L_at3, ↓L_at4, ↓L_at5, ↓L_at6, ↓L_at7, ↓L_at8, ↓Put_0, ↓Put_1, ↓Put_2, wipeS, List.set_cons_zero, List.set_cons_succ, List.length_map]
    exact ⟨by simp, trivial, by simp⟩
/-! ### the dict of all numbers -/
def mulD (a m : Int) (n : Nat) : List (PyData × PyData) := (List.range n).map fun j => (.int (j : Nat), .int ((j : Nat) * a % m))
theorem mulD_val {a m : Int} : ∀ {n : Nat} {v : Int}, 0 ≤ v → v < n → valD (mulD a m n) (.inl v) = some (.int (v * a % m))
  | 0, v, h, k => by omega
  | n + 1, v, h, k => by
    unfold mulD
    rw [List.range_succ, List.map_append, List.map_cons, List.map_nil, valD_app]
    by_cases c : v = n
    · subst c
      have none : ∀ n : Nat, valD ((List.range n).map fun j => (PyData.int (j : Nat), PyData.int ((j : Nat) * a % m))) (.inl (n : Int)) = none := fun n => by
        have gen : ∀ k : Nat, k ≤ n → valD ((List.range k).map fun j => (PyData.int (j : Nat), PyData.int ((j : Nat) * a % m))) (.inl (n : Int)) = none := fun k => by
          induction k with
          | zero => exact fun _ => rfl
          | succ k ih =>
            intro hk
            rw [List.range_succ, List.map_append, List.map_cons, List.map_nil, valD_app, ih (by omega)]
            dsimp only
            rw [if_neg fun z => by
              have := Sum.inl.inj (Option.some.inj z)
              omega]
        exact gen n (Nat.le_refl _)
      rw [none]
      dsimp only
      rw [if_pos (show keyOf (PyData.int (n : Int)) = some (Sum.inl (n : Int)) from rfl)]
    · have := mulD_val (a := a) (m := m) (n := n) (v := v) h (by omega)
      unfold mulD at this
      rw [this]
def mapI (vf : Nat → PyData) (n : Nat) : List (PyData × PyData) := (List.range n).map fun j => (.int (j : Nat), vf j)
theorem mapI_succ {vf : Nat → PyData} {n : Nat} : mapI vf (n + 1) = mapI vf n ++ [(.int (n : Nat), vf n)] := by
  unfold mapI
  rw [List.range_succ, List.map_append]
  rfl
theorem mapI_len {vf : Nat → PyData} {n : Nat} : (mapI vf n).length = n := by
  unfold mapI
  rw [List.length_map, List.length_range]
theorem mapI_new {vf : Nat → PyData} : ∀ {k n : Nat}, k ≤ n → valD (mapI vf k) (.inl (n : Int)) = none
  | 0, _, _ => rfl
  | k + 1, n, h => by
    rw [mapI_succ, valD_app, mapI_new (by omega)]
    dsimp only
    rw [if_neg fun z => by
      have := Sum.inl.inj (Option.some.inj z)
      omega]
theorem W_dc {vs : List Nat} {it : M (List PyData)} {b : PyData → List SV → Option (List SV)} {t : M Bool} {fk fv : M PyData} {ss : List SV} {P : SV → List SV → Prop} : W (mDc vs it b t fk fv ss) P ↔ W (it ss) fun ds s => W (dcGo vs b t fk fv ds [] (wipeS s vs)) P := by
  unfold mDc
  rw [W_bind]
theorem W_dcR {vs : List Nat} {b : PyData → List SV → Option (List SV)} {t : M Bool} {fk fv : M PyData} {P : SV → List SV → Prop} (J : List SV → Prop) (vf : Nat → PyData) {n : Nat} (hn : n ≤ 1000000)
    (st : ∀ j, j < n → ∀ s, J s → LB (b (.int (j : Nat)) s) fun s1 => W (t s1) fun v s2 => v = true ∧ W (fk s2) fun k s3 => W (fv s3) fun y s4 => k = .int (j : Nat) ∧ y = vf j ∧ J (wipeS s4 vs))
    (e : ∀ s, J s → P (.odk none (mapI vf n)) s) : ∀ {k j : Nat} {ss : List SV}, j + k = n → J ss → W (dcGo vs b t fk fv ((List.range' j k).map fun i => PyData.int (i : Nat)) (mapI vf j) ss) P
  | 0, j, ss, h, hj => by
    have : j = n := by omega
    subst this
    exact e ss hj
  | k + 1, j, ss, h, hj => by
    rw [List.range'_succ, List.map_cons]
    unfold dcGo
    obtain ⟨s1, h1, h2⟩ := st j (by omega) ss hj
    rw [h1]
    dsimp only
    cases q2 : t s1 with
    | none => rw [q2] at h2; exact h2.elim
    | some r =>
      rw [q2] at h2
      cases r with
      | exc c fs => exact h2.elim
      | val v s2 =>
        obtain ⟨rfl, h3⟩ := (show v = true ∧ _ from h2)
        dsimp only
        cases q3 : fk s2 with
        | none => rw [q3] at h3; exact h3.elim
        | some r =>
          rw [q3] at h3
          cases r with
          | exc c fs => exact (show False from h3).elim
          | val kd s3 =>
            dsimp only
            have h3 : W (fv s3) fun y s4 => kd = .int (j : Nat) ∧ y = vf j ∧ J (wipeS s4 vs) := h3
            cases q4 : fv s3 with
            | none => rw [q4] at h3; exact h3.elim
            | some r =>
              rw [q4] at h3
              cases r with
              | exc c fs => exact (show False from h3).elim
              | val y s4 =>
                obtain ⟨rfl, rfl, h5⟩ := (show kd = .int (j : Nat) ∧ y = vf j ∧ J (wipeS s4 vs) from h3)
                show W (if few (mapI vf j).length = true then dcGo vs b t fk fv ((List.range' (j + 1) k).map fun i => PyData.int (i : Nat)) (putD (mapI vf j) (.int (j : Nat)) (.inl (j : Int)) (vf j)) (wipeS s4 vs) else none) P
                rw [if_pos (few_of (by rw [mapI_len]; omega)), putD_new (mapI_new (Nat.le_refl _)), ← mapI_succ]
                exact W_dcR J vf hn st e (by omega) h5
theorem L_asK {lb : Option Nat} {ks : List (PyData × PyData)} {s : List SV} {P : PyData → List SV → Prop} : L (asD (.odk lb ks)) s P ↔ P (.dict ks) s := by simp [asD, L]
theorem t_cof {a m : Int} (h : 1 ≤ m) (h2 : m ≤ 10000) {t n : Nat} (C : Cyc (fun i => (Sum.inl (pw a m i) : Key)) t n) (hn : n ≤ 10000) : Tl F_cycle_of_factor [.dat (.int a), .dat (.int m)] (.dat (.tuple [.int (t : Nat), .int ((n : Nat) - (t : Nat))])) := by
  refine Tl_def rfl rfl ?_
  simp only [List.cons_append, List.nil_append, List.replicate_succ, List.replicate_zero, Nat.reduceSub, Nat.sub_self]
  unfold B_cycle_of_factor
  simp only [Fn_1 t_factor, Fn_1 (t_modulus h h2), W_dc, ↓W_bind, ↓W_ret, ↓W_lift, ↓L_some, ↓L_map, ↓WS_eseq, ↓WS_seq, ↓WS_nil, ↓WS_pass, ↓WS_break, ↓WS_cont, ↓WS_never, ↓WS_set, ↓WS_ret, ↓WS_retN, ↓WS_drop, ↓WS_asg, ↓WS_if, ↓ifS_t, ↓ifS_f, ↓ifS_not, ↓ifS_dec, ↓ifM_t, ↓ifM_f, ↓ifM_not, ↓ifM_dec, ↓W_C, ↓W_2, ↓W_1, ↓W_A, ↓W_AL, ↓W_2L, ↓W_nilA, ↓W_consA, ↓W_B, ↓L_asB, ↓W_not, ↓W_tnot, ↓W_and, ↓W_or, ↓W_tand, ↓W_tor, ↓W_if, ↓W_chain, ↓L_bindB, ↓W_tup, ↓W_lst, ↓W_dat, ↓W_fz, ↓L_asD, ↓L_asO, ↓W_someI, ↓L_asI, ↓L_asI1, ↓W_noneI, ↓W_slL, ↓L_cut, ↓WS_for, ↓WS_while, ↓WS_put, ↓W_lc0, ↓W_itL, ↓L_asL, ↓W_itT, ↓L_asT, ↓W_itA, ↓W_itES, ↓L_add, ↓L_sub, ↓L_lt, ↓L_le, ↓L_gt, ↓L_ge, ↓L_neg, ↓L_mul, ↓L_mod, ↓L_div, ↓L_pow, ↓L_eqI, ↓L_neI, ↓L_eqL, ↓L_neL, ↓L_eqT, ↓L_neT, ↓L_eqS, ↓L_neS, ↓L_isN, ↓L_isNotN, ↓L_lenL, ↓L_lenT, ↓L_int, ↓L_intb, ↓L_max, ↓L_min, ↓L_cat, ↓L_ixL, ↓L_ixT, ↓L_rep, ↓L_r1, ↓L_r2, ↓L_en, ↓L_enS, ↓L_zip, ↓L_inL, ↓L_ninL, ↓L_isi, ↓L_ii, ↓L_ib, ↓L_il, ↓LB_nil, ↓LB_name, ↓LB_bind, ↓LB_cons, ↓LB_tup, ↓W_call, ↓W_callD, ↓W_aNil, ↓W_aCons, ↓W_aBor, ↓W_callB, ↓W_scr, ↓L_sort, ↓ifM_nT, ↓ifS_nT, ↓ifM_nL, ↓ifS_nL, ↓ifM_nI, ↓ifS_nI, ↓ifM_nS, ↓ifS_nS, ↓ifM_nB, ↓ifS_nB, ↓ifM_nN, ↓ifS_nN, ↓W_var0, ↓W_varo0, ↓W_vark0, ↓Set_0, ↓W_ixC0, ↓WS_app0, ↓App_0, ↓W_move0, ↓W_var1, ↓W_varo1, ↓W_vark1, ↓Set_1, ↓W_ixC1, ↓WS_app1, ↓App_1, ↓W_move1, ↓W_var2, ↓W_varo2, ↓W_vark2, ↓Set_2, ↓W_ixC2, ↓WS_app2, ↓App_2, ↓W_move2, ↓W_var3, ↓W_varo3, ↓W_vark3, ↓Set_3, ↓W_ixC3, ↓WS_app3, ↓App_3, ↓W_move3, ↓W_var4, ↓W_varo4, ↓W_vark4, ↓Set_4, ↓W_ixC4, ↓WS_app4, ↓App_4, ↓W_move4, ↓W_var5, ↓W_varo5, ↓W_vark5, ↓Set_5, ↓W_ixC5, ↓WS_app5, ↓App_5, ↓W_move5, ↓W_var6, ↓W_varo6, ↓W_vark6, ↓Set_6, ↓W_ixC6, ↓WS_app6, ↓App_6, ↓W_move6, ↓W_var7, ↓W_varo7, ↓W_vark7, ↓Set_7, ↓W_ixC7, ↓WS_app7, ↓App_7, ↓W_move7, ↓W_var8, ↓W_varo8, ↓W_vark8, ↓Set_8, ↓W_ixC8, ↓WS_app8, ↓App_8, ↓W_move8, ↓W_var9, ↓W_varo9, ↓W_vark9, ↓Set_9, ↓W_ixC9, ↓WS_app9, ↓App_9, ↓W_move9, ↓W_var10, ↓W_varo10, ↓W_vark10, ↓Set_10, ↓W_ixC10, ↓WS_app10, ↓App_10, ↓W_move10, ↓W_var11, ↓W_varo11, ↓W_vark11, ↓Set_11, ↓W_ixC11, ↓WS_app11, ↓App_11, ↓W_move11, ↓W_var12, ↓W_varo12, ↓W_vark12, ↓Set_12, ↓W_ixC12, ↓WS_app12, ↓App_12, ↓W_move12, ↓W_var13, ↓W_varo13, ↓W_vark13, ↓Set_13, ↓W_ixC13, ↓WS_app13, ↓App_13, ↓W_move13, ↓W_var14, ↓W_varo14, ↓W_vark14, ↓Set_14, ↓W_ixC14, ↓WS_app14, ↓App_14, ↓W_move14, ↓W_var15, ↓W_varo15, ↓W_vark15, ↓Set_15, ↓W_ixC15, ↓WS_app15, ↓App_15, ↓W_move15, ↓L_at0, ↓L_at1, ↓L_at2, ↓L_at3, ↓L_at4, ↓L_at5, ↓L_at6, ↓L_at7, ↓L_at8, ↓Put_0, ↓Put_1, ↓Put_2, wipeS, List.set_cons_zero, List.set_cons_succ, List.length_map]
  refine ⟨by omega, by simp [small62]; omega, ?_⟩
  have er : rngD 0 m.toNat = (List.range' 0 m.toNat).map fun i => PyData.int (i : Nat) := by
    unfold rngD
    rw [List.range_eq_range']
    exact List.map_congr_left fun i _ => by rw [Int.zero_add]
  rw [er]
  refine W_dcR (fun s => s = [.dat (.int a), .dat (.int m), .gone]) (fun j => .int ((j : Nat) * a % m)) (n := m.toNat) (by omega) (fun j hj s hs => ?_) (fun s hs => ?_) (Nat.zero_add _) rfl
  · subst hs
    try simp only [↓W_bind, ↓W_ret, ↓W_lift, ↓L_some, ↓L_map, ↓WS_eseq, ↓WS_seq, ↓WS_nil, ↓WS_pass, ↓WS_break, ↓WS_cont, ↓WS_never, ↓WS_set, ↓WS_ret, ↓WS_retN, ↓WS_drop, ↓WS_asg, ↓WS_if, ↓ifS_t, ↓ifS_f, ↓ifS_not, ↓ifS_dec, ↓ifM_t, ↓ifM_f, ↓ifM_not, ↓ifM_dec, ↓W_C, ↓W_2, ↓W_1, ↓W_A, ↓W_AL, ↓W_2L, ↓W_nilA, ↓W_consA, ↓W_B, ↓L_asB, ↓W_not, ↓W_tnot, ↓W_and, ↓W_or, ↓W_tand, ↓W_tor, ↓W_if, ↓W_chain, ↓L_bindB, ↓W_tup, ↓W_lst, ↓W_dat, ↓W_fz, ↓L_asD, ↓L_asO, ↓W_someI, ↓L_asI, ↓L_asI1, ↓W_noneI, ↓W_slL, ↓L_cut, ↓WS_for, ↓WS_while, ↓WS_put, ↓W_lc0, ↓W_itL, ↓L_asL, ↓W_itT, ↓L_asT, ↓W_itA, ↓W_itES, ↓L_add, ↓L_sub, ↓L_lt, ↓L_le, ↓L_gt, ↓L_ge, ↓L_neg, ↓L_mul, ↓L_mod, ↓L_div, ↓L_pow, ↓L_eqI, ↓L_neI, ↓L_eqL, ↓L_neL, ↓L_eqT, ↓L_neT, ↓L_eqS, ↓L_neS, ↓L_isN, ↓L_isNotN, ↓L_lenL, ↓L_lenT, ↓L_int, ↓L_intb, ↓L_max, ↓L_min, ↓L_cat, ↓L_ixL, ↓L_ixT, ↓L_rep, ↓L_r1, ↓L_r2, ↓L_en, ↓L_enS, ↓L_zip, ↓L_inL, ↓L_ninL, ↓L_isi, ↓L_ii, ↓L_ib, ↓L_il, ↓LB_nil, ↓LB_name, ↓LB_bind, ↓LB_cons, ↓LB_tup, ↓W_call, ↓W_callD, ↓W_aNil, ↓W_aCons, ↓W_aBor, ↓W_callB, ↓W_scr, ↓L_sort, ↓ifM_nT, ↓ifS_nT, ↓ifM_nL, ↓ifS_nL, ↓ifM_nI, ↓ifS_nI, ↓ifM_nS, ↓ifS_nS, ↓ifM_nB, ↓ifS_nB, ↓ifM_nN, ↓ifS_nN, ↓W_var0, ↓W_varo0, ↓W_vark0, ↓Set_0, ↓W_ixC0, ↓WS_app0, ↓App_0, ↓W_move0, ↓W_var1, ↓W_varo1, ↓W_vark1, ↓Set_1, ↓W_ixC1, ↓WS_app1, ↓App_1, ↓W_move1, ↓W_var2, ↓W_varo2, ↓W_vark2, ↓Set_2, ↓W_ixC2, ↓WS_app2, ↓App_2, ↓W_move2, ↓W_var3, ↓W_varo3, ↓W_vark3, ↓Set_3, ↓W_ixC3, ↓WS_app3, ↓App_3, ↓W_move3, ↓W_var4, ↓W_varo4, ↓W_vark4, ↓Set_4, ↓W_ixC4, ↓WS_app4, ↓App_4, ↓W_move4, ↓W_var5, ↓W_varo5, ↓W_vark5, ↓Set_5, ↓W_ixC5, ↓WS_app5, ↓App_5, ↓W_move5, ↓W_var6, ↓W_varo6, ↓W_vark6, ↓Set_6, ↓W_ixC6, ↓WS_app6, ↓App_6, ↓W_move6, ↓W_var7, ↓W_varo7, ↓W_vark7, ↓Set_7, ↓W_ixC7, ↓WS_app7, ↓App_7, ↓W_move7, ↓W_var8, ↓W_varo8, ↓W_vark8, ↓Set_8, ↓W_ixC8, ↓WS_app8, ↓App_8, ↓W_move8, ↓W_var9, ↓W_varo9, ↓W_vark9, ↓Set_9, ↓W_ixC9, ↓WS_app9, ↓App_9, ↓W_move9, ↓W_var10, ↓W_varo10, ↓W_vark10, ↓Set_10, ↓W_ixC10, ↓WS_app10, ↓App_10, ↓W_move10, ↓W_var11, ↓W_varo11, ↓W_vark11, ↓Set_11, ↓W_ixC11, ↓WS_app11, ↓App_11, ↓W_move11, ↓W_var12, ↓W_varo12, ↓W_vark12, ↓Set_12, ↓W_ixC12, ↓WS_app12, ↓App_12, ↓W_move12, ↓W_var13, ↓W_varo13, ↓W_vark13, ↓Set_13, ↓W_ixC13, ↓WS_app13, ↓App_13, ↓W_move13, ↓W_var14, ↓W_varo14, ↓W_vark14, ↓Set_14, ↓W_ixC14, ↓WS_app14, ↓App_14, ↓W_move14, ↓W_var15, ↓W_varo15, ↓W_vark15, ↓Set_15, ↓W_ixC15, ↓WS_app15, ↓App_15, ↓W_move15, ↓L_at0, ↓L_at1, ↓L_at2, ↓L_at3, ↓L_at4, ↓L_at5, ↓L_at6, ↓L_at7, ↓L_at8, ↓Put_0, ↓Put_1, ↓Put_2, wipeS, List.set_cons_zero, List.set_cons_succ, List.length_map]
    exact ⟨trivial, .inl ⟨by omega, by omega⟩, by omega, trivial, trivial, trivial⟩
  · subst hs
    have hx : ∀ i, kDGet (.dict (mapI (fun j => .int ((j : Nat) * a % m)) m.toNat)) (.int (pw a m i)) = some (.int (pw a m (i + 1))) := fun i => by
      obtain ⟨p0, p1⟩ := pw_in (a := a) h i
      exact mulD_val (n := m.toNat) p0 (by omega)
    have T := t_cycle (x := fun i => .int (pw a m i)) (ky := fun i => .inl (pw a m i)) (fun _ => rfl) C (by omega) hx
    rw [L_asK, show PyData.int (1 % m) = .int (pw a m 0) from rfl, Fn_2 T]
    exact ⟨rfl, by simp⟩
theorem okShow_2 {t : Nat} {z : Int} (h1 : t ≤ 100000) (h2 : 0 ≤ z) (h3 : z ≤ 100000) : okShow (.tuple [.int (t : Nat), .int z]) = true := by
  refine (Sm.tuple (k := 0) (n := 13) (m := 2) (fun d hd => ?_) (by simp)).ok (by decide) (by decide)
  simp only [List.mem_cons, List.not_mem_nil, or_false] at hd
  rcases hd with rfl | rfl
  · exact Sm.int (by omega)
  · exact Sm.int (by omega)
theorem t_fright {a m : Int} (h : 1 ≤ m) (h2 : m ≤ 10000) : Tl F_l_factor_right [.dat (.int a), .dat (.int m)] (.dat (.bool true)) := by
  obtain ⟨t, n, C, hn⟩ := pw_cyc (a := a) h h2
  have T1 := t_powers h h2 C hn
  have T2 := t_cof h h2 C hn
  have lt := C.lt
  have sh := okShow_2 (t := t) (z := (n : Nat) - (t : Nat)) (by omega) (by omega) (by omega)
  refine Tl_def rfl rfl ?_
  simp only [List.cons_append, List.nil_append, List.replicate_succ, List.replicate_zero, Nat.reduceSub, Nat.sub_self]
  unfold B_l_factor_right
  simp only [Fn_2 T1, Fn_2 T2, pk_cycle_of_factor_modulus_factor, ↓W_bind, ↓W_ret, ↓W_lift, ↓L_some, ↓L_map, ↓WS_eseq, ↓WS_seq, ↓WS_nil, ↓WS_pass, ↓WS_break, ↓WS_cont, ↓WS_never, ↓WS_set, ↓WS_ret, ↓WS_retN, ↓WS_drop, ↓WS_asg, ↓WS_if, ↓ifS_t, ↓ifS_f, ↓ifS_not, ↓ifS_dec, ↓ifM_t, ↓ifM_f, ↓ifM_not, ↓ifM_dec, ↓W_C, ↓W_2, ↓W_1, ↓W_A, ↓W_AL, ↓W_2L, ↓W_nilA, ↓W_consA, ↓W_B, ↓L_asB, ↓W_not, ↓W_tnot, ↓W_and, ↓W_or, ↓W_tand, ↓W_tor, ↓W_if, ↓W_chain, ↓L_bindB, ↓W_tup, ↓W_lst, ↓W_dat, ↓W_fz, ↓L_asD, ↓L_asO, ↓W_someI, ↓L_asI, ↓L_asI1, ↓W_noneI, ↓W_slL, ↓L_cut, ↓WS_for, ↓WS_while, ↓WS_put, ↓W_lc0, ↓W_itL, ↓L_asL, ↓W_itT, ↓L_asT, ↓W_itA, ↓W_itES, ↓L_add, ↓L_sub, ↓L_lt, ↓L_le, ↓L_gt, ↓L_ge, ↓L_neg, ↓L_mul, ↓L_mod, ↓L_div, ↓L_pow, ↓L_eqI, ↓L_neI, ↓L_eqL, ↓L_neL, ↓L_eqT, ↓L_neT, ↓L_eqS, ↓L_neS, ↓L_isN, ↓L_isNotN, ↓L_lenL, ↓L_lenT, ↓L_int, ↓L_intb, ↓L_max, ↓L_min, ↓L_cat, ↓L_ixL, ↓L_ixT, ↓L_rep, ↓L_r1, ↓L_r2, ↓L_en, ↓L_enS, ↓L_zip, ↓L_inL, ↓L_ninL, ↓L_isi, ↓L_ii, ↓L_ib, ↓L_il, ↓LB_nil, ↓LB_name, ↓LB_bind, ↓LB_cons, ↓LB_tup, ↓W_call, ↓W_callD, ↓W_aNil, ↓W_aCons, ↓W_aBor, ↓W_callB, ↓W_scr, ↓L_sort, ↓ifM_nT, ↓ifS_nT, ↓ifM_nL, ↓ifS_nL, ↓ifM_nI, ↓ifS_nI, ↓ifM_nS, ↓ifS_nS, ↓ifM_nB, ↓ifS_nB, ↓ifM_nN, ↓ifS_nN, ↓W_var0, ↓W_varo0, ↓W_vark0, ↓Set_0, ↓W_ixC0, ↓WS_app0, ↓App_0, ↓W_move0, ↓W_var1, ↓W_varo1, ↓W_vark1, ↓Set_1, ↓W_ixC1, ↓WS_app1, ↓App_1, ↓W_move1, ↓W_var2, ↓W_varo2, ↓W_vark2, ↓Set_2, ↓W_ixC2, ↓WS_app2, ↓App_2, ↓W_move2, ↓W_var3, ↓W_varo3, ↓W_vark3, ↓Set_3, ↓W_ixC3, ↓WS_app3, ↓App_3, ↓W_move3, ↓W_var4, ↓W_varo4, ↓W_vark4, ↓Set_4, ↓W_ixC4, ↓WS_app4, ↓App_4, ↓W_move4, ↓W_var5, ↓W_varo5, ↓W_vark5, ↓Set_5, ↓W_ixC5, ↓WS_app5, ↓App_5, ↓W_move5, ↓W_var6, ↓W_varo6, ↓W_vark6, ↓Set_6, ↓W_ixC6, ↓WS_app6, ↓App_6, ↓W_move6, ↓W_var7, ↓W_varo7, ↓W_vark7, ↓Set_7, ↓W_ixC7, ↓WS_app7, ↓App_7, ↓W_move7, ↓W_var8, ↓W_varo8, ↓W_vark8, ↓Set_8, ↓W_ixC8, ↓WS_app8, ↓App_8, ↓W_move8, ↓W_var9, ↓W_varo9, ↓W_vark9, ↓Set_9, ↓W_ixC9, ↓WS_app9, ↓App_9, ↓W_move9, ↓W_var10, ↓W_varo10, ↓W_vark10, ↓Set_10, ↓W_ixC10, ↓WS_app10, ↓App_10, ↓W_move10, ↓W_var11, ↓W_varo11, ↓W_vark11, ↓Set_11, ↓W_ixC11, ↓WS_app11, ↓App_11, ↓W_move11, ↓W_var12, ↓W_varo12, ↓W_vark12, ↓Set_12, ↓W_ixC12, ↓WS_app12, ↓App_12, ↓W_move12, ↓W_var13, ↓W_varo13, ↓W_vark13, ↓Set_13, ↓W_ixC13, ↓WS_app13, ↓App_13, ↓W_move13, ↓W_var14, ↓W_varo14, ↓W_vark14, ↓Set_14, ↓W_ixC14, ↓WS_app14, ↓App_14, ↓W_move14, ↓W_var15, ↓W_varo15, ↓W_vark15, ↓Set_15, ↓W_ixC15, ↓WS_app15, ↓App_15, ↓W_move15, ↓L_at0, ↓L_at1, ↓L_at2, ↓L_at3, ↓L_at4, ↓L_at5, ↓L_at6, ↓L_at7, ↓L_at8, ↓Put_0, ↓Put_1, ↓Put_2, wipeS, List.set_cons_zero, List.set_cons_succ, List.length_map]
  exact ⟨sh, sh, fun _ => ⟨sh, by simp, by simp⟩, fun q => absurd trivial q⟩

/-! ### tables of letters -/
def tD (ls : List Str) (v : Str → Str) : List (PyData × PyData) := ls.map fun c => (.str c, .str (v c))
structure GT (ls : List Str) (v : Str → Str) : Prop where
  nd : ls.Nodup
  lo : 1 ≤ ls.length
  hi : ls.length ≤ 26
  one : ∀ c ∈ ls, c.length = 1
  mem : ∀ c ∈ ls, v c ∈ ls
  ok : ∀ c ∈ ls, PyData.strOk c = true
theorem GT.rev {ls : List Str} {v : Str → Str} (g : GT ls v) : GT ls.reverse v :=
  ⟨List.pairwise_reverse.mpr (g.nd.imp Ne.symm), by rw [List.length_reverse]; exact g.lo, by rw [List.length_reverse]; exact g.hi, fun c h => g.one c (List.mem_reverse.mp h), fun c h => List.mem_reverse.mpr (g.mem c (List.mem_reverse.mp h)), fun c h => g.ok c (List.mem_reverse.mp h)⟩
theorem tD_val {v : Str → Str} {c : Str} : ∀ {ls : List Str}, c ∈ ls → valD (tD ls v) (.inr c) = some (.str (v c))
  | a :: ls, h => by
    show (if keyOf (PyData.str a) = some (Sum.inr c) then some (PyData.str (v a)) else valD (tD ls v) (.inr c)) = _
    by_cases e : a = c
    · subst e
      rw [if_pos (show keyOf (PyData.str a) = some (Sum.inr a) from rfl)]
    · rw [if_neg (show ¬ keyOf (PyData.str a) = some (Sum.inr c) from fun z => e (Sum.inr.inj (Option.some.inj z)))]
      exact tD_val ((List.mem_cons.mp h).resolve_left fun z => e z.symm)
theorem tD_get {v : Str → Str} {c : Str} {ls : List Str} (h : c ∈ ls) : kDGet (.dict (tD ls v)) (.str c) = some (.str (v c)) := tD_val h
theorem tD_len {v : Str → Str} {ls : List Str} : (tD ls v).length = ls.length := by unfold tD; rw [List.length_map]
theorem tD_keys {v : Str → Str} {ls : List Str} : (tD ls v).map (·.1) = ls.map PyData.str := by
  unfold tD
  rw [List.map_map]
  rfl
theorem tD_in {v : Str → Str} {c : Str} {ls : List Str} (h : c ∈ ls) : kDIn true (.str c) (.dict (tD ls v)) = some (.bool false) := by
  show (keyOf (PyData.str c)).map (fun key => PyData.bool (if true then !(valD (tD ls v) key).isSome else (valD (tD ls v) key).isSome)) = _
  show some (PyData.bool (!(valD (tD ls v) (.inr c)).isSome)) = _
  rw [tD_val h]
  rfl
theorem GT.go {ls : List Str} {v : Str → Str} (g : GT ls v) {c : Str} (h : c ∈ ls) : ∀ i, orb v c i ∈ ls
  | 0 => h
  | i + 1 => g.mem _ (GT.go g h i)
theorem GT.cyc {ls : List Str} {v : Str → Str} (g : GT ls v) {c : Str} (h : c ∈ ls) : ∃ t n, Cyc (orb v c) t n ∧ n ≤ 26 := by
  obtain ⟨t, n, C, hn⟩ := exists_cyc ls (orb v c) (g.go h)
  exact ⟨t, n, C, Nat.le_trans hn g.hi⟩
section
variable {ss : List SV} {P : PyData → List SV → Prop} {PL : List PyData → List SV → Prop} {PV : SV → List SV → Prop} {PB : Bool → List SV → Prop} {f g : M PyData} {fa : M (List PyData)} {ks : List (PyData × PyData)} {lb : Option Nat} {ds : List PyData} {x : Str}
theorem W_itK : W (itK f ss) PL ↔ W (f ss) fun d s => L (dKeys d) s PL := by
  unfold itK
  rw [W_bind]
  simp only [W_lift]
theorem L_dKeys : L (dKeys (.dict ks)) ss PL ↔ PL (ks.map (·.1)) ss := by simp [dKeys, L]
theorem L_isD : L (kitB (kindD (.dict ks)) "dict") ss PB ↔ PB true ss := by rw [show kitB (kindD (.dict ks)) "dict" = some true by show kitB "dict" "dict" = _; decide +kernel]; exact L_some
theorem L_lenD : L (kLenD [.dict ks]) ss P ↔ P (.int (ks.length : Nat)) ss := by simp [kLenD, L]
theorem L_all {bs : List Bool} : L (kAll [.list (bs.map .bool)]) ss P ↔ P (.bool (bs.all id)) ss := by simp [kAll, bools_map, L]
theorem L_listD : L (kListD [.dict ks]) ss PL ↔ PL (ks.map (·.1)) ss := by simp [kListD, L]
theorem L_sortT {xs : List Str} (h : xs.length < 64) : L (kSortT [.list (xs.map .str)]) ss PL ↔ PL ((sortT xs).map .str) ss := by simp [kSortT, texts_map, h, L]
theorem L_sortK {xs : List Str} (e : ks.map (·.1) = xs.map .str) (h : xs.length < 64) : L (kSortK [.dict ks]) ss PL ↔ PL ((sortT xs).map .str) ss := by simp [kSortK, e, texts_map, h, L]
theorem L_lcm {a b : Int} : L (kLcm [.int a, .int b]) ss P ↔ (a.natAbs < 2 ^ 64 ∧ b.natAbs < 2 ^ 64) ∧ P (.int ((a.natAbs.lcm b.natAbs : Nat) : Int)) ss := by
  unfold kLcm
  dsimp only
  rw [L_ite, Bool.and_eq_true, decide_eq_true_eq, decide_eq_true_eq]
end
theorem sortT_mem {xs : List Str} {c : Str} : c ∈ sortT xs ↔ c ∈ xs := (List.mergeSort_perm xs leT).mem_iff
theorem sortT_len {xs : List Str} : (sortT xs).length = xs.length := (List.mergeSort_perm xs leT).length_eq
theorem t_letter {c : Str} (h : c.length = 1) : Tl F_is_letter [.dat (.str c)] (.dat (.bool true)) := by
  refine Tl_def rfl rfl ?_
  simp only [List.cons_append, List.nil_append, List.replicate_succ, List.replicate_zero, Nat.reduceSub, Nat.sub_self]
  unfold B_is_letter
  simp only [L_is, L_lenS, h, ↓W_bind, ↓W_ret, ↓W_lift, ↓L_some, ↓L_map, ↓WS_eseq, ↓WS_seq, ↓WS_nil, ↓WS_pass, ↓WS_break, ↓WS_cont, ↓WS_never, ↓WS_set, ↓WS_ret, ↓WS_retN, ↓WS_drop, ↓WS_asg, ↓WS_if, ↓ifS_t, ↓ifS_f, ↓ifS_not, ↓ifS_dec, ↓ifM_t, ↓ifM_f, ↓ifM_not, ↓ifM_dec, ↓W_C, ↓W_2, ↓W_1, ↓W_A, ↓W_AL, ↓W_2L, ↓W_nilA, ↓W_consA, ↓W_B, ↓L_asB, ↓W_not, ↓W_tnot, ↓W_and, ↓W_or, ↓W_tand, ↓W_tor, ↓W_if, ↓W_chain, ↓L_bindB, ↓W_tup, ↓W_lst, ↓W_dat, ↓W_fz, ↓L_asD, ↓L_asO, ↓W_someI, ↓L_asI, ↓L_asI1, ↓W_noneI, ↓W_slL, ↓L_cut, ↓WS_for, ↓WS_while, ↓WS_put, ↓W_lc0, ↓W_itL, ↓L_asL, ↓W_itT, ↓L_asT, ↓W_itA, ↓W_itES, ↓L_add, ↓L_sub, ↓L_lt, ↓L_le, ↓L_gt, ↓L_ge, ↓L_neg, ↓L_mul, ↓L_mod, ↓L_div, ↓L_pow, ↓L_eqI, ↓L_neI, ↓L_eqL, ↓L_neL, ↓L_eqT, ↓L_neT, ↓L_eqS, ↓L_neS, ↓L_isN, ↓L_isNotN, ↓L_lenL, ↓L_lenT, ↓L_int, ↓L_intb, ↓L_max, ↓L_min, ↓L_cat, ↓L_ixL, ↓L_ixT, ↓L_rep, ↓L_r1, ↓L_r2, ↓L_en, ↓L_enS, ↓L_zip, ↓L_inL, ↓L_ninL, ↓L_isi, ↓L_ii, ↓L_ib, ↓L_il, ↓LB_nil, ↓LB_name, ↓LB_bind, ↓LB_cons, ↓LB_tup, ↓W_call, ↓W_callD, ↓W_aNil, ↓W_aCons, ↓W_aBor, ↓W_callB, ↓W_scr, ↓L_sort, ↓ifM_nT, ↓ifS_nT, ↓ifM_nL, ↓ifS_nL, ↓ifM_nI, ↓ifS_nI, ↓ifM_nS, ↓ifS_nS, ↓ifM_nB, ↓ifS_nB, ↓ifM_nN, ↓ifS_nN, ↓W_var0, ↓W_varo0, ↓W_vark0, ↓Set_0, ↓W_ixC0, ↓WS_app0, ↓App_0, ↓W_move0, ↓W_var1, ↓W_varo1, ↓W_vark1, ↓Set_1, ↓W_ixC1, ↓WS_app1, ↓App_1, ↓W_move1, ↓W_var2, ↓W_varo2, ↓W_vark2, ↓Set_2, ↓W_ixC2, ↓WS_app2, ↓App_2, ↓W_move2, ↓W_var3, ↓W_varo3, ↓W_vark3, ↓Set_3, ↓W_ixC3, ↓WS_app3, ↓App_3, ↓W_move3, ↓W_var4, ↓W_varo4, ↓W_vark4, ↓Set_4, ↓W_ixC4, ↓WS_app4, ↓App_4, ↓W_move4, ↓W_var5, ↓W_varo5, ↓W_vark5, ↓Set_5, ↓W_ixC5, ↓WS_app5, ↓App_5, ↓W_move5, ↓W_var6, ↓W_varo6, ↓W_vark6, ↓Set_6, ↓W_ixC6, ↓WS_app6, ↓App_6, ↓W_move6, ↓W_var7, ↓W_varo7, ↓W_vark7, ↓Set_7, ↓W_ixC7, ↓WS_app7, ↓App_7, ↓W_move7, ↓W_var8, ↓W_varo8, ↓W_vark8, ↓Set_8, ↓W_ixC8, ↓WS_app8, ↓App_8, ↓W_move8, ↓W_var9, ↓W_varo9, ↓W_vark9, ↓Set_9, ↓W_ixC9, ↓WS_app9, ↓App_9, ↓W_move9, ↓W_var10, ↓W_varo10, ↓W_vark10, ↓Set_10, ↓W_ixC10, ↓WS_app10, ↓App_10, ↓W_move10, ↓W_var11, ↓W_varo11, ↓W_vark11, ↓Set_11, ↓W_ixC11, ↓WS_app11, ↓App_11, ↓W_move11, ↓W_var12, ↓W_varo12, ↓W_vark12, ↓Set_12, ↓W_ixC12, ↓WS_app12, ↓App_12, ↓W_move12, ↓W_var13, ↓W_varo13, ↓W_vark13, ↓Set_13, ↓W_ixC13, ↓WS_app13, ↓App_13, ↓W_move13, ↓W_var14, ↓W_varo14, ↓W_vark14, ↓Set_14, ↓W_ixC14, ↓WS_app14, ↓App_14, ↓W_move14, ↓W_var15, ↓W_varo15, ↓W_vark15, ↓Set_15, ↓W_ixC15, ↓WS_app15, ↓App_15, ↓W_move15, ↓L_at0, ↓L_at1, ↓L_at2, ↓L_at3, ↓L_at4, ↓L_at5, ↓L_at6, ↓L_at7, ↓L_at8, ↓Put_0, ↓Put_1, ↓Put_2, wipeS, List.set_cons_zero, List.set_cons_succ, List.length_map]
  exact ⟨by decide, by simp, by simp⟩
theorem t_check {ls : List Str} {v : Str → Str} (g : GT ls v) : Tl F_check_letters [.dat (.dict (tD ls v))] (.dat .none) := by
  have h1 := g.lo
  have h2 := g.hi
  refine Tl_def rfl rfl ?_
  simp only [List.cons_append, List.nil_append, List.replicate_succ, List.replicate_zero, Nat.reduceSub, Nat.sub_self]
  unfold B_check_letters
  simp only [L_isD, L_lenD, tD_len, W_itK, L_dKeys, tD_keys, ↓W_bind, ↓W_ret, ↓W_lift, ↓L_some, ↓L_map, ↓WS_eseq, ↓WS_seq, ↓WS_nil, ↓WS_pass, ↓WS_break, ↓WS_cont, ↓WS_never, ↓WS_set, ↓WS_ret, ↓WS_retN, ↓WS_drop, ↓WS_asg, ↓WS_if, ↓ifS_t, ↓ifS_f, ↓ifS_not, ↓ifS_dec, ↓ifM_t, ↓ifM_f, ↓ifM_not, ↓ifM_dec, ↓W_C, ↓W_2, ↓W_1, ↓W_A, ↓W_AL, ↓W_2L, ↓W_nilA, ↓W_consA, ↓W_B, ↓L_asB, ↓W_not, ↓W_tnot, ↓W_and, ↓W_or, ↓W_tand, ↓W_tor, ↓W_if, ↓W_chain, ↓L_bindB, ↓W_tup, ↓W_lst, ↓W_dat, ↓W_fz, ↓L_asD, ↓L_asO, ↓W_someI, ↓L_asI, ↓L_asI1, ↓W_noneI, ↓W_slL, ↓L_cut, ↓WS_for, ↓WS_while, ↓WS_put, ↓W_lc0, ↓W_itL, ↓L_asL, ↓W_itT, ↓L_asT, ↓W_itA, ↓W_itES, ↓L_add, ↓L_sub, ↓L_lt, ↓L_le, ↓L_gt, ↓L_ge, ↓L_neg, ↓L_mul, ↓L_mod, ↓L_div, ↓L_pow, ↓L_eqI, ↓L_neI, ↓L_eqL, ↓L_neL, ↓L_eqT, ↓L_neT, ↓L_eqS, ↓L_neS, ↓L_isN, ↓L_isNotN, ↓L_lenL, ↓L_lenT, ↓L_int, ↓L_intb, ↓L_max, ↓L_min, ↓L_cat, ↓L_ixL, ↓L_ixT, ↓L_rep, ↓L_r1, ↓L_r2, ↓L_en, ↓L_enS, ↓L_zip, ↓L_inL, ↓L_ninL, ↓L_isi, ↓L_ii, ↓L_ib, ↓L_il, ↓LB_nil, ↓LB_name, ↓LB_bind, ↓LB_cons, ↓LB_tup, ↓W_call, ↓W_callD, ↓W_aNil, ↓W_aCons, ↓W_aBor, ↓W_callB, ↓W_scr, ↓L_sort, ↓ifM_nT, ↓ifS_nT, ↓ifM_nL, ↓ifS_nL, ↓ifM_nI, ↓ifS_nI, ↓ifM_nS, ↓ifS_nS, ↓ifM_nB, ↓ifS_nB, ↓ifM_nN, ↓ifS_nN, ↓W_var0, ↓W_varo0, ↓W_vark0, ↓Set_0, ↓W_ixC0, ↓WS_app0, ↓App_0, ↓W_move0, ↓W_var1, ↓W_varo1, ↓W_vark1, ↓Set_1, ↓W_ixC1, ↓WS_app1, ↓App_1, ↓W_move1, ↓W_var2, ↓W_varo2, ↓W_vark2, ↓Set_2, ↓W_ixC2, ↓WS_app2, ↓App_2, ↓W_move2, ↓W_var3, ↓W_varo3, ↓W_vark3, ↓Set_3, ↓W_ixC3, ↓WS_app3, ↓App_3, ↓W_move3, ↓W_var4, ↓W_varo4, ↓W_vark4, ↓Set_4, ↓W_ixC4, ↓WS_app4, ↓App_4, ↓W_move4, ↓W_var5, ↓W_varo5, ↓W_vark5, ↓Set_5, ↓W_ixC5, ↓WS_app5, ↓App_5, ↓W_move5, ↓W_var6, ↓W_varo6, ↓W_vark6, ↓Set_6, ↓W_ixC6, ↓WS_app6, ↓App_6, ↓W_move6, ↓W_var7, ↓W_varo7, ↓W_vark7, ↓Set_7, ↓W_ixC7, ↓WS_app7, ↓App_7, ↓W_move7, ↓W_var8, ↓W_varo8, ↓W_vark8, ↓Set_8, ↓W_ixC8, ↓WS_app8, ↓App_8, ↓W_move8, ↓W_var9, ↓W_varo9, ↓W_vark9, ↓Set_9, ↓W_ixC9, ↓WS_app9, ↓App_9, ↓W_move9, ↓W_var10, ↓W_varo10, ↓W_vark10, ↓Set_10, ↓W_ixC10, ↓WS_app10, ↓App_10, ↓W_move10, ↓W_var11, ↓W_varo11, ↓W_vark11, ↓Set_11, ↓W_ixC11, ↓WS_app11, ↓App_11, ↓W_move11, ↓W_var12, ↓W_varo12, ↓W_vark12, ↓Set_12, ↓W_ixC12, ↓WS_app12, ↓App_12, ↓W_move12, ↓W_var13, ↓W_varo13, ↓W_vark13, ↓Set_13, ↓W_ixC13, ↓WS_app13, ↓App_13, ↓W_move13, ↓W_var14, ↓W_varo14, ↓W_vark14, ↓Set_14, ↓W_ixC14, ↓WS_app14, ↓App_14, ↓W_move14, ↓W_var15, ↓W_varo15, ↓W_vark15, ↓Set_15, ↓W_ixC15, ↓WS_app15, ↓App_15, ↓W_move15, ↓L_at0, ↓L_at1, ↓L_at2, ↓L_at3, ↓L_at4, ↓L_at5, ↓L_at6, ↓L_at7, ↓L_at8, ↓Put_0, ↓Put_1, ↓Put_2, wipeS, List.set_cons_zero, List.set_cons_succ, List.length_map]
  refine ⟨fun _ => ⟨fun _ => ?_, fun q => absurd q (by omega)⟩, fun q => absurd q (by omega)⟩
  refine W_lcM PyData.str (fun s => s = [.dat (.dict (tD ls v)), .gone]) (fun _ => .bool true) rfl (by omega) (fun c hc s hs => ?_) fun s hs => ?_
  · subst hs
    simp only [Fn_1 (t_letter (g.one c hc)), ↓W_bind, ↓W_ret, ↓W_lift, ↓L_some, ↓L_map, ↓WS_eseq, ↓WS_seq, ↓WS_nil, ↓WS_pass, ↓WS_break, ↓WS_cont, ↓WS_never, ↓WS_set, ↓WS_ret, ↓WS_retN, ↓WS_drop, ↓WS_asg, ↓WS_if, ↓ifS_t, ↓ifS_f, ↓ifS_not, ↓ifS_dec, ↓ifM_t, ↓ifM_f, ↓ifM_not, ↓ifM_dec, ↓W_C, ↓W_2, ↓W_1, ↓W_A, ↓W_AL, ↓W_2L, ↓W_nilA, ↓W_consA, ↓W_B, ↓L_asB, ↓W_not, ↓W_tnot, ↓W_and, ↓W_or, ↓W_tand, ↓W_tor, ↓W_if, ↓W_chain, ↓L_bindB, ↓W_tup, ↓W_lst, ↓W_dat, ↓W_fz, ↓L_asD, ↓L_asO, ↓W_someI, ↓L_asI, ↓L_asI1, ↓W_noneI, ↓W_slL, ↓L_cut, ↓WS_for, ↓WS_while, ↓WS_put, ↓W_lc0, ↓W_itL, ↓L_asL, ↓W_itT, ↓L_asT, ↓W_itA, ↓W_itES, ↓L_add, ↓L_sub, ↓L_lt, ↓L_le, ↓L_gt, ↓L_ge, ↓L_neg, ↓L_mul, ↓L_mod, ↓L_div, ↓L_pow, ↓L_eqI, ↓L_neI, ↓L_eqL, ↓L_neL, ↓L_eqT, ↓L_neT, ↓L_eqS, ↓L_neS, ↓L_isN, ↓L_isNotN, ↓L_lenL, ↓L_lenT, ↓L_int, ↓L_intb, ↓L_max, ↓L_min, ↓L_cat, ↓L_ixL, ↓L_ixT, ↓L_rep, ↓L_r1, ↓L_r2, ↓L_en, ↓L_enS, ↓L_zip, ↓L_inL, ↓L_ninL, ↓L_isi, ↓L_ii, ↓L_ib, ↓L_il, ↓LB_nil, ↓LB_name, ↓LB_bind, ↓LB_cons, ↓LB_tup, ↓W_call, ↓W_callD, ↓W_aNil, ↓W_aCons, ↓W_aBor, ↓W_callB, ↓W_scr, ↓L_sort, ↓ifM_nT, ↓ifS_nT, ↓ifM_nL, ↓ifS_nL, ↓ifM_nI, ↓ifS_nI, ↓ifM_nS, ↓ifS_nS, ↓ifM_nB, ↓ifS_nB, ↓ifM_nN, ↓ifS_nN, ↓W_var0, ↓W_varo0, ↓W_vark0, ↓Set_0, ↓W_ixC0, ↓WS_app0, ↓App_0, ↓W_move0, ↓W_var1, ↓W_varo1, ↓W_vark1, ↓Set_1, ↓W_ixC1, ↓WS_app1, ↓App_1, ↓W_move1, ↓W_var2, ↓W_varo2, ↓W_vark2, ↓Set_2, ↓W_ixC2, ↓WS_app2, ↓App_2, ↓W_move2, ↓W_var3, ↓W_varo3, ↓W_vark3, ↓Set_3, ↓W_ixC3, ↓WS_app3, ↓App_3, ↓W_move3, ↓W_var4, ↓W_varo4, ↓W_vark4, ↓Set_4, ↓W_ixC4, ↓WS_app4, ↓App_4, ↓W_move4, ↓W_var5, ↓W_varo5, ↓W_vark5, ↓Set_5, ↓W_ixC5, ↓WS_app5, ↓App_5, ↓W_move5, ↓W_var6, ↓W_varo6, ↓W_vark6, ↓Set_6, ↓W_ixC6, ↓WS_app6, ↓App_6, ↓W_move6, ↓W_var7, ↓W_varo7, ↓W_vark7, ↓Set_7, ↓W_ixC7, ↓WS_app7, ↓App_7, ↓W_move7, ↓W_var8, ↓W_varo8, ↓W_vark8, ↓Set_8, ↓W_ixC8, ↓WS_app8, ↓App_8, ↓W_move8, ↓W_var9, ↓W_varo9, ↓W_vark9, ↓Set_9, ↓W_ixC9, ↓WS_app9, ↓App_9, ↓W_move9, ↓W_var10, ↓W_varo10, ↓W_vark10, ↓Set_10, ↓W_ixC10, ↓WS_app10, ↓App_10, ↓W_move10, ↓W_var11, ↓W_varo11, ↓W_vark11, ↓Set_11, ↓W_ixC11, ↓WS_app11, ↓App_11, ↓W_move11, ↓W_var12, ↓W_varo12, ↓W_vark12, ↓Set_12, ↓W_ixC12, ↓WS_app12, ↓App_12, ↓W_move12, ↓W_var13, ↓W_varo13, ↓W_vark13, ↓Set_13, ↓W_ixC13, ↓WS_app13, ↓App_13, ↓W_move13, ↓W_var14, ↓W_varo14, ↓W_vark14, ↓Set_14, ↓W_ixC14, ↓WS_app14, ↓App_14, ↓W_move14, ↓W_var15, ↓W_varo15, ↓W_vark15, ↓Set_15, ↓W_ixC15, ↓WS_app15, ↓App_15, ↓W_move15, ↓L_at0, ↓L_at1, ↓L_at2, ↓L_at3, ↓L_at4, ↓L_at5, ↓L_at6, ↓L_at7, ↓L_at8, ↓Put_0, ↓Put_1, ↓Put_2, wipeS, List.set_cons_zero, List.set_cons_succ, List.length_map]
    exact ⟨trivial, trivial, trivial⟩
  · subst hs
    rw [show (ls.map fun _ => PyData.bool true) = (ls.map fun _ => true).map PyData.bool by rw [List.map_map]; rfl]
    simp only [L_all, ↓W_bind, ↓W_ret, ↓W_lift, ↓L_some, ↓L_map, ↓WS_eseq, ↓WS_seq, ↓WS_nil, ↓WS_pass, ↓WS_break, ↓WS_cont, ↓WS_never, ↓WS_set, ↓WS_ret, ↓WS_retN, ↓WS_drop, ↓WS_asg, ↓WS_if, ↓ifS_t, ↓ifS_f, ↓ifS_not, ↓ifS_dec, ↓ifM_t, ↓ifM_f, ↓ifM_not, ↓ifM_dec, ↓W_C, ↓W_2, ↓W_1, ↓W_A, ↓W_AL, ↓W_2L, ↓W_nilA, ↓W_consA, ↓W_B, ↓L_asB, ↓W_not, ↓W_tnot, ↓W_and, ↓W_or, ↓W_tand, ↓W_tor, ↓W_if, ↓W_chain, ↓L_bindB, ↓W_tup, ↓W_lst, ↓W_dat, ↓W_fz, ↓L_asD, ↓L_asO, ↓W_someI, ↓L_asI, ↓L_asI1, ↓W_noneI, ↓W_slL, ↓L_cut, ↓WS_for, ↓WS_while, ↓WS_put, ↓W_lc0, ↓W_itL, ↓L_asL, ↓W_itT, ↓L_asT, ↓W_itA, ↓W_itES, ↓L_add, ↓L_sub, ↓L_lt, ↓L_le, ↓L_gt, ↓L_ge, ↓L_neg, ↓L_mul, ↓L_mod, ↓L_div, ↓L_pow, ↓L_eqI, ↓L_neI, ↓L_eqL, ↓L_neL, ↓L_eqT, ↓L_neT, ↓L_eqS, ↓L_neS, ↓L_isN, ↓L_isNotN, ↓L_lenL, ↓L_lenT, ↓L_int, ↓L_intb, ↓L_max, ↓L_min, ↓L_cat, ↓L_ixL, ↓L_ixT, ↓L_rep, ↓L_r1, ↓L_r2, ↓L_en, ↓L_enS, ↓L_zip, ↓L_inL, ↓L_ninL, ↓L_isi, ↓L_ii, ↓L_ib, ↓L_il, ↓LB_nil, ↓LB_name, ↓LB_bind, ↓LB_cons, ↓LB_tup, ↓W_call, ↓W_callD, ↓W_aNil, ↓W_aCons, ↓W_aBor, ↓W_callB, ↓W_scr, ↓L_sort, ↓ifM_nT, ↓ifS_nT, ↓ifM_nL, ↓ifS_nL, ↓ifM_nI, ↓ifS_nI, ↓ifM_nS, ↓ifS_nS, ↓ifM_nB, ↓ifS_nB, ↓ifM_nN, ↓ifS_nN, ↓W_var0, ↓W_varo0, ↓W_vark0, ↓Set_0, ↓W_ixC0, ↓WS_app0, ↓App_0, ↓W_move0, ↓W_var1, ↓W_varo1, ↓W_vark1, ↓Set_1, ↓W_ixC1, ↓WS_app1, ↓App_1, ↓W_move1, ↓W_var2, ↓W_varo2, ↓W_vark2, ↓Set_2, ↓W_ixC2, ↓WS_app2, ↓App_2, ↓W_move2, ↓W_var3, ↓W_varo3, ↓W_vark3, ↓Set_3, ↓W_ixC3, ↓WS_app3, ↓App_3, ↓W_move3, ↓W_var4, ↓W_varo4, ↓W_vark4, ↓Set_4, ↓W_ixC4, ↓WS_app4, ↓App_4, ↓W_move4, ↓W_var5, ↓W_varo5, ↓W_vark5, ↓Set_5, ↓W_ixC5, ↓WS_app5, ↓App_5, ↓W_move5, ↓W_var6, ↓W_varo6, ↓W_vark6, ↓Set_6, ↓W_ixC6, ↓WS_app6, ↓App_6, ↓W_move6, ↓W_var7, ↓W_varo7, ↓W_vark7, ↓Set_7, ↓W_ixC7, ↓WS_app7, ↓App_7, ↓W_move7, ↓W_var8, ↓W_varo8, ↓W_vark8, ↓Set_8, ↓W_ixC8, ↓WS_app8, ↓App_8, ↓W_move8, ↓W_var9, ↓W_varo9, ↓W_vark9, ↓Set_9, ↓W_ixC9, ↓WS_app9, ↓App_9, ↓W_move9, ↓W_var10, ↓W_varo10, ↓W_vark10, ↓Set_10, ↓W_ixC10, ↓WS_app10, ↓App_10, ↓W_move10, ↓W_var11, ↓W_varo11, ↓W_vark11, ↓Set_11, ↓W_ixC11, ↓WS_app11, ↓App_11, ↓W_move11, ↓W_var12, ↓W_varo12, ↓W_vark12, ↓Set_12, ↓W_ixC12, ↓WS_app12, ↓App_12, ↓W_move12, ↓W_var13, ↓W_varo13, ↓W_vark13, ↓Set_13, ↓W_ixC13, ↓WS_app13, ↓App_13, ↓W_move13, ↓W_var14, ↓W_varo14, ↓W_vark14, ↓Set_14, ↓W_ixC14, ↓WS_app14, ↓App_14, ↓W_move14, ↓W_var15, ↓W_varo15, ↓W_vark15, ↓Set_15, ↓W_ixC15, ↓WS_app15, ↓App_15, ↓W_move15, ↓L_at0, ↓L_at1, ↓L_at2, ↓L_at3, ↓L_at4, ↓L_at5, ↓L_at6, ↓L_at7, ↓L_at8, ↓Put_0, ↓Put_1, ↓Put_2, wipeS, List.set_cons_zero, List.set_cons_succ, List.length_map]
    rw [show (List.map (fun _ => true) ls).all id = true by simp]
    simp only [L_listD, tD_keys, L_sortT (xs := ls) (by omega), ↓W_bind, ↓W_ret, ↓W_lift, ↓L_some, ↓L_map, ↓WS_eseq, ↓WS_seq, ↓WS_nil, ↓WS_pass, ↓WS_break, ↓WS_cont, ↓WS_never, ↓WS_set, ↓WS_ret, ↓WS_retN, ↓WS_drop, ↓WS_asg, ↓WS_if, ↓ifS_t, ↓ifS_f, ↓ifS_not, ↓ifS_dec, ↓ifM_t, ↓ifM_f, ↓ifM_not, ↓ifM_dec, ↓W_C, ↓W_2, ↓W_1, ↓W_A, ↓W_AL, ↓W_2L, ↓W_nilA, ↓W_consA, ↓W_B, ↓L_asB, ↓W_not, ↓W_tnot, ↓W_and, ↓W_or, ↓W_tand, ↓W_tor, ↓W_if, ↓W_chain, ↓L_bindB, ↓W_tup, ↓W_lst, ↓W_dat, ↓W_fz, ↓L_asD, ↓L_asO, ↓W_someI, ↓L_asI, ↓L_asI1, ↓W_noneI, ↓W_slL, ↓L_cut, ↓WS_for, ↓WS_while, ↓WS_put, ↓W_lc0, ↓W_itL, ↓L_asL, ↓W_itT, ↓L_asT, ↓W_itA, ↓W_itES, ↓L_add, ↓L_sub, ↓L_lt, ↓L_le, ↓L_gt, ↓L_ge, ↓L_neg, ↓L_mul, ↓L_mod, ↓L_div, ↓L_pow, ↓L_eqI, ↓L_neI, ↓L_eqL, ↓L_neL, ↓L_eqT, ↓L_neT, ↓L_eqS, ↓L_neS, ↓L_isN, ↓L_isNotN, ↓L_lenL, ↓L_lenT, ↓L_int, ↓L_intb, ↓L_max, ↓L_min, ↓L_cat, ↓L_ixL, ↓L_ixT, ↓L_rep, ↓L_r1, ↓L_r2, ↓L_en, ↓L_enS, ↓L_zip, ↓L_inL, ↓L_ninL, ↓L_isi, ↓L_ii, ↓L_ib, ↓L_il, ↓LB_nil, ↓LB_name, ↓LB_bind, ↓LB_cons, ↓LB_tup, ↓W_call, ↓W_callD, ↓W_aNil, ↓W_aCons, ↓W_aBor, ↓W_callB, ↓W_scr, ↓L_sort, ↓ifM_nT, ↓ifS_nT, ↓ifM_nL, ↓ifS_nL, ↓ifM_nI, ↓ifS_nI, ↓ifM_nS, ↓ifS_nS, ↓ifM_nB, ↓ifS_nB, ↓ifM_nN, ↓ifS_nN, ↓W_var0, ↓W_varo0, ↓W_vark0, ↓Set_0, ↓W_ixC0, ↓WS_app0, ↓App_0, ↓W_move0, ↓W_var1, ↓W_varo1, ↓W_vark1, ↓Set_1, ↓W_ixC1, ↓WS_app1, ↓App_1, ↓W_move1, ↓W_var2, ↓W_varo2, ↓W_vark2, ↓Set_2, ↓W_ixC2, ↓WS_app2, ↓App_2, ↓W_move2, ↓W_var3, ↓W_varo3, ↓W_vark3, ↓Set_3, ↓W_ixC3, ↓WS_app3, ↓App_3, ↓W_move3, ↓W_var4, ↓W_varo4, ↓W_vark4, ↓Set_4, ↓W_ixC4, ↓WS_app4, ↓App_4, ↓W_move4, ↓W_var5, ↓W_varo5, ↓W_vark5, ↓Set_5, ↓W_ixC5, ↓WS_app5, ↓App_5, ↓W_move5, ↓W_var6, ↓W_varo6, ↓W_vark6, ↓Set_6, ↓W_ixC6, ↓WS_app6, ↓App_6, ↓W_move6, ↓W_var7, ↓W_varo7, ↓W_vark7, ↓Set_7, ↓W_ixC7, ↓WS_app7, ↓App_7, ↓W_move7, ↓W_var8, ↓W_varo8, ↓W_vark8, ↓Set_8, ↓W_ixC8, ↓WS_app8, ↓App_8, ↓W_move8, ↓W_var9, ↓W_varo9, ↓W_vark9, ↓Set_9, ↓W_ixC9, ↓WS_app9, ↓App_9, ↓W_move9, ↓W_var10, ↓W_varo10, ↓W_vark10, ↓Set_10, ↓W_ixC10, ↓WS_app10, ↓App_10, ↓W_move10, ↓W_var11, ↓W_varo11, ↓W_vark11, ↓Set_11, ↓W_ixC11, ↓WS_app11, ↓App_11, ↓W_move11, ↓W_var12, ↓W_varo12, ↓W_vark12, ↓Set_12, ↓W_ixC12, ↓WS_app12, ↓App_12, ↓W_move12, ↓W_var13, ↓W_varo13, ↓W_vark13, ↓Set_13, ↓W_ixC13, ↓WS_app13, ↓App_13, ↓W_move13, ↓W_var14, ↓W_varo14, ↓W_vark14, ↓Set_14, ↓W_ixC14, ↓WS_app14, ↓App_14, ↓W_move14, ↓W_var15, ↓W_varo15, ↓W_vark15, ↓Set_15, ↓W_ixC15, ↓WS_app15, ↓App_15, ↓W_move15, ↓L_at0, ↓L_at1, ↓L_at2, ↓L_at3, ↓L_at4, ↓L_at5, ↓L_at6, ↓L_at7, ↓L_at8, ↓Put_0, ↓Put_1, ↓Put_2, wipeS, List.set_cons_zero, List.set_cons_succ, List.length_map]
    refine WS_forGo (i0 := 0) (fun i s => ∃ x1, s = [.dat (.dict (tD ls v)), x1]) ⟨_, rfl⟩ (fun i d hd s hs => ?_) fun s hs => ?_
    · obtain ⟨x1, rfl⟩ := hs
      obtain ⟨c, hc, rfl⟩ := List.mem_map.mp (List.mem_of_getElem? hd)
      have hc := sortT_mem.mp hc
      try simp only [↓W_bind, ↓W_ret, ↓W_lift, ↓L_some, ↓L_map, ↓WS_eseq, ↓WS_seq, ↓WS_nil, ↓WS_pass, ↓WS_break, ↓WS_cont, ↓WS_never, ↓WS_set, ↓WS_ret, ↓WS_retN, ↓WS_drop, ↓WS_asg, ↓WS_if, ↓ifS_t, ↓ifS_f, ↓ifS_not, ↓ifS_dec, ↓ifM_t, ↓ifM_f, ↓ifM_not, ↓ifM_dec, ↓W_C, ↓W_2, ↓W_1, ↓W_A, ↓W_AL, ↓W_2L, ↓W_nilA, ↓W_consA, ↓W_B, ↓L_asB, ↓W_not, ↓W_tnot, ↓W_and, ↓W_or, ↓W_tand, ↓W_tor, ↓W_if, ↓W_chain, ↓L_bindB, ↓W_tup, ↓W_lst, ↓W_dat, ↓W_fz, ↓L_asD, ↓L_asO, ↓W_someI, ↓L_asI, ↓L_asI1, ↓W_noneI, ↓W_slL, ↓L_cut, ↓WS_for, ↓WS_while, ↓WS_put, ↓W_lc0, ↓W_itL, ↓L_asL, ↓W_itT, ↓L_asT, ↓W_itA, ↓W_itES, ↓L_add, ↓L_sub, ↓L_lt, ↓L_le, ↓L_gt, ↓L_ge, ↓L_neg, ↓L_mul, ↓L_mod, ↓L_div, ↓L_pow, ↓L_eqI, ↓L_neI, ↓L_eqL, ↓L_neL, ↓L_eqT, ↓L_neT, ↓L_eqS, ↓L_neS, ↓L_isN, ↓L_isNotN, ↓L_lenL, ↓L_lenT, ↓L_int, ↓L_intb, ↓L_max, ↓L_min, ↓L_cat, ↓L_ixL, ↓L_ixT, ↓L_rep, ↓L_r1, ↓L_r2, ↓L_en, ↓L_enS, ↓L_zip, ↓L_inL, ↓L_ninL, ↓L_isi, ↓L_ii, ↓L_ib, ↓L_il, ↓LB_nil, ↓LB_name, ↓LB_bind, ↓LB_cons, ↓LB_tup, ↓W_call, ↓W_callD, ↓W_aNil, ↓W_aCons, ↓W_aBor, ↓W_callB, ↓W_scr, ↓L_sort, ↓ifM_nT, ↓ifS_nT, ↓ifM_nL, ↓ifS_nL, ↓ifM_nI, ↓ifS_nI, ↓ifM_nS, ↓ifS_nS, ↓ifM_nB, ↓ifS_nB, ↓ifM_nN, ↓ifS_nN, ↓W_var0, ↓W_varo0, ↓W_vark0, ↓Set_0, ↓W_ixC0, ↓WS_app0, ↓App_0, ↓W_move0, ↓W_var1, ↓W_varo1, ↓W_vark1, ↓Set_1, ↓W_ixC1, ↓WS_app1, ↓App_1, ↓W_move1, ↓W_var2, ↓W_varo2, ↓W_vark2, ↓Set_2, ↓W_ixC2, ↓WS_app2, ↓App_2, ↓W_move2, ↓W_var3, ↓W_varo3, ↓W_vark3, ↓Set_3, ↓W_ixC3, ↓WS_app3, ↓App_3, ↓W_move3, ↓W_var4, ↓W_varo4, ↓W_vark4, ↓Set_4, ↓W_ixC4, ↓WS_app4, ↓App_4, ↓W_move4, ↓W_var5, ↓W_varo5, ↓W_vark5, ↓Set_5, ↓W_ixC5, ↓WS_app5, ↓App_5, ↓W_move5, ↓W_var6, ↓W_varo6, ↓W_vark6, ↓Set_6, ↓W_ixC6, ↓WS_app6, ↓App_6, ↓W_move6, ↓W_var7, ↓W_varo7, ↓W_vark7, ↓Set_7, ↓W_ixC7, ↓WS_app7, ↓App_7, ↓W_move7, ↓W_var8, ↓W_varo8, ↓W_vark8, ↓Set_8, ↓W_ixC8, ↓WS_app8, ↓App_8, ↓W_move8, ↓W_var9, ↓W_varo9, ↓W_vark9, ↓Set_9, ↓W_ixC9, ↓WS_app9, ↓App_9, ↓W_move9, ↓W_var10, ↓W_varo10, ↓W_vark10, ↓Set_10, ↓W_ixC10, ↓WS_app10, ↓App_10, ↓W_move10, ↓W_var11, ↓W_varo11, ↓W_vark11, ↓Set_11, ↓W_ixC11, ↓WS_app11, ↓App_11, ↓W_move11, ↓W_var12, ↓W_varo12, ↓W_vark12, ↓Set_12, ↓W_ixC12, ↓WS_app12, ↓App_12, ↓W_move12, ↓W_var13, ↓W_varo13, ↓W_vark13, ↓Set_13, ↓W_ixC13, ↓WS_app13, ↓App_13, ↓W_move13, ↓W_var14, ↓W_varo14, ↓W_vark14, ↓Set_14, ↓W_ixC14, ↓WS_app14, ↓App_14, ↓W_move14, ↓W_var15, ↓W_varo15, ↓W_vark15, ↓Set_15, ↓W_ixC15, ↓WS_app15, ↓App_15, ↓W_move15, ↓L_at0, ↓L_at1, ↓L_at2, ↓L_at3, ↓L_at4, ↓L_at5, ↓L_at6, ↓L_at7, ↓L_at8, ↓Put_0, ↓Put_1, ↓Put_2, wipeS, List.set_cons_zero, List.set_cons_succ, List.length_map]
      refine L_of (tD_get hc) ?_
      simp only [Fn_1 (t_letter (g.one _ (g.mem c hc))), ↓W_bind, ↓W_ret, ↓W_lift, ↓L_some, ↓L_map, ↓WS_eseq, ↓WS_seq, ↓WS_nil, ↓WS_pass, ↓WS_break, ↓WS_cont, ↓WS_never, ↓WS_set, ↓WS_ret, ↓WS_retN, ↓WS_drop, ↓WS_asg, ↓WS_if, ↓ifS_t, ↓ifS_f, ↓ifS_not, ↓ifS_dec, ↓ifM_t, ↓ifM_f, ↓ifM_not, ↓ifM_dec, ↓W_C, ↓W_2, ↓W_1, ↓W_A, ↓W_AL, ↓W_2L, ↓W_nilA, ↓W_consA, ↓W_B, ↓L_asB, ↓W_not, ↓W_tnot, ↓W_and, ↓W_or, ↓W_tand, ↓W_tor, ↓W_if, ↓W_chain, ↓L_bindB, ↓W_tup, ↓W_lst, ↓W_dat, ↓W_fz, ↓L_asD, ↓L_asO, ↓W_someI, ↓L_asI, ↓L_asI1, ↓W_noneI, ↓W_slL, ↓L_cut, ↓WS_for, ↓WS_while, ↓WS_put, ↓W_lc0, ↓W_itL, ↓L_asL, ↓W_itT, ↓L_asT, ↓W_itA, ↓W_itES, ↓L_add, ↓L_sub, ↓L_lt, ↓L_le, ↓L_gt, ↓L_ge, ↓L_neg, ↓L_mul, ↓L_mod, ↓L_div, ↓L_pow, ↓L_eqI, ↓L_neI, ↓L_eqL, ↓L_neL, ↓L_eqT, ↓L_neT, ↓L_eqS, ↓L_neS, ↓L_isN, ↓L_isNotN, ↓L_lenL, ↓L_lenT, ↓L_int, ↓L_intb, ↓L_max, ↓L_min, ↓L_cat, ↓L_ixL, ↓L_ixT, ↓L_rep, ↓L_r1, ↓L_r2, ↓L_en, ↓L_enS, ↓L_zip, ↓L_inL, ↓L_ninL, ↓L_isi, ↓L_ii, ↓L_ib, ↓L_il, ↓LB_nil, ↓LB_name, ↓LB_bind, ↓LB_cons, ↓LB_tup, ↓W_call, ↓W_callD, ↓W_aNil, ↓W_aCons, ↓W_aBor, ↓W_callB, ↓W_scr, ↓L_sort, ↓ifM_nT, ↓ifS_nT, ↓ifM_nL, ↓ifS_nL, ↓ifM_nI, ↓ifS_nI, ↓ifM_nS, ↓ifS_nS, ↓ifM_nB, ↓ifS_nB, ↓ifM_nN, ↓ifS_nN, ↓W_var0, ↓W_varo0, ↓W_vark0, ↓Set_0, ↓W_ixC0, ↓WS_app0, ↓App_0, ↓W_move0, ↓W_var1, ↓W_varo1, ↓W_vark1, ↓Set_1, ↓W_ixC1, ↓WS_app1, ↓App_1, ↓W_move1, ↓W_var2, ↓W_varo2, ↓W_vark2, ↓Set_2, ↓W_ixC2, ↓WS_app2, ↓App_2, ↓W_move2, ↓W_var3, ↓W_varo3, ↓W_vark3, ↓Set_3, ↓W_ixC3, ↓WS_app3, ↓App_3, ↓W_move3, ↓W_var4, ↓W_varo4, ↓W_vark4, ↓Set_4, ↓W_ixC4, ↓WS_app4, ↓App_4, ↓W_move4, ↓W_var5, ↓W_varo5, ↓W_vark5, ↓Set_5, ↓W_ixC5, ↓WS_app5, ↓App_5, ↓W_move5, ↓W_var6, ↓W_varo6, ↓W_vark6, ↓Set_6, ↓W_ixC6, ↓WS_app6, ↓App_6, ↓W_move6, ↓W_var7, ↓W_varo7, ↓W_vark7, ↓Set_7, ↓W_ixC7, ↓WS_app7, ↓App_7, ↓W_move7, ↓W_var8, ↓W_varo8, ↓W_vark8, ↓Set_8, ↓W_ixC8, ↓WS_app8, ↓App_8, ↓W_move8, ↓W_var9, ↓W_varo9, ↓W_vark9, ↓Set_9, ↓W_ixC9, ↓WS_app9, ↓App_9, ↓W_move9, ↓W_var10, ↓W_varo10, ↓W_vark10, ↓Set_10, ↓W_ixC10, ↓WS_app10, ↓App_10, ↓W_move10, ↓W_var11, ↓W_varo11, ↓W_vark11, ↓Set_11, ↓W_ixC11, ↓WS_app11, ↓App_11, ↓W_move11, ↓W_var12, ↓W_varo12, ↓W_vark12, ↓Set_12, ↓W_ixC12, ↓WS_app12, ↓App_12, ↓W_move12, ↓W_var13, ↓W_varo13, ↓W_vark13, ↓Set_13, ↓W_ixC13, ↓WS_app13, ↓App_13, ↓W_move13, ↓W_var14, ↓W_varo14, ↓W_vark14, ↓Set_14, ↓W_ixC14, ↓WS_app14, ↓App_14, ↓W_move14, ↓W_var15, ↓W_varo15, ↓W_vark15, ↓Set_15, ↓W_ixC15, ↓WS_app15, ↓App_15, ↓W_move15, ↓L_at0, ↓L_at1, ↓L_at2, ↓L_at3, ↓L_at4, ↓L_at5, ↓L_at6, ↓L_at7, ↓L_at8, ↓Put_0, ↓Put_1, ↓Put_2, wipeS, List.set_cons_zero, List.set_cons_succ, List.length_map]
      refine L_of (tD_get hc) ?_
      try simp only [↓W_bind, ↓W_ret, ↓W_lift, ↓L_some, ↓L_map, ↓WS_eseq, ↓WS_seq, ↓WS_nil, ↓WS_pass, ↓WS_break, ↓WS_cont, ↓WS_never, ↓WS_set, ↓WS_ret, ↓WS_retN, ↓WS_drop, ↓WS_asg, ↓WS_if, ↓ifS_t, ↓ifS_f, ↓ifS_not, ↓ifS_dec, ↓ifM_t, ↓ifM_f, ↓ifM_not, ↓ifM_dec, ↓W_C, ↓W_2, ↓W_1, ↓W_A, ↓W_AL, ↓W_2L, ↓W_nilA, ↓W_consA, ↓W_B, ↓L_asB, ↓W_not, ↓W_tnot, ↓W_and, ↓W_or, ↓W_tand, ↓W_tor, ↓W_if, ↓W_chain, ↓L_bindB, ↓W_tup, ↓W_lst, ↓W_dat, ↓W_fz, ↓L_asD, ↓L_asO, ↓W_someI, ↓L_asI, ↓L_asI1, ↓W_noneI, ↓W_slL, ↓L_cut, ↓WS_for, ↓WS_while, ↓WS_put, ↓W_lc0, ↓W_itL, ↓L_asL, ↓W_itT, ↓L_asT, ↓W_itA, ↓W_itES, ↓L_add, ↓L_sub, ↓L_lt, ↓L_le, ↓L_gt, ↓L_ge, ↓L_neg, ↓L_mul, ↓L_mod, ↓L_div, ↓L_pow, ↓L_eqI, ↓L_neI, ↓L_eqL, ↓L_neL, ↓L_eqT, ↓L_neT, ↓L_eqS, ↓L_neS, ↓L_isN, ↓L_isNotN, ↓L_lenL, ↓L_lenT, ↓L_int, ↓L_intb, ↓L_max, ↓L_min, ↓L_cat, ↓L_ixL, ↓L_ixT, ↓L_rep, ↓L_r1, ↓L_r2, ↓L_en, ↓L_enS, ↓L_zip, ↓L_inL, ↓L_ninL, ↓L_isi, ↓L_ii, ↓L_ib, ↓L_il, ↓LB_nil, ↓LB_name, ↓LB_bind, ↓LB_cons, ↓LB_tup, ↓W_call, ↓W_callD, ↓W_aNil, ↓W_aCons, ↓W_aBor, ↓W_callB, ↓W_scr, ↓L_sort, ↓ifM_nT, ↓ifS_nT, ↓ifM_nL, ↓ifS_nL, ↓ifM_nI, ↓ifS_nI, ↓ifM_nS, ↓ifS_nS, ↓ifM_nB, ↓ifS_nB, ↓ifM_nN, ↓ifS_nN, ↓W_var0, ↓W_varo0, ↓W_vark0, ↓Set_0, ↓W_ixC0, ↓WS_app0, ↓App_0, ↓W_move0, ↓W_var1, ↓W_varo1, ↓W_vark1, ↓Set_1, ↓W_ixC1, ↓WS_app1, ↓App_1, ↓W_move1, ↓W_var2, ↓W_varo2, ↓W_vark2, ↓Set_2, ↓W_ixC2, ↓WS_app2, ↓App_2, ↓W_move2, ↓W_var3, ↓W_varo3, ↓W_vark3, ↓Set_3, ↓W_ixC3, ↓WS_app3, ↓App_3, ↓W_move3, ↓W_var4, ↓W_varo4, ↓W_vark4, ↓Set_4, ↓W_ixC4, ↓WS_app4, ↓App_4, ↓W_move4, ↓W_var5, ↓W_varo5, ↓W_vark5, ↓Set_5, ↓W_ixC5, ↓WS_app5, ↓App_5, ↓W_move5, ↓W_var6, ↓W_varo6, ↓W_vark6, ↓Set_6, ↓W_ixC6, ↓WS_app6, ↓App_6, ↓W_move6, ↓W_var7, ↓W_varo7, ↓W_vark7, ↓Set_7, ↓W_ixC7, ↓WS_app7, ↓App_7, ↓W_move7, ↓W_var8, ↓W_varo8, ↓W_vark8, ↓Set_8, ↓W_ixC8, ↓WS_app8, ↓App_8, ↓W_move8, ↓W_var9, ↓W_varo9, ↓W_vark9, ↓Set_9, ↓W_ixC9, ↓WS_app9, ↓App_9, ↓W_move9, ↓W_var10, ↓W_varo10, ↓W_vark10, ↓Set_10, ↓W_ixC10, ↓WS_app10, ↓App_10, ↓W_move10, ↓W_var11, ↓W_varo11, ↓W_vark11, ↓Set_11, ↓W_ixC11, ↓WS_app11, ↓App_11, ↓W_move11, ↓W_var12, ↓W_varo12, ↓W_vark12, ↓Set_12, ↓W_ixC12, ↓WS_app12, ↓App_12, ↓W_move12, ↓W_var13, ↓W_varo13, ↓W_vark13, ↓Set_13, ↓W_ixC13, ↓WS_app13, ↓App_13, ↓W_move13, ↓W_var14, ↓W_varo14, ↓W_vark14, ↓Set_14, ↓W_ixC14, ↓WS_app14, ↓App_14, ↓W_move14, ↓W_var15, ↓W_varo15, ↓W_vark15, ↓Set_15, ↓W_ixC15, ↓WS_app15, ↓App_15, ↓W_move15, ↓L_at0, ↓L_at1, ↓L_at2, ↓L_at3, ↓L_at4, ↓L_at5, ↓L_at6, ↓L_at7, ↓L_at8, ↓Put_0, ↓Put_1, ↓Put_2, wipeS, List.set_cons_zero, List.set_cons_succ, List.length_map]
      refine L_of (tD_in (g.mem c hc)) ?_
      try simp only [↓W_bind, ↓W_ret, ↓W_lift, ↓L_some, ↓L_map, ↓WS_eseq, ↓WS_seq, ↓WS_nil, ↓WS_pass, ↓WS_break, ↓WS_cont, ↓WS_never, ↓WS_set, ↓WS_ret, ↓WS_retN, ↓WS_drop, ↓WS_asg, ↓WS_if, ↓ifS_t, ↓ifS_f, ↓ifS_not, ↓ifS_dec, ↓ifM_t, ↓ifM_f, ↓ifM_not, ↓ifM_dec, ↓W_C, ↓W_2, ↓W_1, ↓W_A, ↓W_AL, ↓W_2L, ↓W_nilA, ↓W_consA, ↓W_B, ↓L_asB, ↓W_not, ↓W_tnot, ↓W_and, ↓W_or, ↓W_tand, ↓W_tor, ↓W_if, ↓W_chain, ↓L_bindB, ↓W_tup, ↓W_lst, ↓W_dat, ↓W_fz, ↓L_asD, ↓L_asO, ↓W_someI, ↓L_asI, ↓L_asI1, ↓W_noneI, ↓W_slL, ↓L_cut, ↓WS_for, ↓WS_while, ↓WS_put, ↓W_lc0, ↓W_itL, ↓L_asL, ↓W_itT, ↓L_asT, ↓W_itA, ↓W_itES, ↓L_add, ↓L_sub, ↓L_lt, ↓L_le, ↓L_gt, ↓L_ge, ↓L_neg, ↓L_mul, ↓L_mod, ↓L_div, ↓L_pow, ↓L_eqI, ↓L_neI, ↓L_eqL, ↓L_neL, ↓L_eqT, ↓L_neT, ↓L_eqS, ↓L_neS, ↓L_isN, ↓L_isNotN, ↓L_lenL, ↓L_lenT, ↓L_int, ↓L_intb, ↓L_max, ↓L_min, ↓L_cat, ↓L_ixL, ↓L_ixT, ↓L_rep, ↓L_r1, ↓L_r2, ↓L_en, ↓L_enS, ↓L_zip, ↓L_inL, ↓L_ninL, ↓L_isi, ↓L_ii, ↓L_ib, ↓L_il, ↓LB_nil, ↓LB_name, ↓LB_bind, ↓LB_cons, ↓LB_tup, ↓W_call, ↓W_callD, ↓W_aNil, ↓W_aCons, ↓W_aBor, ↓W_callB, ↓W_scr, ↓L_sort, ↓ifM_nT, ↓ifS_nT, ↓ifM_nL, ↓ifS_nL, ↓ifM_nI, ↓ifS_nI, ↓ifM_nS, ↓ifS_nS, ↓ifM_nB, ↓ifS_nB, ↓ifM_nN, ↓ifS_nN, ↓W_var0, ↓W_varo0, ↓W_vark0, ↓Set_0, ↓W_ixC0, ↓WS_app0, ↓App_0, ↓W_move0, ↓W_var1, ↓W_varo1, ↓W_vark1, ↓Set_1, ↓W_ixC1, ↓WS_app1, ↓App_1, ↓W_move1, ↓W_var2, ↓W_varo2, ↓W_vark2, ↓Set_2, ↓W_ixC2, ↓WS_app2, ↓App_2, ↓W_move2, ↓W_var3, ↓W_varo3, ↓W_vark3, ↓Set_3, ↓W_ixC3, ↓WS_app3, ↓App_3, ↓W_move3, ↓W_var4, ↓W_varo4, ↓W_vark4, ↓Set_4, ↓W_ixC4, ↓WS_app4, ↓App_4, ↓W_move4, ↓W_var5, ↓W_varo5, ↓W_vark5, ↓Set_5, ↓W_ixC5, ↓WS_app5, ↓App_5, ↓W_move5, ↓W_var6, ↓W_varo6, ↓W_vark6, ↓Set_6, ↓W_ixC6, ↓WS_app6, ↓App_6, ↓W_move6, ↓W_var7, ↓W_varo7, ↓W_vark7, ↓Set_7, ↓W_ixC7, ↓WS_app7, ↓App_7, ↓W_move7, ↓W_var8, ↓W_varo8, ↓W_vark8, ↓Set_8, ↓W_ixC8, ↓WS_app8, ↓App_8, ↓W_move8, ↓W_var9, ↓W_varo9, ↓W_vark9, ↓Set_9, ↓W_ixC9, ↓WS_app9, ↓App_9, ↓W_move9, ↓W_var10, ↓W_varo10, ↓W_vark10, ↓Set_10, ↓W_ixC10, ↓WS_app10, ↓App_10, ↓W_move10, ↓W_var11, ↓W_varo11, ↓W_vark11, ↓Set_11, ↓W_ixC11, ↓WS_app11, ↓App_11, ↓W_move11, ↓W_var12, ↓W_varo12, ↓W_vark12, ↓Set_12, ↓W_ixC12, ↓WS_app12, ↓App_12, ↓W_move12, ↓W_var13, ↓W_varo13, ↓W_vark13, ↓Set_13, ↓W_ixC13, ↓WS_app13, ↓App_13, ↓W_move13, ↓W_var14, ↓W_varo14, ↓W_vark14, ↓Set_14, ↓W_ixC14, ↓WS_app14, ↓App_14, ↓W_move14, ↓W_var15, ↓W_varo15, ↓W_vark15, ↓Set_15, ↓W_ixC15, ↓WS_app15, ↓App_15, ↓W_move15, ↓L_at0, ↓L_at1, ↓L_at2, ↓L_at3, ↓L_at4, ↓L_at5, ↓L_at6, ↓L_at7, ↓L_at8, ↓Put_0, ↓Put_1, ↓Put_2, wipeS, List.set_cons_zero, List.set_cons_succ, List.length_map]
      exact ⟨_, rfl⟩
    · obtain ⟨x1, rfl⟩ := hs
      exact ⟨trivial, by simp⟩
/-! ### all letters together -/
theorem take_succ' {α : Type} {ls : List α} {i : Nat} {c : α} (h : ls[i]? = some c) : ls.take (i + 1) = ls.take i ++ [c] := by
  rw [List.take_succ, h]
  rfl
theorem t_col {ls : List Str} {v : Str → Str} (g : GT ls v) : ∃ T R : Nat, Per (fun j => ls.map fun c => orb v c j) T R ∧ T ≤ 26 ∧ R ≤ 14000 ∧ Tl F_cycle_of_letters [.dat (.dict (tD ls v))] (.dat (.tuple [.int (T : Nat), .int (R : Nat)])) := by
  have key : W (F_cycle_of_letters [.dat (.dict (tD ls v))]) fun r _ => ∃ T R : Nat, r = .dat (.tuple [.int (T : Nat), .int (R : Nat)]) ∧ Per (fun j => ls.map fun c => orb v c j) T R ∧ T ≤ 26 ∧ R ≤ 14000 := by
    refine W_def rfl ?_
    simp only [List.cons_append, List.nil_append, List.replicate_succ, List.replicate_zero, Nat.reduceSub, Nat.sub_self]
    unfold B_cycle_of_letters
    simp only [Fn_1 (t_check g), W_itK, L_dKeys, tD_keys, ↓W_bind, ↓W_ret, ↓W_lift, ↓L_some, ↓L_map, ↓WS_eseq, ↓WS_seq, ↓WS_nil, ↓WS_pass, ↓WS_break, ↓WS_cont, ↓WS_never, ↓WS_set, ↓WS_ret, ↓WS_retN, ↓WS_drop, ↓WS_asg, ↓WS_if, ↓ifS_t, ↓ifS_f, ↓ifS_not, ↓ifS_dec, ↓ifM_t, ↓ifM_f, ↓ifM_not, ↓ifM_dec, ↓W_C, ↓W_2, ↓W_1, ↓W_A, ↓W_AL, ↓W_2L, ↓W_nilA, ↓W_consA, ↓W_B, ↓L_asB, ↓W_not, ↓W_tnot, ↓W_and, ↓W_or, ↓W_tand, ↓W_tor, ↓W_if, ↓W_chain, ↓L_bindB, ↓W_tup, ↓W_lst, ↓W_dat, ↓W_fz, ↓L_asD, ↓L_asO, ↓W_someI, ↓L_asI, ↓L_asI1, ↓W_noneI, ↓W_slL, ↓L_cut, ↓WS_for, ↓WS_while, ↓WS_put, ↓W_lc0, ↓W_itL, ↓L_asL, ↓W_itT, ↓L_asT, ↓W_itA, ↓W_itES, ↓L_add, ↓L_sub, ↓L_lt, ↓L_le, ↓L_gt, ↓L_ge, ↓L_neg, ↓L_mul, ↓L_mod, ↓L_div, ↓L_pow, ↓L_eqI, ↓L_neI, ↓L_eqL, ↓L_neL, ↓L_eqT, ↓L_neT, ↓L_eqS, ↓L_neS, ↓L_isN, ↓L_isNotN, ↓L_lenL, ↓L_lenT, ↓L_int, ↓L_intb, ↓L_max, ↓L_min, ↓L_cat, ↓L_ixL, ↓L_ixT, ↓L_rep, ↓L_r1, ↓L_r2, ↓L_en, ↓L_enS, ↓L_zip, ↓L_inL, ↓L_ninL, ↓L_isi, ↓L_ii, ↓L_ib, ↓L_il, ↓LB_nil, ↓LB_name, ↓LB_bind, ↓LB_cons, ↓LB_tup, ↓W_call, ↓W_callD, ↓W_aNil, ↓W_aCons, ↓W_aBor, ↓W_callB, ↓W_scr, ↓L_sort, ↓ifM_nT, ↓ifS_nT, ↓ifM_nL, ↓ifS_nL, ↓ifM_nI, ↓ifS_nI, ↓ifM_nS, ↓ifS_nS, ↓ifM_nB, ↓ifS_nB, ↓ifM_nN, ↓ifS_nN, ↓W_var0, ↓W_varo0, ↓W_vark0, ↓Set_0, ↓W_ixC0, ↓WS_app0, ↓App_0, ↓W_move0, ↓W_var1, ↓W_varo1, ↓W_vark1, ↓Set_1, ↓W_ixC1, ↓WS_app1, ↓App_1, ↓W_move1, ↓W_var2, ↓W_varo2, ↓W_vark2, ↓Set_2, ↓W_ixC2, ↓WS_app2, ↓App_2, ↓W_move2, ↓W_var3, ↓W_varo3, ↓W_vark3, ↓Set_3, ↓W_ixC3, ↓WS_app3, ↓App_3, ↓W_move3, ↓W_var4, ↓W_varo4, ↓W_vark4, ↓Set_4, ↓W_ixC4, ↓WS_app4, ↓App_4, ↓W_move4, ↓W_var5, ↓W_varo5, ↓W_vark5, ↓Set_5, ↓W_ixC5, ↓WS_app5, ↓App_5, ↓W_move5, ↓W_var6, ↓W_varo6, ↓W_vark6, ↓Set_6, ↓W_ixC6, ↓WS_app6, ↓App_6, ↓W_move6, ↓W_var7, ↓W_varo7, ↓W_vark7, ↓Set_7, ↓W_ixC7, ↓WS_app7, ↓App_7, ↓W_move7, ↓W_var8, ↓W_varo8, ↓W_vark8, ↓Set_8, ↓W_ixC8, ↓WS_app8, ↓App_8, ↓W_move8, ↓W_var9, ↓W_varo9, ↓W_vark9, ↓Set_9, ↓W_ixC9, ↓WS_app9, ↓App_9, ↓W_move9, ↓W_var10, ↓W_varo10, ↓W_vark10, ↓Set_10, ↓W_ixC10, ↓WS_app10, ↓App_10, ↓W_move10, ↓W_var11, ↓W_varo11, ↓W_vark11, ↓Set_11, ↓W_ixC11, ↓WS_app11, ↓App_11, ↓W_move11, ↓W_var12, ↓W_varo12, ↓W_vark12, ↓Set_12, ↓W_ixC12, ↓WS_app12, ↓App_12, ↓W_move12, ↓W_var13, ↓W_varo13, ↓W_vark13, ↓Set_13, ↓W_ixC13, ↓WS_app13, ↓App_13, ↓W_move13, ↓W_var14, ↓W_varo14, ↓W_vark14, ↓Set_14, ↓W_ixC14, ↓WS_app14, ↓App_14, ↓W_move14, ↓W_var15, ↓W_varo15, ↓W_vark15, ↓Set_15, ↓W_ixC15, ↓WS_app15, ↓App_15, ↓W_move15, ↓L_at0, ↓L_at1, ↓L_at2, ↓L_at3, ↓L_at4, ↓L_at5, ↓L_at6, ↓L_at7, ↓L_at8, ↓Put_0, ↓Put_1, ↓Put_2, wipeS, List.set_cons_zero, List.set_cons_succ, List.length_map]
    refine WS_forGo (i0 := 0) (fun i s => ∃ (T R : Nat) (U : List Str) (x3 x4 x5 : SV), s = [.dat (.dict (tD ls v)), .dat (.int (T : Nat)), .dat (.int (R : Nat)), x3, x4, x5] ∧ Per (fun j => (ls.take i).map fun c => orb v c j) T R ∧ T ≤ 26 ∧ Bd v ls R U) ⟨0, 1, [], _, _, _, rfl, Per.one _, by omega, ⟨(fun u m => nomatch m), List.nodup_nil, (fun u m => nomatch m), by decide, by decide⟩⟩ (fun i d hd s hs => ?_) fun s hs => ?_
    · obtain ⟨T, R, U, x3, x4, x5, rfl, P, hT, B⟩ := hs
      rw [List.getElem?_map] at hd
      cases hc : ls[i]? with
      | none => rw [hc] at hd; cases hd
      | some c =>
        rw [hc] at hd
        cases hd
        have cm := List.mem_of_getElem? hc
        obtain ⟨t, n, C, hn⟩ := g.cyc cm
        have lt := C.lt
        have T1 := t_cycle (x := fun i => .str (orb v c i)) (ky := fun i => .inr (orb v c i)) (D := .dict (tD ls v)) (fun _ => rfl) (t := t) (n := n) ⟨C.lt, fun a b ha hb e => C.un a b ha hb (Sum.inr.inj e), congrArg Sum.inr C.eq⟩ (by omega) fun i => tD_get (g.go cm i)
        have T1 : Tl F_cycle [.dat (.str c), .dat (.dict (tD ls v))] (.dat (.tuple [.int (t : Nat), .int ((n : Nat) - (t : Nat))])) := T1
        have hR := B.small g.hi
        simp only [Fn_2 T1, L_lcm, ↓W_bind, ↓W_ret, ↓W_lift, ↓L_some, ↓L_map, ↓WS_eseq, ↓WS_seq, ↓WS_nil, ↓WS_pass, ↓WS_break, ↓WS_cont, ↓WS_never, ↓WS_set, ↓WS_ret, ↓WS_retN, ↓WS_drop, ↓WS_asg, ↓WS_if, ↓ifS_t, ↓ifS_f, ↓ifS_not, ↓ifS_dec, ↓ifM_t, ↓ifM_f, ↓ifM_not, ↓ifM_dec, ↓W_C, ↓W_2, ↓W_1, ↓W_A, ↓W_AL, ↓W_2L, ↓W_nilA, ↓W_consA, ↓W_B, ↓L_asB, ↓W_not, ↓W_tnot, ↓W_and, ↓W_or, ↓W_tand, ↓W_tor, ↓W_if, ↓W_chain, ↓L_bindB, ↓W_tup, ↓W_lst, ↓W_dat, ↓W_fz, ↓L_asD, ↓L_asO, ↓W_someI, ↓L_asI, ↓L_asI1, ↓W_noneI, ↓W_slL, ↓L_cut, ↓WS_for, ↓WS_while, ↓WS_put, ↓W_lc0, ↓W_itL, ↓L_asL, ↓W_itT, ↓L_asT, ↓W_itA, ↓W_itES, ↓L_add, ↓L_sub, ↓L_lt, ↓L_le, ↓L_gt, ↓L_ge, ↓L_neg, ↓L_mul, ↓L_mod, ↓L_div, ↓L_pow, ↓L_eqI, ↓L_neI, ↓L_eqL, ↓L_neL, ↓L_eqT, ↓L_neT, ↓L_eqS, ↓L_neS, ↓L_isN, ↓L_isNotN, ↓L_lenL, ↓L_lenT, ↓L_int, ↓L_intb, ↓L_max, ↓L_min, ↓L_cat, ↓L_ixL, ↓L_ixT, ↓L_rep, ↓L_r1, ↓L_r2, ↓L_en, ↓L_enS, ↓L_zip, ↓L_inL, ↓L_ninL, ↓L_isi, ↓L_ii, ↓L_ib, ↓L_il, ↓LB_nil, ↓LB_name, ↓LB_bind, ↓LB_cons, ↓LB_tup, ↓W_call, ↓W_callD, ↓W_aNil, ↓W_aCons, ↓W_aBor, ↓W_callB, ↓W_scr, ↓L_sort, ↓ifM_nT, ↓ifS_nT, ↓ifM_nL, ↓ifS_nL, ↓ifM_nI, ↓ifS_nI, ↓ifM_nS, ↓ifS_nS, ↓ifM_nB, ↓ifS_nB, ↓ifM_nN, ↓ifS_nN, ↓W_var0, ↓W_varo0, ↓W_vark0, ↓Set_0, ↓W_ixC0, ↓WS_app0, ↓App_0, ↓W_move0, ↓W_var1, ↓W_varo1, ↓W_vark1, ↓Set_1, ↓W_ixC1, ↓WS_app1, ↓App_1, ↓W_move1, ↓W_var2, ↓W_varo2, ↓W_vark2, ↓Set_2, ↓W_ixC2, ↓WS_app2, ↓App_2, ↓W_move2, ↓W_var3, ↓W_varo3, ↓W_vark3, ↓Set_3, ↓W_ixC3, ↓WS_app3, ↓App_3, ↓W_move3, ↓W_var4, ↓W_varo4, ↓W_vark4, ↓Set_4, ↓W_ixC4, ↓WS_app4, ↓App_4, ↓W_move4, ↓W_var5, ↓W_varo5, ↓W_vark5, ↓Set_5, ↓W_ixC5, ↓WS_app5, ↓App_5, ↓W_move5, ↓W_var6, ↓W_varo6, ↓W_vark6, ↓Set_6, ↓W_ixC6, ↓WS_app6, ↓App_6, ↓W_move6, ↓W_var7, ↓W_varo7, ↓W_vark7, ↓Set_7, ↓W_ixC7, ↓WS_app7, ↓App_7, ↓W_move7, ↓W_var8, ↓W_varo8, ↓W_vark8, ↓Set_8, ↓W_ixC8, ↓WS_app8, ↓App_8, ↓W_move8, ↓W_var9, ↓W_varo9, ↓W_vark9, ↓Set_9, ↓W_ixC9, ↓WS_app9, ↓App_9, ↓W_move9, ↓W_var10, ↓W_varo10, ↓W_vark10, ↓Set_10, ↓W_ixC10, ↓WS_app10, ↓App_10, ↓W_move10, ↓W_var11, ↓W_varo11, ↓W_vark11, ↓Set_11, ↓W_ixC11, ↓WS_app11, ↓App_11, ↓W_move11, ↓W_var12, ↓W_varo12, ↓W_vark12, ↓Set_12, ↓W_ixC12, ↓WS_app12, ↓App_12, ↓W_move12, ↓W_var13, ↓W_varo13, ↓W_vark13, ↓Set_13, ↓W_ixC13, ↓WS_app13, ↓App_13, ↓W_move13, ↓W_var14, ↓W_varo14, ↓W_vark14, ↓Set_14, ↓W_ixC14, ↓WS_app14, ↓App_14, ↓W_move14, ↓W_var15, ↓W_varo15, ↓W_vark15, ↓Set_15, ↓W_ixC15, ↓WS_app15, ↓App_15, ↓W_move15, ↓L_at0, ↓L_at1, ↓L_at2, ↓L_at3, ↓L_at4, ↓L_at5, ↓L_at6, ↓L_at7, ↓L_at8, ↓Put_0, ↓Put_1, ↓Put_2, wipeS, List.set_cons_zero, List.set_cons_succ, List.length_map]
        obtain ⟨U', B'⟩ := B.step C.per (g.go cm)
        have e1 : ((n : Nat) - (t : Nat) : Int).natAbs = n - t := by omega
        have e2 : ((R : Nat) : Int).natAbs = R := by omega
        have e3 : (if (t : Int) > (T : Nat) then (t : Int) else (T : Nat)) = ((max T t : Nat) : Int) := by split <;> omega
        rw [e1, e2, e3]
        refine ⟨by simp, ⟨by omega, by omega⟩, max T t, Nat.lcm R (n - t), U', _, _, _, rfl, ?_, by omega, B'⟩
        rw [Nat.zero_add] at P ⊢
        refine Per.pair P C.per fun a b => ?_
        simp only [take_succ' hc, List.map_append, List.map_cons, List.map_nil]
        constructor
        · intro e
          obtain ⟨z1, z2⟩ := List.append_inj' e rfl
          exact ⟨z1, by simpa using z2⟩
        · rintro ⟨z1, z2⟩
          rw [z1, z2]
    · obtain ⟨T, R, U, x3, x4, x5, rfl, P, hT, B⟩ := hs
      rw [Nat.zero_add, List.length_map, List.take_length] at P
      try simp only [↓W_bind, ↓W_ret, ↓W_lift, ↓L_some, ↓L_map, ↓WS_eseq, ↓WS_seq, ↓WS_nil, ↓WS_pass, ↓WS_break, ↓WS_cont, ↓WS_never, ↓WS_set, ↓WS_ret, ↓WS_retN, ↓WS_drop, ↓WS_asg, ↓WS_if, ↓ifS_t, ↓ifS_f, ↓ifS_not, ↓ifS_dec, ↓ifM_t, ↓ifM_f, ↓ifM_not, ↓ifM_dec, ↓W_C, ↓W_2, ↓W_1, ↓W_A, ↓W_AL, ↓W_2L, ↓W_nilA, ↓W_consA, ↓W_B, ↓L_asB, ↓W_not, ↓W_tnot, ↓W_and, ↓W_or, ↓W_tand, ↓W_tor, ↓W_if, ↓W_chain, ↓L_bindB, ↓W_tup, ↓W_lst, ↓W_dat, ↓W_fz, ↓L_asD, ↓L_asO, ↓W_someI, ↓L_asI, ↓L_asI1, ↓W_noneI, ↓W_slL, ↓L_cut, ↓WS_for, ↓WS_while, ↓WS_put, ↓W_lc0, ↓W_itL, ↓L_asL, ↓W_itT, ↓L_asT, ↓W_itA, ↓W_itES, ↓L_add, ↓L_sub, ↓L_lt, ↓L_le, ↓L_gt, ↓L_ge, ↓L_neg, ↓L_mul, ↓L_mod, ↓L_div, ↓L_pow, ↓L_eqI, ↓L_neI, ↓L_eqL, ↓L_neL, ↓L_eqT, ↓L_neT, ↓L_eqS, ↓L_neS, ↓L_isN, ↓L_isNotN, ↓L_lenL, ↓L_lenT, ↓L_int, ↓L_intb, ↓L_max, ↓L_min, ↓L_cat, ↓L_ixL, ↓L_ixT, ↓L_rep, ↓L_r1, ↓L_r2, ↓L_en, ↓L_enS, ↓L_zip, ↓L_inL, ↓L_ninL, ↓L_isi, ↓L_ii, ↓L_ib, ↓L_il, ↓LB_nil, ↓LB_name, ↓LB_bind, ↓LB_cons, ↓LB_tup, ↓W_call, ↓W_callD, ↓W_aNil, ↓W_aCons, ↓W_aBor, ↓W_callB, ↓W_scr, ↓L_sort, ↓ifM_nT, ↓ifS_nT, ↓ifM_nL, ↓ifS_nL, ↓ifM_nI, ↓ifS_nI, ↓ifM_nS, ↓ifS_nS, ↓ifM_nB, ↓ifS_nB, ↓ifM_nN, ↓ifS_nN, ↓W_var0, ↓W_varo0, ↓W_vark0, ↓Set_0, ↓W_ixC0, ↓WS_app0, ↓App_0, ↓W_move0, ↓W_var1, ↓W_varo1, ↓W_vark1, ↓Set_1, ↓W_ixC1, ↓WS_app1, ↓App_1, ↓W_move1, ↓W_var2, ↓W_varo2, ↓W_vark2, ↓Set_2, ↓W_ixC2, ↓WS_app2, ↓App_2, ↓W_move2, ↓W_var3, ↓W_varo3, ↓W_vark3, ↓Set_3, ↓W_ixC3, ↓WS_app3, ↓App_3, ↓W_move3, ↓W_var4, ↓W_varo4, ↓W_vark4, ↓Set_4, ↓W_ixC4, ↓WS_app4, ↓App_4, ↓W_move4, ↓W_var5, ↓W_varo5, ↓W_vark5, ↓Set_5, ↓W_ixC5, ↓WS_app5, ↓App_5, ↓W_move5, ↓W_var6, ↓W_varo6, ↓W_vark6, ↓Set_6, ↓W_ixC6, ↓WS_app6, ↓App_6, ↓W_move6, ↓W_var7, ↓W_varo7, ↓W_vark7, ↓Set_7, ↓W_ixC7, ↓WS_app7, ↓App_7, ↓W_move7, ↓W_var8, ↓W_varo8, ↓W_vark8, ↓Set_8, ↓W_ixC8, ↓WS_app8, ↓App_8, ↓W_move8, ↓W_var9, ↓W_varo9, ↓W_vark9, ↓Set_9, ↓W_ixC9, ↓WS_app9, ↓App_9, ↓W_move9, ↓W_var10, ↓W_varo10, ↓W_vark10, ↓Set_10, ↓W_ixC10, ↓WS_app10, ↓App_10, ↓W_move10, ↓W_var11, ↓W_varo11, ↓W_vark11, ↓Set_11, ↓W_ixC11, ↓WS_app11, ↓App_11, ↓W_move11, ↓W_var12, ↓W_varo12, ↓W_vark12, ↓Set_12, ↓W_ixC12, ↓WS_app12, ↓App_12, ↓W_move12, ↓W_var13, ↓W_varo13, ↓W_vark13, ↓Set_13, ↓W_ixC13, ↓WS_app13, ↓App_13, ↓W_move13, ↓W_var14, ↓W_varo14, ↓W_vark14, ↓Set_14, ↓W_ixC14, ↓WS_app14, ↓App_14, ↓W_move14, ↓W_var15, ↓W_varo15, ↓W_vark15, ↓Set_15, ↓W_ixC15, ↓WS_app15, ↓App_15, ↓W_move15, ↓L_at0, ↓L_at1, ↓L_at2, ↓L_at3, ↓L_at4, ↓L_at5, ↓L_at6, ↓L_at7, ↓L_at8, ↓Put_0, ↓Put_1, ↓Put_2, wipeS, List.set_cons_zero, List.set_cons_succ, List.length_map]
      exact ⟨by simp, by simp, rfl, T, R, rfl, P, hT, B.small g.hi⟩
  obtain ⟨r, s, e, T, R, rfl, P, hT, hR⟩ := W_val key
  exact ⟨T, R, P, hT, hR, rfl, s, e⟩
/-! ### all letters at once -/
theorem Per.uniq {α : Type} {s : Nat → α} {t r t2 r2 : Nat} (h : Per s t r) (k : Per s t2 r2) : t = t2 ∧ r = r2 := by
  obtain ⟨e1, e2⟩ := h.cyc.uniq k.cyc
  omega
theorem Per.same {α β : Type} {s : Nat → α} {u : Nat → β} {t r : Nat} (h : Per s t r) (e : ∀ i j, u i = u j ↔ s i = s j) : Per u t r := ⟨h.pos, fun i j => by rw [e, h.iff]⟩
theorem rows_eq {ls ks : List Str} {v : Str → Str} (m : ∀ c, c ∈ ks ↔ c ∈ ls) (i j : Nat) : (ks.map fun c => orb v c i) = (ks.map fun c => orb v c j) ↔ (ls.map fun c => orb v c i) = (ls.map fun c => orb v c j) := by
  rw [List.map_inj_left, List.map_inj_left]
  exact ⟨fun h c hc => h c ((m c).mpr hc), fun h c hc => h c ((m c).mp hc)⟩
/-- turned the other way round, a table has the same tail and ring -/
theorem t_col2 {ls : List Str} {v : Str → Str} (g : GT ls v) : ∃ T R : Nat, Per (fun j => (sortT ls).map fun c => orb v c j) T R ∧ T ≤ 26 ∧ R ≤ 14000 ∧ Tl F_cycle_of_letters [.dat (.dict (tD ls v))] (.dat (.tuple [.int (T : Nat), .int (R : Nat)])) ∧ Tl F_cycle_of_letters [.dat (.dict (tD ls.reverse v))] (.dat (.tuple [.int (T : Nat), .int (R : Nat)])) := by
  obtain ⟨T, R, P, hT, hR, h1⟩ := t_col g
  obtain ⟨T2, R2, P2, _, _, h2⟩ := t_col g.rev
  have P3 := P2.same (u := fun j => ls.map fun c => orb v c j) fun i j => rows_eq (fun c => List.mem_reverse.symm) i j
  obtain ⟨rfl, rfl⟩ := P.uniq P3
  exact ⟨T, R, P.same fun i j => rows_eq (fun c => sortT_mem) i j, hT, hR, h1, h2⟩

def txs (xs : List Str) : PyData := .tuple (xs.map PyData.str)
theorem lay_txs {xs : List Str} (hx : ∀ x ∈ xs, PyData.strOk x = true) : PyData.canLay0 (txs xs) = true ∧ PyData.depth (txs xs) ≤ 1 := by
  unfold txs
  have h : PyData.canLayAll0 (xs.map PyData.str) = true ∧ PyData.depthAll (xs.map PyData.str) = 0 := by
    induction xs with
    | nil => exact ⟨by simp [PyData.canLayAll0], by simp [PyData.depthAll]⟩
    | cons x xs ih =>
      have ih := ih fun y hy => hx y (List.mem_cons_of_mem _ hy)
      exact ⟨by simp [PyData.canLayAll0, PyData.canLay0, ih.1, hx x List.mem_cons_self], by simp [PyData.depthAll, PyData.depth, ih.2]⟩
  exact ⟨by simp [PyData.canLay0, h.1], by simp [PyData.depth, h.2]⟩
theorem deep_txs {xs : List Str} (hx : ∀ x ∈ xs, PyData.strOk x = true) : okDeep (txs xs) = true := by
  obtain ⟨h1, h2⟩ := lay_txs hx
  unfold okDeep SeqAt.shaped
  rw [PyData.hasDict_of_canLay _ h1, h1, decide_eq_true (show (txs xs).depth ≤ 64 by omega)]
  rfl
theorem deep_rows {rs : List (List Str)} (hr : ∀ xs ∈ rs, ∀ x ∈ xs, PyData.strOk x = true) : okDeep (.list (rs.map txs)) = true := by
  have h : PyData.canLayAll0 (rs.map txs) = true ∧ PyData.depthAll (rs.map txs) ≤ 1 := by
    induction rs with
    | nil => exact ⟨by simp [PyData.canLayAll0], by simp [PyData.depthAll]⟩
    | cons x xs ih =>
      have ih := ih fun y hy => hr y (List.mem_cons_of_mem _ hy)
      obtain ⟨h1, h2⟩ := lay_txs (hr x List.mem_cons_self)
      refine ⟨by simp [PyData.canLayAll0, h1, ih.1], ?_⟩
      simp only [List.map_cons, PyData.depthAll]
      omega
  have h1 : PyData.canLay0 (.list (rs.map txs)) = true := by simp [PyData.canLay0, h.1]
  have h2 : PyData.depth (.list (rs.map txs)) ≤ 2 := by
    simp only [PyData.depth]
    omega
  unfold okDeep SeqAt.shaped
  rw [PyData.hasDict_of_canLay _ h1, h1, decide_eq_true (show (PyData.list (rs.map txs)).depth ≤ 64 by omega)]
  rfl
theorem eqv_txs : ∀ xs ys : List Str, PyData.eqv (txs xs) (txs ys) = decide (xs = ys) := by
  intro xs ys
  unfold txs
  rw [PyData.eqv]
  induction xs generalizing ys with
  | nil => cases ys <;> simp [PyData.eqvAll]
  | cons x xs ih =>
    cases ys with
    | nil => simp [PyData.eqvAll]
    | cons y ys =>
      rw [List.map_cons, List.map_cons, PyData.eqvAll, PyData.eqv, ih]
      by_cases e : x = y
      · subst e
        simp
      · simp [e]
section
variable {ss : List SV} {P : PyData → List SV → Prop} {f g : M PyData} {fa : M (List PyData)} {k : PyData → PyData → Option PyData} {lb : Option Nat} {ds : List PyData} {a x : PyData} {b : Bool} {l : List SV} {s0 : SV}
theorem W_cmpQ1 (h : k x (.list ds) = some (.bool b)) : W (mCmpQ k 1 (mVar 2) (s0 :: .own lb ds :: .dat x :: l)) P ↔ P (.bool b) (s0 :: .own lb ds :: .dat x :: l) := by
  show W (match k x (.list ds) with | some (.bool b) => some (R.val (PyData.bool b) (s0 :: .own lb ds :: .dat x :: l)) | _ => none) P ↔ _
  rw [h]
  exact Iff.rfl
theorem W_indexD : W (mIndexD f fa ss) P ↔ W (f ss) fun d s => L (asL d) s fun ds s => W (fa s) fun as s => L (kIdxD ds as) s P := by
  unfold mIndexD itL
  simp only [W_bind, W_lift]
end
theorem L_asTx {xs : List Str} {s : List SV} {PL : List PyData → List SV → Prop} : L (asT (txs xs)) s PL ↔ PL (xs.map PyData.str) s := L_asT
theorem W_ixN1 {k : Int} {s0 : SV} {lb : Option Nat} {ds : List PyData} {l : List SV} {P : PyData → List SV → Prop} : W (mIxP 1 (m1 kNeg (mC (.int k))) (s0 :: .own lb ds :: l)) P ↔ L (atI ds (-k)) (s0 :: .own lb ds :: l) P := W_ixNG rfl
/-! ### all letters turned until they come again -/
def rws (ks : List Str) (v : Str → Str) (i : Nat) : List Str := ks.map fun c => orb v c i
theorem t_turned {ls : List Str} {v : Str → Str} (g : GT ls v) {T R : Nat} (Pr : Per (fun j => (sortT ls).map fun c => orb v c j) T R) (hT : T ≤ 26) (hR : R ≤ 14000) : Tl F_l_turned [.dat (.dict (tD ls v))] (.dat (.tuple [.int (T : Nat), .int (R : Nat)])) := by
  have rp := Pr.pos
  have C : Cyc (rws (sortT ls) v) T (T + R) := Pr.cyc
  have h2 := g.hi
  have okr : ∀ i, ∀ x ∈ rws (sortT ls) v i, PyData.strOk x = true := fun i x hx => by
    obtain ⟨c, hc, rfl⟩ := List.mem_map.mp hx
    exact g.ok _ (g.go (sortT_mem.mp hc) i)
  refine Tl_def rfl rfl ?_
  simp only [List.cons_append, List.nil_append, List.replicate_succ, List.replicate_zero, Nat.reduceSub, Nat.sub_self]
  unfold B_l_turned
  simp only [L_sortK tD_keys (show ls.length < 64 by omega), kTupleOf, ↓W_bind, ↓W_ret, ↓W_lift, ↓L_some, ↓L_map, ↓WS_eseq, ↓WS_seq, ↓WS_nil, ↓WS_pass, ↓WS_break, ↓WS_cont, ↓WS_never, ↓WS_set, ↓WS_ret, ↓WS_retN, ↓WS_drop, ↓WS_asg, ↓WS_if, ↓ifS_t, ↓ifS_f, ↓ifS_not, ↓ifS_dec, ↓ifM_t, ↓ifM_f, ↓ifM_not, ↓ifM_dec, ↓W_C, ↓W_2, ↓W_1, ↓W_A, ↓W_AL, ↓W_2L, ↓W_nilA, ↓W_consA, ↓W_B, ↓L_asB, ↓W_not, ↓W_tnot, ↓W_and, ↓W_or, ↓W_tand, ↓W_tor, ↓W_if, ↓W_chain, ↓L_bindB, ↓W_tup, ↓W_lst, ↓W_dat, ↓W_fz, ↓L_asD, ↓L_asO, ↓W_someI, ↓L_asI, ↓L_asI1, ↓W_noneI, ↓W_slL, ↓L_cut, ↓WS_for, ↓WS_while, ↓WS_put, ↓W_lc0, ↓W_itL, ↓L_asL, ↓W_itT, ↓L_asT, ↓W_itA, ↓W_itES, ↓L_add, ↓L_sub, ↓L_lt, ↓L_le, ↓L_gt, ↓L_ge, ↓L_neg, ↓L_mul, ↓L_mod, ↓L_div, ↓L_pow, ↓L_eqI, ↓L_neI, ↓L_eqL, ↓L_neL, ↓L_eqT, ↓L_neT, ↓L_eqS, ↓L_neS, ↓L_isN, ↓L_isNotN, ↓L_lenL, ↓L_lenT, ↓L_int, ↓L_intb, ↓L_max, ↓L_min, ↓L_cat, ↓L_ixL, ↓L_ixT, ↓L_rep, ↓L_r1, ↓L_r2, ↓L_en, ↓L_enS, ↓L_zip, ↓L_inL, ↓L_ninL, ↓L_isi, ↓L_ii, ↓L_ib, ↓L_il, ↓LB_nil, ↓LB_name, ↓LB_bind, ↓LB_cons, ↓LB_tup, ↓W_call, ↓W_callD, ↓W_aNil, ↓W_aCons, ↓W_aBor, ↓W_callB, ↓W_scr, ↓L_sort, ↓ifM_nT, ↓ifS_nT, ↓ifM_nL, ↓ifS_nL, ↓ifM_nI, ↓ifS_nI, ↓ifM_nS, ↓ifS_nS, ↓ifM_nB, ↓ifS_nB, ↓ifM_nN, ↓ifS_nN, ↓W_var0, ↓W_varo0, ↓W_vark0, ↓Set_0, ↓W_ixC0, ↓WS_app0, ↓App_0, ↓W_move0, ↓W_var1, ↓W_varo1, ↓W_vark1, ↓Set_1, ↓W_ixC1, ↓WS_app1, ↓App_1, ↓W_move1, ↓W_var2, ↓W_varo2, ↓W_vark2, ↓Set_2, ↓W_ixC2, ↓WS_app2, ↓App_2, ↓W_move2, ↓W_var3, ↓W_varo3, ↓W_vark3, ↓Set_3, ↓W_ixC3, ↓WS_app3, ↓App_3, ↓W_move3, ↓W_var4, ↓W_varo4, ↓W_vark4, ↓Set_4, ↓W_ixC4, ↓WS_app4, ↓App_4, ↓W_move4, ↓W_var5, ↓W_varo5, ↓W_vark5, ↓Set_5, ↓W_ixC5, ↓WS_app5, ↓App_5, ↓W_move5, ↓W_var6, ↓W_varo6, ↓W_vark6, ↓Set_6, ↓W_ixC6, ↓WS_app6, ↓App_6, ↓W_move6, ↓W_var7, ↓W_varo7, ↓W_vark7, ↓Set_7, ↓W_ixC7, ↓WS_app7, ↓App_7, ↓W_move7, ↓W_var8, ↓W_varo8, ↓W_vark8, ↓Set_8, ↓W_ixC8, ↓WS_app8, ↓App_8, ↓W_move8, ↓W_var9, ↓W_varo9, ↓W_vark9, ↓Set_9, ↓W_ixC9, ↓WS_app9, ↓App_9, ↓W_move9, ↓W_var10, ↓W_varo10, ↓W_vark10, ↓Set_10, ↓W_ixC10, ↓WS_app10, ↓App_10, ↓W_move10, ↓W_var11, ↓W_varo11, ↓W_vark11, ↓Set_11, ↓W_ixC11, ↓WS_app11, ↓App_11, ↓W_move11, ↓W_var12, ↓W_varo12, ↓W_vark12, ↓Set_12, ↓W_ixC12, ↓WS_app12, ↓App_12, ↓W_move12, ↓W_var13, ↓W_varo13, ↓W_vark13, ↓Set_13, ↓W_ixC13, ↓WS_app13, ↓App_13, ↓W_move13, ↓W_var14, ↓W_varo14, ↓W_vark14, ↓Set_14, ↓W_ixC14, ↓WS_app14, ↓App_14, ↓W_move14, ↓W_var15, ↓W_varo15, ↓W_vark15, ↓Set_15, ↓W_ixC15, ↓WS_app15, ↓App_15, ↓W_move15, ↓L_at0, ↓L_at1, ↓L_at2, ↓L_at3, ↓L_at4, ↓L_at5, ↓L_at6, ↓L_at7, ↓L_at8, ↓Put_0, ↓Put_1, ↓Put_2, wipeS, List.set_cons_zero, List.set_cons_succ, List.length_map]
  refine ⟨by simp, ?_⟩
  have r0 : PyData.tuple (List.map PyData.str (sortT ls)) = txs (rws (sortT ls) v 0) := by
    unfold txs rws
    rw [show (fun c => orb v c 0) = id from rfl, List.map_id]
  rw [r0]
  refine WS_whileGo (fun m s => ∃ i x2 x3, s = [.dat (.dict (tD ls v)), .own none ((List.range (i + 1)).map fun j => txs (rws (sortT ls) v j)), x2, x3] ∧ i + m = T + R ∧ 0 < m) (m := T + R) (by omega) ⟨0, _, _, rfl, by omega, by omega⟩ fun m s hs => ?_
  obtain ⟨i, x2, x3, rfl, hm, m0⟩ := hs
  simp only [W_ixN1, ↓W_bind, ↓W_ret, ↓W_lift, ↓L_some, ↓L_map, ↓WS_eseq, ↓WS_seq, ↓WS_nil, ↓WS_pass, ↓WS_break, ↓WS_cont, ↓WS_never, ↓WS_set, ↓WS_ret, ↓WS_retN, ↓WS_drop, ↓WS_asg, ↓WS_if, ↓ifS_t, ↓ifS_f, ↓ifS_not, ↓ifS_dec, ↓ifM_t, ↓ifM_f, ↓ifM_not, ↓ifM_dec, ↓W_C, ↓W_2, ↓W_1, ↓W_A, ↓W_AL, ↓W_2L, ↓W_nilA, ↓W_consA, ↓W_B, ↓L_asB, ↓W_not, ↓W_tnot, ↓W_and, ↓W_or, ↓W_tand, ↓W_tor, ↓W_if, ↓W_chain, ↓L_bindB, ↓W_tup, ↓W_lst, ↓W_dat, ↓W_fz, ↓L_asD, ↓L_asO, ↓W_someI, ↓L_asI, ↓L_asI1, ↓W_noneI, ↓W_slL, ↓L_cut, ↓WS_for, ↓WS_while, ↓WS_put, ↓W_lc0, ↓W_itL, ↓L_asL, ↓W_itT, ↓L_asT, ↓W_itA, ↓W_itES, ↓L_add, ↓L_sub, ↓L_lt, ↓L_le, ↓L_gt, ↓L_ge, ↓L_neg, ↓L_mul, ↓L_mod, ↓L_div, ↓L_pow, ↓L_eqI, ↓L_neI, ↓L_eqL, ↓L_neL, ↓L_eqT, ↓L_neT, ↓L_eqS, ↓L_neS, ↓L_isN, ↓L_isNotN, ↓L_lenL, ↓L_lenT, ↓L_int, ↓L_intb, ↓L_max, ↓L_min, ↓L_cat, ↓L_ixL, ↓L_ixT, ↓L_rep, ↓L_r1, ↓L_r2, ↓L_en, ↓L_enS, ↓L_zip, ↓L_inL, ↓L_ninL, ↓L_isi, ↓L_ii, ↓L_ib, ↓L_il, ↓LB_nil, ↓LB_name, ↓LB_bind, ↓LB_cons, ↓LB_tup, ↓W_call, ↓W_callD, ↓W_aNil, ↓W_aCons, ↓W_aBor, ↓W_callB, ↓W_scr, ↓L_sort, ↓ifM_nT, ↓ifS_nT, ↓ifM_nL, ↓ifS_nL, ↓ifM_nI, ↓ifS_nI, ↓ifM_nS, ↓ifS_nS, ↓ifM_nB, ↓ifS_nB, ↓ifM_nN, ↓ifS_nN, ↓W_var0, ↓W_varo0, ↓W_vark0, ↓Set_0, ↓W_ixC0, ↓WS_app0, ↓App_0, ↓W_move0, ↓W_var1, ↓W_varo1, ↓W_vark1, ↓Set_1, ↓W_ixC1, ↓WS_app1, ↓App_1, ↓W_move1, ↓W_var2, ↓W_varo2, ↓W_vark2, ↓Set_2, ↓W_ixC2, ↓WS_app2, ↓App_2, ↓W_move2, ↓W_var3, ↓W_varo3, ↓W_vark3, ↓Set_3, ↓W_ixC3, ↓WS_app3, ↓App_3, ↓W_move3, ↓W_var4, ↓W_varo4, ↓W_vark4, ↓Set_4, ↓W_ixC4, ↓WS_app4, ↓App_4, ↓W_move4, ↓W_var5, ↓W_varo5, ↓W_vark5, ↓Set_5, ↓W_ixC5, ↓WS_app5, ↓App_5, ↓W_move5, ↓W_var6, ↓W_varo6, ↓W_vark6, ↓Set_6, ↓W_ixC6, ↓WS_app6, ↓App_6, ↓W_move6, ↓W_var7, ↓W_varo7, ↓W_vark7, ↓Set_7, ↓W_ixC7, ↓WS_app7, ↓App_7, ↓W_move7, ↓W_var8, ↓W_varo8, ↓W_vark8, ↓Set_8, ↓W_ixC8, ↓WS_app8, ↓App_8, ↓W_move8, ↓W_var9, ↓W_varo9, ↓W_vark9, ↓Set_9, ↓W_ixC9, ↓WS_app9, ↓App_9, ↓W_move9, ↓W_var10, ↓W_varo10, ↓W_vark10, ↓Set_10, ↓W_ixC10, ↓WS_app10, ↓App_10, ↓W_move10, ↓W_var11, ↓W_varo11, ↓W_vark11, ↓Set_11, ↓W_ixC11, ↓WS_app11, ↓App_11, ↓W_move11, ↓W_var12, ↓W_varo12, ↓W_vark12, ↓Set_12, ↓W_ixC12, ↓WS_app12, ↓App_12, ↓W_move12, ↓W_var13, ↓W_varo13, ↓W_vark13, ↓Set_13, ↓W_ixC13, ↓WS_app13, ↓App_13, ↓W_move13, ↓W_var14, ↓W_varo14, ↓W_vark14, ↓Set_14, ↓W_ixC14, ↓WS_app14, ↓App_14, ↓W_move14, ↓W_var15, ↓W_varo15, ↓W_vark15, ↓Set_15, ↓W_ixC15, ↓WS_app15, ↓App_15, ↓W_move15, ↓L_at0, ↓L_at1, ↓L_at2, ↓L_at3, ↓L_at4, ↓L_at5, ↓L_at6, ↓L_at7, ↓L_at8, ↓Put_0, ↓Put_1, ↓Put_2, wipeS, List.set_cons_zero, List.set_cons_succ, List.length_map]
  have hlast : atI ((List.range (i + 1)).map fun j => txs (rws (sortT ls) v j)) (-1) = some (txs (rws (sortT ls) v i)) := by
    refine at_last ?_
    rw [List.length_map, List.length_range, List.getElem?_map, List.getElem?_range (by omega)]
    rfl
  refine L_of hlast ?_
  simp only [L_asTx, ↓W_bind, ↓W_ret, ↓W_lift, ↓L_some, ↓L_map, ↓WS_eseq, ↓WS_seq, ↓WS_nil, ↓WS_pass, ↓WS_break, ↓WS_cont, ↓WS_never, ↓WS_set, ↓WS_ret, ↓WS_retN, ↓WS_drop, ↓WS_asg, ↓WS_if, ↓ifS_t, ↓ifS_f, ↓ifS_not, ↓ifS_dec, ↓ifM_t, ↓ifM_f, ↓ifM_not, ↓ifM_dec, ↓W_C, ↓W_2, ↓W_1, ↓W_A, ↓W_AL, ↓W_2L, ↓W_nilA, ↓W_consA, ↓W_B, ↓L_asB, ↓W_not, ↓W_tnot, ↓W_and, ↓W_or, ↓W_tand, ↓W_tor, ↓W_if, ↓W_chain, ↓L_bindB, ↓W_tup, ↓W_lst, ↓W_dat, ↓W_fz, ↓L_asD, ↓L_asO, ↓W_someI, ↓L_asI, ↓L_asI1, ↓W_noneI, ↓W_slL, ↓L_cut, ↓WS_for, ↓WS_while, ↓WS_put, ↓W_lc0, ↓W_itL, ↓L_asL, ↓W_itT, ↓L_asT, ↓W_itA, ↓W_itES, ↓L_add, ↓L_sub, ↓L_lt, ↓L_le, ↓L_gt, ↓L_ge, ↓L_neg, ↓L_mul, ↓L_mod, ↓L_div, ↓L_pow, ↓L_eqI, ↓L_neI, ↓L_eqL, ↓L_neL, ↓L_eqT, ↓L_neT, ↓L_eqS, ↓L_neS, ↓L_isN, ↓L_isNotN, ↓L_lenL, ↓L_lenT, ↓L_int, ↓L_intb, ↓L_max, ↓L_min, ↓L_cat, ↓L_ixL, ↓L_ixT, ↓L_rep, ↓L_r1, ↓L_r2, ↓L_en, ↓L_enS, ↓L_zip, ↓L_inL, ↓L_ninL, ↓L_isi, ↓L_ii, ↓L_ib, ↓L_il, ↓LB_nil, ↓LB_name, ↓LB_bind, ↓LB_cons, ↓LB_tup, ↓W_call, ↓W_callD, ↓W_aNil, ↓W_aCons, ↓W_aBor, ↓W_callB, ↓W_scr, ↓L_sort, ↓ifM_nT, ↓ifS_nT, ↓ifM_nL, ↓ifS_nL, ↓ifM_nI, ↓ifS_nI, ↓ifM_nS, ↓ifS_nS, ↓ifM_nB, ↓ifS_nB, ↓ifM_nN, ↓ifS_nN, ↓W_var0, ↓W_varo0, ↓W_vark0, ↓Set_0, ↓W_ixC0, ↓WS_app0, ↓App_0, ↓W_move0, ↓W_var1, ↓W_varo1, ↓W_vark1, ↓Set_1, ↓W_ixC1, ↓WS_app1, ↓App_1, ↓W_move1, ↓W_var2, ↓W_varo2, ↓W_vark2, ↓Set_2, ↓W_ixC2, ↓WS_app2, ↓App_2, ↓W_move2, ↓W_var3, ↓W_varo3, ↓W_vark3, ↓Set_3, ↓W_ixC3, ↓WS_app3, ↓App_3, ↓W_move3, ↓W_var4, ↓W_varo4, ↓W_vark4, ↓Set_4, ↓W_ixC4, ↓WS_app4, ↓App_4, ↓W_move4, ↓W_var5, ↓W_varo5, ↓W_vark5, ↓Set_5, ↓W_ixC5, ↓WS_app5, ↓App_5, ↓W_move5, ↓W_var6, ↓W_varo6, ↓W_vark6, ↓Set_6, ↓W_ixC6, ↓WS_app6, ↓App_6, ↓W_move6, ↓W_var7, ↓W_varo7, ↓W_vark7, ↓Set_7, ↓W_ixC7, ↓WS_app7, ↓App_7, ↓W_move7, ↓W_var8, ↓W_varo8, ↓W_vark8, ↓Set_8, ↓W_ixC8, ↓WS_app8, ↓App_8, ↓W_move8, ↓W_var9, ↓W_varo9, ↓W_vark9, ↓Set_9, ↓W_ixC9, ↓WS_app9, ↓App_9, ↓W_move9, ↓W_var10, ↓W_varo10, ↓W_vark10, ↓Set_10, ↓W_ixC10, ↓WS_app10, ↓App_10, ↓W_move10, ↓W_var11, ↓W_varo11, ↓W_vark11, ↓Set_11, ↓W_ixC11, ↓WS_app11, ↓App_11, ↓W_move11, ↓W_var12, ↓W_varo12, ↓W_vark12, ↓Set_12, ↓W_ixC12, ↓WS_app12, ↓App_12, ↓W_move12, ↓W_var13, ↓W_varo13, ↓W_vark13, ↓Set_13, ↓W_ixC13, ↓WS_app13, ↓App_13, ↓W_move13, ↓W_var14, ↓W_varo14, ↓W_vark14, ↓Set_14, ↓W_ixC14, ↓WS_app14, ↓App_14, ↓W_move14, ↓W_var15, ↓W_varo15, ↓W_vark15, ↓Set_15, ↓W_ixC15, ↓WS_app15, ↓App_15, ↓W_move15, ↓L_at0, ↓L_at1, ↓L_at2, ↓L_at3, ↓L_at4, ↓L_at5, ↓L_at6, ↓L_at7, ↓L_at8, ↓Put_0, ↓Put_1, ↓Put_2, wipeS, List.set_cons_zero, List.set_cons_succ, List.length_map]
  have inl : ∀ i, ∀ x ∈ rws (sortT ls) v i, x ∈ ls := fun i x hx => by
    obtain ⟨c, hc, rfl⟩ := List.mem_map.mp hx
    exact g.go (sortT_mem.mp hc) i
  have hlen : (rws (sortT ls) v i).length ≤ 26 := by
    unfold rws
    rw [List.length_map, sortT_len]
    exact h2
  refine W_lcM PyData.str (fun s => s = [.dat (.dict (tD ls v)), .own none ((List.range (i + 1)).map fun j => txs (rws (sortT ls) v j)), x2, .gone]) (fun x => .str (v x)) rfl (by omega) (fun c hc s hs => ?_) fun s hs => ?_
  · subst hs
    try simp only [↓W_bind, ↓W_ret, ↓W_lift, ↓L_some, ↓L_map, ↓WS_eseq, ↓WS_seq, ↓WS_nil, ↓WS_pass, ↓WS_break, ↓WS_cont, ↓WS_never, ↓WS_set, ↓WS_ret, ↓WS_retN, ↓WS_drop, ↓WS_asg, ↓WS_if, ↓ifS_t, ↓ifS_f, ↓ifS_not, ↓ifS_dec, ↓ifM_t, ↓ifM_f, ↓ifM_not, ↓ifM_dec, ↓W_C, ↓W_2, ↓W_1, ↓W_A, ↓W_AL, ↓W_2L, ↓W_nilA, ↓W_consA, ↓W_B, ↓L_asB, ↓W_not, ↓W_tnot, ↓W_and, ↓W_or, ↓W_tand, ↓W_tor, ↓W_if, ↓W_chain, ↓L_bindB, ↓W_tup, ↓W_lst, ↓W_dat, ↓W_fz, ↓L_asD, ↓L_asO, ↓W_someI, ↓L_asI, ↓L_asI1, ↓W_noneI, ↓W_slL, ↓L_cut, ↓WS_for, ↓WS_while, ↓WS_put, ↓W_lc0, ↓W_itL, ↓L_asL, ↓W_itT, ↓L_asT, ↓W_itA, ↓W_itES, ↓L_add, ↓L_sub, ↓L_lt, ↓L_le, ↓L_gt, ↓L_ge, ↓L_neg, ↓L_mul, ↓L_mod, ↓L_div, ↓L_pow, ↓L_eqI, ↓L_neI, ↓L_eqL, ↓L_neL, ↓L_eqT, ↓L_neT, ↓L_eqS, ↓L_neS, ↓L_isN, ↓L_isNotN, ↓L_lenL, ↓L_lenT, ↓L_int, ↓L_intb, ↓L_max, ↓L_min, ↓L_cat, ↓L_ixL, ↓L_ixT, ↓L_rep, ↓L_r1, ↓L_r2, ↓L_en, ↓L_enS, ↓L_zip, ↓L_inL, ↓L_ninL, ↓L_isi, ↓L_ii, ↓L_ib, ↓L_il, ↓LB_nil, ↓LB_name, ↓LB_bind, ↓LB_cons, ↓LB_tup, ↓W_call, ↓W_callD, ↓W_aNil, ↓W_aCons, ↓W_aBor, ↓W_callB, ↓W_scr, ↓L_sort, ↓ifM_nT, ↓ifS_nT, ↓ifM_nL, ↓ifS_nL, ↓ifM_nI, ↓ifS_nI, ↓ifM_nS, ↓ifS_nS, ↓ifM_nB, ↓ifS_nB, ↓ifM_nN, ↓ifS_nN, ↓W_var0, ↓W_varo0, ↓W_vark0, ↓Set_0, ↓W_ixC0, ↓WS_app0, ↓App_0, ↓W_move0, ↓W_var1, ↓W_varo1, ↓W_vark1, ↓Set_1, ↓W_ixC1, ↓WS_app1, ↓App_1, ↓W_move1, ↓W_var2, ↓W_varo2, ↓W_vark2, ↓Set_2, ↓W_ixC2, ↓WS_app2, ↓App_2, ↓W_move2, ↓W_var3, ↓W_varo3, ↓W_vark3, ↓Set_3, ↓W_ixC3, ↓WS_app3, ↓App_3, ↓W_move3, ↓W_var4, ↓W_varo4, ↓W_vark4, ↓Set_4, ↓W_ixC4, ↓WS_app4, ↓App_4, ↓W_move4, ↓W_var5, ↓W_varo5, ↓W_vark5, ↓Set_5, ↓W_ixC5, ↓WS_app5, ↓App_5, ↓W_move5, ↓W_var6, ↓W_varo6, ↓W_vark6, ↓Set_6, ↓W_ixC6, ↓WS_app6, ↓App_6, ↓W_move6, ↓W_var7, ↓W_varo7, ↓W_vark7, ↓Set_7, ↓W_ixC7, ↓WS_app7, ↓App_7, ↓W_move7, ↓W_var8, ↓W_varo8, ↓W_vark8, ↓Set_8, ↓W_ixC8, ↓WS_app8, ↓App_8, ↓W_move8, ↓W_var9, ↓W_varo9, ↓W_vark9, ↓Set_9, ↓W_ixC9, ↓WS_app9, ↓App_9, ↓W_move9, ↓W_var10, ↓W_varo10, ↓W_vark10, ↓Set_10, ↓W_ixC10, ↓WS_app10, ↓App_10, ↓W_move10, ↓W_var11, ↓W_varo11, ↓W_vark11, ↓Set_11, ↓W_ixC11, ↓WS_app11, ↓App_11, ↓W_move11, ↓W_var12, ↓W_varo12, ↓W_vark12, ↓Set_12, ↓W_ixC12, ↓WS_app12, ↓App_12, ↓W_move12, ↓W_var13, ↓W_varo13, ↓W_vark13, ↓Set_13, ↓W_ixC13, ↓WS_app13, ↓App_13, ↓W_move13, ↓W_var14, ↓W_varo14, ↓W_vark14, ↓Set_14, ↓W_ixC14, ↓WS_app14, ↓App_14, ↓W_move14, ↓W_var15, ↓W_varo15, ↓W_vark15, ↓Set_15, ↓W_ixC15, ↓WS_app15, ↓App_15, ↓W_move15, ↓L_at0, ↓L_at1, ↓L_at2, ↓L_at3, ↓L_at4, ↓L_at5, ↓L_at6, ↓L_at7, ↓L_at8, ↓Put_0, ↓Put_1, ↓Put_2, wipeS, List.set_cons_zero, List.set_cons_succ, List.length_map]
    refine ⟨trivial, L_of (tD_get (inl i c hc)) ?_⟩
    exact ⟨rfl, rfl⟩
  · subst hs
    have e1 : PyData.tuple ((rws (sortT ls) v i).map fun x => PyData.str (v x)) = txs (rws (sortT ls) v (i + 1)) := by
      unfold txs rws
      rw [List.map_map, List.map_map]
      rfl
    simp only [kTupleOf, ↓W_bind, ↓W_ret, ↓W_lift, ↓L_some, ↓L_map, ↓WS_eseq, ↓WS_seq, ↓WS_nil, ↓WS_pass, ↓WS_break, ↓WS_cont, ↓WS_never, ↓WS_set, ↓WS_ret, ↓WS_retN, ↓WS_drop, ↓WS_asg, ↓WS_if, ↓ifS_t, ↓ifS_f, ↓ifS_not, ↓ifS_dec, ↓ifM_t, ↓ifM_f, ↓ifM_not, ↓ifM_dec, ↓W_C, ↓W_2, ↓W_1, ↓W_A, ↓W_AL, ↓W_2L, ↓W_nilA, ↓W_consA, ↓W_B, ↓L_asB, ↓W_not, ↓W_tnot, ↓W_and, ↓W_or, ↓W_tand, ↓W_tor, ↓W_if, ↓W_chain, ↓L_bindB, ↓W_tup, ↓W_lst, ↓W_dat, ↓W_fz, ↓L_asD, ↓L_asO, ↓W_someI, ↓L_asI, ↓L_asI1, ↓W_noneI, ↓W_slL, ↓L_cut, ↓WS_for, ↓WS_while, ↓WS_put, ↓W_lc0, ↓W_itL, ↓L_asL, ↓W_itT, ↓L_asT, ↓W_itA, ↓W_itES, ↓L_add, ↓L_sub, ↓L_lt, ↓L_le, ↓L_gt, ↓L_ge, ↓L_neg, ↓L_mul, ↓L_mod, ↓L_div, ↓L_pow, ↓L_eqI, ↓L_neI, ↓L_eqL, ↓L_neL, ↓L_eqT, ↓L_neT, ↓L_eqS, ↓L_neS, ↓L_isN, ↓L_isNotN, ↓L_lenL, ↓L_lenT, ↓L_int, ↓L_intb, ↓L_max, ↓L_min, ↓L_cat, ↓L_ixL, ↓L_ixT, ↓L_rep, ↓L_r1, ↓L_r2, ↓L_en, ↓L_enS, ↓L_zip, ↓L_inL, ↓L_ninL, ↓L_isi, ↓L_ii, ↓L_ib, ↓L_il, ↓LB_nil, ↓LB_name, ↓LB_bind, ↓LB_cons, ↓LB_tup, ↓W_call, ↓W_callD, ↓W_aNil, ↓W_aCons, ↓W_aBor, ↓W_callB, ↓W_scr, ↓L_sort, ↓ifM_nT, ↓ifS_nT, ↓ifM_nL, ↓ifS_nL, ↓ifM_nI, ↓ifS_nI, ↓ifM_nS, ↓ifS_nS, ↓ifM_nB, ↓ifS_nB, ↓ifM_nN, ↓ifS_nN, ↓W_var0, ↓W_varo0, ↓W_vark0, ↓Set_0, ↓W_ixC0, ↓WS_app0, ↓App_0, ↓W_move0, ↓W_var1, ↓W_varo1, ↓W_vark1, ↓Set_1, ↓W_ixC1, ↓WS_app1, ↓App_1, ↓W_move1, ↓W_var2, ↓W_varo2, ↓W_vark2, ↓Set_2, ↓W_ixC2, ↓WS_app2, ↓App_2, ↓W_move2, ↓W_var3, ↓W_varo3, ↓W_vark3, ↓Set_3, ↓W_ixC3, ↓WS_app3, ↓App_3, ↓W_move3, ↓W_var4, ↓W_varo4, ↓W_vark4, ↓Set_4, ↓W_ixC4, ↓WS_app4, ↓App_4, ↓W_move4, ↓W_var5, ↓W_varo5, ↓W_vark5, ↓Set_5, ↓W_ixC5, ↓WS_app5, ↓App_5, ↓W_move5, ↓W_var6, ↓W_varo6, ↓W_vark6, ↓Set_6, ↓W_ixC6, ↓WS_app6, ↓App_6, ↓W_move6, ↓W_var7, ↓W_varo7, ↓W_vark7, ↓Set_7, ↓W_ixC7, ↓WS_app7, ↓App_7, ↓W_move7, ↓W_var8, ↓W_varo8, ↓W_vark8, ↓Set_8, ↓W_ixC8, ↓WS_app8, ↓App_8, ↓W_move8, ↓W_var9, ↓W_varo9, ↓W_vark9, ↓Set_9, ↓W_ixC9, ↓WS_app9, ↓App_9, ↓W_move9, ↓W_var10, ↓W_varo10, ↓W_vark10, ↓Set_10, ↓W_ixC10, ↓WS_app10, ↓App_10, ↓W_move10, ↓W_var11, ↓W_varo11, ↓W_vark11, ↓Set_11, ↓W_ixC11, ↓WS_app11, ↓App_11, ↓W_move11, ↓W_var12, ↓W_varo12, ↓W_vark12, ↓Set_12, ↓W_ixC12, ↓WS_app12, ↓App_12, ↓W_move12, ↓W_var13, ↓W_varo13, ↓W_vark13, ↓Set_13, ↓W_ixC13, ↓WS_app13, ↓App_13, ↓W_move13, ↓W_var14, ↓W_varo14, ↓W_vark14, ↓Set_14, ↓W_ixC14, ↓WS_app14, ↓App_14, ↓W_move14, ↓W_var15, ↓W_varo15, ↓W_vark15, ↓Set_15, ↓W_ixC15, ↓WS_app15, ↓App_15, ↓W_move15, ↓L_at0, ↓L_at1, ↓L_at2, ↓L_at3, ↓L_at4, ↓L_at5, ↓L_at6, ↓L_at7, ↓L_at8, ↓Put_0, ↓Put_1, ↓Put_2, wipeS, List.set_cons_zero, List.set_cons_succ, List.length_map]
    rw [e1]
    have dr : okDeep (.list ((List.range (i + 1)).map fun j => txs (rws (sortT ls) v j))) = true := by
      have := deep_rows (rs := (List.range (i + 1)).map fun j => rws (sortT ls) v j) fun xs hx x hm => by
        obtain ⟨j, _, rfl⟩ := List.mem_map.mp hx
        exact okr j x hm
      rw [List.map_map] at this
      exact this
    have hin : kInD (txs (rws (sortT ls) v (i + 1))) (.list ((List.range (i + 1)).map fun j => txs (rws (sortT ls) v j))) = some (.bool ((List.range (i + 1)).any fun j => decide (rws (sortT ls) v j = rws (sortT ls) v (i + 1)))) := by
      show (if (okDeep (txs (rws (sortT ls) v (i + 1))) && okDeep (.list ((List.range (i + 1)).map fun j => txs (rws (sortT ls) v j)))) = true then _ else _) = _
      rw [deep_txs (okr (i + 1)), dr]
      rw [if_pos (by decide), List.any_map]
      refine congrArg (fun b => some (PyData.bool b)) ?_
      refine congrArg (fun p => (List.range (i + 1)).any p) (funext fun j => ?_)
      exact eqv_txs _ _
    rw [W_cmpQ1 hin]
    try simp only [↓W_bind, ↓W_ret, ↓W_lift, ↓L_some, ↓L_map, ↓WS_eseq, ↓WS_seq, ↓WS_nil, ↓WS_pass, ↓WS_break, ↓WS_cont, ↓WS_never, ↓WS_set, ↓WS_ret, ↓WS_retN, ↓WS_drop, ↓WS_asg, ↓WS_if, ↓ifS_t, ↓ifS_f, ↓ifS_not, ↓ifS_dec, ↓ifM_t, ↓ifM_f, ↓ifM_not, ↓ifM_dec, ↓W_C, ↓W_2, ↓W_1, ↓W_A, ↓W_AL, ↓W_2L, ↓W_nilA, ↓W_consA, ↓W_B, ↓L_asB, ↓W_not, ↓W_tnot, ↓W_and, ↓W_or, ↓W_tand, ↓W_tor, ↓W_if, ↓W_chain, ↓L_bindB, ↓W_tup, ↓W_lst, ↓W_dat, ↓W_fz, ↓L_asD, ↓L_asO, ↓W_someI, ↓L_asI, ↓L_asI1, ↓W_noneI, ↓W_slL, ↓L_cut, ↓WS_for, ↓WS_while, ↓WS_put, ↓W_lc0, ↓W_itL, ↓L_asL, ↓W_itT, ↓L_asT, ↓W_itA, ↓W_itES, ↓L_add, ↓L_sub, ↓L_lt, ↓L_le, ↓L_gt, ↓L_ge, ↓L_neg, ↓L_mul, ↓L_mod, ↓L_div, ↓L_pow, ↓L_eqI, ↓L_neI, ↓L_eqL, ↓L_neL, ↓L_eqT, ↓L_neT, ↓L_eqS, ↓L_neS, ↓L_isN, ↓L_isNotN, ↓L_lenL, ↓L_lenT, ↓L_int, ↓L_intb, ↓L_max, ↓L_min, ↓L_cat, ↓L_ixL, ↓L_ixT, ↓L_rep, ↓L_r1, ↓L_r2, ↓L_en, ↓L_enS, ↓L_zip, ↓L_inL, ↓L_ninL, ↓L_isi, ↓L_ii, ↓L_ib, ↓L_il, ↓LB_nil, ↓LB_name, ↓LB_bind, ↓LB_cons, ↓LB_tup, ↓W_call, ↓W_callD, ↓W_aNil, ↓W_aCons, ↓W_aBor, ↓W_callB, ↓W_scr, ↓L_sort, ↓ifM_nT, ↓ifS_nT, ↓ifM_nL, ↓ifS_nL, ↓ifM_nI, ↓ifS_nI, ↓ifM_nS, ↓ifS_nS, ↓ifM_nB, ↓ifS_nB, ↓ifM_nN, ↓ifS_nN, ↓W_var0, ↓W_varo0, ↓W_vark0, ↓Set_0, ↓W_ixC0, ↓WS_app0, ↓App_0, ↓W_move0, ↓W_var1, ↓W_varo1, ↓W_vark1, ↓Set_1, ↓W_ixC1, ↓WS_app1, ↓App_1, ↓W_move1, ↓W_var2, ↓W_varo2, ↓W_vark2, ↓Set_2, ↓W_ixC2, ↓WS_app2, ↓App_2, ↓W_move2, ↓W_var3, ↓W_varo3, ↓W_vark3, ↓Set_3, ↓W_ixC3, ↓WS_app3, ↓App_3, ↓W_move3, ↓W_var4, ↓W_varo4, ↓W_vark4, ↓Set_4, ↓W_ixC4, ↓WS_app4, ↓App_4, ↓W_move4, ↓W_var5, ↓W_varo5, ↓W_vark5, ↓Set_5, ↓W_ixC5, ↓WS_app5, ↓App_5, ↓W_move5, ↓W_var6, ↓W_varo6, ↓W_vark6, ↓Set_6, ↓W_ixC6, ↓WS_app6, ↓App_6, ↓W_move6, ↓W_var7, ↓W_varo7, ↓W_vark7, ↓Set_7, ↓W_ixC7, ↓WS_app7, ↓App_7, ↓W_move7, ↓W_var8, ↓W_varo8, ↓W_vark8, ↓Set_8, ↓W_ixC8, ↓WS_app8, ↓App_8, ↓W_move8, ↓W_var9, ↓W_varo9, ↓W_vark9, ↓Set_9, ↓W_ixC9, ↓WS_app9, ↓App_9, ↓W_move9, ↓W_var10, ↓W_varo10, ↓W_vark10, ↓Set_10, ↓W_ixC10, ↓WS_app10, ↓App_10, ↓W_move10, ↓W_var11, ↓W_varo11, ↓W_vark11, ↓Set_11, ↓W_ixC11, ↓WS_app11, ↓App_11, ↓W_move11, ↓W_var12, ↓W_varo12, ↓W_vark12, ↓Set_12, ↓W_ixC12, ↓WS_app12, ↓App_12, ↓W_move12, ↓W_var13, ↓W_varo13, ↓W_vark13, ↓Set_13, ↓W_ixC13, ↓WS_app13, ↓App_13, ↓W_move13, ↓W_var14, ↓W_varo14, ↓W_vark14, ↓Set_14, ↓W_ixC14, ↓WS_app14, ↓App_14, ↓W_move14, ↓W_var15, ↓W_varo15, ↓W_vark15, ↓Set_15, ↓W_ixC15, ↓WS_app15, ↓App_15, ↓W_move15, ↓L_at0, ↓L_at1, ↓L_at2, ↓L_at3, ↓L_at4, ↓L_at5, ↓L_at6, ↓L_at7, ↓L_at8, ↓Put_0, ↓Put_1, ↓Put_2, wipeS, List.set_cons_zero, List.set_cons_succ, List.length_map]
    by_cases c : i + 1 < T + R
    · have no : ((List.range (i + 1)).any fun j => decide (rws (sortT ls) v j = rws (sortT ls) v (i + 1))) = false := by
        rw [List.any_eq_false]
        intro j hj
        rw [List.mem_range] at hj
        rw [decide_eq_true_eq]
        exact fun e => absurd (C.un j (i + 1) (by omega) c e) (by omega)
      rw [no]
      try simp only [↓W_bind, ↓W_ret, ↓W_lift, ↓L_some, ↓L_map, ↓WS_eseq, ↓WS_seq, ↓WS_nil, ↓WS_pass, ↓WS_break, ↓WS_cont, ↓WS_never, ↓WS_set, ↓WS_ret, ↓WS_retN, ↓WS_drop, ↓WS_asg, ↓WS_if, ↓ifS_t, ↓ifS_f, ↓ifS_not, ↓ifS_dec, ↓ifM_t, ↓ifM_f, ↓ifM_not, ↓ifM_dec, ↓W_C, ↓W_2, ↓W_1, ↓W_A, ↓W_AL, ↓W_2L, ↓W_nilA, ↓W_consA, ↓W_B, ↓L_asB, ↓W_not, ↓W_tnot, ↓W_and, ↓W_or, ↓W_tand, ↓W_tor, ↓W_if, ↓W_chain, ↓L_bindB, ↓W_tup, ↓W_lst, ↓W_dat, ↓W_fz, ↓L_asD, ↓L_asO, ↓W_someI, ↓L_asI, ↓L_asI1, ↓W_noneI, ↓W_slL, ↓L_cut, ↓WS_for, ↓WS_while, ↓WS_put, ↓W_lc0, ↓W_itL, ↓L_asL, ↓W_itT, ↓L_asT, ↓W_itA, ↓W_itES, ↓L_add, ↓L_sub, ↓L_lt, ↓L_le, ↓L_gt, ↓L_ge, ↓L_neg, ↓L_mul, ↓L_mod, ↓L_div, ↓L_pow, ↓L_eqI, ↓L_neI, ↓L_eqL, ↓L_neL, ↓L_eqT, ↓L_neT, ↓L_eqS, ↓L_neS, ↓L_isN, ↓L_isNotN, ↓L_lenL, ↓L_lenT, ↓L_int, ↓L_intb, ↓L_max, ↓L_min, ↓L_cat, ↓L_ixL, ↓L_ixT, ↓L_rep, ↓L_r1, ↓L_r2, ↓L_en, ↓L_enS, ↓L_zip, ↓L_inL, ↓L_ninL, ↓L_isi, ↓L_ii, ↓L_ib, ↓L_il, ↓LB_nil, ↓LB_name, ↓LB_bind, ↓LB_cons, ↓LB_tup, ↓W_call, ↓W_callD, ↓W_aNil, ↓W_aCons, ↓W_aBor, ↓W_callB, ↓W_scr, ↓L_sort, ↓ifM_nT, ↓ifS_nT, ↓ifM_nL, ↓ifS_nL, ↓ifM_nI, ↓ifS_nI, ↓ifM_nS, ↓ifS_nS, ↓ifM_nB, ↓ifS_nB, ↓ifM_nN, ↓ifS_nN, ↓W_var0, ↓W_varo0, ↓W_vark0, ↓Set_0, ↓W_ixC0, ↓WS_app0, ↓App_0, ↓W_move0, ↓W_var1, ↓W_varo1, ↓W_vark1, ↓Set_1, ↓W_ixC1, ↓WS_app1, ↓App_1, ↓W_move1, ↓W_var2, ↓W_varo2, ↓W_vark2, ↓Set_2, ↓W_ixC2, ↓WS_app2, ↓App_2, ↓W_move2, ↓W_var3, ↓W_varo3, ↓W_vark3, ↓Set_3, ↓W_ixC3, ↓WS_app3, ↓App_3, ↓W_move3, ↓W_var4, ↓W_varo4, ↓W_vark4, ↓Set_4, ↓W_ixC4, ↓WS_app4, ↓App_4, ↓W_move4, ↓W_var5, ↓W_varo5, ↓W_vark5, ↓Set_5, ↓W_ixC5, ↓WS_app5, ↓App_5, ↓W_move5, ↓W_var6, ↓W_varo6, ↓W_vark6, ↓Set_6, ↓W_ixC6, ↓WS_app6, ↓App_6, ↓W_move6, ↓W_var7, ↓W_varo7, ↓W_vark7, ↓Set_7, ↓W_ixC7, ↓WS_app7, ↓App_7, ↓W_move7, ↓W_var8, ↓W_varo8, ↓W_vark8, ↓Set_8, ↓W_ixC8, ↓WS_app8, ↓App_8, ↓W_move8, ↓W_var9, ↓W_varo9, ↓W_vark9, ↓Set_9, ↓W_ixC9, ↓WS_app9, ↓App_9, ↓W_move9, ↓W_var10, ↓W_varo10, ↓W_vark10, ↓Set_10, ↓W_ixC10, ↓WS_app10, ↓App_10, ↓W_move10, ↓W_var11, ↓W_varo11, ↓W_vark11, ↓Set_11, ↓W_ixC11, ↓WS_app11, ↓App_11, ↓W_move11, ↓W_var12, ↓W_varo12, ↓W_vark12, ↓Set_12, ↓W_ixC12, ↓WS_app12, ↓App_12, ↓W_move12, ↓W_var13, ↓W_varo13, ↓W_vark13, ↓Set_13, ↓W_ixC13, ↓WS_app13, ↓App_13, ↓W_move13, ↓W_var14, ↓W_varo14, ↓W_vark14, ↓Set_14, ↓W_ixC14, ↓WS_app14, ↓App_14, ↓W_move14, ↓W_var15, ↓W_varo15, ↓W_vark15, ↓Set_15, ↓W_ixC15, ↓WS_app15, ↓App_15, ↓W_move15, ↓L_at0, ↓L_at1, ↓L_at2, ↓L_at3, ↓L_at4, ↓L_at5, ↓L_at6, ↓L_at7, ↓L_at8, ↓Put_0, ↓Put_1, ↓Put_2, wipeS, List.set_cons_zero, List.set_cons_succ, List.length_map]
      have er : (List.range (i + 1 + 1)).map (fun j => txs (rws (sortT ls) v j)) = (List.range (i + 1)).map (fun j => txs (rws (sortT ls) v j)) ++ [txs (rws (sortT ls) v (i + 1))] := by
        rw [List.range_succ (n := i + 1), List.map_append]
        rfl
      refine ⟨by rw [List.length_range]; omega, m - 1, by omega, i + 1, .dat (txs (rws (sortT ls) v (i + 1))), .gone, ?_, by omega, by omega⟩
      rw [er]
    · have e2 : i + 1 = T + R := by omega
      have e3 : rws (sortT ls) v (i + 1) = rws (sortT ls) v T := by rw [e2]; exact C.eq
      have yes : ((List.range (i + 1)).any fun j => decide (rws (sortT ls) v j = rws (sortT ls) v (i + 1))) = true := by
        rw [List.any_eq_true]
        exact ⟨T, List.mem_range.mpr (by omega), by rw [decide_eq_true_eq, e3]⟩
      rw [yes]
      simp only [W_indexD, ↓W_bind, ↓W_ret, ↓W_lift, ↓L_some, ↓L_map, ↓WS_eseq, ↓WS_seq, ↓WS_nil, ↓WS_pass, ↓WS_break, ↓WS_cont, ↓WS_never, ↓WS_set, ↓WS_ret, ↓WS_retN, ↓WS_drop, ↓WS_asg, ↓WS_if, ↓ifS_t, ↓ifS_f, ↓ifS_not, ↓ifS_dec, ↓ifM_t, ↓ifM_f, ↓ifM_not, ↓ifM_dec, ↓W_C, ↓W_2, ↓W_1, ↓W_A, ↓W_AL, ↓W_2L, ↓W_nilA, ↓W_consA, ↓W_B, ↓L_asB, ↓W_not, ↓W_tnot, ↓W_and, ↓W_or, ↓W_tand, ↓W_tor, ↓W_if, ↓W_chain, ↓L_bindB, ↓W_tup, ↓W_lst, ↓W_dat, ↓W_fz, ↓L_asD, ↓L_asO, ↓W_someI, ↓L_asI, ↓L_asI1, ↓W_noneI, ↓W_slL, ↓L_cut, ↓WS_for, ↓WS_while, ↓WS_put, ↓W_lc0, ↓W_itL, ↓L_asL, ↓W_itT, ↓L_asT, ↓W_itA, ↓W_itES, ↓L_add, ↓L_sub, ↓L_lt, ↓L_le, ↓L_gt, ↓L_ge, ↓L_neg, ↓L_mul, ↓L_mod, ↓L_div, ↓L_pow, ↓L_eqI, ↓L_neI, ↓L_eqL, ↓L_neL, ↓L_eqT, ↓L_neT, ↓L_eqS, ↓L_neS, ↓L_isN, ↓L_isNotN, ↓L_lenL, ↓L_lenT, ↓L_int, ↓L_intb, ↓L_max, ↓L_min, ↓L_cat, ↓L_ixL, ↓L_ixT, ↓L_rep, ↓L_r1, ↓L_r2, ↓L_en, ↓L_enS, ↓L_zip, ↓L_inL, ↓L_ninL, ↓L_isi, ↓L_ii, ↓L_ib, ↓L_il, ↓LB_nil, ↓LB_name, ↓LB_bind, ↓LB_cons, ↓LB_tup, ↓W_call, ↓W_callD, ↓W_aNil, ↓W_aCons, ↓W_aBor, ↓W_callB, ↓W_scr, ↓L_sort, ↓ifM_nT, ↓ifS_nT, ↓ifM_nL, ↓ifS_nL, ↓ifM_nI, ↓ifS_nI, ↓ifM_nS, ↓ifS_nS, ↓ifM_nB, ↓ifS_nB, ↓ifM_nN, ↓ifS_nN, ↓W_var0, ↓W_varo0, ↓W_vark0, ↓Set_0, ↓W_ixC0, ↓WS_app0, ↓App_0, ↓W_move0, ↓W_var1, ↓W_varo1, ↓W_vark1, ↓Set_1, ↓W_ixC1, ↓WS_app1, ↓App_1, ↓W_move1, ↓W_var2, ↓W_varo2, ↓W_vark2, ↓Set_2, ↓W_ixC2, ↓WS_app2, ↓App_2, ↓W_move2, ↓W_var3, ↓W_varo3, ↓W_vark3, ↓Set_3, ↓W_ixC3, ↓WS_app3, ↓App_3, ↓W_move3, ↓W_var4, ↓W_varo4, ↓W_vark4, ↓Set_4, ↓W_ixC4, ↓WS_app4, ↓App_4, ↓W_move4, ↓W_var5, ↓W_varo5, ↓W_vark5, ↓Set_5, ↓W_ixC5, ↓WS_app5, ↓App_5, ↓W_move5, ↓W_var6, ↓W_varo6, ↓W_vark6, ↓Set_6, ↓W_ixC6, ↓WS_app6, ↓App_6, ↓W_move6, ↓W_var7, ↓W_varo7, ↓W_vark7, ↓Set_7, ↓W_ixC7, ↓WS_app7, ↓App_7, ↓W_move7, ↓W_var8, ↓W_varo8, ↓W_vark8, ↓Set_8, ↓W_ixC8, ↓WS_app8, ↓App_8, ↓W_move8, ↓W_var9, ↓W_varo9, ↓W_vark9, ↓Set_9, ↓W_ixC9, ↓WS_app9, ↓App_9, ↓W_move9, ↓W_var10, ↓W_varo10, ↓W_vark10, ↓Set_10, ↓W_ixC10, ↓WS_app10, ↓App_10, ↓W_move10, ↓W_var11, ↓W_varo11, ↓W_vark11, ↓Set_11, ↓W_ixC11, ↓WS_app11, ↓App_11, ↓W_move11, ↓W_var12, ↓W_varo12, ↓W_vark12, ↓Set_12, ↓W_ixC12, ↓WS_app12, ↓App_12, ↓W_move12, ↓W_var13, ↓W_varo13, ↓W_vark13, ↓Set_13, ↓W_ixC13, ↓WS_app13, ↓App_13, ↓W_move13, ↓W_var14, ↓W_varo14, ↓W_vark14, ↓Set_14, ↓W_ixC14, ↓WS_app14, ↓App_14, ↓W_move14, ↓W_var15, ↓W_varo15, ↓W_vark15, ↓Set_15, ↓W_ixC15, ↓WS_app15, ↓App_15, ↓W_move15, ↓L_at0, ↓L_at1, ↓L_at2, ↓L_at3, ↓L_at4, ↓L_at5, ↓L_at6, ↓L_at7, ↓L_at8, ↓Put_0, ↓Put_1, ↓Put_2, wipeS, List.set_cons_zero, List.set_cons_succ, List.length_map]
      have hix : kIdxD ((List.range (i + 1)).map fun j => txs (rws (sortT ls) v j)) [txs (rws (sortT ls) v (i + 1))] = some (.int (T : Nat)) := by
        show (if (okDeep (txs (rws (sortT ls) v (i + 1))) && okDeep (.list ((List.range (i + 1)).map fun j => txs (rws (sortT ls) v j)))) = true then _ else _) = _
        rw [deep_txs (okr (i + 1)), dr]
        rw [if_pos (by decide)]
        have f : ixD ((List.range (i + 1)).map fun j => txs (rws (sortT ls) v j)) (txs (rws (sortT ls) v (i + 1))) = some T := by
          unfold ixD
          rw [List.findIdx?_eq_some_iff_getElem]
          refine ⟨by rw [List.length_map, List.length_range]; omega, ?_, fun j hj => ?_⟩
          · rw [List.getElem_map, List.getElem_range, eqv_txs, decide_eq_true_eq, e3]
          · rw [List.getElem_map, List.getElem_range, eqv_txs]
            simp only [decide_eq_true_eq]
            intro e
            have := C.un j T (by omega) (by omega) (e.trans e3)
            omega
        rw [f]
        rfl
      refine L_of hix ?_
      simp only [W_indexD, ↓W_bind, ↓W_ret, ↓W_lift, ↓L_some, ↓L_map, ↓WS_eseq, ↓WS_seq, ↓WS_nil, ↓WS_pass, ↓WS_break, ↓WS_cont, ↓WS_never, ↓WS_set, ↓WS_ret, ↓WS_retN, ↓WS_drop, ↓WS_asg, ↓WS_if, ↓ifS_t, ↓ifS_f, ↓ifS_not, ↓ifS_dec, ↓ifM_t, ↓ifM_f, ↓ifM_not, ↓ifM_dec, ↓W_C, ↓W_2, ↓W_1, ↓W_A, ↓W_AL, ↓W_2L, ↓W_nilA, ↓W_consA, ↓W_B, ↓L_asB, ↓W_not, ↓W_tnot, ↓W_and, ↓W_or, ↓W_tand, ↓W_tor, ↓W_if, ↓W_chain, ↓L_bindB, ↓W_tup, ↓W_lst, ↓W_dat, ↓W_fz, ↓L_asD, ↓L_asO, ↓W_someI, ↓L_asI, ↓L_asI1, ↓W_noneI, ↓W_slL, ↓L_cut, ↓WS_for, ↓WS_while, ↓WS_put, ↓W_lc0, ↓W_itL, ↓L_asL, ↓W_itT, ↓L_asT, ↓W_itA, ↓W_itES, ↓L_add, ↓L_sub, ↓L_lt, ↓L_le, ↓L_gt, ↓L_ge, ↓L_neg, ↓L_mul, ↓L_mod, ↓L_div, ↓L_pow, ↓L_eqI, ↓L_neI, ↓L_eqL, ↓L_neL, ↓L_eqT, ↓L_neT, ↓L_eqS, ↓L_neS, ↓L_isN, ↓L_isNotN, ↓L_lenL, ↓L_lenT, ↓L_int, ↓L_intb, ↓L_max, ↓L_min, ↓L_cat, ↓L_ixL, ↓L_ixT, ↓L_rep, ↓L_r1, ↓L_r2, ↓L_en, ↓L_enS, ↓L_zip, ↓L_inL, ↓L_ninL, ↓L_isi, ↓L_ii, ↓L_ib, ↓L_il, ↓LB_nil, ↓LB_name, ↓LB_bind, ↓LB_cons, ↓LB_tup, ↓W_call, ↓W_callD, ↓W_aNil, ↓W_aCons, ↓W_aBor, ↓W_callB, ↓W_scr, ↓L_sort, ↓ifM_nT, ↓ifS_nT, ↓ifM_nL, ↓ifS_nL, ↓ifM_nI, ↓ifS_nI, ↓ifM_nS, ↓ifS_nS, ↓ifM_nB, ↓ifS_nB, ↓ifM_nN, ↓ifS_nN, ↓W_var0, ↓W_varo0, ↓W_vark0, ↓Set_0, ↓W_ixC0, ↓WS_app0, ↓App_0, ↓W_move0, ↓W_var1, ↓W_varo1, ↓W_vark1, ↓Set_1, ↓W_ixC1, ↓WS_app1, ↓App_1, ↓W_move1, ↓W_var2, ↓W_varo2, ↓W_vark2, ↓Set_2, ↓W_ixC2, ↓WS_app2, ↓App_2, ↓W_move2, ↓W_var3, ↓W_varo3, ↓W_vark3, ↓Set_3, ↓W_ixC3, ↓WS_app3, ↓App_3, ↓W_move3, ↓W_var4, ↓W_varo4, ↓W_vark4, ↓Set_4, ↓W_ixC4, ↓WS_app4, ↓App_4, ↓W_move4, ↓W_var5, ↓W_varo5, ↓W_vark5, ↓Set_5, ↓W_ixC5, ↓WS_app5, ↓App_5, ↓W_move5, ↓W_var6, ↓W_varo6, ↓W_vark6, ↓Set_6, ↓W_ixC6, ↓WS_app6, ↓App_6, ↓W_move6, ↓W_var7, ↓W_varo7, ↓W_vark7, ↓Set_7, ↓W_ixC7, ↓WS_app7, ↓App_7, ↓W_move7, ↓W_var8, ↓W_varo8, ↓W_vark8, ↓Set_8, ↓W_ixC8, ↓WS_app8, ↓App_8, ↓W_move8, ↓W_var9, ↓W_varo9, ↓W_vark9, ↓Set_9, ↓W_ixC9, ↓WS_app9, ↓App_9, ↓W_move9, ↓W_var10, ↓W_varo10, ↓W_vark10, ↓Set_10, ↓W_ixC10, ↓WS_app10, ↓App_10, ↓W_move10, ↓W_var11, ↓W_varo11, ↓W_vark11, ↓Set_11, ↓W_ixC11, ↓WS_app11, ↓App_11, ↓W_move11, ↓W_var12, ↓W_varo12, ↓W_vark12, ↓Set_12, ↓W_ixC12, ↓WS_app12, ↓App_12, ↓W_move12, ↓W_var13, ↓W_varo13, ↓W_vark13, ↓Set_13, ↓W_ixC13, ↓WS_app13, ↓App_13, ↓W_move13, ↓W_var14, ↓W_varo14, ↓W_vark14, ↓Set_14, ↓W_ixC14, ↓WS_app14, ↓App_14, ↓W_move14, ↓W_var15, ↓W_varo15, ↓W_vark15, ↓Set_15, ↓W_ixC15, ↓WS_app15, ↓App_15, ↓W_move15, ↓L_at0, ↓L_at1, ↓L_at2, ↓L_at3, ↓L_at4, ↓L_at5, ↓L_at6, ↓L_at7, ↓L_at8, ↓Put_0, ↓Put_1, ↓Put_2, wipeS, List.set_cons_zero, List.set_cons_succ, List.length_map]
      refine L_of hix ?_
      try simp only [↓W_bind, ↓W_ret, ↓W_lift, ↓L_some, ↓L_map, ↓WS_eseq, ↓WS_seq, ↓WS_nil, ↓WS_pass, ↓WS_break, ↓WS_cont, ↓WS_never, ↓WS_set, ↓WS_ret, ↓WS_retN, ↓WS_drop, ↓WS_asg, ↓WS_if, ↓ifS_t, ↓ifS_f, ↓ifS_not, ↓ifS_dec, ↓ifM_t, ↓ifM_f, ↓ifM_not, ↓ifM_dec, ↓W_C, ↓W_2, ↓W_1, ↓W_A, ↓W_AL, ↓W_2L, ↓W_nilA, ↓W_consA, ↓W_B, ↓L_asB, ↓W_not, ↓W_tnot, ↓W_and, ↓W_or, ↓W_tand, ↓W_tor, ↓W_if, ↓W_chain, ↓L_bindB, ↓W_tup, ↓W_lst, ↓W_dat, ↓W_fz, ↓L_asD, ↓L_asO, ↓W_someI, ↓L_asI, ↓L_asI1, ↓W_noneI, ↓W_slL, ↓L_cut, ↓WS_for, ↓WS_while, ↓WS_put, ↓W_lc0, ↓W_itL, ↓L_asL, ↓W_itT, ↓L_asT, ↓W_itA, ↓W_itES, ↓L_add, ↓L_sub, ↓L_lt, ↓L_le, ↓L_gt, ↓L_ge, ↓L_neg, ↓L_mul, ↓L_mod, ↓L_div, ↓L_pow, ↓L_eqI, ↓L_neI, ↓L_eqL, ↓L_neL, ↓L_eqT, ↓L_neT, ↓L_eqS, ↓L_neS, ↓L_isN, ↓L_isNotN, ↓L_lenL, ↓L_lenT, ↓L_int, ↓L_intb, ↓L_max, ↓L_min, ↓L_cat, ↓L_ixL, ↓L_ixT, ↓L_rep, ↓L_r1, ↓L_r2, ↓L_en, ↓L_enS, ↓L_zip, ↓L_inL, ↓L_ninL, ↓L_isi, ↓L_ii, ↓L_ib, ↓L_il, ↓LB_nil, ↓LB_name, ↓LB_bind, ↓LB_cons, ↓LB_tup, ↓W_call, ↓W_callD, ↓W_aNil, ↓W_aCons, ↓W_aBor, ↓W_callB, ↓W_scr, ↓L_sort, ↓ifM_nT, ↓ifS_nT, ↓ifM_nL, ↓ifS_nL, ↓ifM_nI, ↓ifS_nI, ↓ifM_nS, ↓ifS_nS, ↓ifM_nB, ↓ifS_nB, ↓ifM_nN, ↓ifS_nN, ↓W_var0, ↓W_varo0, ↓W_vark0, ↓Set_0, ↓W_ixC0, ↓WS_app0, ↓App_0, ↓W_move0, ↓W_var1, ↓W_varo1, ↓W_vark1, ↓Set_1, ↓W_ixC1, ↓WS_app1, ↓App_1, ↓W_move1, ↓W_var2, ↓W_varo2, ↓W_vark2, ↓Set_2, ↓W_ixC2, ↓WS_app2, ↓App_2, ↓W_move2, ↓W_var3, ↓W_varo3, ↓W_vark3, ↓Set_3, ↓W_ixC3, ↓WS_app3, ↓App_3, ↓W_move3, ↓W_var4, ↓W_varo4, ↓W_vark4, ↓Set_4, ↓W_ixC4, ↓WS_app4, ↓App_4, ↓W_move4, ↓W_var5, ↓W_varo5, ↓W_vark5, ↓Set_5, ↓W_ixC5, ↓WS_app5, ↓App_5, ↓W_move5, ↓W_var6, ↓W_varo6, ↓W_vark6, ↓Set_6, ↓W_ixC6, ↓WS_app6, ↓App_6, ↓W_move6, ↓W_var7, ↓W_varo7, ↓W_vark7, ↓Set_7, ↓W_ixC7, ↓WS_app7, ↓App_7, ↓W_move7, ↓W_var8, ↓W_varo8, ↓W_vark8, ↓Set_8, ↓W_ixC8, ↓WS_app8, ↓App_8, ↓W_move8, ↓W_var9, ↓W_varo9, ↓W_vark9, ↓Set_9, ↓W_ixC9, ↓WS_app9, ↓App_9, ↓W_move9, ↓W_var10, ↓W_varo10, ↓W_vark10, ↓Set_10, ↓W_ixC10, ↓WS_app10, ↓App_10, ↓W_move10, ↓W_var11, ↓W_varo11, ↓W_vark11, ↓Set_11, ↓W_ixC11, ↓WS_app11, ↓App_11, ↓W_move11, ↓W_var12, ↓W_varo12, ↓W_vark12, ↓Set_12, ↓W_ixC12, ↓WS_app12, ↓App_12, ↓W_move12, ↓W_var13, ↓W_varo13, ↓W_vark13, ↓Set_13, ↓W_ixC13, ↓WS_app13, ↓App_13, ↓W_move13, ↓W_var14, ↓W_varo14, ↓W_vark14, ↓Set_14, ↓W_ixC14, ↓WS_app14, ↓App_14, ↓W_move14, ↓W_var15, ↓W_varo15, ↓W_vark15, ↓Set_15, ↓W_ixC15, ↓WS_app15, ↓App_15, ↓W_move15, ↓L_at0, ↓L_at1, ↓L_at2, ↓L_at3, ↓L_at4, ↓L_at5, ↓L_at6, ↓L_at7, ↓L_at8, ↓Put_0, ↓Put_1, ↓Put_2, wipeS, List.set_cons_zero, List.set_cons_succ, List.length_map]
      have e5 : ((List.range (i + 1)).length : Int) - (T : Nat) = (R : Nat) := by
        rw [List.length_range]
        omega
      exact ⟨by simp, by rw [e5], by simp⟩
/-! ### tables turned round -/
section
variable {ss : List SV} {P : PyData → List SV → Prop} {PV : SV → List SV → Prop} {f : M PyData} {fa : M (List PyData)} {ks : List (PyData × PyData)}
theorem W_items : W (mItems f ss) PV ↔ W (f ss) fun d s => L (match d with | .dict ks => some (SV.own none (ks.map fun p => .tuple [p.1, p.2])) | _ => none) s PV := by
  unfold mItems
  rw [W_bind]
  constructor
  · intro h
    refine W_mono h fun d s q => ?_
    cases d with
    | dict ks => exact ⟨_, rfl, q⟩
    | _ => exact (show False from q).elim
  · intro h
    refine W_mono h fun d s q => ?_
    cases d with
    | dict ks =>
      obtain ⟨_, e, q⟩ := q
      cases e
      exact q
    | _ =>
      obtain ⟨_, e, q⟩ := q
      cases e
theorem W_revL : W (mRevL f ss) PV ↔ W (f ss) fun d s => L (asL d) s fun ds s => PV (.own none ds.reverse) s := by
  unfold mRevL itL
  simp only [W_bind, W_lift, W_ret]
theorem W_dictP : W (mDictP fa ss) PV ↔ W (fa ss) fun as s => L (kDictP as) s fun out s => PV (.odk none out) s := by
  unfold mDictP
  rw [W_bind]
  simp only [W_lift, L_map]
end
theorem pairs_tD {v : Str → Str} : ∀ ls : List Str, pairsD ((tD ls v).map fun p => PyData.tuple [p.1, p.2]) = some (tD ls v)
  | [] => rfl
  | c :: ls => by
    have ih := pairs_tD (v := v) ls
    unfold tD at ih ⊢
    rw [List.map_cons, List.map_cons, pairsD, ih]
    rfl
theorem fold_new : ∀ {ls : List Str} {v : Str → Str} {acc : List (PyData × PyData)}, ls.Nodup → (∀ c ∈ ls, valD acc (.inr c) = none) → foldD acc (tD ls v) = some (acc ++ tD ls v)
  | [], v, acc, _, _ => by
    show some acc = some (acc ++ [])
    rw [List.append_nil]
  | c :: ls, v, acc, nd, h => by
    rw [List.nodup_cons] at nd
    show (match keyOf (PyData.str c) with | some key => foldD (putD acc (.str c) key (.str (v c))) (tD ls v) | none => none) = _
    show foldD (putD acc (.str c) (.inr c) (.str (v c))) (tD ls v) = _
    rw [putD_new (h c List.mem_cons_self), fold_new nd.2 fun d hd => ?_]
    · rw [List.append_assoc]
      rfl
    · rw [valD_app, h d (List.mem_cons_of_mem _ hd)]
      dsimp only
      rw [if_neg (show ¬ keyOf (PyData.str c) = some (Sum.inr d) from fun z => nd.1 (by
        have := Sum.inr.inj (Option.some.inj z)
        rw [this]
        exact hd))]
theorem dictP_rev {ls : List Str} {v : Str → Str} (nd : ls.Nodup) : kDictP [.list ((tD ls v).map fun p => PyData.tuple [p.1, p.2]).reverse] = some (tD ls.reverse v) := by
  have e : ((tD ls v).map fun p => PyData.tuple [p.1, p.2]).reverse = (tD ls.reverse v).map fun p => PyData.tuple [p.1, p.2] := by
    unfold tD
    rw [← List.map_reverse, ← List.map_reverse]
  rw [e]
  show (pairsD _).bind (foldD []) = _
  rw [pairs_tD]
  exact fold_new (List.pairwise_reverse.mpr (nd.imp Ne.symm)) fun c hc => rfl
theorem t_lright {ls : List Str} {v : Str → Str} (g : GT ls v) {X : PyData} {z : Str} (hX : X = .str z) (hs : kReprD [.dict (tD ls v)] = some X) : Tl F_l_letters_right [.dat (.dict (tD ls v))] (.dat (.bool true)) := by
  subst hX
  obtain ⟨T, R, P, hT, hR, h1, h2⟩ := t_col2 g
  have h3 := t_turned g P hT hR
  have sh := okShow_2 (t := T) (z := (R : Nat)) (by omega) (by omega) (by omega)
  refine Tl_def rfl rfl ?_
  simp only [List.cons_append, List.nil_append, List.replicate_succ, List.replicate_zero, Nat.reduceSub, Nat.sub_self]
  unfold B_l_letters_right
  try simp only [↓W_bind, ↓W_ret, ↓W_lift, ↓L_some, ↓L_map, ↓WS_eseq, ↓WS_seq, ↓WS_nil, ↓WS_pass, ↓WS_break, ↓WS_cont, ↓WS_never, ↓WS_set, ↓WS_ret, ↓WS_retN, ↓WS_drop, ↓WS_asg, ↓WS_if, ↓ifS_t, ↓ifS_f, ↓ifS_not, ↓ifS_dec, ↓ifM_t, ↓ifM_f, ↓ifM_not, ↓ifM_dec, ↓W_C, ↓W_2, ↓W_1, ↓W_A, ↓W_AL, ↓W_2L, ↓W_nilA, ↓W_consA, ↓W_B, ↓L_asB, ↓W_not, ↓W_tnot, ↓W_and, ↓W_or, ↓W_tand, ↓W_tor, ↓W_if, ↓W_chain, ↓L_bindB, ↓W_tup, ↓W_lst, ↓W_dat, ↓W_fz, ↓L_asD, ↓L_asO, ↓W_someI, ↓L_asI, ↓L_asI1, ↓W_noneI, ↓W_slL, ↓L_cut, ↓WS_for, ↓WS_while, ↓WS_put, ↓W_lc0, ↓W_itL, ↓L_asL, ↓W_itT, ↓L_asT, ↓W_itA, ↓W_itES, ↓L_add, ↓L_sub, ↓L_lt, ↓L_le, ↓L_gt, ↓L_ge, ↓L_neg, ↓L_mul, ↓L_mod, ↓L_div, ↓L_pow, ↓L_eqI, ↓L_neI, ↓L_eqL, ↓L_neL, ↓L_eqT, ↓L_neT, ↓L_eqS, ↓L_neS, ↓L_isN, ↓L_isNotN, ↓L_lenL, ↓L_lenT, ↓L_int, ↓L_intb, ↓L_max, ↓L_min, ↓L_cat, ↓L_ixL, ↓L_ixT, ↓L_rep, ↓L_r1, ↓L_r2, ↓L_en, ↓L_enS, ↓L_zip, ↓L_inL, ↓L_ninL, ↓L_isi, ↓L_ii, ↓L_ib, ↓L_il, ↓LB_nil, ↓LB_name, ↓LB_bind, ↓LB_cons, ↓LB_tup, ↓W_call, ↓W_callD, ↓W_aNil, ↓W_aCons, ↓W_aBor, ↓W_callB, ↓W_scr, ↓L_sort, ↓ifM_nT, ↓ifS_nT, ↓ifM_nL, ↓ifS_nL, ↓ifM_nI, ↓ifS_nI, ↓ifM_nS, ↓ifS_nS, ↓ifM_nB, ↓ifS_nB, ↓ifM_nN, ↓ifS_nN, ↓W_var0, ↓W_varo0, ↓W_vark0, ↓Set_0, ↓W_ixC0, ↓WS_app0, ↓App_0, ↓W_move0, ↓W_var1, ↓W_varo1, ↓W_vark1, ↓Set_1, ↓W_ixC1, ↓WS_app1, ↓App_1, ↓W_move1, ↓W_var2, ↓W_varo2, ↓W_vark2, ↓Set_2, ↓W_ixC2, ↓WS_app2, ↓App_2, ↓W_move2, ↓W_var3, ↓W_varo3, ↓W_vark3, ↓Set_3, ↓W_ixC3, ↓WS_app3, ↓App_3, ↓W_move3, ↓W_var4, ↓W_varo4, ↓W_vark4, ↓Set_4, ↓W_ixC4, ↓WS_app4, ↓App_4, ↓W_move4, ↓W_var5, ↓W_varo5, ↓W_vark5, ↓Set_5, ↓W_ixC5, ↓WS_app5, ↓App_5, ↓W_move5, ↓W_var6, ↓W_varo6, ↓W_vark6, ↓Set_6, ↓W_ixC6, ↓WS_app6, ↓App_6, ↓W_move6, ↓W_var7, ↓W_varo7, ↓W_vark7, ↓Set_7, ↓W_ixC7, ↓WS_app7, ↓App_7, ↓W_move7, ↓W_var8, ↓W_varo8, ↓W_vark8, ↓Set_8, ↓W_ixC8, ↓WS_app8, ↓App_8, ↓W_move8, ↓W_var9, ↓W_varo9, ↓W_vark9, ↓Set_9, ↓W_ixC9, ↓WS_app9, ↓App_9, ↓W_move9, ↓W_var10, ↓W_varo10, ↓W_vark10, ↓Set_10, ↓W_ixC10, ↓WS_app10, ↓App_10, ↓W_move10, ↓W_var11, ↓W_varo11, ↓W_vark11, ↓Set_11, ↓W_ixC11, ↓WS_app11, ↓App_11, ↓W_move11, ↓W_var12, ↓W_varo12, ↓W_vark12, ↓Set_12, ↓W_ixC12, ↓WS_app12, ↓App_12, ↓W_move12, ↓W_var13, ↓W_varo13, ↓W_vark13, ↓Set_13, ↓W_ixC13, ↓WS_app13, ↓App_13, ↓W_move13, ↓W_var14, ↓W_varo14, ↓W_vark14, ↓Set_14, ↓W_ixC14, ↓WS_app14, ↓App_14, ↓W_move14, ↓W_var15, ↓W_varo15, ↓W_vark15, ↓Set_15, ↓W_ixC15, ↓WS_app15, ↓App_15, ↓W_move15, ↓L_at0, ↓L_at1, ↓L_at2, ↓L_at3, ↓L_at4, ↓L_at5, ↓L_at6, ↓L_at7, ↓L_at8, ↓Put_0, ↓Put_1, ↓Put_2, wipeS, List.set_cons_zero, List.set_cons_succ, List.length_map]
  refine L_of hs ?_
  simp only [Fn_1 h3, W_dictP, W_revL, W_items, ↓W_bind, ↓W_ret, ↓W_lift, ↓L_some, ↓L_map, ↓WS_eseq, ↓WS_seq, ↓WS_nil, ↓WS_pass, ↓WS_break, ↓WS_cont, ↓WS_never, ↓WS_set, ↓WS_ret, ↓WS_retN, ↓WS_drop, ↓WS_asg, ↓WS_if, ↓ifS_t, ↓ifS_f, ↓ifS_not, ↓ifS_dec, ↓ifM_t, ↓ifM_f, ↓ifM_not, ↓ifM_dec, ↓W_C, ↓W_2, ↓W_1, ↓W_A, ↓W_AL, ↓W_2L, ↓W_nilA, ↓W_consA, ↓W_B, ↓L_asB, ↓W_not, ↓W_tnot, ↓W_and, ↓W_or, ↓W_tand, ↓W_tor, ↓W_if, ↓W_chain, ↓L_bindB, ↓W_tup, ↓W_lst, ↓W_dat, ↓W_fz, ↓L_asD, ↓L_asO, ↓W_someI, ↓L_asI, ↓L_asI1, ↓W_noneI, ↓W_slL, ↓L_cut, ↓WS_for, ↓WS_while, ↓WS_put, ↓W_lc0, ↓W_itL, ↓L_asL, ↓W_itT, ↓L_asT, ↓W_itA, ↓W_itES, ↓L_add, ↓L_sub, ↓L_lt, ↓L_le, ↓L_gt, ↓L_ge, ↓L_neg, ↓L_mul, ↓L_mod, ↓L_div, ↓L_pow, ↓L_eqI, ↓L_neI, ↓L_eqL, ↓L_neL, ↓L_eqT, ↓L_neT, ↓L_eqS, ↓L_neS, ↓L_isN, ↓L_isNotN, ↓L_lenL, ↓L_lenT, ↓L_int, ↓L_intb, ↓L_max, ↓L_min, ↓L_cat, ↓L_ixL, ↓L_ixT, ↓L_rep, ↓L_r1, ↓L_r2, ↓L_en, ↓L_enS, ↓L_zip, ↓L_inL, ↓L_ninL, ↓L_isi, ↓L_ii, ↓L_ib, ↓L_il, ↓LB_nil, ↓LB_name, ↓LB_bind, ↓LB_cons, ↓LB_tup, ↓W_call, ↓W_callD, ↓W_aNil, ↓W_aCons, ↓W_aBor, ↓W_callB, ↓W_scr, ↓L_sort, ↓ifM_nT, ↓ifS_nT, ↓ifM_nL, ↓ifS_nL, ↓ifM_nI, ↓ifS_nI, ↓ifM_nS, ↓ifS_nS, ↓ifM_nB, ↓ifS_nB, ↓ifM_nN, ↓ifS_nN, ↓W_var0, ↓W_varo0, ↓W_vark0, ↓Set_0, ↓W_ixC0, ↓WS_app0, ↓App_0, ↓W_move0, ↓W_var1, ↓W_varo1, ↓W_vark1, ↓Set_1, ↓W_ixC1, ↓WS_app1, ↓App_1, ↓W_move1, ↓W_var2, ↓W_varo2, ↓W_vark2, ↓Set_2, ↓W_ixC2, ↓WS_app2, ↓App_2, ↓W_move2, ↓W_var3, ↓W_varo3, ↓W_vark3, ↓Set_3, ↓W_ixC3, ↓WS_app3, ↓App_3, ↓W_move3, ↓W_var4, ↓W_varo4, ↓W_vark4, ↓Set_4, ↓W_ixC4, ↓WS_app4, ↓App_4, ↓W_move4, ↓W_var5, ↓W_varo5, ↓W_vark5, ↓Set_5, ↓W_ixC5, ↓WS_app5, ↓App_5, ↓W_move5, ↓W_var6, ↓W_varo6, ↓W_vark6, ↓Set_6, ↓W_ixC6, ↓WS_app6, ↓App_6, ↓W_move6, ↓W_var7, ↓W_varo7, ↓W_vark7, ↓Set_7, ↓W_ixC7, ↓WS_app7, ↓App_7, ↓W_move7, ↓W_var8, ↓W_varo8, ↓W_vark8, ↓Set_8, ↓W_ixC8, ↓WS_app8, ↓App_8, ↓W_move8, ↓W_var9, ↓W_varo9, ↓W_vark9, ↓Set_9, ↓W_ixC9, ↓WS_app9, ↓App_9, ↓W_move9, ↓W_var10, ↓W_varo10, ↓W_vark10, ↓Set_10, ↓W_ixC10, ↓WS_app10, ↓App_10, ↓W_move10, ↓W_var11, ↓W_varo11, ↓W_vark11, ↓Set_11, ↓W_ixC11, ↓WS_app11, ↓App_11, ↓W_move11, ↓W_var12, ↓W_varo12, ↓W_vark12, ↓Set_12, ↓W_ixC12, ↓WS_app12, ↓App_12, ↓W_move12, ↓W_var13, ↓W_varo13, ↓W_vark13, ↓Set_13, ↓W_ixC13, ↓WS_app13, ↓App_13, ↓W_move13, ↓W_var14, ↓W_varo14, ↓W_vark14, ↓Set_14, ↓W_ixC14, ↓WS_app14, ↓App_14, ↓W_move14, ↓W_var15, ↓W_varo15, ↓W_vark15, ↓Set_15, ↓W_ixC15, ↓WS_app15, ↓App_15, ↓W_move15, ↓L_at0, ↓L_at1, ↓L_at2, ↓L_at3, ↓L_at4, ↓L_at5, ↓L_at6, ↓L_at7, ↓L_at8, ↓Put_0, ↓Put_1, ↓Put_2, wipeS, List.set_cons_zero, List.set_cons_succ, List.length_map]
  refine ⟨sh, L_of (dictP_rev g.nd) ?_⟩
  simp only [Fn_1 h1, Fn_1 h2, pk_cycle_of_letters_letters, ↓W_bind, ↓W_ret, ↓W_lift, ↓L_some, ↓L_map, ↓WS_eseq, ↓WS_seq, ↓WS_nil, ↓WS_pass, ↓WS_break, ↓WS_cont, ↓WS_never, ↓WS_set, ↓WS_ret, ↓WS_retN, ↓WS_drop, ↓WS_asg, ↓WS_if, ↓ifS_t, ↓ifS_f, ↓ifS_not, ↓ifS_dec, ↓ifM_t, ↓ifM_f, ↓ifM_not, ↓ifM_dec, ↓W_C, ↓W_2, ↓W_1, ↓W_A, ↓W_AL, ↓W_2L, ↓W_nilA, ↓W_consA, ↓W_B, ↓L_asB, ↓W_not, ↓W_tnot, ↓W_and, ↓W_or, ↓W_tand, ↓W_tor, ↓W_if, ↓W_chain, ↓L_bindB, ↓W_tup, ↓W_lst, ↓W_dat, ↓W_fz, ↓L_asD, ↓L_asO, ↓W_someI, ↓L_asI, ↓L_asI1, ↓W_noneI, ↓W_slL, ↓L_cut, ↓WS_for, ↓WS_while, ↓WS_put, ↓W_lc0, ↓W_itL, ↓L_asL, ↓W_itT, ↓L_asT, ↓W_itA, ↓W_itES, ↓L_add, ↓L_sub, ↓L_lt, ↓L_le, ↓L_gt, ↓L_ge, ↓L_neg, ↓L_mul, ↓L_mod, ↓L_div, ↓L_pow, ↓L_eqI, ↓L_neI, ↓L_eqL, ↓L_neL, ↓L_eqT, ↓L_neT, ↓L_eqS, ↓L_neS, ↓L_isN, ↓L_isNotN, ↓L_lenL, ↓L_lenT, ↓L_int, ↓L_intb, ↓L_max, ↓L_min, ↓L_cat, ↓L_ixL, ↓L_ixT, ↓L_rep, ↓L_r1, ↓L_r2, ↓L_en, ↓L_enS, ↓L_zip, ↓L_inL, ↓L_ninL, ↓L_isi, ↓L_ii, ↓L_ib, ↓L_il, ↓LB_nil, ↓LB_name, ↓LB_bind, ↓LB_cons, ↓LB_tup, ↓W_call, ↓W_callD, ↓W_aNil, ↓W_aCons, ↓W_aBor, ↓W_callB, ↓W_scr, ↓L_sort, ↓ifM_nT, ↓ifS_nT, ↓ifM_nL, ↓ifS_nL, ↓ifM_nI, ↓ifS_nI, ↓ifM_nS, ↓ifS_nS, ↓ifM_nB, ↓ifS_nB, ↓ifM_nN, ↓ifS_nN, ↓W_var0, ↓W_varo0, ↓W_vark0, ↓Set_0, ↓W_ixC0, ↓WS_app0, ↓App_0, ↓W_move0, ↓W_var1, ↓W_varo1, ↓W_vark1, ↓Set_1, ↓W_ixC1, ↓WS_app1, ↓App_1, ↓W_move1, ↓W_var2, ↓W_varo2, ↓W_vark2, ↓Set_2, ↓W_ixC2, ↓WS_app2, ↓App_2, ↓W_move2, ↓W_var3, ↓W_varo3, ↓W_vark3, ↓Set_3, ↓W_ixC3, ↓WS_app3, ↓App_3, ↓W_move3, ↓W_var4, ↓W_varo4, ↓W_vark4, ↓Set_4, ↓W_ixC4, ↓WS_app4, ↓App_4, ↓W_move4, ↓W_var5, ↓W_varo5, ↓W_vark5, ↓Set_5, ↓W_ixC5, ↓WS_app5, ↓App_5, ↓W_move5, ↓W_var6, ↓W_varo6, ↓W_vark6, ↓Set_6, ↓W_ixC6, ↓WS_app6, ↓App_6, ↓W_move6, ↓W_var7, ↓W_varo7, ↓W_vark7, ↓Set_7, ↓W_ixC7, ↓WS_app7, ↓App_7, ↓W_move7, ↓W_var8, ↓W_varo8, ↓W_vark8, ↓Set_8, ↓W_ixC8, ↓WS_app8, ↓App_8, ↓W_move8, ↓W_var9, ↓W_varo9, ↓W_vark9, ↓Set_9, ↓W_ixC9, ↓WS_app9, ↓App_9, ↓W_move9, ↓W_var10, ↓W_varo10, ↓W_vark10, ↓Set_10, ↓W_ixC10, ↓WS_app10, ↓App_10, ↓W_move10, ↓W_var11, ↓W_varo11, ↓W_vark11, ↓Set_11, ↓W_ixC11, ↓WS_app11, ↓App_11, ↓W_move11, ↓W_var12, ↓W_varo12, ↓W_vark12, ↓Set_12, ↓W_ixC12, ↓WS_app12, ↓App_12, ↓W_move12, ↓W_var13, ↓W_varo13, ↓W_vark13, ↓Set_13, ↓W_ixC13, ↓WS_app13, ↓App_13, ↓W_move13, ↓W_var14, ↓W_varo14, ↓W_vark14, ↓Set_14, ↓W_ixC14, ↓WS_app14, ↓App_14, ↓W_move14, ↓W_var15, ↓W_varo15, ↓W_vark15, ↓Set_15, ↓W_ixC15, ↓WS_app15, ↓App_15, ↓W_move15, ↓L_at0, ↓L_at1, ↓L_at2, ↓L_at3, ↓L_at4, ↓L_at5, ↓L_at6, ↓L_at7, ↓L_at8, ↓Put_0, ↓Put_1, ↓Put_2, wipeS, List.set_cons_zero, List.set_cons_succ, List.length_map]
  refine ⟨sh, fun _ => ⟨sh, fun _ => L_of hs ?_, fun q => absurd trivial q⟩, fun q => absurd trivial q⟩
  simp only [W_dictP, W_revL, W_items, ↓W_bind, ↓W_ret, ↓W_lift, ↓L_some, ↓L_map, ↓WS_eseq, ↓WS_seq, ↓WS_nil, ↓WS_pass, ↓WS_break, ↓WS_cont, ↓WS_never, ↓WS_set, ↓WS_ret, ↓WS_retN, ↓WS_drop, ↓WS_asg, ↓WS_if, ↓ifS_t, ↓ifS_f, ↓ifS_not, ↓ifS_dec, ↓ifM_t, ↓ifM_f, ↓ifM_not, ↓ifM_dec, ↓W_C, ↓W_2, ↓W_1, ↓W_A, ↓W_AL, ↓W_2L, ↓W_nilA, ↓W_consA, ↓W_B, ↓L_asB, ↓W_not, ↓W_tnot, ↓W_and, ↓W_or, ↓W_tand, ↓W_tor, ↓W_if, ↓W_chain, ↓L_bindB, ↓W_tup, ↓W_lst, ↓W_dat, ↓W_fz, ↓L_asD, ↓L_asO, ↓W_someI, ↓L_asI, ↓L_asI1, ↓W_noneI, ↓W_slL, ↓L_cut, ↓WS_for, ↓WS_while, ↓WS_put, ↓W_lc0, ↓W_itL, ↓L_asL, ↓W_itT, ↓L_asT, ↓W_itA, ↓W_itES, ↓L_add, ↓L_sub, ↓L_lt, ↓L_le, ↓L_gt, ↓L_ge, ↓L_neg, ↓L_mul, ↓L_mod, ↓L_div, ↓L_pow, ↓L_eqI, ↓L_neI, ↓L_eqL, ↓L_neL, ↓L_eqT, ↓L_neT, ↓L_eqS, ↓L_neS, ↓L_isN, ↓L_isNotN, ↓L_lenL, ↓L_lenT, ↓L_int, ↓L_intb, ↓L_max, ↓L_min, ↓L_cat, ↓L_ixL, ↓L_ixT, ↓L_rep, ↓L_r1, ↓L_r2, ↓L_en, ↓L_enS, ↓L_zip, ↓L_inL, ↓L_ninL, ↓L_isi, ↓L_ii, ↓L_ib, ↓L_il, ↓LB_nil, ↓LB_name, ↓LB_bind, ↓LB_cons, ↓LB_tup, ↓W_call, ↓W_callD, ↓W_aNil, ↓W_aCons, ↓W_aBor, ↓W_callB, ↓W_scr, ↓L_sort, ↓ifM_nT, ↓ifS_nT, ↓ifM_nL, ↓ifS_nL, ↓ifM_nI, ↓ifS_nI, ↓ifM_nS, ↓ifS_nS, ↓ifM_nB, ↓ifS_nB, ↓ifM_nN, ↓ifS_nN, ↓W_var0, ↓W_varo0, ↓W_vark0, ↓Set_0, ↓W_ixC0, ↓WS_app0, ↓App_0, ↓W_move0, ↓W_var1, ↓W_varo1, ↓W_vark1, ↓Set_1, ↓W_ixC1, ↓WS_app1, ↓App_1, ↓W_move1, ↓W_var2, ↓W_varo2, ↓W_vark2, ↓Set_2, ↓W_ixC2, ↓WS_app2, ↓App_2, ↓W_move2, ↓W_var3, ↓W_varo3, ↓W_vark3, ↓Set_3, ↓W_ixC3, ↓WS_app3, ↓App_3, ↓W_move3, ↓W_var4, ↓W_varo4, ↓W_vark4, ↓Set_4, ↓W_ixC4, ↓WS_app4, ↓App_4, ↓W_move4, ↓W_var5, ↓W_varo5, ↓W_vark5, ↓Set_5, ↓W_ixC5, ↓WS_app5, ↓App_5, ↓W_move5, ↓W_var6, ↓W_varo6, ↓W_vark6, ↓Set_6, ↓W_ixC6, ↓WS_app6, ↓App_6, ↓W_move6, ↓W_var7, ↓W_varo7, ↓W_vark7, ↓Set_7, ↓W_ixC7, ↓WS_app7, ↓App_7, ↓W_move7, ↓W_var8, ↓W_varo8, ↓W_vark8, ↓Set_8, ↓W_ixC8, ↓WS_app8, ↓App_8, ↓W_move8, ↓W_var9, ↓W_varo9, ↓W_vark9, ↓Set_9, ↓W_ixC9, ↓WS_app9, ↓App_9, ↓W_move9, ↓W_var10, ↓W_varo10, ↓W_vark10, ↓Set_10, ↓W_ixC10, ↓WS_app10, ↓App_10, ↓W_move10, ↓W_var11, ↓W_varo11, ↓W_vark11, ↓Set_11, ↓W_ixC11, ↓WS_app11, ↓App_11, ↓W_move11, ↓W_var12, ↓W_varo12, ↓W_vark12, ↓Set_12, ↓W_ixC12, ↓WS_app12, ↓App_12, ↓W_move12, ↓W_var13, ↓W_varo13, ↓W_vark13, ↓Set_13, ↓W_ixC13, ↓WS_app13, ↓App_13, ↓W_move13, ↓W_var14, ↓W_varo14, ↓W_vark14, ↓Set_14, ↓W_ixC14, ↓WS_app14, ↓App_14, ↓W_move14, ↓W_var15, ↓W_varo15, ↓W_vark15, ↓Set_15, ↓W_ixC15, ↓WS_app15, ↓App_15, ↓W_move15, ↓L_at0, ↓L_at1, ↓L_at2, ↓L_at3, ↓L_at4, ↓L_at5, ↓L_at6, ↓L_at7, ↓L_at8, ↓Put_0, ↓Put_1, ↓Put_2, wipeS, List.set_cons_zero, List.set_cons_succ, List.length_map]
  have e : kDictP [.list ((tD ls.reverse v).map fun p => PyData.tuple [p.1, p.2]).reverse] = some (tD ls v) := by
    have := dictP_rev (v := v) g.rev.nd
    rw [List.reverse_reverse] at this
    exact this
  refine ⟨fun _ => L_of e ?_, fun q => absurd trivial q⟩
  simp only [L_asK, ↓W_bind, ↓W_ret, ↓W_lift, ↓L_some, ↓L_map, ↓WS_eseq, ↓WS_seq, ↓WS_nil, ↓WS_pass, ↓WS_break, ↓WS_cont, ↓WS_never, ↓WS_set, ↓WS_ret, ↓WS_retN, ↓WS_drop, ↓WS_asg, ↓WS_if, ↓ifS_t, ↓ifS_f, ↓ifS_not, ↓ifS_dec, ↓ifM_t, ↓ifM_f, ↓ifM_not, ↓ifM_dec, ↓W_C, ↓W_2, ↓W_1, ↓W_A, ↓W_AL, ↓W_2L, ↓W_nilA, ↓W_consA, ↓W_B, ↓L_asB, ↓W_not, ↓W_tnot, ↓W_and, ↓W_or, ↓W_tand, ↓W_tor, ↓W_if, ↓W_chain, ↓L_bindB, ↓W_tup, ↓W_lst, ↓W_dat, ↓W_fz, ↓L_asD, ↓L_asO, ↓W_someI, ↓L_asI, ↓L_asI1, ↓W_noneI, ↓W_slL, ↓L_cut, ↓WS_for, ↓WS_while, ↓WS_put, ↓W_lc0, ↓W_itL, ↓L_asL, ↓W_itT, ↓L_asT, ↓W_itA, ↓W_itES, ↓L_add, ↓L_sub, ↓L_lt, ↓L_le, ↓L_gt, ↓L_ge, ↓L_neg, ↓L_mul, ↓L_mod, ↓L_div, ↓L_pow, ↓L_eqI, ↓L_neI, ↓L_eqL, ↓L_neL, ↓L_eqT, ↓L_neT, ↓L_eqS, ↓L_neS, ↓L_isN, ↓L_isNotN, ↓L_lenL, ↓L_lenT, ↓L_int, ↓L_intb, ↓L_max, ↓L_min, ↓L_cat, ↓L_ixL, ↓L_ixT, ↓L_rep, ↓L_r1, ↓L_r2, ↓L_en, ↓L_enS, ↓L_zip, ↓L_inL, ↓L_ninL, ↓L_isi, ↓L_ii, ↓L_ib, ↓L_il, ↓LB_nil, ↓LB_name, ↓LB_bind, ↓LB_cons, ↓LB_tup, ↓W_call, ↓W_callD, ↓W_aNil, ↓W_aCons, ↓W_aBor, ↓W_callB, ↓W_scr, ↓L_sort, ↓ifM_nT, ↓ifS_nT, ↓ifM_nL, ↓ifS_nL, ↓ifM_nI, ↓ifS_nI, ↓ifM_nS, ↓ifS_nS, ↓ifM_nB, ↓ifS_nB, ↓ifM_nN, ↓ifS_nN, ↓W_var0, ↓W_varo0, ↓W_vark0, ↓Set_0, ↓W_ixC0, ↓WS_app0, ↓App_0, ↓W_move0, ↓W_var1, ↓W_varo1, ↓W_vark1, ↓Set_1, ↓W_ixC1, ↓WS_app1, ↓App_1, ↓W_move1, ↓W_var2, ↓W_varo2, ↓W_vark2, ↓Set_2, ↓W_ixC2, ↓WS_app2, ↓App_2, ↓W_move2, ↓W_var3, ↓W_varo3, ↓W_vark3, ↓Set_3, ↓W_ixC3, ↓WS_app3, ↓App_3, ↓W_move3, ↓W_var4, ↓W_varo4, ↓W_vark4, ↓Set_4, ↓W_ixC4, ↓WS_app4, ↓App_4, ↓W_move4, ↓W_var5, ↓W_varo5, ↓W_vark5, ↓Set_5, ↓W_ixC5, ↓WS_app5, ↓App_5, ↓W_move5, ↓W_var6, ↓W_varo6, ↓W_vark6, ↓Set_6, ↓W_ixC6, ↓WS_app6, ↓App_6, ↓W_move6, ↓W_var7, ↓W_varo7, ↓W_vark7, ↓Set_7, ↓W_ixC7, ↓WS_app7, ↓App_7, ↓W_move7, ↓W_var8, ↓W_varo8, ↓W_vark8, ↓Set_8, ↓W_ixC8, ↓WS_app8, ↓App_8, ↓W_move8, ↓W_var9, ↓W_varo9, ↓W_vark9, ↓Set_9, ↓W_ixC9, ↓WS_app9, ↓App_9, ↓W_move9, ↓W_var10, ↓W_varo10, ↓W_vark10, ↓Set_10, ↓W_ixC10, ↓WS_app10, ↓App_10, ↓W_move10, ↓W_var11, ↓W_varo11, ↓W_vark11, ↓Set_11, ↓W_ixC11, ↓WS_app11, ↓App_11, ↓W_move11, ↓W_var12, ↓W_varo12, ↓W_vark12, ↓Set_12, ↓W_ixC12, ↓WS_app12, ↓App_12, ↓W_move12, ↓W_var13, ↓W_varo13, ↓W_vark13, ↓Set_13, ↓W_ixC13, ↓WS_app13, ↓App_13, ↓W_move13, ↓W_var14, ↓W_varo14, ↓W_vark14, ↓Set_14, ↓W_ixC14, ↓WS_app14, ↓App_14, ↓W_move14, ↓W_var15, ↓W_varo15, ↓W_vark15, ↓Set_15, ↓W_ixC15, ↓WS_app15, ↓App_15, ↓W_move15, ↓L_at0, ↓L_at1, ↓L_at2, ↓L_at3, ↓L_at4, ↓L_at5, ↓L_at6, ↓L_at7, ↓L_at8, ↓Put_0, ↓Put_1, ↓Put_2, wipeS, List.set_cons_zero, List.set_cons_succ, List.length_map]
  refine L_of hs ?_
  try simp only [↓W_bind, ↓W_ret, ↓W_lift, ↓L_some, ↓L_map, ↓WS_eseq, ↓WS_seq, ↓WS_nil, ↓WS_pass, ↓WS_break, ↓WS_cont, ↓WS_never, ↓WS_set, ↓WS_ret, ↓WS_retN, ↓WS_drop, ↓WS_asg, ↓WS_if, ↓ifS_t, ↓ifS_f, ↓ifS_not, ↓ifS_dec, ↓ifM_t, ↓ifM_f, ↓ifM_not, ↓ifM_dec, ↓W_C, ↓W_2, ↓W_1, ↓W_A, ↓W_AL, ↓W_2L, ↓W_nilA, ↓W_consA, ↓W_B, ↓L_asB, ↓W_not, ↓W_tnot, ↓W_and, ↓W_or, ↓W_tand, ↓W_tor, ↓W_if, ↓W_chain, ↓L_bindB, ↓W_tup, ↓W_lst, ↓W_dat, ↓W_fz, ↓L_asD, ↓L_asO, ↓W_someI, ↓L_asI, ↓L_asI1, ↓W_noneI, ↓W_slL, ↓L_cut, ↓WS_for, ↓WS_while, ↓WS_put, ↓W_lc0, ↓W_itL, ↓L_asL, ↓W_itT, ↓L_asT, ↓W_itA, ↓W_itES, ↓L_add, ↓L_sub, ↓L_lt, ↓L_le, ↓L_gt, ↓L_ge, ↓L_neg, ↓L_mul, ↓L_mod, ↓L_div, ↓L_pow, ↓L_eqI, ↓L_neI, ↓L_eqL, ↓L_neL, ↓L_eqT, ↓L_neT, ↓L_eqS, ↓L_neS, ↓L_isN, ↓L_isNotN, ↓L_lenL, ↓L_lenT, ↓L_int, ↓L_intb, ↓L_max, ↓L_min, ↓L_cat, ↓L_ixL, ↓L_ixT, ↓L_rep, ↓L_r1, ↓L_r2, ↓L_en, ↓L_enS, ↓L_zip, ↓L_inL, ↓L_ninL, ↓L_isi, ↓L_ii, ↓L_ib, ↓L_il, ↓LB_nil, ↓LB_name, ↓LB_bind, ↓LB_cons, ↓LB_tup, ↓W_call, ↓W_callD, ↓W_aNil, ↓W_aCons, ↓W_aBor, ↓W_callB, ↓W_scr, ↓L_sort, ↓ifM_nT, ↓ifS_nT, ↓ifM_nL, ↓ifS_nL, ↓ifM_nI, ↓ifS_nI, ↓ifM_nS, ↓ifS_nS, ↓ifM_nB, ↓ifS_nB, ↓ifM_nN, ↓ifS_nN, ↓W_var0, ↓W_varo0, ↓W_vark0, ↓Set_0, ↓W_ixC0, ↓WS_app0, ↓App_0, ↓W_move0, ↓W_var1, ↓W_varo1, ↓W_vark1, ↓Set_1, ↓W_ixC1, ↓WS_app1, ↓App_1, ↓W_move1, ↓W_var2, ↓W_varo2, ↓W_vark2, ↓Set_2, ↓W_ixC2, ↓WS_app2, ↓App_2, ↓W_move2, ↓W_var3, ↓W_varo3, ↓W_vark3, ↓Set_3, ↓W_ixC3, ↓WS_app3, ↓App_3, ↓W_move3, ↓W_var4, ↓W_varo4, ↓W_vark4, ↓Set_4, ↓W_ixC4, ↓WS_app4, ↓App_4, ↓W_move4, ↓W_var5, ↓W_varo5, ↓W_vark5, ↓Set_5, ↓W_ixC5, ↓WS_app5, ↓App_5, ↓W_move5, ↓W_var6, ↓W_varo6, ↓W_vark6, ↓Set_6, ↓W_ixC6, ↓WS_app6, ↓App_6, ↓W_move6, ↓W_var7, ↓W_varo7, ↓W_vark7, ↓Set_7, ↓W_ixC7, ↓WS_app7, ↓App_7, ↓W_move7, ↓W_var8, ↓W_varo8, ↓W_vark8, ↓Set_8, ↓W_ixC8, ↓WS_app8, ↓App_8, ↓W_move8, ↓W_var9, ↓W_varo9, ↓W_vark9, ↓Set_9, ↓W_ixC9, ↓WS_app9, ↓App_9, ↓W_move9, ↓W_var10, ↓W_varo10, ↓W_vark10, ↓Set_10, ↓W_ixC10, ↓WS_app10, ↓App_10, ↓W_move10, ↓W_var11, ↓W_varo11, ↓W_vark11, ↓Set_11, ↓W_ixC11, ↓WS_app11, ↓App_11, ↓W_move11, ↓W_var12, ↓W_varo12, ↓W_vark12, ↓Set_12, ↓W_ixC12, ↓WS_app12, ↓App_12, ↓W_move12, ↓W_var13, ↓W_varo13, ↓W_vark13, ↓Set_13, ↓W_ixC13, ↓WS_app13, ↓App_13, ↓W_move13, ↓W_var14, ↓W_varo14, ↓W_vark14, ↓Set_14, ↓W_ixC14, ↓WS_app14, ↓App_14, ↓W_move14, ↓W_var15, ↓W_varo15, ↓W_vark15, ↓Set_15, ↓W_ixC15, ↓WS_app15, ↓App_15, ↓W_move15, ↓L_at0, ↓L_at1, ↓L_at2, ↓L_at3, ↓L_at4, ↓L_at5, ↓L_at6, ↓L_at7, ↓L_at8, ↓Put_0, ↓Put_1, ↓Put_2, wipeS, List.set_cons_zero, List.set_cons_succ, List.length_map]
  exact ⟨by simp, by simp⟩

-- @next
/-- what a list of draws is: a number, how many were drawn at most, a kind -/
def DS (ds : List PyData) (n : Int) : Prop := ∃ a k b, ds = [.int a, .int k, .bool b] ∧ 0 ≤ k ∧ k ≤ n
theorem DS.mono {ds : List PyData} {n m : Int} (h : DS ds n) (k : n ≤ m) : DS ds m := by
  obtain ⟨a, i, b, e, h0, h1⟩ := h
  exact ⟨a, i, b, e, h0, by omega⟩
theorem t_draws {c : Int} : W (F_l_draws [.dat (.int c)]) fun r _ => ∃ ds, DS ds 0 ∧ r = .own none ds := by
  refine W_def rfl ?_
  simp only [List.cons_append, List.nil_append, List.replicate_succ, List.replicate_zero, Nat.reduceSub, Nat.sub_self]
  unfold B_l_draws
  try simp only [↓W_bind, ↓W_ret, ↓W_lift, ↓L_some, ↓L_map, ↓WS_eseq, ↓WS_seq, ↓WS_nil, ↓WS_pass, ↓WS_break, ↓WS_cont, ↓WS_never, ↓WS_set, ↓WS_ret, ↓WS_retN, ↓WS_drop, ↓WS_asg, ↓WS_if, ↓ifS_t, ↓ifS_f, ↓ifS_not, ↓ifS_dec, ↓ifM_t, ↓ifM_f, ↓ifM_not, ↓ifM_dec, ↓W_C, ↓W_2, ↓W_1, ↓W_A, ↓W_AL, ↓W_2L, ↓W_nilA, ↓W_consA, ↓W_B, ↓L_asB, ↓W_not, ↓W_tnot, ↓W_and, ↓W_or, ↓W_tand, ↓W_tor, ↓W_if, ↓W_chain, ↓L_bindB, ↓W_tup, ↓W_lst, ↓W_dat, ↓W_fz, ↓L_asD, ↓L_asO, ↓W_someI, ↓L_asI, ↓L_asI1, ↓W_noneI, ↓W_slL, ↓L_cut, ↓WS_for, ↓WS_while, ↓WS_put, ↓W_lc0, ↓W_itL, ↓L_asL, ↓W_itT, ↓L_asT, ↓W_itA, ↓W_itES, ↓L_add, ↓L_sub, ↓L_lt, ↓L_le, ↓L_gt, ↓L_ge, ↓L_neg, ↓L_mul, ↓L_mod, ↓L_div, ↓L_pow, ↓L_eqI, ↓L_neI, ↓L_eqL, ↓L_neL, ↓L_eqT, ↓L_neT, ↓L_eqS, ↓L_neS, ↓L_isN, ↓L_isNotN, ↓L_lenL, ↓L_lenT, ↓L_int, ↓L_intb, ↓L_max, ↓L_min, ↓L_cat, ↓L_ixL, ↓L_ixT, ↓L_rep, ↓L_r1, ↓L_r2, ↓L_en, ↓L_enS, ↓L_zip, ↓L_inL, ↓L_ninL, ↓L_isi, ↓L_ii, ↓L_ib, ↓L_il, ↓LB_nil, ↓LB_name, ↓LB_bind, ↓LB_cons, ↓LB_tup, ↓W_call, ↓W_callD, ↓W_aNil, ↓W_aCons, ↓W_aBor, ↓W_callB, ↓W_scr, ↓L_sort, ↓ifM_nT, ↓ifS_nT, ↓ifM_nL, ↓ifS_nL, ↓ifM_nI, ↓ifS_nI, ↓ifM_nS, ↓ifS_nS, ↓ifM_nB, ↓ifS_nB, ↓ifM_nN, ↓ifS_nN, ↓W_var0, ↓W_varo0, ↓W_vark0, ↓Set_0, ↓W_ixC0, ↓WS_app0, ↓App_0, ↓W_move0, ↓W_var1, ↓W_varo1, ↓W_vark1, ↓Set_1, ↓W_ixC1, ↓WS_app1, ↓App_1, ↓W_move1, ↓W_var2, ↓W_varo2, ↓W_vark2, ↓Set_2, ↓W_ixC2, ↓WS_app2, ↓App_2, ↓W_move2, ↓W_var3, ↓W_varo3, ↓W_vark3, ↓Set_3, ↓W_ixC3, ↓WS_app3, ↓App_3, ↓W_move3, ↓W_var4, ↓W_varo4, ↓W_vark4, ↓Set_4, ↓W_ixC4, ↓WS_app4, ↓App_4, ↓W_move4, ↓W_var5, ↓W_varo5, ↓W_vark5, ↓Set_5, ↓W_ixC5, ↓WS_app5, ↓App_5, ↓W_move5, ↓W_var6, ↓W_varo6, ↓W_vark6, ↓Set_6, ↓W_ixC6, ↓WS_app6, ↓App_6, ↓W_move6, ↓W_var7, ↓W_varo7, ↓W_vark7, ↓Set_7, ↓W_ixC7, ↓WS_app7, ↓App_7, ↓W_move7, ↓W_var8, ↓W_varo8, ↓W_vark8, ↓Set_8, ↓W_ixC8, ↓WS_app8, ↓App_8, ↓W_move8, ↓W_var9, ↓W_varo9, ↓W_vark9, ↓Set_9, ↓W_ixC9, ↓WS_app9, ↓App_9, ↓W_move9, ↓W_var10, ↓W_varo10, ↓W_vark10, ↓Set_10, ↓W_ixC10, ↓WS_app10, ↓App_10, ↓W_move10, ↓W_var11, ↓W_varo11, ↓W_vark11, ↓Set_11, ↓W_ixC11, ↓WS_app11, ↓App_11, ↓W_move11, ↓W_var12, ↓W_varo12, ↓W_vark12, ↓Set_12, ↓W_ixC12, ↓WS_app12, ↓App_12, ↓W_move12, ↓W_var13, ↓W_varo13, ↓W_vark13, ↓Set_13, ↓W_ixC13, ↓WS_app13, ↓App_13, ↓W_move13, ↓W_var14, ↓W_varo14, ↓W_vark14, ↓Set_14, ↓W_ixC14, ↓WS_app14, ↓App_14, ↓W_move14, ↓W_var15, ↓W_varo15, ↓W_vark15, ↓Set_15, ↓W_ixC15, ↓WS_app15, ↓App_15, ↓W_move15, ↓L_at0, ↓L_at1, ↓L_at2, ↓L_at3, ↓L_at4, ↓L_at5, ↓L_at6, ↓L_at7, ↓L_at8, ↓Put_0, ↓Put_1, ↓Put_2, wipeS, List.set_cons_zero, List.set_cons_succ, List.length_map]
  exact ⟨by decide, by decide +kernel, by decide +kernel, by decide +kernel, by decide +kernel, by simp, by simp, rfl, _, ⟨_, _, _, rfl, by omega, by omega⟩, rfl⟩
theorem t_next {ds : List PyData} {n : Int} (hD : DS ds n) (hn : n ≤ 1000000000) : W (F_l_next [.own (some 0) ds]) fun r s => ∃ z ds', r = .dat (.int z) ∧ s = [.own (some 0) ds'] ∧ 0 ≤ z ∧ z < 400000000 ∧ DS ds' (n + 1) := by
  obtain ⟨a, k, b, rfl, k0, k1⟩ := hD
  refine W_def rfl ?_
  simp only [List.cons_append, List.nil_append, List.replicate_succ, List.replicate_zero, Nat.reduceSub, Nat.sub_self]
  unfold B_l_next
  try simp only [↓W_bind, ↓W_ret, ↓W_lift, ↓L_some, ↓L_map, ↓WS_eseq, ↓WS_seq, ↓WS_nil, ↓WS_pass, ↓WS_break, ↓WS_cont, ↓WS_never, ↓WS_set, ↓WS_ret, ↓WS_retN, ↓WS_drop, ↓WS_asg, ↓WS_if, ↓ifS_t, ↓ifS_f, ↓ifS_not, ↓ifS_dec, ↓ifM_t, ↓ifM_f, ↓ifM_not, ↓ifM_dec, ↓W_C, ↓W_2, ↓W_1, ↓W_A, ↓W_AL, ↓W_2L, ↓W_nilA, ↓W_consA, ↓W_B, ↓L_asB, ↓W_not, ↓W_tnot, ↓W_and, ↓W_or, ↓W_tand, ↓W_tor, ↓W_if, ↓W_chain, ↓L_bindB, ↓W_tup, ↓W_lst, ↓W_dat, ↓W_fz, ↓L_asD, ↓L_asO, ↓W_someI, ↓L_asI, ↓L_asI1, ↓W_noneI, ↓W_slL, ↓L_cut, ↓WS_for, ↓WS_while, ↓WS_put, ↓W_lc0, ↓W_itL, ↓L_asL, ↓W_itT, ↓L_asT, ↓W_itA, ↓W_itES, ↓L_add, ↓L_sub, ↓L_lt, ↓L_le, ↓L_gt, ↓L_ge, ↓L_neg, ↓L_mul, ↓L_mod, ↓L_div, ↓L_pow, ↓L_eqI, ↓L_neI, ↓L_eqL, ↓L_neL, ↓L_eqT, ↓L_neT, ↓L_eqS, ↓L_neS, ↓L_isN, ↓L_isNotN, ↓L_lenL, ↓L_lenT, ↓L_int, ↓L_intb, ↓L_max, ↓L_min, ↓L_cat, ↓L_ixL, ↓L_ixT, ↓L_rep, ↓L_r1, ↓L_r2, ↓L_en, ↓L_enS, ↓L_zip, ↓L_inL, ↓L_ninL, ↓L_isi, ↓L_ii, ↓L_ib, ↓L_il, ↓LB_nil, ↓LB_name, ↓LB_bind, ↓LB_cons, ↓LB_tup, ↓W_call, ↓W_callD, ↓W_aNil, ↓W_aCons, ↓W_aBor, ↓W_callB, ↓W_scr, ↓L_sort, ↓ifM_nT, ↓ifS_nT, ↓ifM_nL, ↓ifS_nL, ↓ifM_nI, ↓ifS_nI, ↓ifM_nS, ↓ifS_nS, ↓ifM_nB, ↓ifS_nB, ↓ifM_nN, ↓ifS_nN, ↓W_var0, ↓W_varo0, ↓W_vark0, ↓Set_0, ↓W_ixC0, ↓WS_app0, ↓App_0, ↓W_move0, ↓W_var1, ↓W_varo1, ↓W_vark1, ↓Set_1, ↓W_ixC1, ↓WS_app1, ↓App_1, ↓W_move1, ↓W_var2, ↓W_varo2, ↓W_vark2, ↓Set_2, ↓W_ixC2, ↓WS_app2, ↓App_2, ↓W_move2, ↓W_var3, ↓W_varo3, ↓W_vark3, ↓Set_3, ↓W_ixC3, ↓WS_app3, ↓App_3, ↓W_move3, ↓W_var4, ↓W_varo4, ↓W_vark4, ↓Set_4, ↓W_ixC4, ↓WS_app4, ↓App_4, ↓W_move4, ↓W_var5, ↓W_varo5, ↓W_vark5, ↓Set_5, ↓W_ixC5, ↓WS_app5, ↓App_5, ↓W_move5, ↓W_var6, ↓W_varo6, ↓W_vark6, ↓Set_6, ↓W_ixC6, ↓WS_app6, ↓App_6, ↓W_move6, ↓W_var7, ↓W_varo7, ↓W_vark7, ↓Set_7, ↓W_ixC7, ↓WS_app7, ↓App_7, ↓W_move7, ↓W_var8, ↓W_varo8, ↓W_vark8, ↓Set_8, ↓W_ixC8, ↓WS_app8, ↓App_8, ↓W_move8, ↓W_var9, ↓W_varo9, ↓W_vark9, ↓Set_9, ↓W_ixC9, ↓WS_app9, ↓App_9, ↓W_move9, ↓W_var10, ↓W_varo10, ↓W_vark10, ↓Set_10, ↓W_ixC10, ↓WS_app10, ↓App_10, ↓W_move10, ↓W_var11, ↓W_varo11, ↓W_vark11, ↓Set_11, ↓W_ixC11, ↓WS_app11, ↓App_11, ↓W_move11, ↓W_var12, ↓W_varo12, ↓W_vark12, ↓Set_12, ↓W_ixC12, ↓WS_app12, ↓App_12, ↓W_move12, ↓W_var13, ↓W_varo13, ↓W_vark13, ↓Set_13, ↓W_ixC13, ↓WS_app13, ↓App_13, ↓W_move13, ↓W_var14, ↓W_varo14, ↓W_vark14, ↓Set_14, ↓W_ixC14, ↓WS_app14, ↓App_14, ↓W_move14, ↓W_var15, ↓W_varo15, ↓W_vark15, ↓Set_15, ↓W_ixC15, ↓WS_app15, ↓App_15, ↓W_move15, ↓L_at0, ↓L_at1, ↓L_at2, ↓L_at3, ↓L_at4, ↓L_at5, ↓L_at6, ↓L_at7, ↓L_at8, ↓Put_0, ↓Put_1, ↓Put_2, wipeS, List.set_cons_zero, List.set_cons_succ, List.length_map]
  refine ⟨rfl, ?_⟩
  cases b with
  | true =>
    try simp only [↓W_bind, ↓W_ret, ↓W_lift, ↓L_some, ↓L_map, ↓WS_eseq, ↓WS_seq, ↓WS_nil, ↓WS_pass, ↓WS_break, ↓WS_cont, ↓WS_never, ↓WS_set, ↓WS_ret, ↓WS_retN, ↓WS_drop, ↓WS_asg, ↓WS_if, ↓ifS_t, ↓ifS_f, ↓ifS_not, ↓ifS_dec, ↓ifM_t, ↓ifM_f, ↓ifM_not, ↓ifM_dec, ↓W_C, ↓W_2, ↓W_1, ↓W_A, ↓W_AL, ↓W_2L, ↓W_nilA, ↓W_consA, ↓W_B, ↓L_asB, ↓W_not, ↓W_tnot, ↓W_and, ↓W_or, ↓W_tand, ↓W_tor, ↓W_if, ↓W_chain, ↓L_bindB, ↓W_tup, ↓W_lst, ↓W_dat, ↓W_fz, ↓L_asD, ↓L_asO, ↓W_someI, ↓L_asI, ↓L_asI1, ↓W_noneI, ↓W_slL, ↓L_cut, ↓WS_for, ↓WS_while, ↓WS_put, ↓W_lc0, ↓W_itL, ↓L_asL, ↓W_itT, ↓L_asT, ↓W_itA, ↓W_itES, ↓L_add, ↓L_sub, ↓L_lt, ↓L_le, ↓L_gt, ↓L_ge, ↓L_neg, ↓L_mul, ↓L_mod, ↓L_div, ↓L_pow, ↓L_eqI, ↓L_neI, ↓L_eqL, ↓L_neL, ↓L_eqT, ↓L_neT, ↓L_eqS, ↓L_neS, ↓L_isN, ↓L_isNotN, ↓L_lenL, ↓L_lenT, ↓L_int, ↓L_intb, ↓L_max, ↓L_min, ↓L_cat, ↓L_ixL, ↓L_ixT, ↓L_rep, ↓L_r1, ↓L_r2, ↓L_en, ↓L_enS, ↓L_zip, ↓L_inL, ↓L_ninL, ↓L_isi, ↓L_ii, ↓L_ib, ↓L_il, ↓LB_nil, ↓LB_name, ↓LB_bind, ↓LB_cons, ↓LB_tup, ↓W_call, ↓W_callD, ↓W_aNil, ↓W_aCons, ↓W_aBor, ↓W_callB, ↓W_scr, ↓L_sort, ↓ifM_nT, ↓ifS_nT, ↓ifM_nL, ↓ifS_nL, ↓ifM_nI, ↓ifS_nI, ↓ifM_nS, ↓ifS_nS, ↓ifM_nB, ↓ifS_nB, ↓ifM_nN, ↓ifS_nN, ↓W_var0, ↓W_varo0, ↓W_vark0, ↓Set_0, ↓W_ixC0, ↓WS_app0, ↓App_0, ↓W_move0, ↓W_var1, ↓W_varo1, ↓W_vark1, ↓Set_1, ↓W_ixC1, ↓WS_app1, ↓App_1, ↓W_move1, ↓W_var2, ↓W_varo2, ↓W_vark2, ↓Set_2, ↓W_ixC2, ↓WS_app2, ↓App_2, ↓W_move2, ↓W_var3, ↓W_varo3, ↓W_vark3, ↓Set_3, ↓W_ixC3, ↓WS_app3, ↓App_3, ↓W_move3, ↓W_var4, ↓W_varo4, ↓W_vark4, ↓Set_4, ↓W_ixC4, ↓WS_app4, ↓App_4, ↓W_move4, ↓W_var5, ↓W_varo5, ↓W_vark5, ↓Set_5, ↓W_ixC5, ↓WS_app5, ↓App_5, ↓W_move5, ↓W_var6, ↓W_varo6, ↓W_vark6, ↓Set_6, ↓W_ixC6, ↓WS_app6, ↓App_6, ↓W_move6, ↓W_var7, ↓W_varo7, ↓W_vark7, ↓Set_7, ↓W_ixC7, ↓WS_app7, ↓App_7, ↓W_move7, ↓W_var8, ↓W_varo8, ↓W_vark8, ↓Set_8, ↓W_ixC8, ↓WS_app8, ↓App_8, ↓W_move8, ↓W_var9, ↓W_varo9, ↓W_vark9, ↓Set_9, ↓W_ixC9, ↓WS_app9, ↓App_9, ↓W_move9, ↓W_var10, ↓W_varo10, ↓W_vark10, ↓Set_10, ↓W_ixC10, ↓WS_app10, ↓App_10, ↓W_move10, ↓W_var11, ↓W_varo11, ↓W_vark11, ↓Set_11, ↓W_ixC11, ↓WS_app11, ↓App_11, ↓W_move11, ↓W_var12, ↓W_varo12, ↓W_vark12, ↓Set_12, ↓W_ixC12, ↓WS_app12, ↓App_12, ↓W_move12, ↓W_var13, ↓W_varo13, ↓W_vark13, ↓Set_13, ↓W_ixC13, ↓WS_app13, ↓App_13, ↓W_move13, ↓W_var14, ↓W_varo14, ↓W_vark14, ↓Set_14, ↓W_ixC14, ↓WS_app14, ↓App_14, ↓W_move14, ↓W_var15, ↓W_varo15, ↓W_vark15, ↓Set_15, ↓W_ixC15, ↓WS_app15, ↓App_15, ↓W_move15, ↓L_at0, ↓L_at1, ↓L_at2, ↓L_at3, ↓L_at4, ↓L_at5, ↓L_at6, ↓L_at7, ↓L_at8, ↓Put_0, ↓Put_1, ↓Put_2, wipeS, List.set_cons_zero, List.set_cons_succ, List.length_map]
    have e6 : (10 : Int) ^ (6 : Int).toNat = 1000000 := by decide
    rw [e6]
    have m0 := Int.emod_nonneg a (show (1000000 : Int) ≠ 0 by decide)
    have m1 := Int.emod_lt_of_pos a (show (0 : Int) < 1000000 by decide)
    exact ⟨by decide, by decide, by decide, ⟨by decide, by decide⟩, rfl, by simp, rfl, _, _, rfl, rfl, m0, by omega, _, _, _, rfl, by omega, by omega⟩
  | false =>
    try simp only [↓W_bind, ↓W_ret, ↓W_lift, ↓L_some, ↓L_map, ↓WS_eseq, ↓WS_seq, ↓WS_nil, ↓WS_pass, ↓WS_break, ↓WS_cont, ↓WS_never, ↓WS_set, ↓WS_ret, ↓WS_retN, ↓WS_drop, ↓WS_asg, ↓WS_if, ↓ifS_t, ↓ifS_f, ↓ifS_not, ↓ifS_dec, ↓ifM_t, ↓ifM_f, ↓ifM_not, ↓ifM_dec, ↓W_C, ↓W_2, ↓W_1, ↓W_A, ↓W_AL, ↓W_2L, ↓W_nilA, ↓W_consA, ↓W_B, ↓L_asB, ↓W_not, ↓W_tnot, ↓W_and, ↓W_or, ↓W_tand, ↓W_tor, ↓W_if, ↓W_chain, ↓L_bindB, ↓W_tup, ↓W_lst, ↓W_dat, ↓W_fz, ↓L_asD, ↓L_asO, ↓W_someI, ↓L_asI, ↓L_asI1, ↓W_noneI, ↓W_slL, ↓L_cut, ↓WS_for, ↓WS_while, ↓WS_put, ↓W_lc0, ↓W_itL, ↓L_asL, ↓W_itT, ↓L_asT, ↓W_itA, ↓W_itES, ↓L_add, ↓L_sub, ↓L_lt, ↓L_le, ↓L_gt, ↓L_ge, ↓L_neg, ↓L_mul, ↓L_mod, ↓L_div, ↓L_pow, ↓L_eqI, ↓L_neI, ↓L_eqL, ↓L_neL, ↓L_eqT, ↓L_neT, ↓L_eqS, ↓L_neS, ↓L_isN, ↓L_isNotN, ↓L_lenL, ↓L_lenT, ↓L_int, ↓L_intb, ↓L_max, ↓L_min, ↓L_cat, ↓L_ixL, ↓L_ixT, ↓L_rep, ↓L_r1, ↓L_r2, ↓L_en, ↓L_enS, ↓L_zip, ↓L_inL, ↓L_ninL, ↓L_isi, ↓L_ii, ↓L_ib, ↓L_il, ↓LB_nil, ↓LB_name, ↓LB_bind, ↓LB_cons, ↓LB_tup, ↓W_call, ↓W_callD, ↓W_aNil, ↓W_aCons, ↓W_aBor, ↓W_callB, ↓W_scr, ↓L_sort, ↓ifM_nT, ↓ifS_nT, ↓ifM_nL, ↓ifS_nL, ↓ifM_nI, ↓ifS_nI, ↓ifM_nS, ↓ifS_nS, ↓ifM_nB, ↓ifS_nB, ↓ifM_nN, ↓ifS_nN, ↓W_var0, ↓W_varo0, ↓W_vark0, ↓Set_0, ↓W_ixC0, ↓WS_app0, ↓App_0, ↓W_move0, ↓W_var1, ↓W_varo1, ↓W_vark1, ↓Set_1, ↓W_ixC1, ↓WS_app1, ↓App_1, ↓W_move1, ↓W_var2, ↓W_varo2, ↓W_vark2, ↓Set_2, ↓W_ixC2, ↓WS_app2, ↓App_2, ↓W_move2, ↓W_var3, ↓W_varo3, ↓W_vark3, ↓Set_3, ↓W_ixC3, ↓WS_app3, ↓App_3, ↓W_move3, ↓W_var4, ↓W_varo4, ↓W_vark4, ↓Set_4, ↓W_ixC4, ↓WS_app4, ↓App_4, ↓W_move4, ↓W_var5, ↓W_varo5, ↓W_vark5, ↓Set_5, ↓W_ixC5, ↓WS_app5, ↓App_5, ↓W_move5, ↓W_var6, ↓W_varo6, ↓W_vark6, ↓Set_6, ↓W_ixC6, ↓WS_app6, ↓App_6, ↓W_move6, ↓W_var7, ↓W_varo7, ↓W_vark7, ↓Set_7, ↓W_ixC7, ↓WS_app7, ↓App_7, ↓W_move7, ↓W_var8, ↓W_varo8, ↓W_vark8, ↓Set_8, ↓W_ixC8, ↓WS_app8, ↓App_8, ↓W_move8, ↓W_var9, ↓W_varo9, ↓W_vark9, ↓Set_9, ↓W_ixC9, ↓WS_app9, ↓App_9, ↓W_move9, ↓W_var10, ↓W_varo10, ↓W_vark10, ↓Set_10, ↓W_ixC10, ↓WS_app10, ↓App_10, ↓W_move10, ↓W_var11, ↓W_varo11, ↓W_vark11, ↓Set_11, ↓W_ixC11, ↓WS_app11, ↓App_11, ↓W_move11, ↓W_var12, ↓W_varo12, ↓W_vark12, ↓Set_12, ↓W_ixC12, ↓WS_app12, ↓App_12, ↓W_move12, ↓W_var13, ↓W_varo13, ↓W_vark13, ↓Set_13, ↓W_ixC13, ↓WS_app13, ↓App_13, ↓W_move13, ↓W_var14, ↓W_varo14, ↓W_vark14, ↓Set_14, ↓W_ixC14, ↓WS_app14, ↓App_14, ↓W_move14, ↓W_var15, ↓W_varo15, ↓W_vark15, ↓Set_15, ↓W_ixC15, ↓WS_app15, ↓App_15, ↓W_move15, ↓L_at0, ↓L_at1, ↓L_at2, ↓L_at3, ↓L_at4, ↓L_at5, ↓L_at6, ↓L_at7, ↓L_at8, ↓Put_0, ↓Put_1, ↓Put_2, wipeS, List.set_cons_zero, List.set_cons_succ, List.length_map]
    generalize hx : ((a % 1000003 + (k + 1) * (k + 1) * 7919 + (k + 1)) * 48271) % 2147483629 = x
    have x0 : 0 ≤ x := by rw [← hx]; exact Int.emod_nonneg _ (by decide)
    have x1 : x < 2147483629 := by rw [← hx]; exact Int.emod_lt_of_pos _ (by decide)
    generalize hy : (x * x) % 2147483587 = y
    have y0 : 0 ≤ y := by rw [← hy]; exact Int.emod_nonneg _ (by decide)
    have y1 : y < 2147483587 := by rw [← hy]; exact Int.emod_lt_of_pos _ (by decide)
    generalize hz : (y * (y + 2)) % 2147483579 = z
    have z0 : 0 ≤ z := by rw [← hz]; exact Int.emod_nonneg _ (by decide)
    have z1 : z < 2147483579 := by rw [← hz]; exact Int.emod_lt_of_pos _ (by decide)
    exact ⟨by decide, .inl ⟨by omega, by omega⟩, .inr ⟨by decide, by decide⟩, .inr ⟨by decide, by decide⟩, by decide, .inl ⟨by omega, by omega⟩, by decide, .inl ⟨by omega, by omega⟩, by decide, ⟨by decide, by decide⟩, by simp, rfl, _, _, rfl, rfl, by omega, by omega, _, _, _, rfl, by omega, by omega⟩
/-- a draw -/
theorem draw {ss : List SV} {P : SV → List SV → Prop} {i : Nat} {lb : Option Nat} {ds : List PyData} {n : Int} (hs : ss[i]? = some (.own lb ds)) (hD : DS ds n) (hn : n ≤ 1000000000)
    (k : ∀ z ds', 0 ≤ z → z < 400000000 → DS ds' (n + 1) → P (.dat (.int z)) (ss.set i (.own lb ds'))) : W (mCallBD 1 F_l_next 0 i [none] ss) P := by
  refine W_lent (k' := 0) hs rfl rfl ?_
  show W (F_l_next [.own (some 0) ds]) _
  refine W_mono (t_next hD hn) fun r s ⟨z, ds', e1, e2, z0, z1, hD'⟩ => ?_
  subst e1
  subst e2
  exact ⟨ds', rfl, rfl, k z ds' z0 z1 hD'⟩
theorem pickL {xs : List PyData} {i : Int} {s : List SV} {P : PyData → List SV → Prop} (h0 : 0 ≤ i) (h1 : i < xs.length) (h : ∀ x ∈ xs, P x s) : L (atI xs i) s P := by
  have hl : i.toNat < xs.length := by omega
  exact ⟨xs[i.toNat], at_int (i := i.toNat) (by omega) (List.getElem?_eq_getElem hl), h _ (List.getElem_mem hl)⟩
/-- how long the text of a flat dict is -/
theorem kv_all {n : Nat} : ∀ kvs : List (PyData × PyData), (∀ p ∈ kvs, Sm 0 n p.1 ∧ Sm 0 n p.2) → PyData.showableKv kvs = true ∧ PyData.depthKv kvs = 0 ∧ ((PyData.shownKv kvs).map (·.length)).sum ≤ kvs.length * (2 * n + 2)
  | [], _ => ⟨rfl, rfl, Nat.zero_le _⟩
  | (k, v) :: r, h => by
    obtain ⟨a, b, c⟩ := kv_all r fun p hp => h p (List.mem_cons_of_mem _ hp)
    obtain ⟨hk, hv⟩ := h (k, v) List.mem_cons_self
    have k1 := hk.dp
    have v1 := hv.dp
    have k2 := hk.ln
    have v2 := hv.ln
    refine ⟨?_, ?_, ?_⟩
    · simp only [PyData.showableKv]
      rw [hk.sh, hv.sh, a]
      rfl
    · simp only [PyData.depthKv]
      rw [b]
      dsimp only at k1 v1
      omega
    · simp only [PyData.shownKv, List.map_cons, List.sum_cons, List.length_cons]
      have e : (PyData.shown k ++ ": " ++ PyData.shown v : Str).length = (PyData.shown k).length + 2 + (PyData.shown v).length := by
        rw [strLen_append, strLen_append]
        rfl
      rw [e, Nat.succ_mul]
      dsimp only at k2 v2
      omega

theorem shown_tD {ls : List Str} {v : Str → Str} (h : ∀ c ∈ ls, Sm 0 13 (.str c) ∧ Sm 0 13 (.str (v c))) (hl : ls.length ≤ 26) : kReprD [.dict (tD ls v)] = some (.str (PyData.dict (tD ls v)).shown) := by
  obtain ⟨a, b, c⟩ := kv_all (n := 13) (tD ls v) fun p hp => by
    obtain ⟨c, hc, rfl⟩ := List.mem_map.mp hp
    exact h c hc
  have h1 : ((tD ls v).all fun p => flat4 p.2) = true := by
    rw [List.all_eq_true]
    intro p hp
    obtain ⟨c, _, rfl⟩ := List.mem_map.mp hp
    rfl
  have h2 : (PyData.dict (tD ls v)).showable = true := by simp only [PyData.showable]; exact a
  have h3 : (PyData.dict (tD ls v)).depth ≤ 100 := by simp only [PyData.depth]; omega
  have h4 : (PyData.dict (tD ls v)).shown.length ≤ sizeLine := by
    rw [PyData.shown_dict, strLen_append, strLen_append]
    have j := StrLaws.join_length_le ", " (PyData.shownKv (tD ls v))
    rw [PyData.shownKv_length, tD_len] at j
    rw [tD_len] at c
    have e1 : ("{" : Str).length = 1 := rfl
    have e2 : ("}" : Str).length = 1 := rfl
    have e3 : (", " : Str).length = 2 := rfl
    have e6 : sizeLine = 16777216 := rfl
    rw [e3] at j
    omega
  show (if ((tD ls v).all (fun p => flat4 p.2) && (PyData.dict (tD ls v)).showable && decide ((PyData.dict (tD ls v)).depth ≤ 100) && decide ((PyData.dict (tD ls v)).shown.length ≤ sizeLine)) = true then _ else _) = _
  rw [h1, h2, decide_eq_true h3, decide_eq_true h4]
  rw [if_pos (by decide)]
/-! ### the letters -/
def alS : Str := "abcdefghijklmnopqrstuvwxyz"
def sg (c : Nat) : Str := ⟨#[c]⟩
def al : List Str := alS.cps.toList.map sg
theorem cut_al : ∀ k : Fin 26, (L2.cutS alS none (some ((k.1 + 1 : Nat) : Int))).cps.toList = alS.cps.toList.take (k.1 + 1) := by decide +kernel
theorem al_nd : al.Nodup := by decide +kernel
theorem al_sm : ∀ c ∈ al, Sm 0 13 (.str c) := by
  have h : (al.all fun c => (PyData.str c).showable && (PyData.str c).canLay0 && decide ((PyData.str c).depth ≤ 0) && decide ((PyData.str c).shown.length ≤ 13)) = true := by decide +kernel
  intro c hc
  have := List.all_eq_true.mp h c hc
  simp only [Bool.and_eq_true, decide_eq_true_eq] at this
  exact ⟨this.1.1.1, this.1.1.2, this.1.2, this.2⟩
theorem al_one : ∀ c ∈ al, c.length = 1 := by
  intro c hc
  obtain ⟨n, _, rfl⟩ := List.mem_map.mp hc
  rfl
theorem al_ok : ∀ c ∈ al, PyData.strOk c = true := by
  have h : (al.all PyData.strOk) = true := by decide +kernel
  exact fun c hc => List.all_eq_true.mp h c hc
theorem enum_getD {ds : List PyData} {i : Nat} {d : PyData} (h : (enumD ds)[i]? = some d) : ∃ x, ds[i]? = some x ∧ d = .tuple [.int (i : Nat), x] := by
  unfold enumD at h
  rw [List.getElem?_mapIdx] at h
  cases q : ds[i]? with
  | none => rw [q] at h; cases h
  | some x =>
    rw [q] at h
    exact ⟨x, rfl, (Option.some.inj h).symm⟩
theorem L_ixS {z : Str} {i : Int} {s : List SV} {P : PyData → List SV → Prop} (hz : z.length ≤ 1000) (h0 : 0 ≤ i) (h1 : i < z.cps.toList.length) (h : ∀ c ∈ z.cps.toList.map sg, P (.str c) s) : L (kIxS (.str z) (.int i)) s P := by
  have hl : i.toNat < z.cps.toList.length := by omega
  refine ⟨.str (sg z.cps.toList[i.toNat]), ?_, h _ (List.mem_map.mpr ⟨_, List.getElem_mem hl, rfl⟩)⟩
  show (if decide (z.length ≤ 1000) = true then (atI z.cps.toList i).map fun c => PyData.str ⟨#[c]⟩ else none) = _
  rw [if_pos (decide_eq_true hz), at_int (i := i.toNat) (by omega) (List.getElem?_eq_getElem hl)]
  rfl
theorem WS_dput3 {f : M PyData} {ss : List SV} {N : List SV → Prop} {T : SV → List SV → Prop} {B C : List SV → Prop}
    (h : W (f ss) fun d s => ∃ x0 x1 x2 x4 lb ks k key l, s = x0 :: x1 :: x2 :: .odk lb ks :: x4 :: .dat k :: l ∧ keyOf k = some key ∧ ks.length ≤ 1000000 ∧ N (x0 :: x1 :: x2 :: .odk lb (putD ks k key d) :: x4 :: .dat k :: l)) : WS (sDPutM 3 (mVar 5) f ss) N T B C := by
  unfold sDPutM
  rw [WS_eseq]
  refine W_mono h fun d s ⟨x0, x1, x2, x4, lb, ks, k, key, l, e, hk, hn, q⟩ => ?_
  subst e
  refine WS_eq (s := x0 :: x1 :: x2 :: .odk lb (putD ks k key d) :: x4 :: .dat k :: l) ?_ q
  simp [eseq, mVar, hk, few_of hn]
theorem tD_none {v : Str → Str} {c : Str} : ∀ {ls : List Str}, c ∉ ls → valD (tD ls v) (.inr c) = none
  | [], _ => rfl
  | a :: ls, h => by
    show (if keyOf (PyData.str a) = some (Sum.inr c) then some (PyData.str (v a)) else valD (tD ls v) (.inr c)) = _
    rw [if_neg (show ¬ keyOf (PyData.str a) = some (Sum.inr c) from fun z => h (by
      have := Sum.inr.inj (Option.some.inj z)
      rw [this]
      exact List.mem_cons_self)), tD_none fun z => h (List.mem_cons_of_mem _ z)]
theorem t_table {ds : List PyData} {n : Int} (hD : DS ds n) (hn : n ≤ 100000000) : W (F_l_table [.own (some 0) ds]) fun r s => ∃ ls v ds', r = .dat (.dict (tD ls v)) ∧ s = [.own (some 0) ds'] ∧ GT ls v ∧ (∀ c ∈ ls, c ∈ al) ∧ DS ds' (n + 30) := by
  refine W_def rfl ?_
  simp only [List.cons_append, List.nil_append, List.replicate_succ, List.replicate_zero, Nat.reduceSub, Nat.sub_self]
  unfold B_l_table
  simp only [W_slS, ↓W_bind, ↓W_ret, ↓W_lift, ↓L_some, ↓L_map, ↓WS_eseq, ↓WS_seq, ↓WS_nil, ↓WS_pass, ↓WS_break, ↓WS_cont, ↓WS_never, ↓WS_set, ↓WS_ret, ↓WS_retN, ↓WS_drop, ↓WS_asg, ↓WS_if, ↓ifS_t, ↓ifS_f, ↓ifS_not, ↓ifS_dec, ↓ifM_t, ↓ifM_f, ↓ifM_not, ↓ifM_dec, ↓W_C, ↓W_2, ↓W_1, ↓W_A, ↓W_AL, ↓W_2L, ↓W_nilA, ↓W_consA, ↓W_B, ↓L_asB, ↓W_not, ↓W_tnot, ↓W_and, ↓W_or, ↓W_tand, ↓W_tor, ↓W_if, ↓W_chain, ↓L_bindB, ↓W_tup, ↓W_lst, ↓W_dat, ↓W_fz, ↓L_asD, ↓L_asO, ↓W_someI, ↓L_asI, ↓L_asI1, ↓W_noneI, ↓W_slL, ↓L_cut, ↓WS_for, ↓WS_while, ↓WS_put, ↓W_lc0, ↓W_itL, ↓L_asL, ↓W_itT, ↓L_asT, ↓W_itA, ↓W_itES, ↓L_add, ↓L_sub, ↓L_lt, ↓L_le, ↓L_gt, ↓L_ge, ↓L_neg, ↓L_mul, ↓L_mod, ↓L_div, ↓L_pow, ↓L_eqI, ↓L_neI, ↓L_eqL, ↓L_neL, ↓L_eqT, ↓L_neT, ↓L_eqS, ↓L_neS, ↓L_isN, ↓L_isNotN, ↓L_lenL, ↓L_lenT, ↓L_int, ↓L_intb, ↓L_max, ↓L_min, ↓L_cat, ↓L_ixL, ↓L_ixT, ↓L_rep, ↓L_r1, ↓L_r2, ↓L_en, ↓L_enS, ↓L_zip, ↓L_inL, ↓L_ninL, ↓L_isi, ↓L_ii, ↓L_ib, ↓L_il, ↓LB_nil, ↓LB_name, ↓LB_bind, ↓LB_cons, ↓LB_tup, ↓W_call, ↓W_callD, ↓W_aNil, ↓W_aCons, ↓W_aBor, ↓W_callB, ↓W_scr, ↓L_sort, ↓ifM_nT, ↓ifS_nT, ↓ifM_nL, ↓ifS_nL, ↓ifM_nI, ↓ifS_nI, ↓ifM_nS, ↓ifS_nS, ↓ifM_nB, ↓ifS_nB, ↓ifM_nN, ↓ifS_nN, ↓W_var0, ↓W_varo0, ↓W_vark0, ↓Set_0, ↓W_ixC0, ↓WS_app0, ↓App_0, ↓W_move0, ↓W_var1, ↓W_varo1, ↓W_vark1, ↓Set_1, ↓W_ixC1, ↓WS_app1, ↓App_1, ↓W_move1, ↓W_var2, ↓W_varo2, ↓W_vark2, ↓Set_2, ↓W_ixC2, ↓WS_app2, ↓App_2, ↓W_move2, ↓W_var3, ↓W_varo3, ↓W_vark3, ↓Set_3, ↓W_ixC3, ↓WS_app3, ↓App_3, ↓W_move3, ↓W_var4, ↓W_varo4, ↓W_vark4, ↓Set_4, ↓W_ixC4, ↓WS_app4, ↓App_4, ↓W_move4, ↓W_var5, ↓W_varo5, ↓W_vark5, ↓Set_5, ↓W_ixC5, ↓WS_app5, ↓App_5, ↓W_move5, ↓W_var6, ↓W_varo6, ↓W_vark6, ↓Set_6, ↓W_ixC6, ↓WS_app6, ↓App_6, ↓W_move6, ↓W_var7, ↓W_varo7, ↓W_vark7, ↓Set_7, ↓W_ixC7, ↓WS_app7, ↓App_7, ↓W_move7, ↓W_var8, ↓W_varo8, ↓W_vark8, ↓Set_8, ↓W_ixC8, ↓WS_app8, ↓App_8, ↓W_move8, ↓W_var9, ↓W_varo9, ↓W_vark9, ↓Set_9, ↓W_ixC9, ↓WS_app9, ↓App_9, ↓W_move9, ↓W_var10, ↓W_varo10, ↓W_vark10, ↓Set_10, ↓W_ixC10, ↓WS_app10, ↓App_10, ↓W_move10, ↓W_var11, ↓W_varo11, ↓W_vark11, ↓Set_11, ↓W_ixC11, ↓WS_app11, ↓App_11, ↓W_move11, ↓W_var12, ↓W_varo12, ↓W_vark12, ↓Set_12, ↓W_ixC12, ↓WS_app12, ↓App_12, ↓W_move12, ↓W_var13, ↓W_varo13, ↓W_vark13, ↓Set_13, ↓W_ixC13, ↓WS_app13, ↓App_13, ↓W_move13, ↓W_var14, ↓W_varo14, ↓W_vark14, ↓Set_14, ↓W_ixC14, ↓WS_app14, ↓App_14, ↓W_move14, ↓W_var15, ↓W_varo15, ↓W_vark15, ↓Set_15, ↓W_ixC15, ↓WS_app15, ↓App_15, ↓W_move15, ↓L_at0, ↓L_at1, ↓L_at2, ↓L_at3, ↓L_at4, ↓L_at5, ↓L_at6, ↓L_at7, ↓L_at8, ↓Put_0, ↓Put_1, ↓Put_2, wipeS, List.set_cons_zero, List.set_cons_succ, List.length_map]
  refine ⟨rfl, draw rfl hD (by omega) fun z d1 z0 z1 hD1 => ?_⟩
  have k0 := Int.emod_nonneg z (show (26 : Int) ≠ 0 by decide)
  have k1 := Int.emod_lt_of_pos z (show (0 : Int) < 26 by decide)
  simp only [L_cutS, ↓W_bind, ↓W_ret, ↓W_lift, ↓L_some, ↓L_map, ↓WS_eseq, ↓WS_seq, ↓WS_nil, ↓WS_pass, ↓WS_break, ↓WS_cont, ↓WS_never, ↓WS_set, ↓WS_ret, ↓WS_retN, ↓WS_drop, ↓WS_asg, ↓WS_if, ↓ifS_t, ↓ifS_f, ↓ifS_not, ↓ifS_dec, ↓ifM_t, ↓ifM_f, ↓ifM_not, ↓ifM_dec, ↓W_C, ↓W_2, ↓W_1, ↓W_A, ↓W_AL, ↓W_2L, ↓W_nilA, ↓W_consA, ↓W_B, ↓L_asB, ↓W_not, ↓W_tnot, ↓W_and, ↓W_or, ↓W_tand, ↓W_tor, ↓W_if, ↓W_chain, ↓L_bindB, ↓W_tup, ↓W_lst, ↓W_dat, ↓W_fz, ↓L_asD, ↓L_asO, ↓W_someI, ↓L_asI, ↓L_asI1, ↓W_noneI, ↓W_slL, ↓L_cut, ↓WS_for, ↓WS_while, ↓WS_put, ↓W_lc0, ↓W_itL, ↓L_asL, ↓W_itT, ↓L_asT, ↓W_itA, ↓W_itES, ↓L_add, ↓L_sub, ↓L_lt, ↓L_le, ↓L_gt, ↓L_ge, ↓L_neg, ↓L_mul, ↓L_mod, ↓L_div, ↓L_pow, ↓L_eqI, ↓L_neI, ↓L_eqL, ↓L_neL, ↓L_eqT, ↓L_neT, ↓L_eqS, ↓L_neS, ↓L_isN, ↓L_isNotN, ↓L_lenL, ↓L_lenT, ↓L_int, ↓L_intb, ↓L_max, ↓L_min, ↓L_cat, ↓L_ixL, ↓L_ixT, ↓L_rep, ↓L_r1, ↓L_r2, ↓L_en, ↓L_enS, ↓L_zip, ↓L_inL, ↓L_ninL, ↓L_isi, ↓L_ii, ↓L_ib, ↓L_il, ↓LB_nil, ↓LB_name, ↓LB_bind, ↓LB_cons, ↓LB_tup, ↓W_call, ↓W_callD, ↓W_aNil, ↓W_aCons, ↓W_aBor, ↓W_callB, ↓W_scr, ↓L_sort, ↓ifM_nT, ↓ifS_nT, ↓ifM_nL, ↓ifS_nL, ↓ifM_nI, ↓ifS_nI, ↓ifM_nS, ↓ifS_nS, ↓ifM_nB, ↓ifS_nB, ↓ifM_nN, ↓ifS_nN, ↓W_var0, ↓W_varo0, ↓W_vark0, ↓Set_0, ↓W_ixC0, ↓WS_app0, ↓App_0, ↓W_move0, ↓W_var1, ↓W_varo1, ↓W_vark1, ↓Set_1, ↓W_ixC1, ↓WS_app1, ↓App_1, ↓W_move1, ↓W_var2, ↓W_varo2, ↓W_vark2, ↓Set_2, ↓W_ixC2, ↓WS_app2, ↓App_2, ↓W_move2, ↓W_var3, ↓W_varo3, ↓W_vark3, ↓Set_3, ↓W_ixC3, ↓WS_app3, ↓App_3, ↓W_move3, ↓W_var4, ↓W_varo4, ↓W_vark4, ↓Set_4, ↓W_ixC4, ↓WS_app4, ↓App_4, ↓W_move4, ↓W_var5, ↓W_varo5, ↓W_vark5, ↓Set_5, ↓W_ixC5, ↓WS_app5, ↓App_5, ↓W_move5, ↓W_var6, ↓W_varo6, ↓W_vark6, ↓Set_6, ↓W_ixC6, ↓WS_app6, ↓App_6, ↓W_move6, ↓W_var7, ↓W_varo7, ↓W_vark7, ↓Set_7, ↓W_ixC7, ↓WS_app7, ↓App_7, ↓W_move7, ↓W_var8, ↓W_varo8, ↓W_vark8, ↓Set_8, ↓W_ixC8, ↓WS_app8, ↓App_8, ↓W_move8, ↓W_var9, ↓W_varo9, ↓W_vark9, ↓Set_9, ↓W_ixC9, ↓WS_app9, ↓App_9, ↓W_move9, ↓W_var10, ↓W_varo10, ↓W_vark10, ↓Set_10, ↓W_ixC10, ↓WS_app10, ↓App_10, ↓W_move10, ↓W_var11, ↓W_varo11, ↓W_vark11, ↓Set_11, ↓W_ixC11, ↓WS_app11, ↓App_11, ↓W_move11, ↓W_var12, ↓W_varo12, ↓W_vark12, ↓Set_12, ↓W_ixC12, ↓WS_app12, ↓App_12, ↓W_move12, ↓W_var13, ↓W_varo13, ↓W_vark13, ↓Set_13, ↓W_ixC13, ↓WS_app13, ↓App_13, ↓W_move13, ↓W_var14, ↓W_varo14, ↓W_vark14, ↓Set_14, ↓W_ixC14, ↓WS_app14, ↓App_14, ↓W_move14, ↓W_var15, ↓W_varo15, ↓W_vark15, ↓Set_15, ↓W_ixC15, ↓WS_app15, ↓App_15, ↓W_move15, ↓L_at0, ↓L_at1, ↓L_at2, ↓L_at3, ↓L_at4, ↓L_at5, ↓L_at6, ↓L_at7, ↓L_at8, ↓Put_0, ↓Put_1, ↓Put_2, wipeS, List.set_cons_zero, List.set_cons_succ, List.length_map]
  generalize z % 26 = k at k0 k1
  refine ⟨by decide, by decide, rfl, draw rfl hD1 (by omega) fun z2 d2 y0 y1 hD2 => ?_⟩
  have q0 := Int.emod_nonneg z2 (show (3 : Int) ≠ 0 by decide)
  have q1 := Int.emod_lt_of_pos z2 (show (0 : Int) < 3 by decide)
  simp only [W_dnew, L_enT, ↓W_bind, ↓W_ret, ↓W_lift, ↓L_some, ↓L_map, ↓WS_eseq, ↓WS_seq, ↓WS_nil, ↓WS_pass, ↓WS_break, ↓WS_cont, ↓WS_never, ↓WS_set, ↓WS_ret, ↓WS_retN, ↓WS_drop, ↓WS_asg, ↓WS_if, ↓ifS_t, ↓ifS_f, ↓ifS_not, ↓ifS_dec, ↓ifM_t, ↓ifM_f, ↓ifM_not, ↓ifM_dec, ↓W_C, ↓W_2, ↓W_1, ↓W_A, ↓W_AL, ↓W_2L, ↓W_nilA, ↓W_consA, ↓W_B, ↓L_asB, ↓W_not, ↓W_tnot, ↓W_and, ↓W_or, ↓W_tand, ↓W_tor, ↓W_if, ↓W_chain, ↓L_bindB, ↓W_tup, ↓W_lst, ↓W_dat, ↓W_fz, ↓L_asD, ↓L_asO, ↓W_someI, ↓L_asI, ↓L_asI1, ↓W_noneI, ↓W_slL, ↓L_cut, ↓WS_for, ↓WS_while, ↓WS_put, ↓W_lc0, ↓W_itL, ↓L_asL, ↓W_itT, ↓L_asT, ↓W_itA, ↓W_itES, ↓L_add, ↓L_sub, ↓L_lt, ↓L_le, ↓L_gt, ↓L_ge, ↓L_neg, ↓L_mul, ↓L_mod, ↓L_div, ↓L_pow, ↓L_eqI, ↓L_neI, ↓L_eqL, ↓L_neL, ↓L_eqT, ↓L_neT, ↓L_eqS, ↓L_neS, ↓L_isN, ↓L_isNotN, ↓L_lenL, ↓L_lenT, ↓L_int, ↓L_intb, ↓L_max, ↓L_min, ↓L_cat, ↓L_ixL, ↓L_ixT, ↓L_rep, ↓L_r1, ↓L_r2, ↓L_en, ↓L_enS, ↓L_zip, ↓L_inL, ↓L_ninL, ↓L_isi, ↓L_ii, ↓L_ib, ↓L_il, ↓LB_nil, ↓LB_name, ↓LB_bind, ↓LB_cons, ↓LB_tup, ↓W_call, ↓W_callD, ↓W_aNil, ↓W_aCons, ↓W_aBor, ↓W_callB, ↓W_scr, ↓L_sort, ↓ifM_nT, ↓ifS_nT, ↓ifM_nL, ↓ifS_nL, ↓ifM_nI, ↓ifS_nI, ↓ifM_nS, ↓ifS_nS, ↓ifM_nB, ↓ifS_nB, ↓ifM_nN, ↓ifS_nN, ↓W_var0, ↓W_varo0, ↓W_vark0, ↓Set_0, ↓W_ixC0, ↓WS_app0, ↓App_0, ↓W_move0, ↓W_var1, ↓W_varo1, ↓W_vark1, ↓Set_1, ↓W_ixC1, ↓WS_app1, ↓App_1, ↓W_move1, ↓W_var2, ↓W_varo2, ↓W_vark2, ↓Set_2, ↓W_ixC2, ↓WS_app2, ↓App_2, ↓W_move2, ↓W_var3, ↓W_varo3, ↓W_vark3, ↓Set_3, ↓W_ixC3, ↓WS_app3, ↓App_3, ↓W_move3, ↓W_var4, ↓W_varo4, ↓W_vark4, ↓Set_4, ↓W_ixC4, ↓WS_app4, ↓App_4, ↓W_move4, ↓W_var5, ↓W_varo5, ↓W_vark5, ↓Set_5, ↓W_ixC5, ↓WS_app5, ↓App_5, ↓W_move5, ↓W_var6, ↓W_varo6, ↓W_vark6, ↓Set_6, ↓W_ixC6, ↓WS_app6, ↓App_6, ↓W_move6, ↓W_var7, ↓W_varo7, ↓W_vark7, ↓Set_7, ↓W_ixC7, ↓WS_app7, ↓App_7, ↓W_move7, ↓W_var8, ↓W_varo8, ↓W_vark8, ↓Set_8, ↓W_ixC8, ↓WS_app8, ↓App_8, ↓W_move8, ↓W_var9, ↓W_varo9, ↓W_vark9, ↓Set_9, ↓W_ixC9, ↓WS_app9, ↓App_9, ↓W_move9, ↓W_var10, ↓W_varo10, ↓W_vark10, ↓Set_10, ↓W_ixC10, ↓WS_app10, ↓App_10, ↓W_move10, ↓W_var11, ↓W_varo11, ↓W_vark11, ↓Set_11, ↓W_ixC11, ↓WS_app11, ↓App_11, ↓W_move11, ↓W_var12, ↓W_varo12, ↓W_vark12, ↓Set_12, ↓W_ixC12, ↓WS_app12, ↓App_12, ↓W_move12, ↓W_var13, ↓W_varo13, ↓W_vark13, ↓Set_13, ↓W_ixC13, ↓WS_app13, ↓App_13, ↓W_move13, ↓W_var14, ↓W_varo14, ↓W_vark14, ↓Set_14, ↓W_ixC14, ↓WS_app14, ↓App_14, ↓W_move14, ↓W_var15, ↓W_varo15, ↓W_vark15, ↓Set_15, ↓W_ixC15, ↓WS_app15, ↓App_15, ↓W_move15, ↓L_at0, ↓L_at1, ↓L_at2, ↓L_at3, ↓L_at4, ↓L_at5, ↓L_at6, ↓L_at7, ↓L_at8, ↓Put_0, ↓Put_1, ↓Put_2, wipeS, List.set_cons_zero, List.set_cons_succ, List.length_map]
  generalize z2 % 3 = kind at q0 q1
  refine ⟨by decide, ?_⟩
  have hz : (L2.cutS alS none (some ((k.toNat + 1 : Nat) : Int))).cps.toList = alS.cps.toList.take (k.toNat + 1) := cut_al ⟨k.toNat, by omega⟩
  rw [show ((k.toNat + 1 : Nat) : Int) = 1 + k by omega] at hz
  change (L2.cutS (Str.ofString "abcdefghijklmnopqrstuvwxyz") none (some (1 + k))).cps.toList = _ at hz
  generalize L2.cutS (Str.ofString "abcdefghijklmnopqrstuvwxyz") none (some (1 + k)) = Z at hz
  have hl : Z.cps.toList.length = k.toNat + 1 := by
    rw [hz, List.length_take]
    have : alS.cps.toList.length = 26 := by decide
    omega
  have hlS : Z.length = k.toNat + 1 := by rw [← hl]; exact (Array.length_toList).symm
  have hsub : ∀ c ∈ Z.cps.toList.map sg, c ∈ al := fun c hc => by
    rw [hz, List.map_take] at hc
    exact List.mem_of_mem_take hc
  have hnd : (Z.cps.toList.map sg).Nodup := by
    rw [hz, List.map_take]
    exact al_nd.sublist (List.take_sublist _ _)
  have hsg : signsD Z = (Z.cps.toList.map sg).map PyData.str := by
    unfold signsD
    rw [List.map_map]
    rfl
  rw [hsg]
  generalize hLS : Z.cps.toList.map sg = LS at hsub hnd
  have hlen : LS.length = k.toNat + 1 := by rw [← hLS, List.length_map, hl]
  have no : ∀ {i : Nat} {c : Str}, LS[i]? = some c → c ∉ LS.take i := fun {i c} h m => by
    have h2 : (LS.take i ++ LS.drop i).Nodup := by rw [List.take_append_drop]; exact hnd
    rw [List.nodup_append] at h2
    refine h2.2.2 c m c ?_ rfl
    have : LS.drop i = c :: LS.drop (i + 1) := by
      have hi := (List.getElem?_eq_some_iff.mp h).1
      rw [List.drop_eq_getElem_cons hi]
      rw [List.getElem?_eq_getElem hi] at h
      rw [Option.some.inj h]
    rw [this]
    exact List.mem_cons_self
  refine WS_forGo (i0 := 0) (fun i s => ∃ ds' v x4 x5 x6 x7, s = [.own (some 0) ds', .dat (.str Z), .dat (.int kind), .odk none (tD (LS.take i) v), x4, x5, x6, x7] ∧ (∀ c ∈ LS.take i, v c ∈ LS) ∧ DS ds' (n + 2 + i)) ⟨d2, id, _, _, _, _, rfl, (fun c m => nomatch m), hD2.mono (by omega)⟩ (fun i d hd s hs => ?_) fun s hs => ?_
  · obtain ⟨ds', v, x4, x5, x6, x7, rfl, hv, hDi⟩ := hs
    obtain ⟨x, hx, rfl⟩ := enum_getD hd
    rw [List.getElem?_map] at hx
    cases hc : LS[i]? with
    | none => rw [hc] at hx; cases hx
    | some c =>
      rw [hc] at hx
      cases hx
      have hi := (List.getElem?_eq_some_iff.mp hc).1
      rw [Nat.zero_add] at hv hDi
      rw [Nat.zero_add]
      simp only [L_lenS, hlS, ↓W_bind, ↓W_ret, ↓W_lift, ↓L_some, ↓L_map, ↓WS_eseq, ↓WS_seq, ↓WS_nil, ↓WS_pass, ↓WS_break, ↓WS_cont, ↓WS_never, ↓WS_set, ↓WS_ret, ↓WS_retN, ↓WS_drop, ↓WS_asg, ↓WS_if, ↓ifS_t, ↓ifS_f, ↓ifS_not, ↓ifS_dec, ↓ifM_t, ↓ifM_f, ↓ifM_not, ↓ifM_dec, ↓W_C, ↓W_2, ↓W_1, ↓W_A, ↓W_AL, ↓W_2L, ↓W_nilA, ↓W_consA, ↓W_B, ↓L_asB, ↓W_not, ↓W_tnot, ↓W_and, ↓W_or, ↓W_tand, ↓W_tor, ↓W_if, ↓W_chain, ↓L_bindB, ↓W_tup, ↓W_lst, ↓W_dat, ↓W_fz, ↓L_asD, ↓L_asO, ↓W_someI, ↓L_asI, ↓L_asI1, ↓W_noneI, ↓W_slL, ↓L_cut, ↓WS_for, ↓WS_while, ↓WS_put, ↓W_lc0, ↓W_itL, ↓L_asL, ↓W_itT, ↓L_asT, ↓W_itA, ↓W_itES, ↓L_add, ↓L_sub, ↓L_lt, ↓L_le, ↓L_gt, ↓L_ge, ↓L_neg, ↓L_mul, ↓L_mod, ↓L_div, ↓L_pow, ↓L_eqI, ↓L_neI, ↓L_eqL, ↓L_neL, ↓L_eqT, ↓L_neT, ↓L_eqS, ↓L_neS, ↓L_isN, ↓L_isNotN, ↓L_lenL, ↓L_lenT, ↓L_int, ↓L_intb, ↓L_max, ↓L_min, ↓L_cat, ↓L_ixL, ↓L_ixT, ↓L_rep, ↓L_r1, ↓L_r2, ↓L_en, ↓L_enS, ↓L_zip, ↓L_inL, ↓L_ninL, ↓L_isi, ↓L_ii, ↓L_ib, ↓L_il, ↓LB_nil, ↓LB_name, ↓LB_bind, ↓LB_cons, ↓LB_tup, ↓W_call, ↓W_callD, ↓W_aNil, ↓W_aCons, ↓W_aBor, ↓W_callB, ↓W_scr, ↓L_sort, ↓ifM_nT, ↓ifS_nT, ↓ifM_nL, ↓ifS_nL, ↓ifM_nI, ↓ifS_nI, ↓ifM_nS, ↓ifS_nS, ↓ifM_nB, ↓ifS_nB, ↓ifM_nN, ↓ifS_nN, ↓W_var0, ↓W_varo0, ↓W_vark0, ↓Set_0, ↓W_ixC0, ↓WS_app0, ↓App_0, ↓W_move0, ↓W_var1, ↓W_varo1, ↓W_vark1, ↓Set_1, ↓W_ixC1, ↓WS_app1, ↓App_1, ↓W_move1, ↓W_var2, ↓W_varo2, ↓W_vark2, ↓Set_2, ↓W_ixC2, ↓WS_app2, ↓App_2, ↓W_move2, ↓W_var3, ↓W_varo3, ↓W_vark3, ↓Set_3, ↓W_ixC3, ↓WS_app3, ↓App_3, ↓W_move3, ↓W_var4, ↓W_varo4, ↓W_vark4, ↓Set_4, ↓W_ixC4, ↓WS_app4, ↓App_4, ↓W_move4, ↓W_var5, ↓W_varo5, ↓W_vark5, ↓Set_5, ↓W_ixC5, ↓WS_app5, ↓App_5, ↓W_move5, ↓W_var6, ↓W_varo6, ↓W_vark6, ↓Set_6, ↓W_ixC6, ↓WS_app6, ↓App_6, ↓W_move6, ↓W_var7, ↓W_varo7, ↓W_vark7, ↓Set_7, ↓W_ixC7, ↓WS_app7, ↓App_7, ↓W_move7, ↓W_var8, ↓W_varo8, ↓W_vark8, ↓Set_8, ↓W_ixC8, ↓WS_app8, ↓App_8, ↓W_move8, ↓W_var9, ↓W_varo9, ↓W_vark9, ↓Set_9, ↓W_ixC9, ↓WS_app9, ↓App_9, ↓W_move9, ↓W_var10, ↓W_varo10, ↓W_vark10, ↓Set_10, ↓W_ixC10, ↓WS_app10, ↓App_10, ↓W_move10, ↓W_var11, ↓W_varo11, ↓W_vark11, ↓Set_11, ↓W_ixC11, ↓WS_app11, ↓App_11, ↓W_move11, ↓W_var12, ↓W_varo12, ↓W_vark12, ↓Set_12, ↓W_ixC12, ↓WS_app12, ↓App_12, ↓W_move12, ↓W_var13, ↓W_varo13, ↓W_vark13, ↓Set_13, ↓W_ixC13, ↓WS_app13, ↓App_13, ↓W_move13, ↓W_var14, ↓W_varo14, ↓W_vark14, ↓Set_14, ↓W_ixC14, ↓WS_app14, ↓App_14, ↓W_move14, ↓W_var15, ↓W_varo15, ↓W_vark15, ↓Set_15, ↓W_ixC15, ↓WS_app15, ↓App_15, ↓W_move15, ↓L_at0, ↓L_at1, ↓L_at2, ↓L_at3, ↓L_at4, ↓L_at5, ↓L_at6, ↓L_at7, ↓L_at8, ↓Put_0, ↓Put_1, ↓Put_2, wipeS, List.set_cons_zero, List.set_cons_succ, List.length_map]
      refine ⟨by simp, rfl, draw rfl hDi (by omega) fun z3 d3 w0 w1 hD3 => ?_⟩
      have p0 := Int.emod_nonneg z3 (show ((k.toNat + 1 : Nat) : Int) ≠ 0 by omega)
      have p1 := Int.emod_lt_of_pos z3 (show (0 : Int) < ((k.toNat + 1 : Nat) : Int) by omega)
      have p2 := Int.emod_nonneg ((i : Int) + 1) (show ((k.toNat + 1 : Nat) : Int) ≠ 0 by omega)
      have p3 := Int.emod_lt_of_pos ((i : Int) + 1) (show (0 : Int) < ((k.toNat + 1 : Nat) : Int) by omega)
      simp only [L_lenS, hlS, ↓W_bind, ↓W_ret, ↓W_lift, ↓L_some, ↓L_map, ↓WS_eseq, ↓WS_seq, ↓WS_nil, ↓WS_pass, ↓WS_break, ↓WS_cont, ↓WS_never, ↓WS_set, ↓WS_ret, ↓WS_retN, ↓WS_drop, ↓WS_asg, ↓WS_if, ↓ifS_t, ↓ifS_f, ↓ifS_not, ↓ifS_dec, ↓ifM_t, ↓ifM_f, ↓ifM_not, ↓ifM_dec, ↓W_C, ↓W_2, ↓W_1, ↓W_A, ↓W_AL, ↓W_2L, ↓W_nilA, ↓W_consA, ↓W_B, ↓L_asB, ↓W_not, ↓W_tnot, ↓W_and, ↓W_or, ↓W_tand, ↓W_tor, ↓W_if, ↓W_chain, ↓L_bindB, ↓W_tup, ↓W_lst, ↓W_dat, ↓W_fz, ↓L_asD, ↓L_asO, ↓W_someI, ↓L_asI, ↓L_asI1, ↓W_noneI, ↓W_slL, ↓L_cut, ↓WS_for, ↓WS_while, ↓WS_put, ↓W_lc0, ↓W_itL, ↓L_asL, ↓W_itT, ↓L_asT, ↓W_itA, ↓W_itES, ↓L_add, ↓L_sub, ↓L_lt, ↓L_le, ↓L_gt, ↓L_ge, ↓L_neg, ↓L_mul, ↓L_mod, ↓L_div, ↓L_pow, ↓L_eqI, ↓L_neI, ↓L_eqL, ↓L_neL, ↓L_eqT, ↓L_neT, ↓L_eqS, ↓L_neS, ↓L_isN, ↓L_isNotN, ↓L_lenL, ↓L_lenT, ↓L_int, ↓L_intb, ↓L_max, ↓L_min, ↓L_cat, ↓L_ixL, ↓L_ixT, ↓L_rep, ↓L_r1, ↓L_r2, ↓L_en, ↓L_enS, ↓L_zip, ↓L_inL, ↓L_ninL, ↓L_isi, ↓L_ii, ↓L_ib, ↓L_il, ↓LB_nil, ↓LB_name, ↓LB_bind, ↓LB_cons, ↓LB_tup, ↓W_call, ↓W_callD, ↓W_aNil, ↓W_aCons, ↓W_aBor, ↓W_callB, ↓W_scr, ↓L_sort, ↓ifM_nT, ↓ifS_nT, ↓ifM_nL, ↓ifS_nL, ↓ifM_nI, ↓ifS_nI, ↓ifM_nS, ↓ifS_nS, ↓ifM_nB, ↓ifS_nB, ↓ifM_nN, ↓ifS_nN, ↓W_var0, ↓W_varo0, ↓W_vark0, ↓Set_0, ↓W_ixC0, ↓WS_app0, ↓App_0, ↓W_move0, ↓W_var1, ↓W_varo1, ↓W_vark1, ↓Set_1, ↓W_ixC1, ↓WS_app1, ↓App_1, ↓W_move1, ↓W_var2, ↓W_varo2, ↓W_vark2, ↓Set_2, ↓W_ixC2, ↓WS_app2, ↓App_2, ↓W_move2, ↓W_var3, ↓W_varo3, ↓W_vark3, ↓Set_3, ↓W_ixC3, ↓WS_app3, ↓App_3, ↓W_move3, ↓W_var4, ↓W_varo4, ↓W_vark4, ↓Set_4, ↓W_ixC4, ↓WS_app4, ↓App_4, ↓W_move4, ↓W_var5, ↓W_varo5, ↓W_vark5, ↓Set_5, ↓W_ixC5, ↓WS_app5, ↓App_5, ↓W_move5, ↓W_var6, ↓W_varo6, ↓W_vark6, ↓Set_6, ↓W_ixC6, ↓WS_app6, ↓App_6, ↓W_move6, ↓W_var7, ↓W_varo7, ↓W_vark7, ↓Set_7, ↓W_ixC7, ↓WS_app7, ↓App_7, ↓W_move7, ↓W_var8, ↓W_varo8, ↓W_vark8, ↓Set_8, ↓W_ixC8, ↓WS_app8, ↓App_8, ↓W_move8, ↓W_var9, ↓W_varo9, ↓W_vark9, ↓Set_9, ↓W_ixC9, ↓WS_app9, ↓App_9, ↓W_move9, ↓W_var10, ↓W_varo10, ↓W_vark10, ↓Set_10, ↓W_ixC10, ↓WS_app10, ↓App_10, ↓W_move10, ↓W_var11, ↓W_varo11, ↓W_vark11, ↓Set_11, ↓W_ixC11, ↓WS_app11, ↓App_11, ↓W_move11, ↓W_var12, ↓W_varo12, ↓W_vark12, ↓Set_12, ↓W_ixC12, ↓WS_app12, ↓App_12, ↓W_move12, ↓W_var13, ↓W_varo13, ↓W_vark13, ↓Set_13, ↓W_ixC13, ↓WS_app13, ↓App_13, ↓W_move13, ↓W_var14, ↓W_varo14, ↓W_vark14, ↓Set_14, ↓W_ixC14, ↓WS_app14, ↓App_14, ↓W_move14, ↓W_var15, ↓W_varo15, ↓W_vark15, ↓Set_15, ↓W_ixC15, ↓WS_app15, ↓App_15, ↓W_move15, ↓L_at0, ↓L_at1, ↓L_at2, ↓L_at3, ↓L_at4, ↓L_at5, ↓L_at6, ↓L_at7, ↓L_at8, ↓Put_0, ↓Put_1, ↓Put_2, wipeS, List.set_cons_zero, List.set_cons_succ, List.length_map]
      refine ⟨by omega, by omega, L_ixS (by omega) p0 (by omega) fun u1 hu1 => ?_⟩
      rw [hLS] at hu1
      simp only [L_lenS, hlS, ↓W_bind, ↓W_ret, ↓W_lift, ↓L_some, ↓L_map, ↓WS_eseq, ↓WS_seq, ↓WS_nil, ↓WS_pass, ↓WS_break, ↓WS_cont, ↓WS_never, ↓WS_set, ↓WS_ret, ↓WS_retN, ↓WS_drop, ↓WS_asg, ↓WS_if, ↓ifS_t, ↓ifS_f, ↓ifS_not, ↓ifS_dec, ↓ifM_t, ↓ifM_f, ↓ifM_not, ↓ifM_dec, ↓W_C, ↓W_2, ↓W_1, ↓W_A, ↓W_AL, ↓W_2L, ↓W_nilA, ↓W_consA, ↓W_B, ↓L_asB, ↓W_not, ↓W_tnot, ↓W_and, ↓W_or, ↓W_tand, ↓W_tor, ↓W_if, ↓W_chain, ↓L_bindB, ↓W_tup, ↓W_lst, ↓W_dat, ↓W_fz, ↓L_asD, ↓L_asO, ↓W_someI, ↓L_asI, ↓L_asI1, ↓W_noneI, ↓W_slL, ↓L_cut, ↓WS_for, ↓WS_while, ↓WS_put, ↓W_lc0, ↓W_itL, ↓L_asL, ↓W_itT, ↓L_asT, ↓W_itA, ↓W_itES, ↓L_add, ↓L_sub, ↓L_lt, ↓L_le, ↓L_gt, ↓L_ge, ↓L_neg, ↓L_mul, ↓L_mod, ↓L_div, ↓L_pow, ↓L_eqI, ↓L_neI, ↓L_eqL, ↓L_neL, ↓L_eqT, ↓L_neT, ↓L_eqS, ↓L_neS, ↓L_isN, ↓L_isNotN, ↓L_lenL, ↓L_lenT, ↓L_int, ↓L_intb, ↓L_max, ↓L_min, ↓L_cat, ↓L_ixL, ↓L_ixT, ↓L_rep, ↓L_r1, ↓L_r2, ↓L_en, ↓L_enS, ↓L_zip, ↓L_inL, ↓L_ninL, ↓L_isi, ↓L_ii, ↓L_ib, ↓L_il, ↓LB_nil, ↓LB_name, ↓LB_bind, ↓LB_cons, ↓LB_tup, ↓W_call, ↓W_callD, ↓W_aNil, ↓W_aCons, ↓W_aBor, ↓W_callB, ↓W_scr, ↓L_sort, ↓ifM_nT, ↓ifS_nT, ↓ifM_nL, ↓ifS_nL, ↓ifM_nI, ↓ifS_nI, ↓ifM_nS, ↓ifS_nS, ↓ifM_nB, ↓ifS_nB, ↓ifM_nN, ↓ifS_nN, ↓W_var0, ↓W_varo0, ↓W_vark0, ↓Set_0, ↓W_ixC0, ↓WS_app0, ↓App_0, ↓W_move0, ↓W_var1, ↓W_varo1, ↓W_vark1, ↓Set_1, ↓W_ixC1, ↓WS_app1, ↓App_1, ↓W_move1, ↓W_var2, ↓W_varo2, ↓W_vark2, ↓Set_2, ↓W_ixC2, ↓WS_app2, ↓App_2, ↓W_move2, ↓W_var3, ↓W_varo3, ↓W_vark3, ↓Set_3, ↓W_ixC3, ↓WS_app3, ↓App_3, ↓W_move3, ↓W_var4, ↓W_varo4, ↓W_vark4, ↓Set_4, ↓W_ixC4, ↓WS_app4, ↓App_4, ↓W_move4, ↓W_var5, ↓W_varo5, ↓W_vark5, ↓Set_5, ↓W_ixC5, ↓WS_app5, ↓App_5, ↓W_move5, ↓W_var6, ↓W_varo6, ↓W_vark6, ↓Set_6, ↓W_ixC6, ↓WS_app6, ↓App_6, ↓W_move6, ↓W_var7, ↓W_varo7, ↓W_vark7, ↓Set_7, ↓W_ixC7, ↓WS_app7, ↓App_7, ↓W_move7, ↓W_var8, ↓W_varo8, ↓W_vark8, ↓Set_8, ↓W_ixC8, ↓WS_app8, ↓App_8, ↓W_move8, ↓W_var9, ↓W_varo9, ↓W_vark9, ↓Set_9, ↓W_ixC9, ↓WS_app9, ↓App_9, ↓W_move9, ↓W_var10, ↓W_varo10, ↓W_vark10, ↓Set_10, ↓W_ixC10, ↓WS_app10, ↓App_10, ↓W_move10, ↓W_var11, ↓W_varo11, ↓W_vark11, ↓Set_11, ↓W_ixC11, ↓WS_app11, ↓App_11, ↓W_move11, ↓W_var12, ↓W_varo12, ↓W_vark12, ↓Set_12, ↓W_ixC12, ↓WS_app12, ↓App_12, ↓W_move12, ↓W_var13, ↓W_varo13, ↓W_vark13, ↓Set_13, ↓W_ixC13, ↓WS_app13, ↓App_13, ↓W_move13, ↓W_var14, ↓W_varo14, ↓W_vark14, ↓Set_14, ↓W_ixC14, ↓WS_app14, ↓App_14, ↓W_move14, ↓W_var15, ↓W_varo15, ↓W_vark15, ↓Set_15, ↓W_ixC15, ↓WS_app15, ↓App_15, ↓W_move15, ↓L_at0, ↓L_at1, ↓L_at2, ↓L_at3, ↓L_at4, ↓L_at5, ↓L_at6, ↓L_at7, ↓L_at8, ↓Put_0, ↓Put_1, ↓Put_2, wipeS, List.set_cons_zero, List.set_cons_succ, List.length_map]
      refine ⟨by omega, by omega, L_ixS (by omega) p2 (by omega) fun u2 hu2 => ?_⟩
      rw [hLS] at hu2
      try simp only [↓W_bind, ↓W_ret, ↓W_lift, ↓L_some, ↓L_map, ↓WS_eseq, ↓WS_seq, ↓WS_nil, ↓WS_pass, ↓WS_break, ↓WS_cont, ↓WS_never, ↓WS_set, ↓WS_ret, ↓WS_retN, ↓WS_drop, ↓WS_asg, ↓WS_if, ↓ifS_t, ↓ifS_f, ↓ifS_not, ↓ifS_dec, ↓ifM_t, ↓ifM_f, ↓ifM_not, ↓ifM_dec, ↓W_C, ↓W_2, ↓W_1, ↓W_A, ↓W_AL, ↓W_2L, ↓W_nilA, ↓W_consA, ↓W_B, ↓L_asB, ↓W_not, ↓W_tnot, ↓W_and, ↓W_or, ↓W_tand, ↓W_tor, ↓W_if, ↓W_chain, ↓L_bindB, ↓W_tup, ↓W_lst, ↓W_dat, ↓W_fz, ↓L_asD, ↓L_asO, ↓W_someI, ↓L_asI, ↓L_asI1, ↓W_noneI, ↓W_slL, ↓L_cut, ↓WS_for, ↓WS_while, ↓WS_put, ↓W_lc0, ↓W_itL, ↓L_asL, ↓W_itT, ↓L_asT, ↓W_itA, ↓W_itES, ↓L_add, ↓L_sub, ↓L_lt, ↓L_le, ↓L_gt, ↓L_ge, ↓L_neg, ↓L_mul, ↓L_mod, ↓L_div, ↓L_pow, ↓L_eqI, ↓L_neI, ↓L_eqL, ↓L_neL, ↓L_eqT, ↓L_neT, ↓L_eqS, ↓L_neS, ↓L_isN, ↓L_isNotN, ↓L_lenL, ↓L_lenT, ↓L_int, ↓L_intb, ↓L_max, ↓L_min, ↓L_cat, ↓L_ixL, ↓L_ixT, ↓L_rep, ↓L_r1, ↓L_r2, ↓L_en, ↓L_enS, ↓L_zip, ↓L_inL, ↓L_ninL, ↓L_isi, ↓L_ii, ↓L_ib, ↓L_il, ↓LB_nil, ↓LB_name, ↓LB_bind, ↓LB_cons, ↓LB_tup, ↓W_call, ↓W_callD, ↓W_aNil, ↓W_aCons, ↓W_aBor, ↓W_callB, ↓W_scr, ↓L_sort, ↓ifM_nT, ↓ifS_nT, ↓ifM_nL, ↓ifS_nL, ↓ifM_nI, ↓ifS_nI, ↓ifM_nS, ↓ifS_nS, ↓ifM_nB, ↓ifS_nB, ↓ifM_nN, ↓ifS_nN, ↓W_var0, ↓W_varo0, ↓W_vark0, ↓Set_0, ↓W_ixC0, ↓WS_app0, ↓App_0, ↓W_move0, ↓W_var1, ↓W_varo1, ↓W_vark1, ↓Set_1, ↓W_ixC1, ↓WS_app1, ↓App_1, ↓W_move1, ↓W_var2, ↓W_varo2, ↓W_vark2, ↓Set_2, ↓W_ixC2, ↓WS_app2, ↓App_2, ↓W_move2, ↓W_var3, ↓W_varo3, ↓W_vark3, ↓Set_3, ↓W_ixC3, ↓WS_app3, ↓App_3, ↓W_move3, ↓W_var4, ↓W_varo4, ↓W_vark4, ↓Set_4, ↓W_ixC4, ↓WS_app4, ↓App_4, ↓W_move4, ↓W_var5, ↓W_varo5, ↓W_vark5, ↓Set_5, ↓W_ixC5, ↓WS_app5, ↓App_5, ↓W_move5, ↓W_var6, ↓W_varo6, ↓W_vark6, ↓Set_6, ↓W_ixC6, ↓WS_app6, ↓App_6, ↓W_move6, ↓W_var7, ↓W_varo7, ↓W_vark7, ↓Set_7, ↓W_ixC7, ↓WS_app7, ↓App_7, ↓W_move7, ↓W_var8, ↓W_varo8, ↓W_vark8, ↓Set_8, ↓W_ixC8, ↓WS_app8, ↓App_8, ↓W_move8, ↓W_var9, ↓W_varo9, ↓W_vark9, ↓Set_9, ↓W_ixC9, ↓WS_app9, ↓App_9, ↓W_move9, ↓W_var10, ↓W_varo10, ↓W_vark10, ↓Set_10, ↓W_ixC10, ↓WS_app10, ↓App_10, ↓W_move10, ↓W_var11, ↓W_varo11, ↓W_vark11, ↓Set_11, ↓W_ixC11, ↓WS_app11, ↓App_11, ↓W_move11, ↓W_var12, ↓W_varo12, ↓W_vark12, ↓Set_12, ↓W_ixC12, ↓WS_app12, ↓App_12, ↓W_move12, ↓W_var13, ↓W_varo13, ↓W_vark13, ↓Set_13, ↓W_ixC13, ↓WS_app13, ↓App_13, ↓W_move13, ↓W_var14, ↓W_varo14, ↓W_vark14, ↓Set_14, ↓W_ixC14, ↓WS_app14, ↓App_14, ↓W_move14, ↓W_var15, ↓W_varo15, ↓W_vark15, ↓Set_15, ↓W_ixC15, ↓WS_app15, ↓App_15, ↓W_move15, ↓L_at0, ↓L_at1, ↓L_at2, ↓L_at3, ↓L_at4, ↓L_at5, ↓L_at6, ↓L_at7, ↓L_at8, ↓Put_0, ↓Put_1, ↓Put_2, wipeS, List.set_cons_zero, List.set_cons_succ, List.length_map]
      refine ⟨by simp, WS_dput3 ?_⟩
      try simp only [↓W_bind, ↓W_ret, ↓W_lift, ↓L_some, ↓L_map, ↓WS_eseq, ↓WS_seq, ↓WS_nil, ↓WS_pass, ↓WS_break, ↓WS_cont, ↓WS_never, ↓WS_set, ↓WS_ret, ↓WS_retN, ↓WS_drop, ↓WS_asg, ↓WS_if, ↓ifS_t, ↓ifS_f, ↓ifS_not, ↓ifS_dec, ↓ifM_t, ↓ifM_f, ↓ifM_not, ↓ifM_dec, ↓W_C, ↓W_2, ↓W_1, ↓W_A, ↓W_AL, ↓W_2L, ↓W_nilA, ↓W_consA, ↓W_B, ↓L_asB, ↓W_not, ↓W_tnot, ↓W_and, ↓W_or, ↓W_tand, ↓W_tor, ↓W_if, ↓W_chain, ↓L_bindB, ↓W_tup, ↓W_lst, ↓W_dat, ↓W_fz, ↓L_asD, ↓L_asO, ↓W_someI, ↓L_asI, ↓L_asI1, ↓W_noneI, ↓W_slL, ↓L_cut, ↓WS_for, ↓WS_while, ↓WS_put, ↓W_lc0, ↓W_itL, ↓L_asL, ↓W_itT, ↓L_asT, ↓W_itA, ↓W_itES, ↓L_add, ↓L_sub, ↓L_lt, ↓L_le, ↓L_gt, ↓L_ge, ↓L_neg, ↓L_mul, ↓L_mod, ↓L_div, ↓L_pow, ↓L_eqI, ↓L_neI, ↓L_eqL, ↓L_neL, ↓L_eqT, ↓L_neT, ↓L_eqS, ↓L_neS, ↓L_isN, ↓L_isNotN, ↓L_lenL, ↓L_lenT, ↓L_int, ↓L_intb, ↓L_max, ↓L_min, ↓L_cat, ↓L_ixL, ↓L_ixT, ↓L_rep, ↓L_r1, ↓L_r2, ↓L_en, ↓L_enS, ↓L_zip, ↓L_inL, ↓L_ninL, ↓L_isi, ↓L_ii, ↓L_ib, ↓L_il, ↓LB_nil, ↓LB_name, ↓LB_bind, ↓LB_cons, ↓LB_tup, ↓W_call, ↓W_callD, ↓W_aNil, ↓W_aCons, ↓W_aBor, ↓W_callB, ↓W_scr, ↓L_sort, ↓ifM_nT, ↓ifS_nT, ↓ifM_nL, ↓ifS_nL, ↓ifM_nI, ↓ifS_nI, ↓ifM_nS, ↓ifS_nS, ↓ifM_nB, ↓ifS_nB, ↓ifM_nN, ↓ifS_nN, ↓W_var0, ↓W_varo0, ↓W_vark0, ↓Set_0, ↓W_ixC0, ↓WS_app0, ↓App_0, ↓W_move0, ↓W_var1, ↓W_varo1, ↓W_vark1, ↓Set_1, ↓W_ixC1, ↓WS_app1, ↓App_1, ↓W_move1, ↓W_var2, ↓W_varo2, ↓W_vark2, ↓Set_2, ↓W_ixC2, ↓WS_app2, ↓App_2, ↓W_move2, ↓W_var3, ↓W_varo3, ↓W_vark3, ↓Set_3, ↓W_ixC3, ↓WS_app3, ↓App_3, ↓W_move3, ↓W_var4, ↓W_varo4, ↓W_vark4, ↓Set_4, ↓W_ixC4, ↓WS_app4, ↓App_4, ↓W_move4, ↓W_var5, ↓W_varo5, ↓W_vark5, ↓Set_5, ↓W_ixC5, ↓WS_app5, ↓App_5, ↓W_move5, ↓W_var6, ↓W_varo6, ↓W_vark6, ↓Set_6, ↓W_ixC6, ↓WS_app6, ↓App_6, ↓W_move6, ↓W_var7, ↓W_varo7, ↓W_vark7, ↓Set_7, ↓W_ixC7, ↓WS_app7, ↓App_7, ↓W_move7, ↓W_var8, ↓W_varo8, ↓W_vark8, ↓Set_8, ↓W_ixC8, ↓WS_app8, ↓App_8, ↓W_move8, ↓W_var9, ↓W_varo9, ↓W_vark9, ↓Set_9, ↓W_ixC9, ↓WS_app9, ↓App_9, ↓W_move9, ↓W_var10, ↓W_varo10, ↓W_vark10, ↓Set_10, ↓W_ixC10, ↓WS_app10, ↓App_10, ↓W_move10, ↓W_var11, ↓W_varo11, ↓W_vark11, ↓Set_11, ↓W_ixC11, ↓WS_app11, ↓App_11, ↓W_move11, ↓W_var12, ↓W_varo12, ↓W_vark12, ↓Set_12, ↓W_ixC12, ↓WS_app12, ↓App_12, ↓W_move12, ↓W_var13, ↓W_varo13, ↓W_vark13, ↓Set_13, ↓W_ixC13, ↓WS_app13, ↓App_13, ↓W_move13, ↓W_var14, ↓W_varo14, ↓W_vark14, ↓Set_14, ↓W_ixC14, ↓WS_app14, ↓App_14, ↓W_move14, ↓W_var15, ↓W_varo15, ↓W_vark15, ↓Set_15, ↓W_ixC15, ↓WS_app15, ↓App_15, ↓W_move15, ↓L_at0, ↓L_at1, ↓L_at2, ↓L_at3, ↓L_at4, ↓L_at5, ↓L_at6, ↓L_at7, ↓L_at8, ↓Put_0, ↓Put_1, ↓Put_2, wipeS, List.set_cons_zero, List.set_cons_succ, List.length_map]
      have cm : c ∈ LS := List.mem_of_getElem? hc
      have fin_ : ∀ w ∈ LS, ∃ ds' v', (tD (LS.take i) v ++ [(.str c, .str w)] : List (PyData × PyData)) = tD (LS.take (i + 1)) v' ∧ (∀ c ∈ LS.take (i + 1), v' c ∈ LS) ∧ ds' = d3 := fun w hw => by
        refine ⟨d3, fun b => if b = c then w else v b, ?_, fun b hb => ?_, rfl⟩
        · rw [take_succ' hc]
          unfold tD
          rw [List.map_append, List.map_cons, List.map_nil]
          dsimp only
          rw [if_pos rfl]
          refine congrArg (fun l => l ++ [(PyData.str c, PyData.str w)]) (List.map_congr_left fun b hb => ?_)
          rw [if_neg fun e => no hc (by rw [← e]; exact hb)]
        · rw [take_succ' hc] at hb
          show (if b = c then w else v b) ∈ LS
          by_cases e : b = c
          · rw [if_pos e]
            exact hw
          · rw [if_neg e]
            rcases List.mem_append.mp hb with m | m
            · exact hv b m
            · exact absurd (List.mem_singleton.mp m) e
      have done : ∀ x ∈ [PyData.str u1, PyData.str u2, PyData.str c], ∃ w ∈ LS, x = .str w := fun x hx => by
        simp only [List.mem_cons, List.not_mem_nil, or_false] at hx
        rcases hx with rfl | rfl | rfl
        · exact ⟨u1, hu1, rfl⟩
        · exact ⟨u2, hu2, rfl⟩
        · exact ⟨c, cm, rfl⟩
      have hk : valD (tD (LS.take i) v) (.inr c) = none := tD_none (no hc)
      have hlt : (tD (LS.take i) v).length ≤ 1000000 := by
        rw [tD_len, List.length_take]
        omega
      refine ⟨by decide, fun _ => pickL q0 (show kind < ((3 : Nat) : Int) by omega) fun x hx => ?_, fun _ => ?_⟩
      · obtain ⟨w, hw, rfl⟩ := done x hx
        obtain ⟨ds'', v', e1, e2, e3⟩ := fin_ w hw
        refine ⟨_, _, _, _, _, _, _, .inr c, _, rfl, rfl, hlt, ?_⟩
        rw [putD_new hk, e1]
        exact ⟨d3, v', _, _, _, _, rfl, e2, hD3.mono (by omega)⟩
      · obtain ⟨ds'', v', e1, e2, e3⟩ := fin_ u1 hu1
        refine ⟨_, _, _, _, _, _, _, .inr c, _, rfl, rfl, hlt, ?_⟩
        rw [putD_new hk, e1]
        exact ⟨d3, v', _, _, _, _, rfl, e2, hD3.mono (by omega)⟩
  · obtain ⟨ds', v, x4, x5, x6, x7, rfl, hv, hDi⟩ := hs
    have hi : (enumD (LS.map PyData.str)).length = k.toNat + 1 := by
      unfold enumD
      rw [List.length_mapIdx, List.length_map, hlen]
    rw [hi, Nat.zero_add] at hv hDi ⊢
    rw [← hlen, List.take_length] at hv ⊢
    try simp only [↓W_bind, ↓W_ret, ↓W_lift, ↓L_some, ↓L_map, ↓WS_eseq, ↓WS_seq, ↓WS_nil, ↓WS_pass, ↓WS_break, ↓WS_cont, ↓WS_never, ↓WS_set, ↓WS_ret, ↓WS_retN, ↓WS_drop, ↓WS_asg, ↓WS_if, ↓ifS_t, ↓ifS_f, ↓ifS_not, ↓ifS_dec, ↓ifM_t, ↓ifM_f, ↓ifM_not, ↓ifM_dec, ↓W_C, ↓W_2, ↓W_1, ↓W_A, ↓W_AL, ↓W_2L, ↓W_nilA, ↓W_consA, ↓W_B, ↓L_asB, ↓W_not, ↓W_tnot, ↓W_and, ↓W_or, ↓W_tand, ↓W_tor, ↓W_if, ↓W_chain, ↓L_bindB, ↓W_tup, ↓W_lst, ↓W_dat, ↓W_fz, ↓L_asD, ↓L_asO, ↓W_someI, ↓L_asI, ↓L_asI1, ↓W_noneI, ↓W_slL, ↓L_cut, ↓WS_for, ↓WS_while, ↓WS_put, ↓W_lc0, ↓W_itL, ↓L_asL, ↓W_itT, ↓L_asT, ↓W_itA, ↓W_itES, ↓L_add, ↓L_sub, ↓L_lt, ↓L_le, ↓L_gt, ↓L_ge, ↓L_neg, ↓L_mul, ↓L_mod, ↓L_div, ↓L_pow, ↓L_eqI, ↓L_neI, ↓L_eqL, ↓L_neL, ↓L_eqT, ↓L_neT, ↓L_eqS, ↓L_neS, ↓L_isN, ↓L_isNotN, ↓L_lenL, ↓L_lenT, ↓L_int, ↓L_intb, ↓L_max, ↓L_min, ↓L_cat, ↓L_ixL, ↓L_ixT, ↓L_rep, ↓L_r1, ↓L_r2, ↓L_en, ↓L_enS, ↓L_zip, ↓L_inL, ↓L_ninL, ↓L_isi, ↓L_ii, ↓L_ib, ↓L_il, ↓LB_nil, ↓LB_name, ↓LB_bind, ↓LB_cons, ↓LB_tup, ↓W_call, ↓W_callD, ↓W_aNil, ↓W_aCons, ↓W_aBor, ↓W_callB, ↓W_scr, ↓L_sort, ↓ifM_nT, ↓ifS_nT, ↓ifM_nL, ↓ifS_nL, ↓ifM_nI, ↓ifS_nI, ↓ifM_nS, ↓ifS_nS, ↓ifM_nB, ↓ifS_nB, ↓ifM_nN, ↓ifS_nN, ↓W_var0, ↓W_varo0, ↓W_vark0, ↓Set_0, ↓W_ixC0, ↓WS_app0, ↓App_0, ↓W_move0, ↓W_var1, ↓W_varo1, ↓W_vark1, ↓Set_1, ↓W_ixC1, ↓WS_app1, ↓App_1, ↓W_move1, ↓W_var2, ↓W_varo2, ↓W_vark2, ↓Set_2, ↓W_ixC2, ↓WS_app2, ↓App_2, ↓W_move2, ↓W_var3, ↓W_varo3, ↓W_vark3, ↓Set_3, ↓W_ixC3, ↓WS_app3, ↓App_3, ↓W_move3, ↓W_var4, ↓W_varo4, ↓W_vark4, ↓Set_4, ↓W_ixC4, ↓WS_app4, ↓App_4, ↓W_move4, ↓W_var5, ↓W_varo5, ↓W_vark5, ↓Set_5, ↓W_ixC5, ↓WS_app5, ↓App_5, ↓W_move5, ↓W_var6, ↓W_varo6, ↓W_vark6, ↓Set_6, ↓W_ixC6, ↓WS_app6, ↓App_6, ↓W_move6, ↓W_var7, ↓W_varo7, ↓W_vark7, ↓Set_7, ↓W_ixC7, ↓WS_app7, ↓App_7, ↓W_move7, ↓W_var8, ↓W_varo8, ↓W_vark8, ↓Set_8, ↓W_ixC8, ↓WS_app8, ↓App_8, ↓W_move8, ↓W_var9, ↓W_varo9, ↓W_vark9, ↓Set_9, ↓W_ixC9, ↓WS_app9, ↓App_9, ↓W_move9, ↓W_var10, ↓W_varo10, ↓W_vark10, ↓Set_10, ↓W_ixC10, ↓WS_app10, ↓App_10, ↓W_move10, ↓W_var11, ↓W_varo11, ↓W_vark11, ↓Set_11, ↓W_ixC11, ↓WS_app11, ↓App_11, ↓W_move11, ↓W_var12, ↓W_varo12, ↓W_vark12, ↓Set_12, ↓W_ixC12, ↓WS_app12, ↓App_12, ↓W_move12, ↓W_var13, ↓W_varo13, ↓W_vark13, ↓Set_13, ↓W_ixC13, ↓WS_app13, ↓App_13, ↓W_move13, ↓W_var14, ↓W_varo14, ↓W_vark14, ↓Set_14, ↓W_ixC14, ↓WS_app14, ↓App_14, ↓W_move14, ↓W_var15, ↓W_varo15, ↓W_vark15, ↓Set_15, ↓W_ixC15, ↓WS_app15, ↓App_15, ↓W_move15, ↓L_at0, ↓L_at1, ↓L_at2, ↓L_at3, ↓L_at4, ↓L_at5, ↓L_at6, ↓L_at7, ↓L_at8, ↓Put_0, ↓Put_1, ↓Put_2, wipeS, List.set_cons_zero, List.set_cons_succ, List.length_map]
    refine ⟨by simp, rfl, LS, v, ds', rfl, rfl, ⟨hnd, by omega, by omega, fun c hc => al_one c (hsub c hc), hv, fun c hc => al_ok c (hsub c hc)⟩, hsub, hDi.mono (by omega)⟩

theorem draw_table {ss : List SV} {P : SV → List SV → Prop} {i : Nat} {lb : Option Nat} {ds : List PyData} {n : Int} (hs : ss[i]? = some (.own lb ds)) (hD : DS ds n) (hn : n ≤ 100000000)
    (k : ∀ ls v ds', GT ls v → (∀ c ∈ ls, c ∈ al) → DS ds' (n + 30) → P (.dat (.dict (tD ls v))) (ss.set i (.own lb ds'))) : W (mCallBD 1 F_l_table 0 i [none] ss) P := by
  refine W_lent (k' := 0) hs rfl rfl ?_
  show W (F_l_table [.own (some 0) ds]) _
  refine W_mono (t_table hD hn) fun r s ⟨ls, v, ds', e1, e2, g, h, hD'⟩ => ?_
  subst e1
  subst e2
  exact ⟨ds', rfl, rfl, k ls v ds' g h hD'⟩
theorem t_drawn {ls : List Str} {v : Str → Str} (g : GT ls v) (h : ∀ c ∈ ls, c ∈ al) : Tl F_l_letters_right [.dat (.dict (tD ls v))] (.dat (.bool true)) :=
  t_lright g rfl (shown_tD (fun c hc => ⟨al_sm c (h c hc), al_sm _ (h _ (g.mem c hc))⟩) g.hi)
theorem t_colAt {ls : List Str} {v : Str → Str} (g : GT ls v) {t r : Nat} (C : Cyc (fun j => ls.map fun c => orb v c j) t (t + r)) : Tl F_cycle_of_letters [.dat (.dict (tD ls v))] (.dat (.tuple [.int (t : Nat), .int (r : Nat)])) := by
  obtain ⟨T, R, P, _, _, h⟩ := t_col g
  obtain ⟨e1, e2⟩ := P.cyc.uniq C
  have e3 : R = r := by omega
  subst e1
  subst e3
  exact h
/-! ### tables that are written -/
def kyT (ps : List (Str × Str)) : List Str := ps.map (·.1)
def vaT (ps : List (Str × Str)) (c : Str) : Str := (ps.lookup c).getD c
def okT (ps : List (Str × Str)) : Bool :=
  decide (kyT ps).Nodup && decide (1 ≤ (kyT ps).length ∧ (kyT ps).length ≤ 26) && (kyT ps).all (fun c => decide (c.length = 1) && decide (vaT ps c ∈ kyT ps) && PyData.strOk c) && (tD (kyT ps) (vaT ps)).all (fun p => flat4 p.2) && (PyData.dict (tD (kyT ps) (vaT ps))).showable && decide ((PyData.dict (tD (kyT ps) (vaT ps))).depth ≤ 100) && decide ((PyData.dict (tD (kyT ps) (vaT ps))).shown.length ≤ 1000)
theorem okT_g {ps : List (Str × Str)} (h : okT ps = true) : GT (kyT ps) (vaT ps) ∧ kReprD [.dict (tD (kyT ps) (vaT ps))] = some (.str (PyData.dict (tD (kyT ps) (vaT ps))).shown) := by
  unfold okT at h
  simp only [Bool.and_eq_true, decide_eq_true_eq, List.all_eq_true] at h
  obtain ⟨⟨⟨⟨⟨⟨h1, h2⟩, h3⟩, h4⟩, h5⟩, h6⟩, h7⟩ := h
  refine ⟨⟨h1, h2.1, h2.2, fun c hc => (h3 c hc).1.1, fun c hc => (h3 c hc).1.2, fun c hc => (h3 c hc).2⟩, ?_⟩
  have e1 : ((tD (kyT ps) (vaT ps)).all fun p => flat4 p.2) = true := List.all_eq_true.mpr h4
  show (if ((tD (kyT ps) (vaT ps)).all (fun p => flat4 p.2) && (PyData.dict (tD (kyT ps) (vaT ps))).showable && decide ((PyData.dict (tD (kyT ps) (vaT ps))).depth ≤ 100) && decide ((PyData.dict (tD (kyT ps) (vaT ps))).shown.length ≤ sizeLine)) = true then _ else _) = _
  rw [e1, h5, decide_eq_true h6, decide_eq_true (show (PyData.dict (tD (kyT ps) (vaT ps))).shown.length ≤ sizeLine from Nat.le_trans h7 (by decide))]
  rw [if_pos (by decide)]
def p1 : List (Str × Str) := [("a", "b"), ("b", "a"), ("c", "d"), ("d", "e"), ("e", "c")]
def p2 : List (Str × Str) := [("\n", "]"), ("]", "^"), ("^", "-"), ("-", "\n")]
def p3 : List (Str × Str) := [("0", "1"), ("1", "0")]
def p4 : List (Str × Str) := [(" ", "."), (".", " ")]
def p5 : List (Str × Str) := [("(", "(")]
def p6 : List (Str × Str) := [("_", "Z"), ("Z", "Z")]
def p7 : List (Str × Str) := [("a", "b"), ("b", "c"), ("c", "b"), ("d", "d")]
def p8 : List (Str × Str) := [("a", "A"), ("A", "A")]
def p9 : List (Str × Str) := [("a", "A"), ("A", "a")]
theorem ok_p : okT p1 = true ∧ okT p2 = true ∧ okT p3 = true ∧ okT p4 = true ∧ okT p5 = true ∧ okT p6 = true ∧ okT p7 = true ∧ okT p8 = true ∧ okT p9 = true := by decide +kernel
/-- the entries as they are written -/
def enT (ps : List (Str × Str)) : List (PyData × PyData) := ps.map fun p => (.str p.1, .str p.2)
theorem en_p : ∀ ps ∈ [p1, p2, p3, p4, p5, p6, p7, p8, p9], foldD [] (enT ps) = some (tD (kyT ps) (vaT ps)) := by
  intro ps h
  simp only [List.mem_cons, List.not_mem_nil, or_false] at h
  rcases h with rfl | rfl | rfl | rfl | rfl | rfl | rfl | rfl | rfl <;> kernel_rfl
theorem cyc_of {s : Nat → List Str} {t n : Nat} (lt : t < n) (un : ∀ i j : Fin n, s i = s j → i = j) (eq : s n = s t) : Cyc s t n :=
  ⟨lt, fun i j hi hj e => congrArg Fin.val (un ⟨i, hi⟩ ⟨j, hj⟩ e), eq⟩
theorem cy7 : Cyc (fun j => (kyT p7).map fun c => orb (vaT p7) c j) 1 (1 + 2) := cyc_of (by decide) (by decide +kernel) (by decide +kernel)
theorem cy8 : Cyc (fun j => (kyT p8).map fun c => orb (vaT p8) c j) 1 (1 + 1) := cyc_of (by decide) (by decide +kernel) (by decide +kernel)
theorem cy9 : Cyc (fun j => (kyT p9).map fun c => orb (vaT p9) c j) 0 (0 + 2) := cyc_of (by decide) (by decide +kernel) (by decide +kernel)

theorem pairs_C {s : List SV} : ∀ ps : List (PyData × PyData), mPairs (ps.map fun p => (mC p.1, mC p.2)) s = some (.val ps s)
  | [] => rfl
  | (k, d) :: ps => by
    have ih := pairs_C (s := s) ps
    rw [List.map_cons]
    show M.bind (mC k) (fun k => M.bind (mC d) fun d => M.bind (mPairs (ps.map fun p => (mC p.1, mC p.2))) fun ks => M.ret ((k, d) :: ks)) s = _
    generalize (ps.map fun p => (mC p.1, mC p.2)) = qs at ih ⊢
    simp only [M.bind, mC, M.ret, ih]
theorem W_disp {ps out : List (PyData × PyData)} {qs : List (M PyData × M PyData)} {s : List SV} {P : SV → List SV → Prop} (e : qs = ps.map fun p => (mC p.1, mC p.2)) (h : foldD [] ps = some out) (hl : ps.length ≤ 15) : W (mDisp qs s) P ↔ P (.odk none out) s := by
  subst e
  have e : mDisp (ps.map fun p => (mC p.1, mC p.2)) s = some (.val (.odk none out) s) := by
    unfold mDisp M.bind
    rw [pairs_C]
    show M.lift (if ps.length ≤ 15 then (foldD [] ps).map (SV.odk none) else none) s = _
    rw [if_pos hl, h]
    rfl
  rw [e]
  exact Iff.rfl
theorem W_d1 {s : List SV} {P : SV → List SV → Prop} : W (mDisp [((mC (.str "a")), (mC (.str "b"))), ((mC (.str "b")), (mC (.str "a"))), ((mC (.str "c")), (mC (.str "d"))), ((mC (.str "d")), (mC (.str "e"))), ((mC (.str "e")), (mC (.str "c")))] s) P ↔ P (.odk none (tD (kyT p1) (vaT p1))) s := W_disp (ps := enT p1) rfl (en_p p1 (by simp)) (by decide)
theorem W_d2 {s : List SV} {P : SV → List SV → Prop} : W (mDisp [((mC (.str "\n")), (mC (.str "]"))), ((mC (.str "]")), (mC (.str "^"))), ((mC (.str "^")), (mC (.str "-"))), ((mC (.str "-")), (mC (.str "\n")))] s) P ↔ P (.odk none (tD (kyT p2) (vaT p2))) s := W_disp (ps := enT p2) rfl (en_p p2 (by simp)) (by decide)
theorem W_d3 {s : List SV} {P : SV → List SV → Prop} : W (mDisp [((mC (.str "0")), (mC (.str "1"))), ((mC (.str "1")), (mC (.str "0")))] s) P ↔ P (.odk none (tD (kyT p3) (vaT p3))) s := W_disp (ps := enT p3) rfl (en_p p3 (by simp)) (by decide)
theorem W_d4 {s : List SV} {P : SV → List SV → Prop} : W (mDisp [((mC (.str " ")), (mC (.str "."))), ((mC (.str ".")), (mC (.str " ")))] s) P ↔ P (.odk none (tD (kyT p4) (vaT p4))) s := W_disp (ps := enT p4) rfl (en_p p4 (by simp)) (by decide)
theorem W_d5 {s : List SV} {P : SV → List SV → Prop} : W (mDisp [((mC (.str "(")), (mC (.str "(")))] s) P ↔ P (.odk none (tD (kyT p5) (vaT p5))) s := W_disp (ps := enT p5) rfl (en_p p5 (by simp)) (by decide)
theorem W_d6 {s : List SV} {P : SV → List SV → Prop} : W (mDisp [((mC (.str "_")), (mC (.str "Z"))), ((mC (.str "Z")), (mC (.str "Z")))] s) P ↔ P (.odk none (tD (kyT p6) (vaT p6))) s := W_disp (ps := enT p6) rfl (en_p p6 (by simp)) (by decide)
theorem W_d7 {s : List SV} {P : SV → List SV → Prop} : W (mDisp [((mC (.str "a")), (mC (.str "b"))), ((mC (.str "b")), (mC (.str "c"))), ((mC (.str "c")), (mC (.str "b"))), ((mC (.str "d")), (mC (.str "d")))] s) P ↔ P (.odk none (tD (kyT p7) (vaT p7))) s := W_disp (ps := enT p7) rfl (en_p p7 (by simp)) (by decide)
theorem W_d8 {s : List SV} {P : SV → List SV → Prop} : W (mDisp [((mC (.str "a")), (mC (.str "A"))), ((mC (.str "A")), (mC (.str "A")))] s) P ↔ P (.odk none (tD (kyT p8) (vaT p8))) s := W_disp (ps := enT p8) rfl (en_p p8 (by simp)) (by decide)
theorem W_d9 {s : List SV} {P : SV → List SV → Prop} : W (mDisp [((mC (.str "a")), (mC (.str "A"))), ((mC (.str "A")), (mC (.str "a")))] s) P ↔ P (.odk none (tD (kyT p9) (vaT p9))) s := W_disp (ps := enT p9) rfl (en_p p9 (by simp)) (by decide)
-- @law
theorem cut_mem {ns : List Int} {k : Nat} {d : PyData} (h : d ∈ cutD (ns.map .int) none (some (k : Int)) ++ [PyData.int 0]) : ∃ c, d = .int c := by
  rw [cut_upto] at h
  rcases List.mem_append.mp h with h | h
  · obtain ⟨c, _, e⟩ := List.mem_map.mp (List.mem_of_mem_take h)
    exact ⟨c, e.symm⟩
  · exact ⟨0, List.mem_singleton.mp h⟩
theorem law_holds (K : PySem.W.Frag) (ns : List Int) (hl : ns.length ≤ 63) : ∃ ss, F_law K [.oth (.scr K ns)] = some (.val (.dat (.bool true)) ss) := by
  have key : W (F_law K [.oth (.scr K ns)]) fun r _ => r = .dat (.bool true) := by
    refine W_def rfl ?_
    simp only [List.cons_append, List.nil_append, List.replicate_succ, List.replicate_zero, Nat.reduceSub, Nat.sub_self]
    unfold B_law
    rw [WS_seq]
    refine WS_forO (I := fun s => ∃ x2 x3 x4, s = [.oth (.scr K ns), .gone, x2, x3, x4, .gone, .gone, .gone]) (Pd := fun ds => DS ds 0) ?_ (fun ds s hD hs => ?_) (fun s hs => ?_)
    · try simp only [↓W_bind, ↓W_ret, ↓W_lift, ↓L_some, ↓L_map, ↓WS_eseq, ↓WS_seq, ↓WS_nil, ↓WS_pass, ↓WS_break, ↓WS_cont, ↓WS_never, ↓WS_set, ↓WS_ret, ↓WS_retN, ↓WS_drop, ↓WS_asg, ↓WS_if, ↓ifS_t, ↓ifS_f, ↓ifS_not, ↓ifS_dec, ↓ifM_t, ↓ifM_f, ↓ifM_not, ↓ifM_dec, ↓W_C, ↓W_2, ↓W_1, ↓W_A, ↓W_AL, ↓W_2L, ↓W_nilA, ↓W_consA, ↓W_B, ↓L_asB, ↓W_not, ↓W_tnot, ↓W_and, ↓W_or, ↓W_tand, ↓W_tor, ↓W_if, ↓W_chain, ↓L_bindB, ↓W_tup, ↓W_lst, ↓W_dat, ↓W_fz, ↓L_asD, ↓L_asO, ↓W_someI, ↓L_asI, ↓L_asI1, ↓W_noneI, ↓W_slL, ↓L_cut, ↓WS_for, ↓WS_while, ↓WS_put, ↓W_lc0, ↓W_itL, ↓L_asL, ↓W_itT, ↓L_asT, ↓W_itA, ↓W_itES, ↓L_add, ↓L_sub, ↓L_lt, ↓L_le, ↓L_gt, ↓L_ge, ↓L_neg, ↓L_mul, ↓L_mod, ↓L_div, ↓L_pow, ↓L_eqI, ↓L_neI, ↓L_eqL, ↓L_neL, ↓L_eqT, ↓L_neT, ↓L_eqS, ↓L_neS, ↓L_isN, ↓L_isNotN, ↓L_lenL, ↓L_lenT, ↓L_int, ↓L_intb, ↓L_max, ↓L_min, ↓L_cat, ↓L_ixL, ↓L_ixT, ↓L_rep, ↓L_r1, ↓L_r2, ↓L_en, ↓L_enS, ↓L_zip, ↓L_inL, ↓L_ninL, ↓L_isi, ↓L_ii, ↓L_ib, ↓L_il, ↓LB_nil, ↓LB_name, ↓LB_bind, ↓LB_cons, ↓LB_tup, ↓W_call, ↓W_callD, ↓W_aNil, ↓W_aCons, ↓W_aBor, ↓W_callB, ↓W_scr, ↓L_sort, ↓ifM_nT, ↓ifS_nT, ↓ifM_nL, ↓ifS_nL, ↓ifM_nI, ↓ifS_nI, ↓ifM_nS, ↓ifS_nS, ↓ifM_nB, ↓ifS_nB, ↓ifM_nN, ↓ifS_nN, ↓W_var0, ↓W_varo0, ↓W_vark0, ↓Set_0, ↓W_ixC0, ↓WS_app0, ↓App_0, ↓W_move0, ↓W_var1, ↓W_varo1, ↓W_vark1, ↓Set_1, ↓W_ixC1, ↓WS_app1, ↓App_1, ↓W_move1, ↓W_var2, ↓W_varo2, ↓W_vark2, ↓Set_2, ↓W_ixC2, ↓WS_app2, ↓App_2, ↓W_move2, ↓W_var3, ↓W_varo3, ↓W_vark3, ↓Set_3, ↓W_ixC3, ↓WS_app3, ↓App_3, ↓W_move3, ↓W_var4, ↓W_varo4, ↓W_vark4, ↓Set_4, ↓W_ixC4, ↓WS_app4, ↓App_4, ↓W_move4, ↓W_var5, ↓W_varo5, ↓W_vark5, ↓Set_5, ↓W_ixC5, ↓WS_app5, ↓App_5, ↓W_move5, ↓W_var6, ↓W_varo6, ↓W_vark6, ↓Set_6, ↓W_ixC6, ↓WS_app6, ↓App_6, ↓W_move6, ↓W_var7, ↓W_varo7, ↓W_vark7, ↓Set_7, ↓W_ixC7, ↓WS_app7, ↓App_7, ↓W_move7, ↓W_var8, ↓W_varo8, ↓W_vark8, ↓Set_8, ↓W_ixC8, ↓WS_app8, ↓App_8, ↓W_move8, ↓W_var9, ↓W_varo9, ↓W_vark9, ↓Set_9, ↓W_ixC9, ↓WS_app9, ↓App_9, ↓W_move9, ↓W_var10, ↓W_varo10, ↓W_vark10, ↓Set_10, ↓W_ixC10, ↓WS_app10, ↓App_10, ↓W_move10, ↓W_var11, ↓W_varo11, ↓W_vark11, ↓Set_11, ↓W_ixC11, ↓WS_app11, ↓App_11, ↓W_move11, ↓W_var12, ↓W_varo12, ↓W_vark12, ↓Set_12, ↓W_ixC12, ↓WS_app12, ↓App_12, ↓W_move12, ↓W_var13, ↓W_varo13, ↓W_vark13, ↓Set_13, ↓W_ixC13, ↓WS_app13, ↓App_13, ↓W_move13, ↓W_var14, ↓W_varo14, ↓W_vark14, ↓Set_14, ↓W_ixC14, ↓WS_app14, ↓App_14, ↓W_move14, ↓W_var15, ↓W_varo15, ↓W_vark15, ↓Set_15, ↓W_ixC15, ↓WS_app15, ↓App_15, ↓W_move15, ↓L_at0, ↓L_at1, ↓L_at2, ↓L_at3, ↓L_at4, ↓L_at5, ↓L_at6, ↓L_at7, ↓L_at8, ↓Put_0, ↓Put_1, ↓Put_2, wipeS, List.set_cons_zero, List.set_cons_succ, List.length_map]
      have hc : (cutD (ns.map PyData.int) none (some 6)).length ≤ 63 := by
        rw [show (some 6 : Option Int) = some ((6 : Nat) : Int) from rfl, cut_upto, List.length_take, List.length_map]
        omega
      refine ⟨by simp, by simp; omega, by simp; omega, ⟨_, _, _, rfl⟩, fun d hd => ?_⟩
      obtain ⟨c, rfl⟩ := cut_mem (k := 6) hd
      try simp only [↓W_bind, ↓W_ret, ↓W_lift, ↓L_some, ↓L_map, ↓WS_eseq, ↓WS_seq, ↓WS_nil, ↓WS_pass, ↓WS_break, ↓WS_cont, ↓WS_never, ↓WS_set, ↓WS_ret, ↓WS_retN, ↓WS_drop, ↓WS_asg, ↓WS_if, ↓ifS_t, ↓ifS_f, ↓ifS_not, ↓ifS_dec, ↓ifM_t, ↓ifM_f, ↓ifM_not, ↓ifM_dec, ↓W_C, ↓W_2, ↓W_1, ↓W_A, ↓W_AL, ↓W_2L, ↓W_nilA, ↓W_consA, ↓W_B, ↓L_asB, ↓W_not, ↓W_tnot, ↓W_and, ↓W_or, ↓W_tand, ↓W_tor, ↓W_if, ↓W_chain, ↓L_bindB, ↓W_tup, ↓W_lst, ↓W_dat, ↓W_fz, ↓L_asD, ↓L_asO, ↓W_someI, ↓L_asI, ↓L_asI1, ↓W_noneI, ↓W_slL, ↓L_cut, ↓WS_for, ↓WS_while, ↓WS_put, ↓W_lc0, ↓W_itL, ↓L_asL, ↓W_itT, ↓L_asT, ↓W_itA, ↓W_itES, ↓L_add, ↓L_sub, ↓L_lt, ↓L_le, ↓L_gt, ↓L_ge, ↓L_neg, ↓L_mul, ↓L_mod, ↓L_div, ↓L_pow, ↓L_eqI, ↓L_neI, ↓L_eqL, ↓L_neL, ↓L_eqT, ↓L_neT, ↓L_eqS, ↓L_neS, ↓L_isN, ↓L_isNotN, ↓L_lenL, ↓L_lenT, ↓L_int, ↓L_intb, ↓L_max, ↓L_min, ↓L_cat, ↓L_ixL, ↓L_ixT, ↓L_rep, ↓L_r1, ↓L_r2, ↓L_en, ↓L_enS, ↓L_zip, ↓L_inL, ↓L_ninL, ↓L_isi, ↓L_ii, ↓L_ib, ↓L_il, ↓LB_nil, ↓LB_name, ↓LB_bind, ↓LB_cons, ↓LB_tup, ↓W_call, ↓W_callD, ↓W_aNil, ↓W_aCons, ↓W_aBor, ↓W_callB, ↓W_scr, ↓L_sort, ↓ifM_nT, ↓ifS_nT, ↓ifM_nL, ↓ifS_nL, ↓ifM_nI, ↓ifS_nI, ↓ifM_nS, ↓ifS_nS, ↓ifM_nB, ↓ifS_nB, ↓ifM_nN, ↓ifS_nN, ↓W_var0, ↓W_varo0, ↓W_vark0, ↓Set_0, ↓W_ixC0, ↓WS_app0, ↓App_0, ↓W_move0, ↓W_var1, ↓W_varo1, ↓W_vark1, ↓Set_1, ↓W_ixC1, ↓WS_app1, ↓App_1, ↓W_move1, ↓W_var2, ↓W_varo2, ↓W_vark2, ↓Set_2, ↓W_ixC2, ↓WS_app2, ↓App_2, ↓W_move2, ↓W_var3, ↓W_varo3, ↓W_vark3, ↓Set_3, ↓W_ixC3, ↓WS_app3, ↓App_3, ↓W_move3, ↓W_var4, ↓W_varo4, ↓W_vark4, ↓Set_4, ↓W_ixC4, ↓WS_app4, ↓App_4, ↓W_move4, ↓W_var5, ↓W_varo5, ↓W_vark5, ↓Set_5, ↓W_ixC5, ↓WS_app5, ↓App_5, ↓W_move5, ↓W_var6, ↓W_varo6, ↓W_vark6, ↓Set_6, ↓W_ixC6, ↓WS_app6, ↓App_6, ↓W_move6, ↓W_var7, ↓W_varo7, ↓W_vark7, ↓Set_7, ↓W_ixC7, ↓WS_app7, ↓App_7, ↓W_move7, ↓W_var8, ↓W_varo8, ↓W_vark8, ↓Set_8, ↓W_ixC8, ↓WS_app8, ↓App_8, ↓W_move8, ↓W_var9, ↓W_varo9, ↓W_vark9, ↓Set_9, ↓W_ixC9, ↓WS_app9, ↓App_9, ↓W_move9, ↓W_var10, ↓W_varo10, ↓W_vark10, ↓Set_10, ↓W_ixC10, ↓WS_app10, ↓App_10, ↓W_move10, ↓W_var11, ↓W_varo11, ↓W_vark11, ↓Set_11, ↓W_ixC11, ↓WS_app11, ↓App_11, ↓W_move11, ↓W_var12, ↓W_varo12, ↓W_vark12, ↓Set_12, ↓W_ixC12, ↓WS_app12, ↓App_12, ↓W_move12, ↓W_var13, ↓W_varo13, ↓W_vark13, ↓Set_13, ↓W_ixC13, ↓WS_app13, ↓App_13, ↓W_move13, ↓W_var14, ↓W_varo14, ↓W_vark14, ↓Set_14, ↓W_ixC14, ↓WS_app14, ↓App_14, ↓W_move14, ↓W_var15, ↓W_varo15, ↓W_vark15, ↓Set_15, ↓W_ixC15, ↓WS_app15, ↓App_15, ↓W_move15, ↓L_at0, ↓L_at1, ↓L_at2, ↓L_at3, ↓L_at4, ↓L_at5, ↓L_at6, ↓L_at7, ↓L_at8, ↓Put_0, ↓Put_1, ↓Put_2, wipeS, List.set_cons_zero, List.set_cons_succ, List.length_map]
      refine Fn_W rfl (W_mono t_draws fun r _ ⟨ds, hD, e⟩ => ?_)
      subst e
      exact ⟨rfl, ds, rfl, hD, rfl⟩
    · obtain ⟨x2, x3, x4, rfl⟩ := hs
      refine ⟨by simp, ?_⟩
      try simp only [↓W_bind, ↓W_ret, ↓W_lift, ↓L_some, ↓L_map, ↓WS_eseq, ↓WS_seq, ↓WS_nil, ↓WS_pass, ↓WS_break, ↓WS_cont, ↓WS_never, ↓WS_set, ↓WS_ret, ↓WS_retN, ↓WS_drop, ↓WS_asg, ↓WS_if, ↓ifS_t, ↓ifS_f, ↓ifS_not, ↓ifS_dec, ↓ifM_t, ↓ifM_f, ↓ifM_not, ↓ifM_dec, ↓W_C, ↓W_2, ↓W_1, ↓W_A, ↓W_AL, ↓W_2L, ↓W_nilA, ↓W_consA, ↓W_B, ↓L_asB, ↓W_not, ↓W_tnot, ↓W_and, ↓W_or, ↓W_tand, ↓W_tor, ↓W_if, ↓W_chain, ↓L_bindB, ↓W_tup, ↓W_lst, ↓W_dat, ↓W_fz, ↓L_asD, ↓L_asO, ↓W_someI, ↓L_asI, ↓L_asI1, ↓W_noneI, ↓W_slL, ↓L_cut, ↓WS_for, ↓WS_while, ↓WS_put, ↓W_lc0, ↓W_itL, ↓L_asL, ↓W_itT, ↓L_asT, ↓W_itA, ↓W_itES, ↓L_add, ↓L_sub, ↓L_lt, ↓L_le, ↓L_gt, ↓L_ge, ↓L_neg, ↓L_mul, ↓L_mod, ↓L_div, ↓L_pow, ↓L_eqI, ↓L_neI, ↓L_eqL, ↓L_neL, ↓L_eqT, ↓L_neT, ↓L_eqS, ↓L_neS, ↓L_isN, ↓L_isNotN, ↓L_lenL, ↓L_lenT, ↓L_int, ↓L_intb, ↓L_max, ↓L_min, ↓L_cat, ↓L_ixL, ↓L_ixT, ↓L_rep, ↓L_r1, ↓L_r2, ↓L_en, ↓L_enS, ↓L_zip, ↓L_inL, ↓L_ninL, ↓L_isi, ↓L_ii, ↓L_ib, ↓L_il, ↓LB_nil, ↓LB_name, ↓LB_bind, ↓LB_cons, ↓LB_tup, ↓W_call, ↓W_callD, ↓W_aNil, ↓W_aCons, ↓W_aBor, ↓W_callB, ↓W_scr, ↓L_sort, ↓ifM_nT, ↓ifS_nT, ↓ifM_nL, ↓ifS_nL, ↓ifM_nI, ↓ifS_nI, ↓ifM_nS, ↓ifS_nS, ↓ifM_nB, ↓ifS_nB, ↓ifM_nN, ↓ifS_nN, ↓W_var0, ↓W_varo0, ↓W_vark0, ↓Set_0, ↓W_ixC0, ↓WS_app0, ↓App_0, ↓W_move0, ↓W_var1, ↓W_varo1, ↓W_vark1, ↓Set_1, ↓W_ixC1, ↓WS_app1, ↓App_1, ↓W_move1, ↓W_var2, ↓W_varo2, ↓W_vark2, ↓Set_2, ↓W_ixC2, ↓WS_app2, ↓App_2, ↓W_move2, ↓W_var3, ↓W_varo3, ↓W_vark3, ↓Set_3, ↓W_ixC3, ↓WS_app3, ↓App_3, ↓W_move3, ↓W_var4, ↓W_varo4, ↓W_vark4, ↓Set_4, ↓W_ixC4, ↓WS_app4, ↓App_4, ↓W_move4, ↓W_var5, ↓W_varo5, ↓W_vark5, ↓Set_5, ↓W_ixC5, ↓WS_app5, ↓App_5, ↓W_move5, ↓W_var6, ↓W_varo6, ↓W_vark6, ↓Set_6, ↓W_ixC6, ↓WS_app6, ↓App_6, ↓W_move6, ↓W_var7, ↓W_varo7, ↓W_vark7, ↓Set_7, ↓W_ixC7, ↓WS_app7, ↓App_7, ↓W_move7, ↓W_var8, ↓W_varo8, ↓W_vark8, ↓Set_8, ↓W_ixC8, ↓WS_app8, ↓App_8, ↓W_move8, ↓W_var9, ↓W_varo9, ↓W_vark9, ↓Set_9, ↓W_ixC9, ↓WS_app9, ↓App_9, ↓W_move9, ↓W_var10, ↓W_varo10, ↓W_vark10, ↓Set_10, ↓W_ixC10, ↓WS_app10, ↓App_10, ↓W_move10, ↓W_var11, ↓W_varo11, ↓W_vark11, ↓Set_11, ↓W_ixC11, ↓WS_app11, ↓App_11, ↓W_move11, ↓W_var12, ↓W_varo12, ↓W_vark12, ↓Set_12, ↓W_ixC12, ↓WS_app12, ↓App_12, ↓W_move12, ↓W_var13, ↓W_varo13, ↓W_vark13, ↓Set_13, ↓W_ixC13, ↓WS_app13, ↓App_13, ↓W_move13, ↓W_var14, ↓W_varo14, ↓W_vark14, ↓Set_14, ↓W_ixC14, ↓WS_app14, ↓App_14, ↓W_move14, ↓W_var15, ↓W_varo15, ↓W_vark15, ↓Set_15, ↓W_ixC15, ↓WS_app15, ↓App_15, ↓W_move15, ↓L_at0, ↓L_at1, ↓L_at2, ↓L_at3, ↓L_at4, ↓L_at5, ↓L_at6, ↓L_at7, ↓L_at8, ↓Put_0, ↓Put_1, ↓Put_2, wipeS, List.set_cons_zero, List.set_cons_succ, List.length_map]
      refine ⟨⟨by decide, by decide⟩, by simp, rfl, draw rfl hD (by omega) fun z d1 z0 z1 hD1 => ?_⟩
      have k0 := Int.emod_nonneg z (show (3 : Int) ≠ 0 by decide)
      have k1 := Int.emod_lt_of_pos z (show (0 : Int) < 3 by decide)
      have e13 : (10 : Int) ^ (13 : Int).toNat = 10000000000000 := by decide
      have e6 : (10 : Int) ^ (6 : Int).toNat = 1000000 := by decide
      rw [e13]
      try simp only [↓W_bind, ↓W_ret, ↓W_lift, ↓L_some, ↓L_map, ↓WS_eseq, ↓WS_seq, ↓WS_nil, ↓WS_pass, ↓WS_break, ↓WS_cont, ↓WS_never, ↓WS_set, ↓WS_ret, ↓WS_retN, ↓WS_drop, ↓WS_asg, ↓WS_if, ↓ifS_t, ↓ifS_f, ↓ifS_not, ↓ifS_dec, ↓ifM_t, ↓ifM_f, ↓ifM_not, ↓ifM_dec, ↓W_C, ↓W_2, ↓W_1, ↓W_A, ↓W_AL, ↓W_2L, ↓W_nilA, ↓W_consA, ↓W_B, ↓L_asB, ↓W_not, ↓W_tnot, ↓W_and, ↓W_or, ↓W_tand, ↓W_tor, ↓W_if, ↓W_chain, ↓L_bindB, ↓W_tup, ↓W_lst, ↓W_dat, ↓W_fz, ↓L_asD, ↓L_asO, ↓W_someI, ↓L_asI, ↓L_asI1, ↓W_noneI, ↓W_slL, ↓L_cut, ↓WS_for, ↓WS_while, ↓WS_put, ↓W_lc0, ↓W_itL, ↓L_asL, ↓W_itT, ↓L_asT, ↓W_itA, ↓W_itES, ↓L_add, ↓L_sub, ↓L_lt, ↓L_le, ↓L_gt, ↓L_ge, ↓L_neg, ↓L_mul, ↓L_mod, ↓L_div, ↓L_pow, ↓L_eqI, ↓L_neI, ↓L_eqL, ↓L_neL, ↓L_eqT, ↓L_neT, ↓L_eqS, ↓L_neS, ↓L_isN, ↓L_isNotN, ↓L_lenL, ↓L_lenT, ↓L_int, ↓L_intb, ↓L_max, ↓L_min, ↓L_cat, ↓L_ixL, ↓L_ixT, ↓L_rep, ↓L_r1, ↓L_r2, ↓L_en, ↓L_enS, ↓L_zip, ↓L_inL, ↓L_ninL, ↓L_isi, ↓L_ii, ↓L_ib, ↓L_il, ↓LB_nil, ↓LB_name, ↓LB_bind, ↓LB_cons, ↓LB_tup, ↓W_call, ↓W_callD, ↓W_aNil, ↓W_aCons, ↓W_aBor, ↓W_callB, ↓W_scr, ↓L_sort, ↓ifM_nT, ↓ifS_nT, ↓ifM_nL, ↓ifS_nL, ↓ifM_nI, ↓ifS_nI, ↓ifM_nS, ↓ifS_nS, ↓ifM_nB, ↓ifS_nB, ↓ifM_nN, ↓ifS_nN, ↓W_var0, ↓W_varo0, ↓W_vark0, ↓Set_0, ↓W_ixC0, ↓WS_app0, ↓App_0, ↓W_move0, ↓W_var1, ↓W_varo1, ↓W_vark1, ↓Set_1, ↓W_ixC1, ↓WS_app1, ↓App_1, ↓W_move1, ↓W_var2, ↓W_varo2, ↓W_vark2, ↓Set_2, ↓W_ixC2, ↓WS_app2, ↓App_2, ↓W_move2, ↓W_var3, ↓W_varo3, ↓W_vark3, ↓Set_3, ↓W_ixC3, ↓WS_app3, ↓App_3, ↓W_move3, ↓W_var4, ↓W_varo4, ↓W_vark4, ↓Set_4, ↓W_ixC4, ↓WS_app4, ↓App_4, ↓W_move4, ↓W_var5, ↓W_varo5, ↓W_vark5, ↓Set_5, ↓W_ixC5, ↓WS_app5, ↓App_5, ↓W_move5, ↓W_var6, ↓W_varo6, ↓W_vark6, ↓Set_6, ↓W_ixC6, ↓WS_app6, ↓App_6, ↓W_move6, ↓W_var7, ↓W_varo7, ↓W_vark7, ↓Set_7, ↓W_ixC7, ↓WS_app7, ↓App_7, ↓W_move7, ↓W_var8, ↓W_varo8, ↓W_vark8, ↓Set_8, ↓W_ixC8, ↓WS_app8, ↓App_8, ↓W_move8, ↓W_var9, ↓W_varo9, ↓W_vark9, ↓Set_9, ↓W_ixC9, ↓WS_app9, ↓App_9, ↓W_move9, ↓W_var10, ↓W_varo10, ↓W_vark10, ↓Set_10, ↓W_ixC10, ↓WS_app10, ↓App_10, ↓W_move10, ↓W_var11, ↓W_varo11, ↓W_vark11, ↓Set_11, ↓W_ixC11, ↓WS_app11, ↓App_11, ↓W_move11, ↓W_var12, ↓W_varo12, ↓W_vark12, ↓Set_12, ↓W_ixC12, ↓WS_app12, ↓App_12, ↓W_move12, ↓W_var13, ↓W_varo13, ↓W_vark13, ↓Set_13, ↓W_ixC13, ↓WS_app13, ↓App_13, ↓W_move13, ↓W_var14, ↓W_varo14, ↓W_vark14, ↓Set_14, ↓W_ixC14, ↓WS_app14, ↓App_14, ↓W_move14, ↓W_var15, ↓W_varo15, ↓W_vark15, ↓Set_15, ↓W_ixC15, ↓WS_app15, ↓App_15, ↓W_move15, ↓L_at0, ↓L_at1, ↓L_at2, ↓L_at3, ↓L_at4, ↓L_at5, ↓L_at6, ↓L_at7, ↓L_at8, ↓Put_0, ↓Put_1, ↓Put_2, wipeS, List.set_cons_zero, List.set_cons_succ, List.length_map]
      generalize z % 3 = far at k0 k1
      refine ⟨by decide, pickL k0 (show far < ((3 : Nat) : Int) by omega) fun fd hf => ?_⟩
      have hf : ∃ F : Int, fd = .int F := by
        simp only [List.mem_cons, List.not_mem_nil, or_false] at hf
        rcases hf with rfl | rfl | rfl <;> exact ⟨_, rfl⟩
      obtain ⟨F, rfl⟩ := hf
      try simp only [↓W_bind, ↓W_ret, ↓W_lift, ↓L_some, ↓L_map, ↓WS_eseq, ↓WS_seq, ↓WS_nil, ↓WS_pass, ↓WS_break, ↓WS_cont, ↓WS_never, ↓WS_set, ↓WS_ret, ↓WS_retN, ↓WS_drop, ↓WS_asg, ↓WS_if, ↓ifS_t, ↓ifS_f, ↓ifS_not, ↓ifS_dec, ↓ifM_t, ↓ifM_f, ↓ifM_not, ↓ifM_dec, ↓W_C, ↓W_2, ↓W_1, ↓W_A, ↓W_AL, ↓W_2L, ↓W_nilA, ↓W_consA, ↓W_B, ↓L_asB, ↓W_not, ↓W_tnot, ↓W_and, ↓W_or, ↓W_tand, ↓W_tor, ↓W_if, ↓W_chain, ↓L_bindB, ↓W_tup, ↓W_lst, ↓W_dat, ↓W_fz, ↓L_asD, ↓L_asO, ↓W_someI, ↓L_asI, ↓L_asI1, ↓W_noneI, ↓W_slL, ↓L_cut, ↓WS_for, ↓WS_while, ↓WS_put, ↓W_lc0, ↓W_itL, ↓L_asL, ↓W_itT, ↓L_asT, ↓W_itA, ↓W_itES, ↓L_add, ↓L_sub, ↓L_lt, ↓L_le, ↓L_gt, ↓L_ge, ↓L_neg, ↓L_mul, ↓L_mod, ↓L_div, ↓L_pow, ↓L_eqI, ↓L_neI, ↓L_eqL, ↓L_neL, ↓L_eqT, ↓L_neT, ↓L_eqS, ↓L_neS, ↓L_isN, ↓L_isNotN, ↓L_lenL, ↓L_lenT, ↓L_int, ↓L_intb, ↓L_max, ↓L_min, ↓L_cat, ↓L_ixL, ↓L_ixT, ↓L_rep, ↓L_r1, ↓L_r2, ↓L_en, ↓L_enS, ↓L_zip, ↓L_inL, ↓L_ninL, ↓L_isi, ↓L_ii, ↓L_ib, ↓L_il, ↓LB_nil, ↓LB_name, ↓LB_bind, ↓LB_cons, ↓LB_tup, ↓W_call, ↓W_callD, ↓W_aNil, ↓W_aCons, ↓W_aBor, ↓W_callB, ↓W_scr, ↓L_sort, ↓ifM_nT, ↓ifS_nT, ↓ifM_nL, ↓ifS_nL, ↓ifM_nI, ↓ifS_nI, ↓ifM_nS, ↓ifS_nS, ↓ifM_nB, ↓ifS_nB, ↓ifM_nN, ↓ifS_nN, ↓W_var0, ↓W_varo0, ↓W_vark0, ↓Set_0, ↓W_ixC0, ↓WS_app0, ↓App_0, ↓W_move0, ↓W_var1, ↓W_varo1, ↓W_vark1, ↓Set_1, ↓W_ixC1, ↓WS_app1, ↓App_1, ↓W_move1, ↓W_var2, ↓W_varo2, ↓W_vark2, ↓Set_2, ↓W_ixC2, ↓WS_app2, ↓App_2, ↓W_move2, ↓W_var3, ↓W_varo3, ↓W_vark3, ↓Set_3, ↓W_ixC3, ↓WS_app3, ↓App_3, ↓W_move3, ↓W_var4, ↓W_varo4, ↓W_vark4, ↓Set_4, ↓W_ixC4, ↓WS_app4, ↓App_4, ↓W_move4, ↓W_var5, ↓W_varo5, ↓W_vark5, ↓Set_5, ↓W_ixC5, ↓WS_app5, ↓App_5, ↓W_move5, ↓W_var6, ↓W_varo6, ↓W_vark6, ↓Set_6, ↓W_ixC6, ↓WS_app6, ↓App_6, ↓W_move6, ↓W_var7, ↓W_varo7, ↓W_vark7, ↓Set_7, ↓W_ixC7, ↓WS_app7, ↓App_7, ↓W_move7, ↓W_var8, ↓W_varo8, ↓W_vark8, ↓Set_8, ↓W_ixC8, ↓WS_app8, ↓App_8, ↓W_move8, ↓W_var9, ↓W_varo9, ↓W_vark9, ↓Set_9, ↓W_ixC9, ↓WS_app9, ↓App_9, ↓W_move9, ↓W_var10, ↓W_varo10, ↓W_vark10, ↓Set_10, ↓W_ixC10, ↓WS_app10, ↓App_10, ↓W_move10, ↓W_var11, ↓W_varo11, ↓W_vark11, ↓Set_11, ↓W_ixC11, ↓WS_app11, ↓App_11, ↓W_move11, ↓W_var12, ↓W_varo12, ↓W_vark12, ↓Set_12, ↓W_ixC12, ↓WS_app12, ↓App_12, ↓W_move12, ↓W_var13, ↓W_varo13, ↓W_vark13, ↓Set_13, ↓W_ixC13, ↓WS_app13, ↓App_13, ↓W_move13, ↓W_var14, ↓W_varo14, ↓W_vark14, ↓Set_14, ↓W_ixC14, ↓WS_app14, ↓App_14, ↓W_move14, ↓W_var15, ↓W_varo15, ↓W_vark15, ↓Set_15, ↓W_ixC15, ↓WS_app15, ↓App_15, ↓W_move15, ↓L_at0, ↓L_at1, ↓L_at2, ↓L_at3, ↓L_at4, ↓L_at5, ↓L_at6, ↓L_at7, ↓L_at8, ↓Put_0, ↓Put_1, ↓Put_2, wipeS, List.set_cons_zero, List.set_cons_succ, List.length_map]
      refine ⟨rfl, draw rfl hD1 (by omega) fun z2 d2 y0 y1 hD2 => ?_⟩
      have m0 := Int.emod_nonneg z2 (show (1000000 : Int) ≠ 0 by decide)
      have m1 := Int.emod_lt_of_pos z2 (show (0 : Int) < 1000000 by decide)
      try simp only [↓W_bind, ↓W_ret, ↓W_lift, ↓L_some, ↓L_map, ↓WS_eseq, ↓WS_seq, ↓WS_nil, ↓WS_pass, ↓WS_break, ↓WS_cont, ↓WS_never, ↓WS_set, ↓WS_ret, ↓WS_retN, ↓WS_drop, ↓WS_asg, ↓WS_if, ↓ifS_t, ↓ifS_f, ↓ifS_not, ↓ifS_dec, ↓ifM_t, ↓ifM_f, ↓ifM_not, ↓ifM_dec, ↓W_C, ↓W_2, ↓W_1, ↓W_A, ↓W_AL, ↓W_2L, ↓W_nilA, ↓W_consA, ↓W_B, ↓L_asB, ↓W_not, ↓W_tnot, ↓W_and, ↓W_or, ↓W_tand, ↓W_tor, ↓W_if, ↓W_chain, ↓L_bindB, ↓W_tup, ↓W_lst, ↓W_dat, ↓W_fz, ↓L_asD, ↓L_asO, ↓W_someI, ↓L_asI, ↓L_asI1, ↓W_noneI, ↓W_slL, ↓L_cut, ↓WS_for, ↓WS_while, ↓WS_put, ↓W_lc0, ↓W_itL, ↓L_asL, ↓W_itT, ↓L_asT, ↓W_itA, ↓W_itES, ↓L_add, ↓L_sub, ↓L_lt, ↓L_le, ↓L_gt, ↓L_ge, ↓L_neg, ↓L_mul, ↓L_mod, ↓L_div, ↓L_pow, ↓L_eqI, ↓L_neI, ↓L_eqL, ↓L_neL, ↓L_eqT, ↓L_neT, ↓L_eqS, ↓L_neS, ↓L_isN, ↓L_isNotN, ↓L_lenL, ↓L_lenT, ↓L_int, ↓L_intb, ↓L_max, ↓L_min, ↓L_cat, ↓L_ixL, ↓L_ixT, ↓L_rep, ↓L_r1, ↓L_r2, ↓L_en, ↓L_enS, ↓L_zip, ↓L_inL, ↓L_ninL, ↓L_isi, ↓L_ii, ↓L_ib, ↓L_il, ↓LB_nil, ↓LB_name, ↓LB_bind, ↓LB_cons, ↓LB_tup, ↓W_call, ↓W_callD, ↓W_aNil, ↓W_aCons, ↓W_aBor, ↓W_callB, ↓W_scr, ↓L_sort, ↓ifM_nT, ↓ifS_nT, ↓ifM_nL, ↓ifS_nL, ↓ifM_nI, ↓ifS_nI, ↓ifM_nS, ↓ifS_nS, ↓ifM_nB, ↓ifS_nB, ↓ifM_nN, ↓ifS_nN, ↓W_var0, ↓W_varo0, ↓W_vark0, ↓Set_0, ↓W_ixC0, ↓WS_app0, ↓App_0, ↓W_move0, ↓W_var1, ↓W_varo1, ↓W_vark1, ↓Set_1, ↓W_ixC1, ↓WS_app1, ↓App_1, ↓W_move1, ↓W_var2, ↓W_varo2, ↓W_vark2, ↓Set_2, ↓W_ixC2, ↓WS_app2, ↓App_2, ↓W_move2, ↓W_var3, ↓W_varo3, ↓W_vark3, ↓Set_3, ↓W_ixC3, ↓WS_app3, ↓App_3, ↓W_move3, ↓W_var4, ↓W_varo4, ↓W_vark4, ↓Set_4, ↓W_ixC4, ↓WS_app4, ↓App_4, ↓W_move4, ↓W_var5, ↓W_varo5, ↓W_vark5, ↓Set_5, ↓W_ixC5, ↓WS_app5, ↓App_5, ↓W_move5, ↓W_var6, ↓W_varo6, ↓W_vark6, ↓Set_6, ↓W_ixC6, ↓WS_app6, ↓App_6, ↓W_move6, ↓W_var7, ↓W_varo7, ↓W_vark7, ↓Set_7, ↓W_ixC7, ↓WS_app7, ↓App_7, ↓W_move7, ↓W_var8, ↓W_varo8, ↓W_vark8, ↓Set_8, ↓W_ixC8, ↓WS_app8, ↓App_8, ↓W_move8, ↓W_var9, ↓W_varo9, ↓W_vark9, ↓Set_9, ↓W_ixC9, ↓WS_app9, ↓App_9, ↓W_move9, ↓W_var10, ↓W_varo10, ↓W_vark10, ↓Set_10, ↓W_ixC10, ↓WS_app10, ↓App_10, ↓W_move10, ↓W_var11, ↓W_varo11, ↓W_vark11, ↓Set_11, ↓W_ixC11, ↓WS_app11, ↓App_11, ↓W_move11, ↓W_var12, ↓W_varo12, ↓W_vark12, ↓Set_12, ↓W_ixC12, ↓WS_app12, ↓App_12, ↓W_move12, ↓W_var13, ↓W_varo13, ↓W_vark13, ↓Set_13, ↓W_ixC13, ↓WS_app13, ↓App_13, ↓W_move13, ↓W_var14, ↓W_varo14, ↓W_vark14, ↓Set_14, ↓W_ixC14, ↓WS_app14, ↓App_14, ↓W_move14, ↓W_var15, ↓W_varo15, ↓W_vark15, ↓Set_15, ↓W_ixC15, ↓WS_app15, ↓App_15, ↓W_move15, ↓L_at0, ↓L_at1, ↓L_at2, ↓L_at3, ↓L_at4, ↓L_at5, ↓L_at6, ↓L_at7, ↓L_at8, ↓Put_0, ↓Put_1, ↓Put_2, wipeS, List.set_cons_zero, List.set_cons_succ, List.length_map]
      refine ⟨⟨by decide, by decide⟩, ?_⟩
      rw [e6]
      try simp only [↓W_bind, ↓W_ret, ↓W_lift, ↓L_some, ↓L_map, ↓WS_eseq, ↓WS_seq, ↓WS_nil, ↓WS_pass, ↓WS_break, ↓WS_cont, ↓WS_never, ↓WS_set, ↓WS_ret, ↓WS_retN, ↓WS_drop, ↓WS_asg, ↓WS_if, ↓ifS_t, ↓ifS_f, ↓ifS_not, ↓ifS_dec, ↓ifM_t, ↓ifM_f, ↓ifM_not, ↓ifM_dec, ↓W_C, ↓W_2, ↓W_1, ↓W_A, ↓W_AL, ↓W_2L, ↓W_nilA, ↓W_consA, ↓W_B, ↓L_asB, ↓W_not, ↓W_tnot, ↓W_and, ↓W_or, ↓W_tand, ↓W_tor, ↓W_if, ↓W_chain, ↓L_bindB, ↓W_tup, ↓W_lst, ↓W_dat, ↓W_fz, ↓L_asD, ↓L_asO, ↓W_someI, ↓L_asI, ↓L_asI1, ↓W_noneI, ↓W_slL, ↓L_cut, ↓WS_for, ↓WS_while, ↓WS_put, ↓W_lc0, ↓W_itL, ↓L_asL, ↓W_itT, ↓L_asT, ↓W_itA, ↓W_itES, ↓L_add, ↓L_sub, ↓L_lt, ↓L_le, ↓L_gt, ↓L_ge, ↓L_neg, ↓L_mul, ↓L_mod, ↓L_div, ↓L_pow, ↓L_eqI, ↓L_neI, ↓L_eqL, ↓L_neL, ↓L_eqT, ↓L_neT, ↓L_eqS, ↓L_neS, ↓L_isN, ↓L_isNotN, ↓L_lenL, ↓L_lenT, ↓L_int, ↓L_intb, ↓L_max, ↓L_min, ↓L_cat, ↓L_ixL, ↓L_ixT, ↓L_rep, ↓L_r1, ↓L_r2, ↓L_en, ↓L_enS, ↓L_zip, ↓L_inL, ↓L_ninL, ↓L_isi, ↓L_ii, ↓L_ib, ↓L_il, ↓LB_nil, ↓LB_name, ↓LB_bind, ↓LB_cons, ↓LB_tup, ↓W_call, ↓W_callD, ↓W_aNil, ↓W_aCons, ↓W_aBor, ↓W_callB, ↓W_scr, ↓L_sort, ↓ifM_nT, ↓ifS_nT, ↓ifM_nL, ↓ifS_nL, ↓ifM_nI, ↓ifS_nI, ↓ifM_nS, ↓ifS_nS, ↓ifM_nB, ↓ifS_nB, ↓ifM_nN, ↓ifS_nN, ↓W_var0, ↓W_varo0, ↓W_vark0, ↓Set_0, ↓W_ixC0, ↓WS_app0, ↓App_0, ↓W_move0, ↓W_var1, ↓W_varo1, ↓W_vark1, ↓Set_1, ↓W_ixC1, ↓WS_app1, ↓App_1, ↓W_move1, ↓W_var2, ↓W_varo2, ↓W_vark2, ↓Set_2, ↓W_ixC2, ↓WS_app2, ↓App_2, ↓W_move2, ↓W_var3, ↓W_varo3, ↓W_vark3, ↓Set_3, ↓W_ixC3, ↓WS_app3, ↓App_3, ↓W_move3, ↓W_var4, ↓W_varo4, ↓W_vark4, ↓Set_4, ↓W_ixC4, ↓WS_app4, ↓App_4, ↓W_move4, ↓W_var5, ↓W_varo5, ↓W_vark5, ↓Set_5, ↓W_ixC5, ↓WS_app5, ↓App_5, ↓W_move5, ↓W_var6, ↓W_varo6, ↓W_vark6, ↓Set_6, ↓W_ixC6, ↓WS_app6, ↓App_6, ↓W_move6, ↓W_var7, ↓W_varo7, ↓W_vark7, ↓Set_7, ↓W_ixC7, ↓WS_app7, ↓App_7, ↓W_move7, ↓W_var8, ↓W_varo8, ↓W_vark8, ↓Set_8, ↓W_ixC8, ↓WS_app8, ↓App_8, ↓W_move8, ↓W_var9, ↓W_varo9, ↓W_vark9, ↓Set_9, ↓W_ixC9, ↓WS_app9, ↓App_9, ↓W_move9, ↓W_var10, ↓W_varo10, ↓W_vark10, ↓Set_10, ↓W_ixC10, ↓WS_app10, ↓App_10, ↓W_move10, ↓W_var11, ↓W_varo11, ↓W_vark11, ↓Set_11, ↓W_ixC11, ↓WS_app11, ↓App_11, ↓W_move11, ↓W_var12, ↓W_varo12, ↓W_vark12, ↓Set_12, ↓W_ixC12, ↓WS_app12, ↓App_12, ↓W_move12, ↓W_var13, ↓W_varo13, ↓W_vark13, ↓Set_13, ↓W_ixC13, ↓WS_app13, ↓App_13, ↓W_move13, ↓W_var14, ↓W_varo14, ↓W_vark14, ↓Set_14, ↓W_ixC14, ↓WS_app14, ↓App_14, ↓W_move14, ↓W_var15, ↓W_varo15, ↓W_vark15, ↓Set_15, ↓W_ixC15, ↓WS_app15, ↓App_15, ↓W_move15, ↓L_at0, ↓L_at1, ↓L_at2, ↓L_at3, ↓L_at4, ↓L_at5, ↓L_at6, ↓L_at7, ↓L_at8, ↓Put_0, ↓Put_1, ↓Put_2, wipeS, List.set_cons_zero, List.set_cons_succ, List.length_map]
      refine ⟨by decide, .inl ⟨by omega, by omega⟩, rfl, draw rfl hD2 (by omega) fun z3 d3 w0 w1 hD3 => ?_⟩
      try simp only [↓W_bind, ↓W_ret, ↓W_lift, ↓L_some, ↓L_map, ↓WS_eseq, ↓WS_seq, ↓WS_nil, ↓WS_pass, ↓WS_break, ↓WS_cont, ↓WS_never, ↓WS_set, ↓WS_ret, ↓WS_retN, ↓WS_drop, ↓WS_asg, ↓WS_if, ↓ifS_t, ↓ifS_f, ↓ifS_not, ↓ifS_dec, ↓ifM_t, ↓ifM_f, ↓ifM_not, ↓ifM_dec, ↓W_C, ↓W_2, ↓W_1, ↓W_A, ↓W_AL, ↓W_2L, ↓W_nilA, ↓W_consA, ↓W_B, ↓L_asB, ↓W_not, ↓W_tnot, ↓W_and, ↓W_or, ↓W_tand, ↓W_tor, ↓W_if, ↓W_chain, ↓L_bindB, ↓W_tup, ↓W_lst, ↓W_dat, ↓W_fz, ↓L_asD, ↓L_asO, ↓W_someI, ↓L_asI, ↓L_asI1, ↓W_noneI, ↓W_slL, ↓L_cut, ↓WS_for, ↓WS_while, ↓WS_put, ↓W_lc0, ↓W_itL, ↓L_asL, ↓W_itT, ↓L_asT, ↓W_itA, ↓W_itES, ↓L_add, ↓L_sub, ↓L_lt, ↓L_le, ↓L_gt, ↓L_ge, ↓L_neg, ↓L_mul, ↓L_mod, ↓L_div, ↓L_pow, ↓L_eqI, ↓L_neI, ↓L_eqL, ↓L_neL, ↓L_eqT, ↓L_neT, ↓L_eqS, ↓L_neS, ↓L_isN, ↓L_isNotN, ↓L_lenL, ↓L_lenT, ↓L_int, ↓L_intb, ↓L_max, ↓L_min, ↓L_cat, ↓L_ixL, ↓L_ixT, ↓L_rep, ↓L_r1, ↓L_r2, ↓L_en, ↓L_enS, ↓L_zip, ↓L_inL, ↓L_ninL, ↓L_isi, ↓L_ii, ↓L_ib, ↓L_il, ↓LB_nil, ↓LB_name, ↓LB_bind, ↓LB_cons, ↓LB_tup, ↓W_call, ↓W_callD, ↓W_aNil, ↓W_aCons, ↓W_aBor, ↓W_callB, ↓W_scr, ↓L_sort, ↓ifM_nT, ↓ifS_nT, ↓ifM_nL, ↓ifS_nL, ↓ifM_nI, ↓ifS_nI, ↓ifM_nS, ↓ifS_nS, ↓ifM_nB, ↓ifS_nB, ↓ifM_nN, ↓ifS_nN, ↓W_var0, ↓W_varo0, ↓W_vark0, ↓Set_0, ↓W_ixC0, ↓WS_app0, ↓App_0, ↓W_move0, ↓W_var1, ↓W_varo1, ↓W_vark1, ↓Set_1, ↓W_ixC1, ↓WS_app1, ↓App_1, ↓W_move1, ↓W_var2, ↓W_varo2, ↓W_vark2, ↓Set_2, ↓W_ixC2, ↓WS_app2, ↓App_2, ↓W_move2, ↓W_var3, ↓W_varo3, ↓W_vark3, ↓Set_3, ↓W_ixC3, ↓WS_app3, ↓App_3, ↓W_move3, ↓W_var4, ↓W_varo4, ↓W_vark4, ↓Set_4, ↓W_ixC4, ↓WS_app4, ↓App_4, ↓W_move4, ↓W_var5, ↓W_varo5, ↓W_vark5, ↓Set_5, ↓W_ixC5, ↓WS_app5, ↓App_5, ↓W_move5, ↓W_var6, ↓W_varo6, ↓W_vark6, ↓Set_6, ↓W_ixC6, ↓WS_app6, ↓App_6, ↓W_move6, ↓W_var7, ↓W_varo7, ↓W_vark7, ↓Set_7, ↓W_ixC7, ↓WS_app7, ↓App_7, ↓W_move7, ↓W_var8, ↓W_varo8, ↓W_vark8, ↓Set_8, ↓W_ixC8, ↓WS_app8, ↓App_8, ↓W_move8, ↓W_var9, ↓W_varo9, ↓W_vark9, ↓Set_9, ↓W_ixC9, ↓WS_app9, ↓App_9, ↓W_move9, ↓W_var10, ↓W_varo10, ↓W_vark10, ↓Set_10, ↓W_ixC10, ↓WS_app10, ↓App_10, ↓W_move10, ↓W_var11, ↓W_varo11, ↓W_vark11, ↓Set_11, ↓W_ixC11, ↓WS_app11, ↓App_11, ↓W_move11, ↓W_var12, ↓W_varo12, ↓W_vark12, ↓Set_12, ↓W_ixC12, ↓WS_app12, ↓App_12, ↓W_move12, ↓W_var13, ↓W_varo13, ↓W_vark13, ↓Set_13, ↓W_ixC13, ↓WS_app13, ↓App_13, ↓W_move13, ↓W_var14, ↓W_varo14, ↓W_vark14, ↓Set_14, ↓W_ixC14, ↓WS_app14, ↓App_14, ↓W_move14, ↓W_var15, ↓W_varo15, ↓W_vark15, ↓Set_15, ↓W_ixC15, ↓WS_app15, ↓App_15, ↓W_move15, ↓L_at0, ↓L_at1, ↓L_at2, ↓L_at3, ↓L_at4, ↓L_at5, ↓L_at6, ↓L_at7, ↓L_at8, ↓Put_0, ↓Put_1, ↓Put_2, wipeS, List.set_cons_zero, List.set_cons_succ, List.length_map]
      refine ⟨by simp, rfl, draw rfl hD3 (by omega) fun z4 d4 v0 v1 hD4 => ?_⟩
      have q0 := Int.emod_nonneg z4 (show (2 : Int) ≠ 0 by decide)
      have q1 := Int.emod_lt_of_pos z4 (show (0 : Int) < 2 by decide)
      try simp only [↓W_bind, ↓W_ret, ↓W_lift, ↓L_some, ↓L_map, ↓WS_eseq, ↓WS_seq, ↓WS_nil, ↓WS_pass, ↓WS_break, ↓WS_cont, ↓WS_never, ↓WS_set, ↓WS_ret, ↓WS_retN, ↓WS_drop, ↓WS_asg, ↓WS_if, ↓ifS_t, ↓ifS_f, ↓ifS_not, ↓ifS_dec, ↓ifM_t, ↓ifM_f, ↓ifM_not, ↓ifM_dec, ↓W_C, ↓W_2, ↓W_1, ↓W_A, ↓W_AL, ↓W_2L, ↓W_nilA, ↓W_consA, ↓W_B, ↓L_asB, ↓W_not, ↓W_tnot, ↓W_and, ↓W_or, ↓W_tand, ↓W_tor, ↓W_if, ↓W_chain, ↓L_bindB, ↓W_tup, ↓W_lst, ↓W_dat, ↓W_fz, ↓L_asD, ↓L_asO, ↓W_someI, ↓L_asI, ↓L_asI1, ↓W_noneI, ↓W_slL, ↓L_cut, ↓WS_for, ↓WS_while, ↓WS_put, ↓W_lc0, ↓W_itL, ↓L_asL, ↓W_itT, ↓L_asT, ↓W_itA, ↓W_itES, ↓L_add, ↓L_sub, ↓L_lt, ↓L_le, ↓L_gt, ↓L_ge, ↓L_neg, ↓L_mul, ↓L_mod, ↓L_div, ↓L_pow, ↓L_eqI, ↓L_neI, ↓L_eqL, ↓L_neL, ↓L_eqT, ↓L_neT, ↓L_eqS, ↓L_neS, ↓L_isN, ↓L_isNotN, ↓L_lenL, ↓L_lenT, ↓L_int, ↓L_intb, ↓L_max, ↓L_min, ↓L_cat, ↓L_ixL, ↓L_ixT, ↓L_rep, ↓L_r1, ↓L_r2, ↓L_en, ↓L_enS, ↓L_zip, ↓L_inL, ↓L_ninL, ↓L_isi, ↓L_ii, ↓L_ib, ↓L_il, ↓LB_nil, ↓LB_name, ↓LB_bind, ↓LB_cons, ↓LB_tup, ↓W_call, ↓W_callD, ↓W_aNil, ↓W_aCons, ↓W_aBor, ↓W_callB, ↓W_scr, ↓L_sort, ↓ifM_nT, ↓ifS_nT, ↓ifM_nL, ↓ifS_nL, ↓ifM_nI, ↓ifS_nI, ↓ifM_nS, ↓ifS_nS, ↓ifM_nB, ↓ifS_nB, ↓ifM_nN, ↓ifS_nN, ↓W_var0, ↓W_varo0, ↓W_vark0, ↓Set_0, ↓W_ixC0, ↓WS_app0, ↓App_0, ↓W_move0, ↓W_var1, ↓W_varo1, ↓W_vark1, ↓Set_1, ↓W_ixC1, ↓WS_app1, ↓App_1, ↓W_move1, ↓W_var2, ↓W_varo2, ↓W_vark2, ↓Set_2, ↓W_ixC2, ↓WS_app2, ↓App_2, ↓W_move2, ↓W_var3, ↓W_varo3, ↓W_vark3, ↓Set_3, ↓W_ixC3, ↓WS_app3, ↓App_3, ↓W_move3, ↓W_var4, ↓W_varo4, ↓W_vark4, ↓Set_4, ↓W_ixC4, ↓WS_app4, ↓App_4, ↓W_move4, ↓W_var5, ↓W_varo5, ↓W_vark5, ↓Set_5, ↓W_ixC5, ↓WS_app5, ↓App_5, ↓W_move5, ↓W_var6, ↓W_varo6, ↓W_vark6, ↓Set_6, ↓W_ixC6, ↓WS_app6, ↓App_6, ↓W_move6, ↓W_var7, ↓W_varo7, ↓W_vark7, ↓Set_7, ↓W_ixC7, ↓WS_app7, ↓App_7, ↓W_move7, ↓W_var8, ↓W_varo8, ↓W_vark8, ↓Set_8, ↓W_ixC8, ↓WS_app8, ↓App_8, ↓W_move8, ↓W_var9, ↓W_varo9, ↓W_vark9, ↓Set_9, ↓W_ixC9, ↓WS_app9, ↓App_9, ↓W_move9, ↓W_var10, ↓W_varo10, ↓W_vark10, ↓Set_10, ↓W_ixC10, ↓WS_app10, ↓App_10, ↓W_move10, ↓W_var11, ↓W_varo11, ↓W_vark11, ↓Set_11, ↓W_ixC11, ↓WS_app11, ↓App_11, ↓W_move11, ↓W_var12, ↓W_varo12, ↓W_vark12, ↓Set_12, ↓W_ixC12, ↓WS_app12, ↓App_12, ↓W_move12, ↓W_var13, ↓W_varo13, ↓W_vark13, ↓Set_13, ↓W_ixC13, ↓WS_app13, ↓App_13, ↓W_move13, ↓W_var14, ↓W_varo14, ↓W_vark14, ↓Set_14, ↓W_ixC14, ↓WS_app14, ↓App_14, ↓W_move14, ↓W_var15, ↓W_varo15, ↓W_vark15, ↓Set_15, ↓W_ixC15, ↓WS_app15, ↓App_15, ↓W_move15, ↓L_at0, ↓L_at1, ↓L_at2, ↓L_at3, ↓L_at4, ↓L_at5, ↓L_at6, ↓L_at7, ↓L_at8, ↓Put_0, ↓Put_1, ↓Put_2, wipeS, List.set_cons_zero, List.set_cons_succ, List.length_map]
      generalize z4 % 2 = big at q0 q1
      refine ⟨by decide, pickL q0 (show big < ((2 : Nat) : Int) by omega) fun gd hg => ?_⟩
      have hg : ∃ G : Int, gd = .int G ∧ 1 ≤ G ∧ G ≤ 2000 := by
        simp only [List.mem_cons, List.not_mem_nil, or_false] at hg
        rcases hg with rfl | rfl
        · exact ⟨_, rfl, by decide, by decide⟩
        · exact ⟨_, rfl, by decide, by decide⟩
      obtain ⟨G, rfl, g1, g2⟩ := hg
      have p0 := Int.emod_nonneg z3 (show G ≠ 0 by omega)
      have p1 := Int.emod_lt_of_pos z3 (show (0 : Int) < G by omega)
      try simp only [↓W_bind, ↓W_ret, ↓W_lift, ↓L_some, ↓L_map, ↓WS_eseq, ↓WS_seq, ↓WS_nil, ↓WS_pass, ↓WS_break, ↓WS_cont, ↓WS_never, ↓WS_set, ↓WS_ret, ↓WS_retN, ↓WS_drop, ↓WS_asg, ↓WS_if, ↓ifS_t, ↓ifS_f, ↓ifS_not, ↓ifS_dec, ↓ifM_t, ↓ifM_f, ↓ifM_not, ↓ifM_dec, ↓W_C, ↓W_2, ↓W_1, ↓W_A, ↓W_AL, ↓W_2L, ↓W_nilA, ↓W_consA, ↓W_B, ↓L_asB, ↓W_not, ↓W_tnot, ↓W_and, ↓W_or, ↓W_tand, ↓W_tor, ↓W_if, ↓W_chain, ↓L_bindB, ↓W_tup, ↓W_lst, ↓W_dat, ↓W_fz, ↓L_asD, ↓L_asO, ↓W_someI, ↓L_asI, ↓L_asI1, ↓W_noneI, ↓W_slL, ↓L_cut, ↓WS_for, ↓WS_while, ↓WS_put, ↓W_lc0, ↓W_itL, ↓L_asL, ↓W_itT, ↓L_asT, ↓W_itA, ↓W_itES, ↓L_add, ↓L_sub, ↓L_lt, ↓L_le, ↓L_gt, ↓L_ge, ↓L_neg, ↓L_mul, ↓L_mod, ↓L_div, ↓L_pow, ↓L_eqI, ↓L_neI, ↓L_eqL, ↓L_neL, ↓L_eqT, ↓L_neT, ↓L_eqS, ↓L_neS, ↓L_isN, ↓L_isNotN, ↓L_lenL, ↓L_lenT, ↓L_int, ↓L_intb, ↓L_max, ↓L_min, ↓L_cat, ↓L_ixL, ↓L_ixT, ↓L_rep, ↓L_r1, ↓L_r2, ↓L_en, ↓L_enS, ↓L_zip, ↓L_inL, ↓L_ninL, ↓L_isi, ↓L_ii, ↓L_ib, ↓L_il, ↓LB_nil, ↓LB_name, ↓LB_bind, ↓LB_cons, ↓LB_tup, ↓W_call, ↓W_callD, ↓W_aNil, ↓W_aCons, ↓W_aBor, ↓W_callB, ↓W_scr, ↓L_sort, ↓ifM_nT, ↓ifS_nT, ↓ifM_nL, ↓ifS_nL, ↓ifM_nI, ↓ifS_nI, ↓ifM_nS, ↓ifS_nS, ↓ifM_nB, ↓ifS_nB, ↓ifM_nN, ↓ifS_nN, ↓W_var0, ↓W_varo0, ↓W_vark0, ↓Set_0, ↓W_ixC0, ↓WS_app0, ↓App_0, ↓W_move0, ↓W_var1, ↓W_varo1, ↓W_vark1, ↓Set_1, ↓W_ixC1, ↓WS_app1, ↓App_1, ↓W_move1, ↓W_var2, ↓W_varo2, ↓W_vark2, ↓Set_2, ↓W_ixC2, ↓WS_app2, ↓App_2, ↓W_move2, ↓W_var3, ↓W_varo3, ↓W_vark3, ↓Set_3, ↓W_ixC3, ↓WS_app3, ↓App_3, ↓W_move3, ↓W_var4, ↓W_varo4, ↓W_vark4, ↓Set_4, ↓W_ixC4, ↓WS_app4, ↓App_4, ↓W_move4, ↓W_var5, ↓W_varo5, ↓W_vark5, ↓Set_5, ↓W_ixC5, ↓WS_app5, ↓App_5, ↓W_move5, ↓W_var6, ↓W_varo6, ↓W_vark6, ↓Set_6, ↓W_ixC6, ↓WS_app6, ↓App_6, ↓W_move6, ↓W_var7, ↓W_varo7, ↓W_vark7, ↓Set_7, ↓W_ixC7, ↓WS_app7, ↓App_7, ↓W_move7, ↓W_var8, ↓W_varo8, ↓W_vark8, ↓Set_8, ↓W_ixC8, ↓WS_app8, ↓App_8, ↓W_move8, ↓W_var9, ↓W_varo9, ↓W_vark9, ↓Set_9, ↓W_ixC9, ↓WS_app9, ↓App_9, ↓W_move9, ↓W_var10, ↓W_varo10, ↓W_vark10, ↓Set_10, ↓W_ixC10, ↓WS_app10, ↓App_10, ↓W_move10, ↓W_var11, ↓W_varo11, ↓W_vark11, ↓Set_11, ↓W_ixC11, ↓WS_app11, ↓App_11, ↓W_move11, ↓W_var12, ↓W_varo12, ↓W_vark12, ↓Set_12, ↓W_ixC12, ↓WS_app12, ↓App_12, ↓W_move12, ↓W_var13, ↓W_varo13, ↓W_vark13, ↓Set_13, ↓W_ixC13, ↓WS_app13, ↓App_13, ↓W_move13, ↓W_var14, ↓W_varo14, ↓W_vark14, ↓Set_14, ↓W_ixC14, ↓WS_app14, ↓App_14, ↓W_move14, ↓W_var15, ↓W_varo15, ↓W_vark15, ↓Set_15, ↓W_ixC15, ↓WS_app15, ↓App_15, ↓W_move15, ↓L_at0, ↓L_at1, ↓L_at2, ↓L_at3, ↓L_at4, ↓L_at5, ↓L_at6, ↓L_at7, ↓L_at8, ↓Put_0, ↓Put_1, ↓Put_2, wipeS, List.set_cons_zero, List.set_cons_succ, List.length_map]
      simp only [Fn_2 (t_fright (a := (z2 % 1000000 - 500000) * F) (m := 1 + z3 % G) (by omega) (by omega)), ↓W_bind, ↓W_ret, ↓W_lift, ↓L_some, ↓L_map, ↓WS_eseq, ↓WS_seq, ↓WS_nil, ↓WS_pass, ↓WS_break, ↓WS_cont, ↓WS_never, ↓WS_set, ↓WS_ret, ↓WS_retN, ↓WS_drop, ↓WS_asg, ↓WS_if, ↓ifS_t, ↓ifS_f, ↓ifS_not, ↓ifS_dec, ↓ifM_t, ↓ifM_f, ↓ifM_not, ↓ifM_dec, ↓W_C, ↓W_2, ↓W_1, ↓W_A, ↓W_AL, ↓W_2L, ↓W_nilA, ↓W_consA, ↓W_B, ↓L_asB, ↓W_not, ↓W_tnot, ↓W_and, ↓W_or, ↓W_tand, ↓W_tor, ↓W_if, ↓W_chain, ↓L_bindB, ↓W_tup, ↓W_lst, ↓W_dat, ↓W_fz, ↓L_asD, ↓L_asO, ↓W_someI, ↓L_asI, ↓L_asI1, ↓W_noneI, ↓W_slL, ↓L_cut, ↓WS_for, ↓WS_while, ↓WS_put, ↓W_lc0, ↓W_itL, ↓L_asL, ↓W_itT, ↓L_asT, ↓W_itA, ↓W_itES, ↓L_add, ↓L_sub, ↓L_lt, ↓L_le, ↓L_gt, ↓L_ge, ↓L_neg, ↓L_mul, ↓L_mod, ↓L_div, ↓L_pow, ↓L_eqI, ↓L_neI, ↓L_eqL, ↓L_neL, ↓L_eqT, ↓L_neT, ↓L_eqS, ↓L_neS, ↓L_isN, ↓L_isNotN, ↓L_lenL, ↓L_lenT, ↓L_int, ↓L_intb, ↓L_max, ↓L_min, ↓L_cat, ↓L_ixL, ↓L_ixT, ↓L_rep, ↓L_r1, ↓L_r2, ↓L_en, ↓L_enS, ↓L_zip, ↓L_inL, ↓L_ninL, ↓L_isi, ↓L_ii, ↓L_ib, ↓L_il, ↓LB_nil, ↓LB_name, ↓LB_bind, ↓LB_cons, ↓LB_tup, ↓W_call, ↓W_callD, ↓W_aNil, ↓W_aCons, ↓W_aBor, ↓W_callB, ↓W_scr, ↓L_sort, ↓ifM_nT, ↓ifS_nT, ↓ifM_nL, ↓ifS_nL, ↓ifM_nI, ↓ifS_nI, ↓ifM_nS, ↓ifS_nS, ↓ifM_nB, ↓ifS_nB, ↓ifM_nN, ↓ifS_nN, ↓W_var0, ↓W_varo0, ↓W_vark0, ↓Set_0, ↓W_ixC0, ↓WS_app0, ↓App_0, ↓W_move0, ↓W_var1, ↓W_varo1, ↓W_vark1, ↓Set_1, ↓W_ixC1, ↓WS_app1, ↓App_1, ↓W_move1, ↓W_var2, ↓W_varo2, ↓W_vark2, ↓Set_2, ↓W_ixC2, ↓WS_app2, ↓App_2, ↓W_move2, ↓W_var3, ↓W_varo3, ↓W_vark3, ↓Set_3, ↓W_ixC3, ↓WS_app3, ↓App_3, ↓W_move3, ↓W_var4, ↓W_varo4, ↓W_vark4, ↓Set_4, ↓W_ixC4, ↓WS_app4, ↓App_4, ↓W_move4, ↓W_var5, ↓W_varo5, ↓W_vark5, ↓Set_5, ↓W_ixC5, ↓WS_app5, ↓App_5, ↓W_move5, ↓W_var6, ↓W_varo6, ↓W_vark6, ↓Set_6, ↓W_ixC6, ↓WS_app6, ↓App_6, ↓W_move6, ↓W_var7, ↓W_varo7, ↓W_vark7, ↓Set_7, ↓W_ixC7, ↓WS_app7, ↓App_7, ↓W_move7, ↓W_var8, ↓W_varo8, ↓W_vark8, ↓Set_8, ↓W_ixC8, ↓WS_app8, ↓App_8, ↓W_move8, ↓W_var9, ↓W_varo9, ↓W_vark9, ↓Set_9, ↓W_ixC9, ↓WS_app9, ↓App_9, ↓W_move9, ↓W_var10, ↓W_varo10, ↓W_vark10, ↓Set_10, ↓W_ixC10, ↓WS_app10, ↓App_10, ↓W_move10, ↓W_var11, ↓W_varo11, ↓W_vark11, ↓Set_11, ↓W_ixC11, ↓WS_app11, ↓App_11, ↓W_move11, ↓W_var12, ↓W_varo12, ↓W_vark12, ↓Set_12, ↓W_ixC12, ↓WS_app12, ↓App_12, ↓W_move12, ↓W_var13, ↓W_varo13, ↓W_vark13, ↓Set_13, ↓W_ixC13, ↓WS_app13, ↓App_13, ↓W_move13, ↓W_var14, ↓W_varo14, ↓W_vark14, ↓Set_14, ↓W_ixC14, ↓WS_app14, ↓App_14, ↓W_move14, ↓W_var15, ↓W_varo15, ↓W_vark15, ↓Set_15, ↓W_ixC15, ↓WS_app15, ↓App_15, ↓W_move15, ↓L_at0, ↓L_at1, ↓L_at2, ↓L_at3, ↓L_at4, ↓L_at5, ↓L_at6, ↓L_at7, ↓L_at8, ↓Put_0, ↓Put_1, ↓Put_2, wipeS, List.set_cons_zero, List.set_cons_succ, List.length_map]
      refine ⟨by omega, rfl, draw_table rfl hD4 (by omega) fun ls v d5 g hal hD5 => ?_⟩
      simp only [L_asK, Fn_1 (t_drawn g hal), ↓W_bind, ↓W_ret, ↓W_lift, ↓L_some, ↓L_map, ↓WS_eseq, ↓WS_seq, ↓WS_nil, ↓WS_pass, ↓WS_break, ↓WS_cont, ↓WS_never, ↓WS_set, ↓WS_ret, ↓WS_retN, ↓WS_drop, ↓WS_asg, ↓WS_if, ↓ifS_t, ↓ifS_f, ↓ifS_not, ↓ifS_dec, ↓ifM_t, ↓ifM_f, ↓ifM_not, ↓ifM_dec, ↓W_C, ↓W_2, ↓W_1, ↓W_A, ↓W_AL, ↓W_2L, ↓W_nilA, ↓W_consA, ↓W_B, ↓L_asB, ↓W_not, ↓W_tnot, ↓W_and, ↓W_or, ↓W_tand, ↓W_tor, ↓W_if, ↓W_chain, ↓L_bindB, ↓W_tup, ↓W_lst, ↓W_dat, ↓W_fz, ↓L_asD, ↓L_asO, ↓W_someI, ↓L_asI, ↓L_asI1, ↓W_noneI, ↓W_slL, ↓L_cut, ↓WS_for, ↓WS_while, ↓WS_put, ↓W_lc0, ↓W_itL, ↓L_asL, ↓W_itT, ↓L_asT, ↓W_itA, ↓W_itES, ↓L_add, ↓L_sub, ↓L_lt, ↓L_le, ↓L_gt, ↓L_ge, ↓L_neg, ↓L_mul, ↓L_mod, ↓L_div, ↓L_pow, ↓L_eqI, ↓L_neI, ↓L_eqL, ↓L_neL, ↓L_eqT, ↓L_neT, ↓L_eqS, ↓L_neS, ↓L_isN, ↓L_isNotN, ↓L_lenL, ↓L_lenT, ↓L_int, ↓L_intb, ↓L_max, ↓L_min, ↓L_cat, ↓L_ixL, ↓L_ixT, ↓L_rep, ↓L_r1, ↓L_r2, ↓L_en, ↓L_enS, ↓L_zip, ↓L_inL, ↓L_ninL, ↓L_isi, ↓L_ii, ↓L_ib, ↓L_il, ↓LB_nil, ↓LB_name, ↓LB_bind, ↓LB_cons, ↓LB_tup, ↓W_call, ↓W_callD, ↓W_aNil, ↓W_aCons, ↓W_aBor, ↓W_callB, ↓W_scr, ↓L_sort, ↓ifM_nT, ↓ifS_nT, ↓ifM_nL, ↓ifS_nL, ↓ifM_nI, ↓ifS_nI, ↓ifM_nS, ↓ifS_nS, ↓ifM_nB, ↓ifS_nB, ↓ifM_nN, ↓ifS_nN, ↓W_var0, ↓W_varo0, ↓W_vark0, ↓Set_0, ↓W_ixC0, ↓WS_app0, ↓App_0, ↓W_move0, ↓W_var1, ↓W_varo1, ↓W_vark1, ↓Set_1, ↓W_ixC1, ↓WS_app1, ↓App_1, ↓W_move1, ↓W_var2, ↓W_varo2, ↓W_vark2, ↓Set_2, ↓W_ixC2, ↓WS_app2, ↓App_2, ↓W_move2, ↓W_var3, ↓W_varo3, ↓W_vark3, ↓Set_3, ↓W_ixC3, ↓WS_app3, ↓App_3, ↓W_move3, ↓W_var4, ↓W_varo4, ↓W_vark4, ↓Set_4, ↓W_ixC4, ↓WS_app4, ↓App_4, ↓W_move4, ↓W_var5, ↓W_varo5, ↓W_vark5, ↓Set_5, ↓W_ixC5, ↓WS_app5, ↓App_5, ↓W_move5, ↓W_var6, ↓W_varo6, ↓W_vark6, ↓Set_6, ↓W_ixC6, ↓WS_app6, ↓App_6, ↓W_move6, ↓W_var7, ↓W_varo7, ↓W_vark7, ↓Set_7, ↓W_ixC7, ↓WS_app7, ↓App_7, ↓W_move7, ↓W_var8, ↓W_varo8, ↓W_vark8, ↓Set_8, ↓W_ixC8, ↓WS_app8, ↓App_8, ↓W_move8, ↓W_var9, ↓W_varo9, ↓W_vark9, ↓Set_9, ↓W_ixC9, ↓WS_app9, ↓App_9, ↓W_move9, ↓W_var10, ↓W_varo10, ↓W_vark10, ↓Set_10, ↓W_ixC10, ↓WS_app10, ↓App_10, ↓W_move10, ↓W_var11, ↓W_varo11, ↓W_vark11, ↓Set_11, ↓W_ixC11, ↓WS_app11, ↓App_11, ↓W_move11, ↓W_var12, ↓W_varo12, ↓W_vark12, ↓Set_12, ↓W_ixC12, ↓WS_app12, ↓App_12, ↓W_move12, ↓W_var13, ↓W_varo13, ↓W_vark13, ↓Set_13, ↓W_ixC13, ↓WS_app13, ↓App_13, ↓W_move13, ↓W_var14, ↓W_varo14, ↓W_vark14, ↓Set_14, ↓W_ixC14, ↓WS_app14, ↓App_14, ↓W_move14, ↓W_var15, ↓W_varo15, ↓W_vark15, ↓Set_15, ↓W_ixC15, ↓WS_app15, ↓App_15, ↓W_move15, ↓L_at0, ↓L_at1, ↓L_at2, ↓L_at3, ↓L_at4, ↓L_at5, ↓L_at6, ↓L_at7, ↓L_at8, ↓Put_0, ↓Put_1, ↓Put_2, wipeS, List.set_cons_zero, List.set_cons_succ, List.length_map]
      exact ⟨_, _, _, rfl⟩
    · obtain ⟨x2, x3, x4, rfl⟩ := hs
      try simp only [↓W_bind, ↓W_ret, ↓W_lift, ↓L_some, ↓L_map, ↓WS_eseq, ↓WS_seq, ↓WS_nil, ↓WS_pass, ↓WS_break, ↓WS_cont, ↓WS_never, ↓WS_set, ↓WS_ret, ↓WS_retN, ↓WS_drop, ↓WS_asg, ↓WS_if, ↓ifS_t, ↓ifS_f, ↓ifS_not, ↓ifS_dec, ↓ifM_t, ↓ifM_f, ↓ifM_not, ↓ifM_dec, ↓W_C, ↓W_2, ↓W_1, ↓W_A, ↓W_AL, ↓W_2L, ↓W_nilA, ↓W_consA, ↓W_B, ↓L_asB, ↓W_not, ↓W_tnot, ↓W_and, ↓W_or, ↓W_tand, ↓W_tor, ↓W_if, ↓W_chain, ↓L_bindB, ↓W_tup, ↓W_lst, ↓W_dat, ↓W_fz, ↓L_asD, ↓L_asO, ↓W_someI, ↓L_asI, ↓L_asI1, ↓W_noneI, ↓W_slL, ↓L_cut, ↓WS_for, ↓WS_while, ↓WS_put, ↓W_lc0, ↓W_itL, ↓L_asL, ↓W_itT, ↓L_asT, ↓W_itA, ↓W_itES, ↓L_add, ↓L_sub, ↓L_lt, ↓L_le, ↓L_gt, ↓L_ge, ↓L_neg, ↓L_mul, ↓L_mod, ↓L_div, ↓L_pow, ↓L_eqI, ↓L_neI, ↓L_eqL, ↓L_neL, ↓L_eqT, ↓L_neT, ↓L_eqS, ↓L_neS, ↓L_isN, ↓L_isNotN, ↓L_lenL, ↓L_lenT, ↓L_int, ↓L_intb, ↓L_max, ↓L_min, ↓L_cat, ↓L_ixL, ↓L_ixT, ↓L_rep, ↓L_r1, ↓L_r2, ↓L_en, ↓L_enS, ↓L_zip, ↓L_inL, ↓L_ninL, ↓L_isi, ↓L_ii, ↓L_ib, ↓L_il, ↓LB_nil, ↓LB_name, ↓LB_bind, ↓LB_cons, ↓LB_tup, ↓W_call, ↓W_callD, ↓W_aNil, ↓W_aCons, ↓W_aBor, ↓W_callB, ↓W_scr, ↓L_sort, ↓ifM_nT, ↓ifS_nT, ↓ifM_nL, ↓ifS_nL, ↓ifM_nI, ↓ifS_nI, ↓ifM_nS, ↓ifS_nS, ↓ifM_nB, ↓ifS_nB, ↓ifM_nN, ↓ifS_nN, ↓W_var0, ↓W_varo0, ↓W_vark0, ↓Set_0, ↓W_ixC0, ↓WS_app0, ↓App_0, ↓W_move0, ↓W_var1, ↓W_varo1, ↓W_vark1, ↓Set_1, ↓W_ixC1, ↓WS_app1, ↓App_1, ↓W_move1, ↓W_var2, ↓W_varo2, ↓W_vark2, ↓Set_2, ↓W_ixC2, ↓WS_app2, ↓App_2, ↓W_move2, ↓W_var3, ↓W_varo3, ↓W_vark3, ↓Set_3, ↓W_ixC3, ↓WS_app3, ↓App_3, ↓W_move3, ↓W_var4, ↓W_varo4, ↓W_vark4, ↓Set_4, ↓W_ixC4, ↓WS_app4, ↓App_4, ↓W_move4, ↓W_var5, ↓W_varo5, ↓W_vark5, ↓Set_5, ↓W_ixC5, ↓WS_app5, ↓App_5, ↓W_move5, ↓W_var6, ↓W_varo6, ↓W_vark6, ↓Set_6, ↓W_ixC6, ↓WS_app6, ↓App_6, ↓W_move6, ↓W_var7, ↓W_varo7, ↓W_vark7, ↓Set_7, ↓W_ixC7, ↓WS_app7, ↓App_7, ↓W_move7, ↓W_var8, ↓W_varo8, ↓W_vark8, ↓Set_8, ↓W_ixC8, ↓WS_app8, ↓App_8, ↓W_move8, ↓W_var9, ↓W_varo9, ↓W_vark9, ↓Set_9, ↓W_ixC9, ↓WS_app9, ↓App_9, ↓W_move9, ↓W_var10, ↓W_varo10, ↓W_vark10, ↓Set_10, ↓W_ixC10, ↓WS_app10, ↓App_10, ↓W_move10, ↓W_var11, ↓W_varo11, ↓W_vark11, ↓Set_11, ↓W_ixC11, ↓WS_app11, ↓App_11, ↓W_move11, ↓W_var12, ↓W_varo12, ↓W_vark12, ↓Set_12, ↓W_ixC12, ↓WS_app12, ↓App_12, ↓W_move12, ↓W_var13, ↓W_varo13, ↓W_vark13, ↓Set_13, ↓W_ixC13, ↓WS_app13, ↓App_13, ↓W_move13, ↓W_var14, ↓W_varo14, ↓W_vark14, ↓Set_14, ↓W_ixC14, ↓WS_app14, ↓App_14, ↓W_move14, ↓W_var15, ↓W_varo15, ↓W_vark15, ↓Set_15, ↓W_ixC15, ↓WS_app15, ↓App_15, ↓W_move15, ↓L_at0, ↓L_at1, ↓L_at2, ↓L_at3, ↓L_at4, ↓L_at5, ↓L_at6, ↓L_at7, ↓L_at8, ↓Put_0, ↓Put_1, ↓Put_2, wipeS, List.set_cons_zero, List.set_cons_succ, List.length_map]
      iterate 16 refine And.intro (by simp) ?_
      have hlots : ∀ d ∈ ([.tuple [.int 0, .int 1], .tuple [.int 0, .int 2], .tuple [.int 1, .int 7], .tuple [.int (-1), .int 7], .tuple [.int (-1), .int 2], .tuple [.int 2, .int 8192], .tuple [.int 10, .int 10000], .tuple [.int 5, .int 9973], .tuple [.int (-1), .int 1], .tuple [.int 6, .int 36]] ++ [.tuple [.int 7, .int 1], .tuple [.int 2, .int 12], .tuple [.int 0, .int 5], .tuple [.int 997300000000000000000011, .int 9973]] : List PyData), ∃ a b : Int, d = .tuple [.int a, .int b] ∧ 1 ≤ b ∧ b ≤ 10000 := fun d this => by
        simp only [List.cons_append, List.nil_append, List.mem_cons, List.not_mem_nil, or_false] at this
        rcases this with rfl | rfl | rfl | rfl | rfl | rfl | rfl | rfl | rfl | rfl | rfl | rfl | rfl | rfl <;> exact ⟨_, _, rfl, by decide, by decide⟩
      generalize ([.tuple [.int 0, .int 1], .tuple [.int 0, .int 2], .tuple [.int 1, .int 7], .tuple [.int (-1), .int 7], .tuple [.int (-1), .int 2], .tuple [.int 2, .int 8192], .tuple [.int 10, .int 10000], .tuple [.int 5, .int 9973], .tuple [.int (-1), .int 1], .tuple [.int 6, .int 36]] ++ [.tuple [.int 7, .int 1], .tuple [.int 2, .int 12], .tuple [.int 0, .int 5], .tuple [.int 997300000000000000000011, .int 9973]] : List PyData) = lots at hlots ⊢
      refine And.intro (by simp) ?_
      generalize hx5 : SV.dat (PyData.list [PyData.tuple [PyData.int 0, PyData.int 1], _, _, _, _, _, _, _, _, _]) = x5
      refine WS_forGo (i0 := 0) (fun i s => ∃ x3 x4, s = [.oth (.scr K ns), .gone, x2, x3, x4, x5, .gone, .gone]) ⟨_, _, rfl⟩ (fun i d hd s hs => ?_) fun s hs => ?_
      · obtain ⟨x3, x4, rfl⟩ := hs
        have hd := hlots d (List.mem_of_getElem? hd)
        obtain ⟨a, b, rfl, b1, b2⟩ := hd
        simp only [Fn_2 (t_fright (a := a) (m := b) b1 b2), ↓W_bind, ↓W_ret, ↓W_lift, ↓L_some, ↓L_map, ↓WS_eseq, ↓WS_seq, ↓WS_nil, ↓WS_pass, ↓WS_break, ↓WS_cont, ↓WS_never, ↓WS_set, ↓WS_ret, ↓WS_retN, ↓WS_drop, ↓WS_asg, ↓WS_if, ↓ifS_t, ↓ifS_f, ↓ifS_not, ↓ifS_dec, ↓ifM_t, ↓ifM_f, ↓ifM_not, ↓ifM_dec, ↓W_C, ↓W_2, ↓W_1, ↓W_A, ↓W_AL, ↓W_2L, ↓W_nilA, ↓W_consA, ↓W_B, ↓L_asB, ↓W_not, ↓W_tnot, ↓W_and, ↓W_or, ↓W_tand, ↓W_tor, ↓W_if, ↓W_chain, ↓L_bindB, ↓W_tup, ↓W_lst, ↓W_dat, ↓W_fz, ↓L_asD, ↓L_asO, ↓W_someI, ↓L_asI, ↓L_asI1, ↓W_noneI, ↓W_slL, ↓L_cut, ↓WS_for, ↓WS_while, ↓WS_put, ↓W_lc0, ↓W_itL, ↓L_asL, ↓W_itT, ↓L_asT, ↓W_itA, ↓W_itES, ↓L_add, ↓L_sub, ↓L_lt, ↓L_le, ↓L_gt, ↓L_ge, ↓L_neg, ↓L_mul, ↓L_mod, ↓L_div, ↓L_pow, ↓L_eqI, ↓L_neI, ↓L_eqL, ↓L_neL, ↓L_eqT, ↓L_neT, ↓L_eqS, ↓L_neS, ↓L_isN, ↓L_isNotN, ↓L_lenL, ↓L_lenT, ↓L_int, ↓L_intb, ↓L_max, ↓L_min, ↓L_cat, ↓L_ixL, ↓L_ixT, ↓L_rep, ↓L_r1, ↓L_r2, ↓L_en, ↓L_enS, ↓L_zip, ↓L_inL, ↓L_ninL, ↓L_isi, ↓L_ii, ↓L_ib, ↓L_il, ↓LB_nil, ↓LB_name, ↓LB_bind, ↓LB_cons, ↓LB_tup, ↓W_call, ↓W_callD, ↓W_aNil, ↓W_aCons, ↓W_aBor, ↓W_callB, ↓W_scr, ↓L_sort, ↓ifM_nT, ↓ifS_nT, ↓ifM_nL, ↓ifS_nL, ↓ifM_nI, ↓ifS_nI, ↓ifM_nS, ↓ifS_nS, ↓ifM_nB, ↓ifS_nB, ↓ifM_nN, ↓ifS_nN, ↓W_var0, ↓W_varo0, ↓W_vark0, ↓Set_0, ↓W_ixC0, ↓WS_app0, ↓App_0, ↓W_move0, ↓W_var1, ↓W_varo1, ↓W_vark1, ↓Set_1, ↓W_ixC1, ↓WS_app1, ↓App_1, ↓W_move1, ↓W_var2, ↓W_varo2, ↓W_vark2, ↓Set_2, ↓W_ixC2, ↓WS_app2, ↓App_2, ↓W_move2, ↓W_var3, ↓W_varo3, ↓W_vark3, ↓Set_3, ↓W_ixC3, ↓WS_app3, ↓App_3, ↓W_move3, ↓W_var4, ↓W_varo4, ↓W_vark4, ↓Set_4, ↓W_ixC4, ↓WS_app4, ↓App_4, ↓W_move4, ↓W_var5, ↓W_varo5, ↓W_vark5, ↓Set_5, ↓W_ixC5, ↓WS_app5, ↓App_5, ↓W_move5, ↓W_var6, ↓W_varo6, ↓W_vark6, ↓Set_6, ↓W_ixC6, ↓WS_app6, ↓App_6, ↓W_move6, ↓W_var7, ↓W_varo7, ↓W_vark7, ↓Set_7, ↓W_ixC7, ↓WS_app7, ↓App_7, ↓W_move7, ↓W_var8, ↓W_varo8, ↓W_vark8, ↓Set_8, ↓W_ixC8, ↓WS_app8, ↓App_8, ↓W_move8, ↓W_var9, ↓W_varo9, ↓W_vark9, ↓Set_9, ↓W_ixC9, ↓WS_app9, ↓App_9, ↓W_move9, ↓W_var10, ↓W_varo10, ↓W_vark10, ↓Set_10, ↓W_ixC10, ↓WS_app10, ↓App_10, ↓W_move10, ↓W_var11, ↓W_varo11, ↓W_vark11, ↓Set_11, ↓W_ixC11, ↓WS_app11, ↓App_11, ↓W_move11, ↓W_var12, ↓W_varo12, ↓W_vark12, ↓Set_12, ↓W_ixC12, ↓WS_app12, ↓App_12, ↓W_move12, ↓W_var13, ↓W_varo13, ↓W_vark13, ↓Set_13, ↓W_ixC13, ↓WS_app13, ↓App_13, ↓W_move13, ↓W_var14, ↓W_varo14, ↓W_vark14, ↓Set_14, ↓W_ixC14, ↓WS_app14, ↓App_14, ↓W_move14, ↓W_var15, ↓W_varo15, ↓W_vark15, ↓Set_15, ↓W_ixC15, ↓WS_app15, ↓App_15, ↓W_move15, ↓L_at0, ↓L_at1, ↓L_at2, ↓L_at3, ↓L_at4, ↓L_at5, ↓L_at6, ↓L_at7, ↓L_at8, ↓Put_0, ↓Put_1, ↓Put_2, wipeS, List.set_cons_zero, List.set_cons_succ, List.length_map]
        exact ⟨rfl, _, _, rfl⟩
      · obtain ⟨x3, x4, rfl⟩ := hs
        obtain ⟨o1, o2, o3, o4, o5, o6, o7, o8, o9⟩ := ok_p
        simp only [W_d1, W_d2, W_d3, W_d4, W_d5, W_d6, L_asK, ↓W_bind, ↓W_ret, ↓W_lift, ↓L_some, ↓L_map, ↓WS_eseq, ↓WS_seq, ↓WS_nil, ↓WS_pass, ↓WS_break, ↓WS_cont, ↓WS_never, ↓WS_set, ↓WS_ret, ↓WS_retN, ↓WS_drop, ↓WS_asg, ↓WS_if, ↓ifS_t, ↓ifS_f, ↓ifS_not, ↓ifS_dec, ↓ifM_t, ↓ifM_f, ↓ifM_not, ↓ifM_dec, ↓W_C, ↓W_2, ↓W_1, ↓W_A, ↓W_AL, ↓W_2L, ↓W_nilA, ↓W_consA, ↓W_B, ↓L_asB, ↓W_not, ↓W_tnot, ↓W_and, ↓W_or, ↓W_tand, ↓W_tor, ↓W_if, ↓W_chain, ↓L_bindB, ↓W_tup, ↓W_lst, ↓W_dat, ↓W_fz, ↓L_asD, ↓L_asO, ↓W_someI, ↓L_asI, ↓L_asI1, ↓W_noneI, ↓W_slL, ↓L_cut, ↓WS_for, ↓WS_while, ↓WS_put, ↓W_lc0, ↓W_itL, ↓L_asL, ↓W_itT, ↓L_asT, ↓W_itA, ↓W_itES, ↓L_add, ↓L_sub, ↓L_lt, ↓L_le, ↓L_gt, ↓L_ge, ↓L_neg, ↓L_mul, ↓L_mod, ↓L_div, ↓L_pow, ↓L_eqI, ↓L_neI, ↓L_eqL, ↓L_neL, ↓L_eqT, ↓L_neT, ↓L_eqS, ↓L_neS, ↓L_isN, ↓L_isNotN, ↓L_lenL, ↓L_lenT, ↓L_int, ↓L_intb, ↓L_max, ↓L_min, ↓L_cat, ↓L_ixL, ↓L_ixT, ↓L_rep, ↓L_r1, ↓L_r2, ↓L_en, ↓L_enS, ↓L_zip, ↓L_inL, ↓L_ninL, ↓L_isi, ↓L_ii, ↓L_ib, ↓L_il, ↓LB_nil, ↓LB_name, ↓LB_bind, ↓LB_cons, ↓LB_tup, ↓W_call, ↓W_callD, ↓W_aNil, ↓W_aCons, ↓W_aBor, ↓W_callB, ↓W_scr, ↓L_sort, ↓ifM_nT, ↓ifS_nT, ↓ifM_nL, ↓ifS_nL, ↓ifM_nI, ↓ifS_nI, ↓ifM_nS, ↓ifS_nS, ↓ifM_nB, ↓ifS_nB, ↓ifM_nN, ↓ifS_nN, ↓W_var0, ↓W_varo0, ↓W_vark0, ↓Set_0, ↓W_ixC0, ↓WS_app0, ↓App_0, ↓W_move0, ↓W_var1, ↓W_varo1, ↓W_vark1, ↓Set_1, ↓W_ixC1, ↓WS_app1, ↓App_1, ↓W_move1, ↓W_var2, ↓W_varo2, ↓W_vark2, ↓Set_2, ↓W_ixC2, ↓WS_app2, ↓App_2, ↓W_move2, ↓W_var3, ↓W_varo3, ↓W_vark3, ↓Set_3, ↓W_ixC3, ↓WS_app3, ↓App_3, ↓W_move3, ↓W_var4, ↓W_varo4, ↓W_vark4, ↓Set_4, ↓W_ixC4, ↓WS_app4, ↓App_4, ↓W_move4, ↓W_var5, ↓W_varo5, ↓W_vark5, ↓Set_5, ↓W_ixC5, ↓WS_app5, ↓App_5, ↓W_move5, ↓W_var6, ↓W_varo6, ↓W_vark6, ↓Set_6, ↓W_ixC6, ↓WS_app6, ↓App_6, ↓W_move6, ↓W_var7, ↓W_varo7, ↓W_vark7, ↓Set_7, ↓W_ixC7, ↓WS_app7, ↓App_7, ↓W_move7, ↓W_var8, ↓W_varo8, ↓W_vark8, ↓Set_8, ↓W_ixC8, ↓WS_app8, ↓App_8, ↓W_move8, ↓W_var9, ↓W_varo9, ↓W_vark9, ↓Set_9, ↓W_ixC9, ↓WS_app9, ↓App_9, ↓W_move9, ↓W_var10, ↓W_varo10, ↓W_vark10, ↓Set_10, ↓W_ixC10, ↓WS_app10, ↓App_10, ↓W_move10, ↓W_var11, ↓W_varo11, ↓W_vark11, ↓Set_11, ↓W_ixC11, ↓WS_app11, ↓App_11, ↓W_move11, ↓W_var12, ↓W_varo12, ↓W_vark12, ↓Set_12, ↓W_ixC12, ↓WS_app12, ↓App_12, ↓W_move12, ↓W_var13, ↓W_varo13, ↓W_vark13, ↓Set_13, ↓W_ixC13, ↓WS_app13, ↓App_13, ↓W_move13, ↓W_var14, ↓W_varo14, ↓W_vark14, ↓Set_14, ↓W_ixC14, ↓WS_app14, ↓App_14, ↓W_move14, ↓W_var15, ↓W_varo15, ↓W_vark15, ↓Set_15, ↓W_ixC15, ↓WS_app15, ↓App_15, ↓W_move15, ↓L_at0, ↓L_at1, ↓L_at2, ↓L_at3, ↓L_at4, ↓L_at5, ↓L_at6, ↓L_at7, ↓L_at8, ↓Put_0, ↓Put_1, ↓Put_2, wipeS, List.set_cons_zero, List.set_cons_succ, List.length_map]
        refine ⟨by simp, by simp, by simp, ?_⟩
        generalize hx6 : SV.dat (PyData.list [PyData.dict _, _]) = x6
        refine WS_forGo (i0 := 0) (fun i s => ∃ y6, s = [.oth (.scr K ns), .gone, x2, x3, x4, x6, y6, .gone]) ⟨_, rfl⟩ (fun i d hd s hs => ?_) fun s hs => ?_
        · obtain ⟨y6, rfl⟩ := hs
          have hd : ∃ ps, okT ps = true ∧ d = .dict (tD (kyT ps) (vaT ps)) := by
            have := List.mem_of_getElem? hd
            simp only [List.cons_append, List.nil_append, List.mem_cons, List.not_mem_nil, or_false] at this
            rcases this with rfl | rfl | rfl | rfl | rfl | rfl
            · exact ⟨_, o1, rfl⟩
            · exact ⟨_, o2, rfl⟩
            · exact ⟨_, o3, rfl⟩
            · exact ⟨_, o4, rfl⟩
            · exact ⟨_, o5, rfl⟩
            · exact ⟨_, o6, rfl⟩
          obtain ⟨ps, ok, rfl⟩ := hd
          obtain ⟨g, hr⟩ := okT_g ok
          simp only [Fn_1 (t_lright g rfl hr), ↓W_bind, ↓W_ret, ↓W_lift, ↓L_some, ↓L_map, ↓WS_eseq, ↓WS_seq, ↓WS_nil, ↓WS_pass, ↓WS_break, ↓WS_cont, ↓WS_never, ↓WS_set, ↓WS_ret, ↓WS_retN, ↓WS_drop, ↓WS_asg, ↓WS_if, ↓ifS_t, ↓ifS_f, ↓ifS_not, ↓ifS_dec, ↓ifM_t, ↓ifM_f, ↓ifM_not, ↓ifM_dec, ↓W_C, ↓W_2, ↓W_1, ↓W_A, ↓W_AL, ↓W_2L, ↓W_nilA, ↓W_consA, ↓W_B, ↓L_asB, ↓W_not, ↓W_tnot, ↓W_and, ↓W_or, ↓W_tand, ↓W_tor, ↓W_if, ↓W_chain, ↓L_bindB, ↓W_tup, ↓W_lst, ↓W_dat, ↓W_fz, ↓L_asD, ↓L_asO, ↓W_someI, ↓L_asI, ↓L_asI1, ↓W_noneI, ↓W_slL, ↓L_cut, ↓WS_for, ↓WS_while, ↓WS_put, ↓W_lc0, ↓W_itL, ↓L_asL, ↓W_itT, ↓L_asT, ↓W_itA, ↓W_itES, ↓L_add, ↓L_sub, ↓L_lt, ↓L_le, ↓L_gt, ↓L_ge, ↓L_neg, ↓L_mul, ↓L_mod, ↓L_div, ↓L_pow, ↓L_eqI, ↓L_neI, ↓L_eqL, ↓L_neL, ↓L_eqT, ↓L_neT, ↓L_eqS, ↓L_neS, ↓L_isN, ↓L_isNotN, ↓L_lenL, ↓L_lenT, ↓L_int, ↓L_intb, ↓L_max, ↓L_min, ↓L_cat, ↓L_ixL, ↓L_ixT, ↓L_rep, ↓L_r1, ↓L_r2, ↓L_en, ↓L_enS, ↓L_zip, ↓L_inL, ↓L_ninL, ↓L_isi, ↓L_ii, ↓L_ib, ↓L_il, ↓LB_nil, ↓LB_name, ↓LB_bind, ↓LB_cons, ↓LB_tup, ↓W_call, ↓W_callD, ↓W_aNil, ↓W_aCons, ↓W_aBor, ↓W_callB, ↓W_scr, ↓L_sort, ↓ifM_nT, ↓ifS_nT, ↓ifM_nL, ↓ifS_nL, ↓ifM_nI, ↓ifS_nI, ↓ifM_nS, ↓ifS_nS, ↓ifM_nB, ↓ifS_nB, ↓ifM_nN, ↓ifS_nN, ↓W_var0, ↓W_varo0, ↓W_vark0, ↓Set_0, ↓W_ixC0, ↓WS_app0, ↓App_0, ↓W_move0, ↓W_var1, ↓W_varo1, ↓W_vark1, ↓Set_1, ↓W_ixC1, ↓WS_app1, ↓App_1, ↓W_move1, ↓W_var2, ↓W_varo2, ↓W_vark2, ↓Set_2, ↓W_ixC2, ↓WS_app2, ↓App_2, ↓W_move2, ↓W_var3, ↓W_varo3, ↓W_vark3, ↓Set_3, ↓W_ixC3, ↓WS_app3, ↓App_3, ↓W_move3, ↓W_var4, ↓W_varo4, ↓W_vark4, ↓Set_4, ↓W_ixC4, ↓WS_app4, ↓App_4, ↓W_move4, ↓W_var5, ↓W_varo5, ↓W_vark5, ↓Set_5, ↓W_ixC5, ↓WS_app5, ↓App_5, ↓W_move5, ↓W_var6, ↓W_varo6, ↓W_vark6, ↓Set_6, ↓W_ixC6, ↓WS_app6, ↓App_6, ↓W_move6, ↓W_var7, ↓W_varo7, ↓W_vark7, ↓Set_7, ↓W_ixC7, ↓WS_app7, ↓App_7, ↓W_move7, ↓W_var8, ↓W_varo8, ↓W_vark8, ↓Set_8, ↓W_ixC8, ↓WS_app8, ↓App_8, ↓W_move8, ↓W_var9, ↓W_varo9, ↓W_vark9, ↓Set_9, ↓W_ixC9, ↓WS_app9, ↓App_9, ↓W_move9, ↓W_var10, ↓W_varo10, ↓W_vark10, ↓Set_10, ↓W_ixC10, ↓WS_app10, ↓App_10, ↓W_move10, ↓W_var11, ↓W_varo11, ↓W_vark11, ↓Set_11, ↓W_ixC11, ↓WS_app11, ↓App_11, ↓W_move11, ↓W_var12, ↓W_varo12, ↓W_vark12, ↓Set_12, ↓W_ixC12, ↓WS_app12, ↓App_12, ↓W_move12, ↓W_var13, ↓W_varo13, ↓W_vark13, ↓Set_13, ↓W_ixC13, ↓WS_app13, ↓App_13, ↓W_move13, ↓W_var14, ↓W_varo14, ↓W_vark14, ↓Set_14, ↓W_ixC14, ↓WS_app14, ↓App_14, ↓W_move14, ↓W_var15, ↓W_varo15, ↓W_vark15, ↓Set_15, ↓W_ixC15, ↓WS_app15, ↓App_15, ↓W_move15, ↓L_at0, ↓L_at1, ↓L_at2, ↓L_at3, ↓L_at4, ↓L_at5, ↓L_at6, ↓L_at7, ↓L_at8, ↓Put_0, ↓Put_1, ↓Put_2, wipeS, List.set_cons_zero, List.set_cons_succ, List.length_map]
          exact ⟨_, rfl⟩
        · obtain ⟨y6, rfl⟩ := hs
          simp only [W_d7, W_d8, W_d9, L_asK, Fn_1 (t_colAt (okT_g o7).1 cy7), Fn_1 (t_colAt (okT_g o8).1 cy8), Fn_1 (t_colAt (okT_g o9).1 cy9), ↓W_bind, ↓W_ret, ↓W_lift, ↓L_some, ↓L_map, ↓WS_eseq, ↓WS_seq, ↓WS_nil, ↓WS_pass, ↓WS_break, ↓WS_cont, ↓WS_never, ↓WS_set, ↓WS_ret, ↓WS_retN, ↓WS_drop, ↓WS_asg, ↓WS_if, ↓ifS_t, ↓ifS_f, ↓ifS_not, ↓ifS_dec, ↓ifM_t, ↓ifM_f, ↓ifM_not, ↓ifM_dec, ↓W_C, ↓W_2, ↓W_1, ↓W_A, ↓W_AL, ↓W_2L, ↓W_nilA, ↓W_consA, ↓W_B, ↓L_asB, ↓W_not, ↓W_tnot, ↓W_and, ↓W_or, ↓W_tand, ↓W_tor, ↓W_if, ↓W_chain, ↓L_bindB, ↓W_tup, ↓W_lst, ↓W_dat, ↓W_fz, ↓L_asD, ↓L_asO, ↓W_someI, ↓L_asI, ↓L_asI1, ↓W_noneI, ↓W_slL, ↓L_cut, ↓WS_for, ↓WS_while, ↓WS_put, ↓W_lc0, ↓W_itL, ↓L_asL, ↓W_itT, ↓L_asT, ↓W_itA, ↓W_itES, ↓L_add, ↓L_sub, ↓L_lt, ↓L_le, ↓L_gt, ↓L_ge, ↓L_neg, ↓L_mul, ↓L_mod, ↓L_div, ↓L_pow, ↓L_eqI, ↓L_neI, ↓L_eqL, ↓L_neL, ↓L_eqT, ↓L_neT, ↓L_eqS, ↓L_neS, ↓L_isN, ↓L_isNotN, ↓L_lenL, ↓L_lenT, ↓L_int, ↓L_intb, ↓L_max, ↓L_min, ↓L_cat, ↓L_ixL, ↓L_ixT, ↓L_rep, ↓L_r1, ↓L_r2, ↓L_en, ↓L_enS, ↓L_zip, ↓L_inL, ↓L_ninL, ↓L_isi, ↓L_ii, ↓L_ib, ↓L_il, ↓LB_nil, ↓LB_name, ↓LB_bind, ↓LB_cons, ↓LB_tup, ↓W_call, ↓W_callD, ↓W_aNil, ↓W_aCons, ↓W_aBor, ↓W_callB, ↓W_scr, ↓L_sort, ↓ifM_nT, ↓ifS_nT, ↓ifM_nL, ↓ifS_nL, ↓ifM_nI, ↓ifS_nI, ↓ifM_nS, ↓ifS_nS, ↓ifM_nB, ↓ifS_nB, ↓ifM_nN, ↓ifS_nN, ↓W_var0, ↓W_varo0, ↓W_vark0, ↓Set_0, ↓W_ixC0, ↓WS_app0, ↓App_0, ↓W_move0, ↓W_var1, ↓W_varo1, ↓W_vark1, ↓Set_1, ↓W_ixC1, ↓WS_app1, ↓App_1, ↓W_move1, ↓W_var2, ↓W_varo2, ↓W_vark2, ↓Set_2, ↓W_ixC2, ↓WS_app2, ↓App_2, ↓W_move2, ↓W_var3, ↓W_varo3, ↓W_vark3, ↓Set_3, ↓W_ixC3, ↓WS_app3, ↓App_3, ↓W_move3, ↓W_var4, ↓W_varo4, ↓W_vark4, ↓Set_4, ↓W_ixC4, ↓WS_app4, ↓App_4, ↓W_move4, ↓W_var5, ↓W_varo5, ↓W_vark5, ↓Set_5, ↓W_ixC5, ↓WS_app5, ↓App_5, ↓W_move5, ↓W_var6, ↓W_varo6, ↓W_vark6, ↓Set_6, ↓W_ixC6, ↓WS_app6, ↓App_6, ↓W_move6, ↓W_var7, ↓W_varo7, ↓W_vark7, ↓Set_7, ↓W_ixC7, ↓WS_app7, ↓App_7, ↓W_move7, ↓W_var8, ↓W_varo8, ↓W_vark8, ↓Set_8, ↓W_ixC8, ↓WS_app8, ↓App_8, ↓W_move8, ↓W_var9, ↓W_varo9, ↓W_vark9, ↓Set_9, ↓W_ixC9, ↓WS_app9, ↓App_9, ↓W_move9, ↓W_var10, ↓W_varo10, ↓W_vark10, ↓Set_10, ↓W_ixC10, ↓WS_app10, ↓App_10, ↓W_move10, ↓W_var11, ↓W_varo11, ↓W_vark11, ↓Set_11, ↓W_ixC11, ↓WS_app11, ↓App_11, ↓W_move11, ↓W_var12, ↓W_varo12, ↓W_vark12, ↓Set_12, ↓W_ixC12, ↓WS_app12, ↓App_12, ↓W_move12, ↓W_var13, ↓W_varo13, ↓W_vark13, ↓Set_13, ↓W_ixC13, ↓WS_app13, ↓App_13, ↓W_move13, ↓W_var14, ↓W_varo14, ↓W_vark14, ↓Set_14, ↓W_ixC14, ↓WS_app14, ↓App_14, ↓W_move14, ↓W_var15, ↓W_varo15, ↓W_vark15, ↓Set_15, ↓W_ixC15, ↓WS_app15, ↓App_15, ↓W_move15, ↓L_at0, ↓L_at1, ↓L_at2, ↓L_at3, ↓L_at4, ↓L_at5, ↓L_at6, ↓L_at7, ↓L_at8, ↓Put_0, ↓Put_1, ↓Put_2, wipeS, List.set_cons_zero, List.set_cons_succ, List.length_map]
          have q1 : ∀ a b : Nat, SeqAt.shaped (.tuple [.int (a : Int), .int (b : Int)]) = true := fun _ _ => rfl
          have e1 : (PyData.tuple [.int ((1 : Nat) : Int), .int ((2 : Nat) : Int)]).eqv (.tuple [.int 1, .int 2]) = true := by decide +kernel
          have e2 : (PyData.tuple [.int ((1 : Nat) : Int), .int ((1 : Nat) : Int)]).eqv (.tuple [.int 1, .int 1]) = true := by decide +kernel
          have e3 : (PyData.tuple [.int ((0 : Nat) : Int), .int ((2 : Nat) : Int)]).eqv (.tuple [.int 0, .int 2]) = true := by decide +kernel
          simp only [e1, e2, e3, W_d8, W_d9, L_asK, Fn_1 (t_colAt (okT_g o7).1 cy7), Fn_1 (t_colAt (okT_g o8).1 cy8), Fn_1 (t_colAt (okT_g o9).1 cy9), ↓W_bind, ↓W_ret, ↓W_lift, ↓L_some, ↓L_map, ↓WS_eseq, ↓WS_seq, ↓WS_nil, ↓WS_pass, ↓WS_break, ↓WS_cont, ↓WS_never, ↓WS_set, ↓WS_ret, ↓WS_retN, ↓WS_drop, ↓WS_asg, ↓WS_if, ↓ifS_t, ↓ifS_f, ↓ifS_not, ↓ifS_dec, ↓ifM_t, ↓ifM_f, ↓ifM_not, ↓ifM_dec, ↓W_C, ↓W_2, ↓W_1, ↓W_A, ↓W_AL, ↓W_2L, ↓W_nilA, ↓W_consA, ↓W_B, ↓L_asB, ↓W_not, ↓W_tnot, ↓W_and, ↓W_or, ↓W_tand, ↓W_tor, ↓W_if, ↓W_chain, ↓L_bindB, ↓W_tup, ↓W_lst, ↓W_dat, ↓W_fz, ↓L_asD, ↓L_asO, ↓W_someI, ↓L_asI, ↓L_asI1, ↓W_noneI, ↓W_slL, ↓L_cut, ↓WS_for, ↓WS_while, ↓WS_put, ↓W_lc0, ↓W_itL, ↓L_asL, ↓W_itT, ↓L_asT, ↓W_itA, ↓W_itES, ↓L_add, ↓L_sub, ↓L_lt, ↓L_le, ↓L_gt, ↓L_ge, ↓L_neg, ↓L_mul, ↓L_mod, ↓L_div, ↓L_pow, ↓L_eqI, ↓L_neI, ↓L_eqL, ↓L_neL, ↓L_eqT, ↓L_neT, ↓L_eqS, ↓L_neS, ↓L_isN, ↓L_isNotN, ↓L_lenL, ↓L_lenT, ↓L_int, ↓L_intb, ↓L_max, ↓L_min, ↓L_cat, ↓L_ixL, ↓L_ixT, ↓L_rep, ↓L_r1, ↓L_r2, ↓L_en, ↓L_enS, ↓L_zip, ↓L_inL, ↓L_ninL, ↓L_isi, ↓L_ii, ↓L_ib, ↓L_il, ↓LB_nil, ↓LB_name, ↓LB_bind, ↓LB_cons, ↓LB_tup, ↓W_call, ↓W_callD, ↓W_aNil, ↓W_aCons, ↓W_aBor, ↓W_callB, ↓W_scr, ↓L_sort, ↓ifM_nT, ↓ifS_nT, ↓ifM_nL, ↓ifS_nL, ↓ifM_nI, ↓ifS_nI, ↓ifM_nS, ↓ifS_nS, ↓ifM_nB, ↓ifS_nB, ↓ifM_nN, ↓ifS_nN, ↓W_var0, ↓W_varo0, ↓W_vark0, ↓Set_0, ↓W_ixC0, ↓WS_app0, ↓App_0, ↓W_move0, ↓W_var1, ↓W_varo1, ↓W_vark1, ↓Set_1, ↓W_ixC1, ↓WS_app1, ↓App_1, ↓W_move1, ↓W_var2, ↓W_varo2, ↓W_vark2, ↓Set_2, ↓W_ixC2, ↓WS_app2, ↓App_2, ↓W_move2, ↓W_var3, ↓W_varo3, ↓W_vark3, ↓Set_3, ↓W_ixC3, ↓WS_app3, ↓App_3, ↓W_move3, ↓W_var4, ↓W_varo4, ↓W_vark4, ↓Set_4, ↓W_ixC4, ↓WS_app4, ↓App_4, ↓W_move4, ↓W_var5, ↓W_varo5, ↓W_vark5, ↓Set_5, ↓W_ixC5, ↓WS_app5, ↓App_5, ↓W_move5, ↓W_var6, ↓W_varo6, ↓W_vark6, ↓Set_6, ↓W_ixC6, ↓WS_app6, ↓App_6, ↓W_move6, ↓W_var7, ↓W_varo7, ↓W_vark7, ↓Set_7, ↓W_ixC7, ↓WS_app7, ↓App_7, ↓W_move7, ↓W_var8, ↓W_varo8, ↓W_vark8, ↓Set_8, ↓W_ixC8, ↓WS_app8, ↓App_8, ↓W_move8, ↓W_var9, ↓W_varo9, ↓W_vark9, ↓Set_9, ↓W_ixC9, ↓WS_app9, ↓App_9, ↓W_move9, ↓W_var10, ↓W_varo10, ↓W_vark10, ↓Set_10, ↓W_ixC10, ↓WS_app10, ↓App_10, ↓W_move10, ↓W_var11, ↓W_varo11, ↓W_vark11, ↓Set_11, ↓W_ixC11, ↓WS_app11, ↓App_11, ↓W_move11, ↓W_var12, ↓W_varo12, ↓W_vark12, ↓Set_12, ↓W_ixC12, ↓WS_app12, ↓App_12, ↓W_move12, ↓W_var13, ↓W_varo13, ↓W_vark13, ↓Set_13, ↓W_ixC13, ↓WS_app13, ↓App_13, ↓W_move13, ↓W_var14, ↓W_varo14, ↓W_vark14, ↓Set_14, ↓W_ixC14, ↓WS_app14, ↓App_14, ↓W_move14, ↓W_var15, ↓W_varo15, ↓W_vark15, ↓Set_15, ↓W_ixC15, ↓WS_app15, ↓App_15, ↓W_move15, ↓L_at0, ↓L_at1, ↓L_at2, ↓L_at3, ↓L_at4, ↓L_at5, ↓L_at6, ↓L_at7, ↓L_at8, ↓Put_0, ↓Put_1, ↓Put_2, wipeS, List.set_cons_zero, List.set_cons_succ, List.length_map]
          exact ⟨by simp, ⟨rfl, rfl⟩, by simp, ⟨rfl, rfl⟩, by simp, ⟨rfl, rfl⟩, by simp, rfl, trivial⟩
  generalize hq : F_law K [.oth (.scr K ns)] = o at key
  cases o with
  | none => exact key.elim
  | some z =>
    cases z with
    | exc c fs => exact key.elim
    | val r ss =>
      have e : r = .dat (.bool true) := key
      subst e
      exact ⟨ss, rfl⟩

end Cm
open PySem PySem.W PyProof.Rows
set_option maxRecDepth 100000 in
set_option maxHeartbeats 0 in
theorem PySem.Challenge.cw_cutfolds_k20_cycles_of_powers_holds : PySem.Challenge.rw_cutfolds_k20_cycles_of_powers.Holds := by
  w_on; o_law; k_head; (case hw => w_witness2)
  k_fill
  refine Cm.walkM (l := PySem.Challenge.rw_cutfolds_k20_cycles_of_powers) (n := 63) (lev := 6) (x := "_law_script") (F := Cm.F_law) rfl (by decide) rfl ⟨rfl, by decide, by decide⟩ (fun w h Y => PySem.W.kIn_of Y) ?F Cm.law_holds
  case F =>
    intro w mg fa h KX G hmg
    letI : Cm.LT := Cm.LT.nil
    refine' Cm.all_mk KX G hmg ?a1 ?l1 ?c1 ?k1 ?a2 ?l2 ?c2 ?k2 ?a3 ?l3 ?c3 ?k3 ?a4 ?l4 ?c4 ?k4 ?a5 ?l5 ?c5 ?k5 ?a6 ?l6 ?c6 ?k6 ?a7 ?l7 ?c7 ?k7 ?a8 ?l8 ?c8 ?k8 ?a9 ?l9 ?c9 ?k9 ?a10 ?l10 ?c10 ?k10 ?a11 ?l11 ?c11 ?k11 ?a12 ?l12 ?c12 ?k12 ?a13 ?l13 ?c13 ?k13 ?a14 ?l14 ?c14 ?k14 ?a15 ?l15 ?c15 ?k15 ?a16 ?l16 ?c16 ?k16 ?a17 ?l17 ?c17 ?k17  ?z_all ?z_bool ?z_dict ?z_enumerate ?z_int ?z_isinstance ?z_len ?z_list ?z_max ?z_range ?z_repr ?z_sorted ?z_str ?z_tuple ?zg_lcm ?z_MOST_LETTERS ?z_MOST_MODULUS
    (case a1 => k_is); (case l1 => k_is); (case c1 => k_is); (case k1 => k_is)
    (case a2 => k_is); (case l2 => k_is); (case c2 => k_is); (case k2 => k_is)
    (case a3 => k_is); (case l3 => k_is); (case c3 => k_is); (case k3 => k_is)
    (case a4 => k_is); (case l4 => k_is); (case c4 => k_is); (case k4 => k_is)
    (case a5 => k_is); (case l5 => k_is); (case c5 => k_is); (case k5 => k_is)
    (case a6 => k_is); (case l6 => k_is); (case c6 => k_is); (case k6 => k_is)
    (case a7 => k_is); (case l7 => k_is); (case c7 => k_is); (case k7 => k_is)
    (case a8 => k_is); (case l8 => k_is); (case c8 => k_is); (case k8 => k_is)
    (case a9 => k_is); (case l9 => k_is); (case c9 => k_is); (case k9 => k_is)
    (case a10 => k_is); (case l10 => k_is); (case c10 => k_is); (case k10 => k_is)
    (case a11 => k_is); (case l11 => k_is); (case c11 => k_is); (case k11 => k_is)
    (case a12 => k_is); (case l12 => k_is); (case c12 => k_is); (case k12 => k_is)
    (case a13 => k_is); (case l13 => k_is); (case c13 => k_is); (case k13 => k_is)
    (case a14 => k_is); (case l14 => k_is); (case c14 => k_is); (case k14 => k_is)
    (case a15 => k_is); (case l15 => k_is); (case c15 => k_is); (case k15 => k_is)
    (case a16 => k_is); (case l16 => k_is); (case c16 => k_is); (case k16 => k_is)
    (case a17 => k_is); (case l17 => k_is); (case c17 => k_is); (case k17 => k_is)
    
    (case z_all => k_is); (case z_bool => k_is); (case z_dict => k_is); (case z_enumerate => k_is); (case z_int => k_is); (case z_isinstance => k_is); (case z_len => k_is); (case z_list => k_is); (case z_max => k_is); (case z_range => k_is); (case z_repr => k_is); (case z_sorted => k_is); (case z_str => k_is); (case z_tuple => k_is); (case zg_lcm => k_is); (case z_MOST_LETTERS => k_is); (case z_MOST_MODULUS => k_is)
#print axioms PySem.Challenge.cw_cutfolds_k20_cycles_of_powers_holds
