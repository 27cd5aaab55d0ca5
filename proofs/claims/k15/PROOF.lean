import PyProof.Rows.All
import Wide.All
import OpenK.AllK
import Wide.FinOn
import PyProof.ReprRoads
import HandS.Base
import HandS.Call
import HandS.List
import HandS.Comp
import HandS.Ends
import HandS.Words
import HandS.WordsList
import HandS.Defaults
import PyProof.ReprLen
import HandS.Iter
import HandS.Walk
import KE.GoesEnumKw
import KE.GoesRev
import HandS.MakeKwOnly
import HandS.Property
import PyProof.InstNe
import PyProof.FString2
import PyProof.FString5
import HandS.IsInst
import HandS.FStr
import KE.KExcInit
import KE.KExcIs
import HandS.Exc
import HandS.ExcInit
import HandS.ExcField
import HandS.ExcIs
import HandS.WordsExc
import HandS.Gcd
import HandS.Dict
import HandS.ExcOwn
import KE.GoesMore
import KE.KCallOwn
import HandS.Text
import HandS.Star
import HandS.ClsMeth
import PyProof.EnumMake
import HandS.ForMost
import HandS.Conv
import HandS.Style
import HandS.Deep
import HandS.TupLe
import HandS.TryOnly
import HandS.More
import HandS.Flow
import PySem.Challenge.RW_dueways_k15_curves_of_pieces
set_option Elab.async false
set_option linter.all false
set_option maxRecDepth 100000
set_option maxHeartbeats 4000000
/-! A def's promise where no repr runs around it (guards are known to be empty), so that repr of data may be asked inside. -/
namespace VG
open PySem PySem.Spec PyProof.Rows L2

/-- repr of data -/
def rRepr (K : PySem.W.Frag) : List V → Hp → VK → Prop := fun xs H Q =>
  ∃ v d, xs = [v] ∧ Dp K H v d ∧ d.showable = true ∧ d.depth ≤ 60 ∧ d.shown.length ≤ sizeLine ∧ Q (.str d.shown) H

theorem dp_noDict (K : PySem.W.Frag) (H : Hp) : (∀ d v, Dp K H v d → d.hasDict = false) ∧ (∀ ds vs, DpAll K H vs ds → PyData.hasDictAll ds = false) := by
  have one : ∀ n, (∀ d v, sizeOf d < n → Dp K H v d → d.hasDict = false) ∧
      (∀ ds vs, sizeOf ds < n → DpAll K H vs ds → PyData.hasDictAll ds = false) := by
    intro n
    induction n with
    | zero => exact ⟨fun _ _ h => absurd h (Nat.not_lt_zero _), fun _ _ h => absurd h (Nat.not_lt_zero _)⟩
    | succ n ih =>
      refine ⟨fun d v hz h => ?_, fun ds vs hz h => ?_⟩
      · cases h with
        | non => rfl
        | bl => rfl
        | int => rfl
        | str => rfl
        | lst _ ha =>
          simp only [PyData.hasDict]
          exact ih.2 _ _ (by simp at hz; omega) ha
        | tup _ ha =>
          simp only [PyData.hasDict]
          exact ih.2 _ _ (by simp at hz; omega) ha
      · cases h with
        | nil => rfl
        | cons h1 h2 =>
          simp only [PyData.hasDictAll]
          rw [ih.1 _ _ (by simp at hz; omega) h1, ih.2 _ _ (by simp at hz; omega) h2]
          rfl
  exact ⟨fun d v => (one (sizeOf d + 1)).1 d v (Nat.lt_succ_self _), fun ds vs => (one (sizeOf ds + 1)).2 ds vs (Nat.lt_succ_self _)⟩

theorem call_repr {X : Cx} (hg : X.A.guards = some []) (hu : X.A.units + 64 < cLine) : CallR X (.builtin "repr") (rRepr X.K) := by
  intro pins s σ H xs us Q I r h
  obtain ⟨v, d, rfl, hd, hs, hdep, hz, q⟩ := h
  obtain ⟨u, rfl, rv⟩ := vals1 r
  have keep : ∀ (h' : Heap) (t' : Nat), (∀ b o, s.heap.get? b = some o → h'.get? b = some o) → Inv X pins σ H { s with heap := h', toks := t' } :=
    fun h' t' k => I.kept (t' := t') k
  have nd := (dp_noDict X.K H).1 d v hd
  obtain ⟨as, rd⟩ := Dp.reads I d v u hd rv
  cases hd with
  | non =>
    cases rv
    exact PySem.P.repr_of_none ⟨.str _, H, I.tok _, ⟨_, rfl⟩, q⟩
  | bl b =>
    cases rv
    refine PySem.P.repr_of_bool ⟨.str _, H, I.tok _, ⟨_, rfl⟩, ?_⟩
    exact q
  | int i =>
    obtain ⟨t, rfl⟩ := rv
    exact PySem.P.repr_of_int (by simpa [PyData.showable] using hs) ⟨.str _, H, I.tok _, ⟨_, rfl⟩, q⟩
  | str x =>
    obtain ⟨t, rfl⟩ := rv
    exact PySem.P.repr_of_str ⟨.str _, H, I.tok _, ⟨_, rfl⟩, q⟩ hz
  | lst _ _ =>
    cases rv
    exact repr_of_reads' rd hs (fun e => by rw [nd] at e; cases e) hg (by omega) (fun _ _ e => e) (fun h' w tk k => ⟨.str _, H, keep h' tk k, ⟨_, rfl⟩, q⟩) hz
  | tup _ _ =>
    cases rv
    exact repr_of_reads' rd hs (fun e => by rw [nd] at e; cases e) hg (by omega) (fun _ _ e => e) (fun h' w tk k => ⟨.str _, H, keep h' tk k, ⟨_, rfl⟩, q⟩) hz

def rLen (K : PySem.W.Frag) : List V → Hp → VK → Prop := fun xs H Q =>
  ∃ p ys, xs = [.ref p] ∧ (SqL K H p ys ∨ SqT K H p ys) ∧ Q (.int ys.length) H
theorem call_len {X : Cx} : CallR X (.builtin "len") (rLen X.K) := call_len_seq
def rListOf (K : PySem.W.Frag) : List V → Hp → VK → Prop := fun xs H Q =>
  ∃ p ys, xs = [.ref p] ∧ (SqL K H p ys ∨ SqT K H p ys) ∧ ∀ l, H l = none → Q (.ref l) (upd H l (.lst ys))
theorem call_listOf {X : Cx} : CallR X (.type "list") (rListOf X.K) := call_list_of

/-- a def's promise, asked only where guards are empty -/
structure FnG (P : Program) (w : World) (K : PySem.W.Frag) (mg : Str → Option Value) (base : Heap) (CX : CXT)
    (k : Nat) (f : Addr) (fd : FuncData) (ps : List Str) (sp : Sp) : Prop where
  arity : ∀ as H Q E, sp as H Q E → as.length = ps.length
  go : ∀ (A : Around) (outer : List Env) (s : Shared) (H : Hp) (args : Args) (us : List Value) (as : List V) (Q : VK) (E : XK),
    A.guards = some [] → Room k A → Env0 P w K mg base A outer s H → BindsTo s fd args (ps.zip us) → Vals as us → sp as H Q E →
      codeAny (model P w) A (.call (.ref f) args) (CR CX outer P w H s Q E) s

section
variable {P : Program} {w : World} {K : PySem.W.Frag} {mg : Str → Option Value} {base : Heap} {CX : CXT}
theorem FnG.of {k : Nat} {f : Addr} {fd : FuncData} {ps : List Str} {sp : Sp} (F : FnOk P w K mg base CX k f fd ps sp) :
    FnG P w K mg base CX k f fd ps sp :=
  ⟨F.len, fun A outer s H args us as Q E _ => F.run A outer s H args us as Q E⟩

/-- a def by its body -/
theorem okG {x qual : Str} {st : Stmt} {f : Addr} {fd : FuncData} {N ps : List Str} {k : Nat} {sp : Sp}
    (F : Fun K x qual st f fd) (S : FnScope N ps (defScope st)) (len : ∀ as H Q E, sp as H Q E → as.length = ps.length)
    (body : ∀ (cdv : Value) (A : Around) (outer : List Env) (s : Shared) (H : Hp) (as : List V) (Q : VK) (E : XK),
      (A.deeper (envOfC qual (defScope st) s.heap.objs.size f cdv)).guards = some [] →
      Room k (A.deeper (envOfC qual (defScope st) s.heap.objs.size f cdv)) → sp as H Q E →
      ∃ t, PSs (cxOf CX P w K mg base N qual (defScope st) f cdv A outer s H E) (defBody st) t ∧
        t { nx := fun _ H' => Q .non H', rt := Q } (start N as) H) :
    FnG P w K mg base CX (k + 1) f fd ps sp := by
  obtain ⟨oc, od, kV, doc, pm, an, cdv, ct, osl, rfl, lk, hcd⟩ := F.ex
  refine ⟨len, fun A outer s H args us as Q E hA hr e0 hb r hsp => ?_⟩
  have hl := len _ _ _ _ hsp
  have KX : K.In s.heap := e0.mod.kin.keeps fun b o e => (e0.bs b o e).1
  have lim : s.heap.NoLimit := e0.mod.nolimit.keeps fun b o e => (e0.bs b o e).1
  have kinds : ∀ y ∈ ps.zip us, (defScope st).names.lookup y.1 = some .local ∨
      ((defScope st).names.lookup y.1 = some .cell ∧ ((cellsFrom (s.heap.objs.size + 1) (defScope st).names []).lookup y.1).isSome = true) := by
    rintro ⟨n, v⟩ hy
    rcases S.par n (List.of_mem_zip hy).1 with q | q
    · exact .inl q
    · exact .inr ⟨q, PySem.W.cellsFrom_some _ _ _ (.inl q)⟩
  refine codeAny_call_function hr.depth (KX _ _ lk) rfl S.co S.gen rfl (PySem.W.codeRec_of KX hcd) (hb _ _ _ _ ?_)
  refine wpAny_newFunctionEnv_cells S.kind kinds fun env he s1 z => ?_
  subst he
  refine ⟨lim.keeps z.toInCall.keep, codeAny_func ?_⟩
  obtain ⟨t, ht, hq⟩ := body cdv A outer s H as Q E hA (hr.deeper _) hsp
  have I0 : Inv (cxOf CX P w K mg base N qual (defScope st) f cdv A outer s H E) [] (start N as) H s1 :=
    inv_start S hr.hd e0 hl r z
  refine wpAny_mono (ht.run [] s1 (start N as) H _ I0 hq) ?_ fun e s' hs => hs
  intro fl s' hs
  have done : ∀ (σ' : L2.St) (H' : Hp) (v : V) (u : Value), Inv (cxOf CX P w K mg base N qual (defScope st) f cdv A outer s H E) [] σ' H' s' →
      RelV v u → Q v H' → CE outer P w H s Q u s' := fun σ' H' v u J rv q => ⟨v, H', J.os, J.bare, J.base, J.hok, rv, q⟩
  cases fl with
  | ret u =>
    obtain ⟨v, σ', H', J, rv, q⟩ := hs
    exact done σ' H' v u J rv q
  | next =>
    obtain ⟨σ', H', J, q⟩ := hs
    exact done σ' H' V.non Value.none J rfl q
  | brk => exact hs.elim fun _ h => h.elim fun _ h => False.elim h.2
  | cont => exact hs.elim fun _ h => h.elim fun _ h => False.elim h.2
end

section
variable {P : Program} {w : World} {K : PySem.W.Frag} {mg : Str → Option Value} {base : Heap}
/-- .. that lets nothing out -/
theorem okG0 {x qual : Str} {st : Stmt} {f : Addr} {fd : FuncData} {N ps : List Str} {k : Nat} {sp : Sp}
    (F : Fun K x qual st f fd) (S : FnScope N ps (defScope st)) (len : ∀ as H Q E, sp as H Q E → as.length = ps.length)
    (body : ∀ (cdv : Value) (A : Around) (outer : List Env) (s : Shared) (H : Hp) (as : List V) (Q : VK) (E : XK),
      (A.deeper (envOfC qual (defScope st) s.heap.objs.size f cdv)).guards = some [] →
      Room k (A.deeper (envOfC qual (defScope st) s.heap.objs.size f cdv)) → sp as H Q E →
      ∃ t, PSs (cxOf CX0 P w K mg base N qual (defScope st) f cdv A outer s H E).nox (defBody st) t ∧
        t { nx := fun _ H' => Q .non H', rt := Q } (start N as) H) :
    FnG P w K mg base CX0 (k + 1) f fd ps sp :=
  okG F S len fun cdv A outer s H as Q E hA hr h =>
    let ⟨t, h1, h2⟩ := body cdv A outer s H as Q E hA hr h
    ⟨t, h1.nox, h2⟩
end

section
variable {X : Cx} {CX : CXT} {k : Nat} {f : Addr} {fd : FuncData} {ps : List Str} {sp : Sp} {E : XK} {x : Str} {p pos : Pos} {e : Expr} {es : List Expr} {t : TA}
theorem runG {pins : List (Addr × Obj)} {σ : L2.St} {H : Hp} {s : Shared} {Q : VK} {us : List Value} {as : List V}
    (F : FnG X.prog X.w X.K X.mg X.base CX k f fd ps sp) (hA : X.A.guards = some []) (hr : Room k X.A) (hb : Binds X.K fd ps [])
    (hx : Passes CX X E) (I : Inv X pins σ H s) (r : Vals as us) (h : sp as H Q E) :
    wpAny (model X.prog X.w) X.A (call (.ref f) us) (EP X pins σ Q) X.xe s := by
  have hn : us.length = ps.length := r.length.symm.trans (F.arity _ _ _ _ h)
  have bind := hb s us I.kIn (by rw [List.append_nil]; exact hn)
  rw [List.append_nil] at bind
  refine wpAny_call (codeAny_mono (F.go X.A X.stack s H ⟨us, []⟩ us as Q E hA hr I.env0 bind r h) ?_)
  intro res s' hq
  match res, hq with
  | .error e, hq => exact hx pins σ H s e s' I hq
  | .ok (.ret u), hq => exact I.after hq
  | .ok .next, hq => exact False.elim hq
  | .ok .brk, hq => exact False.elim hq
  | .ok .cont, hq => exact False.elim hq
/-- f(e, ..) -/
theorem pe_callG (F : FnG X.prog X.w X.K X.mg X.base CX k f fd ps sp) (hA : X.A.guards = some []) (hr : Room k X.A) (hg : Gl X x)
    (hm : X.mg x = some (.ref f)) (hk : PySem.W.keepIn X.K (.ref f) = true) (hb : Binds X.K fd ps []) (hx : Passes CX X E) (ha : PA X (e :: es) t)
    (hdb : (x == ("__debug__" : Str)) = false := by decide) (he : starEach (e :: es) X.env = (false, eval e X.env) :: starEach es X.env := by rfl)
    (hpl : (backTo pos (starEach es X.env)).any (·.1) = false := by rfl) :
    PE X (.Call (.Name x p) (e :: es) [] pos) (tCall sp [] E t) := by
  constructor
  intro pins s σ H Q I h
  refine wpAny_Call_Name_kw (ld_glob I hg hm ?_ hdb)
  have args := ha.run pos pins s σ H _ I h
  refine PySem.W.callWith_K (h₀ := X.base) I.ok.mod.kin hk (thn args ?_) he hpl
  rintro us s1 ⟨as, H1, I1, r, q⟩
  rw [List.append_nil] at q
  exact ⟨I1.kIn, runG F hA hr hb hx I1 r q⟩
theorem pe_callG0 (F : FnG X.prog X.w X.K X.mg X.base CX k f fd ps sp) (hA : X.A.guards = some []) (hr : Room k X.A) (hg : Gl X x)
    (hm : X.mg x = some (.ref f)) (hk : PySem.W.keepIn X.K (.ref f) = true) (hb : Binds X.K fd ps []) (hx : Passes CX X E)
    (hdb : (x == ("__debug__" : Str)) = false := by decide) : PE X (.Call (.Name x p) [] [] pos) (tCall sp [] E tNil) := by
  constructor
  intro pins s σ H Q I h
  refine wpAny_Call_Name_kw (ld_glob I hg hm ?_ hdb)
  exact PySem.W.callWith_K0 I.kIn hk (runG (us := []) (as := []) F hA hr hb hx I .nil h)
end

/-- a statement, then the rest, joined by a word: the rest is read once -/
def tJoin (t u : TS) : TS := fun D σ H => ∃ M : L2.St → Hp → Prop, t { D with nx := M } σ H ∧ ∀ σ' H', M σ' H' → u D σ' H'
theorem pss_join {X : Cx} {st : Stmt} {more : List Stmt} {t u : TS} (h1 : PS X st t) (h2 : PSs X more u) : PSs X (st :: more) (tJoin t u) := by
  constructor
  intro pins s σ H D I h
  obtain ⟨M, hm, hu⟩ := h
  refine wpAny_execs_cons (thn (h1.run pins s σ H _ I hm) ?_)
  intro fl s1 q
  match fl, q with
  | .next, ⟨σ', H', I', q⟩ => exact h2.run pins s1 σ' H' D I' (hu σ' H' q)
  | .ret v, q => exact q
  | .brk, q => exact q
  | .cont, q => exact q
/-- f(k = v, ..), keywords alone -/
def tKw (m : Nat) (sp : Sp) (gV : List V → List V → List V) (E : XK) (tk : TA) : TE := fun σ H Q => tk σ H fun zs H2 => zs.length = m ∧ sp (gV [] zs) H2 Q E
theorem pe_callK0 {X : Cx} {CX : CXT} {k : Nat} {f : Addr} {fd : FuncData} {ps ks : List Str} {sp : Sp} {E : XK} {x : Str} {p pos : Pos} {kws : List Keyword} {tk : TA}
    {g : List Value → List Value → List Value} {gV : List V → List V → List V}
    (F : FnOk X.prog X.w X.K X.mg X.base CX k f fd ps sp) (hr : Room k X.A) (hg : Gl X x) (hm : X.mg x = some (.ref f)) (hk : PySem.W.keepIn X.K (.ref f) = true)
    (hb : KBn X.K fd ps 0 ks g gV) (hx : Passes CX X E) (hkw : PK X kws tk) (hall : (backToKw pos (keywordEach kws X.env)).all (·.1.isSome) = true := by rfl)
    (hks : (backToKw pos (keywordEach kws X.env)).filterMap (·.1) = ks := by rfl) (hdb : (x == ("__debug__" : Str)) = false := by decide)
    (hpl : ((backTo pos (starEach [] X.env)).any (·.1) || (backToKw pos (keywordEach kws X.env)).any (·.1.isNone)) = false := by rfl) :
    PE X (.Call (.Name x p) [] kws pos) (tKw ks.length sp gV E tk) := by
  constructor
  intro pins s σ H Q I h
  refine wpAny_Call_Name_kw (ld_glob I hg hm ?_ hdb)
  refine PySem.W.callWith_KW0 (h₀ := X.base) I.ok.mod.kin hk hall ?_ hpl
  refine thn (hkw.run pos pins s σ H _ I h) ?_
  rintro ws s2 ⟨zs, H2, I2, rz, len, q⟩
  refine ⟨I2.kIn, ?_⟩
  rw [hks]
  have rel := hb.rel (vs := []) (us := []) .nil rz
  have bind := hb.to s2 [] ws I2.kIn rfl (rz.length.symm.trans len)
  refine wpAny_call (codeAny_mono (F.run X.A X.stack s2 H2 ⟨[], ks.zip ws⟩ _ _ Q E hr I2.env0 bind rel q) ?_)
  intro res s' hq
  match res, hq with
  | .error e, hq => exact hx pins σ H2 s2 e s' I2 hq
  | .ok (.ret u), hq => exact I2.after hq
  | .ok .next, hq => exact False.elim hq
  | .ok .brk, hq => exact False.elim hq
  | .ok .cont, hq => exact False.elim hq
/-- how keywords bind for a def without defaults -/
theorem kb_of {K : PySem.W.Frag} {x qual : Str} {st : Stmt} {f : Addr} {fd : FuncData} {ps ks : List Str} {n : Nat} (F : Fun K x qual st f fd)
    (g : {α : Type} → List α → List α → List α) (rel : ∀ {vs zs : List V} {us ws : List Value}, Vals vs us → Vals zs ws → Vals (g vs zs) (g us ws))
    (h : ∀ (kV doc pm : Value) (an : Option Addr) (cdv ct : Value) (us ws : List Value), us.length = n → ws.length = ks.length →
      bindArgs (PySem.W.fnOf x qual (defArgs st) (defBody st) (defScope st) .none kV doc pm an cdv ct) ⟨us, ks.zip ws⟩ = pure (ps.zip (g us ws))) :
    KBn K fd ps n ks (fun us ws => g us ws) (fun vs zs => g vs zs) := by
  obtain ⟨oc, od, kV, doc, pm, an, cdv, ct, osl, rfl, lk, hcd⟩ := F.ex
  exact ⟨fun s us ws _ h1 h2 => .of_eq (h kV doc pm an cdv ct us ws h1 h2), fun a b => rel a b⟩

/-- a law's call: the script is all that may be tracked -/
theorem lawG {P : Program} {w : World} {K : PySem.W.Frag} {mg mb : Str → Option Value} {CX : CXT} {k : Nat} {fa a : Addr} {fd : FuncData} {x : Str}
    {sp : Sp} {s1 : Shared} {vs : List Value} {ns : List Int} (KX : K.In s1.heap) (hns : s1.heap.Ns mainGlobals mg) (hb : s1.heap.Ns builtinsNs mb)
    (hbb : ∀ y : Str, y ≠ "__name__" → mb y = bootBuiltins y) (hlim : s1.heap.NoLimit) (hg : s1.gens = #[])
    (ha : s1.heap.get? a = some { cls := .type "list", data := .seq vs.toArray }) (hi : IntsAre vs ns) (hl : ns.length ≤ sizeLine) (hr : Room k callerA)
    (F : ∀ base : Heap, K.In base → base.Ns mainGlobals mg → FnG P w K mg base CX k fa fd [x] sp)
    (hbind : ∀ (s : Shared) (u : Value), BindsTo s fd ⟨[u], []⟩ [(x, u)])
    (hsp : ∀ H : Hp, Only H → SqL K H a (ns.map V.int) → sp [.ref a] H (fun v _ => v = .bl true) fun _ _ _ => False)
    (hCX : ∀ H e s', CX [] H s1 (fun _ _ _ => False) e s' → False) :
    codeAny (model P w) callerA (.call (.ref fa) ⟨[.ref a], []⟩)
      (fun r s' => r = .ok (.ret (.bool true)) ∧ OldK s1.heap s'.heap ∧ s'.os = s1.os ∧ AllBare s'.gens) s1 := by
  have inner : ∀ H : Hp, Only H → SqL K H a (ns.map V.int) → HOk P w H s1.heap → (∀ b, H b ≠ none → b = a) → (H a ≠ none → K.lookup a = none) →
      codeAny (model P w) callerA (.call (.ref fa) ⟨[.ref a], []⟩)
        (fun r s' => r = .ok (.ret (.bool true)) ∧ OldK s1.heap s'.heap ∧ s'.os = s1.os ∧ AllBare s'.gens) s1 := by
    intro H hO hS hok only noK
    have nodict : ∀ {b : Addr} {o : Obj} {es : Array DictEntry} {ep : Nat}, s1.heap.get? b = some o → o.data = .dict es ep → H b = none := by
      intro b o es ep e d
      by_cases q : H b = none
      · exact q
      · have eb := only b q
        subst eb
        rw [ha] at e
        cases e
        cases d
    have names : ∀ {b : Addr} {m : Str → Option Value}, s1.heap.Ns b m → (hidT s1.heap H).Ns b m := by
      rintro b m ⟨o, es, ep, e, d, r⟩
      exact ⟨o, es, ep, hidT_get e (nodict e d), d, r⟩
    have kin : K.In (hidT s1.heap H) := by
      intro b o e
      refine hidT_get (KX b o e) ?_
      by_cases q : H b = none
      · exact q
      · have eb := only b q
        subst eb
        rw [noK q] at e
        cases e
    have modul : Mod K mg (hidT s1.heap H) := by
      obtain ⟨mc, l1, l2⟩ := hlim
      exact ⟨kin, names hns, ⟨mb, names hb, hbb⟩, ⟨mc, names l1, l2⟩⟩
    have nil : ∀ b : Addr, ¬ b ∈ ([] : List Addr) := fun b z => by cases z
    have env : Env0 P w K mg (hidT s1.heap H) callerA [] s1 H :=
      ⟨rfl, modul, fun b o e => of_hidT e, Nat.le_of_eq (hidT_size _ _), trivial, fun b z => absurd z (nil b), hok, .of_eq hg⟩
    have ran := (F _ kin (names hns)).go callerA [] s1 H ⟨[.ref a], []⟩ [.ref a] [.ref a] _ _ rfl hr env (hbind s1 (.ref a)) (.cons rfl .nil) (hsp H hO hS)
    refine codeAny_mono ran ?_
    intro res s' h
    match res, h with
    | .error e, h => exact (hCX H e s' h).elim
    | .ok .next, h => exact False.elim h
    | .ok .brk, h => exact False.elim h
    | .ok .cont, h => exact False.elim h
    | .ok (.ret u), h =>
      obtain ⟨v, H', os, bare, un, hok', rv, rfl⟩ := h
      obtain rfl : u = Value.bool true := rv
      refine ⟨rfl, OldK.of_keep fun b o e => ?_, os, bare⟩
      rcases hO b with z | ⟨ob, xs, z⟩
      · exact un.keep b o e z (nil b) (nil b)
      · obtain ⟨e1, _⟩ := hok b _ z
        obtain ⟨e2, _⟩ := hok' b _ (un.frzs b ob _ z)
        rw [e] at e1
        cases e1
        exact e2
  have rv := vals_ints hi
  have len := hi.length
  cases hk : K.lookup a with
  | some o =>
    have e := KX a o hk
    rw [ha] at e
    cases e
    have seen : SqL K (fun _ => none) a (ns.map V.int) :=
      .inr ⟨_, vs.toArray, _, hk, rfl, rfl, rfl, by rw [List.size_toArray, len]; exact hl, by simpa using rv⟩
    exact inner (fun _ => none) (fun _ => .inl rfl) seen (fun b u z => by cases z) (fun b z => absurd rfl z) fun z => absurd rfl z
  | none =>
    have at_a : (if a = a then some (HO.frz { cls := .type "list", data := .seq vs.toArray } (.lst (ns.map V.int))) else none) = some (HO.frz { cls := .type "list", data := .seq vs.toArray } (.lst (ns.map V.int))) := if_pos rfl
    refine inner (fun b => if b = a then some (.frz { cls := .type "list", data := .seq vs.toArray } (.lst (ns.map V.int))) else none) ?_ (.inl (.inr ⟨_, at_a⟩)) ?_ ?_ fun _ => hk
    · intro b
      by_cases hb : b = a
      · exact .inr ⟨_, _, if_pos hb⟩
      · exact .inl (if_neg hb)
    · intro b u z
      have z' : (if b = a then some (HO.frz { cls := .type "list", data := .seq vs.toArray } (.lst (ns.map V.int))) else none) = some u := z
      by_cases hb : b = a
      · rw [if_pos hb] at z'
        cases z'
        subst hb
        exact ⟨ha, by rw [List.length_map]; exact hl, vs, _, rv, ha⟩
      · rw [if_neg hb] at z'
        cases z'
    · intro b z
      by_cases hb : b = a
      · exact hb
      · exact absurd (if_neg hb) z

theorem walkG {l : PySem.W.OpenLaw} {n k : Nat} {q : Program} {loose : List Str} {XP : (Str → Option Value) → Heap → Prop} {YP : World → Heap → Prop}
    {d : DefRec} {K : Params → PySem.W.Frag} {CX : World → CXT} {sp : World → Sp} {x : Str}
    (hn : l.most = some n) (hn2 : n ≤ sizeLine) (hdf : d.params.defaults = []) (hr : Room k callerA) (hY : ∀ (w : World) (h : Heap), YP w h → (K w.params).In h)
    (F : ∀ (w : World) (mg : Str → Option Value) (fa : Addr) (h : Heap), (K w.params).In h → h.Ns mainGlobals mg → mg d.name = some (.ref fa) →
      ∃ fd : FuncData, (∀ (s : Shared) (u : Value), BindsTo s fd ⟨[u], []⟩ [(x, u)]) ∧ ∀ base : Heap, (K w.params).In base → base.Ns mainGlobals mg →
        FnG l.prog w (K w.params) mg base (CX w) k fa fd [x] (sp w))
    (hsp : ∀ (w : World) (H : Hp) (a : Addr) (ns : List Int), ns.length ≤ n → Only H → SqL (K w.params) H a (ns.map V.int) →
      sp w [.ref a] H (fun v _ => v = .bl true) fun _ _ _ => False)
    (hCX : ∀ (w : World) (H : Hp) (s : Shared) (e : Value) (s' : Shared), CX w [] H s (fun _ _ _ => False) e s' → False) :
    PySem.W.WalkO q loose XP YP l.row.toRowW d [] (fun f vs => PySem.call f vs) := by
  refine Att.attach_call hn hdf ?_
  intro w s0 s1 mg mb fa o pm cd doc a vs ns G Y ho hd hcd hmg hobj hints hlen hg
  obtain ⟨fd, hb, hF⟩ := F w mg fa _ (hY w _ Y) G.T.g hmg
  exact lawG (hY w _ Y) G.T.g G.T.b G.T.builtins G.T.nolimit hg hobj hints (Nat.le_trans hlen hn2) hr hF hb
    (fun H hO hS => hsp w H a ns hlen hO hS) fun H e s' => hCX w H s1 e s'
end VG

/-! Curves as they are written: values, a period, a gain; plain Lean. -/
namespace VM
/-- the value at t of the curve written so -/
def cvAt (vs : List Int) (p g t : Int) : Int :=
  if t = 0 then 0 else if t ≤ (vs.length : Int) then vs.getD (t - 1).toNat 0 else
    vs.getD (t - (t - vs.length + p - 1) / p * p - 1).toNat 0 + (t - vs.length + p - 1) / p * g

theorem cvAt_zero {vs : List Int} {p g : Int} : cvAt vs p g 0 = 0 := by simp [cvAt]
theorem cvAt_in {vs : List Int} {p g t : Int} (h : 0 < t) (h1 : t ≤ vs.length) : cvAt vs p g t = vs.getD (t - 1).toNat 0 := by
  unfold cvAt
  rw [if_neg (by omega), if_pos h1]

/-- the rounds: between them t lies in the last period -/
theorem rounds_spec {n p t : Int} (hp : 0 < p) (ht : n < t) :
    0 < (t - n + p - 1) / p ∧ n - p < t - (t - n + p - 1) / p * p ∧ t - (t - n + p - 1) / p * p ≤ n := by
  have e := Int.emod_add_mul_ediv (t - n + p - 1) p
  have l := Int.emod_nonneg (t - n + p - 1) (show p ≠ 0 by omega)
  have u := Int.emod_lt_of_pos (t - n + p - 1) hp
  have c : (t - n + p - 1) / p * p = p * ((t - n + p - 1) / p) := Int.mul_comm _ _
  have q1 : 1 ≤ (t - n + p - 1) / p := by
    have := (Int.le_ediv_iff_mul_le (c := p) hp (a := 1) (b := t - n + p - 1)).mpr (by omega)
    exact this
  exact ⟨by omega, by omega, by omega⟩
theorem rounds_step {n p t : Int} (hp : 0 < p) : (t - p - n + p - 1) / p = (t - n + p - 1) / p - 1 := by
  have : t - p - n + p - 1 = (t - n + p - 1) + (-1) * p := by omega
  rw [this, Int.add_mul_ediv_right _ _ (by omega)]
  omega
/-- behind the values: one period back, and the gain -/
theorem cvAt_back {vs : List Int} {p g t : Int} (hp : 0 < p) (hpn : p ≤ vs.length) (ht : (vs.length : Int) < t) : cvAt vs p g t = cvAt vs p g (t - p) + g := by
  obtain ⟨r1, r2, r3⟩ := rounds_spec hp ht
  have st := rounds_step (n := (vs.length : Int)) (p := p) (t := t) hp
  unfold cvAt
  rw [if_neg (by omega), if_neg (by omega), if_neg (show ¬ t - p = 0 by omega)]
  by_cases h : t - p ≤ (vs.length : Int)
  · rw [if_pos h]
    have r : (t - vs.length + p - 1) / p = 1 := by
      have a : (t - vs.length + p - 1) / p < 2 := Int.ediv_lt_of_lt_mul hp (by omega)
      omega
    rw [r, Int.one_mul, Int.one_mul]
  · rw [if_neg h, st]
    have e : t - p - ((t - vs.length + p - 1) / p - 1) * p - 1 = t - (t - vs.length + p - 1) / p * p - 1 := by
      rw [Int.sub_mul, Int.one_mul]; omega
    rw [e, Int.sub_mul, Int.one_mul]
    omega

/-- a function that repeats behind n: with period p and gain g -/
def Rep (f : Int → Int) (n p g : Int) : Prop := ∀ t, n < t → f t = f (t - p) + g
theorem Rep.cvAt {vs : List Int} {p g : Int} (hp : 0 < p) (hpn : p ≤ vs.length) : Rep (cvAt vs p g) vs.length p g := fun _ ht => cvAt_back hp hpn ht

/-- the steps over d, in one period behind n, are all the first one -/
def stepsEq (f : Int → Int) (n p d : Int) : Bool := (List.range p.toNat).all fun (i : Nat) => decide (f (n + 1 + i) - f (n + 1 + i - d) = f (n + 1) - f (n + 1 - d))
/-- the least period from d on that divides p, and its gain -/
def leastFrom (f : Int → Int) (n p : Int) : Nat → Int → Int × Int
  | 0, _ => (p, f (n + p) - f n)
  | k + 1, d => if p % d = 0 ∧ stepsEq f n p d = true then (d, f (n + 1) - f (n + 1 - d)) else leastFrom f n p k (d + 1)
def leastP (f : Int → Int) (n p : Int) : Int × Int := leastFrom f n p (p - 1).toNat 1
/-- how many values must be written -/
def shr (f : Int → Int) (d s : Int) : Nat → Nat
  | 0 => 0
  | m + 1 => if d < (m + 1 : Nat) ∧ f ((m + 1 : Nat) : Int) = f ((m + 1 : Nat) - d) + s then shr f d s m else m + 1
/-- f's values at 1 to m -/
def vals (f : Int → Int) (m : Nat) : List Int := (List.range m).map fun (i : Nat) => f (i + 1)
theorem vals_length {f : Int → Int} {m : Nat} : (vals f m).length = m := by simp [vals]
theorem vals_getD {f : Int → Int} {m i : Nat} (h : i < m) : (vals f m).getD i 0 = f (i + 1) := by
  unfold vals
  rw [List.getD_eq_getElem?_getD, List.getElem?_map, List.getElem?_range h]
  rfl

theorem stepsEq_at {f : Int → Int} {n p d : Int} (h : stepsEq f n p d = true) {t : Int} (h1 : n < t) (h2 : t ≤ n + p) : f t = f (t - d) + (f (n + 1) - f (n + 1 - d)) := by
  unfold stepsEq at h
  rw [List.all_eq_true] at h
  have := h (t - n - 1).toNat (List.mem_range.mpr (by omega))
  have e : n + 1 + ((t - n - 1).toNat : Int) = t := by omega
  rw [e] at this
  have := of_decide_eq_true this
  omega
/-- one round decides -/
theorem Rep.of_steps {f : Int → Int} {n p g d : Int} (R : Rep f n p g) (hd : 0 < d) (hdp : d ≤ p) (h : stepsEq f n p d = true) : Rep f n d (f (n + 1) - f (n + 1 - d)) := by
  have key : ∀ (k : Nat) (t : Int), n < t → t ≤ n + k → f t = f (t - d) + (f (n + 1) - f (n + 1 - d)) := by
    intro k
    induction k with
    | zero => intro t h1 h2; omega
    | succ k ih =>
      intro t h1 h2
      by_cases c : t ≤ n + p
      · exact stepsEq_at h h1 c
      · have a := R t h1
        have b := R (t - d) (by omega)
        have e := ih (t - p) (by omega) (by omega)
        have z : t - d - p = t - p - d := by omega
        rw [z] at b
        omega
  intro t ht
  exact key (t - n).toNat t ht (by omega)
theorem leastFrom_spec {f : Int → Int} {n p g : Int} (R : Rep f n p g) (hp : 0 < p) : ∀ (k : Nat) (d : Int), 0 < d → d + k = p →
    0 < (leastFrom f n p k d).1 ∧ (leastFrom f n p k d).1 ≤ p ∧ Rep f n (leastFrom f n p k d).1 (leastFrom f n p k d).2
  | 0, d, hd, e => by
    unfold leastFrom
    refine ⟨hp, Int.le_refl _, fun t ht => ?_⟩
    have a := R (n + p) (by omega)
    have z : n + p - p = n := by omega
    rw [z] at a
    have b := R t ht
    show f t = f (t - p) + (f (n + p) - f n)
    omega
  | k + 1, d, hd, e => by
    unfold leastFrom
    by_cases c : p % d = 0 ∧ stepsEq f n p d = true
    · rw [if_pos c]
      exact ⟨hd, by show d ≤ p; omega, R.of_steps hd (by omega) c.2⟩
    · rw [if_neg c]
      exact leastFrom_spec R hp k (d + 1) (by omega) (by omega)
theorem leastP_spec {f : Int → Int} {n p g : Int} (R : Rep f n p g) (hp : 0 < p) : 0 < (leastP f n p).1 ∧ (leastP f n p).1 ≤ p ∧ Rep f n (leastP f n p).1 (leastP f n p).2 :=
  leastFrom_spec R hp _ 1 (by omega) (by omega)
theorem shr_spec {f : Int → Int} {d s : Int} (hd : 0 < d) : ∀ (m : Nat), d ≤ m → Rep f m d s → d ≤ shr f d s m ∧ shr f d s m ≤ m ∧ Rep f (shr f d s m) d s
  | 0, h, _ => by omega
  | m + 1, h, R => by
    unfold shr
    by_cases c : d < (m + 1 : Nat) ∧ f ((m + 1 : Nat) : Int) = f ((m + 1 : Nat) - d) + s
    · rw [if_pos c]
      have R' : Rep f m d s := fun t ht => by
        by_cases e : t = ((m + 1 : Nat) : Int)
        · rw [e]; exact c.2
        · exact R t (by omega)
      obtain ⟨a, b, z⟩ := shr_spec hd m (by omega) R'
      exact ⟨a, by omega, z⟩
    · rw [if_neg c]
      exact ⟨h, Nat.le_refl _, R⟩
/-- what repeats behind m is the curve written by its first m values -/
theorem cvAt_vals {f : Int → Int} {m : Nat} {d s : Int} (hd : 0 < d) (hdm : d ≤ m) (h0 : f 0 = 0) (R : Rep f m d s) : ∀ t, 0 ≤ t → cvAt (vals f m) d s t = f t := by
  have key : ∀ (k : Nat) (t : Int), 0 ≤ t → t ≤ k → cvAt (vals f m) d s t = f t := by
    intro k
    induction k with
    | zero =>
      intro t h1 h2
      have : t = 0 := by omega
      rw [this, cvAt_zero, h0]
    | succ k ih =>
      intro t h1 h2
      by_cases z : t = 0
      · rw [z, cvAt_zero, h0]
      · by_cases c : t ≤ (m : Int)
        · rw [cvAt_in (by omega) (by rw [vals_length]; exact c), vals_getD (by omega)]
          congr 1; omega
        · rw [cvAt_back hd (by rw [vals_length]; exact hdm) (by rw [vals_length]; omega), R t (by omega), ih (t - d) (by omega) (by omega)]
  intro t ht
  exact key t.toNat t ht (by omega)
/-- the form: period, gain, values -/
def formP (vs : List Int) (p g : Int) : Int × Int := leastP (cvAt vs p g) vs.length p
def formM (vs : List Int) (p g : Int) : Nat := shr (cvAt vs p g) (formP vs p g).1 (formP vs p g).2 vs.length
def formV (vs : List Int) (p g : Int) : List Int := vals (cvAt vs p g) (formM vs p g)
theorem form_spec {vs : List Int} {p g : Int} (hp : 0 < p) (hpn : p ≤ vs.length) :
    0 < (formP vs p g).1 ∧ (formP vs p g).1 ≤ p ∧ (formP vs p g).1 ≤ (formV vs p g).length ∧ (formV vs p g).length ≤ vs.length ∧
      ∀ t, 0 ≤ t → cvAt (formV vs p g) (formP vs p g).1 (formP vs p g).2 t = cvAt vs p g t := by
  obtain ⟨a, b, R⟩ := leastP_spec (Rep.cvAt (g := g) hp hpn) hp
  obtain ⟨c, d, R'⟩ := shr_spec a vs.length (show (formP vs p g).1 ≤ _ from Int.le_trans b hpn) R
  refine ⟨a, b, ?_, ?_, ?_⟩
  · unfold formV; rw [vals_length]; exact c
  · unfold formV; rw [vals_length]; exact d
  · exact cvAt_vals a c cvAt_zero R'
end VM

/-! Records: sums of windows; plain Lean. -/
namespace VM
/-- the units ahead of tick i -/
def pre (us : List Int) (i : Int) : Int := (us.take i.toNat).sum
def win (us : List Int) (s k : Int) : Int := pre us (s + k) - pre us s
/-- the sum of a slice -/
theorem sum_cut (us : List Int) (s k : Nat) : ((us.drop s).take k).sum = win us s k := by
  unfold win pre
  have e : (((s : Int) + k).toNat) = s + k := by omega
  have e2 : ((s : Int).toNat) = s := by omega
  rw [e, e2, List.take_add, List.sum_append]
  omega
theorem pre_zero (us : List Int) : pre us 0 = 0 := by simp [pre]
theorem pre_all (us : List Int) : pre us us.length = us.sum := by
  unfold pre
  rw [show ((us.length : Nat) : Int).toNat = us.length by omega, List.take_length]
theorem pre_step {us : List Int} {i : Nat} (h : i < us.length) : pre us ((i : Int) + 1) = pre us i + us.getD i 0 := by
  unfold pre
  rw [show ((i : Int) + 1).toNat = i + 1 by omega, show ((i : Int)).toNat = i by omega, List.take_add_one, List.sum_append]
  rw [List.getD_eq_getElem?_getD, List.getElem?_eq_getElem h]
  simp
/-- the first i from a on, of k many, of which P -/
def firstN (p : Nat → Bool) : Nat → Nat → Option Nat
  | 0, _ => none
  | k + 1, i => if p i = true then some i else firstN p k (i + 1)
/-- windows by their length: the first with more than f allows -/
def brk (f : Int → Int) (us : List Int) : Nat → Nat → Option (Int × Int × Int)
  | 0, _ => none
  | k + 1, len => match firstN (fun s => decide (f len < win us s len)) (us.length + 1 - len) 0 with
    | some s => some (len, s, win us s len - f len)
    | none => brk f us k (len + 1)
def breachM (f : Int → Int) (us : List Int) : Option (Int × Int × Int) := brk f us us.length 1
theorem brk_congr {f g : Int → Int} {us : List Int} : ∀ (k len : Nat), (∀ t : Int, (len : Int) ≤ t → t < len + k → f t = g t) → brk f us k len = brk g us k len
  | 0, _, _ => rfl
  | k + 1, len, h => by
    unfold brk
    rw [h len (by omega) (by omega), brk_congr k (len + 1) fun t h1 h2 => h t (by omega) (by omega)]
theorem breachM_congr {f g : Int → Int} {us : List Int} (h : ∀ t : Int, 1 ≤ t → t ≤ us.length → f t = g t) : breachM f us = breachM g us :=
  brk_congr _ _ fun t h1 h2 => h t (by omega) (by omega)
def IsMax (l : List Int) (m : Int) : Prop := m ∈ l ∧ ∀ y ∈ l, y ≤ m
theorem IsMax.eq {l : List Int} {m n : Int} (a : IsMax l m) (b : IsMax l n) : m = n := by
  have h1 := a.2 n b.1
  have h2 := b.2 m a.1
  omega
end VM

/-! Records that enter as early as a curve allows; plain Lean. -/
namespace VM
theorem snoc_ind {P : List Int → Prop} (h0 : P []) (h1 : ∀ l x, P l → P (l ++ [x])) (l : List Int) : P l := by
  have a : ∀ r : List Int, P r.reverse := fun r => by
    induction r with
    | nil => exact h0
    | cons a r ih => rw [List.reverse_cons]; exact h1 _ _ ih
  have b := a l.reverse
  rwa [List.reverse_reverse] at b
/-- the last k units -/
def tl (us : List Int) (k : Nat) : Int := win us ((us.length : Int) - k) k
theorem tl_zero {us : List Int} : tl us 0 = 0 := by
  unfold tl win
  rw [show (us.length : Int) - ((0 : Nat) : Int) + ((0 : Nat) : Int) = (us.length : Int) - ((0 : Nat) : Int) by omega]
  omega
theorem pre_push {e : List Int} {x i : Int} (h : i ≤ e.length) : pre (e ++ [x]) i = pre e i := by
  unfold pre
  rw [List.take_append_of_le_length (by omega)]
theorem pre_last {e : List Int} {x i : Int} (h : i = (e.length : Int) + 1) : pre (e ++ [x]) i = pre e e.length + x := by
  unfold pre
  rw [List.take_of_length_le (by rw [List.length_append, List.length_singleton]; omega), List.take_of_length_le (by omega), List.sum_append]
  simp
theorem tl_push {e : List Int} {x : Int} {k : Nat} (h : k ≤ e.length) : tl (e ++ [x]) (k + 1) = tl e k + x := by
  unfold tl win
  rw [List.length_append, List.length_singleton, pre_last (by omega), pre_push (by omega)]
  rw [show ((e.length + 1 : Nat) : Int) - ((k + 1 : Nat) : Int) = (e.length : Int) - k by omega, show (e.length : Int) - (k : Int) + (k : Int) = e.length by omega]
  omega
/-- one tick further back -/
theorem tl_step {us : List Int} {k : Nat} (h : k < us.length) : tl us (k + 1) = tl us k + us.getD (us.length - 1 - k) 0 := by
  unfold tl win
  rw [show (us.length : Int) - ((k + 1 : Nat) : Int) + ((k + 1 : Nat) : Int) = us.length by omega, show (us.length : Int) - ((k : Nat) : Int) + ((k : Nat) : Int) = us.length by omega]
  have e := pre_step (us := us) (i := us.length - 1 - k) (by omega)
  rw [show ((us.length - 1 - k : Nat) : Int) + 1 = (us.length : Int) - (k : Nat) by omega] at e
  rw [show (us.length : Int) - ((k + 1 : Nat) : Int) = ((us.length - 1 - k : Nat) : Int) by omega]
  omega
/-- how many may enter behind us, as the windows up to k + 1 tell -/
def freeK (f : Int → Int) (us : List Int) : Nat → Int
  | 0 => f 1
  | k + 1 => min (freeK f us k) (f ((k : Int) + 2) - tl us (k + 1))
def freeM (f : Int → Int) (us : List Int) : Int := freeK f us us.length
theorem le_freeK {f : Int → Int} {us : List Int} {c : Int} : ∀ {n : Nat}, c ≤ freeK f us n ↔ ∀ k : Nat, k ≤ n → tl us k + c ≤ f ((k : Int) + 1)
  | 0 => by
    constructor
    · intro h k hk
      have : k = 0 := by omega
      subst this
      rw [tl_zero]
      have : c ≤ f 1 := h
      show 0 + c ≤ f 1
      omega
    · intro h
      have := h 0 (Nat.le_refl _)
      rw [tl_zero] at this
      have e : 0 + c ≤ f 1 := this
      show c ≤ f 1
      omega
  | n + 1 => by
    have ih := le_freeK (f := f) (us := us) (c := c) (n := n)
    constructor
    · intro h k hk
      unfold freeK at h
      by_cases z : k = n + 1
      · subst z
        rw [show ((n + 1 : Nat) : Int) + 1 = (n : Int) + 2 by omega]
        omega
      · exact ih.mp (by omega) k (by omega)
    · intro h
      have a := ih.mpr fun k hk => h k (by omega)
      have b := h (n + 1) (Nat.le_refl _)
      rw [show ((n + 1 : Nat) : Int) + 1 = (n : Int) + 2 by omega] at b
      unfold freeK
      omega
theorem le_free {f : Int → Int} {us : List Int} {c : Int} : c ≤ freeM f us ↔ ∀ k : Nat, k ≤ us.length → tl us k + c ≤ f ((k : Int) + 1) := le_freeK
/-- no window has too many -/
def Kept (f : Int → Int) (us : List Int) : Prop := ∀ s k : Nat, 1 ≤ k → s + k ≤ us.length → win us s k ≤ f k
theorem Kept.push {f : Int → Int} {e : List Int} {x : Int} (h : Kept f e) (hx : x ≤ freeM f e) : Kept f (e ++ [x]) := by
  intro s k h1 h2
  rw [List.length_append, List.length_singleton] at h2
  by_cases c : s + k ≤ e.length
  · have := h s k h1 c
    unfold win at this ⊢
    rw [pre_push (by omega), pre_push (by omega)]
    exact this
  · have a := le_free.mp hx (k - 1) (by omega)
    have b := tl_push (e := e) (x := x) (k := k - 1) (by omega)
    rw [show k - 1 + 1 = k by omega] at b
    unfold tl at b
    rw [List.length_append, List.length_singleton, show ((e.length + 1 : Nat) : Int) - (k : Int) = (s : Int) by omega] at b
    rw [show ((k - 1 : Nat) : Int) + 1 = (k : Int) by omega] at a
    rw [b]
    exact a
theorem Kept.front {f : Int → Int} {e : List Int} {x : Int} (h : Kept f (e ++ [x])) : Kept f e := by
  intro s k h1 h2
  have a := h s k h1 (by rw [List.length_append, List.length_singleton]; omega)
  unfold win at a ⊢
  rw [pre_push (by omega), pre_push (by omega)] at a
  exact a
theorem Kept.free {f : Int → Int} {e : List Int} {x : Int} (h : Kept f (e ++ [x])) : x ≤ freeM f e := by
  refine le_free.mpr fun k hk => ?_
  have a := h (e.length - k) (k + 1) (by omega) (by rw [List.length_append, List.length_singleton]; omega)
  have b := tl_push (e := e) (x := x) (k := k) hk
  unfold tl at b
  rw [List.length_append, List.length_singleton, show ((e.length + 1 : Nat) : Int) - ((k + 1 : Nat) : Int) = ((e.length - k : Nat) : Int) by omega] at b
  rw [b] at a
  have z : ((k + 1 : Nat) : Int) = (k : Int) + 1 := by omega
  rw [z] at a
  exact a
theorem Kept.nil {f : Int → Int} : Kept f [] := fun s k h1 h2 => by
  have : s + k ≤ 0 := h2
  omega
theorem firstN_none {p : Nat → Bool} : ∀ {k i : Nat}, firstN p k i = none ↔ ∀ j, i ≤ j → j < i + k → p j = false
  | 0, i => ⟨fun _ => fun j a b => absurd b (by omega), fun _ => rfl⟩
  | k + 1, i => by
    have ih := firstN_none (p := p) (k := k) (i := i + 1)
    unfold firstN
    by_cases c : p i = true
    · rw [if_pos c]
      refine ⟨fun h => (by cases h), fun h => ?_⟩
      rw [h i (Nat.le_refl _) (by omega)] at c
      cases c
    · rw [if_neg c, ih]
      refine ⟨fun h j a b => ?_, fun h j a b => h j (by omega) (by omega)⟩
      by_cases z : j = i
      · rw [z]; simpa using c
      · exact h j (by omega) (by omega)
theorem brk_none {f : Int → Int} {us : List Int} : ∀ {k len : Nat}, brk f us k len = none ↔ ∀ t : Nat, len ≤ t → t < len + k → ∀ s : Nat, s < us.length + 1 - t → win us s t ≤ f t
  | 0, len => ⟨fun _ => fun t a b => absurd b (by omega), fun _ => rfl⟩
  | k + 1, len => by
    have ih := brk_none (f := f) (us := us) (k := k) (len := len + 1)
    have fn := firstN_none (p := fun s => decide (f len < win us s len)) (k := us.length + 1 - len) (i := 0)
    unfold brk
    cases hh : firstN (fun s => decide (f len < win us s len)) (us.length + 1 - len) 0 with
    | some s =>
      refine ⟨fun h => (by cases h), fun h => ?_⟩
      have : firstN (fun s => decide (f len < win us s len)) (us.length + 1 - len) 0 = none := fn.mpr fun j _ b => by
        have := h len (Nat.le_refl _) (by omega) j (by omega)
        exact decide_eq_false (by omega)
      rw [hh] at this; cases this
    | none =>
      show brk f us k (len + 1) = none ↔ _
      rw [ih]
      refine ⟨fun h t a b s hs => ?_, fun h t a b s hs => h t (by omega) (by omega) s hs⟩
      by_cases z : t = len
      · subst z
        have := fn.mp hh s (Nat.zero_le _) (by omega)
        have := of_decide_eq_false this
        omega
      · exact h t (by omega) (by omega) s hs
theorem kept_iff {f : Int → Int} {us : List Int} : breachM f us = none ↔ Kept f us := by
  unfold breachM
  rw [brk_none]
  exact ⟨fun h s k h1 h2 => h k h1 (by omega) s (by omega), fun h t a b s hs => h s t a (by omega)⟩
/-! ### shaped -/
def shS (f : Int → Int) (st : List Int × Int) (u : Int) : List Int × Int := (st.1 ++ [min (st.2 + u) (freeM f st.1)], st.2 + u - min (st.2 + u) (freeM f st.1))
def shG (f : Int → Int) (us : List Int) : List Int × Int := us.foldl (shS f) ([], 0)
def shapedM (f : Int → Int) (us : List Int) : List Int := (shG f us).1
theorem shG_push {f : Int → Int} {us : List Int} {u : Int} : shG f (us ++ [u]) = shS f (shG f us) u := by
  unfold shG; rw [List.foldl_append]; rfl
theorem shG_take {f : Int → Int} {us : List Int} {i : Nat} (h : i < us.length) : shG f (us.take (i + 1)) = shS f (shG f (us.take i)) (us.getD i 0) := by
  rw [← shG_push, List.take_add_one, List.getElem?_eq_getElem h, List.getD_eq_getElem?_getD, List.getElem?_eq_getElem h]
  rfl
theorem shG_length {f : Int → Int} (us : List Int) : (shG f us).1.length = us.length := by
  refine snoc_ind (P := fun us => (shG f us).1.length = us.length) rfl (fun l x ih => ?_) us
  show (shG f (l ++ [x])).1.length = (l ++ [x]).length
  rw [shG_push]
  unfold shS
  rw [List.length_append, List.length_append, ih]
  rfl
theorem shaped_length {f : Int → Int} (us : List Int) : (shapedM f us).length = us.length := shG_length us
theorem shaped_kept {f : Int → Int} (us : List Int) : Kept f (shapedM f us) := by
  refine snoc_ind (P := fun us => Kept f (shapedM f us)) Kept.nil (fun l x ih => ?_) us
  show Kept f (shG f (l ++ [x])).1
  rw [shG_push]
  exact Kept.push ih (by show min _ _ ≤ _; unfold shapedM at *; omega)
theorem kept_shaped {f : Int → Int} {us : List Int} (h : Kept f us) : shG f us = (us, 0) := by
  revert h
  refine snoc_ind (P := fun us => Kept f us → shG f us = (us, 0)) (fun _ => rfl) (fun l x ih h => ?_) us
  have a := h.free
  rw [shG_push, ih h.front]
  unfold shS
  simp only
  rw [show min (0 + x) (freeM f l) = x by omega]
  congr 1
  omega
/-- rising values from 1 on -/
structure Up (f : Int → Int) : Prop where
  one : 0 ≤ f 1
  up : ∀ k : Nat, 1 ≤ k → f k ≤ f ((k : Int) + 1)
theorem Up.free {f : Int → Int} (U : Up f) {e : List Int} (h : Kept f e) : 0 ≤ freeM f e := by
  refine le_free.mpr fun k hk => ?_
  by_cases z : k = 0
  · subst z
    rw [tl_zero]
    have := U.one
    show 0 + 0 ≤ f 1
    omega
  · have a := h (e.length - k) k (by omega) (by omega)
    have b := U.up k (by omega)
    unfold tl
    rw [show (e.length : Int) - (k : Int) = ((e.length - k : Nat) : Int) by omega]
    omega
theorem sum_snoc {l : List Int} {x : Int} : (l ++ [x]).sum = l.sum + x := by rw [List.sum_append]; simp
/-- what entered and waits: counts, together what came -/
theorem shG_bound {f : Int → Int} (U : Up f) {us : List Int} (h : ∀ u ∈ us, 0 ≤ u) : 0 ≤ (shG f us).2 ∧ (shG f us).1.sum + (shG f us).2 = us.sum ∧ ∀ x ∈ (shG f us).1, 0 ≤ x ∧ x ≤ us.sum := by
  revert h
  refine snoc_ind (P := fun us => (∀ u ∈ us, 0 ≤ u) → 0 ≤ (shG f us).2 ∧ (shG f us).1.sum + (shG f us).2 = us.sum ∧ ∀ x ∈ (shG f us).1, 0 ≤ x ∧ x ≤ us.sum) (fun _ => ⟨Int.le_refl _, rfl, fun x hx => by cases hx⟩) (fun l u ih h => ?_) us
  have hu := h u (by simp)
  obtain ⟨a, b, c⟩ := ih fun y hy => h y (List.mem_append_left _ hy)
  have fr := U.free (shaped_kept (f := f) l)
  unfold shapedM at fr
  have ps : 0 ≤ (shG f l).1.sum := by
    have : ∀ r : List Int, (∀ x ∈ r, 0 ≤ x) → 0 ≤ r.sum := fun r => by
      induction r with
      | nil => intro _; decide
      | cons z r ih => intro q; rw [List.sum_cons]; have := q z List.mem_cons_self; have := ih fun y hy => q y (List.mem_cons_of_mem _ hy); omega
    exact this _ fun x hx => (c x hx).1
  rw [shG_push, sum_snoc]
  unfold shS
  simp only [sum_snoc]
  refine ⟨by omega, by omega, fun x hx => ?_⟩
  rcases List.mem_append.mp hx with q | q
  · have := c x q; omega
  · cases List.mem_singleton.mp q
    omega
theorem shaped_front {f : Int → Int} {us vs : List Int} : (shapedM f (us ++ vs)).take us.length = shapedM f us := by
  refine snoc_ind (P := fun vs => (shapedM f (us ++ vs)).take us.length = shapedM f us) ?_ (fun l x ih => ?_) vs
  · show (shapedM f (us ++ [])).take us.length = shapedM f us
    rw [List.append_nil, ← shaped_length (f := f) us, List.take_length]
  · show (shapedM f (us ++ (l ++ [x]))).take us.length = shapedM f us
    rw [← List.append_assoc]
    unfold shapedM at ih ⊢
    rw [shG_push]
    unfold shS
    rw [List.take_append_of_le_length (by rw [shG_length, List.length_append]; omega)]
    exact ih
theorem freeK_congr {f g : Int → Int} {e : List Int} : ∀ {n : Nat}, (∀ t : Int, 1 ≤ t → t ≤ (n : Int) + 1 → f t = g t) → freeK f e n = freeK g e n
  | 0, h => h 1 (by omega) (by omega)
  | n + 1, h => by
    unfold freeK
    rw [freeK_congr (n := n) fun t a b => h t a (by omega), h ((n : Int) + 2) (by omega) (by omega)]
theorem shG_congr {f g : Int → Int} {us : List Int} (h : ∀ t : Int, 1 ≤ t → t ≤ us.length → f t = g t) : shG f us = shG g us := by
  revert h
  refine snoc_ind (P := fun us => (∀ t : Int, 1 ≤ t → t ≤ us.length → f t = g t) → shG f us = shG g us) (fun _ => rfl) (fun l x ih h => ?_) us
  rw [List.length_append, List.length_singleton] at h
  rw [shG_push, shG_push, ih fun t a b => h t a (by omega)]
  unfold shS freeM
  rw [freeK_congr fun t a b => h t a (by rw [shG_length] at b; omega)]
/-- a curve that rises where it is written rises -/
theorem up_cv {vs : List Int} {p g : Int} (hp : 0 < p) (hpn : p ≤ vs.length) (h0 : 0 ≤ vs.getD 0 0) (up : ∀ i, i + 1 < vs.length → vs.getD i 0 ≤ vs.getD (i + 1) 0) (last : vs.getD (vs.length - 1) 0 ≤ vs.getD (vs.length - p.toNat) 0 + g) : Up (cvAt vs p g) := by
  refine ⟨by rw [cvAt_in (by decide) (by omega)]; exact h0, fun k => ?_⟩
  induction k using Nat.strongRecOn with
  | ind k ih =>
    intro h1
    by_cases c : k < vs.length
    · rw [cvAt_in (by omega) (by omega), cvAt_in (by omega) (by omega), show ((k : Int) - 1).toNat = k - 1 by omega, show ((k : Int) + 1 - 1).toNat = k - 1 + 1 by omega]
      exact up (k - 1) (by omega)
    · by_cases d : k = vs.length
      · rw [cvAt_back (t := (k : Int) + 1) hp hpn (by omega), cvAt_in (by omega) (by omega), cvAt_in (by omega) (by omega), show ((k : Int) - 1).toNat = vs.length - 1 by omega, show ((k : Int) + 1 - p - 1).toNat = vs.length - p.toNat by omega]
        exact last
      · rw [cvAt_back (t := (k : Int) + 1) hp hpn (by omega), cvAt_back (t := (k : Int)) hp hpn (by omega)]
        have := ih (k - p.toNat) (by omega) (by omega)
        rw [show ((k - p.toNat : Nat) : Int) = (k : Int) - p by omega] at this
        rw [show (k : Int) + 1 - p = (k : Int) - p + 1 by omega]
        omega
/-- no pair of lengths up to n shows a break -/
def goodB (f : Int → Int) (n : Nat) : Bool := (List.range n).all fun a => (List.range (a + 1)).all fun b => decide (f ((a : Int) + 1 + ((b : Int) + 1)) ≤ f ((a : Int) + 1) + f ((b : Int) + 1))
theorem good_at {f : Int → Int} {n : Nat} (h : goodB f n = true) {a b : Int} (h1 : 1 ≤ b) (h2 : b ≤ a) (h3 : a ≤ n) : f (a + b) ≤ f a + f b := by
  unfold goodB at h
  rw [List.all_eq_true] at h
  have x := h (a - 1).toNat (List.mem_range.mpr (by omega))
  rw [List.all_eq_true] at x
  have y := of_decide_eq_true (x (b - 1).toNat (List.mem_range.mpr (by omega)))
  rw [show (((a - 1).toNat : Nat) : Int) + 1 = a by omega, show (((b - 1).toNat : Nat) : Int) + 1 = b by omega] at y
  exact y
end VM

/-! shaped is the greatest; curves that are good at all lengths; greedy records; plain Lean. -/
namespace VM
/-- no unit of vs enters ahead of its coming in us -/
def Behind (us vs : List Int) : Prop := vs.length = us.length ∧ ∀ i : Nat, i ≤ us.length → pre vs i ≤ pre us i
theorem pre_take {us : List Int} {i : Nat} : pre us i = (us.take i).sum := by
  unfold pre; rw [Int.toNat_natCast]
theorem pre_len {us : List Int} {i : Int} (h : (us.length : Int) ≤ i) : pre us i = us.sum := by
  unfold pre; rw [List.take_of_length_le (by omega)]
theorem tl_pre {us : List Int} {k : Nat} (h : k ≤ us.length) : tl us k = us.sum - pre us ((us.length : Int) - k) := by
  unfold tl win
  rw [show (us.length : Int) - (k : Int) + (k : Int) = us.length by omega, pre_all]
/-- free is one of the windows -/
theorem freeK_some {f : Int → Int} {us : List Int} : ∀ n : Nat, ∃ k : Nat, k ≤ n ∧ freeK f us n = f ((k : Int) + 1) - tl us k
  | 0 => ⟨0, Nat.le_refl _, by rw [tl_zero]; show f 1 = f ((0 : Int) + 1) - 0; rw [Int.zero_add]; omega⟩
  | n + 1 => by
    obtain ⟨k, hk, e⟩ := freeK_some (f := f) (us := us) n
    unfold freeK
    by_cases c : freeK f us n ≤ f ((n : Int) + 2) - tl us (n + 1)
    · exact ⟨k, by omega, by omega⟩
    · refine ⟨n + 1, Nat.le_refl _, ?_⟩
      rw [show ((n + 1 : Nat) : Int) + 1 = (n : Int) + 2 by omega]
      omega
theorem shG_front {f : Int → Int} {us : List Int} {i : Nat} (h : i ≤ us.length) : (shG f (us.take i)).1 = (shapedM f us).take i := by
  have e : us.take i ++ us.drop i = us := List.take_append_drop i us
  have s := shaped_front (f := f) (us := us.take i) (vs := us.drop i)
  rw [e, List.length_take, Nat.min_eq_left h] at s
  exact s.symm
theorem shG_sum {f : Int → Int} (us : List Int) : (shG f us).1.sum + (shG f us).2 = us.sum := by
  refine snoc_ind (P := fun us => (shG f us).1.sum + (shG f us).2 = us.sum) rfl (fun l u ih => ?_) us
  show (shG f (l ++ [u])).1.sum + (shG f (l ++ [u])).2 = (l ++ [u]).sum
  rw [shG_push, sum_snoc]
  unfold shS
  simp only [sum_snoc]
  omega
/-- the units so far of the shaped record -/
theorem shaped_pre {f : Int → Int} {us : List Int} {i : Nat} (h : i ≤ us.length) : pre (shapedM f us) i = (shG f (us.take i)).1.sum := by
  rw [shG_front h, pre_take]
theorem shaped_greatest {f : Int → Int} {us vs : List Int} (B : Behind us vs) (K : Kept f vs) : ∀ i : Nat, i ≤ us.length → pre vs i ≤ pre (shapedM f us) i := by
  intro i
  induction i using Nat.strongRecOn with
  | ind i ih =>
    intro hi
    match i with
    | 0 => rw [show ((0 : Nat) : Int) = 0 from rfl, pre_zero, pre_zero]; exact Int.le_refl _
    | i + 1 =>
      have st := shG_take (f := f) (us := us) (i := i) (by omega)
      have sm := shG_sum (f := f) (us.take i)
      have p1 := shaped_pre (f := f) (us := us) (i := i + 1) hi
      have p0 := shaped_pre (f := f) (us := us) (i := i) (by omega)
      have lg : (shG f (us.take i)).1.length = i := by rw [shG_length, List.length_take]; omega
      rw [p1, st]
      have us1 := pre_step (us := us) (i := i) (by omega)
      have ut : (us.take i).sum = pre us i := pre_take.symm
      have bi := B.2 (i + 1) hi
      rw [show ((i + 1 : Nat) : Int) = (i : Int) + 1 by omega] at bi ⊢
      unfold shS
      simp only [sum_snoc]
      by_cases c : (shG f (us.take i)).2 + us.getD i 0 ≤ freeM f (shG f (us.take i)).1
      · omega
      · obtain ⟨k, hk, e⟩ := freeK_some (f := f) (us := (shG f (us.take i)).1) (shG f (us.take i)).1.length
        rw [lg] at hk
        have tp := tl_pre (us := (shG f (us.take i)).1) (k := k) (by omega)
        rw [lg] at tp
        have pk : pre (shG f (us.take i)).1 ((i : Int) - k) = pre (shapedM f us) ((i - k : Nat) : Int) := by
          rw [shG_front (by omega), show (i : Int) - (k : Int) = ((i - k : Nat) : Int) by omega, pre_take, pre_take, List.take_take, Nat.min_eq_left (by omega)]
        have q := ih (i - k) (by omega) (by omega)
        have w := K (i - k) (k + 1) (by omega) (by rw [B.1]; omega)
        unfold win at w
        rw [show ((i - k : Nat) : Int) + ((k + 1 : Nat) : Int) = (i : Int) + 1 by omega, show ((k + 1 : Nat) : Int) = (k : Int) + 1 by omega] at w
        have fm : freeM f (shG f (us.take i)).1 = f ((k : Int) + 1) - tl (shG f (us.take i)).1 k := e
        omega
/-- the shaped record is behind what comes -/
theorem shaped_behind {f : Int → Int} {us : List Int} (U : Up f) (h : ∀ u ∈ us, 0 ≤ u) : Behind us (shapedM f us) := by
  refine ⟨shaped_length us, fun i hi => ?_⟩
  have a := shG_bound (f := f) U (us := us.take i) fun u hu => h u (List.mem_of_mem_take hu)
  rw [shaped_pre hi, pre_take]
  omega
/-- good at the lengths of the form: good at all lengths -/
theorem good_all {f : Int → Int} {n p g : Int} (R : Rep f n p g) (hp : 0 < p) (hpn : p ≤ n) (h0 : f 0 = 0) (G : ∀ a b : Int, 1 ≤ b → b ≤ a → a ≤ n → f (a + b) ≤ f a + f b) : ∀ a b : Int, 0 ≤ a → 0 ≤ b → f (a + b) ≤ f a + f b := by
  have half : ∀ (k : Nat) (a b : Int), 0 ≤ b → b ≤ a → a + b = k → f (a + b) ≤ f a + f b := by
    intro k
    induction k using Nat.strongRecOn with
    | ind k ih =>
      intro a b hb hba e
      by_cases z : b = 0
      · subst z; rw [h0, Int.add_zero]; omega
      · by_cases c : a ≤ n
        · exact G a b (by omega) hba c
        · have r1 := R a (by omega)
          have r2 := R (a + b) (by omega)
          rw [show a + b - p = a - p + b by omega] at r2
          have : f (a - p + b) ≤ f (a - p) + f b := by
            by_cases d : b ≤ a - p
            · exact ih (a - p + b).toNat (by omega) (a - p) b hb d (by omega)
            · have := ih (a - p + b).toNat (by omega) b (a - p) (by omega) (by omega) (by omega)
              rw [show b + (a - p) = a - p + b by omega] at this
              omega
          omega
  intro a b ha hb
  by_cases c : b ≤ a
  · exact half (a + b).toNat a b hb c (by omega)
  · have := half (a + b).toNat b a ha (by omega) (by omega)
    rw [show b + a = a + b by omega] at this
    omega
/-- the greedy record of n ticks -/
def greedyM (f : Int → Int) (n : Nat) : List Int := (List.range n).map fun t : Nat => f ((t : Int) + 1) - f t
theorem greedy_length {f : Int → Int} {n : Nat} : (greedyM f n).length = n := by simp [greedyM]
theorem greedy_succ {f : Int → Int} {n : Nat} : greedyM f (n + 1) = greedyM f n ++ [f ((n : Int) + 1) - f n] := by
  unfold greedyM; rw [List.range_succ, List.map_append]; rfl
theorem greedy_sum {f : Int → Int} (h0 : f 0 = 0) : ∀ n : Nat, (greedyM f n).sum = f n
  | 0 => by show (0 : Int) = f 0; omega
  | n + 1 => by
    rw [greedy_succ, sum_snoc, greedy_sum h0 n, show ((n + 1 : Nat) : Int) = (n : Int) + 1 by omega]
    omega
theorem greedy_take {f : Int → Int} {n i : Nat} (h : i ≤ n) : (greedyM f n).take i = greedyM f i := by
  unfold greedyM; rw [← List.map_take, List.take_range, Nat.min_eq_left h]
theorem greedy_pre {f : Int → Int} (h0 : f 0 = 0) {n i : Nat} (h : i ≤ n) : pre (greedyM f n) i = f i := by
  rw [pre_take, greedy_take h, greedy_sum h0]
theorem greedy_kept {f : Int → Int} (h0 : f 0 = 0) (G : ∀ a b : Int, 0 ≤ a → 0 ≤ b → f (a + b) ≤ f a + f b) (n : Nat) : Kept f (greedyM f n) := by
  intro s k h1 h2
  rw [greedy_length] at h2
  unfold win
  rw [show (s : Int) + (k : Int) = ((s + k : Nat) : Int) by omega, greedy_pre h0 h2, greedy_pre h0 (by omega)]
  have := G s k (by omega) (by omega)
  rw [show ((s + k : Nat) : Int) = (s : Int) + (k : Int) by omega]
  omega
/-- ahead of every record that keeps the curve -/
theorem greedy_ahead {f : Int → Int} (h0 : f 0 = 0) {vs : List Int} (K : Kept f vs) {n i : Nat} (hn : vs.length = n) (hi : i ≤ n) : pre vs i ≤ pre (greedyM f n) i := by
  rw [greedy_pre h0 hi]
  by_cases z : i = 0
  · subst z
    rw [show ((0 : Nat) : Int) = 0 from rfl, pre_zero, h0]
    exact Int.le_refl _
  · have := K 0 i (by omega) (by omega)
    unfold win at this
    rw [show ((0 : Nat) : Int) + (i : Int) = i by omega, show ((0 : Nat) : Int) = 0 from rfl, pre_zero] at this
    omega
end VM

/-! What repr may be asked of: shown, not deep, not long. -/
namespace VR
open PySem
structure Sz (k L : Nat) (d : PyData) : Prop where
  sh : d.showable = true
  dp : d.depth ≤ k
  ln : d.shown.length ≤ L
theorem Sz.mono {k L k' L' : Nat} {d : PyData} (h : Sz k L d) (a : k ≤ k') (b : L ≤ L') : Sz k' L' d := ⟨h.sh, Nat.le_trans h.dp a, Nat.le_trans h.ln b⟩
theorem Sz.none : Sz 0 5 .none := ⟨rfl, Nat.zero_le _, by decide⟩
theorem Sz.bool (b : Bool) : Sz 0 5 (.bool b) := ⟨rfl, Nat.zero_le _, by cases b <;> decide⟩
theorem log_small {n : Nat} (h : n < 10 ^ 100) : n.log2 < 1920 := by
  by_cases z : n = 0
  · subst z; decide
  · exact (Nat.log2_lt z).mpr (Nat.lt_trans h (by decide +kernel))
theorem Sz.int {i : Int} (h : i.natAbs < 10 ^ 100) : Sz 0 101 (.int i) := by
  refine ⟨by simp only [PyData.showable]; exact decide_eq_true (log_small h), Nat.zero_le _, ?_⟩
  have e := int_text_length_le10 (k := 100) (by decide) h
  show (Str.ofString (toString i)).length ≤ 101
  rw [ofString_length]; exact e
theorem all_show {k L : Nat} : ∀ {ds : List PyData}, (∀ d ∈ ds, Sz k L d) → PyData.showableAll ds = true
  | [], _ => rfl
  | d :: ds, h => by
    simp only [PyData.showableAll]
    rw [(h d List.mem_cons_self).sh, all_show fun e he => h e (List.mem_cons_of_mem _ he)]
    rfl
theorem all_depth {k L : Nat} : ∀ {ds : List PyData}, (∀ d ∈ ds, Sz k L d) → PyData.depthAll ds ≤ k
  | [], _ => Nat.zero_le _
  | d :: ds, h => by
    simp only [PyData.depthAll]
    exact Nat.max_le.mpr ⟨(h d List.mem_cons_self).dp, all_depth fun e he => h e (List.mem_cons_of_mem _ he)⟩
theorem all_len {k L : Nat} : ∀ {ds : List PyData}, (∀ d ∈ ds, Sz k L d) → ((PyData.shownAll ds).map (·.length)).sum ≤ L * ds.length ∧ (PyData.shownAll ds).length = ds.length
  | [], _ => ⟨Nat.zero_le _, rfl⟩
  | d :: ds, h => by
    have a := (h d List.mem_cons_self).ln
    obtain ⟨b, c⟩ := all_len (ds := ds) fun e he => h e (List.mem_cons_of_mem _ he)
    simp only [PyData.shownAll, List.map_cons, List.sum_cons, List.length_cons]
    refine ⟨?_, by omega⟩
    rw [Nat.mul_add, Nat.mul_one]
    omega
theorem Sz.list {k L n : Nat} {ds : List PyData} (h : ∀ d ∈ ds, Sz k L d) (hn : ds.length ≤ n) : Sz (k + 1) ((L + 2) * n + 3) (.list ds) := by
  refine ⟨by simp only [PyData.showable]; exact all_show h, by simp only [PyData.depth]; have := all_depth h; omega, ?_⟩
  obtain ⟨a, b⟩ := all_len h
  have c := listText_len_le (PyData.shownAll ds)
  simp only [PyData.shown]
  rw [b] at c
  have m : (L + 2) * ds.length ≤ (L + 2) * n := Nat.mul_le_mul_left _ hn
  rw [Nat.add_mul] at m
  omega
theorem Sz.tuple {k L n : Nat} {ds : List PyData} (h : ∀ d ∈ ds, Sz k L d) (hn : ds.length ≤ n) : Sz (k + 1) ((L + 2) * n + 3) (.tuple ds) := by
  refine ⟨by simp only [PyData.showable]; exact all_show h, by simp only [PyData.depth]; have := all_depth h; omega, ?_⟩
  obtain ⟨a, b⟩ := all_len h
  have c := tupleText_len_le (PyData.shownAll ds)
  simp only [PyData.shown]
  rw [b] at c
  have m : (L + 2) * ds.length ≤ (L + 2) * n := Nat.mul_le_mul_left _ hn
  rw [Nat.add_mul] at m
  omega
theorem Sz.ints {n : Nat} {us : List Int} (h : ∀ u ∈ us, u.natAbs < 10 ^ 100) (hn : us.length ≤ n) : Sz 1 (103 * n + 3) (.list (us.map PyData.int)) := by
  refine Sz.list (k := 0) (L := 101) (fun d hd => ?_) (by rw [List.length_map]; exact hn)
  obtain ⟨u, hu, rfl⟩ := List.mem_map.mp hd
  exact .int (h u hu)
end VR

/-! for i, x in enumerate(xs, start=k), and over reversed(xs). -/
namespace VE
open PySem PySem.Spec PyProof.Rows L2
section
variable {prog : Program} {w : World} {A : Around} {E : Value → Shared → Prop} {s : Shared}
theorem next_rev {it l : Addr} {i : Nat} {items : Array Value} {x : Value} {Q : Value → Shared → Prop} (hit : s.heap.IsRevIter it l (i : Int)) (hl : s.heap.IsList l items)
    (hx : items[i]? = some x) (hQ : ∀ h', h'.IsRevIter it l ((i : Int) - 1) → Heap.SameBut it s.heap h' → Q x { s with heap := h' }) :
    wpAny (model prog w) A (Builtin.SmallTypes.nextOf (.ref it)) Q E s := by
  obtain ⟨ob, g1, g2, g3⟩ := id hit
  obtain ⟨ol, k1, _, nl, k2⟩ := hl
  have slot := F.slot_lri_next
  unfold Builtin.SmallTypes.nextOf
  refine wpAny_bind (wpAny_callSpecial?_slot (name := Str.ofString "__next__") hit.typeIs slot (wpAny_call_entry slot hit.typeIs F.entry_lri_next ?_ (F.args_lri_next_1 _)))
  unfold Builtin.«list_reverseiterator.__next__» ; refine wpAny_bind (wpAny_of_eq (a := (Value.ref it, [])) rfl ?_)
  try dsimp only
  refine wpAny_bind (wpAny_field g1 g3 (x := rawInt (i : Int)) rfl ?_)
  show wpAny _ A.in1 (if (i : Int) < 0 then _ else _) _ _ s
  rw [if_neg (show ¬ (i : Int) < 0 by omega)]
  show wpAny _ A.in1 (field (.ref it) 0 >>= _) _ _ s
  refine wpAny_bind (wpAny_field g1 g3 (x := .ref l) rfl ?_)
  show wpAny _ A.in1 (seqItems? (.ref l) >>= _) _ _ s
  refine wpAny_bind (wpAny_seqItems k1 k2 ?_)
  simp only [Int.toNat_natCast, hx]
  refine wpAny_bind (wpAny_setField g1 g3 (by simp) ?_)
  have here : (s.heap.update it fun o => o.mapFields fun vs => vs.setIfInBounds 1 (rawInt ((i : Int) - 1))).IsRevIter it l ((i : Int) - 1) := by
    refine ⟨_, Heap.get?_update_self _ g1 (Obj.isFreed_of_fields (Obj.data_mapFields g3 _)), (Obj.cls_mapFields ..).trans g2, ?_⟩
    rw [Obj.data_mapFields g3]
    simp
  first
  | exact wpAny_pure ⟨x, rfl, wpAny_pure (hQ _ here (Heap.SameBut.update ..))⟩
  | exact wpAny_bind (wpAny_pure (wpAny_pure ⟨x, rfl, wpAny_pure (hQ _ here (Heap.SameBut.update ..))⟩))
theorem next_rev_end {it l : Addr} {Q : Value → Shared → Prop} (hh : A.handled = none) (hit : s.heap.IsRevIter it l (-1))
    (hE : ∀ h' e, Heap.ExtBut it s.heap h' → (∃ o, h'.get? e = some o ∧ o.cls = .type "StopIteration") → E (.ref e) { s with heap := h' }) :
    wpAny (model prog w) A (Builtin.SmallTypes.nextOf (.ref it)) Q E s := by
  obtain ⟨ob, g1, g2, g3⟩ := id hit
  have slot := F.slot_lri_next
  unfold Builtin.SmallTypes.nextOf
  refine wpAny_bind (wpAny_callSpecial?_slot (name := Str.ofString "__next__") hit.typeIs slot (wpAny_call_entry slot hit.typeIs F.entry_lri_next ?_ (F.args_lri_next_1 _)))
  unfold Builtin.«list_reverseiterator.__next__» ; refine wpAny_bind (wpAny_of_eq (a := (Value.ref it, [])) rfl ?_)
  try dsimp only
  refine wpAny_bind (wpAny_field g1 g3 (x := rawInt (-1)) rfl ?_)
  show wpAny _ A.in1 (if (-1 : Int) < 0 then _ else _) _ _ s
  rw [if_pos (show (-1 : Int) < 0 by decide)]
  refine wpAny_bind (wpAny_rule ?_)
  first
  | show wpAny _ A.in1 (newExc (.type "StopIteration") [] >>= _) _ _ _
  | (refine wpAny_bind ?_; show wpAny _ A.in1 (newExc (.type "StopIteration") [] >>= _) _ _ _)
  refine wpAny_bind ?_
  simp only [newExc, newTuple]
  refine wpAny_bind (wpAny_newObj_type ?_ (by size_fits)) ; refine wpAny_bind (m := firstArgMember _ _) (wpAny_of_eq (a := Value.none) (by first | rfl | (simp only [firstArgMember]; rfl)) ?_)
  refine wpAny_newObj_type ?_ (by size_fits)
  simp only [raiseNew]
  refine wpAny_bind (wpAny_handled ?_)
  first | rw [show A.in1.handled = none from hh] | rw [hh]
  refine wpAny_bind (wpAny_pure (wpAny_throw ?_))
  exact hE _ _ (((Heap.ExtBut.refl _ _).push _).push _) ⟨_, Heap.get?_push_size _ rfl, rfl⟩
end
theorem draws_rev {prog : Program} {w : World} {A : Around} (hh : A.handled = none) (it l : Addr) (hne : l ≠ it) (items : Array Value) :
    Draws prog w A it [it, l] items.size (fun i v => items[items.size - 1 - i]? = some v)
      (fun i h => i ≤ items.size ∧ h.IsRevIter it l ((items.size : Int) - 1 - (i : Int)) ∧ h.IsList l items) where
  live := fun _ _ st => let ⟨o, ho, _⟩ := st.2.1; ⟨o, ho⟩
  frame := fun _ _ _ st k => ⟨st.1, st.2.1.at fun o e => k it (by simp) o e, st.2.2.at fun o e => k l (by simp) o e⟩
  item := fun i s Q E hi st hQ => by
    obtain ⟨_, hit, hl⟩ := st
    rw [show (items.size : Int) - 1 - (i : Int) = ((items.size - 1 - i : Nat) : Int) by omega] at hit
    have hx : items[items.size - 1 - i]? = some (items[items.size - 1 - i]'(by omega)) := Array.getElem?_eq_getElem (by omega)
    refine next_rev hit hl hx fun h' hit' sb => hQ _ h' s.toks hx ⟨hi, ?_, hl.extBut sb.extBut hne⟩ sb
    rw [show (items.size : Int) - 1 - ((i + 1 : Nat) : Int) = ((items.size - 1 - i : Nat) : Int) - 1 by omega]
    exact hit'
  done := fun s Q E st hE => by
    obtain ⟨_, hit, _⟩ := st
    rw [show (items.size : Int) - 1 - (items.size : Int) = -1 by omega] at hit
    exact next_rev_end hh hit hE

/-- what may be iterated as it is: iter(v) is v -/
structure Self (v : Value) (H : Heap → Prop) : Prop where
  iter : ∀ (prog : Program) (w : World) (A : Around) (E : Value → Shared → Prop) (s : Shared) (Q : Value → Shared → Prop), H s.heap → Q v s → wpAny (model prog w) A (pyIter v) Q E s
theorem self_rev (it l : Addr) (i : Int) : Self (.ref it) fun h => h.IsRevIter it l i := ⟨fun _ _ _ _ _ _ h q => wpAny_pyIter_revIter h q⟩
set_option maxHeartbeats 4000000 in
theorem new_enum {v : Value} {H : Heap → Prop} (B : Self v H) (k : Int) (t : Tok) (hfit : Builtin.SmallTypes.fitsIndex k = true) :
    Meets (Builtin.«enumerate.__new__» ⟨[.type "enumerate", v], [(Str.ofString "start", .int k t)]⟩) (fun _ R s => H s.heap ∧
      R (.ok (.ret (.ref s.heap.objs.size))) { s with heap := s.heap.push { cls := .type "enumerate", data := .fields #[.none, .bool false, v, rawInt k, .none, .none] } }) := by
  refine .of_wp fun prog w A R s h => ?_
  obtain ⟨hp, g, d, tk, os⟩ := s
  obtain ⟨h1, h⟩ := h
  have hsub := sub_enumerate
  have hnf : (!Builtin.SmallTypes.fitsIndex k) = false := by rw [hfit] ; rfl
  have q1 : ∀ {A' : Around} {E : Value → Shared → Prop} {Q : Value → Shared → Prop}, Q v ⟨hp, g, d, tk, os⟩ → wpAny (model prog w) A' (pyIter v) Q E ⟨hp, g, d, tk, os⟩ := fun q => B.iter prog w _ _ _ _ h1 q
  have a1 : (Str.ofString "start" == ("start" : Str)) = true := by decide +kernel
  have a2 : (Str.ofString "start" != ("start" : Str)) = false := by decide +kernel
  have a3 : (Str.ofString "start" != ("iterable" : Str)) = true := by decide +kernel
  have a4 : (("start" : Str) == Str.ofString "start") = true := by decide +kernel
  have a5 : (("iterable" : Str) == Str.ofString "start") = false := by decide +kernel
  wp_walk using q1
  refine wpAny_stack_any fun st => wpAny_pure ?_
  split
  · rename_i c _ _ _ _ _
    cases (c == Value.type "enumerate")
    · wp_walk using q1
      exact ⟨_, rfl, h⟩
    · wp_walk using q1
      exact ⟨_, rfl, h⟩
  · wp_walk using q1
    exact ⟨_, rfl, h⟩
theorem call_enum {prog : Program} {w : World} {A : Around} {E : Value → Shared → Prop} {s : Shared} {v : Value} {H : Heap → Prop} {k : Int} {t : Tok} {Q : Value → Shared → Prop} (B : Self v H) (h1 : H s.heap)
    (b0 : -(2 ^ 63) ≤ k) (b1 : k < 2 ^ 63) (h : Q (.ref s.heap.objs.size) { s with heap := s.heap.push { cls := .type "enumerate", data := .fields #[.none, .bool false, v, rawInt k, .none, .none] } }) :
    wpAny (model prog w) A (call (.type "enumerate") [v] [(Str.ofString "start", .int k t)]) Q E s := by
  refine callType_newKw F.called_enumerate (by decide) (F.typeCall_enumerate_start _ _) (F.newCall_enumerate_start _ _) (fun obj => F.args_object_init_start obj _ _) F.entry_enumerate_new (new_enum B k t (fits_start b0 b1)) ⟨h1, ?_⟩
  exact ⟨⟨_, Heap.get?_push_size _ rfl, rfl⟩, h⟩
end VE
namespace VE
open PySem PySem.Spec PyProof.Rows L2
/-- k, k + 1, .. with the list at a (n items, which the loop leaves there) from its end, in new pairs -/
def Iter' (K : PySem.W.Frag) (a : Addr) (n : Nat) (k : Int) : It :=
  ⟨fun i H => i < n ∧ ∃ xs : List V, SqL K H a xs ∧ xs.length = n, fun i H v H' => ∃ T x, v = .ref T ∧ H T = none ∧ H' = upd H T (.tup [.int (k + (i : Nat)), x]) ∧ ∀ xs, SqL K H a xs → xs[n - 1 - i]? = some x,
    fun i H => n ≤ i ∧ ∃ xs : List V, SqL K H a xs ∧ xs.length = n⟩
theorem turn_enumRev {P : Program} {w : World} {K : PySem.W.Frag} {elts : List Expr} {kk : Nat} {tpos : Pos} (a e it : Addr) (n : Nat) (k : Int) (hai : a ≠ it) (hei : e ≠ it) (hea : e ≠ a) :
    Turn P w K (.Tuple elts kk tpos) (Iter' K a n k) [e, it] e (fun i h => (∃ old, IsEnum h e it (k + (i : Nat)) old) ∧ i ≤ n ∧ h.IsRevIter it a ((n : Int) - 1 - (i : Nat))) where
  mem := by simp
  obj := fun i h st b hb => by
    obtain ⟨⟨old, he⟩, _, o, ho, hc, hd⟩ := st
    have e' : b = e ∨ b = it := by simpa using hb
    rcases e' with z | z
    · rw [z]; exact ⟨_, he, fun v q => nomatch q⟩
    · rw [z]; exact ⟨o, ho, fun v q => by rw [hd] at q; cases q⟩
  keep := fun i h h' st kp => let ⟨⟨old, he⟩, hn, hi⟩ := st; ⟨⟨old, kp e (by simp) _ he⟩, hn, hi.at fun o q => kp it (by simp) o q⟩
  item := by
    intro X hP hw hK hc i pins s σ H E I hf st hg
    subst hP hw hK
    obtain ⟨⟨old, he⟩, hin, hit⟩ := st
    obtain ⟨hlt, xs, hq, hl⟩ := hg
    obtain ⟨its, rv, p, hz⟩ := I.list hq
    have hn : its.toArray.size = n := by rw [List.size_toArray, ← rv.length]; exact hl
    have hh : X.A.in1.handled = none := I.ok.hd hc
    have hel : e < s.heap.objs.size := Heap.lt_size he
    have hil : it < s.heap.objs.size := by obtain ⟨_, q, _⟩ := hit; exact Heap.lt_size q
    have D := draws_rev (prog := X.prog) (w := X.w) (A := X.A.in1) hh it a hai its.toArray
    rw [hn] at D
    refine wpAny_pyNext_enum_itemC D he ⟨hin, hit, p.isList⟩ hlt hei (by simp [hei, hea]) fun u h' tk hP ho hs' hT hsz hkp => ?_
    obtain ⟨_, hit', _⟩ := hs'
    have hx : xs[n - 1 - i]? = some (xs[n - 1 - i]'(by omega)) := List.getElem?_eq_getElem (by omega)
    obtain ⟨u', hu', ru⟩ := rv.get hx
    have hP' : its[n - 1 - i]? = some u := by simpa using hP
    have euu : u' = u := by rw [hP'] at hu'; exact (Option.some.inj hu').symm
    subst euu
    refine ⟨_, rfl, wpAny_letOwnedTupleGo_enum (s := { s with heap := h', toks := tk + 1 }) ho fun h'' he' sb => ?_⟩
    have hT2 : h''.get? s.heap.objs.size = some { cls := .type "tuple", data := .seq #[.int (k + (i : Nat)) tk, u'] } := (sb.2 _ (Nat.ne_of_gt hel)).trans hT
    have new : ObjOk X.prog X.w (upd H s.heap.objs.size (.tup [.int (k + (i : Nat)), xs[n - 1 - i]'(by omega)])) h'' s.heap.objs.size (.tup [.int (k + (i : Nat)), xs[n - 1 - i]'(by omega)]) :=
      ⟨by show 2 ≤ sizeLine; decide, [.int (k + (i : Nat)) tk, u'], .cons ⟨_, rfl⟩ (.cons ru .nil), ⟨_, hT2, rfl, _, rfl⟩⟩
    have I1 : Inv X pins σ (upd H s.heap.objs.size (.tup [.int (k + (i : Nat)), xs[n - 1 - i]'(by omega)])) { s with heap := h'', toks := tk + 1 } :=
      I.turnedNew (ch := [e, it]) (fun b ob hb q => (sb.2 b (fun z => hb (by simp [z]))).trans (hkp b ob (fun z => hb (by simp [z])) (fun z => hb (by simp [z])) q)) hf (Nat.le_refl _) new
    refine ⟨.ref s.heap.objs.size, _, I1, rfl, ⟨_, _, rfl, I.hok.fresh (Nat.le_refl _), rfl, fun ys hy => by rw [I.list_inj hy hq]; exact hx⟩, ⟨⟨u', ?_⟩, hlt, hit'.at fun o q => (sb.2 it (Ne.symm hei)).trans q⟩, fun b hb => ?_⟩
    · have e1 : k + ((i + 1 : Nat) : Int) = k + (i : Int) + 1 := by omega
      rw [e1]; exact he'
    · have hb' : b < s.heap.objs.size := by
        have e' : b = e ∨ b = it := by simpa using hb
        rcases e' with z | z
        · rw [z]; exact hel
        · rw [z]; exact hil
      rw [upd_ne (Nat.ne_of_lt hb')]
      exact (hf b hb).1
  done := by
    intro X hP hw hK hc i pins s σ H E I hf st hg
    subst hP hw hK
    obtain ⟨⟨old, he⟩, hin, hit⟩ := st
    obtain ⟨hge, xs, hq, hl⟩ := hg
    obtain ⟨its, rv, p, hz⟩ := I.list hq
    have hn : its.toArray.size = n := by rw [List.size_toArray, ← rv.length]; exact hl
    have hh : X.A.in1.handled = none := I.ok.hd hc
    obtain ⟨f0, f1, f2, f3, f4, f5⟩ := hf it (by simp)
    have D := draws_rev (prog := X.prog) (w := X.w) (A := X.A.in1) hh it a hai its.toArray
    rw [hn] at D
    have ei : i = n := by omega
    subst ei
    exact wpAny_pyNext_enum_endD D he ⟨Nat.le_refl _, hit, p.isList⟩ fun h' eb => ⟨rfl, I.turned (t' := s.toks) (fun b o hb q => eb b o hb q) f0 f1 f3 f4 f5⟩
  self := fun A i s Q E st h => let ⟨⟨_, he⟩, _⟩ := st; wpAny_pyIter_enum he h
theorem walk_enumRev {K : PySem.W.Frag} {a : Addr} {xs : List V} {k : Int} : Walk (Iter' K a xs.length k) xs.length (fun H => SqL K H a xs) (YPair (fun i => some (.int (k + (i : Nat)))) (fun i => xs[xs.length - 1 - i]?)) := by
  refine ⟨fun i _ hi q => ⟨hi, xs, q, rfl⟩, fun _ q => ⟨Nat.le_refl _, xs, q, rfl⟩, fun i H v H' _ q y => ?_⟩
  obtain ⟨T, x, h1, h2, h3, h4⟩ := y
  exact ⟨T, .int (k + (i : Nat)), x, h1, h2, h3, rfl, h4 xs q⟩
def iEnumRev (K : PySem.W.Frag) (ta : TA) (k : Int) : TI := fun σ H R => ta σ H fun vs H1 => ∃ (a : Addr) (xs : List V), vs = [.ref a] ∧ SqL K H1 a xs ∧ R (Iter' K a xs.length k) H1
section
variable {M : Model} {A : Around} {E : Value → Shared → Prop} {s : Shared} {env : Env}
theorem callWith_typeKw {pos : Pos} {T : String} {e : Expr} {rest : List Expr} {kws : List Keyword} {Q : Value → Shared → Prop} (hall : (backToKw pos (keywordEach kws env)).all (·.1.isSome) = true)
    (h : wpAny M A (spliced (backTo pos (starEach (e :: rest) env))) (fun vs s₁ => wpAny M A (evalAll ((backToKw pos (keywordEach kws env)).map (·.2)))
      (fun ks s₂ => wpAny M A (call (.type T) vs (((backToKw pos (keywordEach kws env)).filterMap (·.1)).zip ks)) Q E s₂) E s₁) E s)
    (hplain : ((backTo pos (starEach (e :: rest) env)).any (·.1) || (backToKw pos (keywordEach kws env)).any (·.1.isNone)) = false) (he : starEach (e :: rest) env = (false, eval e env) :: starEach rest env) :
    wpAny M A (callWith pos (.type T) [] (backTo pos (starEach (e :: rest) env)) (backToKw pos (keywordEach kws env))) Q E s := by
  unfold callWith
  refine wpAny_bind (wpAny_holding (wpAny_mono (evalArgs_kw2 (f := .type T) (Q := fun a s₁ => wpAny M A (call (.type T) a.pos a.kw) Q E s₁) hall h he) (fun a s₁ h₁ => wpAny_bind (wpAny_standAt ?_)) fun _ _ x => x))
  simp only [hplain]
  refine wpAny_bind (wpAny_pure ?_)
  exact wpAny_bind (wpAny_mono h₁ (fun r s₂ hr => wpAny_bind (wpAny_holding (wpAny_point (wpAny_pure hr)))) fun _ _ x => x)
theorem Call_kws {func : Expr} {args : List Expr} {kws : List Keyword} {pos : Pos} {Q : Value → Shared → Prop}
    (h : wpAny M A (eval func env) (fun f s₁ => wpAny M A (callWith pos f [] (backTo pos (starEach args env)) (backToKw pos (keywordEach kws env))) Q E s₁) E s)
    (he : eval (.Call func args kws pos) env = (do callWith pos (← eval func env) [] (backTo pos (starEach args env)) (backToKw pos (keywordEach kws env))) := by rfl) :
    wpAny M A (eval (.Call func args kws pos) env) Q E s := by
  rw [he]; exact wpAny_bind h
end
theorem pi_enumRev {X : Cx} {e : Expr} {ta : TA} {p p2 pos pos2 kp jp tpos : Pos} {j : Nat} {k : Int} {elts : List Expr} {kk : Nat} (hk0 : -(2 ^ 63) ≤ k) (hk1 : k < 2 ^ 63) (hg : Gl X "enumerate") (hm : X.mg "enumerate" = none) (hg2 : Gl X "reversed") (hm2 : X.mg "reversed" = none) (ha : PA X [e] ta)
    (hs : starEach [e] X.env = [(false, eval e X.env)] := by rfl)
    (hs2 : starEach [.Call (.Name "reversed" p2) [e] [] pos2] X.env = (false, eval (.Call (.Name "reversed" p2) [e] [] pos2) X.env) :: starEach [] X.env := by rfl)
    (hst : ∀ q, (backTo q (starEach [.Call (.Name "reversed" p2) [e] [] pos2] X.env)).any (·.1) = false := by exact fun _ => rfl)
    (hbs : eval (.Call (.Name "reversed" p2) [e] [] pos2) X.env = (do callWith pos2 (← eval (.Name "reversed" p2) X.env) [] (backTo pos2 (starEach [e] X.env)) (backToKw pos2 (keywordEach [] X.env))) := by rfl) :
    PI X (.Tuple elts kk tpos) (.Call (.Name "enumerate" p) [.Call (.Name "reversed" p2) [e] [] pos2] [⟨some "start", .Constant (.int k) j jp, kp⟩] pos) (iEnumRev X.K ta k) := by
  refine ⟨fun pins s σ H R I h => ?_⟩
  refine Call_kws (ld_blt I hg hm boot_enumerate (callWith_typeKw rfl (args_cons ?_ hs2) (by rw [hst]; rfl) hs2))
  refine Call_ (ld_blt I hg2 hm2 PyProof.Rows.boot_reversed (PyProof.Rows.callWith_type1 (thn (ha.run pos2 pins s σ H _ I h) fun us s1 ⟨vs, H1, I1, r1, q1⟩ => ?_) hs rfl)) hbs
  obtain ⟨a, xs, ex, hq, q⟩ := q1
  subst ex
  cases r1 with
  | cons r rr =>
    cases rr
    cases r
    obtain ⟨its, rv, p', hz⟩ := I1.list hq
    have hl := rv.length
    have hal : a < s1.heap.objs.size := by obtain ⟨_, _, z, _⟩ := p'; exact Heap.lt_size z
    refine call_reversed_list p'.isList (args_nil (kws_cons (wpAny_Constant_int (kws_nil ?_))))
    have sz1 : (s1.heap.push { cls := .type "list_reverseiterator", data := .fields #[.ref a, rawInt (((its.toArray.size : Nat) : Int) - 1)] }).objs.size = s1.heap.objs.size + 1 := Heap.size_push ..
    have hit0 : (s1.heap.push { cls := .type "list_reverseiterator", data := .fields #[.ref a, rawInt (((its.toArray.size : Nat) : Int) - 1)] }).IsRevIter s1.heap.objs.size a (((its.toArray.size : Nat) : Int) - 1) := ⟨_, Heap.get?_push_size _ rfl, rfl, rfl⟩
    refine call_enum (self_rev s1.heap.objs.size a (((its.toArray.size : Nat) : Int) - 1)) hit0 hk0 hk1 ?_
    have he : IsEnum ((s1.heap.push { cls := .type "list_reverseiterator", data := .fields #[.ref a, rawInt (((its.toArray.size : Nat) : Int) - 1)] }).push { cls := .type "enumerate", data := .fields #[.none, .bool false, .ref s1.heap.objs.size, rawInt k, .none, .none] }) (s1.heap.objs.size + 1) s1.heap.objs.size k .none := by
      have := Heap.get?_push_size (s1.heap.push { cls := .type "list_reverseiterator", data := .fields #[.ref a, rawInt (((its.toArray.size : Nat) : Int) - 1)] }) (o := { cls := .type "enumerate", data := .fields #[.none, .bool false, .ref s1.heap.objs.size, rawInt k, .none, .none] }) rfl
      rw [sz1] at this; exact this
    show wpAny _ _ (pyIter (.ref (s1.heap.push { cls := .type "list_reverseiterator", data := .fields #[.ref a, rawInt (((its.toArray.size : Nat) : Int) - 1)] }).objs.size)) _ _ _
    rw [sz1]
    refine wpAny_pyIter_enum he ?_
    have hit1 := hit0.at (h' := (s1.heap.push { cls := .type "list_reverseiterator", data := .fields #[.ref a, rawInt (((its.toArray.size : Nat) : Int) - 1)] }).push { cls := .type "enumerate", data := .fields #[.none, .bool false, .ref s1.heap.objs.size, rawInt k, .none, .none] }) fun o q => Heap.get?_push_of_some _ q
    refine ⟨s1.heap.objs.size + 1, [s1.heap.objs.size + 1, s1.heap.objs.size], _, _, H1, rfl, ?_, turn_enumRev a (s1.heap.objs.size + 1) s1.heap.objs.size xs.length k (Nat.ne_of_lt hal) (Nat.succ_ne_self _) (Nat.ne_of_gt (Nat.lt_succ_of_lt hal)), ⟨⟨.none, ?_⟩, Nat.zero_le _, ?_⟩, fun b hb => ?_, q⟩
    · exact I1.kept fun b ob q => Heap.get?_push_of_some _ (Heap.get?_push_of_some _ q)
    · rw [show k + ((0 : Nat) : Int) = k by omega]; exact he
    · rw [show (xs.length : Int) - 1 - ((0 : Nat) : Int) = ((its.toArray.size : Nat) : Int) - 1 by rw [List.size_toArray]; omega]; exact hit1
    · have e' : b = s1.heap.objs.size + 1 ∨ b = s1.heap.objs.size := by simpa using hb
      have hle : s1.heap.objs.size ≤ b := by
        rcases e' with z | z
        · rw [z]; exact Nat.le_add_right _ _
        · rw [z]; exact Nat.le_refl _
      exact I1.fpOk hle (I1.hok.fresh hle)
end VE

/-! A method called with keywords. -/
namespace VP
open PySem PySem.Spec PyProof.Rows L2
/-- o.m(e, .., k = v, ..) -/
def tMethKw (C : Addr) (m : Str) (n j : Nat) (sp : Sp) (gV : List V → List V → List V) (E : XK) (ta : TE) (t tk : TA) : TE := fun σ H Q =>
  ta σ H fun x H1 => ∃ a dx fs, x = .ref a ∧ H1 a = some (.ins C dx fs) ∧ fs.lookup m = none ∧
    t σ H1 fun vs H2 => tk σ H2 fun zs H3 => vs.length = n ∧ zs.length = j ∧ sp (gV (x :: vs) zs) H3 Q E
theorem pe_methKw {X : Cx} {CX : CXT} {k n : Nat} {f C : Addr} {fd : FuncData} {ps ks : List Str} {sp : Sp} {E : XK} {m : Str} {pos apos : Pos} {o e : Expr} {es : List Expr} {kws : List Keyword} {ta : TE} {t tk : TA}
    {g : List Value → List Value → List Value} {gV : List V → List V → List V} {pl : Sem Bool}
    (he : PE X o ta) (c : Cls X.K C) (hm : Meth X.K C m f) (F : FnOk X.prog X.w X.K X.mg X.base CX k f fd ps sp) (hr : Room k X.A)
    (hb : KBn X.K fd ps (n + 1) ks g gV) (hx : Passes CX X E) (ha : PA X (e :: es) t) (hkw : PK X kws tk)
    (hall : (backToKw pos (keywordEach kws X.env)).all (·.1.isSome) = true := by rfl) (hks : (backToKw pos (keywordEach kws X.env)).filterMap (·.1) = ks := by rfl)
    (hst : starEach (e :: es) X.env = (false, eval e X.env) :: starEach es X.env := by rfl)
    (hpl : ((backTo pos (starEach (e :: es) X.env)).any (·.1) || (backToKw pos (keywordEach kws X.env)).any (·.1.isNone)) = false := by rfl)
    (ht : eval (.Call (.Attribute o m apos) (e :: es) kws pos) X.env = (do
      let ov ← eval o X.env
      standAt apos.atName
      let (f, first) ← holding [ov] (getMethod ov m pl)
      callWith pos f first (backTo pos (starEach (e :: es) X.env)) (backToKw pos (keywordEach kws X.env))) := by rfl) :
    PE X (.Call (.Attribute o m apos) (e :: es) kws pos) (tMethKw C m n ks.length sp gV E ta t tk) := by
  constructor
  intro pins s σ H Q I h
  refine PySem.W.methodCall_KW (pl := pl) (thn (he.run pins s σ H _ I h) ?_) ht
  rintro u s1 ⟨x, H1, I1, rx, a, dx, fs, ex, ea, l, q⟩
  subst ex
  obtain rfl : u = Value.ref a := rx
  refine getmeth_ok I1 ea c hm l ?_
  refine PySem.W.callWith_KW (first := [.ref a]) (h₀ := X.base) I.ok.mod.kin hm.kp hall (thn (ha.run pos pins s1 σ H1 _ I1 q) ?_) hpl hst
  rintro us s2 ⟨vs, H2, I2, r, q2⟩
  refine thn (hkw.run pos pins s2 σ H2 _ I2 q2) ?_
  rintro ws s3 ⟨zs, H3, I3, rz, l1, l2, q3⟩
  refine ⟨I3.kIn, ?_⟩
  rw [hks]
  have r1 : Vals (V.ref a :: vs) (Value.ref a :: us) := .cons rfl r
  have rel := hb.rel r1 rz
  have len : (Value.ref a :: us).length = n + 1 := by rw [List.length_cons, ← r.length, l1]
  have bind := hb.to s3 (Value.ref a :: us) ws I3.kIn len (rz.length.symm.trans l2)
  show wpAny _ _ (call (.ref f) (Value.ref a :: us) (ks.zip ws)) _ _ _
  refine wpAny_call (codeAny_mono (F.run X.A X.stack s3 H3 ⟨Value.ref a :: us, ks.zip ws⟩ _ _ Q E hr I3.env0 bind rel q3) ?_)
  intro res s' hq
  match res, hq with
  | .error e, hq => exact hx pins σ H3 s3 e s' I3 hq
  | .ok (.ret u), hq => exact I3.after hq
  | .ok .next, hq => exact False.elim hq
  | .ok .brk, hq => exact False.elim hq
  | .ok .cont, hq => exact False.elim hq
end VP

/-! == and != by an own __eq__ whatever stands on the right, repr by an own __repr__, None in an f-string. -/
namespace VN
open PySem PySem.Spec PyProof.Rows L2

section
variable {prog : Program} {w : World} {A : Around} {E : Value → Shared → Prop} {s : Shared} {K : PySem.W.Frag} {x C L f : Addr} {h₀ : Heap} {m : Str → Option Value} {ox : Obj} {od : Option Obj} {b tb : Value}
theorem bound_builtin {M : Model} {name : Str} {id : String} {args : List Value} {Q : Option Value → Shared → Prop} (X : K.In s.heap) (I : PySem.W.InstAt s.heap x ox C od) (hs : PySem.W.findIn K (.ref C) name = some (some (.builtin id)))
    (hb : ∀ self, bindSpecial (.builtin id) self = pure (.builtin id, [self]))
    (h : wpAny M A (call (.builtin id) (.ref x :: args)) (fun v => Q (some v)) E s) : wpAny M A (callSpecialIfBound? (.ref x) name args) Q E s := by
  simp only [callSpecialIfBound?, bindSpecialIfBound?]
  refine wpAny_holding (wpAny_bind (wpAny_bind (wpAny_bind (I.type.here ((PySem.W.looks_findIn X hs).here ?_)))))
  refine wpAny_bind (wpAny_askSetting (wpAny_ite ?_))
  have fin : wpAny M A (call (.builtin id) ([.ref x] ++ args) >>= fun v => pure (some v)) Q E s := wpAny_bind (wpAny_mono h (fun v s' h' => wpAny_pure h') fun _ _ h' => h')
  split
  · exact wpAny_bind ((PySem.W.Looks.of_pure (hb _)).here (wpAny_pure (by exact fin)))
  · exact wpAny_tryCatch (wpAny_bind ((PySem.W.Looks.of_pure (hb _)).here (wpAny_pure (by exact fin))))
open Builtin in
theorem obj_ne {Q : Value → Shared → Prop} (hu : A.in1.units < cLine) (X : K.In s.heap) (I : PySem.W.InstAt s.heap x ox C od) (hm : PySem.W.mroIn K C (.type "object") = some true)
    (hs : PySem.W.findIn K (.ref C) "__eq__" = some (some (.ref f))) (hf : PySem.W.isFn K (.ref f) = true)
    (h : wpAny (model prog w) A.in1 (call (.ref f) [.ref x, b]) (fun v s' => ∃ r, v = .bool r ∧ Q (.bool (!r)) s') E s) : wpAny (model prog w) A (call (.builtin "object.__ne__") [.ref x, b]) Q E s := by
  refine wpAny_call (codeAny_call_builtin PySem.F.slot_zip_ne.plain PySem.F.cmpEntry_ne (PySem.W.check_slot (i := "object.__ne__") (owner := "object") (n := "__ne__") PySem.F.cmpKind_ne PySem.F.cmpSplit_ne (I.type.andThen (PySem.W.looks_mroIn X hm)) (PySem.F.cmpArgs_ne _ _) ?_))
  unfold Builtin.«object.__ne__»
  refine wpAny_bind (m := slotArgs "__ne__" 1 _) (wpAny_pure ?_)
  refine wpAny_bind (m := cRoomFor _ _) (wpAny_cRoomFor hu ?_)
  refine wpAny_bind (m := callSpecialIfBound? (.ref x) (Str.ofString "__eq__") _) (PySem.W.ifBound_K X I hs hf (wpAny_mono h (fun r s' hq => ?_) fun _ _ y => y))
  obtain ⟨r, rfl, hq⟩ := hq
  exact wpAny_bind (wpAny_truthy_bool (wpAny_pure hq))
theorem ne_K {Q : Value → Shared → Prop} (hu : A.units + 1 < cLine) (F : PyProof.Rows.Fr h₀ L s.heap m) (X₀ : K.In h₀) (I : PySem.W.InstAt s.heap x ox C od) (hb : PySem.W.Looks (model prog w) s.heap (typeOf b) tb) (hn : PySem.W.notFirst K C tb = true)
    (hne : PySem.W.findIn K (.ref C) "__ne__" = some (some (.builtin "object.__ne__"))) (hm : PySem.W.mroIn K C (.type "object") = some true)
    (hs : PySem.W.findIn K (.ref C) "__eq__" = some (some (.ref f))) (hf : PySem.W.isFn K (.ref f) = true)
    (h : wpAny (model prog w) A.in1 (call (.ref f) [.ref x, b]) (fun v s' => ∃ r, v = .bool r ∧ Q (.bool (!r)) s') E s) : wpAny (model prog w) A (richCompare .NotEq (.ref x) b) Q E s := by
  have X := X₀.keeps F.keep
  have hu1 : A.in1.units < cLine := by show A.units + 1 < _; exact hu
  have one : wpAny (model prog w) A (tryCompare (.ref x) (cmpInfo .NotEq).2.1 b) (fun r s' => ∃ v, r = some v ∧ Q v s') E s := by
    unfold tryCompare
    refine wpAny_bind (bound_builtin X I hne PySem.F.slot_zip_ne.bind (obj_ne hu1 X I hm hs hf (wpAny_mono h (fun v s' hv => ?_) fun _ _ e => e)))
    obtain ⟨r, rfl, q⟩ := hv
    exact ⟨r, rfl, wpAny_pure ⟨_, rfl, q⟩⟩
  unfold richCompare
  simp only [oneThing_ref]
  refine wpAny_holding (wpAny_bind (wpAny_cRoomFor (by omega) ?_))
  refine wpAny_bind (I.type.here (wpAny_bind (hb.here ?_)))
  split
  · rename_i q
    have e : PySem.W.subIn K tb (.ref C) = some false := by
      rcases Bool.or_eq_true_iff.mp hn with e | e
      · rw [beq_iff_eq.mp e] at q; simp at q
      · exact beq_iff_eq.mp e
    refine wpAny_bind ((PySem.W.looks_subIn X e).here ?_)
    simp only [Bool.false_eq_true, if_false]
    refine wpAny_bind (wpAny_mono one (fun r s' z => ?_) fun _ _ e => e)
    obtain ⟨v, rfl, hq⟩ := z
    exact wpAny_pure hq
  · refine wpAny_bind (wpAny_pure ?_)
    simp only [Bool.false_eq_true, if_false]
    refine wpAny_bind (wpAny_mono one (fun r s' z => ?_) fun _ _ e => e)
    obtain ⟨v, rfl, hq⟩ := z
    exact wpAny_pure hq
end

/-- what of the text is true of an own class that is only a class: its instances' type, isinstance, != -/
structure IsC (K : PySem.W.Frag) (C : Addr) : Prop where
  ic : PySem.W.isClsIn K C = true
  ty : PySem.W.typeIn K (.ref C) = some (.type "type")
  gc : PySem.W.findIn K (.ref C) "__class__" = some (some (.builtin "object.__class__"))
  gn : PySem.W.specialIn K (.builtin "object.__class__") "__get__" = some (some (.builtin "getset_descriptor.__get__"))
  tk : PySem.W.takesIn K (.builtin "object.__class__") = some true
  ob : PySem.W.mroIn K C (.type "object") = some true
  ne : PySem.W.findIn K (.ref C) "__ne__" = some (some (.builtin "object.__ne__"))
/-- the built-in classes of the values that occur -/
def kinds : List String := ["NoneType", "bool", "int", "str", "list", "tuple", "dict"]
def allTy (l : List Value) : Bool := l.all fun v => match v with | .type _ => true | _ => false
theorem kinds_mro : kinds.all (fun n => (PySem.fastBuiltinMro n).any allTy) = true := by decide +kernel
theorem sub_ty {K : PySem.W.Frag} {C : Addr} {n : String} (h : n ∈ kinds) : PySem.W.subIn K (.type n) (.ref C) = some false := by
  have k := List.all_eq_true.mp kinds_mro n h
  show Option.map (fun x => List.contains x (Value.ref C)) (PySem.fastBuiltinMro n) = some false
  cases e : PySem.fastBuiltinMro n with
  | none => rw [e] at k; cases k
  | some l =>
    rw [e] at k
    have k : allTy l = true := k
    show some (List.contains l (Value.ref C)) = some false
    congr 1
    rw [List.contains_eq_any_beq, List.any_eq_false]
    intro y hy c
    have e2 := eq_of_beq c
    have := List.all_eq_true.mp k y hy
    rw [← e2] at this
    cases this
theorem notFirst_ty {K : PySem.W.Frag} {C : Addr} {n : String} (h : n ∈ kinds) : PySem.W.notFirst K C (.type n) = true := by
  unfold PySem.W.notFirst
  rw [sub_ty h]
  simp
theorem notFirst_own {K : PySem.W.Frag} {C : Addr} : PySem.W.notFirst K C (.ref C) = true := by
  unfold PySem.W.notFirst
  simp
theorem kit_self {K : PySem.W.Frag} {C : Addr} : PySem.W.kitOne K (.ref C) (.ref C) = some true := by
  unfold PySem.W.kitOne
  rw [if_pos (by simp)]
theorem kit_no {K : PySem.W.Frag} {C : Addr} {n : String} (c : IsC K C) (h : n ∈ kinds) : PySem.W.kitOne K (.type n) (.ref C) = some false := by
  have hc : (PySem.W.clsIn K C).isSome = true := c.ic
  unfold PySem.W.kitOne
  rw [if_neg (by simp)]
  unfold PySem.W.kitCls
  show (if ((PySem.W.clsIn K C).isSome && PySem.W.typeIn K (.ref C) == some (.type "type")) = true then PySem.W.subIn K (.type n) (.ref C) else none) = some false
  rw [hc, c.ty, if_pos (by simp), sub_ty h]
theorem IsC.typ {K : PySem.W.Frag} {C a dx : Addr} {H : Hp} {fs : List (Str × V)} (c : IsC K C) (cl : Cls K C) (e : H a = some (.ins C dx fs)) : TyX K H (.ref a) (.ref C) := .base (.ins e cl c.gc c.gn c.tk c.ob)
def rOwn (K : PySem.W.Frag) (C : Addr) (sp : Sp) (E : XK) : R2 := fun x y H Q => ∃ a dx fs t, x = .ref a ∧ H a = some (.ins C dx fs) ∧ TyX K H y t ∧ PySem.W.notFirst K C t = true ∧ sp [x, y] H (fun v H' => ∃ b, v = .bl b ∧ Q (.bl b) H') E
def rOwnN (K : PySem.W.Frag) (C : Addr) (sp : Sp) (E : XK) : R2 := fun x y H Q => ∃ a dx fs t, x = .ref a ∧ H a = some (.ins C dx fs) ∧ TyX K H y t ∧ PySem.W.notFirst K C t = true ∧ sp [x, y] H (fun v H' => ∃ b, v = .bl b ∧ Q (.bl (!b)) H') E
def rReprOwn (C : Addr) (sp : Sp) (E : XK) : List V → Hp → VK → Prop := fun xs H Q => ∃ a dx fs, xs = [.ref a] ∧ H a = some (.ins C dx fs) ∧ sp [.ref a] H (fun v H' => ∃ y, v = .str y ∧ Q (.str y) H') E
section
variable {X : Cx} {CX : CXT} {k : Nat} {f C : Addr} {fd : FuncData} {ps : List Str} {sp : Sp} {E : XK}
theorem op_eqOwn (F : FnOk X.prog X.w X.K X.mg X.base CX k f fd ps sp) (hr : Room k X.A) (o : Meth X.K C "__eq__" f) (c : IsC X.K C) (hb : Binds X.K fd ps []) (hx : Passes CX X E) : OpR X (compareOp .Eq) (rOwn X.K C sp E) := by
  intro pins s σ H x y v u Q I rx ry h
  obtain ⟨a, dx, fs, t, rfl, ea, ty, nf, hsp⟩ := h
  obtain rfl : v = Value.ref a := rx
  obtain ⟨mA, J, _⟩ := ins_get I.hok ea
  obtain ⟨od, J, _⟩ := J.look
  obtain ⟨m, hF⟩ := I.fr
  obtain ⟨P, Z, p, _⟩ := kit_of I ry ty
  show wpAny (model X.prog X.w) X.A (richCompare .Eq (.ref a) u) (EP X pins σ Q) X.xe s
  refine PySem.W.cmp_K (op := .Eq) (tb := t) hr.units0 hF I.ok.mod.kin J (Z.ty _ _ I.kIn p) nf o.at_ o.fn ?_
  have hl := F.len _ _ _ _ hsp
  have r2 : Vals [V.ref a, y] [Value.ref a, u] := .cons rfl (.cons ry .nil)
  refine wpAny_call (codeAny_mono (F.run X.A X.stack s H ⟨[.ref a, u], []⟩ [.ref a, u] [.ref a, y] _ E hr I.env0 (by
    have := hb s [.ref a, u] I.kIn (by simpa using hl)
    simpa using this) r2 hsp) fun r s' hq => ?_)
  cases r with
  | error e => exact hx pins σ H s e s' I hq
  | ok fl =>
    cases fl with
    | ret w =>
      obtain ⟨z, H', I', rz, b, ez, q⟩ := I.after hq
      subst ez
      cases rz
      exact ⟨.bl b, H', I', rfl, q⟩
    | next => exact False.elim hq
    | brk => exact False.elim hq
    | cont => exact False.elim hq
theorem op_neOwn (F : FnOk X.prog X.w X.K X.mg X.base CX k f fd ps sp) (hr : Room (k + 1) X.A) (o : Meth X.K C "__eq__" f) (c : IsC X.K C) (hb : Binds X.K fd ps []) (hx : Passes CX X E) : OpR X (compareOp .NotEq) (rOwnN X.K C sp E) := by
  intro pins s σ H x y v u Q I rx ry h
  obtain ⟨a, dx, fs, t, rfl, ea, ty, nf, hsp⟩ := h
  obtain rfl : v = Value.ref a := rx
  obtain ⟨mA, J, _⟩ := ins_get I.hok ea
  obtain ⟨od, J, _⟩ := J.look
  obtain ⟨m, hF⟩ := I.fr
  obtain ⟨P, Z, p, _⟩ := kit_of I ry ty
  show wpAny (model X.prog X.w) X.A (richCompare .NotEq (.ref a) u) (EP X pins σ Q) X.xe s
  refine ne_K (tb := t) (by have := hr.un; omega) hF I.ok.mod.kin J (Z.ty _ _ I.kIn p) nf c.ne c.ob o.at_ o.fn ?_
  have hl := F.len _ _ _ _ hsp
  have r2 : Vals [V.ref a, y] [Value.ref a, u] := .cons rfl (.cons ry .nil)
  refine wpAny_call (codeAny_mono (F.run X.A.in1 X.stack s H ⟨[.ref a, u], []⟩ [.ref a, u] [.ref a, y] _ E hr.in1 I.env0.in1 (by
    have := hb s [.ref a, u] I.kIn (by simpa using hl)
    simpa using this) r2 hsp) fun r s' hq => ?_)
  cases r with
  | error e => exact hx pins σ H s e s' I hq
  | ok fl =>
    cases fl with
    | ret w =>
      obtain ⟨z, H', I', rz, b, ez, q⟩ := I.after hq
      subst ez
      cases rz
      exact ⟨b, rfl, .bl (!b), H', I', rfl, q⟩
    | next => exact False.elim hq
    | brk => exact False.elim hq
    | cont => exact False.elim hq
theorem call_reprOwn (F : FnOk X.prog X.w X.K X.mg X.base CX k f fd ps sp) (hr : Room (k + 1) X.A) (o : Meth X.K C "__repr__" f) (hb : Binds X.K fd ps []) (hx : Passes CX X E) :
    CallR X (.builtin "repr") (rReprOwn C sp E) := by
  intro pins s σ H xs us Q I r h
  obtain ⟨a, dx, fs, rfl, ea, hsp⟩ := h
  obtain ⟨u, rfl, ru⟩ := vals1 r
  obtain rfl : u = Value.ref a := ru
  obtain ⟨mA, J, _⟩ := ins_get I.hok ea
  obtain ⟨od, J, _⟩ := J.look
  obtain ⟨m, hF⟩ := I.fr
  refine PySem.W.repr_K hr.in1.units0 hF I.ok.mod.kin J o.at_ o.fn ?_
  have hl := F.len _ _ _ _ hsp
  refine wpAny_call (codeAny_mono (F.run X.A.in1 X.stack s H ⟨[.ref a], []⟩ [.ref a] [.ref a] _ E hr.in1 I.env0.in1 (by
    have := hb s [.ref a] I.kIn (by simpa using hl)
    simpa using this) (.cons rfl .nil) hsp) fun r s' hq => ?_)
  cases r with
  | error e => exact hx pins σ H s e s' I hq
  | ok fl =>
    cases fl with
    | ret w =>
      obtain ⟨z, H', I', rz, y, ez, q⟩ := I.after hq
      subst ez
      obtain ⟨t, rfl⟩ := rz
      exact ⟨.str y, H', I', ⟨t, rfl⟩, q⟩
    | next => exact False.elim hq
    | brk => exact False.elim hq
    | cont => exact False.elim hq
theorem units1 {k : Nat} {A : Around} (hr : Room k A) : A.units + 1 < cLine := by
  have := hr.un
  omega
/-- {x}: a text, an int or None -/
def tFmtN (te : TE) : TE := fun σ H Q => te σ H fun x H1 => (∃ y : Str, x = .str y ∧ y.length ≤ sizeLine ∧ Q (.str y) H1) ∨ (∃ i : Int, x = .int i ∧ i.natAbs.log2 < 1920 ∧ Q (.str (toString i)) H1) ∨ (x = .non ∧ Q (.str "None") H1)
theorem pe_fmtN {e : Expr} {te : TE} {pos : Pos} (he : PE X e te) : PE X (.FormattedValue e (-1) none pos) (tFmtN te) := by
  refine ⟨fun pins s σ H Q I h => ?_⟩
  refine wpAny_FormattedValue_plain (thn (he.run pins s σ H _ I h) fun v s1 hv => ?_)
  obtain ⟨x, H1, I1, r1, q⟩ := hv
  rcases q with ⟨y, rfl, hz, q⟩ | ⟨i, rfl, hz, q⟩ | ⟨rfl, q⟩
  · obtain ⟨t, rfl⟩ := r1
    exact wpAny_formatField_str ⟨.str y, H1, I1, ⟨t, rfl⟩, q⟩ ⟨.str y, H1, I1.tok _, ⟨_, rfl⟩, q⟩ hz
  · obtain ⟨t, rfl⟩ := r1
    exact wpAny_formatField_int hz ⟨.str (toString i), H1, I1.tok _, ⟨_, rfl⟩, q⟩
  · cases r1
    exact wpAny_formatField_none ⟨.str "None", H1, I1.tok _, ⟨_, rfl⟩, q⟩
/-- str(None), str(int) -/
def rStrIN : List V → Hp → VK → Prop := fun xs H Q => (∃ i : Int, xs = [.int i] ∧ i.natAbs.log2 < 1920 ∧ Q (.str (toString i)) H) ∨ (xs = [.non] ∧ Q (.str "None") H)
theorem call_strIN : CallR X (.type "str") rStrIN := by
  intro pins s σ H xs us Q I r h
  rcases h with ⟨i, rfl, hz, q⟩ | ⟨rfl, q⟩
  · obtain ⟨u, rfl, t, rfl⟩ := vals1 r
    exact PySem.P.str_of_int hz ⟨.str _, H, I.tok _, ⟨_, rfl⟩, q⟩
  · obtain ⟨u, rfl, ru⟩ := vals1 r
    cases ru
    exact PySem.P.str_of_none ⟨.str _, H, I.tok _, ⟨_, rfl⟩, q⟩
end
end VN

/-! Own errors over any built-in base, with an __init__ that is walked as a def: made, raised, asked. -/
namespace VX
open PySem PySem.Spec PyProof.Rows L2
/-- a built-in base of errors -/
structure Bs (B newId initId : String) (bmB : List Value) : Prop where
  bs : ExcBaseFacts B newId initId bmB
  st : StoreFacts B bmB "object.__setattr__" "object"
theorem bsV : Bs "ValueError" "ValueError.__new__" "ValueError.__init__" [.type "ValueError", .type "Exception", .type "BaseException", .type "object"] := ⟨F.excBase_ValueError, F.store_ValueError⟩
theorem bsR : Bs "RuntimeError" "RuntimeError.__new__" "RuntimeError.__init__" [.type "RuntimeError", .type "Exception", .type "BaseException", .type "object"] := ⟨F.excBase_RuntimeError, F.store_RuntimeError⟩
theorem bsL : Bs "LookupError" "LookupError.__new__" "LookupError.__init__" [.type "LookupError", .type "Exception", .type "BaseException", .type "object"] := ⟨F.excBase_LookupError, F.store_LookupError⟩
theorem bsA : Bs "ArithmeticError" "ArithmeticError.__new__" "ArithmeticError.__init__" [.type "ArithmeticError", .type "Exception", .type "BaseException", .type "object"] := ⟨F.excBase_ArithmeticError, F.store_ArithmeticError⟩
/-- what the written part says of an own class of errors -/
structure Own (K : PySem.W.Frag) (C : Addr) : Prop where
  base : ∃ B newId initId bmB, Bs B newId initId bmB ∧ PySem.W.excInitIn K C bmB newId = true ∧ PySem.W.excOver K C bmB = true
  hasD : PySem.W.hasDictIn K C = true
  setA : PySem.W.findIn K (.ref C) "__setattr__" = some (some (.builtin "object.__setattr__"))
  isE : PySem.W.subIn K (.ref C) (.type "BaseException") = some true
  isT : PySem.W.typeIn K (.ref C) = some (.type "type")
  keep : PySem.W.keepIn K (.ref C) = true

section
variable {prog : Program} {w : World} {A : Around} {R : Result → Shared → Prop} {hp : Heap} {g : Array GenState} {d : Drawn} {t : Nat} {os : OsState} {K : PySem.W.Frag} {x C : Addr} {f : Str} {tk : Tok} {v : Value} {fv : Array Value}
open Builtin Builtin.ObjectAttr PySem.W PySem.Calls
theorem own_cls (O : Own K C) : ∃ cd, clsIn K C = some cd ∧ cd.hasDict = true := any_some O.hasD
/-- the first field: the dict is laid -/
theorem st_first (O : Own K C) (X : K.In hp) (hx : hp.get? x = some { cls := .ref C, data := .fields fv }) (no : findIn K (.ref C) f = some none)
    (q : ∀ h2 tk2 dj, (∀ b o, b ≠ x → hp.get? b = some o → h2.get? b = some o) → hp.objs.size ≤ dj → dj ≠ x → h2.get? x = some { cls := .ref C, dict := some dj, data := .fields fv } →
      h2.Ns1 dj (fun y => if y = f then some v else none) → R (.ok (.ret .none)) ⟨h2, g, d, tk2, os⟩) :
    codeAny (model prog w) A (.call (.builtin "object.__setattr__") ⟨[.ref x, .str f tk, v], []⟩) R ⟨hp, g, d, t, os⟩ := by
  obtain ⟨B, nI, iI, bmB, S, _, ov⟩ := O.base
  obtain ⟨cd, hc, hh⟩ := own_cls O
  have J : InstAt hp x { cls := .ref C, data := .fields fv } C none := ⟨hx, rfl, rfl, trivial⟩
  have far : x ≠ hp.objs.size := Nat.ne_of_lt (Heap.lt_size hx)
  have look : Looks (model prog w) hp (classData C) cd := looks_clsIn X hc
  refine osa_openX (r := none) S.st X J ov (by unfold takerIn; rw [no]; rfl) fun b => ?_
  obtain ⟨nm, bs, mro, ns, qn, hd, sn, sb, ab, col, del⟩ := cd
  dsimp only at hh
  subst hh
  show wpAny _ _ (storeInOwnDict (.ref x) (.ref C) (.str f tk) f v b) _ _ _
  unfold storeInOwnDict ownDictForStores
  repeat (first | with_reducible refine HandSPX.store_in_new ?_ ?_ | with_reducible refine wpAny_loadPart_at hx ?_ | with_reducible refine look.at ?_ | wp_step)
  · exact ⟨_, #[], _, (Heap.get?_update_ne _ _ _ _ far.symm).trans (Heap.get?_push_at rfl rfl), rfl, fun e he => absurd he (by simp), fun _ => rfl⟩
  · intro h2 tk2 ns2 same
    have there : (hp.push { cls := .type "dict", data := .dict #[] }).get? x = some { cls := .ref C, data := .fields fv } := Heap.get?_push_of_some _ hx
    exact q h2 tk2 hp.objs.size
      (fun b o nb e => (same.2 b (Nat.ne_of_lt (Heap.lt_size e))).trans ((Heap.get?_update_ne _ _ _ _ nb).trans (Heap.get?_push_of_some _ e)))
      (Nat.le_refl _) far.symm ((same.2 x far).trans (Heap.get?_update_self _ there rfl)) ns2
/-- a further field -/
theorem st_more {dj : Addr} {m0 : Str → Option Value} {nl : List Str} (O : Own K C) (X : K.In hp) (hx : hp.get? x = some { cls := .ref C, dict := some dj, data := .fields fv }) (hn : hp.Ns1 dj m0) (hw : Within m0 nl) (hz : nl.length ≤ 1000)
    (no : findIn K (.ref C) f = some none)
    (q : ∀ h2 tk2, (∀ b o, b ≠ dj → hp.get? b = some o → h2.get? b = some o) → h2.Ns1 dj (fun y => if y = f then some v else m0 y) → R (.ok (.ret .none)) ⟨h2, g, d, tk2, os⟩) :
    codeAny (model prog w) A (.call (.builtin "object.__setattr__") ⟨[.ref x, .str f tk, v], []⟩) R ⟨hp, g, d, t, os⟩ := by
  obtain ⟨B, nI, iI, bmB, S, _, ov⟩ := O.base
  obtain ⟨cd, hc, hh⟩ := own_cls O
  obtain ⟨od, _, _, hod, _, _⟩ := hn.count hw
  have J : InstAt hp x { cls := .ref C, dict := some dj, data := .fields fv } C (some od) := ⟨hx, rfl, rfl, hod⟩
  have look : Looks (model prog w) hp (classData C) cd := looks_clsIn X hc
  refine osa_openX (r := none) S.st X J ov (by unfold takerIn; rw [no]; rfl) fun b => ?_
  obtain ⟨nm, bs, mro, ns, qn, hd, sn, sb, ab, col, del⟩ := cd
  dsimp only at hh
  subst hh
  show wpAny _ _ (storeInOwnDict (.ref x) (.ref C) (.str f tk) f v b) _ _ _
  unfold storeInOwnDict ownDictForStores
  repeat (first | with_reducible refine OEX.store_in_old hn hw hz ?_ | with_reducible refine wpAny_loadPart_at hx ?_ | with_reducible refine look.at ?_ | wp_step)
  exact fun h2 tk2 ns2 same => q h2 tk2 (fun b o nb e => (same.2 b nb).trans e) ns2
end

section
variable {X : Cx} {pins : List (Addr × Obj)} {σ : L2.St} {H : Hp} {s : Shared} {a C dj : Addr} {f : Str} {y : V} {u : Value} {fs : List (Str × V)} {Q : Unit → Shared → Prop} {E : Value → Shared → Prop} {A : Around}
/-- self.f = y on a new error -/
theorem put_first (O : Own X.K C) (I : Inv X pins σ H s) (e : H a = some (exo a C none)) (no : PySem.W.findIn X.K (.ref C) f = some none) (ry : RelV y u)
    (k : ∀ dj s2, H dj = none → dj ≠ a → Inv X pins σ (upd (upd H dj (exd dj [(f, y)])) a (exo a C (some dj))) s2 → Q () s2) : wpAny (model X.prog X.w) A (setAttr (.ref a) f u) Q E s := by
  obtain ⟨t1, ho⟩ := exo_at I.hok e
  obtain ⟨hp, g, d, t, os⟩ := s
  refine PySem.W.set_plain I.kIn (od := none) ⟨ho, rfl, rfl, trivial⟩ O.setA (st_first O I.kIn ho no fun h2 tk2 dj kp big nda hx hn => ?_)
  have free : H dj = none := I.hok.fresh big
  have far : ∀ {b : Addr} {o : Obj}, hp.get? b = some o → b ≠ dj := fun q => Nat.ne_of_lt (Nat.lt_of_lt_of_le (Heap.lt_size q) big)
  have nota : ∀ {b : Addr}, H b = none → b ≠ a := fun n z => by rw [z, e] at n; cases n
  have same : ∀ b u0, b ≠ a → H b = some u0 → upd (upd H dj (exd dj [(f, y)])) a (exo a C (some dj)) b = some u0 := fun b u0 nb q => by rw [upd_ne nb, upd_ne (ne_of_none q free)]; exact q
  refine k dj _ free nda (I.un (t' := tk2) ⟨fun b o q n _ _ => kp b o (nota n) q, fun b o q n _ _ => ⟨o.slots, kp b o (nota n) q⟩,
    fun b o q n _ => by rw [upd_ne (nota n), upd_ne (far q)]; exact n,
    fun b o q _ => if z : b = a then ⟨_, z ▸ hx⟩ else ⟨o, kp b o z q⟩,
    fun b xs q => same b _ (at_ne e q exo_tup) q, fun b o v q => same b _ (at_ne e q exo_frz) q, fun b ps q => ⟨#[], by rw [same b _ (at_ne e q exo_tbl) q]; simp⟩⟩ fun b o q => ?_)
  by_cases z : b = a
  · subst z; rw [upd_same] at q; cases q; exact exo_ok hx
  · rw [upd_ne z] at q
    by_cases z2 : b = dj
    · subst z2; rw [upd_same] at q; cases q
      exact exd_ok hn (relO_put (fs := []) ry fun _ => True.intro)
    · rw [upd_ne z2] at q
      refine (I.hok b o q).stay (fun c v hc w => kp c v ?_ w) (fun c hc => same c _ (at_ne e hc exo_own) hc) fun c xs hc => same c _ (at_ne e hc exo_tup) hc
      rcases hc with hc | hc
      · rw [hc]; exact z
      · exact at_ne e hc exo_own
/-- self.f = y, a further field -/
theorem put_more (O : Own X.K C) (I : Inv X pins σ H s) (e : H a = some (exo a C (some dj))) (ed : H dj = some (exd dj fs)) (hl : fs.length ≤ 900) (no : PySem.W.findIn X.K (.ref C) f = some none) (ry : RelV y u)
    (k : ∀ s2, Inv X pins σ (upd H dj (exd dj ((f, y) :: fs))) s2 → Q () s2) : wpAny (model X.prog X.w) A (setAttr (.ref a) f u) Q E s := by
  obtain ⟨t1, ho⟩ := exo_at I.hok e
  obtain ⟨mA, hn, rel⟩ := exd_at I.hok ed
  have hw := within_of rel
  obtain ⟨hp, g, d, t, os⟩ := s
  obtain ⟨od, _, _, hod, _, _⟩ := hn.count hw
  refine PySem.W.set_plain I.kIn (od := some od) ⟨ho, rfl, rfl, hod⟩ O.setA (st_more O I.kIn ho hn hw (by rw [List.length_map]; omega) no fun h2 tk2 kp hn2 => ?_)
  have hd : ∃ o, h2.get? dj = some o := by obtain ⟨o, _, _, z, _⟩ := hn2; exact ⟨o, z⟩
  exact k _ (I.write (t' := tk2) (x := dj) (e := dj) (by rw [ed]; exact True.intro) (.inl rfl) kp hd (exd_ok hn2 (relO_put ry rel)))
end

/-- self.f = e in an error's __init__ -/
def tPut (K : PySem.W.Frag) (f : Str) (to te : TE) : TS := fun D σ H => te σ H fun y H1 => to σ H1 fun x H2 => ∃ a C : Addr, x = .ref a ∧ Own K C ∧ PySem.W.findIn K (.ref C) f = some none ∧
  ((H2 a = some (exo a C none) ∧ ∀ dj, H2 dj = none → dj ≠ a → D.nx σ (upd (upd H2 dj (exd dj [(f, y)])) a (exo a C (some dj)))) ∨
    ∃ (dj : Addr) (fs : List (Str × V)), H2 a = some (exo a C (some dj)) ∧ H2 dj = some (exd dj fs) ∧ fs.length ≤ 900 ∧ D.nx σ (upd H2 dj (exd dj ((f, y) :: fs))))
/-- C(e, ..), by C's own __init__ -/
def tNew (C : Addr) (sp : Sp) (ta : TA) : L2.St → Hp → XK → Prop := fun σ H Q => ta σ H fun vs H1 => vs.length ≤ 1000 ∧ ∀ a, H1 a = none → sp (.ref a :: vs) (upd H1 a (exo a C none))
  (fun v H2 => v = .non ∧ ∃ (d : Addr) (fs : List (Str × V)), H2 a = some (exo a C (some d)) ∧ H2 d = some (exd d fs) ∧ H1 d = none ∧ Q (.ref C) (some d) (upd (del H2 a) d (.xd fs))) (fun _ _ _ => False)
section
variable {X : Cx} {o e : Expr} {es : List Expr} {to te : TE} {ta : TA} {f : Str} {p p' pos : Pos}
theorem ps_put (ho : PE X o to) (he : PE X e te) (hs : swapsWith e (some (.Attribute o f p')) pos.line X.env = pure false := by rfl) : PS X (.Assign [.Attribute o f p'] e pos) (tPut X.K f to te) := by
  refine ⟨fun pins s σ H D I h => plainObj_wpAny_Assign_Attribute (thn (he.run pins s σ H _ I h) ?_) hs⟩
  rintro v s1 ⟨y, H1, I1, r1, q1⟩
  refine thn (ho.run pins s1 σ H1 _ I1 q1) ?_
  rintro u s2 ⟨x, H2, I2, r2, a, C, rfl, O, no, q⟩
  obtain rfl : u = Value.ref a := r2
  rcases q with ⟨ea, q⟩ | ⟨dj, fs, ea, ed, hl, q⟩
  · exact put_first O I2 ea no r1 fun dj s3 n ne J => ⟨σ, _, J, q dj n ne⟩
  · exact put_more O I2 ea ed hl no r1 fun s3 J => ⟨σ, _, J, q⟩
theorem pmk_new {CX : CXT} {x : Str} {C fI : Addr} {k : Nat} {fd : FuncData} {ps : List Str} {sp : Sp} (O : Own X.K C) (iC : PySem.W.findIn X.K (.ref C) "__init__" = some (some (.ref fI))) (tI : PySem.W.typeIn X.K (.ref fI) = some (.type "function"))
    (Fi : FnOk X.prog X.w X.K X.mg X.base CX k fI fd ps sp) (hr : Room (k + 1) X.A) (hb : Binds X.K fd ps []) (hx : Passes CX X (fun _ _ _ => False)) (hg : Gl X x) (hm : X.mg x = some (.ref C)) (ha : PA X (e :: es) ta)
    (hdb : (x == ("__debug__" : Str)) = false := by decide) (he : starEach (e :: es) X.env = (false, eval e X.env) :: starEach es X.env := by rfl) (hpl : (backTo pos (starEach es X.env)).any (·.1) = false := by rfl) :
    PMk X (.Call (.Name x p) (e :: es) [] pos) (tNew C sp ta) := by
  intro pins s σ H Q I h
  obtain ⟨B, nI, iI, bmB, S, ini, _⟩ := O.base
  refine wpAny_Call_Name_kw (ld_glob I hg hm ?_ hdb)
  refine PySem.W.callWith_K (h₀ := X.base) I.ok.mod.kin O.keep (thn (ha.run pos pins s σ H _ I h) ?_) he hpl
  rintro us ⟨hp, g, dr, tk, os⟩ ⟨vs, H1, I1, r1, hz, q1⟩
  refine ⟨I1.kIn, ?_⟩
  show wpAny _ _ (call (.ref C) us) _ _ _
  obtain ⟨nm, N, qn, bs, bm, hdct, sn, sub, ab, col, dd, k0, k1, k2, k3, k5, hC, tail⟩ := PySem.W.excInit_of I1.kIn ini
  have up : hp.objs.size ≤ hp.objs.size + 1 := Nat.le_succ _
  have want := q1 (hp.objs.size + 1) (I1.hok.fresh up)
  have kept : ∀ b o, hp.get? b = some o → ((hp.push (PySem.W.kdv_tup us)).push (HandSPX.excO C hp.objs.size)).get? b = some o := fun b o z => Heap.get?_push_of_some _ (Heap.get?_push_of_some _ z)
  have new : ((hp.push (PySem.W.kdv_tup us)).push (HandSPX.excO C hp.objs.size)).get? (hp.objs.size + 1) = some (HandSPX.excO C hp.objs.size) := by heap_get
  have J : Inv X pins σ (upd H1 (hp.objs.size + 1) (exo (hp.objs.size + 1) C none)) ⟨(hp.push (PySem.W.kdv_tup us)).push (HandSPX.excO C hp.objs.size), g, dr, tk, os⟩ := I1.laid (t' := tk) kept up (exo_ok new)
  have rel : Vals (V.ref (hp.objs.size + 1) :: vs) (Value.ref (hp.objs.size + 1) :: us) := .cons rfl r1
  have len : (Value.ref (hp.objs.size + 1) :: us).length = ps.length := rel.length.symm.trans (Fi.len _ _ _ _ want)
  have bind := hb _ (Value.ref (hp.objs.size + 1) :: us) J.kIn (by rw [List.append_nil]; exact len)
  rw [List.append_nil] at bind
  refine wpAny_call (HandSPX.call_own S.bs tail hC (PySem.W.looks_findIn I1.kIn iC) (fun self => PySem.W.bind_fn I1.kIn self tI) (by rw [← Paired.length r1, sizeLine_eq]; omega)
    (codeAny_mono (Fi.run _ X.stack _ _ ⟨Value.ref (hp.objs.size + 1) :: us, []⟩ _ _ _ (fun _ _ _ => False) (hr.make C us []) (J.env0.make C us []) bind rel want) ?_))
  intro r s' w
  match r, w with
  | .error er, w => exact hx pins σ _ _ er s' J w
  | .ok .next, w => exact False.elim w
  | .ok .brk, w => exact False.elim w
  | .ok .cont, w => exact False.elim w
  | .ok (.ret u), w =>
    obtain ⟨v, H2, os2, bare2, un2, hok2, rv, rfl, d, fs, ea, ed, free, q2⟩ := w
    obtain ⟨h2, g2, d2, t2, os'⟩ := s'
    exact ⟨rv, mk_end (raises_own O.isE O.isT) I1 up kept un2 hok2 os2 bare2 ea ed free q2⟩
end

/-! ### what is asked of a caught error -/
structure Asked (K : PySem.W.Frag) (D : Addr) : Prop where
  cl : (PySem.W.clsIn K D).isSome = true
  ga : PySem.W.findIn K (.ref D) "__getattribute__" = some (some (.builtin "BaseException.__getattribute__"))
  gt : PySem.W.findIn K (.ref D) "__getattr__" = some none
  sb : PySem.W.subIn K (.ref D) (.type "BaseException") = some true
  cc : PySem.W.findIn K (.ref D) "__class__" = some (some (.builtin "object.__class__"))
  gn : PySem.W.specialIn K (.builtin "object.__class__") "__get__" = some (some (.builtin "getset_descriptor.__get__"))
  tk : PySem.W.takesIn K (.builtin "object.__class__") = some true
  mr : PySem.W.mroIn K D (.type "object") = some true
theorem isC {K : PySem.W.Frag} {C : Addr} (h : PySem.W.hasDictIn K C = true) : (PySem.W.clsIn K C).isSome = true := by
  obtain ⟨cd, e, _⟩ := PySem.W.any_some h
  rw [e]
  rfl
/-- isinstance(e, c), isinstance(e, (c, ..)) -/
def rAsk (K : PySem.W.Frag) (a : Addr) (cls : Value) (d : Option Addr) (D : Addr) : List V → Hp → VK → Prop := fun xs H Q => cls = .ref D ∧ ∃ (dj : Addr) (fs : List (Str × V)) (c : V) (b : Bool), d = some dj ∧ H dj = some (.xd fs) ∧ xs = [.ref a, c] ∧
  ((∃ cv, (∀ u, RelV c u → u = cv) ∧ PySem.W.kitOne K (.ref D) cv = some b) ∨ ∃ (tp : Addr) (cs : List V) (us : List Value), c = .ref tp ∧ H tp = some (.tup cs) ∧ (∀ ws, Vals cs ws → ws = us) ∧ PySem.W.kitAny K (.ref D) us = some b) ∧ Q (.bl b) H
theorem call_ask {X : Cx} {a D : Addr} {oe : Obj} {cls : Value} {d : Option Addr} {pn : List (Addr × Obj)} (C : Asked X.K D) (hz : Zc cls d oe) (hf : ∃ vs, oe.data = .fields vs) : CallR (X.suite a ((a, oe) :: pn)) (.builtin "isinstance") (rAsk X.K a cls d D) := by
  intro pins s σ H xs us Q I r h
  obtain ⟨rfl, dj, fs, c, b, rfl, hd, rfl, ask, q⟩ := h
  obtain ⟨u1, u2, rfl, r1, r2⟩ := vals2 r
  obtain rfl : u1 = Value.ref a := r1
  obtain ⟨there, _⟩ := I.pin (a, oe) (List.mem_append.mpr (.inl List.mem_cons_self))
  obtain ⟨vs, hv⟩ := hf
  have low : ObjOk X.prog X.w H s.heap dj (.xd fs) := I.hok dj _ hd
  obtain ⟨mA, ⟨od, es, ep, ho, _⟩, _⟩ := low
  have J : PySem.W.InstAt s.heap a oe D (some od) := ⟨there, hz.1, by unfold PySem.W.notCls; rw [hv] <;> rfl, by rw [hz.2]; exact ho⟩
  have Z := PySem.W.kitx_exc (x := a) (ox := oe) (od := some od) C.cl C.ga C.gt C.sb C.cc C.gn C.tk C.mr
  have fin : ∀ tk : Nat, EP (X.suite a ((a, oe) :: pn)) pins σ Q (.bool b) { s with toks := tk } := fun tk => ⟨.bl b, H, I.kept (t' := tk) fun _ _ z => z, rfl, q⟩
  rcases ask with ⟨cv, hc, e⟩ | ⟨tp, cs, ws, rfl, ht, hc, e⟩
  · rw [hc u2 r2]
    exact PySem.W.kia_one Z I.kIn J e (fun z => nomatch z) fin
  · obtain rfl : u2 = Value.ref tp := r2
    have tup : ObjOk X.prog X.w H s.heap tp (.tup cs) := I.hok tp _ ht
    obtain ⟨_, its, rv, o, h1, h2, n, h3⟩ := tup
    rw [← hc its rv] at e
    obtain ⟨oc, oda, dt, sl⟩ := o
    simp only at h2 h3
    subst h2 h3
    exact PySem.W.kia_tup Z I.kIn J h1 e (fun z => nomatch z) fin
end VX

/-! The greatest number of units in windows; the form of such a curve; curves at most others; plain Lean. -/
namespace VM
def maxTo (g : Nat → Int) : Nat → Int
  | 0 => g 0
  | n + 1 => max (maxTo g n) (g (n + 1))
theorem maxTo_ge {g : Nat → Int} : ∀ {n i : Nat}, i ≤ n → g i ≤ maxTo g n
  | 0, i, h => by have : i = 0 := by omega
                  subst this; exact Int.le_refl _
  | n + 1, i, h => by
    unfold maxTo
    by_cases c : i = n + 1
    · subst c; omega
    · have := maxTo_ge (g := g) (n := n) (i := i) (by omega)
      omega
theorem maxTo_at {g : Nat → Int} : ∀ n : Nat, ∃ i, i ≤ n ∧ maxTo g n = g i
  | 0 => ⟨0, Nat.le_refl _, rfl⟩
  | n + 1 => by
    obtain ⟨i, hi, e⟩ := maxTo_at (g := g) n
    unfold maxTo
    by_cases c : maxTo g n ≤ g (n + 1)
    · exact ⟨n + 1, Nat.le_refl _, by omega⟩
    · exact ⟨i, by omega, by omega⟩
theorem maxTo_is {g : Nat → Int} {n : Nat} {m : Int} (h : m ∈ (List.range (n + 1)).map g) (h2 : ∀ y ∈ (List.range (n + 1)).map g, y ≤ m) : m = maxTo g n := by
  obtain ⟨i, hi, e⟩ := maxTo_at (g := g) n
  obtain ⟨j, hj, ej⟩ := List.mem_map.mp h
  have a := h2 (g i) (List.mem_map.mpr ⟨i, List.mem_range.mpr (by omega), rfl⟩)
  have b := maxTo_ge (g := g) (n := n) (i := j) (by have := List.mem_range.mp hj; omega)
  omega
/-- the greatest number of units in k successive ticks -/
def mostM (us : List Int) (k : Nat) : Int := if us.length ≤ k then us.sum else maxTo (fun s => win us s k) (us.length - k)
theorem win_all {us : List Int} : win us ((0 : Nat) : Int) us.length = us.sum := by
  unfold win
  rw [show ((0 : Nat) : Int) + (us.length : Int) = us.length by omega, pre_all, show ((0 : Nat) : Int) = 0 from rfl, pre_zero]
  omega
theorem most_ge {us : List Int} {s k : Nat} (h : s + k ≤ us.length) : win us s k ≤ mostM us k := by
  unfold mostM
  by_cases c : us.length ≤ k
  · rw [if_pos c]
    have e : s = 0 := by omega
    have e2 : k = us.length := by omega
    subst e e2
    rw [win_all]
    exact Int.le_refl _
  · rw [if_neg c]
    exact maxTo_ge (g := fun s => win us s k) (n := us.length - k) (i := s) (by omega)
theorem most_at {us : List Int} {k : Nat} (h : k ≤ us.length) : ∃ s : Nat, s + k ≤ us.length ∧ mostM us k = win us s k := by
  unfold mostM
  by_cases c : us.length ≤ k
  · rw [if_pos c]
    have e2 : k = us.length := by omega
    subst e2
    exact ⟨0, by omega, win_all.symm⟩
  · rw [if_neg c]
    obtain ⟨s, hs, e⟩ := maxTo_at (g := fun s : Nat => win us s k) (us.length - k)
    exact ⟨s, by omega, e⟩
theorem most_far {us : List Int} {k : Nat} (h : us.length ≤ k) : mostM us k = us.sum := by unfold mostM; rw [if_pos h]
theorem pre_mono {us : List Int} (N : ∀ u ∈ us, 0 ≤ u) (i : Nat) (h : i < us.length) : pre us i ≤ pre us ((i : Int) + 1) := by
  rw [pre_step h]
  have := N us[i] (List.getElem_mem h)
  rw [List.getD_eq_getElem?_getD, List.getElem?_eq_getElem h]
  show _ ≤ _ + us[i]
  omega
theorem most_zero {us : List Int} : mostM us 0 = 0 := by
  obtain ⟨s, hs, e⟩ := most_at (us := us) (k := 0) (Nat.zero_le _)
  rw [e]
  unfold win
  rw [show (s : Int) + ((0 : Nat) : Int) = s by omega]
  omega
theorem most_up {us : List Int} (N : ∀ u ∈ us, 0 ≤ u) (k : Nat) : mostM us k ≤ mostM us (k + 1) := by
  by_cases c : us.length ≤ k
  · rw [most_far c, most_far (by omega)]
    exact Int.le_refl _
  · obtain ⟨s, hs, e⟩ := most_at (us := us) (k := k) (by omega)
    rw [e]
    by_cases d : s + (k + 1) ≤ us.length
    · have a := most_ge (us := us) (s := s) (k := k + 1) d
      have b := pre_mono N (s + k) (by omega)
      unfold win at a ⊢
      rw [show (s : Int) + ((k + 1 : Nat) : Int) = ((s + k : Nat) : Int) + 1 by omega] at a
      rw [show (s : Int) + (k : Int) = ((s + k : Nat) : Int) by omega]
      omega
    · have a := most_ge (us := us) (s := s - 1) (k := k + 1) (by omega)
      have b := pre_mono N (s - 1) (by omega)
      unfold win at a ⊢
      rw [show ((s - 1 : Nat) : Int) + ((k + 1 : Nat) : Int) = (s : Int) + k by omega] at a
      rw [show ((s - 1 : Nat) : Int) + 1 = (s : Int) by omega] at b
      omega
theorem most_mono {us : List Int} (N : ∀ u ∈ us, 0 ≤ u) (a : Nat) : ∀ d : Nat, mostM us a ≤ mostM us (a + d)
  | 0 => Int.le_refl _
  | d + 1 => Int.le_trans (most_mono N a d) (most_up N (a + d))
theorem most_nn {us : List Int} (N : ∀ u ∈ us, 0 ≤ u) (a : Nat) : 0 ≤ mostM us a := by
  have := most_mono N 0 a
  rw [most_zero, Nat.zero_add] at this
  exact this
theorem most_sum {us : List Int} (N : ∀ u ∈ us, 0 ≤ u) (a : Nat) : mostM us a ≤ us.sum := by
  by_cases c : us.length ≤ a
  · rw [most_far c]; exact Int.le_refl _
  · have := most_mono N a (us.length - a)
    rw [most_far (us := us) (k := a + (us.length - a)) (by omega)] at this
    exact this
/-- the function of the tightest curve -/
def tF (us : List Int) (t : Int) : Int := mostM us t.toNat
theorem tF_zero {us : List Int} : tF us 0 = 0 := most_zero
theorem tF_nat {us : List Int} {k : Nat} : tF us k = mostM us k := by unfold tF; rw [Int.toNat_natCast]
theorem most_add {us : List Int} (N : ∀ u ∈ us, 0 ≤ u) (a b : Nat) : mostM us (a + b) ≤ mostM us a + mostM us b := by
  have key : ∀ k a b : Nat, k ≤ us.length → k = a + b → mostM us k ≤ mostM us a + mostM us b := fun k a b hk e => by
    obtain ⟨s, hs, q⟩ := most_at (us := us) hk
    have w1 := most_ge (us := us) (s := s) (k := a) (by omega)
    have w2 := most_ge (us := us) (s := s + a) (k := b) (by omega)
    rw [q]
    unfold win at *
    rw [show ((s + a : Nat) : Int) + (b : Int) = (s : Int) + k by omega] at w2
    rw [show ((s + a : Nat) : Int) = (s : Int) + a by omega] at w2
    omega
  by_cases c : a + b ≤ us.length
  · exact key _ a b c rfl
  · by_cases d : us.length ≤ a
    · have := most_nn N b
      rw [most_far (by omega), most_far d]
      omega
    · have z := key us.length a (us.length - a) (Nat.le_refl _) (by omega)
      have y := most_mono N (us.length - a) (b - (us.length - a))
      rw [show us.length - a + (b - (us.length - a)) = b by omega] at y
      rw [most_far (us := us) (k := a + b) (by omega)]
      rw [most_far (us := us) (k := us.length) (Nat.le_refl _)] at z
      omega
/-- the values that the package writes first -/
def tV (us : List Int) : List Int := if us = [] then [0] else vals (tF us) us.length
theorem tV_length {us : List Int} : (tV us).length = max us.length 1 := by
  unfold tV
  by_cases c : us = []
  · subst c; rfl
  · rw [if_neg c, vals_length]
    have : us.length ≠ 0 := fun z => c (List.length_eq_zero_iff.mp z)
    omega
theorem tV_at {us : List Int} : ∀ t : Int, 0 ≤ t → cvAt (tV us) 1 0 t = tF us t := by
  have R : Rep (tF us) (max us.length 1 : Nat) 1 0 := fun t ht => by
    unfold tF
    rw [most_far (by omega), most_far (by omega)]
    omega
  by_cases c : us = []
  · intro t ht
    subst c
    have e : tF [] = fun _ => 0 := by funext t; unfold tF; rw [most_far (Nat.zero_le _)]; rfl
    rw [e]
    have R0 : Rep (cvAt (tV []) 1 0) ((tV []).length : Nat) 1 0 := Rep.cvAt (by decide) (by decide)
    obtain ⟨n, rfl⟩ : ∃ n : Nat, t = n := ⟨t.toNat, by omega⟩
    induction n with
    | zero => exact cvAt_zero
    | succ n ih =>
      by_cases z : n = 0
      · subst z; rfl
      · rw [R0 _ (by show (((tV []).length : Nat) : Int) < _; rw [tV_length]; show ((max 0 1 : Nat) : Int) < _; omega), show ((n + 1 : Nat) : Int) - 1 = n by omega, ih (by omega)]
        rfl
  · have n0 : us.length ≠ 0 := fun z => c (List.length_eq_zero_iff.mp z)
    unfold tV
    rw [if_neg c]
    rw [show max us.length 1 = us.length by omega] at R
    exact cvAt_vals (by decide) (by omega) tF_zero R
theorem tV_p {us : List Int} : formP (tV us) 1 0 = (1, 0) := by
  show leastFrom _ _ _ (1 - 1 : Int).toNat 1 = _
  rw [show ((1 : Int) - 1).toNat = 0 from rfl]
  unfold leastFrom
  have R0 : Rep (cvAt (tV us) 1 0) ((tV us).length : Nat) 1 0 := Rep.cvAt (by decide) (by rw [tV_length]; omega)
  rw [R0 _ (by omega), show (((tV us).length : Nat) : Int) + 1 - 1 = (tV us).length by omega]
  congr 1
  omega
theorem shr_congr {f g : Int → Int} {s : Int} : ∀ m : Nat, (∀ t : Int, 0 ≤ t → f t = g t) → shr f 1 s m = shr g 1 s m
  | 0, _ => rfl
  | m + 1, h => by
    unfold shr
    rw [h _ (by omega), h (((m + 1 : Nat) : Int) - 1) (by omega), shr_congr m h]
theorem vals_congr {f g : Int → Int} {m : Nat} (h : ∀ t : Int, 0 ≤ t → f t = g t) : vals f m = vals g m := by
  unfold vals
  exact List.map_congr_left fun i _ => h _ (by omega)
/-- the form of the tightest curve -/
def tM (us : List Int) : Nat := shr (tF us) 1 0 (us.length + 1)
def tW (us : List Int) : List Int := vals (tF us) (tM us)
theorem tM_eq {us : List Int} : formM (tV us) 1 0 = tM us := by
  unfold formM tM
  rw [tV_p, shr_congr (g := tF us) _ tV_at, tV_length]
  by_cases c : us.length = 0
  · rw [c]; rfl
  · have : shr (tF us) 1 0 (us.length + 1) = shr (tF us) 1 0 us.length := by
      show (if (1 : Int) < ((us.length + 1 : Nat) : Int) ∧ _ then _ else _) = _
      rw [if_pos]
      refine ⟨by omega, ?_⟩
      rw [tF_nat, show ((us.length + 1 : Nat) : Int) - 1 = ((us.length : Nat) : Int) by omega, tF_nat, most_far (by omega), most_far (Nat.le_refl _)]
      omega
    rw [this, show max us.length 1 = us.length by omega]
theorem tW_eq {us : List Int} : formV (tV us) 1 0 = tW us := by
  unfold formV tW
  rw [tM_eq]
  exact vals_congr tV_at
theorem shr_pos {f : Int → Int} : ∀ m : Nat, 1 ≤ m → 1 ≤ shr f 1 0 m ∧ shr f 1 0 m ≤ m
  | 0, h => absurd h (by decide)
  | m + 1, _ => by
    unfold shr
    by_cases c : (1 : Int) < ((m + 1 : Nat) : Int) ∧ f ((m + 1 : Nat) : Int) = f (((m + 1 : Nat) : Int) - 1) + 0
    · rw [if_pos c]
      have := shr_pos (f := f) m (by omega)
      omega
    · rw [if_neg c]; omega
theorem tW_at {us : List Int} : ∀ t : Int, 0 ≤ t → cvAt (tW us) 1 0 t = tF us t := fun t ht => by
  obtain ⟨_, _, _, _, h⟩ := form_spec (vs := tV us) (p := 1) (g := 0) (by decide) (by rw [tV_length]; omega)
  have := h t ht
  rw [tW_eq, tV_p] at this
  rw [this, tV_at t ht]
theorem tW_len {us : List Int} : 1 ≤ (tW us).length ∧ (tW us).length ≤ us.length + 1 := by
  unfold tW
  rw [vals_length]
  exact shr_pos _ (by omega)
theorem tW_kept {us : List Int} : Kept (cvAt (tW us) 1 0) us := fun s k h1 h2 => by
  rw [tW_at _ (by omega), tF_nat]
  exact most_ge h2
theorem tW_good {us : List Int} (N : ∀ u ∈ us, 0 ≤ u) (a b : Int) (ha : 0 ≤ a) (hb : 0 ≤ b) : cvAt (tW us) 1 0 (a + b) ≤ cvAt (tW us) 1 0 a + cvAt (tW us) 1 0 b := by
  rw [tW_at _ (by omega), tW_at _ ha, tW_at _ hb]
  have := most_add N a.toNat b.toNat
  unfold tF
  rw [show (a + b).toNat = a.toNat + b.toNat by omega]
  exact this
/-! ### the record turned round, with an empty tick behind -/
theorem sum_rev (us : List Int) : us.reverse.sum = us.sum := by
  induction us with
  | nil => rfl
  | cons u us ih => rw [List.reverse_cons, List.sum_append, ih, List.sum_cons]; simp; omega
theorem pre_rev {us : List Int} {i : Nat} (h : i ≤ us.length) : pre us.reverse i = us.sum - pre us ((us.length - i : Nat) : Int) := by
  unfold pre
  rw [Int.toNat_natCast, Int.toNat_natCast, List.take_reverse, sum_rev]
  have e := List.take_append_drop (us.length - i) us
  have s : us.sum = (us.take (us.length - i)).sum + (us.drop (us.length - i)).sum := by rw [← List.sum_append, e]
  omega
theorem win_rev {us : List Int} {s k : Nat} (h : s + k ≤ us.length) : win us.reverse s k = win us ((us.length - s - k : Nat) : Int) k := by
  unfold win
  rw [show (s : Int) + (k : Int) = ((s + k : Nat) : Int) by omega, pre_rev h, pre_rev (by omega), show ((us.length - s - k : Nat) : Int) + (k : Int) = ((us.length - s : Nat) : Int) by omega, show us.length - (s + k) = us.length - s - k by omega]
  omega
theorem win_push {us : List Int} {x : Int} {s k : Nat} (h : s + k ≤ us.length) : win (us ++ [x]) s k = win us s k := by
  unfold win
  rw [pre_push (by omega), pre_push (by omega)]
theorem most_back {us : List Int} (N : ∀ u ∈ us, 0 ≤ u) (k : Nat) : mostM (us.reverse ++ [0]) k = mostM us k := by
  have len : (us.reverse ++ [0]).length = us.length + 1 := by rw [List.length_append, List.length_reverse]; rfl
  have sm : (us.reverse ++ [0]).sum = us.sum := by rw [List.sum_append, sum_rev]; simp
  by_cases c : us.length < k
  · rw [most_far (by omega), most_far (by omega), sm]
  · apply Int.le_antisymm
    · obtain ⟨s, hs, e⟩ := most_at (us := us.reverse ++ [0]) (k := k) (by omega)
      rw [len] at hs
      rw [e]
      by_cases d : s + k ≤ us.length
      · rw [win_push (by rw [List.length_reverse]; exact d), win_rev d]
        exact most_ge (by omega)
      · by_cases k0 : k = 0
        · subst k0
          rw [most_zero]
          unfold win
          rw [show (s : Int) + ((0 : Nat) : Int) = s by omega]
          omega
        · have p1 : pre (us.reverse ++ [0]) ((s : Int) + k) = us.sum := by
            rw [pre_last (by rw [List.length_reverse]; omega), pre_all, sum_rev]
            omega
          have p2 : pre (us.reverse ++ [0]) s = us.sum - pre us ((us.length - s : Nat) : Int) := by
            rw [pre_push (by rw [List.length_reverse]; omega), pre_rev (by omega)]
          have w : win (us.reverse ++ [0]) s k = win us ((0 : Nat) : Int) (k - 1 : Nat) := by
            unfold win
            rw [p1, p2, show ((0 : Nat) : Int) + ((k - 1 : Nat) : Int) = ((us.length - s : Nat) : Int) by omega, show ((0 : Nat) : Int) = 0 from rfl, pre_zero]
            omega
          rw [w]
          have a := most_ge (us := us) (s := 0) (k := k - 1) (by omega)
          have b := most_up N (k - 1)
          rw [show k - 1 + 1 = k by omega] at b
          omega
    · obtain ⟨s, hs, e⟩ := most_at (us := us) (k := k) (by omega)
      rw [e]
      have a := most_ge (us := us.reverse ++ [0]) (s := us.length - s - k) (k := k) (by omega)
      rw [win_push (by rw [List.length_reverse]; omega), win_rev (by omega), show us.length - (us.length - s - k) - k = s by omega] at a
      exact a
theorem tW_back {us : List Int} (N : ∀ u ∈ us, 0 ≤ u) : tW (us.reverse ++ [0]) = tW us := by
  have F : tF (us.reverse ++ [0]) = tF us := by
    funext t
    unfold tF
    exact most_back N t.toNat
  have M : tM (us.reverse ++ [0]) = tM us := by
    unfold tM
    rw [F, List.length_append, List.length_reverse]
    show shr (tF us) 1 0 (us.length + 1 + 1) = _
    show (if (1 : Int) < ((us.length + 1 + 1 : Nat) : Int) ∧ _ then _ else _) = _
    rw [if_pos]
    refine ⟨by omega, ?_⟩
    rw [tF_nat, show ((us.length + 1 + 1 : Nat) : Int) - 1 = ((us.length + 1 : Nat) : Int) by omega, tF_nat, most_far (by omega), most_far (by omega)]
    omega
  unfold tW
  rw [F, M]
/-! ### at most -/
/-- is one curve at most another one, as the package looks -/
def amN (n1 n2 : Nat) (p1 p2 : Int) : Nat := (max ((n1 : Int) - p1) ((n2 : Int) - p2) + (Nat.lcm p1.toNat p2.toNat : Nat)).toNat
def amM (f1 f2 : Int → Int) (n1 n2 : Nat) (p1 g1 p2 g2 : Int) : Bool :=
  if g2 * ((Nat.lcm p1.toNat p2.toNat : Nat) / p2) < g1 * ((Nat.lcm p1.toNat p2.toNat : Nat) / p1) then false else
    (List.range (amN n1 n2 p1 p2)).all fun i : Nat => decide (f1 ((i : Int) + 1) ≤ f2 ((i : Int) + 1))
theorem all_iff {n : Nat} {f g : Int → Int} : ((List.range n).all fun i : Nat => decide (f ((i : Int) + 1) ≤ g ((i : Int) + 1))) = true ↔ ∀ t : Int, 1 ≤ t → t ≤ n → f t ≤ g t := by
  rw [List.all_eq_true]
  constructor
  · intro h t h1 h2
    have := of_decide_eq_true (h (t - 1).toNat (List.mem_range.mpr (by omega)))
    rw [show (((t - 1).toNat : Nat) : Int) + 1 = t by omega] at this
    exact this
  · intro h i hi
    exact decide_eq_true (h _ (by omega) (by have := List.mem_range.mp hi; omega))
/-- the tightest curve is at most a curve exactly if the record keeps it -/
theorem am_tight {us : List Int} (N : ∀ u ∈ us, 0 ≤ u) {f : Int → Int} {n2 : Nat} {p g : Int} (hp : 0 < p) (hpn : p ≤ n2) (hg : 0 ≤ g) (h0 : 0 ≤ f 1) (up : ∀ k : Nat, 1 ≤ k → f k ≤ f ((k : Int) + 1)) :
    amM (cvAt (tW us) 1 0) f (tW us).length n2 1 0 p g = (List.range us.length).all fun i : Nat => decide (tF us ((i : Int) + 1) ≤ f ((i : Int) + 1)) := by
  have L : Nat.lcm (1 : Int).toNat p.toNat = p.toNat := by rw [show (1 : Int).toNat = 1 from rfl]; exact Nat.lcm_one_left _
  have fm : ∀ (d k : Nat), 1 ≤ k → f k ≤ f ((k + d : Nat) : Int) := fun d k hk => by
    induction d with
    | zero => exact Int.le_refl _
    | succ d ih =>
      have := up (k + d) (by omega)
      rw [show ((k + d : Nat) : Int) + 1 = ((k + (d + 1) : Nat) : Int) by omega] at this
      omega
  have fmi : ∀ a b : Int, 1 ≤ a → a ≤ b → f a ≤ f b := fun a b h1 h2 => by
    have := fm (b - a).toNat a.toNat (by omega)
    rw [show ((a.toNat + (b - a).toNat : Nat) : Int) = b by omega, show ((a.toNat : Nat) : Int) = a by omega] at this
    exact this
  obtain ⟨l1, l2⟩ := tW_len (us := us)
  have gg : ¬ g * ((Nat.lcm (1 : Int).toNat p.toNat : Nat) / p) < 0 * ((Nat.lcm (1 : Int).toNat p.toNat : Nat) / (1 : Int)) := by
    rw [L, Int.zero_mul, show ((p.toNat : Nat) : Int) = p by omega, Int.ediv_self (by omega)]
    omega
  unfold amM
  rw [if_neg gg, Bool.eq_iff_iff, all_iff, all_iff]
  have nn : ((amN (tW us).length n2 1 p : Nat) : Int) = max (((tW us).length : Int) - 1) ((n2 : Int) - p) + p := by
    unfold amN
    rw [L]
    omega
  constructor
  · intro h t h1 h2
    rw [← tW_at _ (by omega)]
    by_cases c : t ≤ (amN (tW us).length n2 1 p : Nat)
    · exact h t h1 c
    · have R : Rep (cvAt (tW us) 1 0) (tW us).length 1 0 := Rep.cvAt (by decide) (by omega)
      have flat : ∀ d : Nat, cvAt (tW us) 1 0 (((tW us).length + d : Nat) : Int) = cvAt (tW us) 1 0 (tW us).length := fun d => by
        induction d with
        | zero => rfl
        | succ d ih =>
          rw [R _ (by omega), show (((tW us).length + (d + 1) : Nat) : Int) - 1 = (((tW us).length + d : Nat) : Int) by omega, ih]
          omega
      have e := flat (t - (tW us).length).toNat
      rw [show (((tW us).length + (t - (tW us).length).toNat : Nat) : Int) = t by omega] at e
      rw [e]
      exact Int.le_trans (h _ (by omega) (by omega)) (fmi _ _ (by omega) (by omega))
  · intro h t h1 h2
    rw [tW_at _ (by omega)]
    by_cases c : t ≤ us.length
    · exact h t h1 c
    · unfold tF
      rw [most_far (by omega)]
      by_cases z : us.length = 0
      · have : us = [] := List.length_eq_zero_iff.mp z
        subst this
        exact Int.le_trans h0 (fmi 1 t (by decide) h1)
      · have a := h us.length (by omega) (Int.le_refl _)
        rw [tF_nat, most_far (Nat.le_refl _)] at a
        exact Int.le_trans a (fmi _ _ (by omega) (by omega))
end VM

/-! Data in an f-string, repr by an own __repr__ that shows data, lcm. -/
namespace VQ
open PySem PySem.Spec PyProof.Rows L2
section
variable {X : Cx}
/-- {x}: data that repr may be asked of -/
def tFmtD (K : PySem.W.Frag) (te : TE) : TE := fun σ H Q => te σ H fun x H1 => ∃ (a : Addr) (d : PyData), x = .ref a ∧ Dp K H1 x d ∧ d.showable = true ∧ d.depth ≤ 60 ∧ d.shown.length ≤ sizeLine ∧ Q (.str d.shown) H1
theorem pe_fmtD {e : Expr} {te : TE} {pos : Pos} (hg : X.A.guards = some []) (hu : X.A.units + 64 < cLine) (he : PE X e te) : PE X (.FormattedValue e (-1) none pos) (tFmtD X.K te) := by
  refine ⟨fun pins s σ H Q I h => wpAny_FormattedValue_plain (thn (he.run pins s σ H _ I h) ?_)⟩
  rintro v s1 ⟨x, H1, I1, r1, a, d, rfl, dp, sh, de, sz, q⟩
  obtain rfl : v = Value.ref a := r1
  have nd := (VG.dp_noDict X.K H1).1 d _ dp
  obtain ⟨as, rd⟩ := Dp.reads I1 d _ _ dp rfl
  exact formatField_of_reads rd sh (fun z => by rw [nd] at z; cases z) hg (by omega) (fun _ _ z => z) (fun h' u tk k => ⟨.str _, H1, I1.kept (t' := tk) k, ⟨_, rfl⟩, q⟩) sz
variable {CX : CXT} {k : Nat} {f C : Addr} {fd : FuncData} {ps : List Str} {sp : Sp} {E : XK}
/-- repr of an instance whose own __repr__ asks for empty guards -/
theorem call_reprOwnG (F : VG.FnG X.prog X.w X.K X.mg X.base CX k f fd ps sp) (hA : X.A.guards = some []) (hr : Room (k + 1) X.A) (o : Meth X.K C "__repr__" f) (hb : Binds X.K fd ps []) (hx : Passes CX X E) :
    CallR X (.builtin "repr") (VN.rReprOwn C sp E) := by
  intro pins s σ H xs us Q I r h
  obtain ⟨a, dx, fs, rfl, ea, hsp⟩ := h
  obtain ⟨u, rfl, ru⟩ := vals1 r
  obtain rfl : u = Value.ref a := ru
  obtain ⟨mA, J, _⟩ := ins_get I.hok ea
  obtain ⟨od, J, _⟩ := J.look
  obtain ⟨m, hF⟩ := I.fr
  have len := F.arity _ _ _ _ hsp
  have bind := hb s [.ref a] I.kIn (by simpa using len)
  rw [List.append_nil] at bind
  refine PySem.W.repr_K hr.in1.units0 hF I.ok.mod.kin J o.at_ o.fn (wpAny_call (codeAny_mono (F.go X.A.in1 X.stack s H ⟨[.ref a], []⟩ [.ref a] [.ref a] _ E hA hr.in1 I.env0.in1 bind (.cons rfl .nil) hsp) ?_))
  intro res s' hq
  match res, hq with
  | .error e, hq => exact hx pins σ H s e s' I hq
  | .ok .next, hq => exact False.elim hq
  | .ok .brk, hq => exact False.elim hq
  | .ok .cont, hq => exact False.elim hq
  | .ok (.ret w), hq =>
    obtain ⟨z, H', J', rz, y, rfl, q⟩ := I.after hq
    obtain ⟨t, rfl⟩ := rz
    exact ⟨.str y, H', J', ⟨t, rfl⟩, q⟩
/-- lcm of small numbers -/
def rLcm : List V → Hp → VK → Prop := fun vs H Q => ∃ a b : Int, vs = [.int a, .int b] ∧ 0 < a ∧ a ≤ 1000 ∧ 0 < b ∧ b ≤ 1000 ∧ Q (.int ((Nat.lcm a.toNat b.toNat : Nat) : Int)) H
theorem cr_lcm : CallR X (.builtin "math.lcm") rLcm := by
  intro pins s σ H vs us Q I r h
  obtain ⟨a, b, rfl, a0, a1, b0, b1, q⟩ := h
  obtain ⟨t, u, rfl⟩ := Vals.int2 r
  have ea : a.natAbs = a.toNat := by omega
  have eb : b.natAbs = b.toNat := by omega
  have z : (Nat.lcm 1 a.natAbs).lcm b.natAbs = Nat.lcm a.toNat b.toNat := by rw [Nat.lcm_one_left, ea, eb]
  have big : Nat.lcm a.toNat b.toNat ≤ 1000000 := by
    have p : Nat.lcm a.toNat b.toNat ∣ a.toNat * b.toNat := Nat.lcm_dvd_mul _ _
    have m := Nat.le_of_dvd (Nat.mul_pos (by omega) (by omega)) p
    have y : a.toNat * b.toNat ≤ 1000 * 1000 := Nat.mul_le_mul (by omega) (by omega)
    omega
  have lg : (Nat.lcm a.toNat b.toNat).log2 < 64 := by
    by_cases n0 : Nat.lcm a.toNat b.toNat = 0
    · rw [n0]; decide
    · exact (Nat.log2_lt n0).mpr (Nat.lt_of_le_of_lt big (by decide))
  refine PySem.W.mg_lcm (by omega) (by omega) ?_ ⟨.int _, H, I.tok _, ⟨_, rfl⟩, ?_⟩
  · rw [z, Int.natAbs_natCast]
    exact Nat.lt_trans lg (by decide)
  · rw [z]; exact q
end
end VQ

/-! The sum of two objects of an own class, by its own __add__. -/
namespace VO
open PySem PySem.Spec PyProof.Rows L2
def rAddOwn (C : Addr) (sp : Sp) (E : XK) : R2 := fun x y H Q => ∃ a dx fs b dy gs, x = .ref a ∧ H a = some (.ins C dx fs) ∧ y = .ref b ∧ H b = some (.ins C dy gs) ∧ sp [x, y] H (fun v H' => ∃ c, v = .ref c ∧ Q (.ref c) H') E
section
variable {X : Cx} {CX : CXT} {k : Nat} {f C : Addr} {fd : FuncData} {ps : List Str} {sp : Sp} {E : XK}
theorem op_addOwn (F : FnOk X.prog X.w X.K X.mg X.base CX k f fd ps sp) (hr : Room k X.A) (o : Meth X.K C "__add__" f) (c : PySem.W.selfFirst X.K C = true) (hb : Binds X.K fd ps []) (hx : Passes CX X E) : OpR X (binaryOp .Add) (rAddOwn C sp E) := by
  intro pins s σ H x y v u Q I rx ry h
  obtain ⟨a, dx, fs, b, dy, gs, rfl, ea, rfl, eb, hsp⟩ := h
  obtain rfl : v = Value.ref a := rx
  obtain rfl : u = Value.ref b := ry
  obtain ⟨mA, J, _⟩ := ins_get I.hok ea
  obtain ⟨od, J, _⟩ := J.look
  obtain ⟨mB, J2, _⟩ := ins_get I.hok eb
  obtain ⟨od2, J2, _⟩ := J2.look
  obtain ⟨m, hF⟩ := I.fr
  show wpAny (model X.prog X.w) X.A (binaryOp .Add (.ref a) (.ref b)) (EP X pins σ Q) X.xe s
  refine PySem.W.binop_K (op := .Add) hF I.ok.mod.kin J J2.type c o.at_ o.fn ?_
  have hl := F.len _ _ _ _ hsp
  have r2 : Vals [V.ref a, V.ref b] [Value.ref a, Value.ref b] := .cons rfl (.cons rfl .nil)
  refine wpAny_call (codeAny_mono (F.run X.A X.stack s H ⟨[.ref a, .ref b], []⟩ [.ref a, .ref b] [.ref a, .ref b] _ E hr I.env0 (by
    have := hb s [.ref a, .ref b] I.kIn (by simpa using hl)
    simpa using this) r2 hsp) fun r s' hq => ?_)
  cases r with
  | error e => exact hx pins σ H s e s' I hq
  | ok fl =>
    cases fl with
    | ret w =>
      obtain ⟨z, H', I', rz, b, ez, q⟩ := I.after hq
      subst ez
      cases rz
      exact ⟨.ref b, H', I', rfl, q⟩
    | next => exact False.elim hq
    | brk => exact False.elim hq
    | cont => exact False.elim hq
end
end VO

/-! The first break of a curve; a curve later; the sum of two. -/
namespace VM
theorem least_nat {P : Nat → Prop} (h : ∃ n, P n) : ∃ n, P n ∧ ∀ m, m < n → ¬ P m := by
  obtain ⟨n, hn⟩ := h
  induction n using Nat.strongRecOn with
  | ind n ih =>
    by_cases z : ∃ m, m < n ∧ P m
    · obtain ⟨m, hm, pm⟩ := z
      exact ih m hm pm
    · exact ⟨n, hn, fun m hm pm => z ⟨m, hm, pm⟩⟩
/-- the first break among all pairs, or that there is none -/
def First (f : Int → Int) : Option (Int × Int) → Prop
  | none => ∀ a b : Int, 1 ≤ a → a ≤ b → f (a + b) ≤ f a + f b
  | some (a, b) => 1 ≤ a ∧ a ≤ b ∧ f a + f b < f (a + b) ∧ ∀ x y : Int, 1 ≤ x → x ≤ y → (x + y < a + b ∨ (x + y = a + b ∧ x < a)) → f (x + y) ≤ f x + f y
theorem first_ex (f : Int → Int) : ∃ o, First f o := by
  by_cases h : ∃ s : Nat, ∃ a : Nat, 1 ≤ a ∧ 2 * a ≤ s ∧ f a + f (s - a) < f s
  · obtain ⟨s, ⟨a0, ha0⟩, hs⟩ := least_nat h
    obtain ⟨a, ⟨a1, a2, a3⟩, ha⟩ := least_nat (P := fun a : Nat => 1 ≤ a ∧ 2 * a ≤ s ∧ f a + f (s - a) < f s) ⟨a0, ha0⟩
    refine ⟨some ((a : Int), (s : Int) - a), by omega, by omega, ?_, fun x y hx hxy lt => ?_⟩
    · rw [show (a : Int) + (s - a) = s by omega]; exact a3
    · by_cases c : f (x + y) ≤ f x + f y
      · exact c
      · exfalso
        have e1 : ((x.toNat : Nat) : Int) = x := by omega
        have e2 : (((x + y).toNat : Nat) : Int) = x + y := by omega
        have key : 1 ≤ x.toNat ∧ 2 * x.toNat ≤ (x + y).toNat ∧ f (x.toNat : Nat) + f (((x + y).toNat : Nat) - (x.toNat : Nat) : Int) < f ((x + y).toNat : Nat) := by
          refine ⟨by omega, by omega, ?_⟩
          rw [e1, e2, show x + y - x = y by omega]
          omega
        rcases lt with lt | ⟨lt, lt2⟩
        · exact hs (x + y).toNat (by omega) ⟨x.toNat, key⟩
        · refine ha x.toNat (by omega) ?_
          have e3 : (x + y).toNat = s := by omega
          rw [e3] at key
          exact key
  · refine ⟨none, fun a b ha hab => ?_⟩
    by_cases c : f (a + b) ≤ f a + f b
    · exact c
    · exfalso
      apply h
      refine ⟨(a + b).toNat, a.toNat, by omega, by omega, ?_⟩
      rw [show ((a.toNat : Nat) : Int) = a by omega, show (((a + b).toNat : Nat) : Int) = a + b by omega, show a + b - a = b by omega]
      omega
theorem First.congr {f h : Int → Int} {o : Option (Int × Int)} (e : ∀ t : Int, 0 ≤ t → f t = h t) (F : First f o) : First h o := by
  cases o with
  | none => exact fun a b h1 h2 => by rw [← e (a + b) (by omega), ← e a (by omega), ← e b (by omega)]; exact F a b h1 h2
  | some ab =>
    obtain ⟨a, b⟩ := ab
    obtain ⟨a1, a2, a3, a4⟩ := F
    refine ⟨a1, a2, ?_, fun x y h1 h2 lt => ?_⟩
    · rw [← e (a + b) (by omega), ← e a (by omega), ← e b (by omega)]; exact a3
    · rw [← e (x + y) (by omega), ← e x (by omega), ← e y (by omega)]; exact a4 x y h1 h2 lt
/-- neither length of the first break is greater than the number of values -/
theorem first_le {f : Int → Int} {n p g a b : Int} (R : Rep f n p g) (hp : 0 < p) (hpn : p ≤ n) (F : First f (some (a, b))) : b ≤ n := by
  obtain ⟨a1, a2, a3, a4⟩ := F
  by_cases c : b ≤ n
  · exact c
  exfalso
  have r1 := R b (by omega)
  have r2 := R (a + b) (by omega)
  by_cases z : a ≤ b - p
  · have := a4 a (b - p) a1 z (.inl (by omega))
    rw [show a + (b - p) = a + b - p by omega] at this
    omega
  · have := a4 (b - p) a (by omega) (by omega) (.inl (by omega))
    rw [show b - p + a = a + b - p by omega] at this
    omega
/-- a function later by n -/
def laterF (f : Int → Int) (n : Int) (t : Int) : Int := if t ≤ n then 0 else f (t - n)
theorem later_vals {f : Int → Int} {n m : Nat} : List.replicate n (0 : Int) ++ vals f m = vals (laterF f n) (n + m) := by
  refine List.ext_getElem? fun i => ?_
  by_cases h : i < n
  · rw [List.getElem?_append_left (by rw [List.length_replicate]; exact h), List.getElem?_replicate, if_pos h]
    unfold vals
    rw [List.getElem?_map, List.getElem?_range (by omega)]
    show some (0 : Int) = some (laterF f n ((i : Int) + 1))
    unfold laterF
    rw [if_pos (by omega)]
  · rw [List.getElem?_append_right (by rw [List.length_replicate]; omega), List.length_replicate]
    unfold vals
    by_cases c : i < n + m
    · rw [List.getElem?_map, List.getElem?_map, List.getElem?_range (by omega), List.getElem?_range (by omega)]
      show some (f (((i - n : Nat) : Int) + 1)) = some (laterF f n ((i : Int) + 1))
      unfold laterF
      rw [if_neg (by omega), show ((i - n : Nat) : Int) + 1 = (i : Int) + 1 - n by omega]
    · rw [List.getElem?_eq_none (by simp; omega), List.getElem?_eq_none (by simp; omega)]
theorem later_rep {f : Int → Int} {n m p g : Int} (R : Rep f m p g) (hp : 0 < p) (hpm : p ≤ m) (hn : 0 ≤ n) (h0 : f 0 = 0) : Rep (laterF f n) (n + m) p g := by
  intro t ht
  unfold laterF
  by_cases c : t - p ≤ n
  · rw [if_neg (by omega), if_pos c]
    have := R (t - n) (by omega)
    rw [show t - n - p = 0 by omega, h0] at this
    exact this
  · rw [if_neg (by omega), if_neg c, R (t - n) (by omega), show t - n - p = t - p - n by omega]
theorem later_zero {f : Int → Int} {n : Int} (hn : 0 ≤ n) : laterF f n 0 = 0 := by unfold laterF; rw [if_pos hn]
theorem vals_self {cs : List Int} {p g : Int} : vals (cvAt cs p g) cs.length = cs := by
  refine List.ext_getElem? fun i => ?_
  unfold vals
  by_cases h : i < cs.length
  · rw [List.getElem?_map, List.getElem?_range h, List.getElem?_eq_getElem h]
    show some (cvAt cs p g ((i : Int) + 1)) = _
    rw [cvAt_in (by omega) (by omega), show ((i : Int) + 1 - 1).toNat = i by omega, List.getD_eq_getElem?_getD, List.getElem?_eq_getElem h]
    rfl
  · rw [List.getElem?_eq_none (by simp; omega), List.getElem?_eq_none (by omega)]
/-- zeros in front: the curve later -/
theorem cvAt_later {cs : List Int} {p g : Int} {n : Nat} (hp : 0 < p) (hpn : p ≤ cs.length) {t : Int} (ht : 0 ≤ t) :
    cvAt (List.replicate n 0 ++ cs) p g t = laterF (cvAt cs p g) n t := by
  have e : List.replicate n (0 : Int) ++ cs = vals (laterF (cvAt cs p g) n) (n + cs.length) := by
    rw [← later_vals, vals_self]
  rw [e]
  refine cvAt_vals hp (by omega) (later_zero (by omega)) ?_ t ht
  have := later_rep (n := (n : Int)) (Rep.cvAt (g := g) hp hpn) hp hpn (by omega) cvAt_zero
  rw [show (((n + cs.length : Nat)) : Int) = (n : Int) + cs.length by omega]
  exact this
theorem Rep.times {f : Int → Int} {n p g : Int} (R : Rep f n p g) (hp : 0 < p) (k : Nat) : ∀ t, n + (k : Int) * p < t + p → f t = f (t - k * p) + k * g := by
  induction k with
  | zero => intro t ht; simp
  | succ k ih =>
    intro t ht
    have e1 : ((k + 1 : Nat) : Int) * p = k * p + p := by rw [show ((k + 1 : Nat) : Int) = (k : Int) + 1 by omega, Int.add_mul, Int.one_mul]
    have e2 : ((k + 1 : Nat) : Int) * g = k * g + g := by rw [show ((k + 1 : Nat) : Int) = (k : Int) + 1 by omega, Int.add_mul, Int.one_mul]
    rw [e1] at ht ⊢
    rw [e2, ih t (by omega), R (t - k * p) (by omega), show t - k * p - p = t - (k * p + p) by omega]
    omega
/-- with a multiple of the period -/
theorem Rep.mul {f : Int → Int} {n p g N P : Int} (R : Rep f n p g) (hp : 0 < p) (hd : p ∣ P) (hP : 0 < P) (hN : n - p + P ≤ N) : Rep f N P (g * (P / p)) := by
  intro t ht
  obtain ⟨k, rfl⟩ := hd
  have k0 : 0 < k := by
    by_cases z : 0 < k
    · exact z
    · exfalso
      have := Int.mul_nonpos_of_nonneg_of_nonpos (show 0 ≤ p by omega) (show k ≤ 0 by omega)
      omega
  obtain ⟨m, rfl⟩ : ∃ m : Nat, k = (m : Int) := ⟨k.toNat, by omega⟩
  have := R.times hp m t (by rw [Int.mul_comm p] at hN; omega)
  rw [Int.mul_ediv_cancel_left _ (by omega : p ≠ 0), Int.mul_comm p, this, Int.mul_comm g]
theorem Rep.add {f h : Int → Int} {N P g1 g2 : Int} (R : Rep f N P g1) (S : Rep h N P g2) : Rep (fun t => f t + h t) N P (g1 + g2) := by
  intro t ht
  show f t + h t = f (t - P) + h (t - P) + (g1 + g2)
  rw [R t ht, S t ht]
  omega
end VM

/-! repr of data, or of an empty dict. -/
namespace VZ
open PySem PySem.Spec PyProof.Rows L2
def Dz (K : PySem.W.Frag) (H : Hp) (v : V) (d : PyData) : Prop := Dp K H v d ∨ ∃ a, v = .ref a ∧ H a = some (.dK []) ∧ d = .dict []
def rReprZ (K : PySem.W.Frag) : List V → Hp → VK → Prop := fun xs H Q =>
  ∃ v d, xs = [v] ∧ Dz K H v d ∧ d.showable = true ∧ d.depth ≤ 60 ∧ d.shown.length ≤ sizeLine ∧ Q (.str d.shown) H
theorem empty_show : (PyData.dict []).showable = true ∧ (PyData.dict []).depth ≤ 60 ∧ (PyData.dict []).shown.length ≤ sizeLine := ⟨rfl, by decide, by decide⟩
theorem call_reprZ {X : Cx} (hg : X.A.guards = some []) (hu : X.A.units + 64 < cLine) : CallR X (.builtin "repr") (rReprZ X.K) := by
  intro pins s σ H xs us Q I r h
  obtain ⟨v, d, rfl, hd, hs, hdep, hz, q⟩ := h
  rcases hd with hd | ⟨a, rfl, ha, rfl⟩
  · exact VG.call_repr hg hu pins s σ H _ us Q I r ⟨v, d, rfl, hd, hs, hdep, hz, q⟩
  · obtain ⟨u, rfl, rv⟩ := vals1 r
    cases rv
    obtain ⟨_, ns, vs, kv, o, es, ep, e1, e2, e3, e4, e5, e6⟩ := (show ObjOk X.prog X.w H s.heap a (.dK []) from I.hok a _ ha)
    cases kv
    have e0 : es.toList = [] := by
      cases h : es.toList with
      | nil => rfl
      | cons z zs => rw [h] at e5; cases e5
    have rd : Reads s.heap (.ref a) (.dict []) (a :: [] ++ []) := Reads.dict (es := es) e1 e2.1 e3 (by rw [e0]; exact .nil) (by rw [e0]; exact .nil)
    have keep : ∀ (h' : Heap) (t' : Nat), (∀ b o, s.heap.get? b = some o → h'.get? b = some o) → Inv X pins σ H { s with heap := h', toks := t' } :=
      fun h' t' k => I.kept (t' := t') k
    exact repr_of_reads' rd hs (fun _ m => by simp at m; subst m; simp at ns) hg (by omega) (fun _ _ e => e) (fun h' w tk k => ⟨.str _, H, keep h' tk k, ⟨_, rfl⟩, q⟩) hz
end VZ

/-! A method of an own class that may raise, called where errors are caught. -/
namespace VX
open PySem PySem.Spec PyProof.Rows L2
/-- a statement behind which nothing comes -/
def tStop (t : TS) : TS := fun D σ H => t { D with nx := fun _ _ => False } σ H
theorem pss_stop {X : Cx} {st : Stmt} {more : List Stmt} {t : TS} (h1 : PS X st t) : PSs X (st :: more) (tStop t) := by
  constructor
  intro pins s σ H D I hm
  refine wpAny_execs_cons (thn (h1.run pins s σ H _ I hm) ?_)
  intro fl s1 q
  match fl, q with
  | .next, ⟨σ', H', I', q⟩ => exact q.elim
  | .ret v, q => exact q
  | .brk, q => exact q
  | .cont, q => exact q
def tMethS (C : Addr) (m : Str) (sp : Sp) (E : L2.St → XK) (ta : TE) (t : TA) : TE := fun σ H Q => ta σ H fun x H1 => ∃ a dx fs, x = .ref a ∧ H1 a = some (.ins C dx fs) ∧ fs.lookup m = none ∧ t σ H1 fun vs H2 => sp (x :: vs) H2 Q (E σ)
theorem pe_fldK {X : Cx} {K' : PySem.W.Frag} {e : Expr} {ta : TE} {f : Str} {pos : Pos} (he : PE X e ta) (hb : attributeBase e f X.env (eval e X.env) = eval e X.env) (hK : X.K = K') : PE X (.Attribute e f pos) (tFld K' ta f) := by
  subst hK
  exact pe_fld he hb
section
variable {X : Cx} {CX : CXT} {k : Nat} {f C : Addr} {fd : FuncData} {ps : List Str} {sp : Sp} {E : L2.St → XK} {x m : Str} {p pos apos : Pos} {e o : Expr} {es : List Expr} {ta : TE} {t : TA}
theorem pe_methS {pl : Sem Bool} (he : PE X o ta) (c : Cls X.K C) (hm : Meth X.K C m f) (F : FnOk X.prog X.w X.K X.mg X.base CX k f fd ps sp) (hr : Room k X.A) (hb : Binds X.K fd ps []) (hx : ∀ σ, PassesAt CX X σ (E σ)) (ha : PA X (e :: es) t)
    (hst : starEach (e :: es) X.env = (false, eval e X.env) :: starEach es X.env := by rfl) (hpl : (backTo pos (starEach es X.env)).any (·.1) = false := by rfl)
    (ht : eval (.Call (.Attribute o m apos) (e :: es) [] pos) X.env = (do
      let ov ← eval o X.env
      standAt apos.atName
      let (f, first) ← holding [ov] (getMethod ov m pl)
      callWith pos f first (backTo pos (starEach (e :: es) X.env)) (backToKw pos (keywordEach [] X.env))) := by rfl) :
    PE X (.Call (.Attribute o m apos) (e :: es) [] pos) (tMethS C m sp E ta t) := by
  refine ⟨fun pins s σ H Q I h => ?_⟩
  refine PySem.W.methodCall_KW (pl := pl) (thn (he.run pins s σ H _ I h) fun u s1 ⟨x, H1, I1, rx, a, dx, fs, ex, ea, l, q⟩ => ?_) ht
  subst ex
  obtain rfl : u = Value.ref a := rx
  refine getmeth_ok I1 ea c hm l ?_
  refine PySem.W.callWith_K (first := [.ref a]) (h₀ := X.base) I.ok.mod.kin hm.kp (thn (ha.run pos pins s1 σ H1 _ I1 q) fun us s2 ⟨vs, H2, I2, r, q2⟩ => ⟨I2.kIn, ?_⟩) hst hpl
  exact run_fnS (us := .ref a :: us) (vs := .ref a :: vs) F hr hb (hx σ) I2 (.cons rfl r) q2
end
end VX

/-! The least length with something, of a function that repeats. -/
namespace VM
/-- the least length from lo on where h is positive, or that there is none -/
def LeastR (h : Int → Int) (lo : Int) : Option Int → Prop
  | none => ∀ t : Int, lo ≤ t → h t ≤ 0
  | some t => lo ≤ t ∧ 0 < h t ∧ ∀ s : Int, lo ≤ s → s < t → h s ≤ 0
theorem LeastR.uniq {h : Int → Int} {lo : Int} {o o' : Option Int} (a : LeastR h lo o) (b : LeastR h lo o') : o = o' := by
  cases o with
  | none =>
    cases o' with
    | none => rfl
    | some t => have := a t b.1; have := b.2.1; omega
  | some s =>
    cases o' with
    | none => have := b s a.1; have := a.2.1; omega
    | some t =>
      by_cases c : s < t
      · have := b.2.2 s a.1 c; have := a.2.1; omega
      · by_cases c2 : t < s
        · have := a.2.2 t b.1 c2; have := b.2.1; omega
        · rw [show s = t by omega]
theorem least_ex (h : Int → Int) (lo : Int) : ∃ o, LeastR h lo o := by
  by_cases c : ∃ n : Nat, 0 < h (lo + n)
  · obtain ⟨n, hn, no⟩ := least_nat c
    refine ⟨some (lo + n), by omega, hn, fun s h1 h2 => ?_⟩
    have := no (s - lo).toNat (by omega)
    rw [show lo + ((s - lo).toNat : Int) = s by omega] at this
    omega
  · refine ⟨none, fun t ht => ?_⟩
    by_cases z : 0 < h t
    · exact absurd ⟨(t - lo).toNat, by rw [show lo + ((t - lo).toNat : Int) = t by omega]; exact z⟩ c
    · omega
theorem filt_none {P : Nat → Bool} : ∀ {n : Nat}, (∀ i, i < n → P i = false) → (List.range n).filter P = []
  | n, h => by
    rw [List.filter_eq_nil_iff]
    intro i hi
    rw [h i (List.mem_range.mp hi)]
    decide
theorem filt_some {P : Nat → Bool} {t : Nat} (ht : P t = true) (no : ∀ i, i < t → P i = false) : ∀ {n : Nat}, t < n → ∃ ys, (List.range n).filter P = t :: ys := by
  intro n
  induction n with
  | zero => intro h; omega
  | succ n ih =>
    intro h
    rw [List.range_succ, List.filter_append]
    by_cases c : t < n
    · obtain ⟨ys, e⟩ := ih c
      rw [e]
      exact ⟨_, rfl⟩
    · have e : t = n := by omega
      subst e
      rw [filt_none no]
      refine ⟨[], ?_⟩
      simp [List.filter, ht]
theorem LeastR.congr {h k : Int → Int} {lo : Int} {o : Option Int} (e : ∀ t : Int, lo ≤ t → h t = k t) (a : LeastR h lo o) : LeastR k lo o := by
  cases o with
  | none => exact fun t ht => by rw [← e t ht]; exact a t ht
  | some t => exact ⟨a.1, by rw [← e t a.1]; exact a.2.1, fun s hs hst => by rw [← e s hs]; exact a.2.2 s hs hst⟩
/-- each length behind n is one of the last period and some periods more -/
theorem last_of {n p t : Int} (hp : 0 < p) (ht : n < t) : ∃ (l : Int) (k : Nat), 1 ≤ k ∧ n - p < l ∧ l ≤ n ∧ t = l + k * p := by
  obtain ⟨r1, r2, r3⟩ := rounds_spec hp ht
  refine ⟨t - (t - n + p - 1) / p * p, ((t - n + p - 1) / p).toNat, by omega, by omega, by omega, ?_⟩
  rw [Int.toNat_of_nonneg (by omega)]
  omega
theorem Rep.at_ {h : Int → Int} {n p G l : Int} (R : Rep h n p G) (hp : 0 < p) (h1 : n - p < l) (k : Nat) : h (l + k * p) = h l + k * G := by
  have := R.times hp k (l + k * p) (by omega)
  rw [show l + (k : Int) * p - k * p = l by omega] at this
  exact this
theorem least_none {h : Int → Int} {n p G lo : Int} (R : Rep h n p G) (hp : 0 < p) (hlo : lo ≤ n - p + 1) (hG : G ≤ 0) (no : ∀ t : Int, lo ≤ t → t ≤ n → h t ≤ 0) : LeastR h lo none := by
  intro t ht
  by_cases c : t ≤ n
  · exact no t ht c
  · obtain ⟨l, k, k1, l1, l2, rfl⟩ := last_of (n := n) hp (show n < t by omega)
    rw [R.at_ hp l1 k]
    have := no l (by omega) l2
    have := Int.mul_nonpos_of_nonneg_of_nonpos (show (0 : Int) ≤ k by omega) hG
    omega
/-- when a length of the last period comes up -/
def candM (h : Int → Int) (p G l : Int) : Int := l + p * (-(h l) / G + 1)
theorem least_min {h : Int → Int} {n p G lo m : Int} (R : Rep h n p G) (hp : 0 < p) (hlo : lo ≤ n - p + 1) (hG : 0 < G) (no : ∀ t : Int, lo ≤ t → t ≤ n → h t ≤ 0)
    (hm : ∃ l : Int, n - p < l ∧ l ≤ n ∧ m = candM h p G l) (hx : ∀ l : Int, n - p < l → l ≤ n → m ≤ candM h p G l) : LeastR h lo (some m) := by
  obtain ⟨l, l1, l2, rfl⟩ := hm
  have hl := no l (by omega) l2
  have q0 : 0 ≤ -(h l) / G := Int.ediv_nonneg (by omega) (by omega)
  have e : candM h p G l = l + ((-(h l) / G + 1).toNat : Nat) * p := by
    unfold candM
    rw [Int.toNat_of_nonneg (by omega), Int.mul_comm]
  have pos : 0 < p * (-(h l) / G + 1) := Int.mul_pos hp (by omega)
  refine ⟨by unfold candM; omega, ?_, fun s hs hst => ?_⟩
  · rw [e, R.at_ hp l1, Int.toNat_of_nonneg (by omega)]
    have := Int.lt_ediv_add_one_mul_self (-(h l)) hG
    omega
  · by_cases c : s ≤ n
    · exact no s hs c
    · obtain ⟨l', k, k1, l1', l2', rfl⟩ := last_of (n := n) hp (show n < s by omega)
      rw [R.at_ hp l1' k]
      by_cases z : h l' + k * G ≤ 0
      · exact z
      · exfalso
        have hl' := no l' (by omega) l2'
        have x := hx l' l1' l2'
        have ge : -(h l') / G + 1 ≤ k := by
          have : -(h l') / G < k := Int.ediv_lt_of_lt_mul hG (by omega)
          omega
        have m1 := Int.mul_le_mul_of_nonneg_left ge (show 0 ≤ p by omega)
        unfold candM at x hst
        rw [Int.mul_comm (k : Int) p] at hst
        omega
/-- it comes within the first lengths, where each dozen more adds nothing -/
theorem least_low {h : Int → Int} {N P D lo t : Int} (R : Rep h N P D) (hP : 0 < P) (hlo : lo ≤ N + 1 - P) (hD : D ≤ 0) (F : LeastR h lo (some t)) : t ≤ N := by
  by_cases c : t ≤ N
  · exact c
  · exfalso
    have r := R t (by omega)
    have := F.2.2 (t - P) (by omega) (by omega)
    have := F.2.1
    omega
theorem least_high {h : Int → Int} {N P D lo t : Int} (R : Rep h N P D) (hP : 0 < P) (hlo : lo ≤ N) (hD : 1 ≤ D) (k : Nat) (hk : 1 ≤ h N + k) (F : LeastR h lo (some t)) : t ≤ N + k * P := by
  by_cases c : t ≤ N + k * P
  · exact c
  · exfalso
    have r := R.at_ hP (show N - P < N by omega) k
    have k2 := Int.mul_le_mul_of_nonneg_left hD (show (0 : Int) ≤ k by omega)
    have k3 := Int.mul_nonneg (show (0 : Int) ≤ k by omega) (show (0 : Int) ≤ P by omega)
    have := F.2.2 (N + k * P) (by omega) (by omega)
    omega
/-- the sum of some curves that are later -/
structure RowD where
  xs : List Int
  p : Int
  g : Int
  k : Nat
def rowF (r : RowD) (t : Int) : Int := laterF (cvAt r.xs r.p r.g) r.k t
def sumF : List RowD → Int → Int
  | [], _ => 0
  | r :: rs, t => rowF r t + sumF rs t
def dozM : List RowD → Int
  | [] => 0
  | r :: rs => r.g * (12 / r.p) + dozM rs
structure RowD.Ok (r : RowD) : Prop where
  p0 : 0 < r.p
  pn : r.p ≤ r.xs.length
  dv : r.p ∣ 12
theorem sum_rep : ∀ {rs : List RowD} {N : Int}, (∀ r ∈ rs, r.Ok) → (∀ r ∈ rs, (r.xs.length : Int) + r.k + 12 ≤ N) → Rep (sumF rs) N 12 (dozM rs)
  | [], N, _, _ => fun t _ => by simp [sumF, dozM]
  | r :: rs, N, h, hN => by
    have o := h r (List.mem_cons_self ..)
    have b := hN r (List.mem_cons_self ..)
    have R1 := (later_rep (n := (r.k : Int)) (Rep.cvAt (g := r.g) o.p0 o.pn) o.p0 o.pn (by omega) cvAt_zero).mul (N := N) o.p0 o.dv (by decide) (by have := o.p0; omega)
    exact R1.add (sum_rep (fun x hx => h x (List.mem_cons_of_mem _ hx)) (fun x hx => hN x (List.mem_cons_of_mem _ hx)))
end VM

/-! for i, x in enumerate(xs, start=k) -/
namespace VE
open PySem PySem.Spec PyProof.Rows L2
/-- k, k + 1, .. with the list at a (n items, which the loop leaves there), in new pairs -/
def Itk (K : PySem.W.Frag) (a : Addr) (n : Nat) (k : Int) : It :=
  ⟨fun i H => i < n ∧ ∃ xs : List V, SqL K H a xs ∧ xs.length = n, fun i H v H' => ∃ T x, v = .ref T ∧ H T = none ∧ H' = upd H T (.tup [.int (k + (i : Nat)), x]) ∧ ∀ xs, SqL K H a xs → xs[i]? = some x,
    fun i H => n ≤ i ∧ ∃ xs : List V, SqL K H a xs ∧ xs.length = n⟩
theorem turn_enumK {P : Program} {w : World} {K : PySem.W.Frag} {elts : List Expr} {kk : Nat} {tpos : Pos} (a e it : Addr) (n : Nat) (k : Int) (hai : a ≠ it) (hei : e ≠ it) (hea : e ≠ a) :
    Turn P w K (.Tuple elts kk tpos) (Itk K a n k) [e, it] e (fun i h => (∃ old, IsEnum h e it (k + (i : Nat)) old) ∧ i ≤ n ∧ h.IsListIter it a i) where
  mem := by simp
  obj := fun i h st b hb => by
    obtain ⟨⟨old, he⟩, _, o, ho, hc, hd⟩ := st
    have e' : b = e ∨ b = it := by simpa using hb
    rcases e' with z | z
    · rw [z]; exact ⟨_, he, fun v q => nomatch q⟩
    · rw [z]; exact ⟨o, ho, fun v q => by rw [hd] at q; cases q⟩
  keep := fun i h h' st kp => let ⟨⟨old, he⟩, hn, hi⟩ := st; ⟨⟨old, kp e (by simp) _ he⟩, hn, hi.at fun o q => kp it (by simp) o q⟩
  item := by
    intro X hP hw hK hc i pins s σ H E I hf st hg
    subst hP hw hK
    obtain ⟨⟨old, he⟩, hin, hit⟩ := st
    obtain ⟨hlt, xs, hq, hl⟩ := hg
    have hx : xs[i]? = some (xs[i]'(by omega)) := List.getElem?_eq_getElem (by omega)
    obtain ⟨its, rv, p, hz⟩ := I.list hq
    have hh : X.A.in1.handled = none := I.ok.hd hc
    have hel : e < s.heap.objs.size := Heap.lt_size he
    have hil : it < s.heap.objs.size := by obtain ⟨_, q, _⟩ := hit; exact Heap.lt_size q
    obtain ⟨u', hu', ru⟩ := rv.get hx
    have hn : its.toArray.size = n := by rw [List.size_toArray, ← rv.length]; exact hl
    have D := Draws.list (prog := X.prog) (w := X.w) (A := X.A.in1) hh it a hai its.toArray
    rw [hn] at D
    refine wpAny_pyNext_enum_itemC D he ⟨hit, p.isList⟩ hlt hei (by simp [hei, hea]) fun u h' tk hP ho hs' hT hsz hkp => ?_
    obtain ⟨hit', _⟩ := hs'
    have hP' : its[i]? = some u := by simpa using hP
    have euu : u' = u := by rw [hP'] at hu'; exact (Option.some.inj hu').symm
    subst euu
    refine ⟨_, rfl, wpAny_letOwnedTupleGo_enum (s := { s with heap := h', toks := tk + 1 }) ho fun h'' he' sb => ?_⟩
    have hT2 : h''.get? s.heap.objs.size = some { cls := .type "tuple", data := .seq #[.int (k + (i : Nat)) tk, u'] } := (sb.2 _ (Nat.ne_of_gt hel)).trans hT
    have new : ObjOk X.prog X.w (upd H s.heap.objs.size (.tup [.int (k + (i : Nat)), xs[i]'(by omega)])) h'' s.heap.objs.size (.tup [.int (k + (i : Nat)), xs[i]'(by omega)]) :=
      ⟨by show 2 ≤ sizeLine; decide, [.int (k + (i : Nat)) tk, u'], .cons ⟨_, rfl⟩ (.cons ru .nil), ⟨_, hT2, rfl, _, rfl⟩⟩
    have I1 : Inv X pins σ (upd H s.heap.objs.size (.tup [.int (k + (i : Nat)), xs[i]'(by omega)])) { s with heap := h'', toks := tk + 1 } :=
      I.turnedNew (ch := [e, it]) (fun b ob hb q => (sb.2 b (fun z => hb (by simp [z]))).trans (hkp b ob (fun z => hb (by simp [z])) (fun z => hb (by simp [z])) q)) hf (Nat.le_refl _) new
    refine ⟨.ref s.heap.objs.size, _, I1, rfl, ⟨_, _, rfl, I.hok.fresh (Nat.le_refl _), rfl, fun ys hy => by rw [I.list_inj hy hq]; exact hx⟩, ⟨⟨u', ?_⟩, hlt, hit'.at fun o q => (sb.2 it (Ne.symm hei)).trans q⟩, fun b hb => ?_⟩
    · have e1 : k + ((i + 1 : Nat) : Int) = k + (i : Int) + 1 := by omega
      rw [e1]; exact he'
    · have hb' : b < s.heap.objs.size := by
        have e' : b = e ∨ b = it := by simpa using hb
        rcases e' with z | z
        · rw [z]; exact hel
        · rw [z]; exact hil
      rw [upd_ne (Nat.ne_of_lt hb')]
      exact (hf b hb).1
  done := by
    intro X hP hw hK hc i pins s σ H E I hf st hg
    subst hP hw hK
    obtain ⟨⟨old, he⟩, hin, hit⟩ := st
    obtain ⟨hge, xs, hq, hl⟩ := hg
    obtain ⟨its, rv, p, hz⟩ := I.list hq
    have hn : its.toArray.size = n := by rw [List.size_toArray, ← rv.length]; exact hl
    have hh : X.A.in1.handled = none := I.ok.hd hc
    obtain ⟨f0, f1, f2, f3, f4, f5⟩ := hf it (by simp)
    have D := Draws.list (prog := X.prog) (w := X.w) (A := X.A.in1) hh it a hai its.toArray
    rw [hn] at D
    have ei : i = n := by omega
    subst ei
    exact wpAny_pyNext_enum_endD D he ⟨hit, p.isList⟩ fun h' eb => ⟨rfl, I.turned (t' := s.toks) (fun b o hb q => eb b o hb q) f0 f1 f3 f4 f5⟩
  self := fun A i s Q E st h => let ⟨⟨_, he⟩, _⟩ := st; wpAny_pyIter_enum he h
theorem walk_enumK {K : PySem.W.Frag} {a : Addr} {xs : List V} {k : Int} : Walk (Itk K a xs.length k) xs.length (fun H => SqL K H a xs) (YPair (fun i => some (.int (k + (i : Nat)))) (fun i => xs[i]?)) := by
  refine ⟨fun i _ hi q => ⟨hi, xs, q, rfl⟩, fun _ q => ⟨Nat.le_refl _, xs, q, rfl⟩, fun i H v H' _ q y => ?_⟩
  obtain ⟨T, x, h1, h2, h3, h4⟩ := y
  exact ⟨T, .int (k + (i : Nat)), x, h1, h2, h3, rfl, h4 xs q⟩
def iEnumK (K : PySem.W.Frag) (ta : TA) (k : Int) : TI := fun σ H R => ta σ H fun vs H1 => ∃ (a : Addr) (xs : List V), vs = [.ref a] ∧ SqL K H1 a xs ∧ R (Itk K a xs.length k) H1
theorem pi_enumK {X : Cx} {e : Expr} {ta : TA} {p pos kp jp tpos : Pos} {j : Nat} {k : Int} {elts : List Expr} {kk : Nat} (hk0 : -(2 ^ 63) ≤ k) (hk1 : k < 2 ^ 63) (hg : Gl X "enumerate") (hm : X.mg "enumerate" = none) (ha : PA X [e] ta)
    (hs : starEach [e] X.env = (false, eval e X.env) :: starEach [] X.env := by rfl)
    (hst : ∀ q, (backTo q (starEach [e] X.env)).any (·.1) = false := by exact fun _ => rfl) :
    PI X (.Tuple elts kk tpos) (.Call (.Name "enumerate" p) [e] [⟨some "start", .Constant (.int k) j jp, kp⟩] pos) (iEnumK X.K ta k) := by
  refine ⟨fun pins s σ H R I h => ?_⟩
  refine Call_kws (ld_blt I hg hm boot_enumerate (callWith_typeKw rfl ?_ (by rw [hst]; rfl) hs))
  refine thn (ha.run pos pins s σ H _ I h) fun us s1 ⟨vs, H1, I1, r1, q1⟩ => ?_
  obtain ⟨a, xs, ex, hq, q⟩ := q1
  subst ex
  cases r1 with
  | cons r rr =>
    cases rr
    cases r
    obtain ⟨its, rv, p', hz⟩ := I1.list hq
    have hal : a < s1.heap.objs.size := by obtain ⟨_, _, z, _⟩ := p'; exact Heap.lt_size z
    refine kws_cons (wpAny_Constant_int (kws_nil ?_))
    refine enum_begins_start (begins_list a its.toArray) p'.isList hk0 hk1 fun h' he hit hsz hkp => wpAny_pyIter_enum he ?_
    have I2 : Inv X pins σ H1 { s1 with heap := h', toks := s1.toks + 1 } := I1.kept hkp
    refine ⟨s1.heap.objs.size + 1, [s1.heap.objs.size + 1, s1.heap.objs.size], _, _, H1, rfl, I2, turn_enumK a (s1.heap.objs.size + 1) s1.heap.objs.size xs.length k (Nat.ne_of_lt hal) (Nat.succ_ne_self _) (Nat.ne_of_gt (Nat.lt_succ_of_lt hal)), ⟨⟨.none, ?_⟩, Nat.zero_le _, ⟨_, hit, rfl, rfl⟩⟩, fun b hb => ?_, q⟩
    · rw [show k + ((0 : Nat) : Int) = k by omega]; exact he
    · have e' : b = s1.heap.objs.size + 1 ∨ b = s1.heap.objs.size := by simpa using hb
      have hle : s1.heap.objs.size ≤ b := by
        rcases e' with z | z
        · rw [z]; exact Nat.le_add_right _ _
        · rw [z]; exact Nat.le_refl _
      exact I1.fpOk hle (I1.hok.fresh hle)
end VE

/-! Curves with the same values have the same form. -/
namespace VM
theorem Rep.congr {f h : Int → Int} {n p g : Int} (e : ∀ t : Int, 0 ≤ t → f t = h t) (hp : 0 < p) (hpn : p ≤ n) (R : Rep f n p g) : Rep h n p g := fun t ht => by
  rw [← e t (by omega), ← e (t - p) (by omega)]; exact R t ht
theorem Rep.weak {f : Int → Int} {n m p g : Int} (R : Rep f n p g) (h : n ≤ m) : Rep f m p g := fun t ht => R t (by omega)
/-- from somewhere on each d further lengths add the same -/
def Per (f : Int → Int) (d : Nat) : Prop := 0 < d ∧ ∃ N s : Int, Rep f N d s
theorem rep_gain {f : Int → Int} {n m p g e : Int} (R : Rep f n p g) (S : Rep f m p e) : g = e := by
  by_cases c : n ≤ m
  · have a := R (m + 1) (by omega)
    have b := S (m + 1) (by omega)
    omega
  · have a := R (n + 1) (by omega)
    have b := S (n + 1) (by omega)
    omega
/-- the least one divides each -/
theorem per_dvd' {f : Int → Int} {d : Nat} (D : Per f d) (no : ∀ c, Per f c → d ≤ c) {p : Nat} (P : Per f p) : d ∣ p := by
  by_cases z : p % d = 0
  · exact Nat.dvd_of_mod_eq_zero z
  exfalso
  obtain ⟨d0, N, s, R⟩ := D
  obtain ⟨p0, M, g, S⟩ := P
  have lt := Nat.mod_lt p d0
  have eq := Nat.div_add_mod p d
  have hc : Per f (p % d) := by
    refine ⟨by omega, max (N + (p / d : Nat) * (d : Int) + p) M, g - (p / d : Nat) * s, fun t ht => ?_⟩
    have a := S t (by omega)
    have b := R.times (by omega) (p / d) (t - ((p % d : Nat) : Int)) (by omega)
    have e2 : ((p / d : Nat) : Int) * (d : Int) + ((p % d : Nat) : Int) = (p : Int) := by
      have : d * (p / d) + p % d = p := eq
      rw [Nat.mul_comm] at this
      exact_mod_cast this
    rw [show t - ((p % d : Nat) : Int) - ((p / d : Nat) : Int) * (d : Int) = t - p by omega] at b
    omega
  have := no _ hc
  omega
theorem steps_of {f : Int → Int} {n p d s : Int} (h : ∀ t : Int, n < t → t ≤ n + p → f t = f (t - d) + s) : stepsEq f n p d = true := by
  unfold stepsEq
  rw [List.all_eq_true]
  intro i hi
  have hi := List.mem_range.mp hi
  have a := h (n + 1 + i) (by omega) (by omega)
  have b := h (n + 1) (by omega) (by omega)
  exact decide_eq_true (by omega)
/-- what holds from somewhere on holds behind n -/
theorem per_now {f : Int → Int} {n p g N d s : Int} (R : Rep f n p g) (hp : 0 < p) (S : Rep f N d s) (hd : 0 < d) (hdp : d ≤ p) : Rep f n d s := by
  intro t ht
  obtain ⟨k, hk⟩ : ∃ k : Nat, N < t + (k : Int) * p := by
    refine ⟨(N - t + 1).toNat, ?_⟩
    have := Int.mul_le_mul_of_nonneg_left (show (1 : Int) ≤ p by omega) (show (0 : Int) ≤ ((N - t + 1).toNat : Int) by omega)
    omega
  have a := R.times hp k (t + k * p) (by omega)
  have b := R.times hp k (t - d + k * p) (by omega)
  have c := S (t + k * p) hk
  rw [show t + (k : Int) * p - k * p = t by omega] at a
  rw [show t - d + (k : Int) * p - k * p = t - d by omega] at b
  rw [show t + (k : Int) * p - d = t - d + k * p by omega] at c
  omega
theorem leastFrom_is {f : Int → Int} {n p g : Int} {d : Nat} (R : Rep f n p g) (hp : 0 < p) (D : Per f d) (no : ∀ c, Per f c → d ≤ c) (dv : (d : Int) ∣ p) : ∀ (k : Nat) (c : Int), 0 < c → c + k = p → c ≤ d → (leastFrom f n p k c).1 = d
  | 0, c, hc, e, hcd => by
    have := Int.le_of_dvd hp dv
    unfold leastFrom
    show p = d
    omega
  | k + 1, c, hc, e, hcd => by
    have dp := Int.le_of_dvd hp dv
    unfold leastFrom
    by_cases z : p % c = 0 ∧ stepsEq f n p c = true
    · rw [if_pos z]
      have pc : Per f c.toNat := ⟨by omega, n, _, by rw [Int.toNat_of_nonneg (by omega)]; exact R.of_steps hc (by omega) z.2⟩
      have := no _ pc
      show c = d
      omega
    · rw [if_neg z]
      refine leastFrom_is R hp D no dv k (c + 1) (by omega) (by omega) ?_
      by_cases y : c = d
      · exfalso
        apply z
        subst y
        obtain ⟨d0, N, s, S⟩ := D
        exact ⟨Int.emod_eq_zero_of_dvd dv, steps_of fun t h1 h2 => per_now R hp S (by omega) dp t h1⟩
      · omega
theorem shr_min {f : Int → Int} {d s : Int} : ∀ m : Nat, shr f d s m = 0 ∨ (shr f d s m : Int) ≤ d ∨ f (shr f d s m) ≠ f ((shr f d s m : Nat) - d) + s
  | 0 => .inl rfl
  | m + 1 => by
    unfold shr
    by_cases c : d < (m + 1 : Nat) ∧ f ((m + 1 : Nat) : Int) = f ((m + 1 : Nat) - d) + s
    · rw [if_pos c]; exact shr_min m
    · rw [if_neg c]
      refine .inr ?_
      by_cases z : ((m + 1 : Nat) : Int) ≤ d
      · exact .inl z
      · exact .inr fun y => c ⟨by omega, y⟩
theorem shr_uniq {f : Int → Int} {d s : Int} (hd : 0 < d) {m k : Nat} (h1 : d ≤ m) (h2 : d ≤ k) (R : Rep f m d s) (S : Rep f k d s) : shr f d s m = shr f d s k := by
  obtain ⟨a1, a2, a3⟩ := shr_spec hd m h1 R
  obtain ⟨b1, b2, b3⟩ := shr_spec hd k h2 S
  have m1 := shr_min (f := f) (d := d) (s := s) m
  have m2 := shr_min (f := f) (d := d) (s := s) k
  by_cases c : shr f d s m < shr f d s k
  · exfalso
    rcases m2 with h | h | h
    · omega
    · omega
    · exact h (a3 _ (by omega))
  · by_cases c2 : shr f d s k < shr f d s m
    · exfalso
      rcases m1 with h | h | h
      · omega
      · omega
      · exact h (b3 _ (by omega))
    · omega
theorem shr_cong {f h : Int → Int} {d s : Int} (e : ∀ t : Int, 0 ≤ t → f t = h t) : ∀ m : Nat, shr f d s m = shr h d s m
  | 0 => rfl
  | m + 1 => by
    unfold shr
    by_cases c : d < (m + 1 : Nat)
    · rw [e _ (by omega), e ((m + 1 : Nat) - d) (by omega), shr_cong e m]
    · rw [if_neg (fun z => c z.1), if_neg (fun z => c z.1)]
/-- curves with the same values have the same form -/
theorem form_unique {vs ws : List Int} {p g q e : Int} (hp : 0 < p) (hpn : p ≤ vs.length) (hq : 0 < q) (hqn : q ≤ ws.length) (eq : ∀ t : Int, 0 ≤ t → cvAt vs p g t = cvAt ws q e t) :
    formP vs p g = formP ws q e ∧ formV vs p g = formV ws q e := by
  have R : Rep (cvAt vs p g) vs.length p g := Rep.cvAt hp hpn
  have S : Rep (cvAt ws q e) ws.length q e := Rep.cvAt hq hqn
  have S' : Rep (cvAt vs p g) ws.length q e := S.congr (fun t ht => (eq t ht).symm) hq hqn
  have Pp : Per (cvAt vs p g) p.toNat := ⟨by omega, _, _, by rw [Int.toNat_of_nonneg (by omega)]; exact R⟩
  have Pq : Per (cvAt vs p g) q.toNat := ⟨by omega, _, _, by rw [Int.toNat_of_nonneg (by omega)]; exact S'⟩
  obtain ⟨d, D, no⟩ := least_nat ⟨p.toNat, Pp⟩
  have no' : ∀ c, Per (cvAt vs p g) c → d ≤ c := fun c hc => by
    by_cases z : d ≤ c
    · exact z
    · exact absurd hc (no c (by omega))
  have toI : ∀ {x : Int}, 0 < x → d ∣ x.toNat → (d : Int) ∣ x := fun {x} hx h => by
    have := Int.natCast_dvd_natCast.mpr h
    rwa [Int.toNat_of_nonneg (by omega)] at this
  have dvp := toI hp (per_dvd' D no' Pp)
  have dvq := toI hq (per_dvd' D no' Pq)
  have D' : Per (cvAt ws q e) d := by
    obtain ⟨d0, N, s, T⟩ := D
    have dq := Int.le_of_dvd hq dvq
    exact ⟨d0, ws.length, s, (per_now S' hq T (by omega) dq).congr eq (by omega) (by omega)⟩
  have no2 : ∀ c, Per (cvAt ws q e) c → d ≤ c := fun c hc => by
    obtain ⟨c0, N, s, T⟩ := hc
    refine no' c ⟨c0, max N c, s, Rep.congr (fun t ht => (eq t ht).symm) (by omega) (by omega) (T.weak (by omega))⟩
  have e1 : (formP vs p g).1 = d := leastFrom_is R hp D no' dvp _ 1 (by omega) (by omega) (by have := D.1; omega)
  have e2 : (formP ws q e).1 = d := leastFrom_is S hq D' no2 dvq _ 1 (by omega) (by omega) (by have := D.1; omega)
  obtain ⟨a1, a2, a3⟩ := leastP_spec R hp
  obtain ⟨b1, b2, b3⟩ := leastP_spec S hq
  have a3 : Rep (cvAt vs p g) vs.length (formP vs p g).1 (formP vs p g).2 := a3
  have b3 : Rep (cvAt ws q e) ws.length (formP ws q e).1 (formP ws q e).2 := b3
  have a2 : (formP vs p g).1 ≤ p := a2
  have b2 : (formP ws q e).1 ≤ q := b2
  have a1 : 0 < (formP vs p g).1 := a1
  have b1 : 0 < (formP ws q e).1 := b1
  have b3' : Rep (cvAt vs p g) ws.length (formP ws q e).1 (formP ws q e).2 := b3.congr (fun t ht => (eq t ht).symm) b1 (by omega)
  have ep : (formP vs p g).1 = (formP ws q e).1 := by rw [e1, e2]
  rw [← ep] at b3' b2
  have eg : (formP vs p g).2 = (formP ws q e).2 := rep_gain a3 b3'
  rw [← eg] at b3'
  have E : formP vs p g = formP ws q e := Prod.ext ep eg
  refine ⟨E, ?_⟩
  unfold formV formM
  rw [← E, ← shr_cong eq ws.length, shr_uniq a1 (by omega) (by omega) a3 b3']
  exact vals_congr eq
end VM

/-! str(x) of an object with an own __str__ -/
namespace VO
open PySem PySem.Spec PyProof.Rows L2
section
variable {X : Cx} {CX : CXT} {k : Nat} {f C : Addr} {fd : FuncData} {ps : List Str} {sp : Sp} {E : XK}
theorem call_strOwn (F : FnOk X.prog X.w X.K X.mg X.base CX k f fd ps sp) (hr : Room (k + 2) X.A) (o : Meth X.K C "__str__" f) (hb : Binds X.K fd ps []) (hx : Passes CX X E) :
    CallR X (.type "str") (VN.rReprOwn C sp E) := by
  intro pins s σ H xs us Q I r h
  obtain ⟨a, dx, fs, rfl, ea, hsp⟩ := h
  obtain ⟨u, rfl, ru⟩ := vals1 r
  obtain rfl : u = Value.ref a := ru
  obtain ⟨mA, J, _⟩ := ins_get I.hok ea
  obtain ⟨od, J, _⟩ := J.look
  refine PySem.W.kso_call hr.in1.in1.units0 I.kIn J o.at_ o.fn ?_
  have hl := F.len _ _ _ _ hsp
  refine wpAny_call (codeAny_mono (F.run X.A.in1.in1 X.stack s H ⟨[.ref a], []⟩ [.ref a] [.ref a] _ E hr.in1.in1 I.env0.in1.in1 (by
    have := hb s [.ref a] I.kIn (by simpa using hl)
    simpa using this) (.cons rfl .nil) hsp) fun r s' hq => ?_)
  cases r with
  | error e => exact hx pins σ H s e s' I hq
  | ok fl =>
    cases fl with
    | ret w =>
      obtain ⟨z, H', I', rz, y, ez, q⟩ := I.after hq
      subst ez
      obtain ⟨t, rfl⟩ := rz
      exact ⟨.str y, H', I', ⟨t, rfl⟩, q⟩
    | next => exact False.elim hq
    | brk => exact False.elim hq
    | cont => exact False.elim hq
end
end VO

/-! Texts made of plain texts: how long their repr may be. -/
namespace VT
open PySem PySem.Spec PyProof.Rows L2
def Asc (x : Str) : Prop := ∀ c ∈ x.cps.toList, c < 16 ^ 8
theorem Asc.app {a b : Str} (h : Asc a) (k : Asc b) : Asc (a ++ b) := fun c hc => by
  rw [PySem.Str.cps_append, Array.toList_append, List.mem_append] at hc
  exact hc.elim (h c) (k c)
theorem Asc.of (s : String) : Asc (Str.ofString s) := fun c hc => by
  rw [PySem.Str.ofString_eq_toList] at hc
  simp only [List.mem_map] at hc
  obtain ⟨y, _, rfl⟩ := hc
  have h : y.val.toNat < 1114112 := by
    rcases y.valid with h | ⟨_, h⟩
    · exact Nat.lt_trans h (by decide)
    · exact h
  exact Nat.lt_of_lt_of_le h (by decide)
theorem Asc.int (i : Int) : Asc ((toString i : String) : Str) := Asc.of _
theorem Asc.from_ : ∀ (ts : List Str) (k : Nat) (acc : Str), Asc acc → (∀ t ∈ ts, Asc t) → Asc (textFrom k acc ts)
  | [], k, acc, h, _ => h
  | t :: ts, k, acc, h, ht => by
    unfold textFrom
    refine Asc.from_ ts _ _ ?_ fun x hx => ht x (List.mem_cons_of_mem _ hx)
    exact (h.app (Asc.of _)).app (ht t (List.mem_cons_self ..))
theorem Asc.list {ts : List Str} (h : ∀ t ∈ ts, Asc t) : Asc (listText ts) := (Asc.from_ ts 0 "[" (Asc.of _) h).app (Asc.of _)
theorem Asc.sjoin {sep : Str} (hs : Asc sep) : ∀ {l : List Str}, (∀ t ∈ l, Asc t) → Asc (Str.join sep l)
  | [], _ => Asc.of ""
  | [x], h => h x (by simp)
  | x :: y :: l, h => by
    show Asc (x ++ sep ++ Str.join sep (y :: l))
    exact ((h x (by simp)).app hs).app (Asc.sjoin hs fun t ht => h t (List.mem_cons_of_mem _ ht))
theorem Asc.join {sep : Str} (hs : Asc sep) {l : List Str} (h : ∀ t ∈ l, Asc t) : Asc (Txt.join sep l) := by
  cases l with
  | nil => exact Asc.of ""
  | cons a r =>
    have e : Txt.join sep (a :: r) = Str.join sep (a :: r) := StrLaws.glued_eq_join ..
    rw [e]
    exact Asc.sjoin hs h
theorem Asc.ints (us : List Int) : Asc (PyData.shown (.list (us.map PyData.int))) := by
  simp only [PyData.shown]
  refine Asc.list fun t ht => ?_
  have e : ∀ us : List Int, PyData.shownAll (us.map PyData.int) = us.map fun i => (toString i : Str) := by
    intro us
    induction us with
    | nil => rfl
    | cons u us ih => simp only [List.map_cons, PyData.shownAll, ih, PyData.shown]
  rw [e] at ht
  obtain ⟨u, _, rfl⟩ := List.mem_map.mp ht
  exact Asc.int u
theorem Sz.str {x : Str} {n : Nat} (h : Asc x) (hn : x.length ≤ n) : VR.Sz 0 (10 * n + 2) (.str x) :=
  ⟨rfl, Nat.zero_le _, by
    have := StrLaws.reprText_len x h
    show (reprText x).length ≤ _
    omega⟩
end VT

/-! A method called with keywords alone; further rules. -/
namespace VP
open PySem PySem.Spec PyProof.Rows L2
def tMethKw0 (C : Addr) (m : Str) (j : Nat) (sp : Sp) (gV : List V → List V → List V) (E : XK) (ta : TE) (tk : TA) : TE := fun σ H Q =>
  ta σ H fun x H1 => ∃ a dx fs, x = .ref a ∧ H1 a = some (.ins C dx fs) ∧ fs.lookup m = none ∧ tk σ H1 fun zs H3 => zs.length = j ∧ sp (gV [x] zs) H3 Q E
theorem pe_methKw0 {X : Cx} {CX : CXT} {k : Nat} {f C : Addr} {fd : FuncData} {ps ks : List Str} {sp : Sp} {E : XK} {m : Str} {pos apos : Pos} {o : Expr} {kws : List Keyword} {ta : TE} {tk : TA}
    {g : List Value → List Value → List Value} {gV : List V → List V → List V} {pl : Sem Bool}
    (he : PE X o ta) (c : Cls X.K C) (hm : Meth X.K C m f) (F : FnOk X.prog X.w X.K X.mg X.base CX k f fd ps sp) (hr : Room k X.A)
    (hb : KBn X.K fd ps 1 ks g gV) (hx : Passes CX X E) (hkw : PK X kws tk)
    (hall : (backToKw pos (keywordEach kws X.env)).all (·.1.isSome) = true := by rfl) (hks : (backToKw pos (keywordEach kws X.env)).filterMap (·.1) = ks := by rfl)
    (hpl : ((backTo pos (starEach [] X.env)).any (·.1) || (backToKw pos (keywordEach kws X.env)).any (·.1.isNone)) = false := by rfl)
    (ht : eval (.Call (.Attribute o m apos) [] kws pos) X.env = (do
      let ov ← eval o X.env
      standAt apos.atName
      let (f, first) ← holding [ov] (getMethod ov m pl)
      callWith pos f first (backTo pos (starEach [] X.env)) (backToKw pos (keywordEach kws X.env))) := by rfl) :
    PE X (.Call (.Attribute o m apos) [] kws pos) (tMethKw0 C m ks.length sp gV E ta tk) := by
  constructor
  intro pins s σ H Q I h
  refine PySem.W.methodCall_KW (pl := pl) (thn (he.run pins s σ H _ I h) ?_) ht
  rintro u s1 ⟨x, H1, I1, rx, a, dx, fs, ex, ea, l, q⟩
  subst ex
  obtain rfl : u = Value.ref a := rx
  refine getmeth_ok I1 ea c hm l ?_
  refine PySem.W.callWith_KW0 (first := [.ref a]) (h₀ := X.base) I1.ok.mod.kin hm.kp hall ?_ hpl
  refine thn (hkw.run pos pins s1 σ H1 _ I1 q) ?_
  rintro ws s3 ⟨zs, H3, I3, rz, l2, q3⟩
  refine ⟨I3.kIn, ?_⟩
  rw [hks]
  have r1 : Vals [V.ref a] [Value.ref a] := .cons rfl .nil
  have rel := hb.rel r1 rz
  have bind := hb.to s3 [Value.ref a] ws I3.kIn rfl (rz.length.symm.trans l2)
  show wpAny _ _ (call (.ref f) [Value.ref a] (ks.zip ws)) _ _ _
  refine wpAny_call (codeAny_mono (F.run X.A X.stack s3 H3 ⟨[Value.ref a], ks.zip ws⟩ _ _ Q E hr I3.env0 bind rel q3) ?_)
  intro res s' hq
  match res, hq with
  | .error e, hq => exact hx pins σ H3 s3 e s' I3 hq
  | .ok (.ret u), hq => exact I3.after hq
  | .ok .next, hq => exact False.elim hq
  | .ok .brk, hq => exact False.elim hq
  | .ok .cont, hq => exact False.elim hq
/-- c(e, .., k = v, ..), where the i-th slot holds the class at C -/
def tMakeKL (i : Nat) (C : Addr) (n m : Nat) (sp : Sp) (gV : List V → List V → List V) (E : XK) (t tk : TA) : TE := fun σ H Q => σ[i]? = some (some (.ref C)) ∧ tMakeK C n m sp gV E t tk σ H Q
theorem pe_makeKL {X : Cx} {CX : CXT} {k n i : Nat} {f C : Addr} {fd : FuncData} {ps ks : List Str} {sp : Sp} {E : XK} {x : Str} {p pos : Pos} {e : Expr} {es : List Expr} {kws : List Keyword} {t tk : TA}
    {g : List Value → List Value → List Value} {gV : List V → List V → List V} (M : Mk X.K C f) (F : FnOk X.prog X.w X.K X.mg X.base CX k f fd ps sp) (hr : Room (k + 1) X.A) (hN : X.N[i]? = some x) (hv : Vis X.env.scope x)
    (hb : KBn X.K fd ps (n + 1) ks g gV) (hx : Passes CX X E) (ha : PA X (e :: es) t) (hkw : PK X kws tk)
    (hall : (backToKw pos (keywordEach kws X.env)).all (·.1.isSome) = true := by rfl) (hks : (backToKw pos (keywordEach kws X.env)).filterMap (·.1) = ks := by rfl) (hdb : (x == ("__debug__" : Str)) = false := by decide) (hcd : (x == ("__classdict__" : Str)) = false := by decide)
    (he : starEach (e :: es) X.env = (false, eval e X.env) :: starEach es X.env := by rfl) (hpl : ((backTo pos (starEach (e :: es) X.env)).any (·.1) || (backToKw pos (keywordEach kws X.env)).any (·.1.isNone)) = false := by rfl) :
    PE X (.Call (.Name x p) (e :: es) kws pos) (tMakeKL i C n ks.length sp gV E t tk) := by
  refine ⟨fun pins s σ H Q I h => ?_⟩
  obtain ⟨hs, ht⟩ := h
  refine wpAny_Call_Name_kw (thn ((pe_var (pos := p) hN hv hdb hcd).run pins s σ H (fun v H1 => v = .ref C ∧ H1 = H) I ⟨.ref C, hs, rfl, rfl⟩) fun u s1 ⟨v, H1, I1, r1, q1⟩ => ?_)
  obtain ⟨rfl, rfl⟩ := q1
  cases r1
  refine PySem.W.callWith_KW (h₀ := X.base) I.ok.mod.kin M.kp hall (thn (ha.run pos pins s1 σ _ _ I1 ht) fun us s1 ⟨vs, H1, I1, r, q⟩ => ?_) hpl he
  refine thn (hkw.run pos pins s1 σ H1 _ I1 q) fun ws s2 ⟨zs, H2, I2, rz, l1, l2, q2⟩ => ⟨I2.kIn, ?_⟩
  rw [hks]
  exact run_makeK M F hr hb hx I2 r rz l1 l2 q2
/-- a def f(a, *v), no exception leaves it -/
theorem okStar {P : Program} {w : World} {K : PySem.W.Frag} {mg : Str → Option Value} {base : Heap} {x qual p1 pv : Str} {st : Stmt} {f : Addr} {fd : FuncData} {N : List Str} {k : Nat} {sp : Sp} (F : Fun K x qual st f fd) (S : FnScope N [p1, pv] (defScope st))
    (h0 : ∀ kV doc pm an cdv ct a, bindArgs (PySem.W.fnOf x qual (defArgs st) (defBody st) (defScope st) .none kV doc pm an cdv ct) ⟨[a], []⟩ = (newTuple [] >>= fun t => pure [(p1, a), (pv, t)]))
    (h1 : ∀ kV doc pm an cdv ct a r rs, bindArgs (PySem.W.fnOf x qual (defArgs st) (defBody st) (defScope st) .none kV doc pm an cdv ct) ⟨a :: r :: rs, []⟩ = (newTuple (r :: rs) >>= fun t => pure [(p1, a), (pv, t)]))
    (hbody : ∀ (cdv : Value) (A : Around) (outer : List Env) (s : Shared) (H : Hp) (vs : List V) (Q : VK) (E : XK), Room k (A.deeper (envOfC qual (defScope st) s.heap.objs.size f cdv)) → sp vs H Q E →
      ∃ t, PSs (cxOf CX0 P w K mg base N qual (defScope st) f cdv A outer s H E).nox (defBody st) t ∧ t { nx := fun _ H' => Q .non H', rt := Q } (start N vs) H) :
    FnR P w K mg base CX0 (k + 1) f (fun vs H Q E => ∃ a rest, vs = a :: rest ∧ rest.length ≤ sizeLine ∧ ∀ p, H p = Option.none → sp [a, V.ref p] (upd H p (.tup rest)) Q E) := by
  obtain ⟨oc, od, kV, doc, pm, an, cdv, ct, osl, rfl, lk, hcd⟩ := F.ex
  refine (StX.fn_star (ps := [p1]) lk hcd S StX.cxUp_none (fun us rest hl => StX.bind_star1 (B := fun vs => bindArgs _ ⟨vs, []⟩) (fun a => h0 _ _ _ _ _ _ a) (fun a r rs => h1 _ _ _ _ _ _ a r rs) us rest hl) (fun A outer s H vs Q E hr hsp => ?_)).imp fun vs H Q E ⟨a, rest, e, hz, hq⟩ => ⟨[a], rest, e, rfl, hz, hq⟩
  obtain ⟨t, h, q⟩ := hbody cdv A outer s H vs Q E hr hsp
  exact ⟨t, h.nox, q⟩
/-- .. exceptions may leave it -/
theorem okStarX {P : Program} {w : World} {K : PySem.W.Frag} {mg : Str → Option Value} {base : Heap} {x qual p1 pv : Str} {st : Stmt} {f : Addr} {fd : FuncData} {N : List Str} {k : Nat} {sp : Sp} (F : Fun K x qual st f fd) (S : FnScope N [p1, pv] (defScope st))
    (h0 : ∀ kV doc pm an cdv ct a, bindArgs (PySem.W.fnOf x qual (defArgs st) (defBody st) (defScope st) .none kV doc pm an cdv ct) ⟨[a], []⟩ = (newTuple [] >>= fun t => pure [(p1, a), (pv, t)]))
    (h1 : ∀ kV doc pm an cdv ct a r rs, bindArgs (PySem.W.fnOf x qual (defArgs st) (defBody st) (defScope st) .none kV doc pm an cdv ct) ⟨a :: r :: rs, []⟩ = (newTuple (r :: rs) >>= fun t => pure [(p1, a), (pv, t)]))
    (hbody : ∀ (cdv : Value) (A : Around) (outer : List Env) (s : Shared) (H : Hp) (vs : List V) (Q : VK) (E : XK), Room k (A.deeper (envOfC qual (defScope st) s.heap.objs.size f cdv)) → sp vs H Q E →
      ∃ t, PSs (cxOf (L2.CX P w) P w K mg base N qual (defScope st) f cdv A outer s H E) (defBody st) t ∧ t { nx := fun _ H' => Q .non H', rt := Q } (start N vs) H) :
    FnR P w K mg base (L2.CX P w) (k + 1) f (fun vs H Q E => ∃ a rest, vs = a :: rest ∧ rest.length ≤ sizeLine ∧ ∀ p, H p = Option.none → sp [a, V.ref p] (upd H p (.tup rest)) Q E) := by
  obtain ⟨oc, od, kV, doc, pm, an, cdv, ct, osl, rfl, lk, hcd⟩ := F.ex
  refine (StX.fn_star (ps := [p1]) lk hcd S StX.cxUp (fun us rest hl => StX.bind_star1 (B := fun vs => bindArgs _ ⟨vs, []⟩) (fun a => h0 _ _ _ _ _ _ a) (fun a r rs => h1 _ _ _ _ _ _ a r rs) us rest hl) (fun A outer s H vs Q E hr hsp => ?_)).imp fun vs H Q E ⟨a, rest, e, hz, hq⟩ => ⟨[a], rest, e, rfl, hz, hq⟩
  exact hbody cdv A outer s H vs Q E hr hsp
theorem pi_listK {X : Cx} {K' : PySem.W.Frag} {tg l : Expr} {tl : TE} (hl : PE X l tl) (hK : X.K = K') : PI X tg l (iList K' tl) := by
  subst hK; exact pi_list hl
theorem pi_tupK {X : Cx} {K' : PySem.W.Frag} {tg l : Expr} {tl : TE} (hl : PE X l tl) (hK : X.K = K') : PI X tg l (iTup K' tl) := by
  subst hK; exact pi_tup hl
/-- C.m(), m a classmethod of the class at C -/
theorem pe_cmeth0 {X : Cx} {CX : CXT} {k : Nat} {C p g : Addr} {mc : Value} {sp : Sp} {E : XK} {o : Expr} {m : Str} {pos apos : Pos} {ta : TE} {pl : Sem Bool} (he : PE X o ta) (r : ClX.CRead X.K C mc) (c : ClX.CMet X.K C mc m p g) (F : FnR X.prog X.w X.K X.mg X.base CX k g sp) (hr : Room k X.A) (hx : Passes CX X E)
    (ht : eval (.Call (.Attribute o m apos) [] [] pos) X.env = (do
      let ov ← eval o X.env
      standAt apos.atName
      let (f, first) ← holding [ov] (getMethod ov m pl)
      callWith pos f first (backTo pos (starEach [] X.env)) (backToKw pos (keywordEach [] X.env))) := by rfl) :
    PE X (.Call (.Attribute o m apos) [] [] pos) (ClX.tCMeth C sp E ta tNil) := by
  refine ⟨fun pins s σ H Q I h => ?_⟩
  refine PySem.W.methodCall_KW (pl := pl) (thn (he.run pins s σ H _ I h) fun u s1 ⟨x, H1, I1, rx, ex, q⟩ => ?_) ht
  subst ex
  obtain rfl : u = Value.ref C := rx
  refine ClX.getmethcm_ok I1 r c fun s2 I2 => ?_
  exact PySem.W.callWith_M0 (first := []) ⟨ClX.pin_at I2, I2.kIn⟩ c.fi (ClX.run_cm (us := []) (vs := []) F hr hx I2 .nil q)
end VP

/-! for i, x in enumerate(t), t a tuple -/
namespace PySem
open Sem (wp)
open AutoSeq1 (wpAny_loadPart')
set_option maxHeartbeats 1000000 in
theorem meets_enumerate_one {v : Value} {o : Obj} {H : Heap → Prop} (B : Begins v o H) :
    Meets (Builtin.«enumerate.__new__» ⟨[.type "enumerate", v], []⟩) (fun _ R s => H s.heap ∧
      R (.ok (.ret (.ref (s.heap.push o).objs.size))) { s with heap := (s.heap.push o).push { cls := .type "enumerate", data := .fields #[.none, .bool false, .ref s.heap.objs.size, rawInt 0, .none, .none] } }) :=
  .of_wp fun prog w A R s h => by
    obtain ⟨hp, g, d, tk, os⟩ := s; obtain ⟨h1, h⟩ := h
    have hsub := sub_enumerate
    have q1 : ∀ {A' : Around} {E : Value → Shared → Prop} {Q : Value → Shared → Prop}, Q (.ref hp.objs.size) ⟨hp.push o, g, d, tk, os⟩ → wpAny (model prog w) A' (pyIter v) Q E ⟨hp, g, d, tk, os⟩ :=
      fun q => B.iter prog w _ _ ⟨hp, g, d, tk, os⟩ _ h1 q
    wp_walk using q1
    refine wpAny_stack_any fun st => wpAny_pure ?_
    split
    · rename_i c _ _ _ _ _
      cases (c == Value.type "enumerate")
      · wp_walk using q1
        exact ⟨_, rfl, h⟩
      · wp_walk using q1
        exact ⟨_, rfl, h⟩
    · wp_walk using q1
      exact ⟨_, rfl, h⟩
theorem call_enumerate_one {prog : Program} {w : World} {A : Around} {E : Value → Shared → Prop} {s : Shared} {v : Value} {o : Obj} {H : Heap → Prop} {Q : Value → Shared → Prop} (B : Begins v o H) (h1 : H s.heap)
    (h : ∀ h', IsEnum h' (s.heap.objs.size + 1) s.heap.objs.size 0 .none → h'.get? s.heap.objs.size = some o → h'.objs.size = s.heap.objs.size + 2 →
      (∀ b o, s.heap.get? b = some o → h'.get? b = some o) → Q (.ref (s.heap.objs.size + 1)) { s with heap := h' }) :
    wpAny (model prog w) A (call (.type "enumerate") [v]) Q E s := by
  refine callType_new F.called_enumerate (by decide) (F.typeCall_enumerate_1 _) (F.newCall_enumerate_1 _) (fun obj => F.args_object_init_2 obj _) F.entry_enumerate_new
    (meets_enumerate_one B) ⟨h1, ?_⟩
  have hz : (s.heap.push o).objs.size = s.heap.objs.size + 1 := Heap.size_push ..
  show _ ∧ _
  rw [hz]
  have he : IsEnum ((s.heap.push o).push { cls := .type "enumerate", data := .fields #[.none, .bool false, .ref s.heap.objs.size, rawInt 0, .none, .none] }) (s.heap.objs.size + 1) s.heap.objs.size 0 .none := by
    have := Heap.get?_push_size (s.heap.push o) (o := { cls := .type "enumerate", data := .fields #[.none, .bool false, .ref s.heap.objs.size, rawInt 0, .none, .none] }) rfl
    rw [hz] at this; exact this
  refine ⟨⟨_, he, rfl⟩, h _ he (Heap.get?_push_of_some _ (Heap.get?_push_size _ B.free)) (by rw [Heap.size_push, hz]) fun b o x => Heap.get?_push_of_some _ (Heap.get?_push_of_some _ x)⟩
end PySem
namespace VE
open PySem PySem.Spec PyProof.Rows L2
/-- k, k + 1, .. with the list at a (n items, which the loop leaves there), in new pairs -/
def Itt_ (K : PySem.W.Frag) (a : Addr) (n : Nat) (k : Int) : It :=
  ⟨fun i H => i < n ∧ ∃ xs : List V, SqT K H a xs ∧ xs.length = n, fun i H v H' => ∃ T x, v = .ref T ∧ H T = none ∧ H' = upd H T (.tup [.int (k + (i : Nat)), x]) ∧ ∀ xs, SqT K H a xs → xs[i]? = some x,
    fun i H => n ≤ i ∧ ∃ xs : List V, SqT K H a xs ∧ xs.length = n⟩
theorem turn_enumT {P : Program} {w : World} {K : PySem.W.Frag} {elts : List Expr} {kk : Nat} {tpos : Pos} (a e it : Addr) (n : Nat) (k : Int) (hai : a ≠ it) (hei : e ≠ it) (hea : e ≠ a) :
    Turn P w K (.Tuple elts kk tpos) (Itt_ K a n k) [e, it] e (fun i h => (∃ old, IsEnum h e it (k + (i : Nat)) old) ∧ i ≤ n ∧ h.IsTupleIter it a i) where
  mem := by simp
  obj := fun i h st b hb => by
    obtain ⟨⟨old, he⟩, _, o, ho, hc, hd⟩ := st
    have e' : b = e ∨ b = it := by simpa using hb
    rcases e' with z | z
    · rw [z]; exact ⟨_, he, fun v q => nomatch q⟩
    · rw [z]; exact ⟨o, ho, fun v q => by rw [hd] at q; cases q⟩
  keep := fun i h h' st kp => let ⟨⟨old, he⟩, hn, hi⟩ := st; ⟨⟨old, kp e (by simp) _ he⟩, hn, hi.at fun o q => kp it (by simp) o q⟩
  item := by
    intro X hP hw hK hc i pins s σ H E I hf st hg
    subst hP hw hK
    obtain ⟨⟨old, he⟩, hin, hit⟩ := st
    obtain ⟨hlt, xs, hq, hl⟩ := hg
    have hx : xs[i]? = some (xs[i]'(by omega)) := List.getElem?_eq_getElem (by omega)
    obtain ⟨its, rv, p, hz⟩ := I.tuple hq
    have hh : X.A.in1.handled = none := I.ok.hd hc
    have hel : e < s.heap.objs.size := Heap.lt_size he
    have hil : it < s.heap.objs.size := by obtain ⟨_, q, _⟩ := hit; exact Heap.lt_size q
    obtain ⟨u', hu', ru⟩ := rv.get hx
    have hn : its.toArray.size = n := by rw [List.size_toArray, ← rv.length]; exact hl
    have D := Draws.tuple (prog := X.prog) (w := X.w) (A := X.A.in1) hh it a hai its.toArray
    rw [hn] at D
    refine wpAny_pyNext_enum_itemC D he ⟨hit, p⟩ hlt hei (by simp [hei, hea]) fun u h' tk hP ho hs' hT hsz hkp => ?_
    obtain ⟨hit', _⟩ := hs'
    have hP' : its[i]? = some u := by simpa using hP
    have euu : u' = u := by rw [hP'] at hu'; exact (Option.some.inj hu').symm
    subst euu
    refine ⟨_, rfl, wpAny_letOwnedTupleGo_enum (s := { s with heap := h', toks := tk + 1 }) ho fun h'' he' sb => ?_⟩
    have hT2 : h''.get? s.heap.objs.size = some { cls := .type "tuple", data := .seq #[.int (k + (i : Nat)) tk, u'] } := (sb.2 _ (Nat.ne_of_gt hel)).trans hT
    have new : ObjOk X.prog X.w (upd H s.heap.objs.size (.tup [.int (k + (i : Nat)), xs[i]'(by omega)])) h'' s.heap.objs.size (.tup [.int (k + (i : Nat)), xs[i]'(by omega)]) :=
      ⟨by show 2 ≤ sizeLine; decide, [.int (k + (i : Nat)) tk, u'], .cons ⟨_, rfl⟩ (.cons ru .nil), ⟨_, hT2, rfl, _, rfl⟩⟩
    have I1 : Inv X pins σ (upd H s.heap.objs.size (.tup [.int (k + (i : Nat)), xs[i]'(by omega)])) { s with heap := h'', toks := tk + 1 } :=
      I.turnedNew (ch := [e, it]) (fun b ob hb q => (sb.2 b (fun z => hb (by simp [z]))).trans (hkp b ob (fun z => hb (by simp [z])) (fun z => hb (by simp [z])) q)) hf (Nat.le_refl _) new
    refine ⟨.ref s.heap.objs.size, _, I1, rfl, ⟨_, _, rfl, I.hok.fresh (Nat.le_refl _), rfl, fun ys hy => by rw [I.tuple_inj hy hq]; exact hx⟩, ⟨⟨u', ?_⟩, hlt, hit'.at fun o q => (sb.2 it (Ne.symm hei)).trans q⟩, fun b hb => ?_⟩
    · have e1 : k + ((i + 1 : Nat) : Int) = k + (i : Int) + 1 := by omega
      rw [e1]; exact he'
    · have hb' : b < s.heap.objs.size := by
        have e' : b = e ∨ b = it := by simpa using hb
        rcases e' with z | z
        · rw [z]; exact hel
        · rw [z]; exact hil
      rw [upd_ne (Nat.ne_of_lt hb')]
      exact (hf b hb).1
  done := by
    intro X hP hw hK hc i pins s σ H E I hf st hg
    subst hP hw hK
    obtain ⟨⟨old, he⟩, hin, hit⟩ := st
    obtain ⟨hge, xs, hq, hl⟩ := hg
    obtain ⟨its, rv, p, hz⟩ := I.tuple hq
    have hn : its.toArray.size = n := by rw [List.size_toArray, ← rv.length]; exact hl
    have hh : X.A.in1.handled = none := I.ok.hd hc
    obtain ⟨f0, f1, f2, f3, f4, f5⟩ := hf it (by simp)
    have D := Draws.tuple (prog := X.prog) (w := X.w) (A := X.A.in1) hh it a hai its.toArray
    rw [hn] at D
    have ei : i = n := by omega
    subst ei
    exact wpAny_pyNext_enum_endD D he ⟨hit, p⟩ fun h' eb => ⟨rfl, I.turned (t' := s.toks) (fun b o hb q => eb b o hb q) f0 f1 f3 f4 f5⟩
  self := fun A i s Q E st h => let ⟨⟨_, he⟩, _⟩ := st; wpAny_pyIter_enum he h
theorem walk_enumT {K : PySem.W.Frag} {a : Addr} {xs : List V} {k : Int} : Walk (Itt_ K a xs.length k) xs.length (fun H => SqT K H a xs) (YPair (fun i => some (.int (k + (i : Nat)))) (fun i => xs[i]?)) := by
  refine ⟨fun i _ hi q => ⟨hi, xs, q, rfl⟩, fun _ q => ⟨Nat.le_refl _, xs, q, rfl⟩, fun i H v H' _ q y => ?_⟩
  obtain ⟨T, x, h1, h2, h3, h4⟩ := y
  exact ⟨T, .int (k + (i : Nat)), x, h1, h2, h3, rfl, h4 xs q⟩
def iEnumT (K : PySem.W.Frag) (ta : TA) (k : Int) : TI := fun σ H R => ta σ H fun vs H1 => ∃ (a : Addr) (xs : List V), vs = [.ref a] ∧ SqT K H1 a xs ∧ R (Itt_ K a xs.length k) H1
theorem pi_enumT {X : Cx} {e : Expr} {ta : TA} {p pos tpos : Pos} {elts : List Expr} {kk : Nat} (hg : Gl X "enumerate") (hm : X.mg "enumerate" = none) (ha : PA X [e] ta) (hs : starEach [e] X.env = [(false, eval e X.env)] := by rfl) :
    PI X (.Tuple elts kk tpos) (.Call (.Name "enumerate" p) [e] [] pos) (iEnumT X.K ta 0) := by
  refine ⟨fun pins s σ H R I h => ?_⟩
  refine Call_ (ld_blt I hg hm boot_enumerate (PyProof.Rows.callWith_type1 (thn (ha.run pos pins s σ H _ I h) fun us s1 ⟨vs, H1, I1, r1, q1⟩ => ?_) hs rfl))
  obtain ⟨a, xs, ex, hq, q⟩ := q1
  subst ex
  cases r1 with
  | cons r rr =>
    cases rr
    cases r
    obtain ⟨its, rv, p', hz⟩ := I1.tuple hq
    have hT : s1.heap.IsTuple a its.toArray := p'
    have hal : a < s1.heap.objs.size := by obtain ⟨_, z, _⟩ := hT; exact Heap.lt_size z
    refine call_enumerate_one (begins_tuple a its.toArray) hT fun h' he hit hsz hkp => wpAny_pyIter_enum he ?_
    have I2 : Inv X pins σ H1 { s1 with heap := h' } := I1.kept (t' := s1.toks) hkp
    refine ⟨s1.heap.objs.size + 1, [s1.heap.objs.size + 1, s1.heap.objs.size], _, _, H1, rfl, I2, turn_enumT a (s1.heap.objs.size + 1) s1.heap.objs.size xs.length 0 (Nat.ne_of_lt hal) (Nat.succ_ne_self _) (Nat.ne_of_gt (Nat.lt_succ_of_lt hal)), ⟨⟨.none, ?_⟩, Nat.zero_le _, ⟨_, hit, rfl, rfl⟩⟩, fun b hb => ?_, q⟩
    · rw [show (0 : Int) + ((0 : Nat) : Int) = 0 by omega]; exact he
    · have e' : b = s1.heap.objs.size + 1 ∨ b = s1.heap.objs.size := by simpa using hb
      have hle : s1.heap.objs.size ≤ b := by
        rcases e' with z | z
        · rw [z]; exact Nat.le_add_right _ _
        · rw [z]; exact Nat.le_refl _
      exact I1.fpOk hle (I1.hok.fresh hle)
end VE

/-! Lines: what pieces of curves allow. -/
namespace VM
structure Pc where
  b : Int
  u : Int
  t : Int
structure Pc.Ok (q : Pc) : Prop where
  b0 : 0 ≤ q.b
  b1 : q.b ≤ 60
  u0 : 0 ≤ q.u
  u1 : q.u ≤ 60
  t_ : q.t = 1 ∨ q.t = 2 ∨ q.t = 3 ∨ q.t = 4 ∨ q.t = 6 ∨ q.t = 12
def Pc.at (q : Pc) (x : Int) : Int := q.b + (q.u * x + q.t - 1) / q.t
/-- units in twelve ticks -/
def Pc.r (q : Pc) : Int := q.u * 12 / q.t
theorem Pc.Ok.r0 {q : Pc} (h : q.Ok) : 0 ≤ q.r ∧ q.r ≤ 720 := by
  have a := h.u0
  have b := h.u1
  unfold Pc.r
  rcases h.t_ with e | e | e | e | e | e <;> rw [e] <;> omega
theorem Pc.Ok.at_eq {q : Pc} (h : q.Ok) (x : Int) : q.at x = q.b + (q.r * x + 11) / 12 := by
  unfold Pc.at Pc.r
  rcases h.t_ with e | e | e | e | e | e <;> rw [e]
  · rw [show q.u * 12 / 1 = 12 * q.u by omega, Int.mul_assoc]; omega
  · rw [show q.u * 12 / 2 = 6 * q.u by omega, Int.mul_assoc]; omega
  · rw [show q.u * 12 / 3 = 4 * q.u by omega, Int.mul_assoc]; omega
  · rw [show q.u * 12 / 4 = 3 * q.u by omega, Int.mul_assoc]; omega
  · rw [show q.u * 12 / 6 = 2 * q.u by omega, Int.mul_assoc]; omega
  · rw [show q.u * 12 / 12 = 1 * q.u by omega, Int.mul_assoc]; omega
/-- rounded down of the negative, subtracted -/
theorem Pc.Ok.at_neg {q : Pc} (h : q.Ok) (x : Int) : q.b - (-q.u * x) / q.t = q.at x := by
  unfold Pc.at
  rw [Int.neg_mul]
  rcases h.t_ with e | e | e | e | e | e <;> rw [e] <;> omega
/-- rounded down, one more for a rest -/
theorem Pc.Ok.at_rest {q : Pc} (h : q.Ok) (x : Int) : q.b + (q.u * x) / q.t + (if (q.u * x) % q.t > 0 then 1 else 0) = q.at x := by
  unfold Pc.at
  rcases h.t_ with e | e | e | e | e | e <;> rw [e] <;> split <;> omega
theorem Pc.Ok.up {q : Pc} (h : q.Ok) (x : Int) : q.at x ≤ q.at (x + 1) := by
  have := h.r0.1
  rw [h.at_eq, h.at_eq, Int.mul_add]
  omega
theorem Pc.Ok.nn {q : Pc} (h : q.Ok) {x : Int} (hx : 0 ≤ x) : 0 ≤ q.at x := by
  have := Int.mul_nonneg h.r0.1 hx
  have := h.b0
  rw [h.at_eq]
  omega
theorem Pc.Ok.hi {q : Pc} (h : q.Ok) {x : Int} (hx : 0 ≤ x) : q.at x ≤ 60 + 60 * x := by
  have := Int.mul_le_mul_of_nonneg_right h.r0.2 hx
  have := h.b1
  rw [h.at_eq]
  omega
theorem Pc.Ok.far {q : Pc} (h : q.Ok) (x : Int) : q.at (x + 12) = q.at x + q.r := by
  rw [h.at_eq, h.at_eq, Int.mul_add]
  omega
def minOf {α : Type} (f : α → Int) : List α → Int
  | [] => 0
  | [a] => f a
  | a :: b :: l => min (f a) (minOf f (b :: l))
theorem minOf_is {α : Type} (f : α → Int) : ∀ {l : List α}, l ≠ [] → (∃ a ∈ l, minOf f l = f a) ∧ ∀ a ∈ l, minOf f l ≤ f a
  | [], h => absurd rfl h
  | [a], _ => ⟨⟨a, List.mem_singleton.mpr rfl, rfl⟩, fun b hb => by rw [List.mem_singleton.mp hb]; exact Int.le_refl _⟩
  | a :: b :: l, _ => by
    obtain ⟨⟨c, hc, e⟩, lo⟩ := minOf_is f (l := b :: l) (by simp)
    have d : minOf f (a :: b :: l) = min (f a) (minOf f (b :: l)) := rfl
    rw [d]
    refine ⟨?_, fun x hx => ?_⟩
    · by_cases z : f a ≤ minOf f (b :: l)
      · exact ⟨a, List.mem_cons_self, by omega⟩
      · exact ⟨c, List.mem_cons_of_mem _ hc, by omega⟩
    · rcases List.mem_cons.mp hx with h | h
      · subst h; omega
      · have := lo x h; omega
theorem minOf_eq {α : Type} {f : α → Int} {l : List α} {m : Int} (hm : m ∈ l.map f) (h : ∀ y ∈ l.map f, m ≤ y) : m = minOf f l := by
  have ne : l ≠ [] := fun z => by subst z; cases hm
  obtain ⟨⟨a, ha, e⟩, lo⟩ := minOf_is f ne
  obtain ⟨c, hc, rfl⟩ := List.mem_map.mp hm
  have := lo c hc
  have := h (f a) (List.mem_map.mpr ⟨a, ha, rfl⟩)
  omega
def maxOf {α : Type} (f : α → Int) (l : List α) : Int := -(minOf (fun a => -(f a)) l)
theorem maxOf_is {α : Type} (f : α → Int) {l : List α} (h : l ≠ []) : (∃ a ∈ l, maxOf f l = f a) ∧ ∀ a ∈ l, f a ≤ maxOf f l := by
  obtain ⟨⟨a, ha, e⟩, lo⟩ := minOf_is (fun a => -(f a)) h
  unfold maxOf
  exact ⟨⟨a, ha, by omega⟩, fun c hc => by have := lo c hc; omega⟩
theorem maxOf_eq {α : Type} {f : α → Int} {l : List α} {m : Int} (hm : m ∈ l.map f) (h : ∀ y ∈ l.map f, y ≤ m) : m = maxOf f l := by
  have ne : l ≠ [] := fun z => by subst z; cases hm
  obtain ⟨⟨a, ha, e⟩, lo⟩ := maxOf_is f ne
  obtain ⟨c, hc, rfl⟩ := List.mem_map.mp hm
  have := lo c hc
  have := h (f a) (List.mem_map.mpr ⟨a, ha, rfl⟩)
  omega
/-- the least of the lines -/
def lnF (qs : List Pc) (x : Int) : Int := if x = 0 then 0 else minOf (fun q => q.at x) qs
theorem lnF_pos {qs : List Pc} {x : Int} (h : 0 < x) : lnF qs x = minOf (fun q => q.at x) qs := by unfold lnF; rw [if_neg (by omega)]
theorem lnF_zero {qs : List Pc} : lnF qs 0 = 0 := by unfold lnF; rw [if_pos rfl]
/-- how many values are written, and the gain in twelve ticks -/
def lnN (qs : List Pc) : Int := 12 * (maxOf Pc.b qs + 2)
def lnG (qs : List Pc) : Int := minOf Pc.r qs
theorem lnN_b {qs : List Pc} (ne : qs ≠ []) (ok : ∀ q ∈ qs, q.Ok) : 24 ≤ lnN qs ∧ lnN qs ≤ 744 := by
  obtain ⟨⟨a, ha, e⟩, _⟩ := maxOf_is Pc.b ne
  have := (ok a ha).b0
  have := (ok a ha).b1
  unfold lnN
  omega
theorem lnG_b {qs : List Pc} (ne : qs ≠ []) (ok : ∀ q ∈ qs, q.Ok) : 0 ≤ lnG qs ∧ lnG qs ≤ 720 := by
  obtain ⟨⟨a, ha, e⟩, _⟩ := minOf_is Pc.r ne
  have := (ok a ha).r0
  unfold lnG
  omega
theorem ln_rep {qs : List Pc} (ne : qs ≠ []) (ok : ∀ q ∈ qs, q.Ok) : Rep (lnF qs) (lnN qs) 12 (lnG qs) := fun t ht => by
  have nb := lnN_b ne ok
  obtain ⟨⟨q0, h0, e0⟩, l0⟩ := minOf_is Pc.r ne
  obtain ⟨_, lb⟩ := maxOf_is Pc.b ne
  have hN : lnN qs = 12 * (maxOf Pc.b qs + 2) := rfl
  obtain ⟨s, rfl⟩ : ∃ s, t = s + 12 := ⟨t - 12, by omega⟩
  rw [show s + 12 - 12 = s by omega, lnF_pos (by omega), lnF_pos (by omega)]
  obtain ⟨⟨q1, h1, e1⟩, l1⟩ := minOf_is (fun q : Pc => q.at (s + 12)) ne
  obtain ⟨⟨q2, h2, e2⟩, l2⟩ := minOf_is (fun q : Pc => q.at s) ne
  show _ = _ + minOf Pc.r qs
  have r2 : q2.r = q0.r := by
    have a := l0 q2 h2
    rw [e0] at a
    by_cases z : q2.r = q0.r
    · exact z
    · exfalso
      have m := Int.mul_le_mul_of_nonneg_right (show q0.r + 1 ≤ q2.r by omega) (show 0 ≤ s by omega)
      rw [Int.add_mul, Int.one_mul] at m
      have c := l2 q0 h0
      rw [e2] at c
      have c : q2.at s ≤ q0.at s := c
      rw [(ok q2 h2).at_eq, (ok q0 h0).at_eq] at c
      have := (ok q2 h2).b0
      have := lb q0 h0
      omega
  have f1 := (ok q1 h1).far s
  have f2 := (ok q2 h2).far s
  have c1 := l1 q2 h2
  have c2 := l2 q1 h1
  have c3 := l0 q1 h1
  have c1 : minOf (fun q : Pc => q.at (s + 12)) qs ≤ q2.at (s + 12) := c1
  have c2 : minOf (fun q : Pc => q.at s) qs ≤ q1.at s := c2
  have e1 : minOf (fun q : Pc => q.at (s + 12)) qs = q1.at (s + 12) := e1
  have e2 : minOf (fun q : Pc => q.at s) qs = q2.at s := e2
  omega
theorem ln_up {qs : List Pc} (ne : qs ≠ []) (ok : ∀ q ∈ qs, q.Ok) (x : Int) (hx : 0 ≤ x) : lnF qs x ≤ lnF qs (x + 1) := by
  obtain ⟨⟨q1, h1, e1⟩, l1⟩ := minOf_is (fun q : Pc => q.at (x + 1)) ne
  rw [lnF_pos (show 0 < x + 1 by omega), e1]
  have u := (ok q1 h1).up x
  by_cases z : x = 0
  · subst z
    rw [lnF_zero]
    exact (ok q1 h1).nn (by omega)
  · rw [lnF_pos (by omega)]
    obtain ⟨_, l2⟩ := minOf_is (fun q : Pc => q.at x) ne
    exact Int.le_trans (l2 q1 h1) u
theorem ln_nn {qs : List Pc} (ne : qs ≠ []) (ok : ∀ q ∈ qs, q.Ok) (x : Int) (hx : 0 ≤ x) : 0 ≤ lnF qs x := by
  by_cases z : x = 0
  · subst z; rw [lnF_zero]; exact Int.le_refl _
  · rw [lnF_pos (by omega)]
    obtain ⟨⟨q1, h1, e1⟩, _⟩ := minOf_is (fun q : Pc => q.at x) ne
    rw [e1]
    exact (ok q1 h1).nn hx
theorem ln_hi {qs : List Pc} (ne : qs ≠ []) (ok : ∀ q ∈ qs, q.Ok) (x : Int) (hx : 0 ≤ x) : lnF qs x ≤ 60 + 60 * x := by
  by_cases z : x = 0
  · subst z; rw [lnF_zero]; decide
  · rw [lnF_pos (by omega)]
    obtain ⟨⟨q1, h1, e1⟩, _⟩ := minOf_is (fun q : Pc => q.at x) ne
    rw [e1]
    exact (ok q1 h1).hi hx
theorem Pc.Ok.sub {p q : Pc} (hp : p.Ok) (hq : q.Ok) (h : p.r ≤ q.r) {a b : Int} (ha : 0 ≤ a) (hb : 0 ≤ b) : p.at (a + b) ≤ p.at a + q.at b := by
  have m := Int.mul_le_mul_of_nonneg_right h hb
  have := hq.b0
  rw [hp.at_eq, hp.at_eq, hq.at_eq, Int.mul_add]
  omega
/-- the least of lines is good -/
theorem ln_good {qs : List Pc} (ne : qs ≠ []) (ok : ∀ q ∈ qs, q.Ok) {a b : Int} (ha : 0 ≤ a) (hb : 0 ≤ b) : lnF qs (a + b) ≤ lnF qs a + lnF qs b := by
  by_cases za : a = 0
  · subst za; rw [lnF_zero, Int.zero_add, Int.zero_add]; exact Int.le_refl _
  by_cases zb : b = 0
  · subst zb; rw [lnF_zero, Int.add_zero, Int.add_zero]; exact Int.le_refl _
  rw [lnF_pos (show 0 < a + b by omega), lnF_pos (show 0 < a by omega), lnF_pos (show 0 < b by omega)]
  obtain ⟨_, l⟩ := minOf_is (fun q : Pc => q.at (a + b)) ne
  obtain ⟨⟨p, hp, ep⟩, _⟩ := minOf_is (fun q : Pc => q.at a) ne
  obtain ⟨⟨q, hq, eq⟩, _⟩ := minOf_is (fun q : Pc => q.at b) ne
  rw [ep, eq]
  by_cases c : p.r ≤ q.r
  · exact Int.le_trans (l p hp) ((ok p hp).sub (ok q hq) c ha hb)
  · refine Int.le_trans (l q hq) ?_
    have := (ok q hq).sub (ok p hp) (show q.r ≤ p.r by omega) hb ha
    show q.at (a + b) ≤ p.at a + q.at b
    rw [Int.add_comm a b, Int.add_comm (p.at a)]
    exact this
/-- more pieces, less -/
theorem ln_le {qs : List Pc} {q : Pc} (h : q ∈ qs) (x : Int) : lnF qs x ≤ lnF [q] x := by
  by_cases z : x = 0
  · subst z; rw [lnF_zero, lnF_zero]; exact Int.le_refl _
  · unfold lnF
    rw [if_neg z, if_neg z]
    exact (minOf_is (fun q : Pc => q.at x) (fun e => by subst e; cases h)).2 q h
/-- the same pieces, the same -/
theorem minOf_same {α : Type} {f : α → Int} {l m : List α} (h : ∀ a, a ∈ l ↔ a ∈ m) : minOf f l = minOf f m := by
  by_cases z : l = []
  · subst z
    have : m = [] := by
      cases m with
      | nil => rfl
      | cons a m => exact absurd ((h a).mpr List.mem_cons_self) (by simp)
    subst this; rfl
  · have z2 : m ≠ [] := fun e => by
      subst e
      obtain ⟨⟨a, ha, _⟩, _⟩ := minOf_is f z
      exact absurd ((h a).mp ha) (by simp)
    obtain ⟨⟨a, ha, ea⟩, la⟩ := minOf_is f z
    obtain ⟨⟨b, hb, eb⟩, lb⟩ := minOf_is f z2
    have := la b ((h b).mpr hb)
    have := lb a ((h a).mp ha)
    omega
theorem ln_same {qs rs : List Pc} (h : ∀ q, q ∈ qs ↔ q ∈ rs) (x : Int) : lnF qs x = lnF rs x := by
  unfold lnF
  rw [minOf_same h]
/-! forms of functions that repeat from somewhere on, with a period that divides twelve -/
def per6 (p : Int) : Prop := p = 1 ∨ p = 2 ∨ p = 3 ∨ p = 4 ∨ p = 6 ∨ p = 12
def cyc6 (i : Nat) : Int := ([1, 2, 3, 4, 6, 12] : List Int).getD i 0
theorem cyc6_lt {i k : Nat} (h : i < k) (hk : k < 6) : cyc6 i < cyc6 k := by
  have : ∀ k, k < 6 → ∀ i, i < k → cyc6 i < cyc6 k := by decide +kernel
  exact this k hk i h
theorem cyc6_b {i : Nat} (h : i < 6) : 0 < cyc6 i ∧ cyc6 i ≤ 12 := by
  have : ∀ i, i < 6 → 0 < cyc6 i ∧ cyc6 i ≤ 12 := by decide +kernel
  exact this i h
theorem cyc6_per {d : Int} (h : per6 d) : ∃ k, k < 6 ∧ cyc6 k = d := by
  rcases h with h | h | h | h | h | h <;> subst h
  · exact ⟨0, by decide, rfl⟩
  · exact ⟨1, by decide, rfl⟩
  · exact ⟨2, by decide, rfl⟩
  · exact ⟨3, by decide, rfl⟩
  · exact ⟨4, by decide, rfl⟩
  · exact ⟨5, by decide, rfl⟩
theorem per6_dvd {d p : Int} (d0 : 0 < d) (hp : per6 p) (h : d ∣ p) : per6 d := by
  have h12 : d ∣ 12 := Int.dvd_trans h (by rcases hp with h | h | h | h | h | h <;> subst h <;> decide)
  have le := Int.le_of_dvd (by decide) h12
  obtain ⟨e, he⟩ := h12
  have : d = 1 ∨ d = 2 ∨ d = 3 ∨ d = 4 ∨ d = 5 ∨ d = 6 ∨ d = 7 ∨ d = 8 ∨ d = 9 ∨ d = 10 ∨ d = 11 ∨ d = 12 := by omega
  unfold per6
  rcases this with h | h | h | h | h | h | h | h | h | h | h | h <;> subst h <;> omega
/-- what the form's period is -/
theorem fm_least {xs : List Int} {p g : Int} (hp : 0 < p) (hpn : p ≤ xs.length) : (formP xs p g).1 ∣ p ∧ ∀ c : Int, 0 < c → c < (formP xs p g).1 → ∀ N s : Int, ¬ Rep (cvAt xs p g) N c s := by
  have R : Rep (cvAt xs p g) xs.length p g := Rep.cvAt hp hpn
  have Pp : Per (cvAt xs p g) p.toNat := ⟨by omega, _, _, by rw [Int.toNat_of_nonneg (by omega)]; exact R⟩
  obtain ⟨d, D, no⟩ := least_nat ⟨p.toNat, Pp⟩
  have no' : ∀ c, Per (cvAt xs p g) c → d ≤ c := fun c hc => by
    by_cases z : d ≤ c
    · exact z
    · exact absurd hc (no c (by omega))
  have dvp : (d : Int) ∣ p := by
    have := Int.natCast_dvd_natCast.mpr (per_dvd' D no' Pp)
    rwa [Int.toNat_of_nonneg (by omega)] at this
  have e1 : (formP xs p g).1 = d := leastFrom_is R hp D no' dvp _ 1 (by omega) (by omega) (by have := D.1; omega)
  rw [e1]
  refine ⟨dvp, fun c c0 cd N s hc => ?_⟩
  have := no' c.toNat ⟨by omega, N, s, by rw [Int.toNat_of_nonneg (by omega)]; exact hc⟩
  omega
theorem fm_rep {xs : List Int} {p g : Int} (hp : 0 < p) (hpn : p ≤ xs.length) : Rep (cvAt xs p g) (formV xs p g).length (formP xs p g).1 (formP xs p g).2 := by
  obtain ⟨a, b, R⟩ := leastP_spec (Rep.cvAt (g := g) hp hpn) hp
  have a : 0 < (formP xs p g).1 := a
  have b : (formP xs p g).1 ≤ p := b
  have R : Rep (cvAt xs p g) xs.length (formP xs p g).1 (formP xs p g).2 := R
  obtain ⟨c1, c2, c3⟩ := shr_spec a xs.length (by omega) R
  unfold formV
  rw [vals_length]
  exact c3
/-- the last length that does not follow from the one a period before, of c + 1, .., c + j; c if there is none -/
def lastOdd (f : Int → Int) (c s : Int) : Nat → Int
  | 0 => c
  | j + 1 => if f (c + 1 + j) = f (c + 1 + j - c) + s then lastOdd f c s j else c + 1 + j
theorem lastOdd_is (f : Int → Int) (c s : Int) : ∀ j : Nat, c ≤ lastOdd f c s j ∧ lastOdd f c s j ≤ c + j ∧ (∀ t, lastOdd f c s j < t → t ≤ c + j → f t = f (t - c) + s) ∧ (c < lastOdd f c s j → f (lastOdd f c s j) ≠ f (lastOdd f c s j - c) + s)
  | 0 => ⟨Int.le_refl _, by show c ≤ c + 0; omega, fun t h1 h2 => by have h1 : c < t := h1; omega, fun h => by have h : c < c := h; omega⟩
  | j + 1 => by
    obtain ⟨a, b, d, e⟩ := lastOdd_is f c s j
    by_cases z : f (c + 1 + j) = f (c + 1 + j - c) + s
    · have q : lastOdd f c s (j + 1) = lastOdd f c s j := if_pos z
      rw [q]
      refine ⟨a, by omega, fun t h1 h2 => ?_, e⟩
      by_cases w : t = c + 1 + j
      · rw [w]; exact z
      · exact d t h1 (by omega)
    · have q : lastOdd f c s (j + 1) = c + 1 + j := if_neg z
      rw [q]
      exact ⟨by omega, by omega, fun t h1 h2 => by omega, fun _ => z⟩
/-- with the form's period: the number of its values -/
theorem lastOdd_form {xs : List Int} {p g : Int} {j : Nat} (hp : 0 < p) (hpn : p ≤ xs.length) (hj : (xs.length : Int) ≤ (formP xs p g).1 + j) : lastOdd (cvAt xs p g) (formP xs p g).1 (formP xs p g).2 j = formM xs p g := by
  obtain ⟨f1, f2, f3, f4, f5⟩ := form_spec (vs := xs) (g := g) hp hpn
  have R := fm_rep (g := g) hp hpn
  have ml : (formV xs p g).length = formM xs p g := by unfold formV; rw [vals_length]
  have mn := shr_min (f := cvAt xs p g) (d := (formP xs p g).1) (s := (formP xs p g).2) xs.length
  have eM : shr (cvAt xs p g) (formP xs p g).1 (formP xs p g).2 xs.length = formM xs p g := rfl
  rw [eM] at mn
  rw [ml] at R f3 f4
  obtain ⟨a, b, d, e⟩ := lastOdd_is (cvAt xs p g) (formP xs p g).1 (formP xs p g).2 j
  generalize lastOdd (cvAt xs p g) (formP xs p g).1 (formP xs p g).2 j = L at *
  generalize formM xs p g = m at *
  by_cases c1 : (m : Int) < L
  · exact absurd (R L c1) (e (by omega))
  · by_cases c2 : L < m
    · rcases mn with h | h | h
      · omega
      · omega
      · exact absurd (d m c2 (by omega)) h
    · omega
/-- with a lesser one it lies far out -/
theorem lastOdd_far {xs : List Int} {p g c s : Int} {j : Nat} (hp : 0 < p) (hpn : p ≤ xs.length) (c0 : 0 < c) (cd : c < (formP xs p g).1) (hj : (xs.length : Int) + p ≤ c + j) : (xs.length : Int) < lastOdd (cvAt xs p g) c s j := by
  obtain ⟨a, b, d, e⟩ := lastOdd_is (cvAt xs p g) c s j
  obtain ⟨f1, f2, f3, f4, f5⟩ := form_spec (vs := xs) (g := g) hp hpn
  by_cases z : (xs.length : Int) < lastOdd (cvAt xs p g) c s j
  · exact z
  · exfalso
    have S : stepsEq (cvAt xs p g) xs.length p c = true := steps_of (s := s) fun t h1 h2 => d t (by omega) (by omega)
    exact (fm_least (g := g) hp hpn).2 c c0 cd _ _ ((Rep.cvAt (g := g) hp hpn).of_steps c0 (by omega) S)
/-- written by its form a curve has this form -/
theorem fm_idem {xs : List Int} {p g : Int} (hp : 0 < p) (hpn : p ≤ xs.length) : formV (formV xs p g) (formP xs p g).1 (formP xs p g).2 = formV xs p g ∧ formP (formV xs p g) (formP xs p g).1 (formP xs p g).2 = formP xs p g := by
  obtain ⟨f1, f2, f3, f4, f5⟩ := form_spec (vs := xs) (g := g) hp hpn
  have u := form_unique (g := (formP xs p g).2) (e := g) f1 f3 hp hpn f5
  first | exact u | exact ⟨u.2, u.1⟩ | exact ⟨u.1, u.2⟩
/-- what is known of such a function's form -/
theorem fm_vals {F : Int → Int} {n : Nat} {G : Int} (R : Rep F n 12 G) (hn : 12 ≤ n) (F0 : F 0 = 0) : ∀ t : Int, 0 ≤ t → cvAt (vals F n) 12 G t = F t :=
  fun t ht => cvAt_vals (by decide) (by omega) F0 R t ht
theorem form_get {xs : List Int} {p g : Int} {i : Nat} (h : i < (formV xs p g).length) : (formV xs p g).getD i 0 = cvAt xs p g ((i : Int) + 1) := by
  unfold formV at h ⊢
  rw [vals_length] at h
  exact vals_getD h
/-- at most: what the package looks at is enough -/
theorem am_iff {f h : Int → Int} {n1 n2 : Nat} {p1 g1 p2 g2 : Int} (R : Rep f n1 p1 g1) (S : Rep h n2 p2 g2) (a0 : 0 < p1) (a1 : p1 ≤ n1) (b0 : 0 < p2) (b1 : p2 ≤ n2) :
    amM f h n1 n2 p1 g1 p2 g2 = true ↔ ∀ t : Int, 1 ≤ t → f t ≤ h t := by
  have d1 : p1 ∣ ((Nat.lcm p1.toNat p2.toNat : Nat) : Int) := by
    have := Int.natCast_dvd_natCast.mpr (Nat.dvd_lcm_left p1.toNat p2.toNat)
    rwa [Int.toNat_of_nonneg (by omega)] at this
  have d2 : p2 ∣ ((Nat.lcm p1.toNat p2.toNat : Nat) : Int) := by
    have := Int.natCast_dvd_natCast.mpr (Nat.dvd_lcm_right p1.toNat p2.toNat)
    rwa [Int.toNat_of_nonneg (by omega)] at this
  have l0 : 0 < Nat.lcm p1.toNat p2.toNat := Nat.lcm_pos (by omega) (by omega)
  unfold amM
  have eN : ((amN n1 n2 p1 p2 : Nat) : Int) = max ((n1 : Int) - p1) ((n2 : Int) - p2) + (Nat.lcm p1.toNat p2.toNat : Nat) := by unfold amN; omega
  have R2 : Rep f (amN n1 n2 p1 p2 : Nat) (Nat.lcm p1.toNat p2.toNat : Nat) (g1 * ((Nat.lcm p1.toNat p2.toNat : Nat) / p1)) := R.mul a0 d1 (by omega) (by omega)
  have S2 : Rep h (amN n1 n2 p1 p2 : Nat) (Nat.lcm p1.toNat p2.toNat : Nat) (g2 * ((Nat.lcm p1.toNat p2.toNat : Nat) / p2)) := S.mul b0 d2 (by omega) (by omega)
  have N1 : 1 ≤ amN n1 n2 p1 p2 := by omega
  have NL : Nat.lcm p1.toNat p2.toNat ≤ amN n1 n2 p1 p2 := by omega
  generalize g1 * ((Nat.lcm p1.toNat p2.toNat : Nat) / p1) = G1 at *
  generalize g2 * ((Nat.lcm p1.toNat p2.toNat : Nat) / p2) = G2 at *
  generalize amN n1 n2 p1 p2 = N at *
  generalize Nat.lcm p1.toNat p2.toNat = L at *
  by_cases c : G2 < G1
  · rw [if_pos c]
    refine ⟨fun z => (nomatch z), fun z => ?_⟩
    exfalso
    obtain ⟨K, hK⟩ : ∃ K : Nat, h N - f N < K := ⟨(h N - f N).toNat + 1, by omega⟩
    have e1 := R2.times (by omega) K ((N : Int) + K * L) (by omega)
    have e2 := S2.times (by omega) K ((N : Int) + K * L) (by omega)
    rw [show (N : Int) + K * L - K * L = N by omega] at e1 e2
    have nn : (0 : Int) ≤ (K : Int) * L := Int.mul_nonneg (by omega) (by omega)
    have q := z ((N : Int) + K * L) (by omega)
    have m := Int.mul_le_mul_of_nonneg_left (show G2 + 1 ≤ G1 by omega) (show (0 : Int) ≤ K by omega)
    rw [Int.mul_add, Int.mul_one] at m
    omega
  · rw [if_neg c, all_iff]
    refine ⟨fun z => ?_, fun z t h1 _ => z t h1⟩
    have key : ∀ m : Nat, ∀ t : Int, 1 ≤ t → t ≤ m → f t ≤ h t := by
      intro m
      induction m with
      | zero => intro t h1 h2; omega
      | succ m ih =>
        intro t h1 h2
        by_cases w : t ≤ N
        · exact z t h1 w
        · rw [R2 t (by omega), S2 t (by omega)]
          have := ih (t - L) (by omega) (by omega)
          omega
    intro t ht
    exact key t.toNat t ht (by omega)
end VM

namespace VK
open PySem PySem.Spec PyProof.Rows L2 VM
def top (i : Nat) : Stmt := PySem.Challenge.pw_dueways_k15_curves_of_pieces.main.body.getD i (.Pass ⟨0, 0, 0, 0⟩)
abbrev s_TooLong_init : Stmt := inClass (top 7) 0
theorem sc_TooLong_init : FnScope ["self", "limit"] ["self", "limit"] (defScope s_TooLong_init) := ⟨rfl, rfl, rfl, by decide +kernel, rfl, by decide +kernel, by decide +kernel⟩
abbrev s_InvalidPiece_init : Stmt := inClass (top 5) 0
theorem sc_InvalidPiece_init : FnScope ["self", "position"] ["self", "position"] (defScope s_InvalidPiece_init) := ⟨rfl, rfl, rfl, by decide +kernel, rfl, by decide +kernel, by decide +kernel⟩
abbrev s_is_integer : Stmt := top 10
theorem sc_is_integer : FnScope ["value"] ["value"] (defScope s_is_integer) := ⟨rfl, rfl, rfl, by decide +kernel, rfl, by decide +kernel, by decide +kernel⟩
abbrev s_is_count : Stmt := top 11
theorem sc_is_count : FnScope ["value"] ["value"] (defScope s_is_count) := ⟨rfl, rfl, rfl, by decide +kernel, rfl, by decide +kernel, by decide +kernel⟩
abbrev s_is_count_to : Stmt := top 12
theorem sc_is_count_to : FnScope ["value", "most"] ["value", "most"] (defScope s_is_count_to) := ⟨rfl, rfl, rfl, by decide +kernel, rfl, by decide +kernel, by decide +kernel⟩
abbrev s_rounded_up : Stmt := top 13
theorem sc_rounded_up : FnScope ["units", "parts"] ["units", "parts"] (defScope s_rounded_up) := ⟨rfl, rfl, rfl, by decide +kernel, rfl, by decide +kernel, by decide +kernel⟩
abbrev s_value_at : Stmt := top 16
theorem sc_value_at : FnScope ["values", "period", "gain", "length", "rounds"] ["values", "period", "gain", "length"] (defScope s_value_at) := ⟨rfl, rfl, rfl, by decide +kernel, rfl, by decide +kernel, by decide +kernel⟩
abbrev s_least_form : Stmt := top 17
theorem sc_least_form : FnScope ["values", "period", "gain", "many", "row", "least", "step", "length"] ["values", "period", "gain"] (defScope s_least_form) := ⟨rfl, rfl, rfl, by decide +kernel, rfl, by decide +kernel, by decide +kernel⟩
abbrev s_least_period : Stmt := top 18
theorem sc_least_period : FnScope ["row", "many", "period", "least", "steps", "length"] ["row", "many", "period"] (defScope s_least_period) := ⟨rfl, rfl, rfl, by decide +kernel, rfl, by decide +kernel, by decide +kernel⟩
abbrev s_form_of_pieces : Stmt := top 19
theorem sc_form_of_pieces : FnScope ["pieces", "burst", "gain", "many", "values", "piece", "_", "units", "ticks", "length"] ["pieces"] (defScope s_form_of_pieces) := ⟨rfl, rfl, rfl, by decide +kernel, rfl, by decide +kernel, by decide +kernel⟩
abbrev s_line_at : Stmt := top 20
theorem sc_line_at : FnScope ["piece", "length", "burst", "units", "ticks"] ["piece", "length"] (defScope s_line_at) := ⟨rfl, rfl, rfl, by decide +kernel, rfl, by decide +kernel, by decide +kernel⟩
abbrev s_C_init : Stmt := inClass (top 26) 0
theorem sc_C_init : FnScope ["self", "values", "period", "gain", "wrong", "form", "least", "step"] ["self", "values", "period", "gain"] (defScope s_C_init) := ⟨rfl, rfl, rfl, by decide +kernel, rfl, by decide +kernel, by decide +kernel⟩
abbrev s_C_of_pieces : Stmt := inClass (top 26) 1
theorem sc_C_of_pieces : FnScope ["cls", "pieces", "wrong", "values", "period", "gain"] ["cls", "pieces"] (defScope s_C_of_pieces) := ⟨rfl, rfl, rfl, by decide +kernel, rfl, by decide +kernel, by decide +kernel⟩
abbrev s_C_eq : Stmt := inClass (top 26) 2
theorem sc_C_eq : FnScope ["self", "other"] ["self", "other"] (defScope s_C_eq) := ⟨rfl, rfl, rfl, by decide +kernel, rfl, by decide +kernel, by decide +kernel⟩
abbrev s_C_repr : Stmt := inClass (top 26) 3
theorem sc_C_repr : FnScope ["self"] ["self"] (defScope s_C_repr) := ⟨rfl, rfl, rfl, by decide +kernel, rfl, by decide +kernel, by decide +kernel⟩
abbrev s_C_str : Stmt := inClass (top 26) 4
theorem sc_C_str : FnScope ["self", "value"] ["self"] (defScope s_C_str) := ⟨rfl, rfl, rfl, by decide +kernel, rfl, by decide +kernel, by decide +kernel⟩
abbrev s_C_period : Stmt := inClass (top 26) 6
theorem sc_C_period : FnScope ["self"] ["self"] (defScope s_C_period) := ⟨rfl, rfl, rfl, by decide +kernel, rfl, by decide +kernel, by decide +kernel⟩
abbrev s_C_gain : Stmt := inClass (top 26) 7
theorem sc_C_gain : FnScope ["self"] ["self"] (defScope s_C_gain) := ⟨rfl, rfl, rfl, by decide +kernel, rfl, by decide +kernel, by decide +kernel⟩
abbrev s_C_first_values : Stmt := inClass (top 26) 9
theorem sc_C_first_values : FnScope ["self"] ["self"] (defScope s_C_first_values) := ⟨rfl, rfl, rfl, by decide +kernel, rfl, by decide +kernel, by decide +kernel⟩
abbrev s_C_at : Stmt := inClass (top 26) 10
theorem sc_C_at : FnScope ["self", "length"] ["self", "length"] (defScope s_C_at) := ⟨rfl, rfl, rfl, by decide +kernel, rfl, by decide +kernel, by decide +kernel⟩
abbrev s_C_find_break : Stmt := inClass (top 26) 12
theorem sc_C_find_break : FnScope ["self"] ["self"] (defScope s_C_find_break) := ⟨rfl, rfl, rfl, by decide +kernel, rfl, by decide +kernel, by decide +kernel⟩
abbrev s_C_is_good : Stmt := inClass (top 26) 13
theorem sc_C_is_good : FnScope ["self"] ["self"] (defScope s_C_is_good) := ⟨rfl, rfl, rfl, by decide +kernel, rfl, by decide +kernel, by decide +kernel⟩
abbrev s_first_break : Stmt := top 28
theorem sc_first_break : FnScope ["curve", "many", "row", "total", "first", "length"] ["curve"] (defScope s_first_break) := ⟨rfl, rfl, rfl, by decide +kernel, rfl, by decide +kernel, by decide +kernel⟩
abbrev s_find_problem : Stmt := top 29
theorem sc_find_problem : FnScope ["values", "period", "gain", "before", "position", "value"] ["values", "period", "gain"] (defScope s_find_problem) := ⟨rfl, rfl, rfl, by decide +kernel, rfl, by decide +kernel, by decide +kernel⟩
abbrev s_find_wrong_piece : Stmt := top 30
theorem sc_find_wrong_piece : FnScope ["pieces", "position", "piece"] ["pieces"] (defScope s_find_wrong_piece) := ⟨rfl, rfl, rfl, by decide +kernel, rfl, by decide +kernel, by decide +kernel⟩
abbrev s_is_piece : Stmt := top 31
theorem sc_is_piece : FnScope ["value", "part"] ["value"] (defScope s_is_piece) := ⟨rfl, rfl, rfl, by decide +kernel, rfl, by decide +kernel, by decide +kernel⟩
abbrev s_l_rng : Stmt := top 35
theorem sc_l_rng : FnScope ["_law_script", "_law_k", "_law_cell"] ["_law_script", "_law_k"] (defScope s_l_rng) := ⟨rfl, rfl, rfl, by decide +kernel, rfl, by decide +kernel, by decide +kernel⟩
abbrev s_l_draw : Stmt := top 36
theorem sc_l_draw : FnScope ["_law_rng_here", "_law_many", "_law_digit"] ["_law_rng_here", "_law_many"] (defScope s_l_draw) := ⟨rfl, rfl, rfl, by decide +kernel, rfl, by decide +kernel, by decide +kernel⟩
abbrev s_l_choice : Stmt := top 37
theorem sc_l_choice : FnScope ["_law_rng_here", "_law_some"] ["_law_rng_here", "_law_some"] (defScope s_l_choice) := ⟨rfl, rfl, rfl, by decide +kernel, rfl, by decide +kernel, by decide +kernel⟩
abbrev s_l_piece : Stmt := top 38
theorem sc_l_piece : FnScope ["_law_rng_here", "_law_way", "_law_burst", "_law_units"] ["_law_rng_here"] (defScope s_l_piece) := ⟨rfl, rfl, rfl, by decide +kernel, rfl, by decide +kernel, by decide +kernel⟩
abbrev s_l_line : Stmt := top 39
theorem sc_l_line : FnScope ["_law_piece_here", "_law_span", "_law_units"] ["_law_piece_here", "_law_span"] (defScope s_l_line) := ⟨rfl, rfl, rfl, by decide +kernel, rfl, by decide +kernel, by decide +kernel⟩
abbrev s_l_least : Stmt := top 40
theorem sc_l_least : FnScope ["_law_pieces", "_law_span", "_law_piece_here"] ["_law_pieces", "_law_span"] (defScope s_l_least) := ⟨rfl, rfl, rfl, by decide +kernel, rfl, by decide +kernel, by decide +kernel⟩
abbrev s_l_form : Stmt := top 41
theorem sc_l_form : FnScope ["_law_pieces", "_law_told", "_law_cycle", "_law_rise", "_law_odd_here", "_law_many", "_law_span"] ["_law_pieces"] (defScope s_l_form) := ⟨rfl, rfl, rfl, by decide +kernel, rfl, by decide +kernel, by decide +kernel⟩
abbrev s_l_made : Stmt := top 42
theorem sc_l_made : FnScope ["_law_pieces"] ["_law_pieces"] (defScope s_l_made) := ⟨rfl, rfl, rfl, by decide +kernel, rfl, by decide +kernel, by decide +kernel⟩
abbrev s_l_shown : Stmt := top 43
theorem sc_l_shown : FnScope ["_law_curve"] ["_law_curve"] (defScope s_l_shown) := ⟨rfl, rfl, rfl, by decide +kernel, rfl, by decide +kernel, by decide +kernel⟩
abbrev s_l_due : Stmt := top 44
theorem sc_l_due : FnScope ["_law_form_here", "_law_told", "_law_cycle", "_law_more", "_law_words", "_law_text", "_law_one"] ["_law_form_here"] (defScope s_l_due) := ⟨rfl, rfl, rfl, by decide +kernel, rfl, by decide +kernel, by decide +kernel⟩
abbrev s_l_is_too_long : Stmt := top 45
theorem sc_l_is_too_long : FnScope ["_law_pieces", "_law_told", "e"] ["_law_pieces"] (defScope s_l_is_too_long) := ⟨rfl, rfl, rfl, by decide +kernel, rfl, by decide +kernel, by decide +kernel⟩
abbrev s_l_is_wrong : Stmt := top 46
theorem sc_l_is_wrong : FnScope ["_law_pieces", "_law_at", "_law_told", "e"] ["_law_pieces", "_law_at"] (defScope s_l_is_wrong) := ⟨rfl, rfl, rfl, by decide +kernel, rfl, by decide +kernel, by decide +kernel⟩
abbrev s_l_pieces_right : Stmt := top 47
theorem sc_l_pieces_right : FnScope ["_law_rng_here", "_law_pieces", "_law_form_here", "_law_curve", "_law_spans", "_law_least_here", "_law_again", "_law_far", "_law_span"] ["_law_rng_here", "_law_pieces"] (defScope s_l_pieces_right) := ⟨rfl, rfl, rfl, by decide +kernel, rfl, by decide +kernel, by decide +kernel⟩
abbrev s_l_odd : Stmt := top 48
theorem sc_l_odd : FnScope ["_law_rng_here", "_law_some"] ["_law_rng_here"] (defScope s_l_odd) := ⟨rfl, rfl, rfl, by decide +kernel, rfl, by decide +kernel, by decide +kernel⟩
abbrev s_law : Stmt := top 49
theorem sc_law : FnScope ["_law_script", "_law_k", "_law_rng_here", "_law_pieces", "_law_at", "_law_turn"] ["_law_script"] (defScope s_law) := ⟨rfl, rfl, rfl, by decide +kernel, rfl, by decide +kernel, by decide +kernel⟩
structure Ad where
  TooLong : Addr
  InvalidPiece : Addr
  DueError : Addr
  TooMany : Addr
  InvalidCurve : Addr
  f_TooLong_init : Addr
  d_TooLong_init : FuncData
  f_InvalidPiece_init : Addr
  d_InvalidPiece_init : FuncData
  f_is_integer : Addr
  d_is_integer : FuncData
  f_is_count : Addr
  d_is_count : FuncData
  f_is_count_to : Addr
  d_is_count_to : FuncData
  f_rounded_up : Addr
  d_rounded_up : FuncData
  f_value_at : Addr
  d_value_at : FuncData
  f_least_form : Addr
  d_least_form : FuncData
  f_least_period : Addr
  d_least_period : FuncData
  f_form_of_pieces : Addr
  d_form_of_pieces : FuncData
  f_line_at : Addr
  d_line_at : FuncData
  f_C_init : Addr
  d_C_init : FuncData
  f_C_of_pieces : Addr
  d_C_of_pieces : FuncData
  p_C_of_pieces : Addr
  f_C_eq : Addr
  d_C_eq : FuncData
  f_C_repr : Addr
  d_C_repr : FuncData
  f_C_str : Addr
  d_C_str : FuncData
  f_C_period : Addr
  d_C_period : FuncData
  p_C_period : Addr
  f_C_gain : Addr
  d_C_gain : FuncData
  p_C_gain : Addr
  f_C_first_values : Addr
  d_C_first_values : FuncData
  f_C_at : Addr
  d_C_at : FuncData
  f_C_find_break : Addr
  d_C_find_break : FuncData
  f_C_is_good : Addr
  d_C_is_good : FuncData
  f_first_break : Addr
  d_first_break : FuncData
  f_find_problem : Addr
  d_find_problem : FuncData
  f_find_wrong_piece : Addr
  d_find_wrong_piece : FuncData
  f_is_piece : Addr
  d_is_piece : FuncData
  f_l_rng : Addr
  d_l_rng : FuncData
  f_l_draw : Addr
  d_l_draw : FuncData
  f_l_choice : Addr
  d_l_choice : FuncData
  f_l_piece : Addr
  d_l_piece : FuncData
  f_l_line : Addr
  d_l_line : FuncData
  f_l_least : Addr
  d_l_least : FuncData
  f_l_form : Addr
  d_l_form : FuncData
  f_l_made : Addr
  d_l_made : FuncData
  f_l_shown : Addr
  d_l_shown : FuncData
  f_l_due : Addr
  d_l_due : FuncData
  f_l_is_too_long : Addr
  d_l_is_too_long : FuncData
  f_l_is_wrong : Addr
  d_l_is_wrong : FuncData
  f_l_pieces_right : Addr
  d_l_pieces_right : FuncData
  f_l_odd : Addr
  d_l_odd : FuncData
  f_law : Addr
  d_law : FuncData
  Curve : Addr
  t_MAX_VALUES : Tok
  t_MAX_VALUE : Tok
  t_MAX_IN_PIECE : Tok
  t_LONGEST_PERIOD : Tok
  a_PERIODS : Addr
structure Txt (K : PySem.W.Frag) (mg : Str → Option Value) (A : Ad) : Prop where
  m_DueError : mg "DueError" = some (.ref A.DueError)
  m_TooMany : mg "TooMany" = some (.ref A.TooMany)
  m_InvalidCurve : mg "InvalidCurve" = some (.ref A.InvalidCurve)
  m_TooLong : mg "TooLong" = some (.ref A.TooLong)
  O_TooLong : VX.Own K A.TooLong
  xf_TooLong : XfC K A.TooLong
  as_TooLong : VX.Asked K A.TooLong
  ex_TooLong : PySem.W.exmOne K (.ref A.TooLong) (.ref A.TooLong) = some true
  iC_TooLong : PySem.W.findIn K (.ref A.TooLong) "__init__" = some (some (.ref A.f_TooLong_init))
  tI_TooLong : PySem.W.typeIn K (.ref A.f_TooLong_init) = some (.type "function")
  n_TooLong_limit : PySem.W.findIn K (.ref A.TooLong) "limit" = some none
  m_InvalidPiece : mg "InvalidPiece" = some (.ref A.InvalidPiece)
  O_InvalidPiece : VX.Own K A.InvalidPiece
  xf_InvalidPiece : XfC K A.InvalidPiece
  as_InvalidPiece : VX.Asked K A.InvalidPiece
  ex_InvalidPiece : PySem.W.exmOne K (.ref A.InvalidPiece) (.ref A.InvalidPiece) = some true
  iC_InvalidPiece : PySem.W.findIn K (.ref A.InvalidPiece) "__init__" = some (some (.ref A.f_InvalidPiece_init))
  tI_InvalidPiece : PySem.W.typeIn K (.ref A.f_InvalidPiece_init) = some (.type "function")
  n_InvalidPiece_position : PySem.W.findIn K (.ref A.InvalidPiece) "position" = some none
  kt_InvalidPiece_DueError : PySem.W.kitOne K (.ref A.InvalidPiece) (.ref A.DueError) = some true
  kt_InvalidPiece_ValueError : PySem.W.kitOne K (.ref A.InvalidPiece) (.type "ValueError") = some true
  kt_InvalidPiece_InvalidCurve : PySem.W.kitOne K (.ref A.InvalidPiece) (.ref A.InvalidCurve) = some false
  kt_TooLong_ArithmeticError : PySem.W.kitOne K (.ref A.TooLong) (.type "ArithmeticError") = some true
  kt_TooLong_DueError_TooMany : PySem.W.kitAny K (.ref A.TooLong) [.ref A.DueError, .ref A.TooMany] = some false
  ic_Curve : VN.IsC K A.Curve
  F_TooLong_init : Fun K "__init__" "TooLong.__init__" s_TooLong_init A.f_TooLong_init A.d_TooLong_init
  b_TooLong_init : Binds K A.d_TooLong_init ["self", "limit"] []
  F_InvalidPiece_init : Fun K "__init__" "InvalidPiece.__init__" s_InvalidPiece_init A.f_InvalidPiece_init A.d_InvalidPiece_init
  b_InvalidPiece_init : Binds K A.d_InvalidPiece_init ["self", "position"] []
  F_is_integer : Fun K "is_integer" "is_integer" s_is_integer A.f_is_integer A.d_is_integer
  m_is_integer : mg "is_integer" = some (.ref A.f_is_integer)
  k_is_integer : PySem.W.keepIn K (.ref A.f_is_integer) = true
  b_is_integer : Binds K A.d_is_integer ["value"] []
  F_is_count : Fun K "is_count" "is_count" s_is_count A.f_is_count A.d_is_count
  m_is_count : mg "is_count" = some (.ref A.f_is_count)
  k_is_count : PySem.W.keepIn K (.ref A.f_is_count) = true
  b_is_count : Binds K A.d_is_count ["value"] []
  F_is_count_to : Fun K "is_count_to" "is_count_to" s_is_count_to A.f_is_count_to A.d_is_count_to
  m_is_count_to : mg "is_count_to" = some (.ref A.f_is_count_to)
  k_is_count_to : PySem.W.keepIn K (.ref A.f_is_count_to) = true
  b_is_count_to : Binds K A.d_is_count_to ["value", "most"] []
  F_rounded_up : Fun K "rounded_up" "rounded_up" s_rounded_up A.f_rounded_up A.d_rounded_up
  m_rounded_up : mg "rounded_up" = some (.ref A.f_rounded_up)
  k_rounded_up : PySem.W.keepIn K (.ref A.f_rounded_up) = true
  b_rounded_up : Binds K A.d_rounded_up ["units", "parts"] []
  F_value_at : Fun K "value_at" "value_at" s_value_at A.f_value_at A.d_value_at
  m_value_at : mg "value_at" = some (.ref A.f_value_at)
  k_value_at : PySem.W.keepIn K (.ref A.f_value_at) = true
  b_value_at : Binds K A.d_value_at ["values", "period", "gain", "length"] []
  F_least_form : Fun K "least_form" "least_form" s_least_form A.f_least_form A.d_least_form
  m_least_form : mg "least_form" = some (.ref A.f_least_form)
  k_least_form : PySem.W.keepIn K (.ref A.f_least_form) = true
  b_least_form : Binds K A.d_least_form ["values", "period", "gain"] []
  F_least_period : Fun K "least_period" "least_period" s_least_period A.f_least_period A.d_least_period
  m_least_period : mg "least_period" = some (.ref A.f_least_period)
  k_least_period : PySem.W.keepIn K (.ref A.f_least_period) = true
  b_least_period : Binds K A.d_least_period ["row", "many", "period"] []
  F_form_of_pieces : Fun K "form_of_pieces" "form_of_pieces" s_form_of_pieces A.f_form_of_pieces A.d_form_of_pieces
  m_form_of_pieces : mg "form_of_pieces" = some (.ref A.f_form_of_pieces)
  k_form_of_pieces : PySem.W.keepIn K (.ref A.f_form_of_pieces) = true
  b_form_of_pieces : Binds K A.d_form_of_pieces ["pieces"] []
  F_line_at : Fun K "line_at" "line_at" s_line_at A.f_line_at A.d_line_at
  m_line_at : mg "line_at" = some (.ref A.f_line_at)
  k_line_at : PySem.W.keepIn K (.ref A.f_line_at) = true
  b_line_at : Binds K A.d_line_at ["piece", "length"] []
  F_C_of_pieces : Fun K "of_pieces" "Curve.of_pieces" s_C_of_pieces A.f_C_of_pieces A.d_C_of_pieces
  cm_of_pieces : ClX.CMet K A.Curve (.type "type") "of_pieces" A.p_C_of_pieces A.f_C_of_pieces
  rd_Curve : ClX.CRead K A.Curve (.type "type")
  F_C_eq : Fun K "__eq__" "Curve.__eq__" s_C_eq A.f_C_eq A.d_C_eq
  b_C_eq : Binds K A.d_C_eq ["self", "other"] []
  me___eq__ : Meth K A.Curve "__eq__" A.f_C_eq
  F_C_repr : Fun K "__repr__" "Curve.__repr__" s_C_repr A.f_C_repr A.d_C_repr
  b_C_repr : Binds K A.d_C_repr ["self"] []
  me___repr__ : Meth K A.Curve "__repr__" A.f_C_repr
  F_C_str : Fun K "__str__" "Curve.__str__" s_C_str A.f_C_str A.d_C_str
  b_C_str : Binds K A.d_C_str ["self"] []
  me___str__ : Meth K A.Curve "__str__" A.f_C_str
  F_C_period : Fun K "period" "Curve.period" s_C_period A.f_C_period A.d_C_period
  b_C_period : Binds K A.d_C_period ["self"] []
  pr_C_period : PropOf K A.Curve "period" A.p_C_period A.f_C_period
  F_C_gain : Fun K "gain" "Curve.gain" s_C_gain A.f_C_gain A.d_C_gain
  b_C_gain : Binds K A.d_C_gain ["self"] []
  pr_C_gain : PropOf K A.Curve "gain" A.p_C_gain A.f_C_gain
  F_C_first_values : Fun K "first_values" "Curve.first_values" s_C_first_values A.f_C_first_values A.d_C_first_values
  b_C_first_values : Binds K A.d_C_first_values ["self"] []
  me_first_values : Meth K A.Curve "first_values" A.f_C_first_values
  F_C_at : Fun K "at" "Curve.at" s_C_at A.f_C_at A.d_C_at
  b_C_at : Binds K A.d_C_at ["self", "length"] []
  me_at : Meth K A.Curve "at" A.f_C_at
  F_C_find_break : Fun K "find_break" "Curve.find_break" s_C_find_break A.f_C_find_break A.d_C_find_break
  b_C_find_break : Binds K A.d_C_find_break ["self"] []
  me_find_break : Meth K A.Curve "find_break" A.f_C_find_break
  F_C_is_good : Fun K "is_good" "Curve.is_good" s_C_is_good A.f_C_is_good A.d_C_is_good
  b_C_is_good : Binds K A.d_C_is_good ["self"] []
  me_is_good : Meth K A.Curve "is_good" A.f_C_is_good
  F_first_break : Fun K "first_break" "first_break" s_first_break A.f_first_break A.d_first_break
  m_first_break : mg "first_break" = some (.ref A.f_first_break)
  k_first_break : PySem.W.keepIn K (.ref A.f_first_break) = true
  b_first_break : Binds K A.d_first_break ["curve"] []
  F_find_problem : Fun K "find_problem" "find_problem" s_find_problem A.f_find_problem A.d_find_problem
  m_find_problem : mg "find_problem" = some (.ref A.f_find_problem)
  k_find_problem : PySem.W.keepIn K (.ref A.f_find_problem) = true
  b_find_problem : Binds K A.d_find_problem ["values", "period", "gain"] []
  F_find_wrong_piece : Fun K "find_wrong_piece" "find_wrong_piece" s_find_wrong_piece A.f_find_wrong_piece A.d_find_wrong_piece
  m_find_wrong_piece : mg "find_wrong_piece" = some (.ref A.f_find_wrong_piece)
  k_find_wrong_piece : PySem.W.keepIn K (.ref A.f_find_wrong_piece) = true
  b_find_wrong_piece : Binds K A.d_find_wrong_piece ["pieces"] []
  F_is_piece : Fun K "is_piece" "is_piece" s_is_piece A.f_is_piece A.d_is_piece
  m_is_piece : mg "is_piece" = some (.ref A.f_is_piece)
  k_is_piece : PySem.W.keepIn K (.ref A.f_is_piece) = true
  b_is_piece : Binds K A.d_is_piece ["value"] []
  F_l_rng : Fun K "_law_rng" "_law_rng" s_l_rng A.f_l_rng A.d_l_rng
  m_l_rng : mg "_law_rng" = some (.ref A.f_l_rng)
  k_l_rng : PySem.W.keepIn K (.ref A.f_l_rng) = true
  b_l_rng : Binds K A.d_l_rng ["_law_script", "_law_k"] []
  F_l_draw : Fun K "_law_draw" "_law_draw" s_l_draw A.f_l_draw A.d_l_draw
  m_l_draw : mg "_law_draw" = some (.ref A.f_l_draw)
  k_l_draw : PySem.W.keepIn K (.ref A.f_l_draw) = true
  b_l_draw : Binds K A.d_l_draw ["_law_rng_here", "_law_many"] []
  F_l_choice : Fun K "_law_choice" "_law_choice" s_l_choice A.f_l_choice A.d_l_choice
  m_l_choice : mg "_law_choice" = some (.ref A.f_l_choice)
  k_l_choice : PySem.W.keepIn K (.ref A.f_l_choice) = true
  b_l_choice : Binds K A.d_l_choice ["_law_rng_here", "_law_some"] []
  F_l_piece : Fun K "_law_piece" "_law_piece" s_l_piece A.f_l_piece A.d_l_piece
  m_l_piece : mg "_law_piece" = some (.ref A.f_l_piece)
  k_l_piece : PySem.W.keepIn K (.ref A.f_l_piece) = true
  b_l_piece : Binds K A.d_l_piece ["_law_rng_here"] []
  F_l_line : Fun K "_law_line" "_law_line" s_l_line A.f_l_line A.d_l_line
  m_l_line : mg "_law_line" = some (.ref A.f_l_line)
  k_l_line : PySem.W.keepIn K (.ref A.f_l_line) = true
  b_l_line : Binds K A.d_l_line ["_law_piece_here", "_law_span"] []
  F_l_least : Fun K "_law_least" "_law_least" s_l_least A.f_l_least A.d_l_least
  m_l_least : mg "_law_least" = some (.ref A.f_l_least)
  k_l_least : PySem.W.keepIn K (.ref A.f_l_least) = true
  b_l_least : Binds K A.d_l_least ["_law_pieces", "_law_span"] []
  F_l_form : Fun K "_law_form" "_law_form" s_l_form A.f_l_form A.d_l_form
  m_l_form : mg "_law_form" = some (.ref A.f_l_form)
  k_l_form : PySem.W.keepIn K (.ref A.f_l_form) = true
  b_l_form : Binds K A.d_l_form ["_law_pieces"] []
  F_l_made : Fun K "_law_made" "_law_made" s_l_made A.f_l_made A.d_l_made
  m_l_made : mg "_law_made" = some (.ref A.f_l_made)
  k_l_made : PySem.W.keepIn K (.ref A.f_l_made) = true
  b_l_made : Binds K A.d_l_made ["_law_pieces"] []
  F_l_shown : Fun K "_law_shown" "_law_shown" s_l_shown A.f_l_shown A.d_l_shown
  m_l_shown : mg "_law_shown" = some (.ref A.f_l_shown)
  k_l_shown : PySem.W.keepIn K (.ref A.f_l_shown) = true
  b_l_shown : Binds K A.d_l_shown ["_law_curve"] []
  F_l_due : Fun K "_law_due" "_law_due" s_l_due A.f_l_due A.d_l_due
  m_l_due : mg "_law_due" = some (.ref A.f_l_due)
  k_l_due : PySem.W.keepIn K (.ref A.f_l_due) = true
  b_l_due : Binds K A.d_l_due ["_law_form_here"] []
  F_l_is_too_long : Fun K "_law_is_too_long" "_law_is_too_long" s_l_is_too_long A.f_l_is_too_long A.d_l_is_too_long
  m_l_is_too_long : mg "_law_is_too_long" = some (.ref A.f_l_is_too_long)
  k_l_is_too_long : PySem.W.keepIn K (.ref A.f_l_is_too_long) = true
  b_l_is_too_long : Binds K A.d_l_is_too_long ["_law_pieces"] []
  F_l_is_wrong : Fun K "_law_is_wrong" "_law_is_wrong" s_l_is_wrong A.f_l_is_wrong A.d_l_is_wrong
  m_l_is_wrong : mg "_law_is_wrong" = some (.ref A.f_l_is_wrong)
  k_l_is_wrong : PySem.W.keepIn K (.ref A.f_l_is_wrong) = true
  b_l_is_wrong : Binds K A.d_l_is_wrong ["_law_pieces", "_law_at"] []
  F_l_pieces_right : Fun K "_law_pieces_right" "_law_pieces_right" s_l_pieces_right A.f_l_pieces_right A.d_l_pieces_right
  m_l_pieces_right : mg "_law_pieces_right" = some (.ref A.f_l_pieces_right)
  k_l_pieces_right : PySem.W.keepIn K (.ref A.f_l_pieces_right) = true
  b_l_pieces_right : Binds K A.d_l_pieces_right ["_law_rng_here", "_law_pieces"] []
  F_l_odd : Fun K "_law_odd" "_law_odd" s_l_odd A.f_l_odd A.d_l_odd
  m_l_odd : mg "_law_odd" = some (.ref A.f_l_odd)
  k_l_odd : PySem.W.keepIn K (.ref A.f_l_odd) = true
  b_l_odd : Binds K A.d_l_odd ["_law_rng_here"] []
  F_law : Fun K "law" "law" s_law A.f_law A.d_law
  m_law : mg "law" = some (.ref A.f_law)
  k_law : PySem.W.keepIn K (.ref A.f_law) = true
  b_law : Binds K A.d_law ["_law_script"] []
  ArithmeticError : mg "ArithmeticError" = none
  ValueError : mg "ValueError" = none
  abs : mg "abs" = none
  all : mg "all" = none
  bool : mg "bool" = none
  divmod : mg "divmod" = none
  enumerate : mg "enumerate" = none
  int : mg "int" = none
  isinstance : mg "isinstance" = none
  len : mg "len" = none
  list : mg "list" = none
  max : mg "max" = none
  min : mg "min" = none
  range : mg "range" = none
  repr : mg "repr" = none
  str : mg "str" = none
  tuple : mg "tuple" = none
  v_MAX_VALUES : mg "MAX_VALUES" = some (.int 24 A.t_MAX_VALUES)
  v_MAX_VALUE : mg "MAX_VALUE" = some (.int 2000 A.t_MAX_VALUE)
  v_MAX_IN_PIECE : mg "MAX_IN_PIECE" = some (.int 60 A.t_MAX_IN_PIECE)
  v_LONGEST_PERIOD : mg "LONGEST_PERIOD" = some (.int 12 A.t_LONGEST_PERIOD)
  v_PERIODS : mg "PERIODS" = some (.ref A.a_PERIODS)
  periods : ∀ H, SqT K H A.a_PERIODS [.int 1, .int 2, .int 3, .int 4, .int 6, .int 12]
  m_Curve : mg "Curve" = some (.ref A.Curve)
  cl : Cls K A.Curve
  n_values : NoAttr K A.Curve "_values"
  n_period : NoAttr K A.Curve "_period"
  n_gain : NoAttr K A.Curve "_gain"
  n_was_searched : NoAttr K A.Curve "_was_searched"
  n_break : NoAttr K A.Curve "_break"
  F_C_init : FunD K "__init__" "Curve.__init__" (defArgs s_C_init) (defBody s_C_init) (defScope s_C_init) [] [("period", .int 1), ("gain", .int 0)] A.f_C_init A.d_C_init
  M_Curve : Mk K A.Curve A.f_C_init
/-! ### counts -/
/-- the built-in classes of the values that occur -/
def kinds : List String := ["NoneType", "bool", "int", "str", "list", "tuple", "dict"]
def Kd (K : PySem.W.Frag) (H : Hp) (v : V) (n : String) : Prop := TyX K H v (.type n) ∧ n ∈ kinds
theorem Kd.int {K : PySem.W.Frag} {H : Hp} (i : Int) : Kd K H (.int i) "int" := ⟨.base (.int i), by decide⟩
theorem Kd.is_int {K : PySem.W.Frag} {H : Hp} {v : V} (h : Kd K H v "int") : ∃ i, v = .int i := by
  obtain ⟨h, _⟩ := h
  generalize e : Value.type "int" = t at h
  cases h with
  | base b => cases b <;> first | exact ⟨_, rfl⟩ | (injection e with e; exact absurd e (by decide)) | cases e
  | _ => first | (injection e with e; exact absurd e (by decide)) | cases e
/-- a count -/
def cnt : V → Bool
  | .int i => decide (0 ≤ i)
  | _ => false
def cntTo (m : Int) : V → Bool
  | .int i => decide (0 ≤ i ∧ i ≤ m)
  | _ => false
def sp_is_integer (K : PySem.W.Frag) (_ : Ad) : Sp := fun vs H Q _ => ∃ v n, vs = [v] ∧ Kd K H v n ∧ Q (.bl (n == "int")) H
def sp_is_count (K : PySem.W.Frag) (_ : Ad) : Sp := fun vs H Q _ => ∃ v n, vs = [v] ∧ Kd K H v n ∧ Q (.bl (cnt v)) H
def sp_TooLong_init (_ : PySem.W.Frag) (A : Ad) : Sp := fun vs H Q _ => ∃ (e : Addr) (y : V), vs = [.ref e, y] ∧ H e = some (exo e A.TooLong none) ∧
  ∀ d, H d = none → d ≠ e → Q .non (upd (upd H d (exd d [("limit", y)])) e (exo e A.TooLong (some d)))
def sp_InvalidPiece_init (_ : PySem.W.Frag) (A : Ad) : Sp := fun vs H Q _ => ∃ (e : Addr) (y : V), vs = [.ref e, y] ∧ H e = some (exo e A.InvalidPiece none) ∧
  ∀ d, H d = none → d ≠ e → Q .non (upd (upd H d (exd d [("position", y)])) e (exo e A.InvalidPiece (some d)))
def sp_is_count_to (K : PySem.W.Frag) (_ : Ad) : Sp := fun vs H Q _ => ∃ v n m, vs = [v, .int m] ∧ Kd K H v n ∧ Q (.bl (cntTo m v)) H
def sp_rounded_up (_ : PySem.W.Frag) (_ : Ad) : Sp := fun vs H Q _ => ∃ (u p : Int), vs = [.int u, .int p] ∧ 0 < p ∧ p < 1073741824 ∧ Q (.int ((u + p - 1) / p)) H
section
variable {P : Program} {w : World} {K : PySem.W.Frag} {mg : Str → Option Value} {base : Heap} {A : Ad}
theorem kitI {n : String} (h : n ∈ kinds) : PySem.W.kitOne K (.type n) (.type "int") = some (n == "int" || n == "bool") := by
  simp only [kinds, List.mem_cons, List.not_mem_nil, or_false] at h
  rcases h with rfl | rfl | rfl | rfl | rfl | rfl | rfl <;> exact kit_ty (by decide +kernel)
theorem kitB' {n : String} (h : n ∈ kinds) : PySem.W.kitOne K (.type n) (.type "bool") = some (n == "bool") := by
  simp only [kinds, List.mem_cons, List.not_mem_nil, or_false] at h
  rcases h with rfl | rfl | rfl | rfl | rfl | rfl | rfl <;> exact kit_ty (by decide +kernel)
theorem ok_is_integer (T : Txt K mg A) : FnOk P w K mg base CX0 1 A.f_is_integer A.d_is_integer ["value"] (sp_is_integer K A) := by
  refine T.F_is_integer.ok sc_is_integer (fun vs H Q E h => ?_) (fun cdv A0 outer s H vs Q E hr h => ?_)
  · obtain ⟨v, n, rfl, hk, q⟩ := h
    rfl
  · obtain ⟨v, n, rfl, hk, q⟩ := h
    refine ⟨_, (pss_one (ps_ret (pe_and (pe_callB (r := rIsi K) call_isi (by rfl) T.isinstance (by decide +kernel) (pa_cons (pv 0) (pa_cons (pe_bltn (v := .ty "int") (u := .type "int") (by rfl) T.int (by decide +kernel) (by exact rfl)) pa_nil))) (pe_one (pe_not (pe_callB (r := rIsi K) call_isi (by rfl) T.isinstance (by decide +kernel) (pa_cons (pv 0) (pa_cons (pe_bltn (v := .ty "bool") (u := .type "bool") (by rfl) T.bool (by decide +kernel) (by exact rfl)) pa_nil)))))))), ?_⟩
    refine ⟨_, rfl, v, .ty "int", _, _, _, rfl, .ty _, hk.1, kitI hk.2, _, rfl, ?_⟩
    refine ite2 (fun c => ?_) (fun c => ?_)
    · refine ⟨_, rfl, v, .ty "bool", _, _, _, rfl, .ty _, hk.1, kitB' hk.2, _, rfl, ?_⟩
      by_cases e : n = "bool"
      · subst e; exact q
      · have e1 : (n == "bool") = false := by simpa using e
        rw [e1] at c ⊢
        simp at c
        subst c
        exact q
    · simp at c
      have e1 : (n == "int") = false := by simpa using c.1
      rw [e1] at q
      exact q
theorem ok_is_count (T : Txt K mg A) : FnOk P w K mg base CX0 2 A.f_is_count A.d_is_count ["value"] (sp_is_count K A) := by
  have G_is_integer := ok_is_integer (P := P) (w := w) (base := base) T
  refine T.F_is_count.ok sc_is_count (fun vs H Q E h => ?_) (fun cdv A0 outer s H vs Q E hr h => ?_)
  · obtain ⟨v, n, rfl, hk, q⟩ := h
    rfl
  · obtain ⟨v, n, rfl, hk, q⟩ := h
    refine ⟨_, (pss_one (ps_ret (pe_and (pe_call G_is_integer (hr.mono (by decide)) rfl T.m_is_integer T.k_is_integer T.b_is_integer .nil pass0 (pa_cons (pv 0) pa_nil)) (pe_one (pe_cmpR op_ge (pv 0) pe_int (nomark _)))))), ?_⟩
    refine ⟨_, rfl, v, n, rfl, hk, _, rfl, ?_⟩
    refine ite2 (fun c => ?_) (fun c => ?_)
    · have e : n = "int" := by simpa using c
      subst e
      obtain ⟨i, rfl⟩ := hk.is_int
      exact ⟨_, rfl, _, _, rfl, rfl, q⟩
    · have e : cnt v = false := by
        cases v <;> first | rfl | skip
        obtain ⟨h, _⟩ := hk
        generalize et : Value.type n = t at h
        cases h with
        | base b => cases b; injection et with et; subst et; exact absurd rfl c
      rw [e] at q
      exact q
theorem ok_is_count_to (T : Txt K mg A) : FnOk P w K mg base CX0 3 A.f_is_count_to A.d_is_count_to ["value", "most"] (sp_is_count_to K A) := by
  have G_is_count := ok_is_count (P := P) (w := w) (base := base) T
  refine T.F_is_count_to.ok sc_is_count_to (fun vs H Q E h => ?_) (fun cdv A0 outer s H vs Q E hr h => ?_)
  · obtain ⟨v, n, m, rfl, hk, q⟩ := h
    rfl
  · obtain ⟨v, n, m, rfl, hk, q⟩ := h
    refine ⟨_, (pss_one (ps_ret (pe_and (pe_call G_is_count (hr.mono (by decide)) rfl T.m_is_count T.k_is_count T.b_is_count .nil pass0 (pa_cons (pv 0) pa_nil)) (pe_one (pe_cmpR op_le (pv 0) (pv 1) (nomark _)))))), ?_⟩
    refine ⟨_, rfl, v, n, rfl, hk, _, rfl, ?_⟩
    refine ite2 (fun c => ?_) (fun c => ?_)
    · cases v with
      | int i =>
        have c : 0 ≤ i := by simpa [cnt] using c
        refine ⟨_, rfl, _, rfl, _, _, rfl, rfl, ?_⟩
        have e : cntTo m (.int i) = decide (i ≤ m) := by unfold cntTo; simp [c]
        rw [e] at q
        exact q
      | _ => simp [cnt] at c
    · have e : cntTo m v = false := by
        cases v <;> first | rfl | skip
        rename_i i
        have c : ¬ 0 ≤ i := by simpa [cnt] using c
        unfold cntTo; simp [c]
      rw [e] at q
      exact q
theorem ok_TooLong_init (T : Txt K mg A) : FnOk P w K mg base CX0 1 A.f_TooLong_init A.d_TooLong_init ["self", "limit"] (sp_TooLong_init K A) := by
  refine T.F_TooLong_init.ok sc_TooLong_init (fun vs H Q E h => ?_) (fun cdv A0 outer s H vs Q E hr h => ?_)
  · obtain ⟨e, y, rfl, he, k⟩ := h
    rfl
  · obtain ⟨e, y, rfl, he, k⟩ := h
    refine ⟨_, (pss_one (VX.ps_put (pv 0) (pv 1))), ?_⟩
    exact ⟨_, rfl, _, rfl, e, A.TooLong, rfl, T.O_TooLong, T.n_TooLong_limit, .inl ⟨he, fun d hd hde => k d hd hde⟩⟩
theorem ok_InvalidPiece_init (T : Txt K mg A) : FnOk P w K mg base CX0 1 A.f_InvalidPiece_init A.d_InvalidPiece_init ["self", "position"] (sp_InvalidPiece_init K A) := by
  refine T.F_InvalidPiece_init.ok sc_InvalidPiece_init (fun vs H Q E h => ?_) (fun cdv A0 outer s H vs Q E hr h => ?_)
  · obtain ⟨e, y, rfl, he, k⟩ := h
    rfl
  · obtain ⟨e, y, rfl, he, k⟩ := h
    refine ⟨_, (pss_one (VX.ps_put (pv 0) (pv 1))), ?_⟩
    exact ⟨_, rfl, _, rfl, e, A.InvalidPiece, rfl, T.O_InvalidPiece, T.n_InvalidPiece_position, .inl ⟨he, fun d hd hde => k d hd hde⟩⟩
theorem ok_rounded_up (T : Txt K mg A) : FnOk P w K mg base CX0 1 A.f_rounded_up A.d_rounded_up ["units", "parts"] (sp_rounded_up K A) := by
  refine T.F_rounded_up.ok sc_rounded_up (fun vs H Q E h => ?_) (fun cdv A0 outer s H vs Q E hr h => ?_)
  · obtain ⟨u, p, rfl, h1, h2, q⟩ := h
    rfl
  · obtain ⟨u, p, rfl, h1, h2, q⟩ := h
    refine ⟨_, (pss_one (ps_ret (pe_op op_fdiv (pe_op op_sub (pe_op op_add (pv 0) (pv 1)) pe_int) (pv 1)))), ?_⟩
    exact ⟨_, rfl, _, rfl, _, _, rfl, rfl, _, _, rfl, rfl, _, rfl, _, _, rfl, rfl, ⟨h1, h2⟩, q⟩
end
end VK


namespace VK
open PySem PySem.Spec PyProof.Rows L2 VM
theorem getD_map {xs : List Int} {j : Nat} (h : j < xs.length) : (xs.map V.int)[j]? = some (.int (xs.getD j 0)) := by
  rw [List.getElem?_map, List.getD_eq_getElem?_getD, List.getElem?_eq_getElem h]
  rfl
theorem at_map {xs : List Int} {i : Int} (h0 : 0 ≤ i) (h : i < xs.length) : atI (xs.map V.int) i = some (.int (xs.getD i.toNat 0)) := by
  have e : i = ((i.toNat : Nat) : Int) := by omega
  rw [e]
  exact atI_nat (getD_map (by omega))
theorem at_back {xs : List Int} {i : Int} (h0 : i < 0) (h : -(xs.length : Int) ≤ i) : atI (xs.map V.int) i = some (.int (xs.getD (i + xs.length).toNat 0)) := by
  unfold atI ixN
  rw [if_neg (by omega), List.length_map, if_pos h]
  show (xs.map V.int)[_]? = _
  exact getD_map (by omega)
theorem deq_int {a b : Int} : decide (V.int a = V.int b) = decide (a = b) := by
  by_cases h : a = b
  · subst h; simp
  · rw [decide_eq_false h, decide_eq_false (fun q => h (V.int.inj q))]
/-- a test of two ints on equality -/
theorem ifEq {a b : Int} {X Y : Prop} (h1 : a = b → X) (h2 : a ≠ b → Y) : if decide (V.int a = V.int b) = true then X else Y := by
  rw [deq_int]
  exact ite2 (fun c => h1 (of_decide_eq_true c)) fun c => h2 fun e => c (decide_eq_true e)
theorem ifD {c X Y : Prop} [Decidable c] (h1 : c → X) (h2 : ¬ c → Y) : if decide c = true then X else Y :=
  ite2 (fun e => h1 (of_decide_eq_true e)) fun e => h2 fun q => e (decide_eq_true q)
def sp_value_at (K : PySem.W.Frag) (_ : Ad) : Sp := fun vs H Q _ => ∃ (l : Addr) (xs : List Int) (p g t : Int), vs = [.ref l, .int p, .int g, .int t] ∧
  SqL K H l (xs.map V.int) ∧ 0 < p ∧ p ≤ xs.length ∧ xs.length ≤ 1000 ∧ 0 ≤ t ∧ t < 2 ^ 62 ∧ Q (.int (cvAt xs p g t)) H
section
variable {P : Program} {w : World} {K : PySem.W.Frag} {mg : Str → Option Value} {base : Heap} {A : Ad}
theorem ok_value_at (T : Txt K mg A) : FnOk P w K mg base CX0 2 A.f_value_at A.d_value_at ["values", "period", "gain", "length"] (sp_value_at K A) := by
  have G_rounded_up := ok_rounded_up (P := P) (w := w) (base := base) T
  refine T.F_value_at.ok sc_value_at (fun vs H Q E h => ?_) (fun cdv A0 outer s H vs Q E hr h => ?_)
  · obtain ⟨l, xs, p, g, t, rfl, hS, hp, hpn, hn, ht, htb, q⟩ := h
    rfl
  · obtain ⟨l, xs, p, g, t, rfl, hS, hp, hpn, hn, ht, htb, q⟩ := h
    refine ⟨_, (pss_cons (ps_if (pt_cmpR op_eq (pv 3) pe_int (nomark _)) (pss_one (ps_ret pe_int)) pss_nil)
    (pss_cons (ps_if (pt_cmpR op_le (pv 3) (pe_callB (r := VG.rLen K) VG.call_len (by rfl) T.len (by decide +kernel) (pa_cons (pv 0) pa_nil)) (nomark _)) (pss_one (ps_ret (pe_ix (r := rIxL K) ix_list (pv 0) (pe_op op_sub (pv 3) pe_int) (fun _ _ => rfl)))) pss_nil)
    (pss_cons (ps_set (i := 4) sc_value_at.nd rfl (by first | exact Or.inl rfl | exact Or.inr rfl) (pe_call G_rounded_up (hr.mono (by decide)) rfl T.m_rounded_up T.k_rounded_up T.b_rounded_up .nil pass0 (pa_cons (pe_op op_sub (pv 3) (pe_callB (r := VG.rLen K) VG.call_len (by rfl) T.len (by decide +kernel) (pa_cons (pv 0) pa_nil))) (pa_cons (pv 1) pa_nil))))
    (pss_one (ps_ret (pe_op op_add (pe_ix (r := rIxL K) ix_list (pv 0) (pe_op op_sub (pe_op op_sub (pv 3) (pe_op op_mul (pv 4) (pv 1))) pe_int) (fun _ _ => rfl)) (pe_op op_mul (pv 4) (pv 2)))))))), ?_⟩
    refine ⟨_, rfl, rfl, _, rfl, ifEq (fun c => ?_) (fun c => ?_)⟩
    · subst c
      rw [cvAt_zero] at q
      exact q
    refine ⟨_, rfl, _, rfl, l, _, rfl, .inl hS, _, _, rfl, rfl, _, rfl, ifD (fun c1 => ?_) (fun c1 => ?_)⟩
    · rw [List.length_map] at c1
      rw [cvAt_in (by omega) c1] at q
      exact ⟨_, rfl, _, rfl, _, _, rfl, rfl, l, _, _, _, rfl, rfl, hS, at_map (by omega) (by omega), q⟩
    · rw [List.length_map] at c1
      obtain ⟨r1, r2, r3⟩ := rounds_spec (n := (xs.length : Int)) (t := t) hp (by omega)
      have rb : (t - (xs.length : Int) + p - 1) / p ≤ t := by
        have := Int.ediv_le_self p (show 0 ≤ t - (xs.length : Int) + p - 1 by omega)
        omega
      refine ⟨_, rfl, _, rfl, l, _, rfl, .inl hS, _, _, rfl, rfl, _, rfl, _, _, rfl, hp, by omega, ?_⟩
      rw [List.length_map]
      refine ⟨_, rfl, _, rfl, _, rfl, _, rfl, _, _, rfl, rfl, .inl ⟨by omega, by omega⟩, _, _, rfl, rfl, _, _, rfl, rfl, l, _, _, _, rfl, rfl, hS, at_map (by omega) (by omega),
        _, rfl, _, rfl, _, _, rfl, rfl, .inl ⟨by omega, by omega⟩, _, _, rfl, rfl, ?_⟩
      unfold cvAt at q
      rw [if_neg c, if_neg c1] at q
      exact q
end
end VK


namespace VK
open PySem PySem.Spec PyProof.Rows L2 VM
/-- f's values at 0, 1, .. below m -/
def row (f : Int → Int) (m : Nat) : List Int := (List.range m).map fun (i : Nat) => f i
theorem row_length {f : Int → Int} {m : Nat} : (row f m).length = m := by simp [row]
theorem row_getD {f : Int → Int} {m i : Nat} (h : i < m) : (row f m).getD i 0 = f i := by
  unfold row
  rw [List.getD_eq_getElem?_getD, List.getElem?_map, List.getElem?_range h]
  rfl
theorem at_row {f : Int → Int} {m : Nat} {i : Int} (h0 : 0 ≤ i) (h : i < m) : atI ((row f m).map V.int) i = some (.int (f i)) := by
  rw [at_map h0 (by rw [row_length]; exact h), row_getD (by omega)]
  congr 3; omega
theorem row_succ {f : Int → Int} {m : Nat} : row f (m + 1) = row f m ++ [f m] := by
  unfold row; rw [List.range_succ, List.map_append]; rfl
theorem rowI_succ {f : Int → Int} {m : Nat} : (row f (m + 1)).map V.int = (row f m).map V.int ++ [V.int (f m)] := by
  rw [row_succ, List.map_append]; rfl
theorem small {n : Nat} (h : n ≤ 16777215) : n < sizeLine := by rw [sizeLine_eq]; omega
/-- a new object leaves what was tracked -/
theorem Same.upd {H H' : Hp} {p : Addr} {o : HO} (e : Same H H') (h : H p = none) : Same H (upd H' p o) := fun b u q => by
  rw [upd_ne (ne_of_none q h)]; exact e b u q
theorem steps_eq {f : Int → Int} {n p d m M : Int} (hp : 0 < p)
    (h1 : m ∈ row (fun i => f (n + 1 + i) - f (n + 1 + i - d)) p.toNat) (h2 : ∀ y ∈ row (fun i => f (n + 1 + i) - f (n + 1 + i - d)) p.toNat, m ≤ y)
    (h4 : ∀ y ∈ row (fun i => f (n + 1 + i) - f (n + 1 + i - d)) p.toNat, y ≤ M) (h3 : M ∈ row (fun i => f (n + 1 + i) - f (n + 1 + i - d)) p.toNat) :
    m = M ↔ stepsEq f n p d = true := by
  have mem : ∀ y, y ∈ row (fun i => f (n + 1 + i) - f (n + 1 + i - d)) p.toNat ↔ ∃ i : Nat, i < p.toNat ∧ f (n + 1 + i) - f (n + 1 + i - d) = y := by
    intro y
    unfold row
    rw [List.mem_map]
    exact ⟨fun ⟨i, a, b⟩ => ⟨i, List.mem_range.mp a, b⟩, fun ⟨i, a, b⟩ => ⟨i, List.mem_range.mpr a, b⟩⟩
  have f0 := (mem (f (n + 1 + (0 : Nat)) - f (n + 1 + (0 : Nat) - d))).mpr ⟨0, by omega, rfl⟩
  have z : n + 1 + ((0 : Nat) : Int) = n + 1 := by omega
  rw [z] at f0
  unfold stepsEq
  rw [List.all_eq_true]
  constructor
  · intro e i hi
    have hy := (mem _).mpr ⟨i, List.mem_range.mp hi, rfl⟩
    have a := h2 _ hy; have b := h4 _ hy
    have c := h2 _ f0; have d' := h4 _ f0
    exact decide_eq_true (by omega)
  · intro h
    obtain ⟨i, hi, ei⟩ := (mem m).mp h1
    obtain ⟨j, hj, ej⟩ := (mem M).mp h3
    have a := of_decide_eq_true (h i (List.mem_range.mpr hi))
    have b := of_decide_eq_true (h j (List.mem_range.mpr hj))
    omega
def sp_least_period (K : PySem.W.Frag) (_ : Ad) : Sp := fun vs H Q _ => ∃ (l : Addr) (f : Int → Int) (n p : Int), vs = [.ref l, .int n, .int p] ∧
  SqL K H l ((row f (n + p + 1).toNat).map V.int) ∧ 0 < p ∧ 0 ≤ n ∧ p ≤ 1000 ∧ n ≤ 1000 ∧ p ≤ n ∧
  ∀ H' t, Same H H' → H t = none → H' t = some (.tup [.int (leastP f n p).1, .int (leastP f n p).2]) → Q (.ref t) H'
section
variable {P : Program} {w : World} {K : PySem.W.Frag} {mg : Str → Option Value} {base : Heap} {A : Ad}
theorem ok_least_period (T : Txt K mg A) : FnOk P w K mg base CX0 1 A.f_least_period A.d_least_period ["row", "many", "period"] (sp_least_period K A) := by
  refine T.F_least_period.ok sc_least_period (fun vs H Q E h => ?_) (fun cdv A0 outer s H vs Q E hr h => ?_)
  · obtain ⟨l, f, n, p, rfl, hS, hp, hn, hpb, hnb, hpn, k⟩ := h
    rfl
  · obtain ⟨l, f, n, p, rfl, hS, hp, hn, hpb, hnb, hpn, k⟩ := h
    refine ⟨_, (pss_cons (ps_for PassesOwn.never rfl (pi_range2 rfl T.range (pa_cons pe_int (pa_cons (pv 2) pa_nil))) (pg_name (i := 3) sc_least_period.nd rfl (by first | exact Or.inl rfl | exact Or.inr rfl))
      (pss_one (ps_if (pt_cmpR op_eq (pe_op op_mod (pv 2) (pv 3)) pe_int (nomark _)) (pss_cons (ps_setLc (i := 4) (own := [("length", 5)]) (g := gName 5) (tt := tYes) rfl sc_least_period.nd rfl rfl (sw_true rfl rfl rfl (by decide +kernel)) (pi_range2 rfl T.range (pa_cons (pe_op op_add (pv 1) pe_int) (pa_cons (pe_op op_add (pe_op op_add (pv 1) (pv 2)) pe_int) pa_nil))) (blkOk_by (own := [("length", 5)]) (N := ["row", "many", "period", "least", "steps", "length"]) (sc := defScope s_least_period) (by decide +kernel)) (fun _ _ _ _ _ => pg_name (i := 5) sc_least_period.nd rfl (by first | exact Or.inl rfl | exact Or.inr rfl)) (fun _ _ _ _ _ => pts_nil) (fun _ _ _ _ _ => (pe_op op_sub (pe_ix (r := rIxL K) ix_list (pv 0) (pv 5) (fun _ _ => rfl)) (pe_ix (r := rIxL K) ix_list (pv 0) (pe_op op_sub (pv 5) (pv 3)) (fun _ _ => rfl)))))
    (pss_one (ps_if (pt_cmpR op_eq (pe_callB (r := rMin K) (cr_min rfl) (by rfl) T.min (by decide +kernel) (pa_cons (pv 4) pa_nil)) (pe_callB (r := rMax K) (cr_max rfl) (by rfl) T.max (by decide +kernel) (pa_cons (pv 4) pa_nil)) (nomark _)) (pss_one (ps_ret (pe_tup (pa_cons (pv 3) (pa_cons (pe_ix (r := rIxL K) ix_list (pv 4) pe_int (fun _ _ => rfl)) pa_nil))))) pss_nil))) pss_nil)))
    (pss_one (ps_ret (pe_tup (pa_cons (pv 2) (pa_cons (pe_op op_sub (pe_ix (r := rIxL K) ix_list (pv 0) (pe_op op_add (pv 1) (pv 2)) (fun _ _ => rfl)) (pe_ix (r := rIxL K) ix_list (pv 0) (pv 1) (fun _ _ => rfl))) pa_nil)))))), ?_⟩
    refine ⟨_, rfl, _, _, rfl, ⟨by omega, by omega, by omega, by omega⟩, for_range (lo := 1) (n := (p - 1).toNat)
      (fun i σ H' => ∃ v3 v4 v5, σ = [some (.ref l), some (.int n), some (.int p), v3, v4, v5] ∧ Same H H' ∧ leastP f n p = leastFrom f n p ((p - 1).toNat - i) (1 + i))
      ⟨_, _, _, rfl, Same.refl H, rfl⟩ ?_ ?_⟩
    · rintro i' σ H' hi ⟨v3, v4, v5, rfl, s0, e⟩
      have ek : (p - 1).toNat - i' = ((p - 1).toNat - (i' + 1)) + 1 := by omega
      rw [ek] at e
      unfold leastFrom at e
      refine ⟨_, rfl, _, rfl, _, _, rfl, rfl, (show (0 : Int) < 1 + i' by omega), rfl, _, rfl, ifEq (fun c => ?_) (fun c => ?_)⟩
      · refine ⟨_, rfl, _, _, rfl, rfl, _, rfl, _, rfl, _, _, rfl, rfl, _, _, rfl, rfl, _, _, rfl, ⟨by omega, by omega, by omega, by omega⟩, fun D hD => lc_range (lo := n + 1) (n := (n + p + 1 - (n + 1)).toNat)
          (fun j H2 => H2 D = some (.lst ((row (fun i => f (n + 1 + i) - f (n + 1 + i - (1 + i'))) j).map V.int)) ∧ Same H H2) ?_ ?_ ?_⟩
        · exact ⟨upd_same, Same.upd s0 (s0.free hD)⟩
        · rintro j H2 hj ⟨hD2, s2⟩
          refine ⟨rfl, _, rfl, _, rfl, l, _, _, _, rfl, rfl, s2.seq hS, at_row (by omega) (by omega), _, rfl, _, rfl, _, rfl, _, _, rfl, rfl, l, _, _, _, rfl, rfl, s2.seq hS, at_row (by omega) (by omega), _, _, rfl, rfl,
            _, hD2, small (by rw [List.length_map, row_length]; omega), ?_, ?_⟩
          · rw [upd_same, rowI_succ]
          · exact Same.upd s2 (s0.free hD)
        · rintro H2 ⟨hD2, s2⟩
          have eN : (n + p + 1 - (n + 1)).toNat = p.toNat := by omega
          rw [eN] at hD2
          have hl : 0 < (row (fun i => f (n + 1 + i) - f (n + 1 + i - (1 + i'))) p.toNat).length := by rw [row_length]; omega
          refine ⟨_, rfl, D, _, rfl, SqL.of hD2, hl, fun m hm hm2 => ?_⟩
          refine ⟨_, rfl, D, _, rfl, SqL.of hD2, hl, fun M hM hM2 => ?_⟩
          have key := steps_eq hp hm hm2 hM2 hM
          refine ⟨rfl, _, rfl, ifEq (fun c2 => ?_) (fun c2 => ?_)⟩
          · refine ⟨_, rfl, _, rfl, D, _, _, _, rfl, rfl, SqL.of hD2, at_row (by omega) (by omega), (by show 2 ≤ sizeLine; decide), fun t ht => ?_⟩
            rw [if_pos ⟨c, key.mp c2⟩] at e
            refine k _ t (Same.upd s2 (s2.free ht)) (s2.free ht) ?_
            rw [upd_same, e]
            simp
          · refine ⟨_, _, _, rfl, s2, ?_⟩
            rw [if_neg (fun z => c2 (key.mpr z.2))] at e
            rw [e]
            congr 1
      · refine ⟨_, _, _, rfl, s0, ?_⟩
        rw [if_neg (fun z => c z.1)] at e
        rw [e]
        congr 1
    · rintro σ H' ⟨v3, v4, v5, rfl, s0, e⟩
      rw [Nat.sub_self] at e
      unfold leastFrom at e
      refine ⟨_, rfl, _, rfl, _, rfl, _, rfl, _, _, rfl, rfl, l, _, _, _, rfl, rfl, s0.seq hS, at_row (by omega) (by omega), _, rfl, _, rfl, l, _, _, _, rfl, rfl, s0.seq hS, at_row (by omega) (by omega), _, _, rfl, rfl, (by show 2 ≤ sizeLine; decide), fun t ht => ?_⟩
      refine k _ t (Same.upd s0 (s0.free ht)) (s0.free ht) ?_
      rw [upd_same, e]
end
end VK


namespace VK
open PySem PySem.Spec PyProof.Rows L2 VM
theorem cut_nat {xs : List V} {a b : Nat} (h1 : a ≤ xs.length) (h2 : b ≤ xs.length) : cutV xs (some (a : Int)) (some (b : Int)) = (xs.drop a).take (b - a) := by
  unfold cutV
  rw [HT.sIx_nat, HT.sIx_nat, Nat.min_eq_left h1, Nat.min_eq_left h2]
theorem cut_row {f : Int → Int} {N m : Nat} (h : m < N) : cutV ((row f N).map V.int) (some 1) (some ((m : Int) + 1)) = (vals f m).map V.int := by
  have e1 : (1 : Int) = ((1 : Nat) : Int) := rfl
  have e2 : (m : Int) + 1 = ((m + 1 : Nat) : Int) := by omega
  rw [e2]
  rw [show (some 1 : Option Int) = some ((1 : Nat) : Int) from rfl, cut_nat (by rw [List.length_map, row_length]; omega) (by rw [List.length_map, row_length]; omega)]
  rw [← List.map_drop, ← List.map_take]
  congr 1
  apply List.ext_getElem?
  intro i
  unfold row vals
  by_cases hi : i < m
  · rw [List.getElem?_take_of_lt (by omega), List.getElem?_drop, List.getElem?_map, List.getElem?_map, List.getElem?_range (by omega), List.getElem?_range (by omega)]
    simp only [Option.map_some]
    congr 2
    omega
  · rw [List.getElem?_eq_none (by simp; omega), List.getElem?_eq_none (by simp; omega)]
def sp_least_form (K : PySem.W.Frag) (_ : Ad) : Sp := fun vs H Q _ => ∃ (l : Addr) (xs : List Int) (p g : Int), vs = [.ref l, .int p, .int g] ∧
  SqL K H l (xs.map V.int) ∧ 0 < p ∧ p ≤ xs.length ∧ xs.length ≤ 1000 ∧
  ∀ H' t l', Same H H' → H t = none → H l' = none → H' t = some (.tup [.ref l', .int (formP xs p g).1, .int (formP xs p g).2]) → H' l' = some (.lst ((formV xs p g).map V.int)) → Q (.ref t) H'
section
variable {P : Program} {w : World} {K : PySem.W.Frag} {mg : Str → Option Value} {base : Heap} {A : Ad}
theorem ok_least_form (T : Txt K mg A) : FnOk P w K mg base CX0 3 A.f_least_form A.d_least_form ["values", "period", "gain"] (sp_least_form K A) := by
  have G_least_period := ok_least_period (P := P) (w := w) (base := base) T
  have G_value_at := ok_value_at (P := P) (w := w) (base := base) T
  refine T.F_least_form.ok sc_least_form (fun vs H Q E h => ?_) (fun cdv A0 outer s H vs Q E hr h => ?_)
  · obtain ⟨l, xs, p, g, rfl, hS, hp, hpn, hn, k⟩ := h
    rfl
  · obtain ⟨l, xs, p, g, rfl, hS, hp, hpn, hn, k⟩ := h
    refine ⟨_, (pss_cons (ps_set (i := 3) sc_least_form.nd rfl (by first | exact Or.inl rfl | exact Or.inr rfl) (pe_callB (r := VG.rLen K) VG.call_len (by rfl) T.len (by decide +kernel) (pa_cons (pv 0) pa_nil)))
    (pss_cons (ps_setLc (i := 4) (own := [("length", 7)]) (g := gName 7) (tt := tYes) rfl sc_least_form.nd rfl rfl (sw_true rfl rfl rfl (by decide +kernel)) (pi_range1 rfl T.range (pa_cons (pe_op op_add (pe_op op_add (pv 3) (pv 1)) pe_int) pa_nil)) (blkOk_by (own := [("length", 7)]) (N := ["values", "period", "gain", "many", "row", "least", "step", "length"]) (sc := defScope s_least_form) (by decide +kernel)) (fun _ _ _ _ _ => pg_name (i := 7) sc_least_form.nd rfl (by first | exact Or.inl rfl | exact Or.inr rfl)) (fun _ _ _ _ _ => pts_nil) (fun _ _ _ _ _ => (pe_call G_value_at (hr.mono (by decide)) rfl T.m_value_at T.k_value_at T.b_value_at .nil pass0 (pa_cons (pv 0) (pa_cons (pv 1) (pa_cons (pv 2) (pa_cons (pv 7) pa_nil)))))))
    (pss_cons (ps_asg (pe_call G_least_period (hr.mono (by decide)) rfl T.m_least_period T.k_least_period T.b_least_period .nil pass0 (pa_cons (pv 4) (pa_cons (pv 3) (pa_cons (pv 1) pa_nil)))) (pg_tup rfl (pgs_cons (pg_name (i := 5) sc_least_form.nd rfl (by first | exact Or.inl rfl | exact Or.inr rfl)) (pgs_cons (pg_name (i := 6) sc_least_form.nd rfl (by first | exact Or.inl rfl | exact Or.inr rfl)) pgs_nil))))
    (pss_cons (ps_while PassesOwn.never (PW.pt (pw_and (pt_cmpR op_gt (pv 3) (pv 5) (nomark _)) (pw_and1 (pt_cmpR op_eq (pe_ix (r := rIxL K) ix_list (pv 4) (pv 3) (fun _ _ => rfl)) (pe_op op_add (pe_ix (r := rIxL K) ix_list (pv 4) (pe_op op_sub (pv 3) (pv 5)) (fun _ _ => rfl)) (pv 6)) (nomark _))))) (pss_one (ps_aug (i := 3) sc_least_form.nd rfl (.inl rfl) pe_int ip_sub)))
    (pss_one (ps_ret (pe_tup (pa_cons (pe_slice (r := rSlL K) sl_list (pv 4) (po_some pe_int) (po_some (pe_op op_add (pv 3) pe_int))) (pa_cons (pv 5) (pa_cons (pv 6) pa_nil)))))))))), ?_⟩
    refine ⟨_, rfl, l, _, rfl, .inl hS, ?_⟩
    rw [List.length_map]
    refine ⟨_, rfl, _, rfl, _, _, rfl, rfl, _, _, rfl, rfl, _, rfl, by omega, by omega, fun D hD => lc_range (lo := 0) (n := ((xs.length : Int) + p + 1).toNat)
      (fun j H2 => H2 D = some (.lst ((row (cvAt xs p g) j).map V.int)) ∧ Same H H2) ?_ ?_ ?_⟩
    · exact ⟨upd_same, Same.upd (Same.refl H) hD⟩
    · rintro j H2 hj ⟨hD2, s2⟩
      refine ⟨rfl, _, rfl, _, rfl, _, rfl, _, rfl, l, xs, p, g, _, rfl, s2.seq hS, hp, hpn, hn, by omega, by omega, _, hD2, small (by rw [List.length_map, row_length]; omega), ?_, ?_⟩
      · rw [upd_same, rowI_succ]
        rw [Int.zero_add]
      · exact Same.upd s2 hD
    · rintro H2 ⟨hD2, s2⟩
      refine ⟨_, rfl, _, rfl, _, rfl, D, cvAt xs p g, xs.length, p, rfl, SqL.of hD2, hp, by omega, by omega, by omega, hpn, fun H3 t s3 ht0 ht => ?_⟩
      refine ⟨t, _, rfl, .inl (.inl ht), rfl, _, _, rfl, _, _, rfl, rfl, ?_⟩
      obtain ⟨q1, q2, q3⟩ := leastP_spec (Rep.cvAt (g := g) hp hpn) hp
      have hP : formP xs p g = leastP (cvAt xs p g) xs.length p := rfl
      rw [← hP] at q1 q2 ht ⊢
      generalize hd : (formP xs p g).1 = d at *
      generalize hs : (formP xs p g).2 = st at *
      refine ⟨fun (m : Nat) (σ : L2.St) (H' : Hp) => σ = [some (.ref l), some (.int p), some (.int g), some (.int (m : Nat)), some (.ref D), some (.int d), some (.int st), none] ∧ Same H2 H' ∧ m ≤ xs.length ∧ d ≤ m ∧
        shr (cvAt xs p g) d st xs.length = shr (cvAt xs p g) d st m, ⟨xs.length, rfl, s3, Nat.le_refl _, by omega, rfl⟩, ?_⟩
      rintro m σ H4 ⟨rfl, s4, hm, hdm, e⟩
      have hD4 := s4 _ _ hD2
      have s4' : Same H H4 := s2.trans s4
      refine ⟨_, rfl, _, rfl, _, _, rfl, rfl, _, rfl, ifD (fun c => ?_) (fun c => ?_)⟩
      · refine ⟨_, rfl, _, rfl, D, _, _, _, rfl, rfl, SqL.of hD4, at_row (by omega) (by omega), _, rfl, _, rfl, _, rfl, _, _, rfl, rfl, D, _, _, _, rfl, rfl, SqL.of hD4, at_row (by omega) (by omega), _, rfl, _, _, rfl, rfl, rfl, _, rfl, ifEq (fun c2 => ?_) (fun c2 => ?_)⟩
        · refine ⟨fun σ' H' => σ' = [some (.ref l), some (.int p), some (.int g), some (.int ((m : Int) - 1)), some (.ref D), some (.int d), some (.int st), none] ∧ H' = H4, ?_, ?_⟩
          · rintro σ' H' ⟨rfl, rfl⟩
            refine ⟨m - 1, by omega, ?_, s4, by omega, by omega, ?_⟩
            · rw [show (m : Int) - 1 = ((m - 1 : Nat) : Int) by omega]
            · rw [e]
              obtain ⟨m, rfl⟩ : ∃ m', m = m' + 1 := ⟨m - 1, by omega⟩
              show shr (cvAt xs p g) d st (m + 1) = shr (cvAt xs p g) d st m
              conv => lhs; unfold shr
              rw [if_pos ⟨c, c2⟩]
          · exact ⟨_, rfl, _, _, rfl, rfl, rfl, rfl⟩
        · refine ⟨_, rfl, _, rfl, _, rfl, _, _, rfl, rfl, _, rfl, D, _, rfl, SqL.of hD4, fun l' hl' => ⟨_, rfl, _, rfl, (by show 3 ≤ sizeLine; decide), fun t' ht' => ?_⟩⟩
          have em : formM xs p g = m := by
            unfold formM
            rw [hd, hs, e]
            cases m with
            | zero => rfl
            | succ m =>
              unfold shr
              rw [if_neg (fun z => c2 z.2)]
          have nl : l' ≠ t' := fun z => by rw [← z, upd_same] at ht'; cases ht'
          have ht4 : H4 t' = none := by rw [upd_ne (Ne.symm nl)] at ht'; exact ht'
          refine k _ t' l' (Same.upd (Same.upd s4' (s4'.free hl')) (s4'.free ht4)) (s4'.free ht4) (s4'.free hl') upd_same ?_
          rw [upd_ne nl, upd_same]
          unfold formV
          rw [em, cut_row (by omega)]
      · refine ⟨_, rfl, _, rfl, _, rfl, _, _, rfl, rfl, _, rfl, D, _, rfl, SqL.of hD4, fun l' hl' => ⟨_, rfl, _, rfl, (by show 3 ≤ sizeLine; decide), fun t' ht' => ?_⟩⟩
        have em : formM xs p g = m := by
          unfold formM
          rw [hd, hs, e]
          cases m with
            | zero => rfl
            | succ m =>
              unfold shr
              rw [if_neg (fun z => c z.1)]
        have nl : l' ≠ t' := fun z => by rw [← z, upd_same] at ht'; cases ht'
        have ht4 : H4 t' = none := by rw [upd_ne (Ne.symm nl)] at ht'; exact ht'
        refine k _ t' l' (Same.upd (Same.upd s4' (s4'.free hl')) (s4'.free ht4)) (s4'.free ht4) (s4'.free hl') upd_same ?_
        rw [upd_ne nl, upd_same]
        unfold formV
        rw [em, cut_row (by omega)]
end
end VK


namespace VK
open PySem PySem.Spec PyProof.Rows L2 VM
theorem Kd.list {K : PySem.W.Frag} {H : Hp} {l : Addr} {xs : List V} (h : SqL K H l xs) : Kd K H (.ref l) "list" := by
  refine ⟨?_, by decide⟩
  rcases h with (h | ⟨o, h⟩) | ⟨o, its, n, h1, h2, _⟩
  · exact .base (.lst h)
  · exact .base (.frz h)
  · exact .kList h1 h2
/-- a curve as it may be written -/
structure OkRow (xs : List Int) (p g : Int) : Prop where
  l1 : 1 ≤ xs.length
  l2 : xs.length ≤ 24
  lo : ∀ i, i < xs.length → 0 ≤ xs.getD i 0
  hi : ∀ i, i < xs.length → xs.getD i 0 ≤ 2000
  up : ∀ i, i + 1 < xs.length → xs.getD i 0 ≤ xs.getD (i + 1) 0
  per : p = 1 ∨ p = 2 ∨ p = 3 ∨ p = 4 ∨ p = 6 ∨ p = 12
  pn : p ≤ xs.length
  g0 : 0 ≤ g
  g1 : g ≤ 2000
  last : xs.getD (xs.length - 1) 0 ≤ xs.getD (xs.length - p.toNat) 0 + g
def sp_find_problem (K : PySem.W.Frag) (_ : Ad) : Sp := fun vs H Q _ => ∃ (l : Addr) (xs : List Int) (p g : Int), vs = [.ref l, .int p, .int g] ∧
  SqL K H l (xs.map V.int) ∧ OkRow xs p g ∧ ∀ H', Same H H' → Q .non H'
section
variable {P : Program} {w : World} {K : PySem.W.Frag} {mg : Str → Option Value} {base : Heap} {A : Ad}
theorem ok_find_problem (T : Txt K mg A) : FnOk P w K mg base CX0 4 A.f_find_problem A.d_find_problem ["values", "period", "gain"] (sp_find_problem K A) := by
  have G_is_count_to := ok_is_count_to (P := P) (w := w) (base := base) T
  have G_is_integer := ok_is_integer (P := P) (w := w) (base := base) T
  refine T.F_find_problem.ok sc_find_problem (fun vs H Q E h => ?_) (fun cdv A0 outer s H vs Q E hr h => ?_)
  · obtain ⟨l, xs, p, g, rfl, hS, R, k⟩ := h
    rfl
  · obtain ⟨l, xs, p, g, rfl, hS, R, k⟩ := h
    refine ⟨_, (pss_cons (ps_if (pt_not (pt_val (pe_callB (r := rIsi K) call_isi (by rfl) T.isinstance (by decide +kernel) (pa_cons (pv 0) (pa_cons (pe_bltn (v := .ty "list") (u := .type "list") (by rfl) T.list (by decide +kernel) (by exact rfl)) pa_nil))))) (pss_one (ps_ret (pe_tup (pa_cons pe_str (pa_cons pe_int pa_nil))))) pss_nil)
    (pss_cons (ps_if (pt_not (pt_chain op_le op_le pe_int (pe_callB (r := VG.rLen K) VG.call_len (by rfl) T.len (by decide +kernel) (pa_cons (pv 0) pa_nil)) (pe_glob (v := .int 24) rfl T.v_MAX_VALUES ⟨_, rfl⟩))) (pss_one (ps_ret (pe_tup (pa_cons pe_str (pa_cons pe_int pa_nil))))) pss_nil)
    (pss_cons (ps_set (i := 3) sc_find_problem.nd rfl (by first | exact Or.inl rfl | exact Or.inr rfl) pe_int)
    (pss_cons (ps_for PassesOwn.never rfl (pi_enum (by rfl) T.enumerate (pa_cons (pv 0) pa_nil)) (pg_tup rfl (pgs_cons (pg_name (i := 4) sc_find_problem.nd rfl (by first | exact Or.inl rfl | exact Or.inr rfl)) (pgs_cons (pg_name (i := 5) sc_find_problem.nd rfl (by first | exact Or.inl rfl | exact Or.inr rfl)) pgs_nil)))
      (pss_cons (ps_if (PW.pt (pw_or (pt_not (pt_val (pe_call G_is_count_to (hr.mono (by decide)) rfl T.m_is_count_to T.k_is_count_to T.b_is_count_to .nil pass0 (pa_cons (pv 5) (pa_cons (pe_glob (v := .int 2000) rfl T.v_MAX_VALUE ⟨_, rfl⟩) pa_nil))))) (pw_or1 (pt_cmpR op_lt (pv 5) (pv 3) (nomark _))))) (pss_one (ps_ret (pe_tup (pa_cons pe_str (pa_cons (pv 4) pa_nil))))) pss_nil)
    (pss_one (ps_set (i := 3) sc_find_problem.nd rfl (by first | exact Or.inl rfl | exact Or.inr rfl) (pv 5)))))
    (pss_cons (ps_if (PW.pt (pw_or (pt_not (pt_val (pe_call G_is_integer (hr.mono (by decide)) rfl T.m_is_integer T.k_is_integer T.b_is_integer .nil pass0 (pa_cons (pv 1) pa_nil)))) (pw_or (pt_cmpR (r := rIn K true) op_notIn_seq (pv 1) (pe_glob (v := .ref A.a_PERIODS) rfl T.v_PERIODS rfl) (by rfl)) (pw_or1 (pt_cmpR op_gt (pv 1) (pe_callB (r := VG.rLen K) VG.call_len (by rfl) T.len (by decide +kernel) (pa_cons (pv 0) pa_nil)) (nomark _)))))) (pss_one (ps_ret (pe_tup (pa_cons pe_str (pa_cons pe_int pa_nil))))) pss_nil)
    (pss_cons (ps_if (PW.pt (pw_or (pt_not (pt_val (pe_call G_is_count_to (hr.mono (by decide)) rfl T.m_is_count_to T.k_is_count_to T.b_is_count_to .nil pass0 (pa_cons (pv 2) (pa_cons (pe_glob (v := .int 2000) rfl T.v_MAX_VALUE ⟨_, rfl⟩) pa_nil))))) (pw_or1 (pt_cmpR op_lt (pe_op op_add (pe_ix (r := rIxL K) ix_list (pv 0) (pe_un un_neg (pv 1)) (fun _ _ => rfl)) (pv 2)) (pe_ix (r := rIxL K) ix_list (pv 0) (pe_un un_neg pe_int) (fun _ _ => rfl)) (nomark _))))) (pss_one (ps_ret (pe_tup (pa_cons pe_str (pa_cons pe_int pa_nil))))) pss_nil)
    (pss_one (ps_ret pe_non)))))))), ?_⟩
    refine ⟨_, rfl, .ref l, .ty "list", _, _, _, rfl, .ty _, (Kd.list hS).1, (show PySem.W.kitOne K (.type "list") (.type "list") = some true from kit_ty (by decide +kernel)), _, rfl, iteF ?_⟩
    have l1 := R.l1
    have l2 := R.l2
    refine ⟨_, rfl, l, _, rfl, .inl hS, _, _, rfl, rfl, _, rfl, ?_⟩
    rw [List.length_map]
    refine ifD (fun _ => ?_) (fun c => absurd (show (1 : Int) ≤ xs.length by omega) c)
    refine ⟨_, _, rfl, rfl, _, rfl, iteNS (by omega) ?_⟩
    -- before = 0; the loop
    refine ⟨_, rfl, l, _, rfl, hS, for_it (walk_enum (K := K) (a := l) (xs := xs.map V.int)) (fun i σ H' => ∃ v5 v6, σ = [some (.ref l), some (.int p), some (.int g), some (.int (if i = 0 then 0 else xs.getD (i - 1) 0)), v5, v6] ∧ Same H H')
      ⟨_, _, rfl, Same.refl H⟩ (fun i σ H' _ ⟨_, _, _, s0⟩ => s0.seq hS) ?_ ?_⟩
    · rintro i x σ H' H2 hi ⟨v5, v6, rfl, s0⟩ ⟨t, a, b, rfl, ht, rfl, ea, eb⟩
      rw [List.length_map] at hi
      have eb' : (xs.map V.int)[i]? = some b := eb
      rw [getD_map hi] at eb'
      cases ea
      cases eb'
      have s2 : Same H (upd H' t (.tup [.int (i : Nat), .int (xs.getD i 0)])) := Same.upd s0 (s0.free ht)
      refine ⟨t, _, rfl, SqT.of upd_same, rfl, _, _, rfl, _, _, rfl, rfl, ?_⟩
      have r1 := R.lo i hi
      have r2 := R.hi i hi
      refine ⟨_, rfl, _, _, _, rfl, Kd.int _, _, rfl, ?_⟩
      have e1 : cntTo 2000 (.int (xs.getD i 0)) = true := by unfold cntTo; exact decide_eq_true ⟨r1, r2⟩
      rw [e1]
      refine iteF ⟨_, rfl, _, rfl, _, _, rfl, rfl, _, rfl, ?_⟩
      refine ifD (fun c => ?_) (fun c => ?_)
      · exfalso
        by_cases z : i = 0
        · rw [if_pos z] at c; omega
        · rw [if_neg z] at c
          have := R.up (i - 1) (by omega)
          rw [show i - 1 + 1 = i by omega] at this
          omega
      · refine ⟨_, rfl, some (.int (i : Nat)), some (.int (xs.getD i 0)), ?_, s2⟩
        rw [if_neg (Nat.succ_ne_zero i)]
        rfl
    · rintro σ H' ⟨v5, v6, rfl, s0⟩
      have hS' := s0.seq hS
      have pn := R.pn
      have g0 := R.g0
      have g1 := R.g1
      have last := R.last
      have pp : 0 < p ∧ p ≤ 12 := by rcases R.per with h | h | h | h | h | h <;> omega
      refine ⟨_, rfl, _, _, rfl, Kd.int _, _, rfl, iteF ?_⟩
      have inP : inV (.int p) [.int 1, .int 2, .int 3, .int 4, .int 6, .int 12] = true := by
        rcases R.per with h | h | h | h | h | h <;> subst h <;> decide
      refine ⟨_, rfl, A.a_PERIODS, _, rfl, .inr (T.periods H'), rfl, rfl, _, rfl, ?_⟩
      rw [inP]
      refine iteF ⟨_, rfl, _, rfl, l, _, rfl, .inl hS', _, _, rfl, rfl, _, rfl, ?_⟩
      rw [List.length_map]
      refine ifD (fun c => absurd pn (by omega)) (fun _ => ?_)
      have e1 : cntTo 2000 (.int g) = true := by unfold cntTo; exact decide_eq_true ⟨g0, g1⟩
      refine ⟨_, rfl, _, _, _, rfl, Kd.int _, _, rfl, ?_⟩
      rw [e1]
      refine iteF ⟨_, rfl, _, rfl, _, rfl, l, _, _, _, rfl, rfl, hS', at_back (by omega) (by omega), _, rfl, _, _, rfl, rfl, _, rfl, _, rfl, l, _, _, _, rfl, rfl, hS', at_back (by omega) (by omega), _, _, rfl, rfl, _, rfl, ?_⟩
      refine ifD (fun c => ?_) (fun _ => k H' s0)
      exfalso
      rw [show (-p + (xs.length : Int)).toNat = xs.length - p.toNat by omega, show (-1 + (xs.length : Int)).toNat = xs.length - 1 by omega] at c
      omega
end
end VK


namespace VK
open PySem PySem.Spec PyProof.Rows L2 VM
/-- the attributes of a curve -/
def cfs (l : Addr) (p g : Int) (w : Bool) (b : V) : List (Str × V) := [("_values", V.ref l), ("_period", V.int p), ("_gain", V.int g), ("_was_searched", V.bl w), ("_break", b)]
theorem n_vp : ¬ (("_values" : Str) = "_period") := by decide +kernel
theorem n_vg : ¬ (("_values" : Str) = "_gain") := by decide +kernel
theorem n_pg : ¬ (("_period" : Str) = "_gain") := by decide +kernel
theorem n_vw : ¬ (("_values" : Str) = "_was_searched") := by decide +kernel
theorem n_pw : ¬ (("_period" : Str) = "_was_searched") := by decide +kernel
theorem n_gw : ¬ (("_gain" : Str) = "_was_searched") := by decide +kernel
theorem n_vb : ¬ (("_values" : Str) = "_break") := by decide +kernel
theorem n_pb : ¬ (("_period" : Str) = "_break") := by decide +kernel
theorem n_gb : ¬ (("_gain" : Str) = "_break") := by decide +kernel
theorem n_wb : ¬ (("_was_searched" : Str) = "_break") := by decide +kernel
theorem put1 (v : V) : putF "_values" v [] = [(("_values" : Str), v)] := rfl
theorem put2 (v u : V) : putF "_period" u [(("_values" : Str), v)] = [(("_values" : Str), v), ("_period", u)] := by
  show (if ("_values" : Str) = "_period" then _ else (("_values" : Str), v) :: putF "_period" u []) = _
  rw [if_neg n_vp]
  rfl
theorem put3 (v u z : V) : putF "_gain" z [(("_values" : Str), v), ("_period", u)] = [(("_values" : Str), v), ("_period", u), ("_gain", z)] := by
  show (if ("_values" : Str) = "_gain" then _ else (("_values" : Str), v) :: (if ("_period" : Str) = "_gain" then _ else (("_period" : Str), u) :: putF "_gain" z [])) = _
  rw [if_neg n_vg, if_neg n_pg]
  rfl
theorem put4 (v u z y : V) : putF "_was_searched" y [(("_values" : Str), v), ("_period", u), ("_gain", z)] = [(("_values" : Str), v), ("_period", u), ("_gain", z), ("_was_searched", y)] := by
  show (if ("_values" : Str) = "_was_searched" then _ else (("_values" : Str), v) :: (if ("_period" : Str) = "_was_searched" then _ else (("_period" : Str), u) :: (if ("_gain" : Str) = "_was_searched" then _ else (("_gain" : Str), z) :: putF "_was_searched" y []))) = _
  rw [if_neg n_vw, if_neg n_pw, if_neg n_gw]
  rfl
theorem put5 (v u z y x : V) : putF "_break" x [(("_values" : Str), v), ("_period", u), ("_gain", z), ("_was_searched", y)] = [(("_values" : Str), v), ("_period", u), ("_gain", z), ("_was_searched", y), ("_break", x)] := by
  show (if ("_values" : Str) = "_break" then _ else (("_values" : Str), v) :: (if ("_period" : Str) = "_break" then _ else (("_period" : Str), u) :: (if ("_gain" : Str) = "_break" then _ else (("_gain" : Str), z) :: (if ("_was_searched" : Str) = "_break" then _ else (("_was_searched" : Str), y) :: putF "_break" x [])))) = _
  rw [if_neg n_vb, if_neg n_pb, if_neg n_gb, if_neg n_wb]
  rfl
theorem cset_w (l : Addr) (p g : Int) (w : Bool) (b : V) : putF "_was_searched" (.bl true) (cfs l p g w b) = cfs l p g true b := by
  show (if ("_values" : Str) = "_was_searched" then _ else (("_values" : Str), V.ref l) :: (if ("_period" : Str) = "_was_searched" then _ else (("_period" : Str), V.int p) :: (if ("_gain" : Str) = "_was_searched" then _ else (("_gain" : Str), V.int g) :: (if ("_was_searched" : Str) = "_was_searched" then _ else _)))) = _
  rw [if_neg n_vw, if_neg n_pw, if_neg n_gw, if_pos rfl]
  rfl
theorem cset_b (l : Addr) (p g : Int) (w : Bool) (b c : V) : putF "_break" c (cfs l p g w b) = cfs l p g w c := by
  show (if ("_values" : Str) = "_break" then _ else (("_values" : Str), V.ref l) :: (if ("_period" : Str) = "_break" then _ else (("_period" : Str), V.int p) :: (if ("_gain" : Str) = "_break" then _ else (("_gain" : Str), V.int g) :: (if ("_was_searched" : Str) = "_break" then _ else (("_was_searched" : Str), V.bl w) :: (if ("_break" : Str) = "_break" then _ else _))))) = _
  rw [if_neg n_vb, if_neg n_pb, if_neg n_gb, if_neg n_wb, if_pos rfl]
  rfl
theorem cfs_v (l : Addr) (p g : Int) (w : Bool) (b : V) : (cfs l p g w b).lookup ("_values" : Str) = some (.ref l) := by
  unfold cfs; simp [List.lookup]
theorem cfs_p (l : Addr) (p g : Int) (w : Bool) (b : V) : (cfs l p g w b).lookup ("_period" : Str) = some (.int p) := by
  have h : (("_period" : Str) == "_values") = false := by decide +kernel
  unfold cfs; simp [List.lookup, h]
theorem cfs_g (l : Addr) (p g : Int) (w : Bool) (b : V) : (cfs l p g w b).lookup ("_gain" : Str) = some (.int g) := by
  have h : (("_gain" : Str) == "_values") = false := by decide +kernel
  have h2 : (("_gain" : Str) == "_period") = false := by decide +kernel
  unfold cfs; simp [List.lookup, h, h2]
theorem cfs_w (l : Addr) (p g : Int) (w : Bool) (b : V) : (cfs l p g w b).lookup ("_was_searched" : Str) = some (.bl w) := by
  have h : (("_was_searched" : Str) == "_values") = false := by decide +kernel
  have h2 : (("_was_searched" : Str) == "_period") = false := by decide +kernel
  have h3 : (("_was_searched" : Str) == "_gain") = false := by decide +kernel
  unfold cfs; simp [List.lookup, h, h2, h3]
theorem cfs_b (l : Addr) (p g : Int) (w : Bool) (b : V) : (cfs l p g w b).lookup ("_break" : Str) = some b := by
  have h : (("_break" : Str) == "_values") = false := by decide +kernel
  have h2 : (("_break" : Str) == "_period") = false := by decide +kernel
  have h3 : (("_break" : Str) == "_gain") = false := by decide +kernel
  have h4 : (("_break" : Str) == "_was_searched") = false := by decide +kernel
  unfold cfs; simp [List.lookup, h, h2, h3, h4]
theorem cfs_no (l : Addr) (p g : Int) {w : Bool} {b : V} {m : Str} (h1 : (m == ("_values" : Str)) = false) (h2 : (m == ("_period" : Str)) = false) (h3 : (m == ("_gain" : Str)) = false) (h4 : (m == ("_was_searched" : Str)) = false := by decide +kernel) (h5 : (m == ("_break" : Str)) = false := by decide +kernel) : (cfs l p g w b).lookup m = none := by
  unfold cfs; simp [List.lookup, h1, h2, h3, h4, h5]
/-- a curve whose form is this -/
def CrvAt (A : Ad) (H : Hp) (x : Addr) (vs : List Int) (p g : Int) : Prop := ∃ dx l w b, H x = some (.ins A.Curve dx (cfs l p g w b)) ∧ H l = some (.lst (vs.map V.int))
theorem CrvAt.same {A : Ad} {H H' : Hp} {x : Addr} {vs : List Int} {p g : Int} (h : CrvAt A H x vs p g) (s : Same H H') : CrvAt A H' x vs p g := by
  obtain ⟨dx, l, w, b, h1, h2⟩ := h
  exact ⟨dx, l, w, b, s _ _ h1, s _ _ h2⟩
def sp_C_init (K : PySem.W.Frag) (A : Ad) : Sp := fun vs H Q _ => ∃ (x dx l : Addr) (xs : List Int) (p g : Int), vs = [.ref x, .ref l, .int p, .int g] ∧
  H x = some (.ins A.Curve dx []) ∧ SqL K H l (xs.map V.int) ∧ OkRow xs p g ∧
  ∀ H' dx' l', (∀ b o, b ≠ x → H b = some o → H' b = some o) → H l' = none → H' x = some (.ins A.Curve dx' (cfs l' (formP xs p g).1 (formP xs p g).2 false .non)) → H' l' = some (.lst ((formV xs p g).map V.int)) → Q .non H'
def sp_C_at (K : PySem.W.Frag) (A : Ad) : Sp := fun vs H Q _ => ∃ (x : Addr) (xs : List Int) (p g t : Int), vs = [.ref x, .int t] ∧
  CrvAt A H x xs p g ∧ 0 < p ∧ p ≤ xs.length ∧ xs.length ≤ 1000 ∧ 0 ≤ t ∧ t < 2 ^ 62 ∧ Q (.int (cvAt xs p g t)) H
section
variable {P : Program} {w : World} {K : PySem.W.Frag} {mg : Str → Option Value} {base : Heap} {A : Ad}
theorem ok_C_init (T : Txt K mg A) : FnOk P w K mg base CX0 5 A.f_C_init A.d_C_init ["self", "values", "period", "gain"] (sp_C_init K A) := by
  have G_find_problem := ok_find_problem (P := P) (w := w) (base := base) T
  have G_least_form := ok_least_form (P := P) (w := w) (base := base) T
  refine T.F_C_init.ok sc_C_init (fun vs H Q E h => ?_) (fun cdv A0 outer s H vs Q E hr h => ?_)
  · obtain ⟨x, dx, l, xs, p, g, rfl, hx, hS, R, k⟩ := h
    rfl
  · obtain ⟨x, dx, l, xs, p, g, rfl, hx, hS, R, k⟩ := h
    refine ⟨_, (pss_cons (ps_set (i := 4) sc_C_init.nd rfl (by first | exact Or.inl rfl | exact Or.inr rfl) (pe_call G_find_problem (hr.mono (by decide)) rfl T.m_find_problem T.k_find_problem T.b_find_problem .nil pass0 (pa_cons (pv 1) (pa_cons (pv 2) (pa_cons (pv 3) pa_nil)))))
    (pss_cons (ps_if (pt_cmp (pc_notN (pv 4)) rfl) (pss_one ps_never) pss_nil)
    (pss_cons (ps_asg (pe_call G_least_form (hr.mono (by decide)) rfl T.m_least_form T.k_least_form T.b_least_form .nil pass0 (pa_cons (pv 1) (pa_cons (pv 2) (pa_cons (pv 3) pa_nil)))) (pg_tup rfl (pgs_cons (pg_name (i := 5) sc_C_init.nd rfl (by first | exact Or.inl rfl | exact Or.inr rfl)) (pgs_cons (pg_name (i := 6) sc_C_init.nd rfl (by first | exact Or.inl rfl | exact Or.inr rfl)) (pgs_cons (pg_name (i := 7) sc_C_init.nd rfl (by first | exact Or.inl rfl | exact Or.inr rfl)) pgs_nil)))))
    (pss_cons (ps_fld (pv 0) (pv 5) rfl)
    (pss_cons (ps_fld (pv 0) (pv 6) rfl)
    (pss_cons (ps_fld (pv 0) (pv 7) rfl)
    (pss_cons (ps_fld (pv 0) pe_bl rfl)
    (pss_one (ps_fld (pv 0) pe_non rfl))))))))), ?_⟩
    have pp : 0 < p ∧ p ≤ 12 := by rcases R.per with h | h | h | h | h | h <;> omega
    refine ⟨_, rfl, _, rfl, _, rfl, l, xs, p, g, rfl, hS, R, fun H1 s1 => ?_⟩
    refine ⟨_, rfl, _, rfl, iteF ?_⟩
    refine ⟨_, rfl, _, rfl, _, rfl, l, xs, p, g, rfl, s1.seq hS, pp.1, R.pn, by have := R.l2; omega, fun H2 t l' s2 ht0 hl0 ht hl => ?_⟩
    refine ⟨t, _, rfl, SqT.of ht, rfl, _, _, rfl, _, _, rfl, _, _, rfl, rfl, ?_⟩
    have s02 : Same H H2 := s1.trans s2
    have hx2 := s02 _ _ hx
    have nlx : l' ≠ x := fun z => by rw [z, s1 _ _ hx] at hl0; cases hl0
    refine ⟨_, rfl, _, rfl, x, _, dx, _, rfl, hx2, T.cl, T.n_values, (by show 0 < 1000; decide), ?_⟩
    refine ⟨_, rfl, _, rfl, x, _, dx, _, rfl, upd_same, T.cl, T.n_period, (by show 1 < 1000; decide), ?_⟩
    refine ⟨_, rfl, _, rfl, x, _, dx, _, rfl, upd_same, T.cl, T.n_gain, (by rw [put1, put2]; show 2 < 1000; decide), ?_⟩
    refine ⟨_, rfl, x, _, dx, _, rfl, upd_same, T.cl, T.n_was_searched, (by rw [put1, put2, put3]; show 3 < 1000; decide), ?_⟩
    refine ⟨_, rfl, x, _, dx, _, rfl, upd_same, T.cl, T.n_break, (by rw [put1, put2, put3, put4]; show 4 < 1000; decide), ?_⟩
    refine k _ dx l' (fun b o hb e => ?_) (s1.free hl0) ?_ ?_
    · rw [upd_ne hb, upd_ne hb, upd_ne hb, upd_ne hb, upd_ne hb]; exact s02 _ _ e
    · rw [upd_same, put1, put2, put3, put4, put5]; rfl
    · rw [upd_ne nlx, upd_ne nlx, upd_ne nlx, upd_ne nlx, upd_ne nlx]; exact hl
theorem ok_C_at (T : Txt K mg A) : FnOk P w K mg base CX0 3 A.f_C_at A.d_C_at ["self", "length"] (sp_C_at K A) := by
  have G_is_count := ok_is_count (P := P) (w := w) (base := base) T
  have G_value_at := ok_value_at (P := P) (w := w) (base := base) T
  refine T.F_C_at.ok sc_C_at (fun vs H Q E h => ?_) (fun cdv A0 outer s H vs Q E hr h => ?_)
  · obtain ⟨x, xs, p, g, t, rfl, ⟨dx, l, w, b, hx, hl⟩, hp, hpn, hn, ht, htb, q⟩ := h
    rfl
  · obtain ⟨x, xs, p, g, t, rfl, ⟨dx, l, w, b, hx, hl⟩, hp, hpn, hn, ht, htb, q⟩ := h
    refine ⟨_, (pss_cons (ps_if (pt_not (pt_val (pe_call G_is_count (hr.mono (by decide)) rfl T.m_is_count T.k_is_count T.b_is_count .nil pass0 (pa_cons (pv 1) pa_nil)))) (pss_one ps_never) pss_nil)
    (pss_one (ps_ret (pe_call G_value_at (hr.mono (by decide)) rfl T.m_value_at T.k_value_at T.b_value_at .nil pass0 (pa_cons (pe_fld (pv 0) rfl) (pa_cons (pe_fld (pv 0) rfl) (pa_cons (pe_fld (pv 0) rfl) (pa_cons (pv 1) pa_nil)))))))), ?_⟩
    refine ⟨_, rfl, _, _, rfl, Kd.int _, ?_⟩
    have e1 : cnt (.int t) = true := by unfold cnt; exact decide_eq_true ht
    rw [e1]
    refine ⟨_, rfl, iteF ?_⟩
    refine ⟨_, rfl, x, _, dx, _, _, rfl, hx, T.cl, T.n_values, cfs_v _ _ _ _ _, _, rfl, x, _, dx, _, _, rfl, hx, T.cl, T.n_period, cfs_p _ _ _ _ _, _, rfl, x, _, dx, _, _, rfl, hx, T.cl, T.n_gain, cfs_g _ _ _ _ _, _, rfl, l, xs, p, g, t, rfl, SqL.of hl, hp, hpn, hn, ht, htb, q⟩
end
end VK


namespace VK
open PySem PySem.Spec PyProof.Rows L2 VM
/-- the state of draws at r -/
def Rng (H : Hp) (r : Addr) : Prop := ∃ a b : Int, H r = some (.lst [.int a, .int b]) ∧ 0 ≤ a ∧ 0 ≤ b ∧ b < 2147483563
/-- all but the state of draws stands -/
structure Ext (r : Addr) (H H' : Hp) : Prop where
  keep : ∀ b o, b ≠ r → H b = some o → H' b = some o
  rng : Rng H' r
theorem Ext.refl {r : Addr} {H : Hp} (h : Rng H r) : Ext r H H := ⟨fun _ _ _ e => e, h⟩
theorem Ext.trans {r : Addr} {H H1 H2 : Hp} (a : Ext r H H1) (b : Ext r H1 H2) : Ext r H H2 := ⟨fun c o n e => b.keep c o n (a.keep c o n e), b.rng⟩
theorem Rng.same {r : Addr} {H H' : Hp} (h : Rng H r) (s : Same H H') : Rng H' r := by
  obtain ⟨a, b, e, h1, h2, h3⟩ := h
  exact ⟨a, b, s _ _ e, h1, h2, h3⟩
theorem Ext.of {r : Addr} {H H' : Hp} (h : Rng H r) (s : Same H H') : Ext r H H' := ⟨fun b o _ e => s b o e, h.same s⟩
theorem Ext.same {r : Addr} {H H1 H2 : Hp} (a : Ext r H H1) (s : Same H1 H2) : Ext r H H2 := a.trans (.of a.rng s)
theorem Ext.free {r : Addr} {H H' : Hp} {l : Addr} (e : Ext r H H') (h : H' l = none) : H l = none := by
  have n : l ≠ r := fun z => by
    obtain ⟨a, b, q, _⟩ := e.rng
    rw [z, q] at h; cases h
  cases q : H l with
  | none => rfl
  | some o => rw [e.keep l o n q] at h; cases h
theorem Ext.seq {K : PySem.W.Frag} {r : Addr} {H H' : Hp} {a : Addr} {xs : List V} (e : Ext r H H') (n : a ≠ r) (h : SqL K H a xs) : SqL K H' a xs := by
  rcases h with (h | ⟨o, h⟩) | h
  · exact .inl (.inl (e.keep _ _ n h))
  · exact .inl (.inr ⟨o, e.keep _ _ n h⟩)
  · exact .inr h
theorem Rng.ne {r l : Addr} {H : Hp} (h : Rng H r) (hl : H l = none) : l ≠ r := fun z => by
  obtain ⟨a, b, q, _⟩ := h
  rw [z, q] at hl; cases hl
def sp_l_rng (K : PySem.W.Frag) (_ : Ad) : Sp := fun vs H Q _ => ∃ (a : Addr) (ns : List Int) (k : Int), vs = [.ref a, .int k] ∧ SqL K H a (ns.map V.int) ∧ 0 ≤ k ∧ k ≤ 100 ∧
  ∀ H' p, Same H H' → H p = none → Rng H' p → Q (.ref p) H'
def sp_l_draw (_ : PySem.W.Frag) (_ : Ad) : Sp := fun vs H Q _ => ∃ (r : Addr) (m : Int), vs = [.ref r, .int m] ∧ Rng H r ∧ 0 < m ∧ m < 1073741824 ∧
  ∀ H' d, Ext r H H' → 0 ≤ d → d < m → Q (.int d) H'
def sp_l_choice (K : PySem.W.Frag) (_ : Ad) : Sp := fun vs H Q _ => ∃ (r l : Addr) (ys : List V), vs = [.ref r, .ref l] ∧ Rng H r ∧ SqL K H l ys ∧ l ≠ r ∧ 0 < ys.length ∧ ys.length < 1000000 ∧
  ∀ H' v, Ext r H H' → v ∈ ys → Q v H'
section
variable {P : Program} {w : World} {K : PySem.W.Frag} {mg : Str → Option Value} {base : Heap} {A : Ad}
theorem ok_l_rng (T : Txt K mg A) : FnOk P w K mg base CX0 1 A.f_l_rng A.d_l_rng ["_law_script", "_law_k"] (sp_l_rng K A) := by
  refine T.F_l_rng.ok sc_l_rng (fun vs H Q E h => ?_) (fun cdv A0 outer s H vs Q E hr h => ?_)
  · obtain ⟨a, ns, k, rfl, hS, hk, hk2, q⟩ := h
    rfl
  · obtain ⟨a, ns, k, rfl, hS, hk, hk2, q⟩ := h
    refine ⟨_, (pss_cons (ps_set (i := 2) sc_l_rng.nd rfl (by first | exact Or.inl rfl | exact Or.inr rfl) (pe_op op_add (pe_op op_mul pe_int (pv 1)) pe_int))
    (pss_cons (ps_if (pt_cmpR op_lt (pv 1) (pe_callB (r := VG.rLen K) VG.call_len (by rfl) T.len (by decide +kernel) (pa_cons (pv 0) pa_nil)) (nomark _)) (pss_one (ps_set (i := 2) sc_l_rng.nd rfl (by first | exact Or.inl rfl | exact Or.inr rfl) (pe_ix (r := rIxL K) ix_list (pv 0) (pv 1) (fun _ _ => rfl)))) pss_nil)
    (pss_one (ps_ret (pe_lst (pa_cons (pe_callB (call_max2 rfl) (by rfl) T.max (by decide +kernel) (pa_cons pe_int (pa_cons (pe_op op_sub (pe_callB call_abs (by rfl) T.abs (by decide +kernel) (pa_cons (pv 2) pa_nil)) (pe_op op_pow pe_int pe_int)) pa_nil))) (pa_cons (pe_op op_add (pe_op op_mod (pe_op op_mul (pe_callTy call_int1 (by rfl) T.int (by decide +kernel) (pa_cons (pe_op op_add (pe_op op_mod (pe_callTy call_int1 (by rfl) T.int (by decide +kernel) (pa_cons (pe_callB call_abs (by rfl) T.abs (by decide +kernel) (pa_cons (pv 2) pa_nil)) pa_nil)) pe_int) pe_int) pa_nil)) (pe_op op_pow (pe_op op_add (pe_op op_mul pe_int (pv 1)) pe_int) pe_int)) pe_int) pe_int) pa_nil))))))), ?_⟩
    refine ⟨_, rfl, _, _, rfl, rfl, .inl ⟨by decide, by decide⟩, _, _, rfl, rfl, ?_⟩
    refine ⟨_, rfl, _, rfl, a, _, rfl, .inl hS, _, _, rfl, rfl, _, rfl, ?_⟩
    rw [List.length_map]
    have b1 : (2 * k + 5).natAbs < 2 ^ 64 := by omega
    refine ifD (fun c => ?_) (fun c => ?_)
    · refine ⟨_, rfl, _, rfl, a, _, _, _, rfl, rfl, hS, at_map hk c, ?_⟩
      generalize ns.getD k.toNat 0 = c0
      refine ⟨_, rfl, _, rfl, _, _, rfl, rfl, ⟨by decide, by decide, by decide⟩, _, _, rfl, rfl, _, _, rfl, ?_⟩
      have z1 := Int.emod_nonneg (if c0 < 0 then -c0 else c0) (show (2147483549 : Int) ≠ 0 by decide)
      have z2 := Int.emod_lt_of_pos (if c0 < 0 then -c0 else c0) (show (0 : Int) < 2147483549 by decide)
      refine ⟨_, rfl, _, rfl, .inl ⟨_, rfl, _, _, rfl, rfl, (by show (0 : Int) < 2147483549; decide), _, _, rfl, rfl, .inl ⟨_, rfl, _, rfl, _, _, rfl, rfl, .inl ⟨by decide, by decide⟩, _, _, rfl, rfl, _, _, rfl, rfl, ⟨by decide, by decide, b1⟩, _, _, rfl, rfl, .inl ⟨by omega, by omega⟩, _, _, rfl, rfl, (by show (0 : Int) < 2147483543; decide), _, _, rfl, rfl, (by show 2 ≤ sizeLine; decide), fun p hp => ?_⟩⟩⟩
      have z3 := Int.emod_nonneg (((if c0 < 0 then -c0 else c0) % 2147483549 + 1) * (2 * k + 5) ^ Int.toNat 3) (show (2147483543 : Int) ≠ 0 by decide)
      have z4 := Int.emod_lt_of_pos (((if c0 < 0 then -c0 else c0) % 2147483549 + 1) * (2 * k + 5) ^ Int.toNat 3) (show (0 : Int) < 2147483543 by decide)
      refine q _ p (Same.upd (Same.refl H) hp) hp ⟨_, _, upd_same, ?_, by omega, by omega⟩
      by_cases cc : (if c0 < 0 then -c0 else c0) - 10 ^ Int.toNat 18 > 0
      · rw [if_pos cc]; omega
      · rw [if_neg cc]; omega
    · refine ⟨_, rfl, _, rfl, _, _, rfl, rfl, ⟨by decide, by decide, by decide⟩, _, _, rfl, rfl, _, _, rfl, ?_⟩
      have z1 := Int.emod_nonneg (if (7 * k + 3) < 0 then -(7 * k + 3) else (7 * k + 3)) (show (2147483549 : Int) ≠ 0 by decide)
      have z2 := Int.emod_lt_of_pos (if (7 * k + 3) < 0 then -(7 * k + 3) else (7 * k + 3)) (show (0 : Int) < 2147483549 by decide)
      refine ⟨_, rfl, _, rfl, .inl ⟨_, rfl, _, _, rfl, rfl, (by show (0 : Int) < 2147483549; decide), _, _, rfl, rfl, .inl ⟨_, rfl, _, rfl, _, _, rfl, rfl, .inl ⟨by decide, by decide⟩, _, _, rfl, rfl, _, _, rfl, rfl, ⟨by decide, by decide, b1⟩, _, _, rfl, rfl, .inl ⟨by omega, by omega⟩, _, _, rfl, rfl, (by show (0 : Int) < 2147483543; decide), _, _, rfl, rfl, (by show 2 ≤ sizeLine; decide), fun p hp => ?_⟩⟩⟩
      have z3 := Int.emod_nonneg (((if (7 * k + 3) < 0 then -(7 * k + 3) else (7 * k + 3)) % 2147483549 + 1) * (2 * k + 5) ^ Int.toNat 3) (show (2147483543 : Int) ≠ 0 by decide)
      have z4 := Int.emod_lt_of_pos (((if (7 * k + 3) < 0 then -(7 * k + 3) else (7 * k + 3)) % 2147483549 + 1) * (2 * k + 5) ^ Int.toNat 3) (show (0 : Int) < 2147483543 by decide)
      refine q _ p (Same.upd (Same.refl H) hp) hp ⟨_, _, upd_same, ?_, by omega, by omega⟩
      by_cases cc : (if (7 * k + 3) < 0 then -(7 * k + 3) else (7 * k + 3)) - 10 ^ Int.toNat 18 > 0
      · rw [if_pos cc]; omega
      · rw [if_neg cc]; omega
theorem ok_l_draw (T : Txt K mg A) : FnOk P w K mg base CX0 1 A.f_l_draw A.d_l_draw ["_law_rng_here", "_law_many"] (sp_l_draw K A) := by
  refine T.F_l_draw.ok sc_l_draw (fun vs H Q E h => ?_) (fun cdv A0 outer s H vs Q E hr h => ?_)
  · obtain ⟨r, m, rfl, ⟨a, b, hr0, ha, hb, hb2⟩, hm, hm2, q⟩ := h
    rfl
  · obtain ⟨r, m, rfl, ⟨a, b, hr0, ha, hb, hb2⟩, hm, hm2, q⟩ := h
    refine ⟨_, (pss_cons (ps_if (pt_cmpR op_gt (pe_ix (r := rIxL K) ix_list (pv 0) pe_int (fun _ _ => rfl)) pe_int (nomark _)) (pss_cons (ps_asg (pe_callB call_divmod (by rfl) T.divmod (by decide +kernel) (pa_cons (pe_ix (r := rIxL K) ix_list (pv 0) pe_int (fun _ _ => rfl)) (pa_cons (pv 1) pa_nil))) (pg_tup rfl (pgs_cons (pg_sub (pv 0) pe_int set_list) (pgs_cons (pg_name (i := 2) sc_l_draw.nd rfl (by first | exact Or.inl rfl | exact Or.inr rfl)) pgs_nil))))
    (pss_one (ps_ret (pv 2)))) pss_nil)
    (pss_cons (ps_asg (pe_op op_mod (pe_callTy call_int1 (by rfl) T.int (by decide +kernel) (pa_cons (pe_op op_add (pe_op op_mul (pe_ix (r := rIxL K) ix_list (pv 0) pe_int (fun _ _ => rfl)) pe_int) pe_int) pa_nil)) pe_int) (pg_sub (pv 0) pe_int set_list))
    (pss_one (ps_ret (pe_op op_mod (pe_op op_fdiv (pe_op op_mod (pe_callTy call_int1 (by rfl) T.int (by decide +kernel) (pa_cons (pe_op op_mul (pe_ix (r := rIxL K) ix_list (pv 0) pe_int (fun _ _ => rfl)) (pe_ix (r := rIxL K) ix_list (pv 0) pe_int (fun _ _ => rfl))) pa_nil)) pe_int) pe_int) (pv 1)))))), ?_⟩
    refine ⟨_, rfl, r, _, _, _, rfl, rfl, SqL.of hr0, rfl, _, _, rfl, rfl, _, rfl, ifD (fun c => ?_) (fun c => ?_)⟩
    · refine ⟨_, rfl, r, _, _, _, rfl, rfl, SqL.of hr0, rfl, _, rfl, _, _, rfl, ⟨hm, hm2⟩, fun t ht => ?_⟩
      have nrt : r ≠ t := ne_of_none hr0 ht
      refine ⟨t, _, rfl, SqT.of upd_same, rfl, _, _, rfl, _, rfl, r, _, _, 0, rfl, rfl, (by rw [upd_ne nrt]; exact hr0), rfl, _, _, rfl, rfl, ?_⟩
      refine ⟨_, rfl, q _ _ ⟨fun z o hz e => ?_, a / m, b, upd_same, Int.ediv_nonneg ha (by omega), hb, hb2⟩ (Int.emod_nonneg _ (by omega)) (Int.emod_lt_of_pos _ hm)⟩
      rw [upd_ne hz, upd_ne (ne_of_none e ht)]; exact e
    · refine ⟨_, rfl, r, _, _, _, rfl, rfl, SqL.of hr0, rfl, _, _, rfl, rfl, .inl ⟨by omega, by omega⟩, _, _, rfl, rfl, .inl ⟨_, rfl, _, _, rfl, rfl, (by show (0 : Int) < 2147483563; decide), ?_⟩⟩
      have e0 := Int.emod_nonneg (b * 48311 + 20011) (show (2147483563 : Int) ≠ 0 by decide)
      have e1 := Int.emod_lt_of_pos (b * 48311 + 20011) (show (0 : Int) < 2147483563 by decide)
      refine ⟨_, rfl, r, _, _, 1, rfl, rfl, hr0, rfl, ?_⟩
      have hr1 : upd H r (.lst [.int a, .int ((b * 48311 + 20011) % 2147483563)]) r = some (.lst [.int a, .int ((b * 48311 + 20011) % 2147483563)]) := upd_same
      refine ⟨_, rfl, r, [.int a, .int ((b * 48311 + 20011) % 2147483563)], _, _, rfl, rfl, SqL.of hr1, rfl, _, rfl, r, [.int a, .int ((b * 48311 + 20011) % 2147483563)], _, _, rfl, rfl, SqL.of hr1, rfl, _, _, rfl, rfl, .inl ⟨by omega, by omega⟩, .inl ⟨_, rfl, _, _, rfl, rfl, (by show (0 : Int) < 2147483497; decide), _, _, rfl, rfl, ⟨by decide, by decide⟩, _, rfl, _, _, rfl, rfl, hm, ?_⟩⟩
      exact q _ _ ⟨fun z o hz e => by rw [upd_ne hz]; exact e, a, _, hr1, ha, e0, e1⟩ (Int.emod_nonneg _ (by omega)) (Int.emod_lt_of_pos _ hm)
theorem ok_l_choice (T : Txt K mg A) : FnOk P w K mg base CX0 2 A.f_l_choice A.d_l_choice ["_law_rng_here", "_law_some"] (sp_l_choice K A) := by
  have G_l_draw := ok_l_draw (P := P) (w := w) (base := base) T
  refine T.F_l_choice.ok sc_l_choice (fun vs H Q E h => ?_) (fun cdv A0 outer s H vs Q E hr h => ?_)
  · obtain ⟨r, l, ys, rfl, hr0, hS, hl, hy, hy2, q⟩ := h
    rfl
  · obtain ⟨r, l, ys, rfl, hr0, hS, hl, hy, hy2, q⟩ := h
    refine ⟨_, (pss_one (ps_ret (pe_ix (r := rIxL K) ix_list (pv 1) (pe_call G_l_draw (hr.mono (by decide)) rfl T.m_l_draw T.k_l_draw T.b_l_draw .nil pass0 (pa_cons (pv 0) (pa_cons (pe_callB (r := VG.rLen K) VG.call_len (by rfl) T.len (by decide +kernel) (pa_cons (pv 1) pa_nil)) pa_nil))) (fun _ _ => rfl)))), ?_⟩
    refine ⟨_, rfl, _, rfl, _, rfl, l, _, rfl, .inl hS, r, _, rfl, hr0, by omega, by omega, fun H1 d e1 h0 h1 => ?_⟩
    have hd : d.toNat < ys.length := by omega
    refine ⟨l, ys, d, ys[d.toNat], rfl, rfl, e1.seq hl hS, ?_, q H1 _ e1 (List.getElem_mem hd)⟩
    exact at_of (j := d.toNat) (by omega) (List.getElem?_eq_getElem hd)
end
end VK


namespace VK
open PySem PySem.Spec PyProof.Rows L2 VM
def GoodC (f : Int → Int) (n : Nat) : Prop := ∀ a b : Int, 1 ≤ b → b ≤ a → a ≤ n → f (a + b) ≤ f a + f b
/-- (a, b) is the first break of f, both at most n -/
structure Brk1 (f : Int → Int) (n a b : Int) : Prop where
  a1 : 1 ≤ a
  ab : a ≤ b
  bn : b ≤ n
  now : f a + f b < f (a + b)
  before : ∀ x y : Int, 1 ≤ x → x ≤ y → y ≤ n → (x + y < a + b ∨ (x + y = a + b ∧ x < a)) → f (x + y) ≤ f x + f y
/-- what is found among the lengths up to n -/
def BrkR (f : Int → Int) (n : Nat) : Option (Int × Int) → Prop
  | none => GoodC f n
  | some (a, b) => Brk1 f n a b
/-- how it is told -/
def Val (H : Hp) (v : V) : Option (Int × Int) → Prop
  | none => v = .non
  | some (a, b) => ∃ t, v = .ref t ∧ H t = some (.tup [.int a, .int b])
theorem Val.same {H H' : Hp} {v : V} {o : Option (Int × Int)} (h : Val H v o) (s : Same H H') : Val H' v o := by
  cases o with
  | none => exact h
  | some ab =>
    obtain ⟨a, b⟩ := ab
    obtain ⟨t, e, ht⟩ := h
    exact ⟨t, e, s _ _ ht⟩
/-- all but x stands -/
def But (x : Addr) (H H' : Hp) : Prop := ∀ c o, c ≠ x → H c = some o → H' c = some o
theorem But.of {x : Addr} {H H' : Hp} (s : Same H H') : But x H H' := fun c o _ e => s c o e
theorem But.trans {x : Addr} {H H1 H2 : Hp} (a : But x H H1) (b : But x H1 H2) : But x H H2 := fun c o n e => b c o n (a c o n e)
/-- a curve whose break is o, looked for or not -/
def Cu (A : Ad) (H : Hp) (x : Addr) (cs : List Int) (p g : Int) (o : Option (Int × Int)) : Prop := ∃ dx l w b, H x = some (.ins A.Curve dx (cfs l p g w b)) ∧ H l = some (.lst (cs.map V.int)) ∧ (w = true → Val H b o)
/-- .. its list at l -/
def CuL (A : Ad) (H : Hp) (x l : Addr) (cs : List Int) (p g : Int) (o : Option (Int × Int)) : Prop := ∃ dx w b, H x = some (.ins A.Curve dx (cfs l p g w b)) ∧ H l = some (.lst (cs.map V.int)) ∧ (w = true → Val H b o)
theorem CuL.cu {A : Ad} {H : Hp} {x l : Addr} {cs : List Int} {p g : Int} {o : Option (Int × Int)} (h : CuL A H x l cs p g o) : Cu A H x cs p g o := by
  obtain ⟨dx, w, b, h1, h2, h3⟩ := h
  exact ⟨dx, l, w, b, h1, h2, h3⟩
theorem CuL.same {A : Ad} {H H' : Hp} {x l : Addr} {cs : List Int} {p g : Int} {o : Option (Int × Int)} (h : CuL A H x l cs p g o) (s : Same H H') : CuL A H' x l cs p g o := by
  obtain ⟨dx, w, b, h1, h2, h3⟩ := h
  exact ⟨dx, w, b, s _ _ h1, s _ _ h2, fun z => (h3 z).same s⟩
theorem Cu.same {A : Ad} {H H' : Hp} {x : Addr} {cs : List Int} {p g : Int} {o : Option (Int × Int)} (h : Cu A H x cs p g o) (s : Same H H') : Cu A H' x cs p g o := by
  obtain ⟨dx, l, w, b, h1, h2, h3⟩ := h
  exact ⟨dx, l, w, b, s _ _ h1, s _ _ h2, fun z => (h3 z).same s⟩
theorem Cu.crv {A : Ad} {H : Hp} {x : Addr} {cs : List Int} {p g : Int} {o : Option (Int × Int)} (h : Cu A H x cs p g o) : CrvAt A H x cs p g := by
  obtain ⟨dx, l, w, b, h1, h2, h3⟩ := h
  exact ⟨dx, l, w, b, h1, h2⟩
theorem Val.but {A : Ad} {H H' : Hp} {x : Addr} {cs : List Int} {p g : Int} {v : V} {o : Option (Int × Int)} (h : Val H v o) (c : CrvAt A H x cs p g) (s : But x H H') : Val H' v o := by
  cases o with
  | none => exact h
  | some ab =>
    obtain ⟨a, b⟩ := ab
    obtain ⟨t, e, ht⟩ := h
    obtain ⟨dx, l, w, b, h1, h2⟩ := c
    exact ⟨t, e, s _ _ (ne_of ht h1 (fun z => by cases z)) ht⟩
def sp_C_first_values (K : PySem.W.Frag) (A : Ad) : Sp := fun vs H Q _ => ∃ (x : Addr) (cs : List Int) (p g : Int), vs = [.ref x] ∧ CrvAt A H x cs p g ∧ ∀ H' q, Same H H' → H q = none → H' q = some (.lst (cs.map V.int)) → Q (.ref q) H'
def sp_first_break (K : PySem.W.Frag) (A : Ad) : Sp := fun vs H Q _ => ∃ (x : Addr) (cs : List Int) (p g : Int) (o : Option (Int × Int)), vs = [.ref x] ∧ CrvAt A H x cs p g ∧ 0 < p ∧ p ≤ cs.length ∧ cs.length ≤ 1000 ∧ BrkR (cvAt cs p g) cs.length o ∧
  ∀ H' v, Same H H' → (∀ t, v = .ref t → H t = none) → Val H' v o → Q v H'
def sp_C_find_break (K : PySem.W.Frag) (A : Ad) : Sp := fun vs H Q _ => ∃ (x l : Addr) (cs : List Int) (p g : Int) (o : Option (Int × Int)), vs = [.ref x] ∧ CuL A H x l cs p g o ∧ 0 < p ∧ p ≤ cs.length ∧ cs.length ≤ 1000 ∧ BrkR (cvAt cs p g) cs.length o ∧
  ∀ H' v, But x H H' → CuL A H' x l cs p g o → Val H' v o → Q v H'
def sp_C_is_good (K : PySem.W.Frag) (A : Ad) : Sp := fun vs H Q _ => ∃ (x l : Addr) (cs : List Int) (p g : Int) (o : Option (Int × Int)), vs = [.ref x] ∧ CuL A H x l cs p g o ∧ 0 < p ∧ p ≤ cs.length ∧ cs.length ≤ 1000 ∧ BrkR (cvAt cs p g) cs.length o ∧
  ∀ H', But x H H' → CuL A H' x l cs p g o → Q (.bl o.isNone) H'
def sp_C_period (_ : PySem.W.Frag) (A : Ad) : Sp := fun vs H Q _ => ∃ (x : Addr) (cs : List Int) (p g : Int), vs = [.ref x] ∧ CrvAt A H x cs p g ∧ Q (.int p) H
def sp_C_gain (_ : PySem.W.Frag) (A : Ad) : Sp := fun vs H Q _ => ∃ (x : Addr) (cs : List Int) (p g : Int), vs = [.ref x] ∧ CrvAt A H x cs p g ∧ Q (.int g) H
theorem cu_after {A : Ad} {H H1 : Hp} {x dx l : Addr} {cs : List Int} {p g : Int} {b v : V} {o : Option (Int × Int)} (hx : H x = some (.ins A.Curve dx (cfs l p g false b))) (hl : H l = some (.lst (cs.map V.int)))
    (s1 : Same H H1) (fr : ∀ t, v = .ref t → H t = none) (hv : Val H1 v o) :
    But x H (upd H1 x (.ins A.Curve dx (cfs l p g true v))) ∧ CuL A (upd H1 x (.ins A.Curve dx (cfs l p g true v))) x l cs p g o ∧ Val (upd H1 x (.ins A.Curve dx (cfs l p g true v))) v o := by
  have nlx : l ≠ x := ne_of hl hx (fun z => by cases z)
  have hv2 : Val (upd H1 x (.ins A.Curve dx (cfs l p g true v))) v o := by
    cases o with
    | none => exact hv
    | some ab =>
      obtain ⟨a, b⟩ := ab
      obtain ⟨t, e, ht⟩ := hv
      exact ⟨t, e, by rw [upd_ne (Ne.symm (ne_of_none hx (fr t e)))]; exact ht⟩
  refine ⟨fun c o n e => by rw [upd_ne n]; exact s1 _ _ e, ⟨dx, true, v, upd_same, by rw [upd_ne nlx]; exact s1 _ _ hl, fun _ => hv2⟩, hv2⟩
theorem val_isNone {H : Hp} {v : V} {o : Option (Int × Int)} (h : Val H v o) : o.isNone = (match v with | .non => true | _ => false) := by
  cases o with
  | none => cases h; rfl
  | some ab =>
    obtain ⟨a, b⟩ := ab
    obtain ⟨t, rfl, _⟩ := h
    rfl
section
variable {P : Program} {w : World} {K : PySem.W.Frag} {mg : Str → Option Value} {base : Heap} {A : Ad}
theorem ok_C_period (T : Txt K mg A) : FnOk P w K mg base CX0 1 A.f_C_period A.d_C_period ["self"] (sp_C_period K A) := by
  refine T.F_C_period.ok sc_C_period (fun vs H Q E h => ?_) (fun cdv A0 outer s H vs Q E hr h => ?_)
  · obtain ⟨x, cs, p, g, rfl, ⟨dx, l, w, b, hx, hl⟩, q⟩ := h
    rfl
  · obtain ⟨x, cs, p, g, rfl, ⟨dx, l, w, b, hx, hl⟩, q⟩ := h
    refine ⟨_, (pss_one (ps_ret (pe_fld (pv 0) rfl))), ?_⟩
    exact ⟨_, rfl, x, _, dx, _, _, rfl, hx, T.cl, T.n_period, cfs_p _ _ _ _ _, q⟩
theorem ok_C_gain (T : Txt K mg A) : FnOk P w K mg base CX0 1 A.f_C_gain A.d_C_gain ["self"] (sp_C_gain K A) := by
  refine T.F_C_gain.ok sc_C_gain (fun vs H Q E h => ?_) (fun cdv A0 outer s H vs Q E hr h => ?_)
  · obtain ⟨x, cs, p, g, rfl, ⟨dx, l, w, b, hx, hl⟩, q⟩ := h
    rfl
  · obtain ⟨x, cs, p, g, rfl, ⟨dx, l, w, b, hx, hl⟩, q⟩ := h
    refine ⟨_, (pss_one (ps_ret (pe_fld (pv 0) rfl))), ?_⟩
    exact ⟨_, rfl, x, _, dx, _, _, rfl, hx, T.cl, T.n_gain, cfs_g _ _ _ _ _, q⟩
theorem ok_C_first_values (T : Txt K mg A) : FnOk P w K mg base CX0 1 A.f_C_first_values A.d_C_first_values ["self"] (sp_C_first_values K A) := by
  refine T.F_C_first_values.ok sc_C_first_values (fun vs H Q E h => ?_) (fun cdv A0 outer s H vs Q E hr h => ?_)
  · obtain ⟨x, cs, p, g, rfl, ⟨dx, l, w, b, hx, hl⟩, k⟩ := h
    rfl
  · obtain ⟨x, cs, p, g, rfl, ⟨dx, l, w, b, hx, hl⟩, k⟩ := h
    refine ⟨_, (pss_one (ps_ret (pe_callTy (r := VG.rListOf K) VG.call_listOf (by rfl) T.list (by decide +kernel) (pa_cons (pe_fld (pv 0) rfl) pa_nil)))), ?_⟩
    exact ⟨_, rfl, x, _, dx, _, _, rfl, hx, T.cl, T.n_values, cfs_v _ _ _ _ _, l, _, rfl, .inl (SqL.of hl), fun q hq => k _ q (Same.upd (Same.refl _) hq) hq upd_same⟩
theorem ok_first_break (T : Txt K mg A) : FnOk P w K mg base CX0 4 A.f_first_break A.d_first_break ["curve"] (sp_first_break K A) := by
  have G_C_at := ok_C_at (P := P) (w := w) (base := base) T
  have G_C_first_values := ok_C_first_values (P := P) (w := w) (base := base) T
  refine T.F_first_break.ok sc_first_break (fun vs H Q E h => ?_) (fun cdv A0 outer s H vs Q E hr h => ?_)
  · obtain ⟨x, cs, p, g, o, rfl, hC, hp, hpn, hn, hB, k⟩ := h
    rfl
  · obtain ⟨x, cs, p, g, o, rfl, hC, hp, hpn, hn, hB, k⟩ := h
    refine ⟨_, (pss_cons (ps_set (i := 1) sc_first_break.nd rfl (by first | exact Or.inl rfl | exact Or.inr rfl) (pe_callB (r := VG.rLen K) VG.call_len (by rfl) T.len (by decide +kernel) (pa_cons (pe_meth0 (pv 0) T.cl T.me_first_values G_C_first_values (hr.mono (by decide)) T.b_C_first_values .nil pass0) pa_nil)))
    (pss_cons (ps_setLc (i := 2) (own := [("length", 5)]) (g := gName 5) (tt := tYes) rfl sc_first_break.nd rfl rfl (sw_true rfl rfl rfl (by decide +kernel)) (pi_range1 rfl T.range (pa_cons (pe_op op_add (pe_op op_mul pe_int (pv 1)) pe_int) pa_nil)) (blkOk_by (own := [("length", 5)]) (N := ["curve", "many", "row", "total", "first", "length"]) (sc := defScope s_first_break) (by decide +kernel)) (fun _ _ _ _ _ => pg_name (i := 5) sc_first_break.nd rfl (by first | exact Or.inl rfl | exact Or.inr rfl)) (fun _ _ _ _ _ => pts_nil) (fun _ _ _ _ _ => (pe_meth (pv 0) T.cl T.me_at G_C_at (hr.mono (by decide)) T.b_C_at .nil pass0 (pa_cons (pv 5) pa_nil))))
    (pss_cons (ps_for PassesOwn.never rfl (pi_range2 rfl T.range (pa_cons pe_int (pa_cons (pe_op op_add (pe_op op_mul pe_int (pv 1)) pe_int) pa_nil))) (pg_name (i := 3) sc_first_break.nd rfl (by first | exact Or.inl rfl | exact Or.inr rfl))
      (pss_one (ps_for PassesOwn.never rfl (pi_range2 rfl T.range (pa_cons (pe_callB (call_max2 rfl) (by rfl) T.max (by decide +kernel) (pa_cons pe_int (pa_cons (pe_op op_sub (pv 3) (pv 1)) pa_nil))) (pa_cons (pe_op op_add (pe_op op_fdiv (pv 3) pe_int) pe_int) pa_nil))) (pg_name (i := 4) sc_first_break.nd rfl (by first | exact Or.inl rfl | exact Or.inr rfl))
      (pss_one (ps_if (pt_cmpR op_gt (pe_ix (r := rIxL K) ix_list (pv 2) (pv 3) (fun _ _ => rfl)) (pe_op op_add (pe_ix (r := rIxL K) ix_list (pv 2) (pv 4) (fun _ _ => rfl)) (pe_ix (r := rIxL K) ix_list (pv 2) (pe_op op_sub (pv 3) (pv 4)) (fun _ _ => rfl))) (nomark _)) (pss_one (ps_ret (pe_tup (pa_cons (pv 4) (pa_cons (pe_op op_sub (pv 3) (pv 4)) pa_nil))))) pss_nil)))))
    (pss_one (ps_ret pe_non))))), ?_⟩
    obtain ⟨dx, l, w, b, hx, hl⟩ := id hC
    cases o with
    | none =>
      have hg : GoodC (cvAt cs p g) cs.length := hB
      refine ⟨_, rfl, x, dx, _, rfl, hx, cfs_no _ _ _ (by decide +kernel) (by decide +kernel) (by decide +kernel), x, cs, p, g, rfl, hC, fun H0 q0 s0 _ hq0 => ⟨q0, _, rfl, .inl (SqL.of hq0), ?_⟩⟩
      rw [List.length_map]
      refine ⟨_, rfl, _, _, rfl, rfl, .inl ⟨by decide, by decide⟩, _, _, rfl, rfl, _, rfl, by omega, by omega, fun D hD => lc_range (lo := 0) (n := (2 * (cs.length : Int) + 1).toNat)
        (fun j H2 => H2 D = some (.lst ((row (cvAt cs p g) j).map V.int)) ∧ Same H H2) ⟨upd_same, Same.upd s0 (s0.free hD)⟩ ?_ ?_⟩
      · rintro j H2 hj ⟨hD2, s2⟩
        refine ⟨rfl, _, rfl, x, dx, _, rfl, s2 _ _ hx, cfs_no _ _ _ (by decide +kernel) (by decide +kernel) (by decide +kernel), _, rfl, x, cs, p, g, _, rfl, hC.same s2, hp, hpn, hn, by omega, by omega, _, hD2, small (by rw [List.length_map, row_length]; omega), ?_, Same.upd s2 (s0.free hD)⟩
        rw [upd_same, rowI_succ, Int.zero_add]
      · rintro H2 ⟨hD2, s2⟩
        refine ⟨_, rfl, _, _, rfl, rfl, .inl ⟨by decide, by decide⟩, _, _, rfl, rfl, _, _, rfl, ⟨by omega, by omega, by omega, by omega⟩, ?_⟩
        refine for_range (lo := 2) (n := (2 * (cs.length : Int) + 1 - 2).toNat) (fun i σ H' => ∃ v3 v4, σ = [some (.ref x), some (.int (cs.length : Nat)), some (.ref D), v3, v4, none] ∧ H2 = H')
          ⟨_, _, rfl, rfl⟩ ?_ ?_
        · rintro i σ H' hi ⟨v3, v4, rfl, rfl⟩
          refine ⟨_, rfl, _, rfl, _, _, rfl, rfl, _, _, rfl, ?_⟩
          have hlo : 1 ≤ (if (2 + (i : Int)) - (cs.length : Int) > 1 then (2 + (i : Int)) - (cs.length : Int) else 1) ∧ (2 + (i : Int)) - (cs.length : Int) ≤ (if (2 + (i : Int)) - (cs.length : Int) > 1 then (2 + (i : Int)) - (cs.length : Int) else 1) ∧ (if (2 + (i : Int)) - (cs.length : Int) > 1 then (2 + (i : Int)) - (cs.length : Int) else 1) ≤ 5000 := by
            split <;> omega
          generalize (if (2 + (i : Int)) - (cs.length : Int) > 1 then (2 + (i : Int)) - (cs.length : Int) else 1) = lo at *
          refine ⟨_, rfl, _, _, rfl, rfl, ⟨by decide, by decide⟩, _, _, rfl, rfl, _, _, rfl, ⟨by omega, by omega, by omega, by omega⟩, ?_⟩
          refine for_range (lo := lo) (n := ((2 + (i : Int)) / 2 + 1 - lo).toNat) (fun j σ H' => ∃ v4, σ = [some (.ref x), some (.int (cs.length : Nat)), some (.ref D), some (.int (2 + (i : Int))), v4, none] ∧ H2 = H')
            ⟨_, rfl, rfl⟩ ?_ ?_
          · rintro j σ H' hj ⟨v4, rfl, rfl⟩
            refine ⟨_, rfl, _, rfl, D, _, _, _, rfl, rfl, SqL.of hD2, at_row (by omega) (by omega), _, rfl, _, rfl, D, _, _, _, rfl, rfl, SqL.of hD2, at_row (by omega) (by omega), _, rfl, _, rfl, _, rfl, _, _, rfl, rfl, D, _, _, _, rfl, rfl, SqL.of hD2, at_row (by omega) (by omega), _, _, rfl, rfl, _, _, rfl, rfl, _, rfl, ifD (fun c => ?_) (fun c => ?_)⟩
            · exfalso
              have := hg (2 + (i : Int) - (lo + j)) (lo + j) (by omega) (by omega) (by omega)
              rw [show 2 + (i : Int) - (lo + j) + (lo + j) = 2 + (i : Int) by omega] at this
              omega
            · exact ⟨_, rfl, rfl⟩
          · rintro σ H' ⟨v4, rfl, rfl⟩
            exact ⟨_, _, rfl, rfl⟩
        · rintro σ H' ⟨v3, v4, rfl, rfl⟩
          exact k _ .non s2 (fun t z => nomatch z) rfl
    | some ab =>
      obtain ⟨a, b⟩ := ab
      obtain ⟨a1, ab, bn, now, before⟩ : Brk1 (cvAt cs p g) cs.length a b := hB
      refine ⟨_, rfl, x, dx, _, rfl, hx, cfs_no _ _ _ (by decide +kernel) (by decide +kernel) (by decide +kernel), x, cs, p, g, rfl, hC, fun H0 q0 s0 _ hq0 => ⟨q0, _, rfl, .inl (SqL.of hq0), ?_⟩⟩
      rw [List.length_map]
      refine ⟨_, rfl, _, _, rfl, rfl, .inl ⟨by decide, by decide⟩, _, _, rfl, rfl, _, rfl, by omega, by omega, fun D hD => lc_range (lo := 0) (n := (2 * (cs.length : Int) + 1).toNat)
        (fun j H2 => H2 D = some (.lst ((row (cvAt cs p g) j).map V.int)) ∧ Same H H2) ⟨upd_same, Same.upd s0 (s0.free hD)⟩ ?_ ?_⟩
      · rintro j H2 hj ⟨hD2, s2⟩
        refine ⟨rfl, _, rfl, x, dx, _, rfl, s2 _ _ hx, cfs_no _ _ _ (by decide +kernel) (by decide +kernel) (by decide +kernel), _, rfl, x, cs, p, g, _, rfl, hC.same s2, hp, hpn, hn, by omega, by omega, _, hD2, small (by rw [List.length_map, row_length]; omega), ?_, Same.upd s2 (s0.free hD)⟩
        rw [upd_same, rowI_succ, Int.zero_add]
      · rintro H2 ⟨hD2, s2⟩
        refine ⟨_, rfl, _, _, rfl, rfl, .inl ⟨by decide, by decide⟩, _, _, rfl, rfl, _, _, rfl, ⟨by omega, by omega, by omega, by omega⟩, ?_⟩
        refine for_range (lo := 2) (n := (2 * (cs.length : Int) + 1 - 2).toNat) (fun i σ H' => ∃ v3 v4, σ = [some (.ref x), some (.int (cs.length : Nat)), some (.ref D), v3, v4, none] ∧ H2 = H' ∧ 2 + (i : Int) ≤ a + b)
          ⟨_, _, rfl, rfl, by omega⟩ ?_ ?_
        · rintro i σ H' hi ⟨v3, v4, rfl, rfl, hab⟩
          refine ⟨_, rfl, _, rfl, _, _, rfl, rfl, _, _, rfl, ?_⟩
          have hlo : 1 ≤ (if (2 + (i : Int)) - (cs.length : Int) > 1 then (2 + (i : Int)) - (cs.length : Int) else 1) ∧ (2 + (i : Int)) - (cs.length : Int) ≤ (if (2 + (i : Int)) - (cs.length : Int) > 1 then (2 + (i : Int)) - (cs.length : Int) else 1) ∧ (if (2 + (i : Int)) - (cs.length : Int) > 1 then (2 + (i : Int)) - (cs.length : Int) else 1) ≤ 5000 ∧ (2 + (i : Int) = a + b → (if (2 + (i : Int)) - (cs.length : Int) > 1 then (2 + (i : Int)) - (cs.length : Int) else 1) ≤ a) := by
            split <;> omega
          generalize (if (2 + (i : Int)) - (cs.length : Int) > 1 then (2 + (i : Int)) - (cs.length : Int) else 1) = lo at *
          refine ⟨_, rfl, _, _, rfl, rfl, ⟨by decide, by decide⟩, _, _, rfl, rfl, _, _, rfl, ⟨by omega, by omega, by omega, by omega⟩, ?_⟩
          refine for_range (lo := lo) (n := ((2 + (i : Int)) / 2 + 1 - lo).toNat) (fun j σ H' => ∃ v4, σ = [some (.ref x), some (.int (cs.length : Nat)), some (.ref D), some (.int (2 + (i : Int))), v4, none] ∧ H2 = H' ∧ (2 + (i : Int) < a + b ∨ lo + (j : Int) ≤ a))
            ⟨_, rfl, rfl, by omega⟩ ?_ ?_
          · rintro j σ H' hj ⟨v4, rfl, rfl, hja⟩
            have bef := before (lo + j) (2 + (i : Int) - (lo + j)) (by omega) (by omega) (by omega)
            rw [show lo + (j : Int) + (2 + (i : Int) - (lo + j)) = 2 + (i : Int) by omega] at bef
            refine ⟨_, rfl, _, rfl, D, _, _, _, rfl, rfl, SqL.of hD2, at_row (by omega) (by omega), _, rfl, _, rfl, D, _, _, _, rfl, rfl, SqL.of hD2, at_row (by omega) (by omega), _, rfl, _, rfl, _, rfl, _, _, rfl, rfl, D, _, _, _, rfl, rfl, SqL.of hD2, at_row (by omega) (by omega), _, _, rfl, rfl, _, _, rfl, rfl, _, rfl, ifD (fun c => ?_) (fun c => ?_)⟩
            · have e1 : 2 + (i : Int) = a + b := by
                by_cases z : 2 + (i : Int) < a + b
                · have := bef (.inl z); omega
                · omega
              have e2 : lo + (j : Int) = a := by
                by_cases z : lo + (j : Int) < a
                · have := bef (.inr ⟨e1, z⟩); omega
                · omega
              refine ⟨_, rfl, _, rfl, _, rfl, _, _, rfl, rfl, (by show 2 ≤ sizeLine; decide), fun t ht => k _ (.ref t) (Same.upd s2 (s2.free ht)) (fun t' z => by cases z; exact s2.free ht) ⟨t, rfl, ?_⟩⟩
              rw [upd_same, e2]
              show some (HO.tup [V.int a, V.int (2 + (i : Int) - a)]) = _
              rw [show 2 + (i : Int) - a = b by omega]
            · refine ⟨_, rfl, rfl, ?_⟩
              by_cases z : 2 + (i : Int) < a + b
              · exact .inl z
              · by_cases z2 : lo + (j : Int) = a
                · exfalso
                  apply c
                  rw [z2, show 2 + (i : Int) - a = b by omega, show 2 + (i : Int) = a + b by omega]
                  exact now
                · exact .inr (by omega)
          · rintro σ H' ⟨v4, rfl, rfl, hja⟩
            exact ⟨_, _, rfl, rfl, by omega⟩
        · rintro σ H' ⟨v3, v4, rfl, rfl, hab⟩
          exfalso
          omega
theorem ok_C_find_break (T : Txt K mg A) : FnOk P w K mg base CX0 5 A.f_C_find_break A.d_C_find_break ["self"] (sp_C_find_break K A) := by
  have G_first_break := ok_first_break (P := P) (w := w) (base := base) T
  refine T.F_C_find_break.ok sc_C_find_break (fun vs H Q E h => ?_) (fun cdv A0 outer s H vs Q E hr h => ?_)
  · obtain ⟨x, l, cs, p, g, o, rfl, hC, hp, hpn, hn, hB, k⟩ := h
    rfl
  · obtain ⟨x, l, cs, p, g, o, rfl, hC, hp, hpn, hn, hB, k⟩ := h
    refine ⟨_, (pss_cons (ps_if (pt_not (pt_val (pe_fld (pv 0) rfl))) (pss_cons (ps_fld (pv 0) (pe_call G_first_break (hr.mono (by decide)) rfl T.m_first_break T.k_first_break T.b_first_break .nil pass0 (pa_cons (pv 0) pa_nil)) rfl)
    (pss_one (ps_fld (pv 0) pe_bl rfl))) pss_nil)
    (pss_one (ps_ret (pe_fld (pv 0) rfl)))), ?_⟩
    obtain ⟨dx, w, b, hx, hl, hv⟩ := id hC
    refine ⟨_, rfl, x, _, dx, _, _, rfl, hx, T.cl, T.n_was_searched, cfs_w _ _ _ _ _, _, rfl, ?_⟩
    cases w with
    | false =>
      refine iteT ⟨_, rfl, x, cs, p, g, o, rfl, hC.cu.crv, hp, hpn, hn, hB, fun H1 v s1 fr hv => ?_⟩
      refine ⟨_, rfl, x, _, dx, _, rfl, s1 _ _ hx, T.cl, T.n_break, (by show 5 < 1000; decide), ?_⟩
      rw [cset_b]
      refine ⟨_, rfl, x, _, dx, _, rfl, upd_same, T.cl, T.n_was_searched, (by show 5 < 1000; decide), ?_⟩
      rw [cset_w, upd_upd]
      obtain ⟨z1, z2, z3⟩ := cu_after hx hl s1 fr hv
      exact ⟨_, rfl, x, _, dx, _, _, rfl, upd_same, T.cl, T.n_break, cfs_b _ _ _ _ _, k _ v z1 z2 z3⟩
    | true =>
      exact iteF ⟨_, rfl, x, _, dx, _, _, rfl, hx, T.cl, T.n_break, cfs_b _ _ _ _ _, k H b (But.of (Same.refl _)) hC (hv rfl)⟩
theorem ok_C_is_good (T : Txt K mg A) : FnOk P w K mg base CX0 6 A.f_C_is_good A.d_C_is_good ["self"] (sp_C_is_good K A) := by
  have G_C_find_break := ok_C_find_break (P := P) (w := w) (base := base) T
  refine T.F_C_is_good.ok sc_C_is_good (fun vs H Q E h => ?_) (fun cdv A0 outer s H vs Q E hr h => ?_)
  · obtain ⟨x, l, cs, p, g, o, rfl, hC, hp, hpn, hn, hB, k⟩ := h
    rfl
  · obtain ⟨x, l, cs, p, g, o, rfl, hC, hp, hpn, hn, hB, k⟩ := h
    refine ⟨_, (pss_one (ps_ret (pe_cmp (pc_isN (pe_meth0 (pv 0) T.cl T.me_find_break G_C_find_break (hr.mono (by decide)) T.b_C_find_break .nil pass0)) rfl))), ?_⟩
    obtain ⟨dx, w, b, hx, hl, hv⟩ := id hC
    refine ⟨_, rfl, x, dx, _, rfl, hx, cfs_no _ _ _ (by decide +kernel) (by decide +kernel) (by decide +kernel), x, l, cs, p, g, o, rfl, hC, hp, hpn, hn, hB, fun H1 v s1 c1 v1 => ?_⟩
    have q := k H1 s1 c1
    rw [val_isNone v1] at q
    cases v <;> exact q
end
end VK


namespace VK
open PySem PySem.Spec PyProof.Rows L2 VM
theorem dp_ints {K : PySem.W.Frag} {H : Hp} : ∀ us : List Int, DpAll K H (us.map V.int) (us.map PyData.int)
  | [] => .nil
  | u :: us => .cons (.int u) (dp_ints us)
theorem int_len {i : Int} (h : i.natAbs < 10 ^ 100) : ((toString i : String) : Str).length ≤ 101 := by
  have e := int_text_length_le10 (k := 100) (by decide) h
  show (Str.ofString (toString i)).length ≤ 101
  rw [PySem.ofString_length]; exact e
theorem lit_len (x : String) {n : Nat} (h : x.length = n := by decide) : (x : Str).length = n := by
  show (Str.ofString x).length = n
  rw [PySem.ofString_length]; exact h
def crvS (xs : List Int) (p g : Int) : Str := ((((((Str.empty ++ ("Curve(" : Str)) ++ (PyData.shown (.list (xs.map PyData.int)))) ++ (", period=" : Str)) ++ (toString p : Str)) ++ (", gain=" : Str)) ++ (toString g : Str)) ++ (")" : Str)
def sp_C_repr (K : PySem.W.Frag) (A : Ad) : Sp := fun vs H Q _ => ∃ (x : Addr) (cs : List Int) (p g : Int), vs = [.ref x] ∧ CrvAt A H x cs p g ∧ VR.Sz 1 1000000 (.list (cs.map PyData.int)) ∧ p.natAbs < 10 ^ 100 ∧ g.natAbs < 10 ^ 100 ∧ Q (.str (crvS cs p g)) H
theorem row_mem {f : Int → Int} {k : Nat} {m : Int} : m ∈ row f k ↔ ∃ i : Nat, i < k ∧ m = f i := by
  unfold row
  rw [List.mem_map]
  constructor
  · rintro ⟨i, hi, rfl⟩; exact ⟨i, List.mem_range.mp hi, rfl⟩
  · rintro ⟨i, hi, rfl⟩; exact ⟨i, List.mem_range.mpr hi, rfl⟩
theorem nth_map {xs : List Int} {i : Nat} {x : V} (h : (xs.map V.int)[i]? = some x) : i < xs.length ∧ x = .int (xs.getD i 0) := by
  have hi : i < xs.length := by
    have := (List.getElem?_eq_some_iff.mp h).1
    rw [List.length_map] at this
    exact this
  rw [getD_map hi] at h
  exact ⟨hi, (Option.some.inj h).symm⟩
section
variable {P : Program} {w : World} {K : PySem.W.Frag} {mg : Str → Option Value} {base : Heap} {A : Ad}
theorem ok_C_repr (T : Txt K mg A) : VG.FnG P w K mg base CX0 1 A.f_C_repr A.d_C_repr ["self"] (sp_C_repr K A) := by
  refine VG.okG0 T.F_C_repr sc_C_repr (fun vs H Q E h => ?_) (fun cdv A0 outer s H vs Q E hA hr h => ?_)
  · obtain ⟨x, cs, p, g, rfl, ⟨dx, l, w, b, hx, hl⟩, sz, lp, lg, q⟩ := h
    rfl
  · obtain ⟨x, cs, p, g, rfl, ⟨dx, l, w, b, hx, hl⟩, sz, lp, lg, q⟩ := h
    refine ⟨_, (pss_one (ps_ret (pe_joined (.cons pe_str (.cons (VQ.pe_fmtD hA hr.units (pe_fld (pv 0) rfl)) (.cons pe_str (.cons (VN.pe_fmtN (pe_fld (pv 0) rfl)) (.cons pe_str (.cons (VN.pe_fmtN (pe_fld (pv 0) rfl)) (.cons pe_str .nil)))))))))), ?_⟩
    have e1 := int_len lp
    have e2 := int_len lg
    have e3 := sz.ln
    have k1 := lit_len "Curve(" (n := 6)
    have k2 := lit_len ", period=" (n := 9)
    have k3 := lit_len ", gain=" (n := 7)
    have k5 := lit_len ")" (n := 1)
    have k0 : Str.empty.length = 0 := rfl
    refine ⟨_, rfl, (by rw [sizeLine_eq]; simp only [Str.length_append]; omega), ?_⟩
    refine ⟨_, rfl, x, _, dx, _, _, rfl, hx, T.cl, T.n_values, cfs_v _ _ _ _ _, l, _, rfl, .lst (SqL.of hl) (dp_ints cs), sz.sh, Nat.le_trans sz.dp (by decide), Nat.le_trans e3 (by rw [sizeLine_eq]; decide), _, rfl, (by rw [sizeLine_eq]; simp only [Str.length_append]; omega), ?_⟩
    refine ⟨_, rfl, (by rw [sizeLine_eq]; simp only [Str.length_append]; omega), ?_⟩
    refine ⟨_, rfl, x, _, dx, _, _, rfl, hx, T.cl, T.n_period, cfs_p _ _ _ _ _, .inr (.inl ⟨_, rfl, VR.log_small lp, _, rfl, (by rw [sizeLine_eq]; simp only [Str.length_append]; omega), ?_⟩)⟩
    refine ⟨_, rfl, (by rw [sizeLine_eq]; simp only [Str.length_append]; omega), ?_⟩
    refine ⟨_, rfl, x, _, dx, _, _, rfl, hx, T.cl, T.n_gain, cfs_g _ _ _ _ _, .inr (.inl ⟨_, rfl, VR.log_small lg, _, rfl, (by rw [sizeLine_eq]; simp only [Str.length_append]; omega), ?_⟩)⟩
    exact ⟨_, rfl, (by rw [sizeLine_eq]; simp only [Str.length_append]; omega), q⟩
end
end VK


namespace VK
open PySem PySem.Spec PyProof.Rows L2 VM
theorem shaped_ints (us : List Int) : SeqAt.shaped (.list (us.map PyData.int)) = true := by
  have a : ∀ us : List Int, PyData.canLayAll0 (us.map PyData.int) = true := by
    intro us
    induction us with
    | nil => rfl
    | cons u us ih =>
      simp only [List.map_cons, PyData.canLayAll0, ih, Bool.and_true]
      rfl
  have b : ∀ us : List Int, PyData.depthAll (us.map PyData.int) ≤ 1 := by
    intro us
    induction us with
    | nil => exact Nat.zero_le _
    | cons u us ih =>
      simp only [List.map_cons, PyData.depthAll, PyData.depth]
      omega
  have c := b us
  refine Bool.and_eq_true_iff.mpr ⟨?_, decide_eq_true ?_⟩
  · simp only [PyData.canLay0]; exact a us
  · simp only [PyData.depth]; omega
theorem eqv_ints : ∀ us ws : List Int, PyData.eqv (.list (us.map PyData.int)) (.list (ws.map PyData.int)) = decide (us = ws) := by
  have a : ∀ us ws : List Int, PyData.eqvAll (us.map PyData.int) (ws.map PyData.int) = decide (us = ws) := by
    intro us
    induction us with
    | nil =>
      intro ws
      cases ws with
      | nil => rfl
      | cons w ws => rfl
    | cons u us ih =>
      intro ws
      cases ws with
      | nil => rfl
      | cons w ws =>
        simp only [List.map_cons, PyData.eqvAll, ih]
        by_cases h1 : u = w
        · subst h1
          by_cases h2 : us = ws
          · subst h2; simp [PyData.eqv]
          · rw [decide_eq_false h2, decide_eq_false (fun z => h2 (List.cons.inj z).2)]; simp
        · rw [decide_eq_false (fun z => h1 (List.cons.inj z).1)]
          simp [PyData.eqv, h1]
  intro us ws
  simp only [PyData.eqv]
  exact a us ws
def sp_C_eq (K : PySem.W.Frag) (A : Ad) : Sp := fun vs H Q _ => ∃ (x : Addr) (cs : List Int) (p g : Int) (v : V), vs = [.ref x, v] ∧ CrvAt A H x cs p g ∧
  ((∃ (y : Addr) (c2 : List Int) (p2 g2 : Int), v = .ref y ∧ CrvAt A H y c2 p2 g2 ∧ Q (.bl (decide (cs = c2) && (decide (p = p2) && decide (g = g2)))) H) ∨
    ∃ n, TyX K H v (.type n) ∧ n ∈ VN.kinds ∧ Q (.bl false) H)
section
variable {P : Program} {w : World} {K : PySem.W.Frag} {mg : Str → Option Value} {base : Heap} {A : Ad}
theorem ok_C_eq (T : Txt K mg A) : FnOk P w K mg base CX0 1 A.f_C_eq A.d_C_eq ["self", "other"] (sp_C_eq K A) := by
  refine T.F_C_eq.ok sc_C_eq (fun vs H Q E h => ?_) (fun cdv A0 outer s H vs Q E hr h => ?_)
  · obtain ⟨x, cs, p, g, v, rfl, ⟨dx, l, w, b, hx, hl⟩, k⟩ := h
    rfl
  · obtain ⟨x, cs, p, g, v, rfl, ⟨dx, l, w, b, hx, hl⟩, k⟩ := h
    refine ⟨_, (pss_one (ps_ret (pe_and (pe_callB (r := rIsi K) call_isi (by rfl) T.isinstance (by decide +kernel) (pa_cons (pv 1) (pa_cons (pe_glob (v := .ref A.Curve) rfl T.m_Curve rfl) pa_nil))) (pe_and (pe_cmpR (op_eqD hr.units) (pe_fld (pv 0) rfl) (pe_fld (pv 1) rfl) (nomark _)) (pe_and (pe_cmpR op_eq (pe_fld (pv 0) rfl) (pe_fld (pv 1) rfl) (nomark _)) (pe_one (pe_cmpR op_eq (pe_fld (pv 0) rfl) (pe_fld (pv 1) rfl) (nomark _)))))))), ?_⟩
    rcases k with ⟨y, c2, p2, g2, rfl, ⟨dy, l2, w2, bb2, hy, hl2⟩, q⟩ | ⟨n, ty, hn, q⟩
    · refine ⟨_, rfl, _, _, _, _, _, rfl, .own _, T.ic_Curve.typ T.cl hy, VN.kit_self, _, rfl, iteT ?_⟩
      refine ⟨_, rfl, x, _, dx, _, _, rfl, hx, T.cl, T.n_values, cfs_v _ _ _ _ _, _, rfl, y, _, dy, _, _, rfl, hy, T.cl, T.n_values, cfs_v _ _ _ _ _, _, _, .lst (SqL.of hl) (dp_ints cs), .lst (SqL.of hl2) (dp_ints c2), shaped_ints cs, shaped_ints c2, _, rfl, ?_⟩
      rw [eqv_ints]
      refine ifD (fun c => ?_) (fun c => ?_)
      · rw [decide_eq_true c, Bool.true_and] at q
        refine ⟨_, rfl, x, _, dx, _, _, rfl, hx, T.cl, T.n_period, cfs_p _ _ _ _ _, _, rfl, y, _, dy, _, _, rfl, hy, T.cl, T.n_period, cfs_p _ _ _ _ _, rfl, _, rfl, ifEq (fun c1 => ?_) (fun c1 => ?_)⟩
        · rw [decide_eq_true c1, Bool.true_and] at q
          refine ⟨_, rfl, x, _, dx, _, _, rfl, hx, T.cl, T.n_gain, cfs_g _ _ _ _ _, _, rfl, y, _, dy, _, _, rfl, hy, T.cl, T.n_gain, cfs_g _ _ _ _ _, rfl, ?_⟩
          show Q (.bl (decide (V.int g = V.int g2))) H
          rw [deq_int]; exact q
        · rw [decide_eq_false c1, Bool.false_and] at q
          exact q
      · rw [decide_eq_false c, Bool.false_and] at q
        exact q
    · exact ⟨_, rfl, _, _, _, _, _, rfl, .own _, ty, VN.kit_no T.ic_Curve hn, _, rfl, iteF q⟩
end
theorem own_eq {K : PySem.W.Frag} {mg : Str → Option Value} {A : Ad} (T : Txt K mg A) {H : Hp} {x y : Addr} {c1 c2 : List Int} {p1 g1 p2 g2 : Int} {Q : VK} {E : XK} (C1 : CrvAt A H x c1 p1 g1) (C2 : CrvAt A H y c2 p2 g2)
    (q : Q (.bl (decide (c1 = c2) && (decide (p1 = p2) && decide (g1 = g2)))) H) : VN.rOwn K A.Curve (sp_C_eq K A) E (.ref x) (.ref y) H Q := by
  obtain ⟨dx, l, w, b, hx, hl⟩ := id C1
  obtain ⟨dy, l2, w2, b2, hy, hl2⟩ := id C2
  exact ⟨x, dx, _, .ref A.Curve, rfl, hx, T.ic_Curve.typ T.cl hy, VN.notFirst_own, x, c1, p1, g1, .ref y, rfl, C1, .inl ⟨y, c2, p2, g2, rfl, C2, _, rfl, q⟩⟩
theorem own_ne {K : PySem.W.Frag} {mg : Str → Option Value} {A : Ad} (T : Txt K mg A) {H : Hp} {x y : Addr} {c1 c2 : List Int} {p1 g1 p2 g2 : Int} {Q : VK} {E : XK} (C1 : CrvAt A H x c1 p1 g1) (C2 : CrvAt A H y c2 p2 g2)
    (q : Q (.bl (!(decide (c1 = c2) && (decide (p1 = p2) && decide (g1 = g2))))) H) : VN.rOwnN K A.Curve (sp_C_eq K A) E (.ref x) (.ref y) H Q := by
  obtain ⟨dx, l, w, b, hx, hl⟩ := id C1
  obtain ⟨dy, l2, w2, b2, hy, hl2⟩ := id C2
  exact ⟨x, dx, _, .ref A.Curve, rfl, hx, T.ic_Curve.typ T.cl hy, VN.notFirst_own, x, c1, p1, g1, .ref y, rfl, C1, .inl ⟨y, c2, p2, g2, rfl, C2, _, rfl, q⟩⟩
theorem same3 {c : List Int} {p g : Int} : (decide (c = c) && (decide (p = p) && decide (g = g))) = true := by rw [decide_eq_true rfl, decide_eq_true rfl, decide_eq_true rfl]; rfl
theorem iteEqV {v : V} {X Y : Prop} (h : X) : if decide (v = v) = true then X else Y := by
  rw [decide_eq_true rfl]; exact h
theorem iteNeV {v : V} {X Y : Prop} (h : Y) : if (!decide (v = v)) = true then X else Y := by
  rw [decide_eq_true rfl]; exact h
end VK


namespace VK
open PySem PySem.Spec PyProof.Rows L2 VM
/-- the text of a curve -/
def strS (xs : List Int) (p g : Int) : Str := Txt.join ("/" : Str) [Txt.join ("," : Str) (xs.map fun x => (toString x : Str)), (toString p : Str), (toString g : Str)]
theorem sum_le_mul {L : List Nat} {b : Nat} (h : ∀ x ∈ L, x ≤ b) : L.sum ≤ b * L.length := by
  induction L with
  | nil => simp
  | cons x L ih =>
    have a := h x (List.mem_cons_self ..)
    have c := ih fun y hy => h y (List.mem_cons_of_mem _ hy)
    rw [List.sum_cons, List.length_cons, Nat.mul_add]
    omega
theorem len_sjoin_le (sep : Str) : ∀ l : List Str, (Str.join sep l).length ≤ (l.map (·.length)).sum + l.length * sep.length
  | [] => Nat.zero_le _
  | [x] => by show x.length ≤ _; simp
  | x :: y :: l => by
    have ih := len_sjoin_le sep (y :: l)
    have e : (Str.join sep (x :: y :: l)).length = x.length + sep.length + (Str.join sep (y :: l)).length := by
      show (x ++ sep ++ Str.join sep (y :: l)).length = _
      rw [Str.length_append, Str.length_append]
    rw [e]
    simp only [List.map_cons, List.sum_cons, List.length_cons, Nat.add_mul] at *
    omega
theorem len_join_le' (sep : Str) (l : List Str) : (Txt.join sep l).length ≤ (l.map (·.length)).sum + l.length * sep.length := by
  cases l with
  | nil => exact Nat.zero_le _
  | cons a r =>
    have e : Txt.join sep (a :: r) = Str.join sep (a :: r) := StrLaws.glued_eq_join ..
    rw [e]
    exact len_sjoin_le sep _
def sp_C_str (K : PySem.W.Frag) (A : Ad) : Sp := fun vs H Q _ => ∃ (x : Addr) (cs : List Int) (p g : Int), vs = [.ref x] ∧ CrvAt A H x cs p g ∧ (∀ u ∈ cs, u.natAbs < 10 ^ 100) ∧ cs.length ≤ 1000 ∧ p.natAbs < 10 ^ 100 ∧ g.natAbs < 10 ^ 100 ∧
  ∀ H', Same H H' → (strS cs p g).length ≤ 300000 → Q (.str (strS cs p g)) H'
section
variable {P : Program} {w : World} {K : PySem.W.Frag} {mg : Str → Option Value} {base : Heap} {A : Ad}
theorem ok_C_str (T : Txt K mg A) : FnOk P w K mg base CX0 1 A.f_C_str A.d_C_str ["self"] (sp_C_str K A) := by
  refine T.F_C_str.ok sc_C_str (fun vs H Q E h => ?_) (fun cdv A0 outer s H vs Q E hr h => ?_)
  · obtain ⟨x, cs, p, g, rfl, ⟨dx, l, w, b, hx, hl⟩, hv, hn, hp, hg, k⟩ := h
    rfl
  · obtain ⟨x, cs, p, g, rfl, ⟨dx, l, w, b, hx, hl⟩, hv, hn, hp, hg, k⟩ := h
    refine ⟨_, (pss_one (ps_ret (pe_join pe_str (pe_lst (pa_cons (pe_join pe_str (pe_lc (own := [("value", 1)]) (g := gName 1) (tt := tYes) rfl sc_C_str.nd (pi_list (pe_fld (pv 0) rfl)) (blkOk_by (own := [("value", 1)]) (N := ["self", "value"]) (sc := defScope s_C_str) (by decide +kernel)) (fun _ _ _ _ _ => pg_name (i := 1) sc_C_str.nd rfl (by first | exact Or.inl rfl | exact Or.inr rfl)) (fun _ _ _ _ _ => pts_nil) (fun _ _ _ _ _ => (pe_callTy VN.call_strIN (by rfl) T.str (by decide +kernel) (pa_cons (pv 1) pa_nil))))) (pa_cons (pe_callTy VN.call_strIN (by rfl) T.str (by decide +kernel) (pa_cons (pe_fld (pv 0) rfl) pa_nil)) (pa_cons (pe_callTy VN.call_strIN (by rfl) T.str (by decide +kernel) (pa_cons (pe_fld (pv 0) rfl) pa_nil)) pa_nil))))))), ?_⟩
    refine ⟨⟨_, rfl⟩, ⟨_, rfl⟩, _, rfl, x, _, dx, _, _, rfl, hx, T.cl, T.n_values, cfs_v _ _ _ _ _, l, rfl, ⟨_, SqL.of hl⟩, fun D hD => ?_⟩
    refine lc_list (K := K) (a := l) (xs := cs.map V.int) (fun j H2 => Same H H2 ∧ H2 D = some (.lst (((cs.take j).map fun u => (toString u : Str)).map V.str)))
      ⟨Same.upd (Same.refl _) hD, upd_same⟩ (fun j H2 _ ⟨s, _⟩ => SqL.of (s _ _ hl)) ?_ ?_
    · rintro j y H2 hy ⟨s, hD2⟩
      obtain ⟨hj, rfl⟩ := nth_map hy
      have hu := hv (cs.getD j 0) (by rw [List.getD_eq_getElem?_getD, List.getElem?_eq_getElem hj]; exact List.getElem_mem hj)
      refine ⟨rfl, _, rfl, .inl ⟨_, rfl, VR.log_small hu, _, hD2, small (by rw [List.length_map, List.length_map, List.length_take]; omega), Same.upd s hD, ?_⟩⟩
      rw [upd_same, List.take_succ, List.getElem?_eq_getElem hj, List.getD_eq_getElem?_getD, List.getElem?_eq_getElem hj, List.map_append, List.map_append]
      rfl
    · rintro H2 ⟨s, hD2⟩
      rw [List.length_map, List.take_length] at hD2
      have len1 : ∀ v ∈ (cs.map fun u => (toString u : Str)).map (·.length), v ≤ 101 := fun v hm => by
        obtain ⟨y, hy, rfl⟩ := List.mem_map.mp hm
        obtain ⟨u, hu, rfl⟩ := List.mem_map.mp hy
        exact int_len (hv u hu)
      have s1 := sum_le_mul len1
      rw [List.length_map, List.length_map] at s1
      have kc := lit_len "," (n := 1)
      have ks := lit_len "/" (n := 1)
      have j1 := len_join_le' ("," : Str) (cs.map fun u => (toString u : Str))
      rw [List.length_map, kc] at j1
      refine ⟨_, D, _, rfl, rfl, .inl (SqL.of hD2), by rw [List.length_map, kc]; omega, ?_⟩
      refine ⟨_, rfl, x, _, dx, _, _, rfl, s _ _ hx, T.cl, T.n_period, cfs_p _ _ _ _ _, .inl ⟨_, rfl, VR.log_small hp, _, rfl, x, _, dx, _, _, rfl, s _ _ hx, T.cl, T.n_gain, cfs_g _ _ _ _ _, .inl ⟨_, rfl, VR.log_small hg, (by show 3 ≤ sizeLine; decide), fun q hq => ?_⟩⟩⟩
      have l1 := int_len hp
      have l2 := int_len hg
      have j2 := len_join_le' ("/" : Str) [Txt.join ("," : Str) (cs.map fun u => (toString u : Str)), (toString p : Str), (toString g : Str)]
      rw [ks] at j2
      simp only [List.map_cons, List.map_nil, List.sum_cons, List.sum_nil, List.length_cons, List.length_nil] at j2
      refine ⟨_, q, [Txt.join ("," : Str) (cs.map fun u => (toString u : Str)), (toString p : Str), (toString g : Str)], rfl, rfl, .inl (SqL.of upd_same), ?_, ?_⟩
      · rw [ks]
        simp only [List.map_cons, List.map_nil, List.sum_cons, List.sum_nil, List.length_cons, List.length_nil]
        omega
      · exact k _ (Same.upd s (s.free hq)) (by show (Txt.join _ _).length ≤ _; omega)
end
end VK


namespace VK
open PySem PySem.Spec PyProof.Rows L2 VM
theorem row_vals {f : Int → Int} {n : Nat} : row (fun i => f (1 + i)) n = vals f n := by
  unfold row vals
  exact List.map_congr_left fun i _ => by rw [Int.add_comm]
/-- what stands in a piece's tuple -/
def pcV (q : Pc) : List V := [.int q.b, .int q.u, .int q.t]
def pzV (zs : List (Addr × Pc)) : List V := zs.map fun z => V.ref z.1
def pcs (zs : List (Addr × Pc)) : List Pc := zs.map (·.2)
/-- the pieces as they stand, each in its tuple -/
structure Pz (H : Hp) (zs : List (Addr × Pc)) : Prop where
  at_ : ∀ z ∈ zs, H z.1 = some (.tup (pcV z.2))
  ok : ∀ z ∈ zs, z.2.Ok
  ne : zs ≠ []
  few : zs.length ≤ 12
theorem Pz.same {H H' : Hp} {zs : List (Addr × Pc)} (h : Pz H zs) (s : Same H H') : Pz H' zs := ⟨fun z hz => s _ _ (h.at_ z hz), h.ok, h.ne, h.few⟩
theorem Pz.pne {H : Hp} {zs : List (Addr × Pc)} (h : Pz H zs) : pcs zs ≠ [] := fun e => h.ne (by unfold pcs at e; exact List.map_eq_nil_iff.mp e)
theorem Pz.pok {H : Hp} {zs : List (Addr × Pc)} (h : Pz H zs) : ∀ q ∈ pcs zs, q.Ok := fun q hq => by
  unfold pcs at hq
  obtain ⟨z, hz, rfl⟩ := List.mem_map.mp hq
  exact h.ok z hz
theorem Pz.len0 {H : Hp} {zs : List (Addr × Pc)} (h : Pz H zs) : 0 < zs.length := by
  have := h.ne
  cases zs with
  | nil => exact absurd rfl this
  | cons a l => exact Nat.succ_pos _
theorem Pz.nth {H : Hp} {zs : List (Addr × Pc)} (h : Pz H zs) {i : Nat} {v : V} (e : (pzV zs)[i]? = some v) : ∃ z, zs[i]? = some z ∧ v = .ref z.1 ∧ H z.1 = some (.tup (pcV z.2)) ∧ z.2.Ok := by
  unfold pzV at e
  rw [List.getElem?_map] at e
  cases ez : zs[i]? with
  | none => rw [ez] at e; cases e
  | some z =>
    rw [ez] at e
    cases e
    have m := List.mem_of_getElem? ez
    exact ⟨z, rfl, rfl, h.at_ z m, h.ok z m⟩
theorem take_nth {α β : Type} {f : α → β} {l : List α} {i : Nat} {z : α} (e : l[i]? = some z) : (l.take (i + 1)).map f = (l.take i).map f ++ [f z] := by
  rw [List.take_add_one, e, List.map_append]; rfl
theorem pcs_map {zs : List (Addr × Pc)} (f : Pc → Int) : (zs.take zs.length).map (fun z => f z.2) = (pcs zs).map f := by
  unfold pcs; rw [List.take_length, List.map_map]; rfl
def sp_line_at (K : PySem.W.Frag) (_ : Ad) : Sp := fun vs H Q _ => ∃ (t : Addr) (q : Pc) (x : Int), vs = [.ref t, .int x] ∧ H t = some (.tup (pcV q)) ∧ q.Ok ∧ Q (.int (q.at x)) H
def sp_is_piece (K : PySem.W.Frag) (_ : Ad) : Sp := fun vs H Q _ => ∃ (t : Addr) (q : Pc), vs = [.ref t] ∧ H t = some (.tup (pcV q)) ∧ q.Ok ∧ ∀ H', Same H H' → Q (.bl true) H'
def sp_find_wrong_piece (K : PySem.W.Frag) (_ : Ad) : Sp := fun vs H Q _ => ∃ (T : Addr) (zs : List (Addr × Pc)), vs = [.ref T] ∧ H T = some (.tup (pzV zs)) ∧ Pz H zs ∧ ∀ H', Same H H' → Q .non H'
def sp_form_of_pieces (K : PySem.W.Frag) (_ : Ad) : Sp := fun vs H Q _ => ∃ (T : Addr) (zs : List (Addr × Pc)), vs = [.ref T] ∧ H T = some (.tup (pzV zs)) ∧ Pz H zs ∧
  ∀ H' t l', Same H H' → H t = none → H l' = none → H' t = some (.tup [.ref l', .int (formP (vals (lnF (pcs zs)) (lnN (pcs zs)).toNat) 12 (lnG (pcs zs))).1, .int (formP (vals (lnF (pcs zs)) (lnN (pcs zs)).toNat) 12 (lnG (pcs zs))).2]) →
    H' l' = some (.lst ((formV (vals (lnF (pcs zs)) (lnN (pcs zs)).toNat) 12 (lnG (pcs zs))).map V.int)) → Q (.ref t) H'
section
variable {P : Program} {w : World} {K : PySem.W.Frag} {mg : Str → Option Value} {base : Heap} {A : Ad}
theorem ok_line_at (T : Txt K mg A) : FnOk P w K mg base CX0 2 A.f_line_at A.d_line_at ["piece", "length"] (sp_line_at K A) := by
  have G_rounded_up := ok_rounded_up (P := P) (w := w) (base := base) T
  refine T.F_line_at.ok sc_line_at (fun vs H Q E h => ?_) (fun cdv A0 outer s H vs Q E hr h => ?_)
  · obtain ⟨t, q, x, rfl, ht, ok, k⟩ := h
    rfl
  · obtain ⟨t, q, x, rfl, ht, ok, k⟩ := h
    refine ⟨_, (pss_cons (ps_asg (pv 0) (pg_tup rfl (pgs_cons (pg_name (i := 2) sc_line_at.nd rfl (by first | exact Or.inl rfl | exact Or.inr rfl)) (pgs_cons (pg_name (i := 3) sc_line_at.nd rfl (by first | exact Or.inl rfl | exact Or.inr rfl)) (pgs_cons (pg_name (i := 4) sc_line_at.nd rfl (by first | exact Or.inl rfl | exact Or.inr rfl)) pgs_nil)))))
    (pss_one (ps_ret (pe_op op_add (pv 2) (pe_call G_rounded_up (hr.mono (by decide)) rfl T.m_rounded_up T.k_rounded_up T.b_rounded_up .nil pass0 (pa_cons (pe_op op_mul (pv 3) (pv 1)) (pa_cons (pv 4) pa_nil))))))), ?_⟩
    have t0 : 0 < q.t ∧ q.t ≤ 12 := by rcases ok.t_ with h | h | h | h | h | h <;> omega
    have u0 := ok.u0
    have u1 := ok.u1
    exact ⟨_, rfl, t, _, rfl, SqT.of ht, rfl, _, _, rfl, _, _, rfl, _, _, rfl, rfl, _, rfl, _, rfl, _, rfl, _, _, rfl, rfl, .inl ⟨by omega, by omega⟩, _, rfl, _, _, rfl, t0.1, by omega, _, _, rfl, rfl, k⟩
theorem ok_is_piece (T : Txt K mg A) : FnOk P w K mg base CX0 4 A.f_is_piece A.d_is_piece ["value"] (sp_is_piece K A) := by
  have G_is_count_to := ok_is_count_to (P := P) (w := w) (base := base) T
  refine T.F_is_piece.ok sc_is_piece (fun vs H Q E h => ?_) (fun cdv A0 outer s H vs Q E hr h => ?_)
  · obtain ⟨t, q, rfl, ht, ok, k⟩ := h
    rfl
  · obtain ⟨t, q, rfl, ht, ok, k⟩ := h
    refine ⟨_, (pss_cons (ps_if (PW.pt (pw_or (pt_not (pt_val (pe_callB (r := rIsi K) call_isi (by rfl) T.isinstance (by decide +kernel) (pa_cons (pv 0) (pa_cons (pe_bltn (v := .ty "tuple") (u := .type "tuple") (by rfl) T.tuple (by decide +kernel) (by exact rfl)) pa_nil))))) (pw_or1 (pt_cmpR op_ne (pe_callB (r := VG.rLen K) VG.call_len (by rfl) T.len (by decide +kernel) (pa_cons (pv 0) pa_nil)) pe_int (nomark _))))) (pss_one (ps_ret pe_bl)) pss_nil)
    (pss_one (ps_ret (pe_and (pe_callB (r := rAll K) (cr_all rfl) (by rfl) T.all (by decide +kernel) (pa_cons (pe_lc (own := [("part", 1)]) (g := gName 1) (tt := tYes) rfl sc_is_piece.nd (pi_tup (pv 0)) (blkOk_by (own := [("part", 1)]) (N := ["value", "part"]) (sc := defScope s_is_piece) (by decide +kernel)) (fun _ _ _ _ _ => pg_name (i := 1) sc_is_piece.nd rfl (by first | exact Or.inl rfl | exact Or.inr rfl)) (fun _ _ _ _ _ => pts_nil) (fun _ _ _ _ _ => (pe_call G_is_count_to (hr.mono (by decide)) rfl T.m_is_count_to T.k_is_count_to T.b_is_count_to .nil pass0 (pa_cons (pv 1) (pa_cons (pe_glob (v := .int 60) rfl T.v_MAX_IN_PIECE ⟨_, rfl⟩) pa_nil))))) pa_nil)) (pe_one (pe_cmpR (r := rIn K false) op_in_seq (pe_ix (r := rIxT K) ix_tup (pv 0) pe_int (fun _ _ => rfl)) (pe_glob (v := .ref A.a_PERIODS) rfl T.v_PERIODS rfl) (by rfl))))))), ?_⟩
    refine ⟨_, rfl, .ref t, .ty "tuple", _, _, _, rfl, .ty _, .base (.tup ht), (show PySem.W.kitOne K (.type "tuple") (.type "tuple") = some true from kit_ty (by decide +kernel)), _, rfl, iteF ?_⟩
    refine ⟨_, rfl, t, _, rfl, .inr (SqT.of ht), rfl, _, rfl, iteF ?_⟩
    refine ⟨_, rfl, t, rfl, ⟨_, SqT.of ht⟩, fun D hD => ?_⟩
    refine lc_tup (K := K) (a := t) (xs := pcV q) (fun j H' => H' D = some (.lst ((List.replicate j true).map V.bl)) ∧ Same H H') ⟨upd_same, Same.upd (Same.refl _) hD⟩ (fun i H' _ h => SqT.of (h.2 _ _ ht)) ?_ ?_
    · rintro j v H' hv ⟨hD2, s2⟩
      have hj : j < 3 := (List.getElem?_eq_some_iff.mp hv).1
      obtain ⟨i, rfl, i0, i1⟩ : ∃ i : Int, v = .int i ∧ 0 ≤ i ∧ i ≤ 60 := by
        have t1 : 0 ≤ q.t ∧ q.t ≤ 60 := by rcases ok.t_ with h | h | h | h | h | h <;> omega
        have m := List.mem_of_getElem? hv
        simp only [pcV, List.mem_cons, List.not_mem_nil, or_false] at m
        rcases m with rfl | rfl | rfl
        · exact ⟨_, rfl, ok.b0, ok.b1⟩
        · exact ⟨_, rfl, ok.u0, ok.u1⟩
        · exact ⟨_, rfl, t1.1, t1.2⟩
      refine ⟨rfl, _, rfl, .int i, _, 60, rfl, Kd.int i, ?_⟩
      have e1 : cntTo 60 (.int i) = true := by unfold cntTo; exact decide_eq_true ⟨i0, i1⟩
      rw [e1]
      refine ⟨_, hD2, small (by rw [List.length_map, List.length_replicate]; omega), ?_, Same.upd s2 hD⟩
      rw [upd_same, List.replicate_succ', List.map_append]; rfl
    · rintro H' ⟨hD2, s2⟩
      refine ⟨D, _, rfl, SqL.of hD2, ?_⟩
      have e : (List.replicate (pcV q).length true).all id = true := by
        rw [List.all_eq_true]
        intro x hx
        exact List.eq_of_mem_replicate hx
      rw [e]
      refine ⟨_, rfl, iteT ?_⟩
      refine ⟨_, rfl, t, _, 2, .int q.t, rfl, rfl, SqT.of (s2 _ _ ht), rfl, ?_⟩
      refine ⟨A.a_PERIODS, _, rfl, .inr (T.periods _), rfl, rfl, ?_⟩
      have e2 : inV (.int q.t) [.int 1, .int 2, .int 3, .int 4, .int 6, .int 12] = true := by
        rcases ok.t_ with h | h | h | h | h | h <;> rw [h] <;> decide
      show Q (.bl (inV (.int q.t) [.int 1, .int 2, .int 3, .int 4, .int 6, .int 12])) H'
      rw [e2]
      exact k _ s2
theorem ok_find_wrong_piece (T : Txt K mg A) : FnOk P w K mg base CX0 5 A.f_find_wrong_piece A.d_find_wrong_piece ["pieces"] (sp_find_wrong_piece K A) := by
  have G_is_piece := ok_is_piece (P := P) (w := w) (base := base) T
  refine T.F_find_wrong_piece.ok sc_find_wrong_piece (fun vs H Q E h => ?_) (fun cdv A0 outer s H vs Q E hr h => ?_)
  · obtain ⟨T0, zs, rfl, hT, hz, k⟩ := h
    rfl
  · obtain ⟨T0, zs, rfl, hT, hz, k⟩ := h
    refine ⟨_, (pss_cons (ps_if (pt_cmpR op_eq (pe_callB (r := VG.rLen K) VG.call_len (by rfl) T.len (by decide +kernel) (pa_cons (pv 0) pa_nil)) pe_int (nomark _)) (pss_one (ps_ret pe_int)) pss_nil)
    (pss_cons (ps_for PassesOwn.never rfl (VE.pi_enumT (by rfl) T.enumerate (pa_cons (pv 0) pa_nil)) (pg_tup rfl (pgs_cons (pg_name (i := 1) sc_find_wrong_piece.nd rfl (by first | exact Or.inl rfl | exact Or.inr rfl)) (pgs_cons (pg_name (i := 2) sc_find_wrong_piece.nd rfl (by first | exact Or.inl rfl | exact Or.inr rfl)) pgs_nil)))
      (pss_one (ps_if (pt_not (pt_val (pe_call G_is_piece (hr.mono (by decide)) rfl T.m_is_piece T.k_is_piece T.b_is_piece .nil pass0 (pa_cons (pv 2) pa_nil)))) (pss_one (ps_ret (pv 1))) pss_nil)))
    (pss_one (ps_ret pe_non)))), ?_⟩
    refine ⟨_, rfl, T0, _, rfl, .inr (SqT.of hT), rfl, _, rfl, ?_⟩
    have l0 := hz.len0
    have pl : (pzV zs).length = zs.length := List.length_map _
    rw [pl]
    refine ifEq (fun c => absurd c (by omega)) (fun _ => ?_)
    refine ⟨_, rfl, T0, _, rfl, SqT.of hT, for_it (VE.walk_enumT (K := K) (a := T0) (xs := pzV zs) (k := 0)) (fun i σ H' => ∃ v1 v2, σ = [some (.ref T0), v1, v2] ∧ Same H H') ⟨none, none, rfl, Same.refl H⟩ (fun i σ H' _ ⟨_, _, _, s0⟩ => SqT.of (s0 _ _ hT)) ?_ ?_⟩
    · rintro i y σ H' H2 hi ⟨v1, v2, rfl, s0⟩ ⟨t, a, b', rfl, ht, rfl, ea, eb⟩
      obtain ⟨z, ez, rfl, hz1, ok⟩ := (hz.same s0).nth eb
      cases ea
      have s1 : Same H' (upd H' t (.tup [.int (0 + (i : Nat)), .ref z.1])) := Same.upd (Same.refl _) ht
      refine ⟨t, _, rfl, SqT.of upd_same, rfl, _, _, rfl, _, _, rfl, rfl, ?_⟩
      refine ⟨_, rfl, z.1, z.2, rfl, s1 _ _ hz1, ok, fun H3 s3 => ⟨_, rfl, iteF ?_⟩⟩
      exact ⟨_, _, rfl, (s0.trans s1).trans s3⟩
    · rintro σ H' ⟨v1, v2, rfl, s0⟩
      exact k _ s0
theorem ok_form_of_pieces (T : Txt K mg A) : FnOk P w K mg base CX0 5 A.f_form_of_pieces A.d_form_of_pieces ["pieces"] (sp_form_of_pieces K A) := by
  have G_least_form := ok_least_form (P := P) (w := w) (base := base) T
  have G_line_at := ok_line_at (P := P) (w := w) (base := base) T
  refine T.F_form_of_pieces.ok sc_form_of_pieces (fun vs H Q E h => ?_) (fun cdv A0 outer s H vs Q E hr h => ?_)
  · obtain ⟨T0, zs, rfl, hT, hz, k⟩ := h
    rfl
  · obtain ⟨T0, zs, rfl, hT, hz, k⟩ := h
    refine ⟨_, (pss_cons (ps_set (i := 1) sc_form_of_pieces.nd rfl (by first | exact Or.inl rfl | exact Or.inr rfl) (pe_callB (r := rMax K) (cr_max rfl) (by rfl) T.max (by decide +kernel) (pa_cons (pe_lc (own := [("piece", 5)]) (g := gName 5) (tt := tYes) rfl sc_form_of_pieces.nd (pi_tup (pv 0)) (blkOk_by (own := [("piece", 5)]) (N := ["pieces", "burst", "gain", "many", "values", "piece", "_", "units", "ticks", "length"]) (sc := defScope s_form_of_pieces) (by decide +kernel)) (fun _ _ _ _ _ => pg_name (i := 5) sc_form_of_pieces.nd rfl (by first | exact Or.inl rfl | exact Or.inr rfl)) (fun _ _ _ _ _ => pts_nil) (fun _ _ _ _ _ => (pe_ix (r := rIxT K) ix_tup (pv 5) pe_int (fun _ _ => rfl)))) pa_nil)))
    (pss_cons (ps_set (i := 2) sc_form_of_pieces.nd rfl (by first | exact Or.inl rfl | exact Or.inr rfl) (pe_callB (r := rMin K) (cr_min rfl) (by rfl) T.min (by decide +kernel) (pa_cons (pe_lc (own := [("_", 6), ("units", 7), ("ticks", 8)]) (g := gTup K 3 (gCons (gName 6) (gCons (gName 7) (gCons (gName 8) gNil)))) (tt := tYes) rfl sc_form_of_pieces.nd (pi_tup (pv 0)) (blkOk_by (own := [("_", 6), ("units", 7), ("ticks", 8)]) (N := ["pieces", "burst", "gain", "many", "values", "piece", "_", "units", "ticks", "length"]) (sc := defScope s_form_of_pieces) (by decide +kernel)) (fun _ _ _ _ _ => pg_tup rfl (pgs_cons (pg_name (i := 6) sc_form_of_pieces.nd rfl (by first | exact Or.inl rfl | exact Or.inr rfl)) (pgs_cons (pg_name (i := 7) sc_form_of_pieces.nd rfl (by first | exact Or.inl rfl | exact Or.inr rfl)) (pgs_cons (pg_name (i := 8) sc_form_of_pieces.nd rfl (by first | exact Or.inl rfl | exact Or.inr rfl)) pgs_nil)))) (fun _ _ _ _ _ => pts_nil) (fun _ _ _ _ _ => (pe_op op_fdiv (pe_op op_mul (pv 7) (pe_glob (v := .int 12) rfl T.v_LONGEST_PERIOD ⟨_, rfl⟩)) (pv 8)))) pa_nil)))
    (pss_cons (ps_set (i := 3) sc_form_of_pieces.nd rfl (by first | exact Or.inl rfl | exact Or.inr rfl) (pe_op op_mul (pe_glob (v := .int 12) rfl T.v_LONGEST_PERIOD ⟨_, rfl⟩) (pe_op op_add (pv 1) pe_int)))
    (pss_cons (ps_setLc (i := 4) (own := [("length", 9)]) (g := gName 9) (tt := tYes) rfl sc_form_of_pieces.nd rfl rfl (sw_true rfl rfl rfl (by decide +kernel)) (pi_range2 rfl T.range (pa_cons pe_int (pa_cons (pe_op op_add (pv 3) pe_int) pa_nil))) (blkOk_by (own := [("length", 9)]) (N := ["pieces", "burst", "gain", "many", "values", "piece", "_", "units", "ticks", "length"]) (sc := defScope s_form_of_pieces) (by decide +kernel)) (fun _ _ _ _ _ => pg_name (i := 9) sc_form_of_pieces.nd rfl (by first | exact Or.inl rfl | exact Or.inr rfl)) (fun _ _ _ _ _ => pts_nil) (fun _ _ _ _ _ => (pe_callB (r := rMin K) (cr_min rfl) (by rfl) T.min (by decide +kernel) (pa_cons (pe_lc (own := [("piece", 5)]) (g := gName 5) (tt := tYes) rfl sc_form_of_pieces.nd (VP.pi_tupK (K' := K) (pv 0) rfl) (blkOk_by (own := [("piece", 5)]) (N := ["pieces", "burst", "gain", "many", "values", "piece", "_", "units", "ticks", "length"]) (sc := { kind := .function, names := [(".0", .local), ("length", .cell), ("min", .globalImplicit), ("pieces", .cell)], isGenerator := false, isCoroutine := false }) (by decide +kernel)) (fun _ _ _ _ _ => pg_name (i := 5) sc_form_of_pieces.nd rfl (by first | exact Or.inl rfl | exact Or.inr rfl)) (fun _ _ _ _ _ => pts_nil) (fun _ _ _ _ _ => (pe_call G_line_at (hr.mono (by decide)) rfl T.m_line_at T.k_line_at T.b_line_at .nil pass0 (pa_cons (pv 5) (pa_cons (pv 9) pa_nil))))) pa_nil))))
    (pss_one (ps_ret (pe_call G_least_form (hr.mono (by decide)) rfl T.m_least_form T.k_least_form T.b_least_form .nil pass0 (pa_cons (pv 4) (pa_cons (pe_glob (v := .int 12) rfl T.v_LONGEST_PERIOD ⟨_, rfl⟩) (pa_cons (pv 2) pa_nil)))))))))), ?_⟩
    refine ⟨_, rfl, T0, rfl, ⟨_, SqT.of hT⟩, fun D hD => ?_⟩
    refine lc_tup (K := K) (a := T0) (xs := pzV zs) (fun j H' => H' D = some (.lst (((zs.take j).map (fun z => z.2.b)).map V.int)) ∧ Same H H') ⟨upd_same, Same.upd (Same.refl _) hD⟩ (fun i H' _ h => SqT.of (h.2 _ _ hT)) ?_ ?_
    · rintro j v H' hv ⟨hD2, s2⟩
      obtain ⟨z, ez, rfl, hz1, _⟩ := (hz.same s2).nth hv
      refine ⟨rfl, _, rfl, z.1, _, 0, _, rfl, rfl, SqT.of hz1, rfl, ?_⟩
      refine ⟨_, hD2, small (by rw [List.length_map, List.length_map, List.length_take]; have := hz.few; omega), ?_, Same.upd s2 hD⟩
      rw [upd_same, take_nth ez, List.map_append]; rfl
    rintro H1 ⟨hD1, s1⟩
    have pl : (pzV zs).length = zs.length := List.length_map _
    have l0 := hz.len0
    have lf := hz.few
    have pn := hz.pne
    have po := hz.pok
    rw [pl, pcs_map (f := Pc.b)] at hD1
    refine ⟨D, (pcs zs).map Pc.b, rfl, SqL.of hD1, (by unfold pcs; rw [List.length_map, List.length_map]; exact l0), fun m hm hmx => ?_⟩
    have em := maxOf_eq hm hmx
    refine ⟨_, rfl, T0, rfl, ⟨_, SqT.of (s1 _ _ hT)⟩, fun D2 hD2 => ?_⟩
    refine lc_tup (K := K) (a := T0) (xs := pzV zs) (fun j H' => H' D2 = some (.lst (((zs.take j).map (fun z => z.2.r)).map V.int)) ∧ Same H1 H') ⟨upd_same, Same.upd (Same.refl _) hD2⟩ (fun i H' _ h => SqT.of (h.2 _ _ (s1 _ _ hT))) ?_ ?_
    · rintro j v H' hv ⟨hD3, s2⟩
      obtain ⟨z, ez, rfl, hz1, ok⟩ := (hz.same (s1.trans s2)).nth hv
      have t0 : 0 < z.2.t ∧ z.2.t ≤ 12 := by rcases ok.t_ with h | h | h | h | h | h <;> omega
      refine ⟨z.1, _, rfl, SqT.of hz1, rfl, _, _, rfl, _, _, rfl, _, _, rfl, rfl, ?_⟩
      refine ⟨rfl, ?_⟩
      refine ⟨_, rfl, _, _, rfl, rfl, .inr ⟨by decide, by decide⟩, _, rfl, _, _, rfl, rfl, ⟨t0.1, by omega⟩, ?_⟩
      refine ⟨_, hD3, small (by rw [List.length_map, List.length_map, List.length_take]; omega), ?_, Same.upd s2 hD2⟩
      rw [upd_same, take_nth ez, List.map_append]; rfl
    rintro H2 ⟨hD3, s2⟩
    rw [pl, pcs_map (f := Pc.r)] at hD3
    refine ⟨D2, (pcs zs).map Pc.r, rfl, SqL.of hD3, (by unfold pcs; rw [List.length_map, List.length_map]; exact l0), fun g hg hgx => ?_⟩
    have eg := minOf_eq hg hgx
    have s02 := s1.trans s2
    have nb := lnN_b pn po
    refine ⟨_, rfl, _, _, rfl, rfl, _, _, rfl, rfl, .inl ⟨by decide, by decide⟩, ?_⟩
    have eN : 12 * (m + 2) = lnN (pcs zs) := by rw [em]; rfl
    have eG : g = lnG (pcs zs) := eg
    show gName 3 (V.int (12 * (m + 2))) _ _ _
    rw [eN, eG]
    generalize hN : lnN (pcs zs) = N at *
    clear em hm hmx eg hg hgx eN eG
    refine ⟨_, rfl, _, _, rfl, rfl, _, _, rfl, ⟨by omega, by omega, by omega, by omega⟩, fun D4 hD4 => ?_⟩
    refine lc_range (lo := 1) (n := (N + 1 - 1).toNat) (fun j H3 => H3 D4 = some (.lst ((row (fun i => lnF (pcs zs) (1 + i)) j).map V.int)) ∧ Same H2 H3) ⟨upd_same, Same.upd (Same.refl _) hD4⟩ ?_ ?_
    · rintro j H3 hj ⟨hD5, s3⟩
      have s03 := s02.trans s3
      refine ⟨rfl, _, rfl, T0, rfl, ⟨_, SqT.of (s03 _ _ hT)⟩, fun D6 hD6 => ?_⟩
      refine lc_tup (K := K) (a := T0) (xs := pzV zs) (fun k H' => H' D6 = some (.lst (((zs.take k).map (fun z => z.2.at (1 + (j : Int)))).map V.int)) ∧ Same H3 H') ⟨upd_same, Same.upd (Same.refl _) hD6⟩ (fun i H' _ h => SqT.of (h.2 _ _ (s03 _ _ hT))) ?_ ?_
      · rintro k v H' hv ⟨hD7, s4⟩
        obtain ⟨z, ez, rfl, hz1, ok⟩ := (hz.same (s03.trans s4)).nth hv
        refine ⟨rfl, _, rfl, _, rfl, z.1, z.2, 1 + (j : Int), rfl, hz1, ok, ?_⟩
        refine ⟨_, hD7, small (by rw [List.length_map, List.length_map, List.length_take]; omega), ?_, Same.upd s4 hD6⟩
        rw [upd_same, take_nth ez, List.map_append]; rfl
      rintro H4 ⟨hD7, s4⟩
      rw [pl, pcs_map (f := fun q => q.at (1 + (j : Int)))] at hD7
      refine ⟨D6, (pcs zs).map (fun q => q.at (1 + (j : Int))), rfl, SqL.of hD7, (by unfold pcs; rw [List.length_map, List.length_map]; exact l0), fun m hm hmx => ?_⟩
      have em := minOf_eq hm hmx
      rw [← lnF_pos (show 0 < 1 + (j : Int) by omega)] at em
      subst em
      refine ⟨_, s4 _ _ hD5, small (by rw [List.length_map, row_length]; omega), ?_, Same.upd (s3.trans s4) hD4⟩
      rw [upd_same, rowI_succ]
    rintro H3 ⟨hD5, s3⟩
    rw [row_vals (f := lnF (pcs zs)), show (N + 1 - 1).toNat = N.toNat by omega] at hD5
    have s03 := s02.trans s3
    refine ⟨_, rfl, _, rfl, D4, vals (lnF (pcs zs)) N.toNat, 12, lnG (pcs zs), rfl, SqL.of hD5, by decide, by rw [vals_length]; omega, by rw [vals_length]; omega, fun H5 t l' s5 ht0 hl0 ht hl => ?_⟩
    exact k H5 t l' (s03.trans s5) (s03.free ht0) (s03.free hl0) ht hl
end
end VK


namespace VK
open PySem PySem.Spec PyProof.Rows L2 VM
theorem kb_init2 {K : PySem.W.Frag} {mg : Str → Option Value} {A : Ad} (T : Txt K mg A) : ∃ mv : List Value, KBn K A.d_C_init ["self", "values", "period", "gain"] 2 ["period", "gain"] (fun us ws => us ++ ws) (fun vs zs => vs ++ zs) := by
  obtain ⟨mv, h⟩ := T.F_C_init.kbinds0 (ps := ["self", "values", "period", "gain"]) 2 ["period", "gain"] [] (fun us _ ws => us ++ ws) (by simp) (by simp) (fun a _ c => a.append c)
    (fun D doc pm an cdv ct us mv ws h1 h2 h3 => match us, mv, ws, h1, h2, h3 with | [_, _], [], [_, _], _, _, _ => rfl)
  exact ⟨mv, h⟩
theorem make_same {H H1 : Hp} {x dx : Addr} {o1 o2 : HO} (hx : H x = none) (hdx : H dx = none) (keep : ∀ b o, b ≠ x → upd (upd H dx o1) x o2 b = some o → H1 b = some o) : Same H H1 :=
  fun b o e => keep b o (ne_of_none e hx) (by rw [upd_ne (ne_of_none e hx), upd_ne (ne_of_none e hdx)]; exact e)
/-- the form of a function that rises and repeats may be written, if it is short -/
theorem fm_okRow {F : Int → Int} {n : Nat} {G : Int} (R : Rep F n 12 G) (hn : 12 ≤ n) (F0 : F 0 = 0) (up : ∀ x : Int, 0 ≤ x → F x ≤ F (x + 1)) (hi : F 24 ≤ 2000) (hG : G ≤ 2000) (sh : (formV (vals F n) 12 G).length ≤ 24) :
    OkRow (formV (vals F n) 12 G) (formP (vals F n) 12 G).1 (formP (vals F n) 12 G).2 := by
  have h12 : (12 : Int) ≤ (vals F n).length := by rw [vals_length]; omega
  obtain ⟨f1, f2, f3, f4, f5⟩ := form_spec (vs := vals F n) (g := G) (by decide) h12
  have FV := fm_vals R hn F0
  have RF := fm_rep (g := G) (show (0 : Int) < 12 by decide) h12
  have dv := (fm_least (g := G) (show (0 : Int) < 12 by decide) h12).1
  have per := per6_dvd f1 (show per6 12 by unfold per6; omega) dv
  have get : ∀ i, i < (formV (vals F n) 12 G).length → (formV (vals F n) 12 G).getD i 0 = F ((i : Int) + 1) := fun i hi => by
    rw [form_get hi, FV _ (by omega)]
  have mono : ∀ d k : Nat, F k ≤ F ((k + d : Nat) : Int) := fun d k => by
    induction d with
    | zero => exact Int.le_refl _
    | succ d ih =>
      have := up ((k + d : Nat) : Int) (by omega)
      rw [show ((k + (d + 1) : Nat) : Int) = ((k + d : Nat) : Int) + 1 by omega]
      omega
  have RF' : Rep F (formV (vals F n) 12 G).length (formP (vals F n) 12 G).1 (formP (vals F n) 12 G).2 := RF.congr FV f1 f3
  generalize formV (vals F n) 12 G = xs at *
  generalize (formP (vals F n) 12 G).1 = p at *
  generalize (formP (vals F n) 12 G).2 = g at *
  have p12 : p ≤ 12 := f2
  have last := RF' ((xs.length : Int) + 1) (by omega)
  have m1 := mono p.toNat (xs.length + 1 - p.toNat)
  rw [show ((xs.length + 1 - p.toNat : Nat) : Int) = (xs.length : Int) + 1 - p by omega, show ((xs.length + 1 - p.toNat + p.toNat : Nat) : Int) = (xs.length : Int) + 1 by omega] at m1
  have m2 := mono 1 xs.length
  rw [show ((xs.length + 1 : Nat) : Int) = (xs.length : Int) + 1 by omega] at m2
  have gG : g ≤ G := by
    have q := (RF'.mul f1 dv (by decide) (show (xs.length : Int) - p + 12 ≤ xs.length + 12 by omega))
    have e := rep_gain R q
    have g0 : 0 ≤ g := by omega
    rcases per with h | h | h | h | h | h <;> subst h <;> omega
  refine ⟨by omega, sh, fun i hi => ?_, fun i hi2 => ?_, fun i hi => ?_, per, f3, by omega, by omega, ?_⟩
  · rw [get i hi]
    have := mono (i + 1) 0
    rw [show ((0 + (i + 1) : Nat) : Int) = (i : Int) + 1 by omega, show F ((0 : Nat) : Int) = 0 from F0] at this
    exact this
  · rw [get i hi2]
    have := mono (23 - i) (i + 1)
    rw [show ((i + 1 : Nat) : Int) = (i : Int) + 1 by omega, show ((i + 1 + (23 - i) : Nat) : Int) = 24 by omega] at this
    omega
  · rw [get i (by omega), get (i + 1) hi]
    have := up ((i : Int) + 1) (by omega)
    rw [show ((i + 1 : Nat) : Int) + 1 = (i : Int) + 1 + 1 by omega]
    exact this
  · rw [get _ (by omega), get _ (by omega)]
    rw [show ((xs.length - 1 : Nat) : Int) + 1 = xs.length by omega, show ((xs.length - p.toNat : Nat) : Int) + 1 = (xs.length : Int) + 1 - p by omega]
    omega
/-- the form of the least of lines -/
def lnV (qs : List Pc) : List Int := formV (vals (lnF qs) (lnN qs).toNat) 12 (lnG qs)
def lnP (qs : List Pc) : Int × Int := formP (vals (lnF qs) (lnN qs).toNat) 12 (lnG qs)
theorem ln_rep' {qs : List Pc} (ne : qs ≠ []) (ok : ∀ q ∈ qs, q.Ok) : Rep (lnF qs) ((lnN qs).toNat : Nat) 12 (lnG qs) := by
  have := lnN_b ne ok
  rw [Int.toNat_of_nonneg (by omega)]
  exact ln_rep ne ok
theorem ln_okRow {qs : List Pc} (ne : qs ≠ []) (ok : ∀ q ∈ qs, q.Ok) (sh : (lnV qs).length ≤ 24) : OkRow (lnV qs) (lnP qs).1 (lnP qs).2 := by
  have nb := lnN_b ne ok
  have gb := lnG_b ne ok
  exact fm_okRow (ln_rep' ne ok) (by omega) lnF_zero (fun x hx => ln_up ne ok x hx) (by have := ln_hi ne ok 24 (by decide); omega) (by omega) sh
theorem ln_spec {qs : List Pc} (ne : qs ≠ []) (ok : ∀ q ∈ qs, q.Ok) : 0 < (lnP qs).1 ∧ (lnP qs).1 ≤ 12 ∧ (lnP qs).1 ≤ (lnV qs).length ∧ (lnV qs).length ≤ 744 ∧ ∀ t, 0 ≤ t → cvAt (lnV qs) (lnP qs).1 (lnP qs).2 t = lnF qs t := by
  have nb := lnN_b ne ok
  obtain ⟨f1, f2, f3, f4, f5⟩ := form_spec (vs := vals (lnF qs) (lnN qs).toNat) (g := lnG qs) (p := 12) (by decide) (by rw [vals_length]; omega)
  rw [vals_length] at f4
  refine ⟨f1, f2, f3, show (formV _ _ _).length ≤ _ by omega, fun t ht => ?_⟩
  rw [← fm_vals (ln_rep' ne ok) (by omega) lnF_zero t ht]
  exact f5 t ht
theorem ln_idem {qs : List Pc} (ne : qs ≠ []) (ok : ∀ q ∈ qs, q.Ok) : formV (lnV qs) (lnP qs).1 (lnP qs).2 = lnV qs ∧ formP (lnV qs) (lnP qs).1 (lnP qs).2 = lnP qs := by
  have nb := lnN_b ne ok
  exact fm_idem (by decide) (by rw [vals_length]; omega)
def sp_C_of_pieces (K : PySem.W.Frag) (A : Ad) : Sp := fun vs H Q _ => ∃ (T : Addr) (zs : List (Addr × Pc)), vs = [.ref A.Curve, .ref T] ∧ H T = some (.tup (pzV zs)) ∧ Pz H zs ∧ (lnV (pcs zs)).length ≤ 24 ∧
  ∀ H' x dx l', Same H H' → H x = none → H l' = none → H' x = some (.ins A.Curve dx (cfs l' (lnP (pcs zs)).1 (lnP (pcs zs)).2 false .non)) → H' l' = some (.lst ((lnV (pcs zs)).map V.int)) → Q (.ref x) H'
def spR_C_of_pieces (K : PySem.W.Frag) (A : Ad) : Sp := fun vs H _ E => ∃ (T : Addr) (zs : List (Addr × Pc)), vs = [.ref A.Curve, .ref T] ∧ H T = some (.tup (pzV zs)) ∧ Pz H zs ∧ 24 < (lnV (pcs zs)).length ∧
  ∀ H' d, Same H H' → H' d = some (.xd [("limit", .int 24)]) → E (.ref A.TooLong) (some d) H'
section
variable {P : Program} {w : World} {K : PySem.W.Frag} {mg : Str → Option Value} {base : Heap} {A : Ad}
theorem ok_C_of_pieces (T : Txt K mg A) : FnR P w K mg base CX0 7 A.f_C_of_pieces (fun vs H Q E => ∃ a rest, vs = a :: rest ∧ rest.length ≤ sizeLine ∧ ∀ p, H p = Option.none → sp_C_of_pieces K A [a, V.ref p] (upd H p (.tup rest)) Q E) := by
  have G_C_init := ok_C_init (P := P) (w := w) (base := base) T
  have G_find_wrong_piece := ok_find_wrong_piece (P := P) (w := w) (base := base) T
  have G_form_of_pieces := ok_form_of_pieces (P := P) (w := w) (base := base) T
  obtain ⟨mv1, kb_Curve_period_gain⟩ := kb_init2 T
  refine VP.okStar T.F_C_of_pieces sc_C_of_pieces (fun _ _ _ _ _ _ _ => rfl) (fun _ _ _ _ _ _ _ _ _ => rfl) (fun cdv A0 outer s H vs Q E hr h => ?_)
  obtain ⟨T0, zs, rfl, hT, hz, sh, k⟩ := h
  refine ⟨_, (pss_cons (ps_set (i := 2) sc_C_of_pieces.nd rfl (by first | exact Or.inl rfl | exact Or.inr rfl) (pe_call G_find_wrong_piece (hr.mono (by decide)) rfl T.m_find_wrong_piece T.k_find_wrong_piece T.b_find_wrong_piece .nil pass0 (pa_cons (pv 1) pa_nil)))
    (pss_cons (ps_if (pt_cmp (pc_notN (pv 2)) rfl) (pss_one ps_never) pss_nil)
    (pss_cons (ps_asg (pe_call G_form_of_pieces (hr.mono (by decide)) rfl T.m_form_of_pieces T.k_form_of_pieces T.b_form_of_pieces .nil pass0 (pa_cons (pv 1) pa_nil)) (pg_tup rfl (pgs_cons (pg_name (i := 3) sc_C_of_pieces.nd rfl (by first | exact Or.inl rfl | exact Or.inr rfl)) (pgs_cons (pg_name (i := 4) sc_C_of_pieces.nd rfl (by first | exact Or.inl rfl | exact Or.inr rfl)) (pgs_cons (pg_name (i := 5) sc_C_of_pieces.nd rfl (by first | exact Or.inl rfl | exact Or.inr rfl)) pgs_nil)))))
    (pss_cons (ps_if (pt_cmpR op_gt (pe_callB (r := VG.rLen K) VG.call_len (by rfl) T.len (by decide +kernel) (pa_cons (pv 3) pa_nil)) (pe_glob (v := .int 24) rfl T.v_MAX_VALUES ⟨_, rfl⟩) (nomark _)) (pss_one ps_never) pss_nil)
    (pss_one (ps_ret (VP.pe_makeKL (i := 0) (n := 1) T.M_Curve G_C_init (hr.mono (by decide)) rfl (by exact Or.inl rfl) kb_Curve_period_gain pass0 (pa_cons (pv 3) pa_nil) (pk_cons (pv 4) (pk_cons (pv 5) pk_nil))))))))), ?_⟩
  have nb := lnN_b hz.pne hz.pok
  have ok := ln_okRow hz.pne hz.pok sh
  obtain ⟨i1, i2⟩ := ln_idem hz.pne hz.pok
  refine ⟨_, rfl, T0, zs, rfl, hT, hz, fun H1 s1 => ?_⟩
  refine ⟨_, rfl, _, rfl, iteF ?_⟩
  refine ⟨_, rfl, T0, zs, rfl, s1 _ _ hT, hz.same s1, fun H2 t l s2 ht0 hl0 ht hl => ?_⟩
  have hl : H2 l = some (.lst ((lnV (pcs zs)).map V.int)) := hl
  have ht : H2 t = some (.tup [.ref l, .int (lnP (pcs zs)).1, .int (lnP (pcs zs)).2]) := ht
  refine ⟨t, _, rfl, SqT.of ht, rfl, _, _, rfl, _, _, rfl, _, _, rfl, rfl, ?_⟩
  refine ⟨_, rfl, l, _, rfl, .inl (SqL.of hl), ?_⟩
  rw [List.length_map]
  refine ⟨_, _, rfl, rfl, _, rfl, ?_⟩
  refine ifD (fun c => absurd c (by omega)) (fun _ => ?_)
  refine ⟨rfl, _, rfl, _, rfl, _, rfl, rfl, rfl, fun x dx hx hdx hne => ?_⟩
  refine ⟨x, dx, l, _, _, _, rfl, upd_same, SqL.of (show upd _ x _ l = some (.lst ((lnV (pcs zs)).map V.int)) by rw [upd_ne (ne_of_none hl hx), upd_ne (ne_of_none hl hdx)]; exact hl), ok, fun H3 dxc lc keep hlc c1 c2 => ⟨rfl, ?_⟩⟩
  have s3 := make_same hx hdx keep
  rw [i2] at c1
  rw [i1] at c2
  have s12 := s1.trans s2
  refine k H3 x dxc lc (s12.trans s3) (s12.free hx) ?_ c1 c2
  exact s12.free ((Same.upd (o := .own x) (Same.refl H2) hdx).free ((Same.upd (o := .ins A.Curve dx []) (Same.refl (upd H2 dx (.own x))) (by rw [upd_ne (Ne.symm hne)]; exact hx)).free hlc))
theorem okR_C_of_pieces (T : Txt K mg A) : FnR P w K mg base (L2.CX P w) 7 A.f_C_of_pieces (fun vs H Q E => ∃ a rest, vs = a :: rest ∧ rest.length ≤ sizeLine ∧ ∀ p, H p = Option.none → spR_C_of_pieces K A [a, V.ref p] (upd H p (.tup rest)) Q E) := by
  have G_C_init := ok_C_init (P := P) (w := w) (base := base) T
  have G_TooLong_init := ok_TooLong_init (P := P) (w := w) (base := base) T
  have G_find_wrong_piece := ok_find_wrong_piece (P := P) (w := w) (base := base) T
  have G_form_of_pieces := ok_form_of_pieces (P := P) (w := w) (base := base) T
  obtain ⟨mv1, kb_Curve_period_gain⟩ := kb_init2 T
  refine VP.okStarX T.F_C_of_pieces sc_C_of_pieces (fun _ _ _ _ _ _ _ => rfl) (fun _ _ _ _ _ _ _ _ _ => rfl) (fun cdv A0 outer s H vs Q E hr h => ?_)
  obtain ⟨T0, zs, rfl, hT, hz, sh, k⟩ := h
  refine ⟨_, (pss_cons (ps_set (i := 2) sc_C_of_pieces.nd rfl (by first | exact Or.inl rfl | exact Or.inr rfl) (pe_call G_find_wrong_piece (hr.mono (by decide)) rfl T.m_find_wrong_piece T.k_find_wrong_piece T.b_find_wrong_piece .nil pass0 (pa_cons (pv 1) pa_nil)))
    (pss_cons (ps_if (pt_cmp (pc_notN (pv 2)) rfl) (pss_one ps_never) pss_nil)
    (pss_cons (ps_asg (pe_call G_form_of_pieces (hr.mono (by decide)) rfl T.m_form_of_pieces T.k_form_of_pieces T.b_form_of_pieces .nil pass0 (pa_cons (pv 1) pa_nil)) (pg_tup rfl (pgs_cons (pg_name (i := 3) sc_C_of_pieces.nd rfl (by first | exact Or.inl rfl | exact Or.inr rfl)) (pgs_cons (pg_name (i := 4) sc_C_of_pieces.nd rfl (by first | exact Or.inl rfl | exact Or.inr rfl)) (pgs_cons (pg_name (i := 5) sc_C_of_pieces.nd rfl (by first | exact Or.inl rfl | exact Or.inr rfl)) pgs_nil)))))
    (pss_cons (ps_if (pt_cmpR op_gt (pe_callB (r := VG.rLen K) VG.call_len (by rfl) T.len (by decide +kernel) (pa_cons (pv 3) pa_nil)) (pe_glob (v := .int 24) rfl T.v_MAX_VALUES ⟨_, rfl⟩) (nomark _)) (pss_one (ps_raise rfl (takes_of rfl rfl rfl rfl) (VX.pmk_new T.O_TooLong T.iC_TooLong T.tI_TooLong G_TooLong_init (hr.mono (by decide)) T.b_TooLong_init pass0 rfl T.m_TooLong (pa_cons (pe_glob (v := .int 24) rfl T.v_MAX_VALUES ⟨_, rfl⟩) pa_nil)))) pss_nil)
    (pss_one (ps_ret (VP.pe_makeKL (i := 0) (n := 1) T.M_Curve G_C_init (hr.mono (by decide)) rfl (by exact Or.inl rfl) kb_Curve_period_gain pass0 (pa_cons (pv 3) pa_nil) (pk_cons (pv 4) (pk_cons (pv 5) pk_nil))))))))), ?_⟩
  have nb := lnN_b hz.pne hz.pok
  refine ⟨_, rfl, T0, zs, rfl, hT, hz, fun H1 s1 => ?_⟩
  refine ⟨_, rfl, _, rfl, iteF ?_⟩
  refine ⟨_, rfl, T0, zs, rfl, s1 _ _ hT, hz.same s1, fun H2 t l s2 ht0 hl0 ht hl => ?_⟩
  have hl : H2 l = some (.lst ((lnV (pcs zs)).map V.int)) := hl
  have ht : H2 t = some (.tup [.ref l, .int (lnP (pcs zs)).1, .int (lnP (pcs zs)).2]) := ht
  have s02 := s1.trans s2
  refine ⟨t, _, rfl, SqT.of ht, rfl, _, _, rfl, _, _, rfl, _, _, rfl, rfl, ?_⟩
  refine ⟨_, rfl, l, _, rfl, .inl (SqL.of hl), ?_⟩
  rw [List.length_map]
  refine ⟨_, _, rfl, rfl, _, rfl, ?_⟩
  refine ifD (fun _ => ?_) (fun c => absurd (show ((lnV (pcs zs)).length : Int) > 24 by omega) c)
  refine ⟨by show 1 ≤ 1000; decide, fun e he => ⟨e, _, rfl, upd_same, fun d hd hde => ⟨rfl, d, _, upd_same, ?_, ?_, k _ d (fun c o q => ?_) upd_same⟩⟩⟩
  · rw [upd_ne hde]; exact upd_same
  · rw [upd_ne hde] at hd; exact hd
  · rw [upd_ne hde] at hd
    have q2 := s02 _ _ q
    have nd : c ≠ d := ne_of_none q2 hd
    have ne : c ≠ e := ne_of_none q2 he
    rw [upd_ne nd, del_ne ne, upd_ne ne, upd_ne nd, upd_ne ne]
    exact q2
end
end VK


namespace VK
open PySem PySem.Spec PyProof.Rows L2 VM
def perV : List V := [.int 1, .int 2, .int 3, .int 4, .int 6, .int 12]
/-- a tuple that is no piece -/
def badT : List V → Bool
  | [a, b, c] => !((cntTo 60 a && (cntTo 60 b && cntTo 60 c)) && inV c perV)
  | _ => true
/-- what is no piece -/
inductive Wrg (K : PySem.W.Frag) (H : Hp) : V → Prop
  | kind {v : V} {n : String} (h : ∀ H', Same H H' → Kd K H' v n) (ne : n ≠ "tuple") : Wrg K H v
  | tup {t : Addr} {xs : List V} (ht : H t = some (.tup xs)) (fl : ∀ x ∈ xs, ∃ n, ∀ H', Kd K H' x n) (few : xs.length ≤ 10) (bad : badT xs = true) : Wrg K H (.ref t)
theorem Wrg.same {K : PySem.W.Frag} {H H' : Hp} {v : V} (h : Wrg K H v) (s : Same H H') : Wrg K H' v := by
  cases h with
  | kind h ne => exact .kind (fun G t => h G (s.trans t)) ne
  | tup ht fl few bad => exact .tup (s _ _ ht) fl few bad
/-- the first that is no piece stands at i -/
def PzW (K : PySem.W.Frag) (H : Hp) (vs : List V) (i : Nat) : Prop :=
  (vs = [] ∧ i = 0) ∨ ∃ w, vs[i]? = some w ∧ Wrg K H w ∧ ∀ j, j < i → ∃ t q, vs[j]? = some (.ref t) ∧ H t = some (.tup (pcV q)) ∧ q.Ok
theorem PzW.same {K : PySem.W.Frag} {H H' : Hp} {vs : List V} {i : Nat} (h : PzW K H vs i) (s : Same H H') : PzW K H' vs i := by
  rcases h with h | ⟨w, a, b, c⟩
  · exact .inl h
  · exact .inr ⟨w, a, b.same s, fun j hj => by obtain ⟨t, q, x, y, z⟩ := c j hj; exact ⟨t, q, x, s _ _ y, z⟩⟩
theorem kitT {K : PySem.W.Frag} {n : String} (h : n ∈ kinds) : PySem.W.kitOne K (.type n) (.type "tuple") = some (n == "tuple") := by
  simp only [kinds, List.mem_cons, List.not_mem_nil, or_false] at h
  rcases h with rfl | rfl | rfl | rfl | rfl | rfl | rfl <;> exact kit_ty (by decide +kernel)
theorem fn_or {P : Program} {w : World} {K : PySem.W.Frag} {mg : Str → Option Value} {base : Heap} {CX : CXT} {k : Nat} {f : Addr} {fd : FuncData} {ps : List Str} {sp sp' : Sp} (F : FnOk P w K mg base CX k f fd ps sp) (G : FnOk P w K mg base CX k f fd ps sp') :
    FnOk P w K mg base CX k f fd ps (fun vs H Q E => sp vs H Q E ∨ sp' vs H Q E) :=
  ⟨fun vs H Q E h => h.elim (F.len vs H Q E) (G.len vs H Q E), fun A outer s H args us vs Q E hr he hb hv hs => hs.elim (F.run A outer s H args us vs Q E hr he hb hv) (G.run A outer s H args us vs Q E hr he hb hv)⟩
def spW_is_piece (K : PySem.W.Frag) (_ : Ad) : Sp := fun vs H Q _ => ∃ (v : V), vs = [v] ∧ Wrg K H v ∧ ∀ H', Same H H' → Q (.bl false) H'
def spA_is_piece (K : PySem.W.Frag) (A : Ad) : Sp := fun vs H Q E => sp_is_piece K A vs H Q E ∨ spW_is_piece K A vs H Q E
def spW_find_wrong_piece (K : PySem.W.Frag) (_ : Ad) : Sp := fun vs H Q _ => ∃ (T : Addr) (us : List V) (i : Nat), vs = [.ref T] ∧ H T = some (.tup us) ∧ PzW K H us i ∧ ∀ H', Same H H' → Q (.int (i : Nat)) H'
def spW_C_of_pieces (K : PySem.W.Frag) (A : Ad) : Sp := fun vs H _ E => ∃ (T : Addr) (us : List V) (i : Nat), vs = [.ref A.Curve, .ref T] ∧ H T = some (.tup us) ∧ PzW K H us i ∧
  ∀ H' d, Same H H' → H' d = some (.xd [("position", .int (i : Nat))]) → E (.ref A.InvalidPiece) (some d) H'
section
variable {P : Program} {w : World} {K : PySem.W.Frag} {mg : Str → Option Value} {base : Heap} {A : Ad}
theorem okW_is_piece (T : Txt K mg A) : FnOk P w K mg base CX0 4 A.f_is_piece A.d_is_piece ["value"] (spW_is_piece K A) := by
  have G_is_count_to := ok_is_count_to (P := P) (w := w) (base := base) T
  refine T.F_is_piece.ok sc_is_piece (fun vs H Q E h => ?_) (fun cdv A0 outer s H vs Q E hr h => ?_)
  · obtain ⟨v, rfl, hw, k⟩ := h
    rfl
  · obtain ⟨v, rfl, hw, k⟩ := h
    refine ⟨_, (pss_cons (ps_if (PW.pt (pw_or (pt_not (pt_val (pe_callB (r := rIsi K) call_isi (by rfl) T.isinstance (by decide +kernel) (pa_cons (pv 0) (pa_cons (pe_bltn (v := .ty "tuple") (u := .type "tuple") (by rfl) T.tuple (by decide +kernel) (by exact rfl)) pa_nil))))) (pw_or1 (pt_cmpR op_ne (pe_callB (r := VG.rLen K) VG.call_len (by rfl) T.len (by decide +kernel) (pa_cons (pv 0) pa_nil)) pe_int (nomark _))))) (pss_one (ps_ret pe_bl)) pss_nil)
    (pss_one (ps_ret (pe_and (pe_callB (r := rAll K) (cr_all rfl) (by rfl) T.all (by decide +kernel) (pa_cons (pe_lc (own := [("part", 1)]) (g := gName 1) (tt := tYes) rfl sc_is_piece.nd (pi_tup (pv 0)) (blkOk_by (own := [("part", 1)]) (N := ["value", "part"]) (sc := defScope s_is_piece) (by decide +kernel)) (fun _ _ _ _ _ => pg_name (i := 1) sc_is_piece.nd rfl (by first | exact Or.inl rfl | exact Or.inr rfl)) (fun _ _ _ _ _ => pts_nil) (fun _ _ _ _ _ => (pe_call G_is_count_to (hr.mono (by decide)) rfl T.m_is_count_to T.k_is_count_to T.b_is_count_to .nil pass0 (pa_cons (pv 1) (pa_cons (pe_glob (v := .int 60) rfl T.v_MAX_IN_PIECE ⟨_, rfl⟩) pa_nil))))) pa_nil)) (pe_one (pe_cmpR (r := rIn K false) op_in_seq (pe_ix (r := rIxT K) ix_tup (pv 0) pe_int (fun _ _ => rfl)) (pe_glob (v := .ref A.a_PERIODS) rfl T.v_PERIODS rfl) (by rfl))))))), ?_⟩
    cases hw with
    | @kind _ n h ne =>
      have hk := h H (Same.refl _)
      refine ⟨_, rfl, v, .ty "tuple", _, _, _, rfl, .ty _, hk.1, kitT hk.2, _, rfl, ?_⟩
      have e : (n == "tuple") = false := by simpa using ne
      rw [e]
      exact iteT (k _ (Same.refl _))
    | @tup t xs ht fl few bad =>
      refine ⟨_, rfl, .ref t, .ty "tuple", _, _, _, rfl, .ty _, .base (.tup ht), (show PySem.W.kitOne K (.type "tuple") (.type "tuple") = some true from kit_ty (by decide +kernel)), _, rfl, iteF ?_⟩
      refine ⟨_, rfl, t, _, rfl, .inr (SqT.of ht), rfl, _, rfl, ?_⟩
      show if (!decide (V.int (xs.length : Nat) = V.int 3)) = true then _ else _
      rw [deq_int]
      by_cases c : ((xs.length : Nat) : Int) = 3
      · rw [decide_eq_true c]
        refine iteF ?_
        obtain ⟨a, b, d, rfl⟩ : ∃ a b d, xs = [a, b, d] := match xs, c with | [a, b, d], _ => ⟨a, b, d, rfl⟩
        refine ⟨_, rfl, t, rfl, ⟨_, SqT.of ht⟩, fun D hD => ?_⟩
        refine lc_tup (K := K) (a := t) (xs := [a, b, d]) (fun j H' => H' D = some (.lst ((([a, b, d].take j).map (cntTo 60)).map V.bl)) ∧ Same H H') ⟨upd_same, Same.upd (Same.refl _) hD⟩ (fun i H' _ h => SqT.of (h.2 _ _ ht)) ?_ ?_
        · rintro j v H' hv ⟨hD2, s2⟩
          obtain ⟨n, hn⟩ := fl v (List.mem_of_getElem? hv)
          refine ⟨rfl, _, rfl, v, n, 60, rfl, hn H', ?_⟩
          refine ⟨_, hD2, small (by rw [List.length_map, List.length_map, List.length_take]; exact Nat.le_trans (Nat.min_le_right _ _) (by show 3 ≤ 16777215; decide)), ?_, Same.upd s2 hD⟩
          rw [upd_same, List.take_add_one, hv, List.map_append, List.map_append]
          rfl
        · rintro H' ⟨hD2, s2⟩
          refine ⟨D, _, rfl, SqL.of hD2, ?_⟩
          have e : (([a, b, d].take [a, b, d].length).map (cntTo 60)).all id = (cntTo 60 a && (cntTo 60 b && cntTo 60 d)) := by
            show (cntTo 60 a && (cntTo 60 b && (cntTo 60 d && true))) = _
            rw [Bool.and_true]
          rw [e]
          have bad : (!((cntTo 60 a && (cntTo 60 b && cntTo 60 d)) && inV d perV)) = true := bad
          refine ⟨_, rfl, ?_⟩
          cases hc : (cntTo 60 a && (cntTo 60 b && cntTo 60 d)) with
          | false => exact iteF (k _ s2)
          | true =>
            rw [hc, Bool.true_and] at bad
            refine iteT ?_
            have cd : cntTo 60 d = true := by
              rw [Bool.and_eq_true, Bool.and_eq_true] at hc
              exact hc.2.2
            obtain ⟨i, rfl⟩ : ∃ i, d = .int i := by
              cases d <;> first | exact ⟨_, rfl⟩ | cases cd
            refine ⟨_, rfl, t, _, 2, .int i, rfl, rfl, SqT.of (s2 _ _ ht), rfl, ?_⟩
            refine ⟨A.a_PERIODS, _, rfl, .inr (T.periods _), rfl, rfl, ?_⟩
            show Q (.bl (inV (.int i) perV)) H'
            have e2 : inV (.int i) perV = false := by simpa using bad
            rw [e2]
            exact k _ s2
      · rw [decide_eq_false c]
        exact iteT (k _ (Same.refl _))
theorem okA_is_piece (T : Txt K mg A) : FnOk P w K mg base CX0 4 A.f_is_piece A.d_is_piece ["value"] (spA_is_piece K A) := fn_or (ok_is_piece T) (okW_is_piece T)
theorem okW_find_wrong_piece (T : Txt K mg A) : FnOk P w K mg base CX0 5 A.f_find_wrong_piece A.d_find_wrong_piece ["pieces"] (spW_find_wrong_piece K A) := by
  have G_is_piece := okA_is_piece (P := P) (w := w) (base := base) T
  refine T.F_find_wrong_piece.ok sc_find_wrong_piece (fun vs H Q E h => ?_) (fun cdv A0 outer s H vs Q E hr h => ?_)
  · obtain ⟨T0, us, i, rfl, hT, hz, k⟩ := h
    rfl
  · obtain ⟨T0, us, i, rfl, hT, hz, k⟩ := h
    refine ⟨_, (pss_cons (ps_if (pt_cmpR op_eq (pe_callB (r := VG.rLen K) VG.call_len (by rfl) T.len (by decide +kernel) (pa_cons (pv 0) pa_nil)) pe_int (nomark _)) (pss_one (ps_ret pe_int)) pss_nil)
    (pss_cons (ps_for PassesOwn.never rfl (VE.pi_enumT (by rfl) T.enumerate (pa_cons (pv 0) pa_nil)) (pg_tup rfl (pgs_cons (pg_name (i := 1) sc_find_wrong_piece.nd rfl (by first | exact Or.inl rfl | exact Or.inr rfl)) (pgs_cons (pg_name (i := 2) sc_find_wrong_piece.nd rfl (by first | exact Or.inl rfl | exact Or.inr rfl)) pgs_nil)))
      (pss_one (ps_if (pt_not (pt_val (pe_call G_is_piece (hr.mono (by decide)) rfl T.m_is_piece T.k_is_piece T.b_is_piece .nil pass0 (pa_cons (pv 2) pa_nil)))) (pss_one (ps_ret (pv 1))) pss_nil)))
    (pss_one (ps_ret pe_non)))), ?_⟩
    refine ⟨_, rfl, T0, _, rfl, .inr (SqT.of hT), rfl, _, rfl, ?_⟩
    rcases hz with ⟨rfl, rfl⟩ | ⟨w0, hw, wr, bef⟩
    · exact ifEq (fun c => k _ (Same.refl _)) (fun c => absurd rfl c)
    have il := (List.getElem?_eq_some_iff.mp hw).1
    refine ifEq (fun c => absurd c (by omega)) (fun _ => ?_)
    refine ⟨_, rfl, T0, _, rfl, SqT.of hT, for_it (VE.walk_enumT (K := K) (a := T0) (xs := us) (k := 0)) (fun j σ H' => ∃ v1 v2, σ = [some (.ref T0), v1, v2] ∧ Same H H' ∧ j ≤ i) ⟨none, none, rfl, Same.refl H, Nat.zero_le _⟩ (fun i σ H' _ ⟨_, _, _, s0, _⟩ => SqT.of (s0 _ _ hT)) ?_ ?_⟩
    · rintro j y σ H' H2 hj ⟨v1, v2, rfl, s0, ji⟩ ⟨t, a, b', rfl, ht, rfl, ea, eb⟩
      cases ea
      have eb : us[j]? = some b' := eb
      have s1 : Same H' (upd H' t (.tup [.int (0 + (j : Nat)), b'])) := Same.upd (Same.refl _) ht
      have s01 := s0.trans s1
      refine ⟨t, _, rfl, SqT.of upd_same, rfl, _, _, rfl, _, _, rfl, rfl, ?_⟩
      by_cases c : j = i
      · subst c
        rw [hw] at eb
        cases eb
        refine ⟨_, rfl, .inr ⟨w0, rfl, wr.same s01, fun H3 s3 => ⟨_, rfl, iteT ?_⟩⟩⟩
        refine ⟨_, rfl, ?_⟩
        have := k _ (s01.trans s3)
        show Q (.int (0 + (j : Int))) H3
        rw [Int.zero_add]
        exact this
      · obtain ⟨t2, q, x, y, z⟩ := bef j (by omega)
        rw [x] at eb
        cases eb
        refine ⟨_, rfl, .inl ⟨t2, q, rfl, s01 _ _ y, z, fun H3 s3 => ⟨_, rfl, iteF ?_⟩⟩⟩
        exact ⟨_, _, rfl, s01.trans s3, by omega⟩
    · rintro σ H' ⟨v1, v2, rfl, s0, ji⟩
      exfalso
      omega
theorem okW_C_of_pieces (T : Txt K mg A) : FnR P w K mg base (L2.CX P w) 7 A.f_C_of_pieces (fun vs H Q E => ∃ a rest, vs = a :: rest ∧ rest.length ≤ sizeLine ∧ ∀ p, H p = Option.none → spW_C_of_pieces K A [a, V.ref p] (upd H p (.tup rest)) Q E) := by
  have G_C_init := ok_C_init (P := P) (w := w) (base := base) T
  have G_InvalidPiece_init := ok_InvalidPiece_init (P := P) (w := w) (base := base) T
  have G_TooLong_init := ok_TooLong_init (P := P) (w := w) (base := base) T
  have G_find_wrong_piece := okW_find_wrong_piece (P := P) (w := w) (base := base) T
  have G_form_of_pieces := ok_form_of_pieces (P := P) (w := w) (base := base) T
  obtain ⟨mv1, kb_Curve_period_gain⟩ := kb_init2 T
  refine VP.okStarX T.F_C_of_pieces sc_C_of_pieces (fun _ _ _ _ _ _ _ => rfl) (fun _ _ _ _ _ _ _ _ _ => rfl) (fun cdv A0 outer s H vs Q E hr h => ?_)
  obtain ⟨T0, us, i, rfl, hT, hz, k⟩ := h
  refine ⟨_, (pss_cons (ps_set (i := 2) sc_C_of_pieces.nd rfl (by first | exact Or.inl rfl | exact Or.inr rfl) (pe_call G_find_wrong_piece (hr.mono (by decide)) rfl T.m_find_wrong_piece T.k_find_wrong_piece T.b_find_wrong_piece .nil pass0 (pa_cons (pv 1) pa_nil)))
    (pss_cons (ps_if (pt_cmp (pc_notN (pv 2)) rfl) (pss_one (ps_raise rfl (takes_of rfl rfl rfl rfl) (VX.pmk_new T.O_InvalidPiece T.iC_InvalidPiece T.tI_InvalidPiece G_InvalidPiece_init (hr.mono (by decide)) T.b_InvalidPiece_init pass0 rfl T.m_InvalidPiece (pa_cons (pv 2) pa_nil)))) pss_nil)
    (pss_cons (ps_asg (pe_call G_form_of_pieces (hr.mono (by decide)) rfl T.m_form_of_pieces T.k_form_of_pieces T.b_form_of_pieces .nil pass0 (pa_cons (pv 1) pa_nil)) (pg_tup rfl (pgs_cons (pg_name (i := 3) sc_C_of_pieces.nd rfl (by first | exact Or.inl rfl | exact Or.inr rfl)) (pgs_cons (pg_name (i := 4) sc_C_of_pieces.nd rfl (by first | exact Or.inl rfl | exact Or.inr rfl)) (pgs_cons (pg_name (i := 5) sc_C_of_pieces.nd rfl (by first | exact Or.inl rfl | exact Or.inr rfl)) pgs_nil)))))
    (pss_cons (ps_if (pt_cmpR op_gt (pe_callB (r := VG.rLen K) VG.call_len (by rfl) T.len (by decide +kernel) (pa_cons (pv 3) pa_nil)) (pe_glob (v := .int 24) rfl T.v_MAX_VALUES ⟨_, rfl⟩) (nomark _)) (pss_one (ps_raise rfl (takes_of rfl rfl rfl rfl) (VX.pmk_new T.O_TooLong T.iC_TooLong T.tI_TooLong G_TooLong_init (hr.mono (by decide)) T.b_TooLong_init pass0 rfl T.m_TooLong (pa_cons (pe_glob (v := .int 24) rfl T.v_MAX_VALUES ⟨_, rfl⟩) pa_nil)))) pss_nil)
    (pss_one (ps_ret (VP.pe_makeKL (i := 0) (n := 1) T.M_Curve G_C_init (hr.mono (by decide)) rfl (by exact Or.inl rfl) kb_Curve_period_gain pass0 (pa_cons (pv 3) pa_nil) (pk_cons (pv 4) (pk_cons (pv 5) pk_nil))))))))), ?_⟩
  refine ⟨_, rfl, T0, us, i, rfl, hT, hz, fun H1 s1 => ?_⟩
  refine ⟨_, rfl, _, rfl, iteT ?_⟩
  refine ⟨_, rfl, by show 1 ≤ 1000; decide, fun e he => ⟨e, _, rfl, upd_same, fun d hd hde => ⟨rfl, d, _, upd_same, ?_, ?_, k _ d (fun c o q => ?_) upd_same⟩⟩⟩
  · rw [upd_ne hde]; exact upd_same
  · rw [upd_ne hde] at hd; exact hd
  · rw [upd_ne hde] at hd
    have q2 := s1 _ _ q
    have nd : c ≠ d := ne_of_none q2 hd
    have ne : c ≠ e := ne_of_none q2 he
    rw [upd_ne nd, del_ne ne, upd_ne ne, upd_ne nd, upd_ne ne]
    exact q2
end
end VK


namespace VK
open PySem PySem.Spec PyProof.Rows L2 VM
theorem Ext.put {r l : Addr} {H H' : Hp} {o : HO} (e : Ext r H H') (h : H l = none) (n : l ≠ r) : Ext r H (upd H' l o) := by
  refine ⟨fun b u hb q => ?_, ?_⟩
  · rw [upd_ne (ne_of_none q h)]; exact e.keep b u hb q
  · obtain ⟨a1, a2, a3, a4⟩ := e.rng
    exact ⟨a1, a2, by rw [upd_ne (Ne.symm n)]; exact a3, a4⟩
theorem Ext.new {r q : Addr} {H H' : Hp} {o : HO} (e : Ext r H H') (h : H' q = none) : Ext r H (upd H' q o) := e.same (Same.upd (Same.refl _) h)
theorem Rng.ne_tup {r t : Addr} {H : Hp} {vs : List V} (h : Rng H r) (ht : H t = some (.tup vs)) : t ≠ r := by
  obtain ⟨a, b, q, _⟩ := h
  exact ne_of ht q (fun z => by cases z)
theorem Ext.tup {r t : Addr} {H H' : Hp} {vs : List V} (e : Ext r H H') (h : Rng H r) (ht : H t = some (.tup vs)) : H' t = some (.tup vs) := e.keep _ _ (h.ne_tup ht) ht
theorem Pz.ext {H H' : Hp} {r : Addr} {zs : List (Addr × Pc)} (h : Pz H zs) (e : Ext r H H') (hr : Rng H r) : Pz H' zs := ⟨fun z hz => e.tup hr (h.at_ z hz), h.ok, h.ne, h.few⟩
theorem pz_push {zs : List (Addr × Pc)} {z : Addr × Pc} : pzV (zs ++ [z]) = pzV zs ++ [V.ref z.1] := by unfold pzV; rw [List.map_append]; rfl
def sp_l_piece (_ : PySem.W.Frag) (_ : Ad) : Sp := fun vs H Q _ => ∃ (r : Addr), vs = [.ref r] ∧ Rng H r ∧
  ∀ H' t q, Ext r H H' → H t = none → H' t = some (.tup (pcV q)) → q.Ok → Q (.ref t) H'
def sp_l_line (_ : PySem.W.Frag) (_ : Ad) : Sp := fun vs H Q _ => ∃ (t : Addr) (q : Pc) (x : Int), vs = [.ref t, .int x] ∧ H t = some (.tup (pcV q)) ∧ q.Ok ∧ Q (.int (q.at x)) H
def sp_l_least (_ : PySem.W.Frag) (_ : Ad) : Sp := fun vs H Q _ => ∃ (L : Addr) (zs : List (Addr × Pc)) (x : Int), vs = [.ref L, .int x] ∧ H L = some (.lst (pzV zs)) ∧ Pz H zs ∧ 0 < x ∧ ∀ H', Same H H' → Q (.int (lnF (pcs zs) x)) H'
section
variable {P : Program} {w : World} {K : PySem.W.Frag} {mg : Str → Option Value} {base : Heap} {A : Ad}
theorem ok_l_piece (T : Txt K mg A) : FnOk P w K mg base CX0 3 A.f_l_piece A.d_l_piece ["_law_rng_here"] (sp_l_piece K A) := by
  have G_l_choice := ok_l_choice (P := P) (w := w) (base := base) T
  have G_l_draw := ok_l_draw (P := P) (w := w) (base := base) T
  refine T.F_l_piece.ok sc_l_piece (fun vs H Q E h => ?_) (fun cdv A0 outer s H vs Q E hr h => ?_)
  · obtain ⟨r, rfl, hr0, k⟩ := h
    rfl
  · obtain ⟨r, rfl, hr0, k⟩ := h
    refine ⟨_, (pss_cons (ps_set (i := 1) sc_l_piece.nd rfl (by first | exact Or.inl rfl | exact Or.inr rfl) (pe_call G_l_draw (hr.mono (by decide)) rfl T.m_l_draw T.k_l_draw T.b_l_draw .nil pass0 (pa_cons (pv 0) (pa_cons pe_int pa_nil))))
    (pss_cons (ps_set (i := 2) sc_l_piece.nd rfl (by first | exact Or.inl rfl | exact Or.inr rfl) (pe_ix (r := rIxL K) ix_list (pe_lst (pa_cons (pe_call G_l_draw (hr.mono (by decide)) rfl T.m_l_draw T.k_l_draw T.b_l_draw .nil pass0 (pa_cons (pv 0) (pa_cons pe_int pa_nil))) (pa_cons (pe_call G_l_draw (hr.mono (by decide)) rfl T.m_l_draw T.k_l_draw T.b_l_draw .nil pass0 (pa_cons (pv 0) (pa_cons pe_int pa_nil))) (pa_cons pe_int (pa_cons (pe_call G_l_draw (hr.mono (by decide)) rfl T.m_l_draw T.k_l_draw T.b_l_draw .nil pass0 (pa_cons (pv 0) (pa_cons pe_int pa_nil))) (pa_cons (pe_call G_l_draw (hr.mono (by decide)) rfl T.m_l_draw T.k_l_draw T.b_l_draw .nil pass0 (pa_cons (pv 0) (pa_cons pe_int pa_nil))) pa_nil)))))) (pv 1) (fun _ _ => rfl)))
    (pss_cons (ps_set (i := 3) sc_l_piece.nd rfl (by first | exact Or.inl rfl | exact Or.inr rfl) (pe_ix (r := rIxL K) ix_list (pe_lst (pa_cons (pe_call G_l_draw (hr.mono (by decide)) rfl T.m_l_draw T.k_l_draw T.b_l_draw .nil pass0 (pa_cons (pv 0) (pa_cons pe_int pa_nil))) (pa_cons (pe_call G_l_draw (hr.mono (by decide)) rfl T.m_l_draw T.k_l_draw T.b_l_draw .nil pass0 (pa_cons (pv 0) (pa_cons pe_int pa_nil))) (pa_cons (pe_call G_l_draw (hr.mono (by decide)) rfl T.m_l_draw T.k_l_draw T.b_l_draw .nil pass0 (pa_cons (pv 0) (pa_cons pe_int pa_nil))) (pa_cons (pe_op op_add pe_int (pe_call G_l_draw (hr.mono (by decide)) rfl T.m_l_draw T.k_l_draw T.b_l_draw .nil pass0 (pa_cons (pv 0) (pa_cons pe_int pa_nil)))) (pa_cons pe_int pa_nil)))))) (pv 1) (fun _ _ => rfl)))
    (pss_one (ps_ret (pe_tup (pa_cons (pv 2) (pa_cons (pv 3) (pa_cons (pe_call G_l_choice (hr.mono (by decide)) rfl T.m_l_choice T.k_l_choice T.b_l_choice .nil pass0 (pa_cons (pv 0) (pa_cons (pe_lst (pa_cons pe_int (pa_cons pe_int (pa_cons pe_int (pa_cons pe_int (pa_cons pe_int (pa_cons pe_int pa_nil))))))) pa_nil))) pa_nil))))))))), ?_⟩
    refine ⟨_, rfl, r, _, rfl, hr0, by decide, by decide, fun H1 way e1 w0 w1 => ?_⟩
    refine ⟨_, rfl, r, _, rfl, e1.rng, by decide, by decide, fun H2 a0 e2 a00 a01 => ?_⟩
    refine ⟨_, rfl, r, _, rfl, e2.rng, by decide, by decide, fun H3 a1 e3 a10 a11 => ?_⟩
    refine ⟨_, rfl, r, _, rfl, e3.rng, by decide, by decide, fun H4 a2 e4 a20 a21 => ?_⟩
    refine ⟨_, rfl, r, _, rfl, e4.rng, by decide, by decide, fun H5 a3 e5 a30 a31 => ?_⟩
    have e15 := (((e1.trans e2).trans e3).trans e4).trans e5
    refine ⟨(by show 5 ≤ sizeLine; decide), fun p1 hp1 => ?_⟩
    have e6 := e15.new (o := .lst (([a0, a1, 0, a2, a3] : List Int).map V.int)) hp1
    refine ⟨_, rfl, p1, _, _, _, rfl, rfl, SqL.of (show upd H5 p1 (.lst (([a0, a1, 0, a2, a3] : List Int).map V.int)) p1 = _ from upd_same), at_map (xs := [a0, a1, 0, a2, a3]) w0 w1, ?_⟩
    have hb : 0 ≤ ([a0, a1, 0, a2, a3] : List Int).getD way.toNat 0 ∧ ([a0, a1, 0, a2, a3] : List Int).getD way.toNat 0 ≤ 60 := by
      rcases (show way = 0 ∨ way = 1 ∨ way = 2 ∨ way = 3 ∨ way = 4 by omega) with y | y | y | y | y <;> subst y
      · show 0 ≤ a0 ∧ a0 ≤ 60; omega
      · show 0 ≤ a1 ∧ a1 ≤ 60; omega
      · show (0 : Int) ≤ 0 ∧ (0 : Int) ≤ 60; decide
      · show 0 ≤ a2 ∧ a2 ≤ 60; omega
      · show 0 ≤ a3 ∧ a3 ≤ 60; omega
    generalize ([a0, a1, 0, a2, a3] : List Int).getD way.toNat 0 = b at *
    refine ⟨_, rfl, r, _, rfl, e6.rng, by decide, by decide, fun H7 u0 e7 u00 u01 => ?_⟩
    refine ⟨_, rfl, r, _, rfl, e7.rng, by decide, by decide, fun H8 u1 e8 u10 u11 => ?_⟩
    refine ⟨_, rfl, r, _, rfl, e8.rng, by decide, by decide, fun H9 u2 e9 u20 u21 => ?_⟩
    refine ⟨_, rfl, r, _, rfl, e9.rng, by decide, by decide, fun H10 u3 e10 u30 u31 => ?_⟩
    have e610 := (((e6.trans e7).trans e8).trans e9).trans e10
    refine ⟨_, _, rfl, rfl, (by show 5 ≤ sizeLine; decide), fun p2 hp2 => ?_⟩
    have e11 := e610.new (o := .lst (([u0, u1, u2, 1 + u3, 0] : List Int).map V.int)) hp2
    refine ⟨_, rfl, p2, _, _, _, rfl, rfl, SqL.of (show upd H10 p2 (.lst (([u0, u1, u2, 1 + u3, 0] : List Int).map V.int)) p2 = _ from upd_same), at_map (xs := [u0, u1, u2, 1 + u3, 0]) w0 w1, ?_⟩
    have hu : 0 ≤ ([u0, u1, u2, 1 + u3, 0] : List Int).getD way.toNat 0 ∧ ([u0, u1, u2, 1 + u3, 0] : List Int).getD way.toNat 0 ≤ 60 := by
      rcases (show way = 0 ∨ way = 1 ∨ way = 2 ∨ way = 3 ∨ way = 4 by omega) with y | y | y | y | y <;> subst y
      · show 0 ≤ u0 ∧ u0 ≤ 60; omega
      · show 0 ≤ u1 ∧ u1 ≤ 60; omega
      · show 0 ≤ u2 ∧ u2 ≤ 60; omega
      · show 0 ≤ 1 + u3 ∧ 1 + u3 ≤ 60; omega
      · show (0 : Int) ≤ 0 ∧ (0 : Int) ≤ 60; decide
    generalize ([u0, u1, u2, 1 + u3, 0] : List Int).getD way.toNat 0 = u at *
    refine ⟨_, rfl, _, rfl, _, rfl, (by show 6 ≤ sizeLine; decide), fun p3 hp3 => ?_⟩
    have np3 := e11.rng.ne hp3
    have e12 := e11.new (o := .lst (([1, 2, 3, 4, 6, 12] : List Int).map V.int)) hp3
    refine ⟨r, p3, _, rfl, e12.rng, SqL.of (show upd _ p3 (.lst (([1, 2, 3, 4, 6, 12] : List Int).map V.int)) p3 = _ from upd_same), np3, by decide, by decide, fun H13 v e13 hv => ?_⟩
    obtain ⟨tk, htk, rfl⟩ := List.mem_map.mp hv
    have tp : tk = 1 ∨ tk = 2 ∨ tk = 3 ∨ tk = 4 ∨ tk = 6 ∨ tk = 12 := by
      simpa only [List.mem_cons, List.not_mem_nil, or_false] using htk
    refine ⟨(by show 3 ≤ sizeLine; decide), fun t ht => ?_⟩
    have e013 := e12.trans e13
    exact k _ t ⟨b, u, tk⟩ (e013.new ht) (e013.free ht) upd_same ⟨hb.1, hb.2, hu.1, hu.2, tp⟩
theorem ok_l_line (T : Txt K mg A) : FnOk P w K mg base CX0 1 A.f_l_line A.d_l_line ["_law_piece_here", "_law_span"] (sp_l_line K A) := by
  refine T.F_l_line.ok sc_l_line (fun vs H Q E h => ?_) (fun cdv A0 outer s H vs Q E hr h => ?_)
  · obtain ⟨t, q, x, rfl, ht, ok, k⟩ := h
    rfl
  · obtain ⟨t, q, x, rfl, ht, ok, k⟩ := h
    refine ⟨_, (pss_cons (ps_set (i := 2) sc_l_line.nd rfl (by first | exact Or.inl rfl | exact Or.inr rfl) (pe_op op_mul (pe_ix (r := rIxT K) ix_tup (pv 0) pe_int (fun _ _ => rfl)) (pv 1)))
    (pss_one (ps_ret (pe_op op_add (pe_op op_add (pe_ix (r := rIxT K) ix_tup (pv 0) pe_int (fun _ _ => rfl)) (pe_op op_fdiv (pv 2) (pe_ix (r := rIxT K) ix_tup (pv 0) pe_int (fun _ _ => rfl)))) (pe_callTy call_int1 (by rfl) T.int (by decide +kernel) (pa_cons (pe_cmpR op_gt (pe_op op_mod (pv 2) (pe_ix (r := rIxT K) ix_tup (pv 0) pe_int (fun _ _ => rfl))) pe_int (nomark _)) pa_nil)))))), ?_⟩
    have t0 : 0 < q.t ∧ q.t ≤ 12 := by rcases ok.t_ with h | h | h | h | h | h <;> omega
    have u0 := ok.u0
    have u1 := ok.u1
    refine ⟨_, rfl, t, _, _, _, rfl, rfl, SqT.of ht, rfl, _, rfl, _, _, rfl, rfl, .inl ⟨by omega, by omega⟩, ?_⟩
    refine ⟨_, rfl, t, _, _, _, rfl, rfl, SqT.of ht, rfl, _, rfl, _, rfl, t, _, _, _, rfl, rfl, SqT.of ht, rfl, _, _, rfl, rfl, ⟨t0.1, by omega⟩, _, _, rfl, rfl, ?_⟩
    refine ⟨_, rfl, _, rfl, t, _, _, _, rfl, rfl, SqT.of ht, rfl, _, _, rfl, rfl, t0.1, ?_⟩
    refine ⟨_, _, rfl, rfl, .inr ⟨_, rfl, _, _, rfl, rfl, ?_⟩⟩
    have e := ok.at_rest x
    have e2 : (if decide (0 < q.u * x % q.t) = true then (1 : Int) else 0) = if q.u * x % q.t > 0 then 1 else 0 := by simp only [decide_eq_true_eq]
    show Q (.int (q.b + q.u * x / q.t + (if decide (0 < q.u * x % q.t) = true then (1 : Int) else 0))) H
    rw [e2, e]
    exact k
theorem ok_l_least (T : Txt K mg A) : FnOk P w K mg base CX0 2 A.f_l_least A.d_l_least ["_law_pieces", "_law_span"] (sp_l_least K A) := by
  have G_l_line := ok_l_line (P := P) (w := w) (base := base) T
  refine T.F_l_least.ok sc_l_least (fun vs H Q E h => ?_) (fun cdv A0 outer s H vs Q E hr h => ?_)
  · obtain ⟨L, zs, x, rfl, hL, hz, x0, k⟩ := h
    rfl
  · obtain ⟨L, zs, x, rfl, hL, hz, x0, k⟩ := h
    refine ⟨_, (pss_one (ps_ret (pe_callB (r := rMin K) (cr_min rfl) (by rfl) T.min (by decide +kernel) (pa_cons (pe_lc (own := [("_law_piece_here", 2)]) (g := gName 2) (tt := tYes) rfl sc_l_least.nd (pi_list (pv 0)) (blkOk_by (own := [("_law_piece_here", 2)]) (N := ["_law_pieces", "_law_span", "_law_piece_here"]) (sc := defScope s_l_least) (by decide +kernel)) (fun _ _ _ _ _ => pg_name (i := 2) sc_l_least.nd rfl (by first | exact Or.inl rfl | exact Or.inr rfl)) (fun _ _ _ _ _ => pts_nil) (fun _ _ _ _ _ => (pe_call G_l_line (hr.mono (by decide)) rfl T.m_l_line T.k_l_line T.b_l_line .nil pass0 (pa_cons (pv 2) (pa_cons (pv 1) pa_nil))))) pa_nil)))), ?_⟩
    have pl : (pzV zs).length = zs.length := List.length_map _
    have l0 := hz.len0
    have lf := hz.few
    refine ⟨_, rfl, L, rfl, ⟨_, SqL.of hL⟩, fun D hD => ?_⟩
    refine lc_list (K := K) (a := L) (xs := pzV zs) (fun j H' => H' D = some (.lst (((zs.take j).map (fun z => z.2.at x)).map V.int)) ∧ Same H H') ⟨upd_same, Same.upd (Same.refl _) hD⟩ (fun i H' _ h => SqL.of (h.2 _ _ hL)) ?_ ?_
    · rintro j v H' hv ⟨hD3, s2⟩
      obtain ⟨z, ez, rfl, hz1, ok⟩ := (hz.same s2).nth hv
      refine ⟨rfl, _, rfl, _, rfl, z.1, z.2, x, rfl, hz1, ok, ?_⟩
      refine ⟨_, hD3, small (by rw [List.length_map, List.length_map, List.length_take]; omega), ?_, Same.upd s2 hD⟩
      rw [upd_same, take_nth ez, List.map_append]; rfl
    rintro H2 ⟨hD3, s2⟩
    rw [pl, pcs_map (f := fun q => q.at x)] at hD3
    refine ⟨D, (pcs zs).map (fun q => q.at x), rfl, SqL.of hD3, (by unfold pcs; rw [List.length_map, List.length_map]; exact l0), fun m hm hmx => ?_⟩
    have em := minOf_eq hm hmx
    rw [← lnF_pos x0] at em
    subst em
    exact k _ s2
end
end VK


namespace VK
open PySem PySem.Spec PyProof.Rows L2 VM
theorem row_cut {f : Int → Int} {N m : Nat} (h : m + 1 ≤ N) : cutV ((row f N).map V.int) (some 1) (some ((m : Int) + 1)) = (vals f m).map V.int := by
  rw [show (1 : Int) = ((1 : Nat) : Int) from rfl, show (m : Int) + ((1 : Nat) : Int) = ((m + 1 : Nat) : Int) by omega, cut_nat (by rw [List.length_map, row_length]; omega) (by rw [List.length_map, row_length]; omega), ← List.map_drop, ← List.map_take]
  congr 1
  refine List.ext_getElem? fun i => ?_
  unfold row vals
  by_cases c : i < m
  · rw [List.getElem?_take, if_pos (by omega), List.getElem?_drop, List.getElem?_map, List.getElem?_map, List.getElem?_range (by omega), List.getElem?_range c]
    show some (f ((1 + i : Nat) : Int)) = some (f ((i : Int) + 1))
    rw [show ((1 + i : Nat) : Int) = (i : Int) + 1 by omega]
  · rw [List.getElem?_eq_none (by simp; omega), List.getElem?_eq_none (by simp; omega)]
/-- which lengths do not follow from the one a period before -/
def oddL (f : Int → Int) (c s : Int) (j : Nat) : List Int := ((List.range j).filter fun i : Nat => !decide (f (c + 1 + i) = f (c + 1 + i - c) + s)).map fun i : Nat => c + 1 + (i : Int)
theorem oddL_mem {f : Int → Int} {c s t : Int} {j : Nat} : t ∈ oddL f c s j ↔ c < t ∧ t ≤ c + j ∧ f t ≠ f (t - c) + s := by
  unfold oddL
  rw [List.mem_map]
  constructor
  · rintro ⟨i, hi, rfl⟩
    obtain ⟨h1, h2⟩ := List.mem_filter.mp hi
    have h1 := List.mem_range.mp h1
    refine ⟨by omega, by omega, fun h => ?_⟩
    rw [decide_eq_true h] at h2
    cases h2
  · rintro ⟨h1, h2, h3⟩
    refine ⟨(t - c - 1).toNat, List.mem_filter.mpr ⟨List.mem_range.mpr (by omega), ?_⟩, by omega⟩
    rw [show c + 1 + ((t - c - 1).toNat : Int) = t by omega, decide_eq_false h3]
    rfl
theorem oddL_succ {f : Int → Int} {c s : Int} {j : Nat} : oddL f c s (j + 1) = oddL f c s j ++ (if f (c + 1 + j) = f (c + 1 + j - c) + s then [] else [c + 1 + (j : Int)]) := by
  unfold oddL
  rw [List.range_succ, List.filter_append, List.map_append]
  congr 1
  by_cases z : f (c + 1 + j) = f (c + 1 + j - c) + s
  · rw [if_pos z]; simp [List.filter, z]
  · rw [if_neg z]; simp [List.filter, z]
theorem oddL_len {f : Int → Int} {c s : Int} {j : Nat} : (oddL f c s j).length ≤ j := by
  unfold oddL
  rw [List.length_map]
  have := List.length_filter_le (fun i : Nat => !decide (f (c + 1 + i) = f (c + 1 + i - c) + s)) (List.range j)
  rw [List.length_range] at this
  exact this
/-- the greatest of them, or c, is the last one -/
theorem odd_last {f : Int → Int} {c s m : Int} {j : Nat} (hm : m ∈ c :: oddL f c s j) (hx : ∀ y ∈ c :: oddL f c s j, y ≤ m) : m = lastOdd f c s j := by
  obtain ⟨a, b, d, e⟩ := lastOdd_is f c s j
  generalize lastOdd f c s j = L at *
  have h1 : L ≤ m := by
    by_cases z : c < L
    · exact hx L (List.mem_cons_of_mem _ (oddL_mem.mpr ⟨z, b, e z⟩))
    · have := hx c List.mem_cons_self
      omega
  have h2 : m ≤ L := by
    rcases List.mem_cons.mp hm with h | h
    · omega
    · obtain ⟨x1, x2, x3⟩ := oddL_mem.mp h
      by_cases z : L < m
      · exact absurd (d m z x2) x3
      · omega
  omega
theorem row_head {F : Int → Int} {m : Nat} : row F (m + 1) = F 0 :: vals F m := by
  unfold row vals
  rw [List.range_succ_eq_map, List.map_cons, List.map_map]
  rfl
def sp_l_form (_ : PySem.W.Frag) (_ : Ad) : Sp := fun vs H Q _ => ∃ (L : Addr) (zs : List (Addr × Pc)), vs = [.ref L] ∧ H L = some (.lst (pzV zs)) ∧ Pz H zs ∧
  ∀ H' t2 l2, Same H H' → H t2 = none → H l2 = none → H' t2 = some (.tup [.ref l2, .int (lnP (pcs zs)).1, .int (lnP (pcs zs)).2]) → H' l2 = some (.lst ((lnV (pcs zs)).map V.int)) → Q (.ref t2) H'
section
variable {P : Program} {w : World} {K : PySem.W.Frag} {mg : Str → Option Value} {base : Heap} {A : Ad}
theorem ok_l_form (T : Txt K mg A) : FnOk P w K mg base CX0 3 A.f_l_form A.d_l_form ["_law_pieces"] (sp_l_form K A) := by
  have G_l_least := ok_l_least (P := P) (w := w) (base := base) T
  refine T.F_l_form.ok sc_l_form (fun vs H Q E h => ?_) (fun cdv A0 outer s H vs Q E hr h => ?_)
  · obtain ⟨L, zs, rfl, hL, hz, k⟩ := h
    rfl
  · obtain ⟨L, zs, rfl, hL, hz, k⟩ := h
    refine ⟨_, (pss_cons (ps_set (i := 1) sc_l_form.nd rfl (by first | exact Or.inl rfl | exact Or.inr rfl) (pe_op op_cat (pe_lst (pa_cons pe_int pa_nil)) (pe_lc (own := [("_law_span", 6)]) (g := gName 6) (tt := tYes) rfl sc_l_form.nd (pi_range2 rfl T.range (pa_cons pe_int (pa_cons pe_int pa_nil))) (blkOk_by (own := [("_law_span", 6)]) (N := ["_law_pieces", "_law_told", "_law_cycle", "_law_rise", "_law_odd_here", "_law_many", "_law_span"]) (sc := defScope s_l_form) (by decide +kernel)) (fun _ _ _ _ _ => pg_name (i := 6) sc_l_form.nd rfl (by first | exact Or.inl rfl | exact Or.inr rfl)) (fun _ _ _ _ _ => pts_nil) (fun _ _ _ _ _ => (pe_call G_l_least (hr.mono (by decide)) rfl T.m_l_least T.k_l_least T.b_l_least .nil pass0 (pa_cons (pv 0) (pa_cons (pv 6) pa_nil)))))))
    (pss_cons (ps_for PassesOwn.never rfl (pi_list (pe_lst (pa_cons pe_int (pa_cons pe_int (pa_cons pe_int (pa_cons pe_int (pa_cons pe_int (pa_cons pe_int pa_nil)))))))) (pg_name (i := 2) sc_l_form.nd rfl (by first | exact Or.inl rfl | exact Or.inr rfl))
      (pss_cons (ps_set (i := 3) sc_l_form.nd rfl (by first | exact Or.inl rfl | exact Or.inr rfl) (pe_op op_sub (pe_ix (r := rIxL K) ix_list (pv 1) pe_int (fun _ _ => rfl)) (pe_ix (r := rIxL K) ix_list (pv 1) (pe_op op_sub pe_int (pv 2)) (fun _ _ => rfl))))
    (pss_cons (ps_setLc (i := 4) (own := [("_law_span", 6)]) (g := gName 6) rfl sc_l_form.nd rfl rfl (sw_true rfl rfl rfl (by decide +kernel)) (pi_range2 rfl T.range (pa_cons (pe_op op_add (pv 2) pe_int) (pa_cons pe_int pa_nil))) (blkOk_by (own := [("_law_span", 6)]) (N := ["_law_pieces", "_law_told", "_law_cycle", "_law_rise", "_law_odd_here", "_law_many", "_law_span"]) (sc := defScope s_l_form) (by decide +kernel)) (fun _ _ _ _ _ => pg_name (i := 6) sc_l_form.nd rfl (by first | exact Or.inl rfl | exact Or.inr rfl)) (fun _ _ _ _ _ => (pts_one (pt_cmpR op_ne (pe_ix (r := rIxL K) ix_list (pv 1) (pv 6) (fun _ _ => rfl)) (pe_op op_add (pe_ix (r := rIxL K) ix_list (pv 1) (pe_op op_sub (pv 6) (pv 2)) (fun _ _ => rfl)) (pv 3)) (nomark _)))) (fun _ _ _ _ _ => (pv 6)))
    (pss_cons (ps_set (i := 5) sc_l_form.nd rfl (by first | exact Or.inl rfl | exact Or.inr rfl) (pe_callB (r := rMax K) (cr_max rfl) (by rfl) T.max (by decide +kernel) (pa_cons (pe_op op_cat (pe_lst (pa_cons (pv 2) pa_nil)) (pv 4)) pa_nil)))
    (pss_one (ps_if (pt_cmpR op_lt (pv 5) pe_int (nomark _)) (pss_one (ps_ret (pe_tup (pa_cons (pe_slice (r := rSlL K) sl_list (pv 1) (po_some pe_int) (po_some (pe_op op_add (pv 5) pe_int))) (pa_cons (pv 2) (pa_cons (pv 3) pa_nil)))))) pss_nil))))))
    (pss_one (ps_ret pe_non)))), ?_⟩
    have pl : (pzV zs).length = zs.length := List.length_map _
    have l0 := hz.len0
    have lf := hz.few
    have pn := hz.pne
    have po := hz.pok
    have nb := lnN_b pn po
    have R788 : Rep (lnF (pcs zs)) ((788 : Nat) : Int) 12 (lnG (pcs zs)) := (ln_rep pn po).weak (by omega)
    have FV := fm_vals R788 (by omega) lnF_zero
    have FN := fm_vals (ln_rep' pn po) (by omega) lnF_zero
    have xl : (vals (lnF (pcs zs)) 788).length = 788 := vals_length
    have xn : (12 : Int) ≤ (vals (lnF (pcs zs)) 788).length := by rw [xl]; decide
    obtain ⟨u1, u2⟩ := form_unique (vs := vals (lnF (pcs zs)) 788) (p := 12) (g := lnG (pcs zs)) (ws := vals (lnF (pcs zs)) (lnN (pcs zs)).toNat) (q := 12) (e := lnG (pcs zs)) (by decide) xn (by decide) (by rw [vals_length]; omega) (fun t ht => by rw [FV t ht, FN t ht])
    have u1 : formP (vals (lnF (pcs zs)) 788) 12 (lnG (pcs zs)) = lnP (pcs zs) := u1
    have u2 : formV (vals (lnF (pcs zs)) 788) 12 (lnG (pcs zs)) = lnV (pcs zs) := u2
    obtain ⟨f1, f2, f3, f4, f5⟩ := ln_spec pn po
    have RF := fm_rep (g := lnG (pcs zs)) (show (0 : Int) < 12 by decide) xn
    obtain ⟨fd, fl⟩ := fm_least (xs := vals (lnF (pcs zs)) 788) (p := 12) (g := lnG (pcs zs)) (by decide) xn
    have eM : formM (vals (lnF (pcs zs)) 788) 12 (lnG (pcs zs)) = (lnV (pcs zs)).length := by rw [← u2]; unfold formV; rw [vals_length]
    have eV : lnV (pcs zs) = vals (cvAt (vals (lnF (pcs zs)) 788) 12 (lnG (pcs zs))) (lnV (pcs zs)).length := by rw [← eM, ← u2]; rfl
    rw [u2, u1] at RF
    rw [u1] at fd fl
    obtain ⟨k0, hk0, ek0⟩ := cyc6_per (per6_dvd f1 (show per6 12 by unfold per6; omega) fd)
    refine ⟨(by show 1 ≤ sizeLine; decide), fun q0 hq0 => ?_⟩
    have s1 : Same H (upd H q0 (.lst [.int 0])) := Same.upd (Same.refl _) hq0
    have hq01 : upd H q0 (.lst [.int 0]) q0 = some (.lst [.int 0]) := upd_same
    generalize upd H q0 (.lst [.int 0]) = H1 at *
    refine ⟨_, _, rfl, ⟨by decide, by decide, by decide, by decide⟩, fun D hD => ?_⟩
    refine lc_range (lo := 1) (n := 800) (fun j H2 => H2 D = some (.lst ((row (fun i => lnF (pcs zs) (1 + i)) j).map V.int)) ∧ Same H1 H2) ⟨upd_same, Same.upd (Same.refl _) hD⟩ ?_ ?_
    · rintro j H2 hj ⟨hD2, s2⟩
      have s02 := s1.trans s2
      refine ⟨rfl, _, rfl, _, rfl, L, zs, 1 + (j : Int), rfl, s02 _ _ hL, hz.same s02, by omega, fun H3 s3 => ?_⟩
      refine ⟨_, s3 _ _ hD2, small (by rw [List.length_map, row_length]; omega), ?_, Same.upd (s2.trans s3) hD⟩
      rw [upd_same, rowI_succ]
    rintro H2 ⟨hD2, s2⟩
    rw [row_vals (f := lnF (pcs zs))] at hD2
    refine ⟨q0, D, _, _, rfl, rfl, s2 _ _ hq01, hD2, (by rw [List.length_map, vals_length, sizeLine_eq]; decide), fun T0 hT0 => ?_⟩
    have eR : ([.int 0] : List V) ++ (vals (lnF (pcs zs)) 800).map V.int = (row (cvAt (vals (lnF (pcs zs)) 788) 12 (lnG (pcs zs))) 801).map V.int := by
      have e1 : row (cvAt (vals (lnF (pcs zs)) 788) 12 (lnG (pcs zs))) 801 = row (lnF (pcs zs)) (800 + 1) := by
        unfold row
        exact List.map_congr_left fun i _ => FV i (by omega)
      rw [e1, row_head, lnF_zero]
      rfl
    have hT1 : upd H2 T0 (.lst (([.int 0] : List V) ++ (vals (lnF (pcs zs)) 800).map V.int)) T0 = some (.lst ((row (cvAt (vals (lnF (pcs zs)) 788) 12 (lnG (pcs zs))) 801).map V.int)) := by rw [upd_same, eR]
    have s3 := (s1.trans s2).trans (Same.upd (o := .lst (([.int 0] : List V) ++ (vals (lnF (pcs zs)) 800).map V.int)) (Same.refl H2) hT0)
    generalize upd H2 T0 (.lst (([.int 0] : List V) ++ (vals (lnF (pcs zs)) 800).map V.int)) = H3 at *
    generalize hxs : vals (lnF (pcs zs)) 788 = xs at *
    generalize lnG (pcs zs) = G at *
    have uP := u1
    clear eR hD2 s2 hD hq01 s1 u1 u2 FN R788
    refine ⟨(by show 6 ≤ sizeLine; decide), fun C hC => ⟨C, rfl, ⟨_, SqL.of upd_same⟩, ?_⟩⟩
    have s4 := Same.upd (o := .lst (([1, 2, 3, 4, 6, 12] : List Int).map V.int)) (Same.refl H3) hC
    refine for_list (K := K) (a := C) (xs := ([1, 2, 3, 4, 6, 12] : List Int).map V.int) (fun i σ H' => ∃ v2 v3 v4 v5, σ = [some (.ref L), some (.ref T0), v2, v3, v4, v5, none] ∧ Same H H' ∧ H' T0 = some (.lst ((row (cvAt xs 12 G) 801).map V.int)) ∧ H' C = some (.lst (([1, 2, 3, 4, 6, 12] : List Int).map V.int)) ∧ i ≤ k0)
      ⟨none, none, none, none, rfl, s3.trans s4, s4 _ _ hT1, upd_same, Nat.zero_le _⟩ (fun i σ H' _ ⟨_, _, _, _, _, _, _, h, _⟩ => SqL.of h) ?_ ?_
    · rintro i yv σ H5 hyv ⟨v2, v3, v4, v5, rfl, s5, hT5, hC5, ik⟩
      obtain ⟨hi, rfl⟩ := nth_map hyv
      have hi6 : i < 6 := hi
      have ec : ([1, 2, 3, 4, 6, 12] : List Int).getD i 0 = cyc6 i := rfl
      rw [ec]
      have c0 := cyc6_b hi6
      have cd : cyc6 i = (lnP (pcs zs)).1 ∨ (i < k0 ∧ cyc6 i < (lnP (pcs zs)).1) := by
        by_cases z : i = k0
        · subst z; exact .inl ek0
        · refine .inr ⟨by omega, ?_⟩
          rw [← ek0]
          exact cyc6_lt (by omega) hk0
      generalize cyc6 i = c at *
      refine ⟨_, rfl, T0, _, _, _, rfl, rfl, SqL.of hT5, at_row (i := 800) (by decide) (by decide), ?_⟩
      refine ⟨_, rfl, _, rfl, _, _, rfl, rfl, T0, _, _, _, rfl, rfl, SqL.of hT5, at_row (by omega) (by omega), _, _, rfl, rfl, ?_⟩
      show gName 3 (V.int (cvAt xs 12 G 800 - cvAt xs 12 G (800 - c))) _ _ _
      have rise : c = (lnP (pcs zs)).1 → cvAt xs 12 G 800 - cvAt xs 12 G (800 - c) = (lnP (pcs zs)).2 := fun h => by
        have := RF 800 (by omega)
        rw [h]
        omega
      generalize cvAt xs 12 G 800 - cvAt xs 12 G (800 - c) = r at *
      refine ⟨_, rfl, _, _, rfl, rfl, _, _, rfl, ⟨by omega, by omega, by decide, by decide⟩, fun D hD => ?_⟩
      refine lc_range (lo := c + 1) (n := (801 - (c + 1)).toNat) (fun j H6 => H6 D = some (.lst ((oddL (cvAt xs 12 G) c r j).map V.int)) ∧ Same H5 H6) ⟨upd_same, Same.upd (Same.refl _) hD⟩ ?_ ?_
      · rintro j H6 hj ⟨hD6, s6⟩
        have hT6 := s6 _ _ hT5
        refine ⟨rfl, _, rfl, _, rfl, T0, _, _, _, rfl, rfl, SqL.of hT6, at_row (by omega) (by omega), _, rfl, _, rfl, _, rfl, _, _, rfl, rfl, T0, _, _, _, rfl, rfl, SqL.of hT6, at_row (by omega) (by omega), _, rfl, _, _, rfl, rfl, rfl, _, rfl, ?_⟩
        show if (!decide (V.int (cvAt xs 12 G (c + 1 + (j : Int))) = V.int (cvAt xs 12 G (c + 1 + (j : Int) - c) + r))) = true then _ else _
        rw [deq_int]
        by_cases z : cvAt xs 12 G (c + 1 + (j : Int)) = cvAt xs 12 G (c + 1 + (j : Int) - c) + r
        · rw [decide_eq_true z]
          refine iteF ⟨?_, s6⟩
          rw [oddL_succ, if_pos z, List.append_nil]
          exact hD6
        · rw [decide_eq_false z]
          refine iteT ⟨_, rfl, _, hD6, small (by rw [List.length_map]; have := oddL_len (f := cvAt xs 12 G) (c := c) (s := r) (j := j); omega), ?_, Same.upd s6 hD⟩
          rw [upd_same, oddL_succ, if_neg z, List.map_append]
          rfl
      rintro H6 ⟨hD6, s6⟩
      obtain ⟨kk, ekk⟩ : ∃ kk : Nat, (801 - (c + 1)).toNat = kk := ⟨_, rfl⟩
      rw [ekk] at hD6
      have ol := oddL_len (f := cvAt xs 12 G) (c := c) (s := r) (j := kk)
      refine ⟨_, rfl, (by show 1 ≤ sizeLine; decide), fun a1 h1 => ?_⟩
      have hD7 : upd H6 a1 (.lst [.int c]) D = some (.lst ((oddL (cvAt xs 12 G) c r kk).map V.int)) := by rw [upd_ne (ne_of_none hD6 h1)]; exact hD6
      have s7 : Same H5 (upd H6 a1 (.lst [.int c])) := Same.upd s6 (s6.free h1)
      refine ⟨_, rfl, a1, D, _, _, rfl, rfl, upd_same, hD7, (by rw [List.length_map, sizeLine_eq]; show 1 + _ ≤ _; omega), fun a2 h2 => ?_⟩
      have s8 := Same.upd (o := .lst (([.int c] : List V) ++ (oddL (cvAt xs 12 G) c r kk).map V.int)) s7 (s7.free h2)
      refine ⟨a2, c :: oddL (cvAt xs 12 G) c r kk, rfl, SqL.of upd_same, by simp, fun m hm hmx => ?_⟩
      have em := odd_last hm hmx
      generalize upd (upd H6 a1 (.lst [.int c])) a2 (.lst (([.int c] : List V) ++ (oddL (cvAt xs 12 G) c r kk).map V.int)) = H8 at *
      have s58 := s5.trans s8
      refine ⟨_, rfl, _, _, rfl, rfl, _, rfl, ?_⟩
      rcases cd with rfl | ⟨ik2, cd⟩
      · have er := rise rfl
        subst er
        have eL : lastOdd (cvAt xs 12 G) (lnP (pcs zs)).1 (lnP (pcs zs)).2 kk = (lnV (pcs zs)).length := by
          rw [← eM]
          have e0 : (formP xs 12 G) = lnP (pcs zs) := uP
          rw [← e0]
          exact lastOdd_form (by decide) xn (by rw [e0, xl]; omega)
        rw [eL] at em
        subst em
        refine ifD (fun z => ?_) (fun z => absurd (show ((lnV (pcs zs)).length : Int) < 770 by omega) z)
        refine ⟨_, rfl, _, rfl, _, rfl, _, _, rfl, rfl, _, rfl, T0, _, rfl, SqL.of (s8 _ _ hT5), fun l2 hl2 => ?_⟩
        rw [row_cut (by omega), ← eV]
        have s9 := Same.upd (o := .lst ((lnV (pcs zs)).map V.int)) (Same.refl H8) hl2
        refine ⟨_, rfl, _, rfl, (by show 3 ≤ sizeLine; decide), fun t2 ht2 => ?_⟩
        have s10 := Same.upd (o := .tup [.ref l2, .int (lnP (pcs zs)).1, .int (lnP (pcs zs)).2]) s9 (s9.free ht2)
        refine k _ t2 l2 (s58.trans s10) (s58.free (s9.free ht2)) (s58.free hl2) upd_same ?_
        have u : upd H8 l2 (.lst ((lnV (pcs zs)).map V.int)) l2 = some (.lst ((lnV (pcs zs)).map V.int)) := upd_same
        rw [upd_ne (ne_of_none u ht2)]
        exact u
      · have far : (xs.length : Int) < lastOdd (cvAt xs 12 G) c r kk := lastOdd_far (by decide) xn c0.1 (by rw [uP]; exact cd) (by rw [xl]; omega)
        rw [xl] at far
        refine ifD (fun z => absurd z (by omega)) (fun z => ?_)
        exact ⟨_, _, _, _, rfl, s58, s8 _ _ hT5, s8 _ _ hC5, by omega⟩
    · rintro σ H5 ⟨v2, v3, v4, v5, rfl, s5, hT5, hC5, ik⟩
      exfalso
      have : (6 : Nat) ≤ k0 := ik
      omega
end
end VK


namespace VK
open PySem PySem.Spec PyProof.Rows L2 VM
/-- the same pieces, the same curve -/
theorem ln_alike {qs rs : List Pc} (h : ∀ q, q ∈ qs ↔ q ∈ rs) : lnV qs = lnV rs ∧ lnP qs = lnP rs := by
  have e1 : lnF qs = lnF rs := funext fun x => ln_same h x
  have e2 : lnN qs = lnN rs := by unfold lnN maxOf; rw [minOf_same h]
  have e3 : lnG qs = lnG rs := by unfold lnG; rw [minOf_same h]
  unfold lnV lnP
  rw [e1, e2, e3]
  exact ⟨rfl, rfl⟩
theorem Pz.sub {H : Hp} {zs ws : List (Addr × Pc)} (h : Pz H zs) (s : ∀ z ∈ ws, z ∈ zs) (ne : ws ≠ []) (few : ws.length ≤ 12) : Pz H ws := ⟨fun z hz => h.at_ z (s z hz), fun z hz => h.ok z (s z hz), ne, few⟩
theorem pcs_mem {zs ws : List (Addr × Pc)} (h : ∀ z, z ∈ zs ↔ z ∈ ws) : ∀ q, q ∈ pcs zs ↔ q ∈ pcs ws := fun q => by
  unfold pcs
  rw [List.mem_map, List.mem_map]
  exact ⟨fun ⟨z, a, b⟩ => ⟨z, (h z).mp a, b⟩, fun ⟨z, a, b⟩ => ⟨z, (h z).mpr a, b⟩⟩
theorem pz_at {zs : List (Addr × Pc)} {i : Nat} {z : Addr × Pc} (h : zs[i]? = some z) : atI (pzV zs) (i : Int) = some (.ref z.1) := atI_nat (by unfold pzV; rw [List.getElem?_map, h]; rfl)
theorem rep_flat {α : Type} (n : Nat) (x : α) : (List.replicate n [x]).flatten = List.replicate n x := by
  induction n with
  | zero => rfl
  | succ n ih => rw [List.replicate_succ, List.flatten_cons, ih]; rfl
/-- a curve that was made of pieces -/
def MadeQ (A : Ad) (H : Hp) (zs : List (Addr × Pc)) (Q : VK) : Prop := ∀ H' x dx l', Same H H' → H x = none → H l' = none → H' x = some (.ins A.Curve dx (cfs l' (lnP (pcs zs)).1 (lnP (pcs zs)).2 false .non)) → H' l' = some (.lst ((lnV (pcs zs)).map V.int)) → Q (.ref x) H'
def MadeE (A : Ad) (H : Hp) (E : XK) : Prop := ∀ H' d, Same H H' → H' d = some (.xd [("limit", .int 24)]) → E (.ref A.TooLong) (some d) H'
theorem MadeQ.go {A : Ad} {H H1 : Hp} {zs ws : List (Addr × Pc)} {Q : VK} (k : MadeQ A H zs Q) (s : Same H H1) (h : ∀ z, z ∈ ws ↔ z ∈ zs) : MadeQ A H1 ws Q := fun H' x dx l' s' a b c d => by
  obtain ⟨e1, e2⟩ := ln_alike (pcs_mem h)
  rw [e2] at c
  rw [e1] at d
  exact k H' x dx l' (s.trans s') (s.free a) (s.free b) c d
theorem MadeE.go {A : Ad} {H H1 : Hp} {E : XK} (k : MadeE A H E) (s : Same H H1) : MadeE A H1 E := fun H' d s' h => k H' d (s.trans s') h
def MadeW (A : Ad) (H : Hp) (i : Nat) (E : XK) : Prop := ∀ H' d, Same H H' → H' d = some (.xd [("position", .int (i : Nat))]) → E (.ref A.InvalidPiece) (some d) H'
theorem MadeW.go {A : Ad} {H H1 : Hp} {i : Nat} {E : XK} (k : MadeW A H i E) (s : Same H H1) : MadeW A H1 i E := fun H' d s' h => k H' d (s.trans s') h
def sp_l_made (_ : PySem.W.Frag) (A : Ad) : Sp := fun vs H Q _ => ∃ (L : Addr) (zs : List (Addr × Pc)), vs = [.ref L] ∧ H L = some (.lst (pzV zs)) ∧ Pz H zs ∧ zs.length ≤ 5 ∧ (lnV (pcs zs)).length ≤ 24 ∧ MadeQ A H zs Q
def spR_l_made (_ : PySem.W.Frag) (A : Ad) : Sp := fun vs H _ E => ∃ (L : Addr) (zs : List (Addr × Pc)), vs = [.ref L] ∧ H L = some (.lst (pzV zs)) ∧ Pz H zs ∧ zs.length ≤ 5 ∧ 24 < (lnV (pcs zs)).length ∧ MadeE A H E
def spW_l_made (K : PySem.W.Frag) (A : Ad) : Sp := fun vs H _ E => ∃ (L : Addr) (us : List V) (i : Nat), vs = [.ref L] ∧ H L = some (.lst us) ∧ PzW K H us i ∧ us.length ≤ 5 ∧ MadeW A H i E
theorem pcs_call {K : PySem.W.Frag} {A : Ad} {H : Hp} {zs ws : List (Addr × Pc)} {Q : VK} {E : XK} (hz : Pz H zs) (sh : (lnV (pcs zs)).length ≤ 24) (k : MadeQ A H zs Q) (h : ∀ z, z ∈ ws ↔ z ∈ zs) (ne : ws ≠ []) (few : ws.length ≤ 12) :
    ∃ a rest, V.ref A.Curve :: pzV ws = a :: rest ∧ rest.length ≤ sizeLine ∧ ∀ p, H p = none → sp_C_of_pieces K A [a, .ref p] (upd H p (.tup rest)) Q E :=
  ⟨.ref A.Curve, pzV ws, rfl, (by unfold pzV; rw [List.length_map, sizeLine_eq]; omega), fun p hp => ⟨p, ws, rfl, upd_same, (hz.sub (fun z hz => (h z).mp hz) ne few).same (Same.upd (Same.refl _) hp), (by rw [(ln_alike (pcs_mem h)).1]; exact sh), k.go (Same.upd (Same.refl _) hp) h⟩⟩
theorem pcs_callR {K : PySem.W.Frag} {A : Ad} {H : Hp} {zs ws : List (Addr × Pc)} {Q : VK} {E : XK} (hz : Pz H zs) (sh : 24 < (lnV (pcs zs)).length) (k : MadeE A H E) (h : ∀ z, z ∈ ws ↔ z ∈ zs) (ne : ws ≠ []) (few : ws.length ≤ 12) :
    ∃ a rest, V.ref A.Curve :: pzV ws = a :: rest ∧ rest.length ≤ sizeLine ∧ ∀ p, H p = none → spR_C_of_pieces K A [a, .ref p] (upd H p (.tup rest)) Q E :=
  ⟨.ref A.Curve, pzV ws, rfl, (by unfold pzV; rw [List.length_map, sizeLine_eq]; omega), fun p hp => ⟨p, ws, rfl, upd_same, (hz.sub (fun z hz => (h z).mp hz) ne few).same (Same.upd (Same.refl _) hp), (by rw [(ln_alike (pcs_mem h)).1]; exact sh), k.go (Same.upd (Same.refl _) hp)⟩⟩
theorem pcs_callW {K : PySem.W.Frag} {A : Ad} {H : Hp} {us : List V} {i : Nat} {Q : VK} {E : XK} (hz : PzW K H us i) (k : MadeW A H i E) (few : us.length ≤ 5) :
    ∃ a rest, V.ref A.Curve :: us = a :: rest ∧ rest.length ≤ sizeLine ∧ ∀ p, H p = none → spW_C_of_pieces K A [a, .ref p] (upd H p (.tup rest)) Q E :=
  ⟨.ref A.Curve, us, rfl, (by rw [sizeLine_eq]; omega), fun p hp => ⟨p, us, i, rfl, upd_same, hz.same (Same.upd (Same.refl _) hp), k.go (Same.upd (Same.refl _) hp)⟩⟩
section
variable {P : Program} {w : World} {K : PySem.W.Frag} {mg : Str → Option Value} {base : Heap} {A : Ad}
theorem ok_l_made (T : Txt K mg A) : FnOk P w K mg base CX0 9 A.f_l_made A.d_l_made ["_law_pieces"] (sp_l_made K A) := by
  have G_C_of_pieces := ok_C_of_pieces (P := P) (w := w) (base := base) T
  refine T.F_l_made.ok sc_l_made (fun vs H Q E h => ?_) (fun cdv A0 outer s H vs Q E hr h => ?_)
  · obtain ⟨L, zs, rfl, hL, hz, l5, sh, k⟩ := h
    rfl
  · obtain ⟨L, zs, rfl, hL, hz, l5, sh, k⟩ := h
    refine ⟨_, (pss_cons (ps_if (pt_cmpR op_eq (pe_callB (r := VG.rLen K) VG.call_len (by rfl) T.len (by decide +kernel) (pa_cons (pv 0) pa_nil)) pe_int (nomark _)) (pss_one (ps_ret (VP.pe_cmeth0 (pe_glob (v := .ref A.Curve) rfl T.m_Curve rfl) T.rd_Curve T.cm_of_pieces G_C_of_pieces (hr.mono (by decide)) pass0))) pss_nil)
    (pss_cons (ps_if (pt_cmpR op_eq (pe_callB (r := VG.rLen K) VG.call_len (by rfl) T.len (by decide +kernel) (pa_cons (pv 0) pa_nil)) pe_int (nomark _)) (pss_one (ps_ret (ClX.pe_cmeth (pe_glob (v := .ref A.Curve) rfl T.m_Curve rfl) T.rd_Curve T.cm_of_pieces G_C_of_pieces (hr.mono (by decide)) pass0 (pa_cons (pe_ix (r := rIxL K) ix_list (pv 0) pe_int (fun _ _ => rfl)) pa_nil)))) pss_nil)
    (pss_cons (ps_if (pt_cmpR op_eq (pe_callB (r := VG.rLen K) VG.call_len (by rfl) T.len (by decide +kernel) (pa_cons (pv 0) pa_nil)) pe_int (nomark _)) (pss_one (ps_ret (ClX.pe_cmeth (pe_glob (v := .ref A.Curve) rfl T.m_Curve rfl) T.rd_Curve T.cm_of_pieces G_C_of_pieces (hr.mono (by decide)) pass0 (pa_cons (pe_ix (r := rIxL K) ix_list (pv 0) pe_int (fun _ _ => rfl)) (pa_cons (pe_ix (r := rIxL K) ix_list (pv 0) pe_int (fun _ _ => rfl)) pa_nil))))) pss_nil)
    (pss_cons (ps_if (pt_cmpR op_eq (pe_callB (r := VG.rLen K) VG.call_len (by rfl) T.len (by decide +kernel) (pa_cons (pv 0) pa_nil)) pe_int (nomark _)) (pss_one (ps_ret (ClX.pe_cmeth (pe_glob (v := .ref A.Curve) rfl T.m_Curve rfl) T.rd_Curve T.cm_of_pieces G_C_of_pieces (hr.mono (by decide)) pass0 (pa_cons (pe_ix (r := rIxL K) ix_list (pv 0) pe_int (fun _ _ => rfl)) (pa_cons (pe_ix (r := rIxL K) ix_list (pv 0) pe_int (fun _ _ => rfl)) (pa_cons (pe_ix (r := rIxL K) ix_list (pv 0) pe_int (fun _ _ => rfl)) pa_nil)))))) pss_nil)
    (pss_cons (ps_if (pt_cmpR op_eq (pe_callB (r := VG.rLen K) VG.call_len (by rfl) T.len (by decide +kernel) (pa_cons (pv 0) pa_nil)) pe_int (nomark _)) (pss_one (ps_ret (ClX.pe_cmeth (pe_glob (v := .ref A.Curve) rfl T.m_Curve rfl) T.rd_Curve T.cm_of_pieces G_C_of_pieces (hr.mono (by decide)) pass0 (pa_cons (pe_ix (r := rIxL K) ix_list (pv 0) pe_int (fun _ _ => rfl)) (pa_cons (pe_ix (r := rIxL K) ix_list (pv 0) pe_int (fun _ _ => rfl)) (pa_cons (pe_ix (r := rIxL K) ix_list (pv 0) pe_int (fun _ _ => rfl)) (pa_cons (pe_ix (r := rIxL K) ix_list (pv 0) pe_int (fun _ _ => rfl)) pa_nil))))))) pss_nil)
    (pss_one (ps_ret (ClX.pe_cmeth (pe_glob (v := .ref A.Curve) rfl T.m_Curve rfl) T.rd_Curve T.cm_of_pieces G_C_of_pieces (hr.mono (by decide)) pass0 (pa_cons (pe_ix (r := rIxL K) ix_list (pv 0) pe_int (fun _ _ => rfl)) (pa_cons (pe_ix (r := rIxL K) ix_list (pv 0) pe_int (fun _ _ => rfl)) (pa_cons (pe_ix (r := rIxL K) ix_list (pv 0) pe_int (fun _ _ => rfl)) (pa_cons (pe_ix (r := rIxL K) ix_list (pv 0) pe_int (fun _ _ => rfl)) (pa_cons (pe_ix (r := rIxL K) ix_list (pv 0) pe_int (fun _ _ => rfl)) pa_nil))))))))))))), ?_⟩
    have pl : (pzV zs).length = zs.length := List.length_map _
    have l0 := hz.len0
    refine ⟨_, rfl, L, _, rfl, .inl (SqL.of hL), rfl, _, rfl, ?_⟩
    rw [pl]
    refine ifEq (fun c => absurd c (by omega)) (fun c0 => ?_)
    refine ⟨_, rfl, L, _, rfl, .inl (SqL.of hL), rfl, _, rfl, ?_⟩
    rw [pl]
    refine ifEq (fun c1 => ?_) (fun c1 => ?_)
    · have cN : zs.length = 1 := by omega
      obtain ⟨a, rfl⟩ : ∃ a, zs = [a] := match zs, cN with | [a], _ => ⟨a, rfl⟩
      refine ⟨rfl, ?_⟩
      refine ⟨_, rfl, L, _, _, _, rfl, rfl, SqL.of hL, pz_at (i := 0) rfl, ?_⟩
      exact pcs_call (ws := [a]) hz sh k (fun z => Iff.rfl) (by simp) (by show 1 ≤ 12; decide)
    refine ⟨_, rfl, L, _, rfl, .inl (SqL.of hL), rfl, _, rfl, ?_⟩
    rw [pl]
    refine ifEq (fun c2 => ?_) (fun c2 => ?_)
    · have cN : zs.length = 2 := by omega
      obtain ⟨a, b, rfl⟩ : ∃ a b, zs = [a, b] := match zs, cN with | [a, b], _ => ⟨a, b, rfl⟩
      refine ⟨rfl, ?_⟩
      refine ⟨_, rfl, L, _, _, _, rfl, rfl, SqL.of hL, pz_at (i := 0) rfl, ?_⟩
      refine ⟨_, rfl, L, _, _, _, rfl, rfl, SqL.of hL, pz_at (i := 1) rfl, ?_⟩
      exact pcs_call (ws := [a, b]) hz sh k (fun z => Iff.rfl) (by simp) (by show 2 ≤ 12; decide)
    refine ⟨_, rfl, L, _, rfl, .inl (SqL.of hL), rfl, _, rfl, ?_⟩
    rw [pl]
    refine ifEq (fun c3 => ?_) (fun c3 => ?_)
    · have cN : zs.length = 3 := by omega
      obtain ⟨a, b, c, rfl⟩ : ∃ a b c, zs = [a, b, c] := match zs, cN with | [a, b, c], _ => ⟨a, b, c, rfl⟩
      refine ⟨rfl, ?_⟩
      refine ⟨_, rfl, L, _, _, _, rfl, rfl, SqL.of hL, pz_at (i := 0) rfl, ?_⟩
      refine ⟨_, rfl, L, _, _, _, rfl, rfl, SqL.of hL, pz_at (i := 1) rfl, ?_⟩
      refine ⟨_, rfl, L, _, _, _, rfl, rfl, SqL.of hL, pz_at (i := 2) rfl, ?_⟩
      exact pcs_call (ws := [a, b, c]) hz sh k (fun z => Iff.rfl) (by simp) (by show 3 ≤ 12; decide)
    refine ⟨_, rfl, L, _, rfl, .inl (SqL.of hL), rfl, _, rfl, ?_⟩
    rw [pl]
    refine ifEq (fun c4 => ?_) (fun c4 => ?_)
    · have cN : zs.length = 4 := by omega
      obtain ⟨a, b, c, d, rfl⟩ : ∃ a b c d, zs = [a, b, c, d] := match zs, cN with | [a, b, c, d], _ => ⟨a, b, c, d, rfl⟩
      refine ⟨rfl, ?_⟩
      refine ⟨_, rfl, L, _, _, _, rfl, rfl, SqL.of hL, pz_at (i := 0) rfl, ?_⟩
      refine ⟨_, rfl, L, _, _, _, rfl, rfl, SqL.of hL, pz_at (i := 1) rfl, ?_⟩
      refine ⟨_, rfl, L, _, _, _, rfl, rfl, SqL.of hL, pz_at (i := 2) rfl, ?_⟩
      refine ⟨_, rfl, L, _, _, _, rfl, rfl, SqL.of hL, pz_at (i := 3) rfl, ?_⟩
      exact pcs_call (ws := [a, b, c, d]) hz sh k (fun z => Iff.rfl) (by simp) (by show 4 ≤ 12; decide)
    have cN : zs.length = 5 := by omega
    obtain ⟨a, b, c, d, e, rfl⟩ : ∃ a b c d e, zs = [a, b, c, d, e] := match zs, cN with | [a, b, c, d, e], _ => ⟨a, b, c, d, e, rfl⟩
    refine ⟨rfl, ?_⟩
    refine ⟨_, rfl, L, _, _, _, rfl, rfl, SqL.of hL, pz_at (i := 0) rfl, ?_⟩
    refine ⟨_, rfl, L, _, _, _, rfl, rfl, SqL.of hL, pz_at (i := 1) rfl, ?_⟩
    refine ⟨_, rfl, L, _, _, _, rfl, rfl, SqL.of hL, pz_at (i := 2) rfl, ?_⟩
    refine ⟨_, rfl, L, _, _, _, rfl, rfl, SqL.of hL, pz_at (i := 3) rfl, ?_⟩
    refine ⟨_, rfl, L, _, _, _, rfl, rfl, SqL.of hL, pz_at (i := 4) rfl, ?_⟩
    exact pcs_call (ws := [a, b, c, d, e]) hz sh k (fun z => Iff.rfl) (by simp) (by show 5 ≤ 12; decide)
theorem okR_l_made (T : Txt K mg A) : FnOk P w K mg base (L2.CX P w) 9 A.f_l_made A.d_l_made ["_law_pieces"] (spR_l_made K A) := by
  have G_C_of_pieces := okR_C_of_pieces (P := P) (w := w) (base := base) T
  refine T.F_l_made.okX sc_l_made (fun vs H Q E h => ?_) (fun cdv A0 outer s H vs Q E hr h => ?_)
  · obtain ⟨L, zs, rfl, hL, hz, l5, sh, k⟩ := h
    rfl
  · obtain ⟨L, zs, rfl, hL, hz, l5, sh, k⟩ := h
    refine ⟨_, (pss_cons (ps_if (pt_cmpR op_eq (pe_callB (r := VG.rLen K) VG.call_len (by rfl) T.len (by decide +kernel) (pa_cons (pv 0) pa_nil)) pe_int (nomark _)) (pss_one (ps_ret (VP.pe_cmeth0 (pe_glob (v := .ref A.Curve) rfl T.m_Curve rfl) T.rd_Curve T.cm_of_pieces G_C_of_pieces (hr.mono (by decide)) (passes_call (takes_of rfl rfl rfl rfl) (fun _ _ _ _ h => h))))) pss_nil)
    (pss_cons (ps_if (pt_cmpR op_eq (pe_callB (r := VG.rLen K) VG.call_len (by rfl) T.len (by decide +kernel) (pa_cons (pv 0) pa_nil)) pe_int (nomark _)) (pss_one (ps_ret (ClX.pe_cmeth (pe_glob (v := .ref A.Curve) rfl T.m_Curve rfl) T.rd_Curve T.cm_of_pieces G_C_of_pieces (hr.mono (by decide)) (passes_call (takes_of rfl rfl rfl rfl) (fun _ _ _ _ h => h)) (pa_cons (pe_ix (r := rIxL K) ix_list (pv 0) pe_int (fun _ _ => rfl)) pa_nil)))) pss_nil)
    (pss_cons (ps_if (pt_cmpR op_eq (pe_callB (r := VG.rLen K) VG.call_len (by rfl) T.len (by decide +kernel) (pa_cons (pv 0) pa_nil)) pe_int (nomark _)) (pss_one (ps_ret (ClX.pe_cmeth (pe_glob (v := .ref A.Curve) rfl T.m_Curve rfl) T.rd_Curve T.cm_of_pieces G_C_of_pieces (hr.mono (by decide)) (passes_call (takes_of rfl rfl rfl rfl) (fun _ _ _ _ h => h)) (pa_cons (pe_ix (r := rIxL K) ix_list (pv 0) pe_int (fun _ _ => rfl)) (pa_cons (pe_ix (r := rIxL K) ix_list (pv 0) pe_int (fun _ _ => rfl)) pa_nil))))) pss_nil)
    (pss_cons (ps_if (pt_cmpR op_eq (pe_callB (r := VG.rLen K) VG.call_len (by rfl) T.len (by decide +kernel) (pa_cons (pv 0) pa_nil)) pe_int (nomark _)) (pss_one (ps_ret (ClX.pe_cmeth (pe_glob (v := .ref A.Curve) rfl T.m_Curve rfl) T.rd_Curve T.cm_of_pieces G_C_of_pieces (hr.mono (by decide)) (passes_call (takes_of rfl rfl rfl rfl) (fun _ _ _ _ h => h)) (pa_cons (pe_ix (r := rIxL K) ix_list (pv 0) pe_int (fun _ _ => rfl)) (pa_cons (pe_ix (r := rIxL K) ix_list (pv 0) pe_int (fun _ _ => rfl)) (pa_cons (pe_ix (r := rIxL K) ix_list (pv 0) pe_int (fun _ _ => rfl)) pa_nil)))))) pss_nil)
    (pss_cons (ps_if (pt_cmpR op_eq (pe_callB (r := VG.rLen K) VG.call_len (by rfl) T.len (by decide +kernel) (pa_cons (pv 0) pa_nil)) pe_int (nomark _)) (pss_one (ps_ret (ClX.pe_cmeth (pe_glob (v := .ref A.Curve) rfl T.m_Curve rfl) T.rd_Curve T.cm_of_pieces G_C_of_pieces (hr.mono (by decide)) (passes_call (takes_of rfl rfl rfl rfl) (fun _ _ _ _ h => h)) (pa_cons (pe_ix (r := rIxL K) ix_list (pv 0) pe_int (fun _ _ => rfl)) (pa_cons (pe_ix (r := rIxL K) ix_list (pv 0) pe_int (fun _ _ => rfl)) (pa_cons (pe_ix (r := rIxL K) ix_list (pv 0) pe_int (fun _ _ => rfl)) (pa_cons (pe_ix (r := rIxL K) ix_list (pv 0) pe_int (fun _ _ => rfl)) pa_nil))))))) pss_nil)
    (pss_one (ps_ret (ClX.pe_cmeth (pe_glob (v := .ref A.Curve) rfl T.m_Curve rfl) T.rd_Curve T.cm_of_pieces G_C_of_pieces (hr.mono (by decide)) (passes_call (takes_of rfl rfl rfl rfl) (fun _ _ _ _ h => h)) (pa_cons (pe_ix (r := rIxL K) ix_list (pv 0) pe_int (fun _ _ => rfl)) (pa_cons (pe_ix (r := rIxL K) ix_list (pv 0) pe_int (fun _ _ => rfl)) (pa_cons (pe_ix (r := rIxL K) ix_list (pv 0) pe_int (fun _ _ => rfl)) (pa_cons (pe_ix (r := rIxL K) ix_list (pv 0) pe_int (fun _ _ => rfl)) (pa_cons (pe_ix (r := rIxL K) ix_list (pv 0) pe_int (fun _ _ => rfl)) pa_nil))))))))))))), ?_⟩
    have pl : (pzV zs).length = zs.length := List.length_map _
    have l0 := hz.len0
    refine ⟨_, rfl, L, _, rfl, .inl (SqL.of hL), rfl, _, rfl, ?_⟩
    rw [pl]
    refine ifEq (fun c => absurd c (by omega)) (fun c0 => ?_)
    refine ⟨_, rfl, L, _, rfl, .inl (SqL.of hL), rfl, _, rfl, ?_⟩
    rw [pl]
    refine ifEq (fun c1 => ?_) (fun c1 => ?_)
    · have cN : zs.length = 1 := by omega
      obtain ⟨a, rfl⟩ : ∃ a, zs = [a] := match zs, cN with | [a], _ => ⟨a, rfl⟩
      refine ⟨rfl, ?_⟩
      refine ⟨_, rfl, L, _, _, _, rfl, rfl, SqL.of hL, pz_at (i := 0) rfl, ?_⟩
      exact pcs_callR (ws := [a]) hz sh k (fun z => Iff.rfl) (by simp) (by show 1 ≤ 12; decide)
    refine ⟨_, rfl, L, _, rfl, .inl (SqL.of hL), rfl, _, rfl, ?_⟩
    rw [pl]
    refine ifEq (fun c2 => ?_) (fun c2 => ?_)
    · have cN : zs.length = 2 := by omega
      obtain ⟨a, b, rfl⟩ : ∃ a b, zs = [a, b] := match zs, cN with | [a, b], _ => ⟨a, b, rfl⟩
      refine ⟨rfl, ?_⟩
      refine ⟨_, rfl, L, _, _, _, rfl, rfl, SqL.of hL, pz_at (i := 0) rfl, ?_⟩
      refine ⟨_, rfl, L, _, _, _, rfl, rfl, SqL.of hL, pz_at (i := 1) rfl, ?_⟩
      exact pcs_callR (ws := [a, b]) hz sh k (fun z => Iff.rfl) (by simp) (by show 2 ≤ 12; decide)
    refine ⟨_, rfl, L, _, rfl, .inl (SqL.of hL), rfl, _, rfl, ?_⟩
    rw [pl]
    refine ifEq (fun c3 => ?_) (fun c3 => ?_)
    · have cN : zs.length = 3 := by omega
      obtain ⟨a, b, c, rfl⟩ : ∃ a b c, zs = [a, b, c] := match zs, cN with | [a, b, c], _ => ⟨a, b, c, rfl⟩
      refine ⟨rfl, ?_⟩
      refine ⟨_, rfl, L, _, _, _, rfl, rfl, SqL.of hL, pz_at (i := 0) rfl, ?_⟩
      refine ⟨_, rfl, L, _, _, _, rfl, rfl, SqL.of hL, pz_at (i := 1) rfl, ?_⟩
      refine ⟨_, rfl, L, _, _, _, rfl, rfl, SqL.of hL, pz_at (i := 2) rfl, ?_⟩
      exact pcs_callR (ws := [a, b, c]) hz sh k (fun z => Iff.rfl) (by simp) (by show 3 ≤ 12; decide)
    refine ⟨_, rfl, L, _, rfl, .inl (SqL.of hL), rfl, _, rfl, ?_⟩
    rw [pl]
    refine ifEq (fun c4 => ?_) (fun c4 => ?_)
    · have cN : zs.length = 4 := by omega
      obtain ⟨a, b, c, d, rfl⟩ : ∃ a b c d, zs = [a, b, c, d] := match zs, cN with | [a, b, c, d], _ => ⟨a, b, c, d, rfl⟩
      refine ⟨rfl, ?_⟩
      refine ⟨_, rfl, L, _, _, _, rfl, rfl, SqL.of hL, pz_at (i := 0) rfl, ?_⟩
      refine ⟨_, rfl, L, _, _, _, rfl, rfl, SqL.of hL, pz_at (i := 1) rfl, ?_⟩
      refine ⟨_, rfl, L, _, _, _, rfl, rfl, SqL.of hL, pz_at (i := 2) rfl, ?_⟩
      refine ⟨_, rfl, L, _, _, _, rfl, rfl, SqL.of hL, pz_at (i := 3) rfl, ?_⟩
      exact pcs_callR (ws := [a, b, c, d]) hz sh k (fun z => Iff.rfl) (by simp) (by show 4 ≤ 12; decide)
    have cN : zs.length = 5 := by omega
    obtain ⟨a, b, c, d, e, rfl⟩ : ∃ a b c d e, zs = [a, b, c, d, e] := match zs, cN with | [a, b, c, d, e], _ => ⟨a, b, c, d, e, rfl⟩
    refine ⟨rfl, ?_⟩
    refine ⟨_, rfl, L, _, _, _, rfl, rfl, SqL.of hL, pz_at (i := 0) rfl, ?_⟩
    refine ⟨_, rfl, L, _, _, _, rfl, rfl, SqL.of hL, pz_at (i := 1) rfl, ?_⟩
    refine ⟨_, rfl, L, _, _, _, rfl, rfl, SqL.of hL, pz_at (i := 2) rfl, ?_⟩
    refine ⟨_, rfl, L, _, _, _, rfl, rfl, SqL.of hL, pz_at (i := 3) rfl, ?_⟩
    refine ⟨_, rfl, L, _, _, _, rfl, rfl, SqL.of hL, pz_at (i := 4) rfl, ?_⟩
    exact pcs_callR (ws := [a, b, c, d, e]) hz sh k (fun z => Iff.rfl) (by simp) (by show 5 ≤ 12; decide)
theorem okW_l_made (T : Txt K mg A) : FnOk P w K mg base (L2.CX P w) 9 A.f_l_made A.d_l_made ["_law_pieces"] (spW_l_made K A) := by
  have G_C_of_pieces := okW_C_of_pieces (P := P) (w := w) (base := base) T
  refine T.F_l_made.okX sc_l_made (fun vs H Q E h => ?_) (fun cdv A0 outer s H vs Q E hr h => ?_)
  · obtain ⟨L, us, i, rfl, hL, hz, l5, k⟩ := h
    rfl
  · obtain ⟨L, us, i, rfl, hL, hz, l5, k⟩ := h
    refine ⟨_, (pss_cons (ps_if (pt_cmpR op_eq (pe_callB (r := VG.rLen K) VG.call_len (by rfl) T.len (by decide +kernel) (pa_cons (pv 0) pa_nil)) pe_int (nomark _)) (pss_one (ps_ret (VP.pe_cmeth0 (pe_glob (v := .ref A.Curve) rfl T.m_Curve rfl) T.rd_Curve T.cm_of_pieces G_C_of_pieces (hr.mono (by decide)) (passes_call (takes_of rfl rfl rfl rfl) (fun _ _ _ _ h => h))))) pss_nil)
    (pss_cons (ps_if (pt_cmpR op_eq (pe_callB (r := VG.rLen K) VG.call_len (by rfl) T.len (by decide +kernel) (pa_cons (pv 0) pa_nil)) pe_int (nomark _)) (pss_one (ps_ret (ClX.pe_cmeth (pe_glob (v := .ref A.Curve) rfl T.m_Curve rfl) T.rd_Curve T.cm_of_pieces G_C_of_pieces (hr.mono (by decide)) (passes_call (takes_of rfl rfl rfl rfl) (fun _ _ _ _ h => h)) (pa_cons (pe_ix (r := rIxL K) ix_list (pv 0) pe_int (fun _ _ => rfl)) pa_nil)))) pss_nil)
    (pss_cons (ps_if (pt_cmpR op_eq (pe_callB (r := VG.rLen K) VG.call_len (by rfl) T.len (by decide +kernel) (pa_cons (pv 0) pa_nil)) pe_int (nomark _)) (pss_one (ps_ret (ClX.pe_cmeth (pe_glob (v := .ref A.Curve) rfl T.m_Curve rfl) T.rd_Curve T.cm_of_pieces G_C_of_pieces (hr.mono (by decide)) (passes_call (takes_of rfl rfl rfl rfl) (fun _ _ _ _ h => h)) (pa_cons (pe_ix (r := rIxL K) ix_list (pv 0) pe_int (fun _ _ => rfl)) (pa_cons (pe_ix (r := rIxL K) ix_list (pv 0) pe_int (fun _ _ => rfl)) pa_nil))))) pss_nil)
    (pss_cons (ps_if (pt_cmpR op_eq (pe_callB (r := VG.rLen K) VG.call_len (by rfl) T.len (by decide +kernel) (pa_cons (pv 0) pa_nil)) pe_int (nomark _)) (pss_one (ps_ret (ClX.pe_cmeth (pe_glob (v := .ref A.Curve) rfl T.m_Curve rfl) T.rd_Curve T.cm_of_pieces G_C_of_pieces (hr.mono (by decide)) (passes_call (takes_of rfl rfl rfl rfl) (fun _ _ _ _ h => h)) (pa_cons (pe_ix (r := rIxL K) ix_list (pv 0) pe_int (fun _ _ => rfl)) (pa_cons (pe_ix (r := rIxL K) ix_list (pv 0) pe_int (fun _ _ => rfl)) (pa_cons (pe_ix (r := rIxL K) ix_list (pv 0) pe_int (fun _ _ => rfl)) pa_nil)))))) pss_nil)
    (pss_cons (ps_if (pt_cmpR op_eq (pe_callB (r := VG.rLen K) VG.call_len (by rfl) T.len (by decide +kernel) (pa_cons (pv 0) pa_nil)) pe_int (nomark _)) (pss_one (ps_ret (ClX.pe_cmeth (pe_glob (v := .ref A.Curve) rfl T.m_Curve rfl) T.rd_Curve T.cm_of_pieces G_C_of_pieces (hr.mono (by decide)) (passes_call (takes_of rfl rfl rfl rfl) (fun _ _ _ _ h => h)) (pa_cons (pe_ix (r := rIxL K) ix_list (pv 0) pe_int (fun _ _ => rfl)) (pa_cons (pe_ix (r := rIxL K) ix_list (pv 0) pe_int (fun _ _ => rfl)) (pa_cons (pe_ix (r := rIxL K) ix_list (pv 0) pe_int (fun _ _ => rfl)) (pa_cons (pe_ix (r := rIxL K) ix_list (pv 0) pe_int (fun _ _ => rfl)) pa_nil))))))) pss_nil)
    (pss_one (ps_ret (ClX.pe_cmeth (pe_glob (v := .ref A.Curve) rfl T.m_Curve rfl) T.rd_Curve T.cm_of_pieces G_C_of_pieces (hr.mono (by decide)) (passes_call (takes_of rfl rfl rfl rfl) (fun _ _ _ _ h => h)) (pa_cons (pe_ix (r := rIxL K) ix_list (pv 0) pe_int (fun _ _ => rfl)) (pa_cons (pe_ix (r := rIxL K) ix_list (pv 0) pe_int (fun _ _ => rfl)) (pa_cons (pe_ix (r := rIxL K) ix_list (pv 0) pe_int (fun _ _ => rfl)) (pa_cons (pe_ix (r := rIxL K) ix_list (pv 0) pe_int (fun _ _ => rfl)) (pa_cons (pe_ix (r := rIxL K) ix_list (pv 0) pe_int (fun _ _ => rfl)) pa_nil))))))))))))), ?_⟩
    refine ⟨_, rfl, L, _, rfl, .inl (SqL.of hL), rfl, _, rfl, ?_⟩
    refine ifEq (fun c0 => ?_) (fun c0 => ?_)
    · obtain rfl : us = [] := List.length_eq_zero_iff.mp (by omega)
      refine ⟨rfl, ?_⟩
      exact pcs_callW hz k l5
    refine ⟨_, rfl, L, _, rfl, .inl (SqL.of hL), rfl, _, rfl, ?_⟩
    refine ifEq (fun c1 => ?_) (fun c1 => ?_)
    · have cN : us.length = 1 := by omega
      obtain ⟨a, rfl⟩ : ∃ a, us = [a] := match us, cN with | [a], _ => ⟨a, rfl⟩
      refine ⟨rfl, ?_⟩
      refine ⟨_, rfl, L, _, _, _, rfl, rfl, SqL.of hL, (show atI [a] ((0 : Nat) : Int) = some a from atI_nat rfl), ?_⟩
      exact pcs_callW hz k l5
    refine ⟨_, rfl, L, _, rfl, .inl (SqL.of hL), rfl, _, rfl, ?_⟩
    refine ifEq (fun c2 => ?_) (fun c2 => ?_)
    · have cN : us.length = 2 := by omega
      obtain ⟨a, b, rfl⟩ : ∃ a b, us = [a, b] := match us, cN with | [a, b], _ => ⟨a, b, rfl⟩
      refine ⟨rfl, ?_⟩
      refine ⟨_, rfl, L, _, _, _, rfl, rfl, SqL.of hL, (show atI [a, b] ((0 : Nat) : Int) = some a from atI_nat rfl), ?_⟩
      refine ⟨_, rfl, L, _, _, _, rfl, rfl, SqL.of hL, (show atI [a, b] ((1 : Nat) : Int) = some b from atI_nat rfl), ?_⟩
      exact pcs_callW hz k l5
    refine ⟨_, rfl, L, _, rfl, .inl (SqL.of hL), rfl, _, rfl, ?_⟩
    refine ifEq (fun c3 => ?_) (fun c3 => ?_)
    · have cN : us.length = 3 := by omega
      obtain ⟨a, b, c, rfl⟩ : ∃ a b c, us = [a, b, c] := match us, cN with | [a, b, c], _ => ⟨a, b, c, rfl⟩
      refine ⟨rfl, ?_⟩
      refine ⟨_, rfl, L, _, _, _, rfl, rfl, SqL.of hL, (show atI [a, b, c] ((0 : Nat) : Int) = some a from atI_nat rfl), ?_⟩
      refine ⟨_, rfl, L, _, _, _, rfl, rfl, SqL.of hL, (show atI [a, b, c] ((1 : Nat) : Int) = some b from atI_nat rfl), ?_⟩
      refine ⟨_, rfl, L, _, _, _, rfl, rfl, SqL.of hL, (show atI [a, b, c] ((2 : Nat) : Int) = some c from atI_nat rfl), ?_⟩
      exact pcs_callW hz k l5
    refine ⟨_, rfl, L, _, rfl, .inl (SqL.of hL), rfl, _, rfl, ?_⟩
    refine ifEq (fun c4 => ?_) (fun c4 => ?_)
    · have cN : us.length = 4 := by omega
      obtain ⟨a, b, c, d, rfl⟩ : ∃ a b c d, us = [a, b, c, d] := match us, cN with | [a, b, c, d], _ => ⟨a, b, c, d, rfl⟩
      refine ⟨rfl, ?_⟩
      refine ⟨_, rfl, L, _, _, _, rfl, rfl, SqL.of hL, (show atI [a, b, c, d] ((0 : Nat) : Int) = some a from atI_nat rfl), ?_⟩
      refine ⟨_, rfl, L, _, _, _, rfl, rfl, SqL.of hL, (show atI [a, b, c, d] ((1 : Nat) : Int) = some b from atI_nat rfl), ?_⟩
      refine ⟨_, rfl, L, _, _, _, rfl, rfl, SqL.of hL, (show atI [a, b, c, d] ((2 : Nat) : Int) = some c from atI_nat rfl), ?_⟩
      refine ⟨_, rfl, L, _, _, _, rfl, rfl, SqL.of hL, (show atI [a, b, c, d] ((3 : Nat) : Int) = some d from atI_nat rfl), ?_⟩
      exact pcs_callW hz k l5
    have cN : us.length = 5 := by omega
    obtain ⟨a, b, c, d, e, rfl⟩ : ∃ a b c d e, us = [a, b, c, d, e] := match us, cN with | [a, b, c, d, e], _ => ⟨a, b, c, d, e, rfl⟩
    refine ⟨rfl, ?_⟩
    refine ⟨_, rfl, L, _, _, _, rfl, rfl, SqL.of hL, (show atI [a, b, c, d, e] ((0 : Nat) : Int) = some a from atI_nat rfl), ?_⟩
    refine ⟨_, rfl, L, _, _, _, rfl, rfl, SqL.of hL, (show atI [a, b, c, d, e] ((1 : Nat) : Int) = some b from atI_nat rfl), ?_⟩
    refine ⟨_, rfl, L, _, _, _, rfl, rfl, SqL.of hL, (show atI [a, b, c, d, e] ((2 : Nat) : Int) = some c from atI_nat rfl), ?_⟩
    refine ⟨_, rfl, L, _, _, _, rfl, rfl, SqL.of hL, (show atI [a, b, c, d, e] ((3 : Nat) : Int) = some d from atI_nat rfl), ?_⟩
    refine ⟨_, rfl, L, _, _, _, rfl, rfl, SqL.of hL, (show atI [a, b, c, d, e] ((4 : Nat) : Int) = some e from atI_nat rfl), ?_⟩
    exact pcs_callW hz k l5
end
end VK


namespace VK
open PySem PySem.Spec PyProof.Rows L2 VM
/-- all that is told of a curve's form -/
def shownD (xs : List Int) (p g : Int) : PyData := .list [.list (xs.map PyData.int), .int p, .int g, .str (crvS xs p g), .str (strS xs p g)]
theorem crv_asc (xs : List Int) (p g : Int) : VT.Asc (crvS xs p g) := by
  unfold crvS
  exact (((((((VT.Asc.of "").app (VT.Asc.of _)).app (VT.Asc.ints xs)).app (VT.Asc.of _)).app (VT.Asc.int p)).app (VT.Asc.of _)).app (VT.Asc.int g)).app (VT.Asc.of _)
theorem str_asc (xs : List Int) (p g : Int) : VT.Asc (strS xs p g) := by
  unfold strS
  refine VT.Asc.join (VT.Asc.of _) fun t ht => ?_
  simp only [List.mem_cons, List.not_mem_nil, or_false] at ht
  rcases ht with rfl | rfl | rfl
  · refine VT.Asc.join (VT.Asc.of _) fun t ht => ?_
    obtain ⟨u, _, rfl⟩ := List.mem_map.mp ht
    exact VT.Asc.int u
  · exact VT.Asc.int p
  · exact VT.Asc.int g
theorem str_len {xs : List Int} {p g : Int} (hv : ∀ u ∈ xs, u.natAbs < 10 ^ 100) (hn : xs.length ≤ 1000) (hp : p.natAbs < 10 ^ 100) (hg : g.natAbs < 10 ^ 100) : (strS xs p g).length ≤ 200000 := by
  have len1 : ∀ v ∈ (xs.map fun u => (toString u : Str)).map (·.length), v ≤ 101 := fun v hm => by
    obtain ⟨y, hy, rfl⟩ := List.mem_map.mp hm
    obtain ⟨u, hu, rfl⟩ := List.mem_map.mp hy
    exact int_len (hv u hu)
  have s1 := sum_le_mul len1
  rw [List.length_map, List.length_map] at s1
  have kc := lit_len "," (n := 1)
  have ks := lit_len "/" (n := 1)
  have j1 := len_join_le' ("," : Str) (xs.map fun u => (toString u : Str))
  rw [List.length_map, kc] at j1
  have l1 := int_len hp
  have l2 := int_len hg
  have j2 := len_join_le' ("/" : Str) [Txt.join ("," : Str) (xs.map fun u => (toString u : Str)), (toString p : Str), (toString g : Str)]
  rw [ks] at j2
  simp only [List.map_cons, List.map_nil, List.sum_cons, List.sum_nil, List.length_cons, List.length_nil] at j2
  show (Txt.join _ _).length ≤ _
  omega
theorem crv_len {xs : List Int} {p g : Int} (sz : VR.Sz 1 150000 (.list (xs.map PyData.int))) (hp : p.natAbs < 10 ^ 100) (hg : g.natAbs < 10 ^ 100) : (crvS xs p g).length ≤ 200000 := by
  have l1 := int_len hp
  have l2 := int_len hg
  have l3 := sz.ln
  have k1 := lit_len "Curve(" (n := 6)
  have k2 := lit_len ", period=" (n := 9)
  have k3 := lit_len ", gain=" (n := 7)
  have k5 := lit_len ")" (n := 1)
  have k0 : Str.empty.length = 0 := rfl
  unfold crvS
  simp only [Str.length_append]
  omega
theorem shown_sz {xs : List Int} {p g : Int} (hv : ∀ u ∈ xs, u.natAbs < 10 ^ 100) (hn : xs.length ≤ 1000) (hp : p.natAbs < 10 ^ 100) (hg : g.natAbs < 10 ^ 100) : (shownD xs p g).showable = true ∧ (shownD xs p g).depth ≤ 60 ∧ (shownD xs p g).shown.length ≤ sizeLine := by
  have sz : VR.Sz 1 150000 (.list (xs.map PyData.int)) := (VR.Sz.ints hv hn).mono (by decide) (by decide)
  have z : VR.Sz 2 ((2000002 + 2) * 6 + 3) (shownD xs p g) := by
    refine VR.Sz.list (k := 1) (L := 2000002) (n := 6) (fun d hd => ?_) (by simp)
    simp only [List.mem_cons, List.not_mem_nil, or_false] at hd
    rcases hd with rfl | rfl | rfl | rfl | rfl
    · exact sz.mono (by decide) (by decide)
    · exact (VR.Sz.int hp).mono (by decide) (by decide)
    · exact (VR.Sz.int hg).mono (by decide) (by decide)
    · exact (VT.Sz.str (crv_asc xs p g) (crv_len sz hp hg)).mono (by decide) (by decide)
    · exact (VT.Sz.str (str_asc xs p g) (str_len hv hn hp hg)).mono (by decide) (by decide)
  exact ⟨z.sh, Nat.le_trans z.dp (by decide), Nat.le_trans z.ln (by rw [sizeLine_eq]; decide)⟩
theorem words_eq (xs : List Int) (p g : Int) : ((((((("Curve(" : Str)) ++ (PyData.shown (.list (xs.map PyData.int)))) ++ (", period=" : Str)) ++ (toString p : Str)) ++ (", gain=" : Str)) ++ (toString g : Str)) ++ (")" : Str) = crvS xs p g := by
  unfold crvS
  rw [Str.empty_append]
theorem text_eq (xs : List Int) (p g : Int) : (((Txt.join ("," : Str) (xs.map fun x => (toString x : Str)) ++ ("/" : Str)) ++ (toString p : Str)) ++ ("/" : Str)) ++ (toString g : Str) = strS xs p g := by
  unfold strS
  generalize Txt.join ("," : Str) (xs.map fun x => (toString x : Str)) = J
  have e : Txt.join ("/" : Str) [J, (toString p : Str), (toString g : Str)] = Str.join ("/" : Str) [J, (toString p : Str), (toString g : Str)] := StrLaws.glued_eq_join ..
  rw [e]
  show _ = J ++ ("/" : Str) ++ ((toString p : Str) ++ ("/" : Str) ++ (toString g : Str))
  simp only [Str.append_assoc]
/-- numbers that can be shown -/
structure Shw (xs : List Int) (p g : Int) : Prop where
  v : ∀ u ∈ xs, u.natAbs < 10 ^ 100
  n : xs.length ≤ 1000
  p_ : p.natAbs < 10 ^ 100
  g_ : g.natAbs < 10 ^ 100
theorem ln_shw {qs : List Pc} (ne : qs ≠ []) (ok : ∀ q ∈ qs, q.Ok) (sh : (lnV qs).length ≤ 24) : Shw (lnV qs) (lnP qs).1 (lnP qs).2 := by
  have R := ln_okRow ne ok sh
  have b2 : (2000 : Nat) < 10 ^ 100 := by decide +kernel
  have pp : 0 < (lnP qs).1 ∧ (lnP qs).1 ≤ 12 := by rcases R.per with h | h | h | h | h | h <;> omega
  have g0 := R.g0
  have g1 := R.g1
  refine ⟨fun u hu => ?_, by omega, Nat.lt_of_le_of_lt (show (lnP qs).1.natAbs ≤ 2000 by omega) b2, Nat.lt_of_le_of_lt (show (lnP qs).2.natAbs ≤ 2000 by omega) b2⟩
  obtain ⟨i, hi, rfl⟩ := List.getElem_of_mem hu
  have a1 := R.lo i hi
  have a2 := R.hi i hi
  rw [List.getD_eq_getElem?_getD, List.getElem?_eq_getElem hi] at a1 a2
  have a1 : 0 ≤ (lnV qs)[i] := a1
  have a2 : (lnV qs)[i] ≤ 2000 := a2
  exact Nat.lt_of_le_of_lt (show (lnV qs)[i].natAbs ≤ 2000 by omega) b2
def sp_l_shown (_ : PySem.W.Frag) (A : Ad) : Sp := fun vs H Q _ => ∃ (x : Addr) (cs : List Int) (p g : Int), vs = [.ref x] ∧ CrvAt A H x cs p g ∧ Shw cs p g ∧
  ∀ H', Same H H' → Q (.str (shownD cs p g).shown) H'
def sp_l_due (_ : PySem.W.Frag) (_ : Ad) : Sp := fun vs H Q _ => ∃ (t l : Addr) (xs : List Int) (p g : Int), vs = [.ref t] ∧ H t = some (.tup [.ref l, .int p, .int g]) ∧ H l = some (.lst (xs.map V.int)) ∧ Shw xs p g ∧
  ∀ H', Same H H' → Q (.str (shownD xs p g).shown) H'
section
variable {P : Program} {w : World} {K : PySem.W.Frag} {mg : Str → Option Value} {base : Heap} {A : Ad}
theorem ok_l_shown (T : Txt K mg A) : VG.FnG P w K mg base CX0 4 A.f_l_shown A.d_l_shown ["_law_curve"] (sp_l_shown K A) := by
  have G_C_first_values := ok_C_first_values (P := P) (w := w) (base := base) T
  have G_C_gain := ok_C_gain (P := P) (w := w) (base := base) T
  have G_C_period := ok_C_period (P := P) (w := w) (base := base) T
  have G_C_repr := ok_C_repr (P := P) (w := w) (base := base) T
  have G_C_str := ok_C_str (P := P) (w := w) (base := base) T
  have G_C_repr := ok_C_repr (P := P) (w := w) (base := base) T
  have G_C_str := ok_C_str (P := P) (w := w) (base := base) T
  refine VG.okG0 T.F_l_shown sc_l_shown (fun vs H Q E h => ?_) (fun cdv A0 outer s H vs Q E hA hr h => ?_)
  · obtain ⟨x, cs, p, g, rfl, hC, ⟨hv, hn, hp, hg⟩, k⟩ := h
    rfl
  · obtain ⟨x, cs, p, g, rfl, hC, ⟨hv, hn, hp, hg⟩, k⟩ := h
    refine ⟨_, (pss_one (ps_ret (pe_callB (r := VG.rRepr K) (VG.call_repr hA hr.units) (by rfl) T.repr (by decide +kernel) (pa_cons (pe_lst (pa_cons (pe_meth0 (pv 0) T.cl T.me_first_values G_C_first_values (hr.mono (by decide)) T.b_C_first_values .nil pass0) (pa_cons (pe_prop (pv 0) T.cl T.pr_C_period G_C_period (hr.mono (by decide)) T.b_C_period .nil pass0 rfl) (pa_cons (pe_prop (pv 0) T.cl T.pr_C_gain G_C_gain (hr.mono (by decide)) T.b_C_gain .nil pass0 rfl) (pa_cons (pe_callB (VQ.call_reprOwnG (C := A.Curve) G_C_repr hA (hr.mono (by decide)) T.me___repr__ T.b_C_repr pass0) (by rfl) T.repr (by decide +kernel) (pa_cons (pv 0) pa_nil)) (pa_cons (pe_callTy (VO.call_strOwn (C := A.Curve) G_C_str (hr.mono (by decide)) T.me___str__ T.b_C_str pass0) (by rfl) T.str (by decide +kernel) (pa_cons (pv 0) pa_nil)) pa_nil)))))) pa_nil)))), ?_⟩
    obtain ⟨z1, z2, z3⟩ := shown_sz hv hn hp hg
    have sz : VR.Sz 1 1000000 (.list (cs.map PyData.int)) := (VR.Sz.ints (n := 1000) hv hn).mono (by decide) (by decide)
    obtain ⟨dx, l, w, b, hx, hl⟩ := id hC
    refine ⟨_, rfl, x, dx, _, rfl, hx, cfs_no _ _ _ (by decide +kernel) (by decide +kernel) (by decide +kernel), x, cs, p, g, rfl, hC, fun H1 q s1 _ hq => ?_⟩
    have C1 := hC.same s1
    have hx1 := s1 _ _ hx
    refine ⟨_, rfl, x, dx, _, rfl, hx1, x, cs, p, g, rfl, C1, _, rfl, x, dx, _, rfl, hx1, x, cs, p, g, rfl, C1, ?_⟩
    refine ⟨_, rfl, x, dx, _, rfl, hx1, x, cs, p, g, rfl, C1, sz, hp, hg, _, rfl, ?_⟩
    refine ⟨_, rfl, x, dx, _, rfl, hx1, x, cs, p, g, rfl, C1, hv, hn, hp, hg, fun H3 s3 _ => ⟨_, rfl, (by show 5 ≤ sizeLine; decide), fun L hL => ?_⟩⟩
    have s4 := Same.upd (o := .lst [.ref q, .int p, .int g, .str (crvS cs p g), .str (strS cs p g)]) s3 (s3.free hL)
    refine ⟨.ref L, shownD cs p g, rfl, .lst (SqL.of upd_same) (.cons (.lst (SqL.of (s4 _ _ hq)) (dp_ints cs)) (.cons (.int p) (.cons (.int g) (.cons (.str _) (.cons (.str _) .nil))))), z1, z2, z3, ?_⟩
    exact k _ (s1.trans s4)
theorem ok_l_due (T : Txt K mg A) : VG.FnG P w K mg base CX0 3 A.f_l_due A.d_l_due ["_law_form_here"] (sp_l_due K A) := by
  refine VG.okG0 T.F_l_due sc_l_due (fun vs H Q E h => ?_) (fun cdv A0 outer s H vs Q E hA hr h => ?_)
  · obtain ⟨t, l, xs, p, g, rfl, ht, hl, ⟨hv, hn, hp, hg⟩, k⟩ := h
    rfl
  · obtain ⟨t, l, xs, p, g, rfl, ht, hl, ⟨hv, hn, hp, hg⟩, k⟩ := h
    refine ⟨_, (pss_cons (ps_asg (pv 0) (pg_tup rfl (pgs_cons (pg_name (i := 1) sc_l_due.nd rfl (by first | exact Or.inl rfl | exact Or.inr rfl)) (pgs_cons (pg_name (i := 2) sc_l_due.nd rfl (by first | exact Or.inl rfl | exact Or.inr rfl)) (pgs_cons (pg_name (i := 3) sc_l_due.nd rfl (by first | exact Or.inl rfl | exact Or.inr rfl)) pgs_nil)))))
    (pss_cons (ps_set (i := 4) sc_l_due.nd rfl (by first | exact Or.inl rfl | exact Or.inr rfl) (pe_op op_add_str (pe_op op_add_str (pe_op op_add_str (pe_op op_add_str (pe_op op_add_str (pe_op op_add_str pe_str (pe_callB (r := VG.rRepr K) (VG.call_repr hA hr.units) (by rfl) T.repr (by decide +kernel) (pa_cons (pv 1) pa_nil))) pe_str) (pe_callTy VN.call_strIN (by rfl) T.str (by decide +kernel) (pa_cons (pv 2) pa_nil))) pe_str) (pe_callTy VN.call_strIN (by rfl) T.str (by decide +kernel) (pa_cons (pv 3) pa_nil))) pe_str))
    (pss_cons (ps_set (i := 5) sc_l_due.nd rfl (by first | exact Or.inl rfl | exact Or.inr rfl) (pe_op op_add_str (pe_op op_add_str (pe_op op_add_str (pe_op op_add_str (pe_join pe_str (pe_lc (own := [("_law_one", 6)]) (g := gName 6) (tt := tYes) rfl sc_l_due.nd (pi_list (pv 1)) (blkOk_by (own := [("_law_one", 6)]) (N := ["_law_form_here", "_law_told", "_law_cycle", "_law_more", "_law_words", "_law_text", "_law_one"]) (sc := defScope s_l_due) (by decide +kernel)) (fun _ _ _ _ _ => pg_name (i := 6) sc_l_due.nd rfl (by first | exact Or.inl rfl | exact Or.inr rfl)) (fun _ _ _ _ _ => pts_nil) (fun _ _ _ _ _ => (pe_callTy VN.call_strIN (by rfl) T.str (by decide +kernel) (pa_cons (pv 6) pa_nil))))) pe_str) (pe_callTy VN.call_strIN (by rfl) T.str (by decide +kernel) (pa_cons (pv 2) pa_nil))) pe_str) (pe_callTy VN.call_strIN (by rfl) T.str (by decide +kernel) (pa_cons (pv 3) pa_nil))))
    (pss_one (ps_ret (pe_callB (r := VG.rRepr K) (VG.call_repr hA hr.units) (by rfl) T.repr (by decide +kernel) (pa_cons (pe_lst (pa_cons (pv 1) (pa_cons (pv 2) (pa_cons (pv 3) (pa_cons (pv 4) (pa_cons (pv 5) pa_nil)))))) pa_nil))))))), ?_⟩
    obtain ⟨z1, z2, z3⟩ := shown_sz hv hn hp hg
    have sz : VR.Sz 1 150000 (.list (xs.map PyData.int)) := (VR.Sz.ints hv hn).mono (by decide) (by decide)
    have w1 := words_eq xs p g
    have w2 := text_eq xs p g
    have l1 := int_len hp
    have l2 := int_len hg
    have l3 := sz.ln
    have k1 := lit_len "Curve(" (n := 6)
    have k2 := lit_len ", period=" (n := 9)
    have k3 := lit_len ", gain=" (n := 7)
    have k5 := lit_len ")" (n := 1)
    have kc := lit_len "," (n := 1)
    have ks := lit_len "/" (n := 1)
    have len1 : ∀ v ∈ (xs.map fun u => (toString u : Str)).map (·.length), v ≤ 101 := fun v hm => by
      obtain ⟨y, hy, rfl⟩ := List.mem_map.mp hm
      obtain ⟨u, hu, rfl⟩ := List.mem_map.mp hy
      exact int_len (hv u hu)
    have s1 := sum_le_mul len1
    rw [List.length_map, List.length_map] at s1
    have j1 := len_join_le' ("," : Str) (xs.map fun u => (toString u : Str))
    rw [List.length_map, kc] at j1
    refine ⟨_, rfl, t, _, rfl, SqT.of ht, rfl, _, _, rfl, _, _, rfl, _, _, rfl, rfl, ?_⟩
    refine ⟨_, rfl, .ref l, .list (xs.map PyData.int), rfl, .lst (SqL.of hl) (dp_ints xs), sz.sh, Nat.le_trans sz.dp (by decide), Nat.le_trans l3 (by rw [sizeLine_eq]; decide), ?_⟩
    refine ⟨_, _, rfl, rfl, by rw [sizeLine_eq]; omega, _, _, rfl, rfl, by rw [sizeLine_eq]; simp only [Str.length_append]; omega, ?_⟩
    refine ⟨_, rfl, .inl ⟨_, rfl, VR.log_small hp, _, _, rfl, rfl, by rw [sizeLine_eq]; simp only [Str.length_append]; omega, _, _, rfl, rfl, by rw [sizeLine_eq]; simp only [Str.length_append]; omega, ?_⟩⟩
    refine ⟨_, rfl, .inl ⟨_, rfl, VR.log_small hg, _, _, rfl, rfl, by rw [sizeLine_eq]; simp only [Str.length_append]; omega, _, _, rfl, rfl, by rw [sizeLine_eq]; simp only [Str.length_append]; omega, ?_⟩⟩
    rw [w1]
    refine ⟨⟨_, rfl⟩, _, rfl, l, rfl, ⟨_, SqL.of hl⟩, fun D hD => ?_⟩
    refine lc_list (K := K) (a := l) (xs := xs.map V.int) (fun j H2 => Same H H2 ∧ H2 D = some (.lst (((xs.take j).map fun u => (toString u : Str)).map V.str)))
      ⟨Same.upd (Same.refl _) hD, upd_same⟩ (fun j H2 _ ⟨s, _⟩ => SqL.of (s _ _ hl)) ?_ ?_
    · rintro j y H2 hy ⟨s, hD2⟩
      obtain ⟨hj, rfl⟩ := nth_map hy
      have hu := hv (xs.getD j 0) (by rw [List.getD_eq_getElem?_getD, List.getElem?_eq_getElem hj]; exact List.getElem_mem hj)
      refine ⟨rfl, _, rfl, .inl ⟨_, rfl, VR.log_small hu, _, hD2, small (by rw [List.length_map, List.length_map, List.length_take]; omega), Same.upd s hD, ?_⟩⟩
      rw [upd_same, List.take_succ, List.getElem?_eq_getElem hj, List.getD_eq_getElem?_getD, List.getElem?_eq_getElem hj, List.map_append, List.map_append]
      rfl
    rintro H2 ⟨s, hD2⟩
    rw [List.length_map, List.take_length] at hD2
    refine ⟨_, D, _, rfl, rfl, .inl (SqL.of hD2), by rw [List.length_map, kc]; omega, ?_⟩
    refine ⟨_, _, rfl, rfl, by rw [sizeLine_eq]; omega, _, rfl, .inl ⟨_, rfl, VR.log_small hp, _, _, rfl, rfl, by rw [sizeLine_eq]; simp only [Str.length_append]; omega, _, _, rfl, rfl, by rw [sizeLine_eq]; simp only [Str.length_append]; omega, ?_⟩⟩
    refine ⟨_, rfl, .inl ⟨_, rfl, VR.log_small hg, _, _, rfl, rfl, by rw [sizeLine_eq]; simp only [Str.length_append]; omega, ?_⟩⟩
    rw [w2]
    refine ⟨_, rfl, _, rfl, _, rfl, _, rfl, _, rfl, (by show 5 ≤ sizeLine; decide), fun L hL => ?_⟩
    have s4 := Same.upd (o := .lst [.ref l, .int p, .int g, .str (crvS xs p g), .str (strS xs p g)]) (Same.refl H2) hL
    refine ⟨.ref L, shownD xs p g, rfl, .lst (SqL.of upd_same) (.cons (.lst (SqL.of (s4 _ _ (s _ _ hl))) (dp_ints xs)) (.cons (.int p) (.cons (.int g) (.cons (.str _) (.cons (.str _) .nil))))), z1, z2, z3, ?_⟩
    exact k _ (s.trans s4)
end
end VK


namespace VK
open PySem PySem.Spec PyProof.Rows L2 VM
theorem refs2 {a b : Addr} {ws : List Value} (r : Vals [.ref a, .ref b] ws) : ws = [.ref a, .ref b] := by
  cases r with
  | cons r1 r => cases r with
    | cons r2 r => cases r; cases r1; cases r2; rfl
def sp_l_is_too_long (_ : PySem.W.Frag) (A : Ad) : Sp := fun vs H Q _ => ∃ (L : Addr) (zs : List (Addr × Pc)), vs = [.ref L] ∧ H L = some (.lst (pzV zs)) ∧ Pz H zs ∧ zs.length ≤ 5 ∧ 24 < (lnV (pcs zs)).length ∧ ∀ H', Same H H' → Q (.bl true) H'
def sp_l_is_wrong (K : PySem.W.Frag) (A : Ad) : Sp := fun vs H Q _ => ∃ (L : Addr) (us : List V) (i : Nat), vs = [.ref L, .int (i : Nat)] ∧ H L = some (.lst us) ∧ PzW K H us i ∧ us.length ≤ 5 ∧ i ≤ 100 ∧ ∀ H', Same H H' → Q (.bl true) H'
section
variable {P : Program} {w : World} {K : PySem.W.Frag} {mg : Str → Option Value} {base : Heap} {A : Ad}
theorem ok_l_is_too_long (T : Txt K mg A) : VG.FnG P w K mg base CX0 10 A.f_l_is_too_long A.d_l_is_too_long ["_law_pieces"] (sp_l_is_too_long K A) := by
  have G_l_made := okR_l_made (P := P) (w := w) (base := base) T
  refine VG.okG0 T.F_l_is_too_long sc_l_is_too_long (fun vs H Q E h => ?_) (fun cdv A0 outer s H vs Q E hA hr h => ?_)
  · obtain ⟨L, zs, rfl, hL, hz, l5, sh, k⟩ := h
    rfl
  · obtain ⟨L, zs, rfl, hL, hz, l5, sh, k⟩ := h
    refine ⟨_, (pss_cons (ps_set (i := 1) sc_l_is_too_long.nd rfl (by first | exact Or.inl rfl | exact Or.inr rfl) pe_str)
    (pss_cons (ps_try_as (i := 2) rfl rfl sc_l_is_too_long.nd rfl rfl ⟨rfl, by decide, .inl T.m_TooLong⟩ takes0 (fun W pn xe tk _ => (pss_one (ps_expr (pe_callS G_l_made (hr.mono (by decide)) rfl T.m_l_made T.k_l_made T.b_l_made (fun σ => passAt tk σ) (pa_cons (pv 0) pa_nil))))) (fun a oe cls d pn hz hf => (pss_cons (ps_set (i := 1) sc_l_is_too_long.nd rfl (by first | exact Or.inl rfl | exact Or.inr rfl) pe_str)
    (pss_one (ps_if (PW.pt (pw_and (pt_val (pe_callB (r := VX.rAsk K _ _ _ _) (VX.call_ask T.as_TooLong hz hf) (by rfl) T.isinstance (by decide +kernel) (pa_cons (pv 2) (pa_cons (pe_bltn (v := .ty "ArithmeticError") (u := .type "ArithmeticError") (by rfl) T.ArithmeticError (by decide +kernel) (by exact rfl)) pa_nil)))) (pw_and1 (pt_not (pt_val (pe_callB (r := VX.rAsk K _ _ _ _) (VX.call_ask T.as_TooLong hz hf) (by rfl) T.isinstance (by decide +kernel) (pa_cons (pv 2) (pa_cons (pe_tup (pa_cons (pe_glob (v := .ref A.DueError) rfl T.m_DueError rfl) (pa_cons (pe_glob (v := .ref A.TooMany) rfl T.m_TooMany rfl) pa_nil))) pa_nil)))))))) (pss_one (ps_set (i := 1) sc_l_is_too_long.nd rfl (by first | exact Or.inl rfl | exact Or.inr rfl) (pe_xf T.xf_TooLong T.n_TooLong_limit hz hf (pv 2)))) pss_nil)))))
    (pss_one (ps_ret (pe_cmpR op_eq (pe_callB (r := VG.rRepr K) (VG.call_repr hA hr.units) (by rfl) T.repr (by decide +kernel) (pa_cons (pv 1) pa_nil)) pe_str (nomark _)))))), ?_⟩
    refine ⟨_, rfl, L, zs, rfl, hL, hz, l5, sh, fun H2 e s2 he => ?_⟩
    refine ⟨true, T.ex_TooLong, fun _ ea hea => ?_, fun z => nomatch z⟩
    refine ⟨_, rfl, rfl, e, _, .ty "ArithmeticError", true, rfl, he, rfl, .inl ⟨.type "ArithmeticError", fun u r => r, T.kt_TooLong_ArithmeticError⟩, ?_⟩
    refine ⟨true, rfl, ?_⟩
    refine ⟨_, rfl, (by show 2 ≤ sizeLine; decide), fun tt htt => ?_⟩
    have he4 : upd H2 tt (.tup [.ref A.DueError, .ref A.TooMany]) e = some (.xd [("limit", .int 24)]) := by rw [upd_ne (ne_of_none he htt)]; exact he
    refine ⟨rfl, e, _, .ref tt, false, rfl, he4, rfl, .inr ⟨tt, _, _, rfl, upd_same, fun ws r => refs2 r, T.kt_TooLong_DueError_TooMany⟩, ?_⟩
    refine ⟨false, rfl, ?_⟩
    have s4 := s2.trans (Same.upd (o := .tup [.ref A.DueError, .ref A.TooMany]) (Same.refl H2) htt)
    generalize upd H2 tt (.tup [.ref A.DueError, .ref A.TooMany]) = H4 at *
    refine ⟨_, rfl, rfl, rfl, e, _, _, rfl, he4, rfl, ?_⟩
    refine ⟨_, rfl, .int 24, .int 24, rfl, .int 24, by decide +kernel, by decide, (by rw [sizeLine_eq]; decide +kernel), ?_⟩
    have e24 : (PyData.int 24).shown = ("24" : Str) := by decide +kernel
    rw [e24]
    refine ⟨rfl, ?_⟩
    show Q (.bl (decide (V.str ("24" : Str) = V.str ("24" : Str)))) H4
    rw [decide_eq_true rfl]
    exact k _ s4
theorem ok_l_is_wrong (T : Txt K mg A) : VG.FnG P w K mg base CX0 10 A.f_l_is_wrong A.d_l_is_wrong ["_law_pieces", "_law_at"] (sp_l_is_wrong K A) := by
  have G_l_made := okW_l_made (P := P) (w := w) (base := base) T
  refine VG.okG0 T.F_l_is_wrong sc_l_is_wrong (fun vs H Q E h => ?_) (fun cdv A0 outer s H vs Q E hA hr h => ?_)
  · obtain ⟨L, us, i, rfl, hL, hz, l5, i1, k⟩ := h
    rfl
  · obtain ⟨L, us, i, rfl, hL, hz, l5, i1, k⟩ := h
    refine ⟨_, (pss_cons (ps_set (i := 2) sc_l_is_wrong.nd rfl (by first | exact Or.inl rfl | exact Or.inr rfl) pe_str)
    (pss_cons (ps_try_as (i := 3) rfl rfl sc_l_is_wrong.nd rfl rfl ⟨rfl, by decide, .inl T.m_InvalidPiece⟩ takes0 (fun W pn xe tk _ => (pss_one (ps_expr (pe_callS G_l_made (hr.mono (by decide)) rfl T.m_l_made T.k_l_made T.b_l_made (fun σ => passAt tk σ) (pa_cons (pv 0) pa_nil))))) (fun a oe cls d pn hz hf => (pss_cons (ps_set (i := 2) sc_l_is_wrong.nd rfl (by first | exact Or.inl rfl | exact Or.inr rfl) pe_str)
    (pss_one (ps_if (PW.pt (pw_and (pt_val (pe_callB (r := VX.rAsk K _ _ _ _) (VX.call_ask T.as_InvalidPiece hz hf) (by rfl) T.isinstance (by decide +kernel) (pa_cons (pv 3) (pa_cons (pe_glob (v := .ref A.DueError) rfl T.m_DueError rfl) pa_nil)))) (pw_and (pt_val (pe_callB (r := VX.rAsk K _ _ _ _) (VX.call_ask T.as_InvalidPiece hz hf) (by rfl) T.isinstance (by decide +kernel) (pa_cons (pv 3) (pa_cons (pe_bltn (v := .ty "ValueError") (u := .type "ValueError") (by rfl) T.ValueError (by decide +kernel) (by exact rfl)) pa_nil)))) (pw_and1 (pt_not (pt_val (pe_callB (r := VX.rAsk K _ _ _ _) (VX.call_ask T.as_InvalidPiece hz hf) (by rfl) T.isinstance (by decide +kernel) (pa_cons (pv 3) (pa_cons (pe_glob (v := .ref A.InvalidCurve) rfl T.m_InvalidCurve rfl) pa_nil))))))))) (pss_one (ps_set (i := 2) sc_l_is_wrong.nd rfl (by first | exact Or.inl rfl | exact Or.inr rfl) (pe_xf T.xf_InvalidPiece T.n_InvalidPiece_position hz hf (pv 3)))) pss_nil)))))
    (pss_one (ps_ret (pe_cmpR op_eq (pe_callB (r := VG.rRepr K) (VG.call_repr hA hr.units) (by rfl) T.repr (by decide +kernel) (pa_cons (pv 2) pa_nil)) (pe_callTy VN.call_strIN (by rfl) T.str (by decide +kernel) (pa_cons (pv 1) pa_nil)) (nomark _)))))), ?_⟩
    refine ⟨_, rfl, L, us, i, rfl, hL, hz, l5, fun H2 e s2 he => ?_⟩
    refine ⟨true, T.ex_InvalidPiece, fun _ ea hea => ?_, fun z => nomatch z⟩
    refine ⟨_, rfl, rfl, e, _, .ref A.DueError, true, rfl, he, rfl, .inl ⟨.ref A.DueError, fun u r => r, T.kt_InvalidPiece_DueError⟩, ?_⟩
    refine ⟨true, rfl, ?_⟩
    refine ⟨_, rfl, rfl, e, _, .ty "ValueError", true, rfl, he, rfl, .inl ⟨.type "ValueError", fun u r => r, T.kt_InvalidPiece_ValueError⟩, ?_⟩
    refine ⟨true, rfl, ?_⟩
    refine ⟨_, rfl, rfl, e, _, .ref A.InvalidCurve, false, rfl, he, rfl, .inl ⟨.ref A.InvalidCurve, fun u r => r, T.kt_InvalidPiece_InvalidCurve⟩, ?_⟩
    refine ⟨false, rfl, ?_⟩
    have ib : (i : Int).natAbs < 10 ^ 100 := Nat.lt_of_le_of_lt (show (i : Int).natAbs ≤ 100 by omega) (by decide +kernel)
    have sz := VR.Sz.int ib
    refine ⟨_, rfl, rfl, rfl, e, _, _, rfl, he, rfl, ?_⟩
    refine ⟨_, rfl, .int i, .int i, rfl, .int i, sz.sh, Nat.le_trans sz.dp (by decide), Nat.le_trans sz.ln (by rw [sizeLine_eq]; decide), ?_⟩
    refine ⟨_, rfl, .inl ⟨i, rfl, VR.log_small ib, ?_⟩⟩
    refine ⟨rfl, ?_⟩
    have e2 : (PyData.int i).shown = Str.ofString (toString (i : Int)) := rfl
    show Q (.bl (decide (V.str (PyData.int i).shown = V.str (Str.ofString (toString (i : Int)))))) H2
    rw [e2, decide_eq_true rfl]
    exact k _ s2
end
end VK


namespace VK
open PySem PySem.Spec PyProof.Rows L2 VM
theorem take_more {L : List Int} {i : Nat} (h : i < L.length) : L.take (i + 1) = L.take i ++ [L.getD i 0] := by
  rw [List.take_add_one, List.getD_eq_getElem?_getD, List.getElem?_eq_getElem h]
  rfl
theorem ln_goodC {qs : List Pc} (ne : qs ≠ []) (ok : ∀ q ∈ qs, q.Ok) (n : Nat) : GoodC (cvAt (lnV qs) (lnP qs).1 (lnP qs).2) n := fun a b hb hab _ => by
  obtain ⟨_, _, _, _, f5⟩ := ln_spec ne ok
  rw [f5 _ (by omega), f5 _ (by omega), f5 _ (by omega)]
  exact ln_good ne ok (by omega) (by omega)
/-- what stands while the pieces are looked at -/
structure PR (A : Ad) (H : Hp) (r L t l x lx : Addr) (zs : List (Addr × Pc)) : Prop where
  hr : Rng H r
  nL : L ≠ r
  nt : t ≠ r
  nl : l ≠ r
  nx : x ≠ r
  nlx : lx ≠ r
  hL : H L = some (.lst (pzV zs))
  hz : Pz H zs
  ht : H t = some (.tup [.ref l, .int (lnP (pcs zs)).1, .int (lnP (pcs zs)).2])
  hl : H l = some (.lst ((lnV (pcs zs)).map V.int))
  hx : CuL A H x lx (lnV (pcs zs)) (lnP (pcs zs)).1 (lnP (pcs zs)).2 none
theorem PR.ext {A : Ad} {H H' : Hp} {r L t l x lx : Addr} {zs : List (Addr × Pc)} (h : PR A H r L t l x lx zs) (e : Ext r H H') : PR A H' r L t l x lx zs := by
  obtain ⟨dx, w, b, h1, h2, h3⟩ := h.hx
  exact ⟨e.rng, h.nL, h.nt, h.nl, h.nx, h.nlx, e.keep _ _ h.nL h.hL, h.hz.ext e h.hr, e.keep _ _ h.nt h.ht, e.keep _ _ h.nl h.hl, dx, w, b, e.keep _ _ h.nx h1, e.keep _ _ h.nlx h2, h3⟩
theorem PR.same {A : Ad} {H H' : Hp} {r L t l x lx : Addr} {zs : List (Addr × Pc)} (h : PR A H r L t l x lx zs) (s : Same H H') : PR A H' r L t l x lx zs := h.ext (.of h.hr s)
theorem PR.but {A : Ad} {H H' : Hp} {r L t l x lx : Addr} {zs : List (Addr × Pc)} (h : PR A H r L t l x lx zs) (b : But x H H') (c : CuL A H' x lx (lnV (pcs zs)) (lnP (pcs zs)).1 (lnP (pcs zs)).2 none) : PR A H' r L t l x lx zs := by
  obtain ⟨dx, w1, b1, hx, hl1, _⟩ := h.hx
  refine ⟨?_, h.nL, h.nt, h.nl, h.nx, h.nlx, b _ _ (ne_of h.hL hx (fun z => by cases z)) h.hL, ⟨fun z hz => b _ _ (ne_of (h.hz.at_ z hz) hx (fun z => by cases z)) (h.hz.at_ z hz), h.hz.ok, h.hz.ne, h.hz.few⟩, b _ _ (ne_of h.ht hx (fun z => by cases z)) h.ht, b _ _ (ne_of h.hl hx (fun z => by cases z)) h.hl, c⟩
  obtain ⟨a1, a2, a3, a4⟩ := h.hr
  exact ⟨a1, a2, b _ _ (Ne.symm h.nx) a3, a4⟩
theorem Ext.but {r x : Addr} {H H1 H2 : Hp} (e : Ext r H H1) (n : x ≠ r) (hx : H x = none) (b : But x H1 H2) : Ext r H H2 := by
  refine ⟨fun c o hc q => b _ _ (ne_of_none q hx) (e.keep c o hc q), ?_⟩
  obtain ⟨a1, a2, a3, a4⟩ := e.rng
  exact ⟨a1, a2, b _ _ (Ne.symm n) a3, a4⟩
def sp_l_pieces_right (_ : PySem.W.Frag) (_ : Ad) : Sp := fun vs H Q _ => ∃ (r L : Addr) (zs : List (Addr × Pc)), vs = [.ref r, .ref L] ∧ Rng H r ∧ L ≠ r ∧ H L = some (.lst (pzV zs)) ∧ Pz H zs ∧ zs.length ≤ 4 ∧ ∀ H', Ext r H H' → Q (.bl true) H'
section
variable {P : Program} {w : World} {K : PySem.W.Frag} {mg : Str → Option Value} {base : Heap} {A : Ad}
theorem ok_l_pieces_right (T : Txt K mg A) : VG.FnG P w K mg base CX0 11 A.f_l_pieces_right A.d_l_pieces_right ["_law_rng_here", "_law_pieces"] (sp_l_pieces_right K A) := by
  have G_C_at := ok_C_at (P := P) (w := w) (base := base) T
  have G_C_eq := ok_C_eq (P := P) (w := w) (base := base) T
  have G_C_is_good := ok_C_is_good (P := P) (w := w) (base := base) T
  have G_l_choice := ok_l_choice (P := P) (w := w) (base := base) T
  have G_l_draw := ok_l_draw (P := P) (w := w) (base := base) T
  have G_l_due := ok_l_due (P := P) (w := w) (base := base) T
  have G_l_form := ok_l_form (P := P) (w := w) (base := base) T
  have G_l_is_too_long := ok_l_is_too_long (P := P) (w := w) (base := base) T
  have G_l_least := ok_l_least (P := P) (w := w) (base := base) T
  have G_l_made := ok_l_made (P := P) (w := w) (base := base) T
  have G_l_shown := ok_l_shown (P := P) (w := w) (base := base) T
  have G_C_eq := ok_C_eq (P := P) (w := w) (base := base) T
  refine VG.okG0 T.F_l_pieces_right sc_l_pieces_right (fun vs H Q E h => ?_) (fun cdv A0 outer s H vs Q E hA hr h => ?_)
  · obtain ⟨r, L, zs, rfl, hr0, nL, hL, hz, l4, k⟩ := h
    rfl
  · obtain ⟨r, L, zs, rfl, hr0, nL, hL, hz, l4, k⟩ := h
    refine ⟨_, (pss_cons (ps_set (i := 2) sc_l_pieces_right.nd rfl (by first | exact Or.inl rfl | exact Or.inr rfl) (pe_call G_l_form (hr.mono (by decide)) rfl T.m_l_form T.k_l_form T.b_l_form .nil pass0 (pa_cons (pv 1) pa_nil)))
    (pss_cons (ps_if (pt_cmpR op_gt (pe_callB (r := VG.rLen K) VG.call_len (by rfl) T.len (by decide +kernel) (pa_cons (pe_ix (r := rIxT K) ix_tup (pv 2) pe_int (fun _ _ => rfl)) pa_nil)) pe_int (nomark _)) (pss_one (ps_ret (pe_and (VG.pe_callG G_l_is_too_long hA (hr.mono (by decide)) rfl T.m_l_is_too_long T.k_l_is_too_long T.b_l_is_too_long pass0 (pa_cons (pv 1) pa_nil)) (pe_one (VG.pe_callG G_l_is_too_long hA (hr.mono (by decide)) rfl T.m_l_is_too_long T.k_l_is_too_long T.b_l_is_too_long pass0 (pa_cons (pe_revL (pv 1)) pa_nil)))))) pss_nil)
    (pss_cons (ps_set (i := 3) sc_l_pieces_right.nd rfl (by first | exact Or.inl rfl | exact Or.inr rfl) (pe_call G_l_made (hr.mono (by decide)) rfl T.m_l_made T.k_l_made T.b_l_made .nil pass0 (pa_cons (pv 1) pa_nil)))
    (pss_cons (ps_set (i := 4) sc_l_pieces_right.nd rfl (by first | exact Or.inl rfl | exact Or.inr rfl) (pe_op op_cat (pe_listRg rfl (by rfl) T.list (prg_2 (by rfl) T.range pe_int pe_int)) (pe_lc (own := [("_law_far", 7)]) (g := gName 7) (tt := tYes) rfl sc_l_pieces_right.nd (pi_list (pe_lst (pa_cons (pe_op op_pow pe_int pe_int) (pa_cons (pe_op op_pow pe_int pe_int) (pa_cons (pe_op op_pow pe_int pe_int) (pa_cons (pe_op op_pow pe_int pe_int) pa_nil)))))) (blkOk_by (own := [("_law_far", 7)]) (N := ["_law_rng_here", "_law_pieces", "_law_form_here", "_law_curve", "_law_spans", "_law_least_here", "_law_again", "_law_far", "_law_span"]) (sc := defScope s_l_pieces_right) (by decide +kernel)) (fun _ _ _ _ _ => pg_name (i := 7) sc_l_pieces_right.nd rfl (by first | exact Or.inl rfl | exact Or.inr rfl)) (fun _ _ _ _ _ => pts_nil) (fun _ _ _ _ _ => (pe_op op_add (pv 7) (pe_call G_l_draw (hr.mono (by decide)) rfl T.m_l_draw T.k_l_draw T.b_l_draw .nil pass0 (pa_cons (pv 0) (pa_cons pe_int pa_nil))))))))
    (pss_cons (ps_setLc (i := 5) (own := [("_law_span", 8)]) (g := gName 8) (tt := tYes) rfl sc_l_pieces_right.nd rfl rfl (sw_true rfl rfl rfl (by decide +kernel)) (pi_list (pv 4)) (blkOk_by (own := [("_law_span", 8)]) (N := ["_law_rng_here", "_law_pieces", "_law_form_here", "_law_curve", "_law_spans", "_law_least_here", "_law_again", "_law_far", "_law_span"]) (sc := defScope s_l_pieces_right) (by decide +kernel)) (fun _ _ _ _ _ => pg_name (i := 8) sc_l_pieces_right.nd rfl (by first | exact Or.inl rfl | exact Or.inr rfl)) (fun _ _ _ _ _ => pts_nil) (fun _ _ _ _ _ => (pe_call G_l_least (hr.mono (by decide)) rfl T.m_l_least T.k_l_least T.b_l_least .nil pass0 (pa_cons (pv 1) (pa_cons (pv 8) pa_nil)))))
    (pss_cons (ps_if (PW.pt (pw_or (pt_cmpR (op_neD hr.units) (pe_lc (own := [("_law_span", 8)]) (g := gName 8) (tt := tYes) rfl sc_l_pieces_right.nd (pi_list (pv 4)) (blkOk_by (own := [("_law_span", 8)]) (N := ["_law_rng_here", "_law_pieces", "_law_form_here", "_law_curve", "_law_spans", "_law_least_here", "_law_again", "_law_far", "_law_span"]) (sc := defScope s_l_pieces_right) (by decide +kernel)) (fun _ _ _ _ _ => pg_name (i := 8) sc_l_pieces_right.nd rfl (by first | exact Or.inl rfl | exact Or.inr rfl)) (fun _ _ _ _ _ => pts_nil) (fun _ _ _ _ _ => (pe_meth (pv 3) T.cl T.me_at G_C_at (hr.mono (by decide)) T.b_C_at .nil pass0 (pa_cons (pv 8) pa_nil)))) (pv 5) (nomark _)) (pw_or1 (pt_cmpR op_ne (pe_meth (pv 3) T.cl T.me_at G_C_at (hr.mono (by decide)) T.b_C_at .nil pass0 (pa_cons pe_int pa_nil)) pe_int (nomark _))))) (pss_one (ps_ret pe_bl)) pss_nil)
    (pss_cons (ps_if (PW.pt (pw_or (pt_cmpR op_ne (VG.pe_callG G_l_shown hA (hr.mono (by decide)) rfl T.m_l_shown T.k_l_shown T.b_l_shown pass0 (pa_cons (pv 3) pa_nil)) (VG.pe_callG G_l_due hA (hr.mono (by decide)) rfl T.m_l_due T.k_l_due T.b_l_due pass0 (pa_cons (pv 2) pa_nil)) (nomark _)) (pw_or1 (pt_cmpR op_isnot_bl (pe_meth0 (pv 3) T.cl T.me_is_good G_C_is_good (hr.mono (by decide)) T.b_C_is_good .nil pass0) pe_bl (nomark _))))) (pss_one (ps_ret pe_bl)) pss_nil)
    (pss_cons (ps_set (i := 6) sc_l_pieces_right.nd rfl (by first | exact Or.inl rfl | exact Or.inr rfl) (pe_call G_l_made (hr.mono (by decide)) rfl T.m_l_made T.k_l_made T.b_l_made .nil pass0 (pa_cons (pe_op op_cat (pe_revL (pv 1)) (pe_lst (pa_cons (pe_call G_l_choice (hr.mono (by decide)) rfl T.m_l_choice T.k_l_choice T.b_l_choice .nil pass0 (pa_cons (pv 0) (pa_cons (pv 1) pa_nil))) pa_nil))) pa_nil)))
    (pss_one (ps_ret (pe_and (pe_cmpR (VN.op_eqOwn (C := A.Curve) G_C_eq (hr.mono (by decide)) T.me___eq__ T.ic_Curve T.b_C_eq pass0) (pv 6) (pv 3) (nomark _)) (pe_one (pe_cmpR op_eq (VG.pe_callG G_l_shown hA (hr.mono (by decide)) rfl T.m_l_shown T.k_l_shown T.b_l_shown pass0 (pa_cons (pv 6) pa_nil)) (VG.pe_callG G_l_due hA (hr.mono (by decide)) rfl T.m_l_due T.k_l_due T.b_l_due pass0 (pa_cons (pv 2) pa_nil)) (nomark _)))))))))))))), ?_⟩
    have pn := hz.pne
    have po := hz.pok
    obtain ⟨f1, f2, f3, f4, f5⟩ := ln_spec pn po
    refine ⟨_, rfl, L, zs, rfl, hL, hz, fun H1 t l s1 ht0 hl0 ht hl => ?_⟩
    have nt := hr0.ne ht0
    have nl := hr0.ne hl0
    refine ⟨_, rfl, t, _, _, _, rfl, rfl, SqT.of ht, rfl, l, _, rfl, .inl (SqL.of hl), ?_⟩
    rw [List.length_map]
    refine ⟨_, _, rfl, rfl, _, rfl, ?_⟩
    refine ifD (fun c => ?_) (fun c => ?_)
    · refine ⟨_, rfl, L, zs, rfl, s1 _ _ hL, hz.same s1, by omega, by omega, fun H2 s2 => ?_⟩
      have s02 := s1.trans s2
      have mem : ∀ z, z ∈ zs.reverse ↔ z ∈ zs := fun z => List.mem_reverse
      obtain ⟨e1, e2⟩ := ln_alike (pcs_mem mem)
      refine ⟨_, rfl, iteT ?_⟩
      refine ⟨_, rfl, L, _, rfl, SqL.of (s02 _ _ hL), fun Lr hLr => ?_⟩
      have hLr2 : upd H2 Lr (.lst (pzV zs).reverse) Lr = some (.lst (pzV zs.reverse)) := by rw [upd_same]; unfold pzV; rw [List.map_reverse]
      have s3 := Same.upd (o := .lst (pzV zs).reverse) (Same.refl H2) hLr
      have s03 := s02.trans s3
      refine ⟨Lr, zs.reverse, rfl, hLr2, (hz.sub (fun z h => (mem z).mp h) (fun e => hz.ne (by simpa using e)) (by rw [List.length_reverse]; exact hz.few)).same s03, by rw [List.length_reverse]; omega, by rw [e1]; omega, fun H4 s4 => ?_⟩
      exact k _ (Ext.of hr0 (s03.trans s4))
    have sh : (lnV (pcs zs)).length ≤ 24 := by omega
    have okR := ln_okRow pn po sh
    refine ⟨_, rfl, L, zs, rfl, s1 _ _ hL, hz.same s1, by omega, sh, fun H2 x dx lx s2 hx0 hlx0 hx hlx => ?_⟩
    have s02 := s1.trans s2
    have e2 := Ext.of hr0 s02
    have nx := hr0.ne (s1.free hx0)
    have nlx := hr0.ne (s1.free hlx0)
    have hxH : H x = none := s1.free hx0
    have R2 : PR A H2 r L t l x lx zs := ⟨e2.rng, nL, nt, nl, nx, nlx, s02 _ _ hL, hz.same s02, s2 _ _ ht, s2 _ _ hl, dx, false, .non, hx, hlx, fun z => by cases z⟩
    clear s1 s2 s02 hx0 hlx0 ht hl ht0 hl0 hL hx hlx
    refine ⟨1, 60, rfl, rfl, ⟨by decide, by decide, by decide, by decide, by decide⟩, fun q0 hq0 => ?_⟩
    have q0r := e2.rng.ne hq0
    have e3 := e2.new (o := .lst (rgV 1 60)) hq0
    have R3 := R2.same (Same.upd (o := .lst (rgV 1 60)) (Same.refl H2) hq0)
    have hq3 : upd H2 q0 (.lst (rgV 1 60)) q0 = some (.lst (rgV 1 60)) := upd_same
    generalize upd H2 q0 (.lst (rgV 1 60)) = H3 at *
    refine ⟨_, _, rfl, rfl, ⟨by decide, by decide, by decide⟩, _, _, rfl, rfl, ⟨by decide, by decide, by decide⟩, _, _, rfl, rfl, ⟨by decide, by decide, by decide⟩, _, _, rfl, rfl, ⟨by decide, by decide, by decide⟩, (by show 4 ≤ sizeLine; decide), fun Z hZ => ?_⟩
    have nZ := R3.hr.ne hZ
    have hZZ : upd H3 Z (.lst (([10 ^ 2, 10 ^ 3, 10 ^ 9, 10 ^ 15] : List Int).map V.int)) Z = some (.lst (([10 ^ 2, 10 ^ 3, 10 ^ 9, 10 ^ 15] : List Int).map V.int)) := upd_same
    have s4 := Same.upd (o := .lst (([10 ^ 2, 10 ^ 3, 10 ^ 9, 10 ^ 15] : List Int).map V.int)) (Same.refl H3) hZ
    refine ⟨Z, rfl, ⟨_, SqL.of hZZ⟩, fun D2 hD2 => ?_⟩
    have e4 := e3.same s4
    have R4 := R3.same s4
    have hq4 := s4 _ _ hq3
    have hD2 : upd H3 Z (.lst (([10 ^ 2, 10 ^ 3, 10 ^ 9, 10 ^ 15] : List Int).map V.int)) D2 = none := hD2
    have nD2 := R4.hr.ne hD2
    refine lc_list (K := K) (a := Z) (xs := ([10 ^ 2, 10 ^ 3, 10 ^ 9, 10 ^ 15] : List Int).map V.int) (fun j H5 => Ext r (upd H3 Z (.lst (([10 ^ 2, 10 ^ 3, 10 ^ 9, 10 ^ 15] : List Int).map V.int))) H5 ∧ ∃ ys : List Int, H5 D2 = some (.lst (ys.map V.int)) ∧ ys.length = j ∧ ∀ y ∈ ys, 0 < y ∧ y < 2 ^ 62)
      ⟨(Ext.refl R4.hr).new hD2, [], upd_same, rfl, fun _ h => nomatch h⟩ (fun j H5 _ ⟨e, _⟩ => SqL.of (e.keep _ _ nZ hZZ)) ?_ ?_
    · rintro j v H5 hv ⟨e5, ys, hd2, hj, hy⟩
      obtain ⟨m, hm, rfl⟩ := List.mem_map.mp (List.mem_of_getElem? hv)
      refine ⟨rfl, _, rfl, _, rfl, r, _, rfl, e5.rng, by decide, by decide, fun H6 d e6 d0 d1 => ?_⟩
      have j4 : j < 4 := (List.getElem?_eq_some_iff.mp hv).1
      have hm2 : 0 < m ∧ m ≤ 10 ^ 15 := by
        simp only [List.mem_cons, List.not_mem_nil, or_false] at hm
        omega
      refine ⟨_, _, rfl, rfl, _, e6.keep _ _ nD2 hd2, small (by rw [List.length_map]; omega), ?_, ys ++ [m + d], ?_, by rw [List.length_append, List.length_singleton]; omega, fun y h => ?_⟩
      · exact (e5.trans e6).put hD2 nD2
      · rw [upd_same, List.map_append]; rfl
      · rcases List.mem_append.mp h with h | h
        · exact hy y h
        · have h := List.mem_singleton.mp h
          omega
    rintro H5 ⟨e5, ys, hd2, hj, hy⟩
    have hj : ys.length = 4 := hj
    have R5 := R4.ext e5
    refine ⟨q0, D2, _, _, rfl, rfl, e5.keep _ _ q0r hq4, hd2, ?_, fun S0 hS0 => ?_⟩
    · unfold rgV
      rw [List.length_map, List.length_map, List.length_range]
      exact Nat.le_trans (show _ ≤ 1000 by omega) (by rw [sizeLine_eq]; decide)
    obtain ⟨ss, hss, hs⟩ : ∃ ss : List Int, rgV 1 60 ++ ys.map V.int = ss.map V.int ∧ ss.length ≤ 1000 ∧ ∀ z ∈ ss, 0 < z ∧ z < 2 ^ 62 := by
      refine ⟨((List.range ((60 : Int) - 1).toNat).map fun i : Nat => (1 : Int) + i) ++ ys, ?_, ?_, fun z h => ?_⟩
      · unfold rgV; rw [List.map_append, List.map_map]; rfl
      · rw [List.length_append, List.length_map, List.length_range]; omega
      · rcases List.mem_append.mp h with h | h
        · obtain ⟨i, hi, rfl⟩ := List.mem_map.mp h
          have hi := List.mem_range.mp hi
          omega
        · exact hy z h
    rw [hss]
    have e45 := e4.trans e5
    have s6 := Same.upd (o := .lst (ss.map V.int)) (Same.refl H5) hS0
    have hS : upd H5 S0 (.lst (ss.map V.int)) S0 = some (.lst (ss.map V.int)) := upd_same
    have nS := R5.hr.ne hS0
    have e6 := e45.same s6
    have R6 := R5.same s6
    clear e45 e5 e4 e3 hd2 hy hss hq4 hq3 R5 R4 R3 R2 s6 s4 hZZ hD2 hZ
    generalize upd H5 S0 (.lst (ss.map V.int)) = H6 at *
    have sl := hs.1
    refine ⟨_, rfl, S0, rfl, ⟨_, SqL.of hS⟩, fun Da hDa => ?_⟩
    refine lc_list (K := K) (a := S0) (xs := ss.map V.int) (fun j H7 => Same H6 H7 ∧ H7 Da = some (.lst (((ss.take j).map (lnF (pcs zs))).map V.int)))
      ⟨Same.upd (Same.refl _) hDa, upd_same⟩ (fun j H7 _ ⟨s7, _⟩ => SqL.of (s7 _ _ hS)) ?_ ?_
    · rintro j v H7 hv ⟨s7, ha⟩
      obtain ⟨jl, rfl⟩ := nth_map hv
      have zb := hs.2 (ss.getD j 0) (by rw [List.getD_eq_getElem?_getD, List.getElem?_eq_getElem jl]; exact List.getElem_mem jl)
      have R7 := R6.same s7
      refine ⟨rfl, _, rfl, _, rfl, L, zs, _, rfl, R7.hL, R7.hz, zb.1, fun H8 s8 => ?_⟩
      refine ⟨_, s8 _ _ ha, small (by rw [List.length_map, List.length_map, List.length_take]; omega), Same.upd (s7.trans s8) hDa, ?_⟩
      rw [upd_same, take_more jl, List.map_append, List.map_append]; rfl
    rintro H7 ⟨s7, ha⟩
    have ea : (ss.map V.int).length = ss.length := List.length_map _
    rw [ea, List.take_length] at ha
    have R7 := R6.same s7
    have e7 := e6.same s7
    have hS7 := s7 _ _ hS
    clear s7 R6 e6 hS hDa
    refine ⟨_, rfl, S0, rfl, ⟨_, SqL.of hS7⟩, fun Db hDb => ?_⟩
    refine lc_list (K := K) (a := S0) (xs := ss.map V.int) (fun j H8 => Same H7 H8 ∧ H8 Db = some (.lst (((ss.take j).map (lnF (pcs zs))).map V.int)))
      ⟨Same.upd (Same.refl _) hDb, upd_same⟩ (fun j H8 _ ⟨s8, _⟩ => SqL.of (s8 _ _ hS7)) ?_ ?_
    · rintro j v H8 hv ⟨s8, hb⟩
      obtain ⟨jl, rfl⟩ := nth_map hv
      have zb := hs.2 (ss.getD j 0) (by rw [List.getD_eq_getElem?_getD, List.getElem?_eq_getElem jl]; exact List.getElem_mem jl)
      have R8 := R7.same s8
      obtain ⟨dx8, w8, b8, hx8, hl8, _⟩ := id R8.hx
      refine ⟨rfl, _, rfl, x, dx8, _, rfl, hx8, cfs_no _ _ _ (by decide +kernel) (by decide +kernel) (by decide +kernel), _, rfl, x, _, _, _, _, rfl, R8.hx.cu.crv, f1, f3, by omega, by omega, zb.2, ?_⟩
      rw [f5 _ (by omega)]
      refine ⟨_, hb, small (by rw [List.length_map, List.length_map, List.length_take]; omega), Same.upd s8 hDb, ?_⟩
      rw [upd_same, take_more jl, List.map_append, List.map_append]; rfl
    rintro H8 ⟨s8, hb⟩
    rw [ea, List.take_length] at hb
    refine ⟨_, rfl, _, _, .lst (SqL.of hb) (dp_ints _), .lst (SqL.of (s8 _ _ ha)) (dp_ints _), shaped_ints _, shaped_ints _, ?_⟩
    rw [eqv_ints, decide_eq_true rfl]
    refine ⟨_, rfl, iteF ?_⟩
    have R8 := R7.same s8
    have e8 := e7.same s8
    clear s8 R7 e7 hb ha hS7 hDb
    obtain ⟨dx8, w8, b8, hx8, hl8, _⟩ := id R8.hx
    refine ⟨_, rfl, x, dx8, _, rfl, hx8, cfs_no _ _ _ (by decide +kernel) (by decide +kernel) (by decide +kernel), x, _, _, _, 0, rfl, R8.hx.cu.crv, f1, f3, by omega, by decide, by decide, ?_⟩
    rw [cvAt_zero]
    refine ⟨rfl, _, rfl, iteNeV ?_⟩
    have shw := ln_shw pn po sh
    refine ⟨_, rfl, x, _, _, _, rfl, R8.hx.cu.crv, shw, fun H9 s9 => ?_⟩
    have R9 := R8.same s9
    refine ⟨_, rfl, t, l, _, _, _, rfl, R9.ht, R9.hl, shw, fun H10 s10 => ?_⟩
    generalize hD : (shownD (lnV (pcs zs)) (lnP (pcs zs)).1 (lnP (pcs zs)).2).shown = D
    refine ⟨rfl, _, rfl, iteNeV ?_⟩
    have R10 := R9.same s10
    have e10 := (e8.same s9).same s10
    clear hx8 hl8 R8 R9 e8 s9 s10
    have hB : BrkR (cvAt (lnV (pcs zs)) (lnP (pcs zs)).1 (lnP (pcs zs)).2) (lnV (pcs zs)).length none := ln_goodC pn po _
    obtain ⟨dx10, w10, b10, hx10, hl10, _⟩ := id R10.hx
    refine ⟨_, rfl, x, dx10, _, rfl, hx10, cfs_no _ _ _ (by decide +kernel) (by decide +kernel) (by decide +kernel), x, lx, _, _, _, none, rfl, R10.hx, f1, f3, by omega, hB, fun H11 b11 c11 => ?_⟩
    refine ⟨_, _, rfl, rfl, _, rfl, iteF ?_⟩
    have R11 := R10.but b11 c11
    have e11 := e10.but nx hxH b11
    clear R10 e10 b11 c11 hx10 hl10
    refine ⟨_, rfl, L, _, rfl, SqL.of R11.hL, fun Lr hLr => ?_⟩
    have hLr1 : upd H11 Lr (.lst (pzV zs).reverse) Lr = some (.lst (pzV zs.reverse)) := by rw [upd_same]; unfold pzV; rw [List.map_reverse]
    have nLr := R11.hr.ne hLr
    have s12 := Same.upd (o := .lst (pzV zs).reverse) (Same.refl H11) hLr
    have R12 := R11.same s12
    have e12 := e11.same s12
    generalize upd H11 Lr (.lst (pzV zs).reverse) = H12 at *
    have pl : (pzV zs).length = zs.length := List.length_map _
    have l0 := hz.len0
    refine ⟨_, rfl, _, rfl, r, L, pzV zs, rfl, R12.hr, SqL.of R12.hL, nL, by omega, by omega, fun H13 v e13 hv => ?_⟩
    obtain ⟨z, hzm, rfl⟩ := List.mem_map.mp hv
    have R13 := R12.ext e13
    have hLr13 := e13.keep _ _ nLr hLr1
    have e13' := e12.trans e13
    refine ⟨(by show 1 ≤ sizeLine; decide), fun L1 hL1 => ?_⟩
    have hL11 : upd H13 L1 (.lst [.ref z.1]) L1 = some (.lst [.ref z.1]) := upd_same
    have s14 := Same.upd (o := .lst [.ref z.1]) (Same.refl H13) hL1
    have R14 := R13.same s14
    have e14 := e13'.same s14
    have hLr14 := s14 _ _ hLr13
    generalize upd H13 L1 (.lst [.ref z.1]) = H14 at *
    refine ⟨Lr, L1, _, _, rfl, rfl, hLr14, hL11, (by show (pzV zs.reverse).length + 1 ≤ sizeLine; unfold pzV; rw [List.length_map, List.length_reverse, sizeLine_eq]; omega), fun L2 hL2 => ?_⟩
    have hL22 : upd H14 L2 (.lst (pzV zs.reverse ++ [.ref z.1])) L2 = some (.lst (pzV (zs.reverse ++ [z]))) := by rw [upd_same, pz_push]
    have s15 := Same.upd (o := .lst (pzV zs.reverse ++ [.ref z.1])) (Same.refl H14) hL2
    have R15 := R14.same s15
    have e15 := e14.same s15
    generalize upd H14 L2 (.lst (pzV zs.reverse ++ [.ref z.1])) = H15 at *
    have mem : ∀ q, q ∈ zs.reverse ++ [z] ↔ q ∈ zs := fun q => by
      rw [List.mem_append, List.mem_reverse, List.mem_singleton]
      exact ⟨fun h => h.elim id fun h => h ▸ hzm, .inl⟩
    obtain ⟨m1, m2⟩ := ln_alike (pcs_mem mem)
    refine ⟨L2, zs.reverse ++ [z], rfl, hL22, R15.hz.sub (fun q h => (mem q).mp h) (by simp) (by rw [List.length_append, List.length_reverse, List.length_singleton]; omega), by rw [List.length_append, List.length_reverse, List.length_singleton]; omega, by rw [m1]; exact sh, fun H16 y dy ly s16 hy0 hly0 hy hly => ?_⟩
    rw [m2] at hy
    rw [m1] at hly
    have R16 := R15.same s16
    have e16 := e15.same s16
    have C16 : CrvAt A H16 y (lnV (pcs zs)) (lnP (pcs zs)).1 (lnP (pcs zs)).2 := ⟨dy, ly, false, .non, hy, hly⟩
    refine ⟨_, rfl, _, rfl, ?_⟩
    refine own_eq T C16 R16.hx.cu.crv ?_
    rw [same3]
    refine ⟨_, rfl, iteT ?_⟩
    refine ⟨_, rfl, y, _, _, _, rfl, C16, shw, fun H17 s17 => ?_⟩
    have R17 := R16.same s17
    refine ⟨_, rfl, t, l, _, _, _, rfl, R17.ht, R17.hl, shw, fun H18 s18 => ?_⟩
    rw [hD]
    refine ⟨rfl, ?_⟩
    show Q (.bl (decide (V.str D = V.str D))) H18
    rw [decide_eq_true rfl]
    exact k _ ((e16.same s17).same s18)
end
end VK


namespace VK
open PySem PySem.Spec PyProof.Rows L2 VM
/-- what is no piece, with all that it holds in view -/
inductive Odd (K : PySem.W.Frag) (H : Hp) : V → Prop
  | flat {v : V} {n : String} (h : ∀ H', Kd K H' v n) (ne : n ≠ "tuple") : Odd K H v
  | lst {l : Addr} {xs : List V} (h : H l = some (.lst xs)) : Odd K H (.ref l)
  | tup {t : Addr} {xs : List V} (ht : H t = some (.tup xs)) (fl : ∀ x ∈ xs, ∃ n, ∀ H', Kd K H' x n) (few : xs.length ≤ 10) (bad : badT xs = true) : Odd K H (.ref t)
theorem Odd.wrg {K : PySem.W.Frag} {H : Hp} {v : V} (h : Odd K H v) : Wrg K H v := by
  cases h with
  | flat h ne => exact .kind (fun H' _ => h H') ne
  | lst h => exact .kind (n := "list") (fun H' s => Kd.list (SqL.of (s _ _ h))) (by decide)
  | tup ht fl few bad => exact .tup ht fl few bad
theorem Odd.keep {K : PySem.W.Frag} {H H' : Hp} {v : V} (h : Odd K H v) (k : ∀ a o, v = .ref a → H a = some o → H' a = some o) : Odd K H' v := by
  cases h with
  | flat h ne => exact .flat h ne
  | lst h => exact .lst (k _ _ rfl h)
  | tup ht fl few bad => exact .tup (k _ _ rfl ht) fl few bad
def flatV : V → Bool
  | .int _ => true
  | .bl _ => true
  | .str _ => true
  | .non => true
  | _ => false
theorem flat_kd {K : PySem.W.Frag} {v : V} (h : flatV v = true) : ∃ n, n ≠ "tuple" ∧ ∀ H', Kd K H' v n := by
  cases v <;> first
    | exact ⟨"int", by decide, fun _ => ⟨.base (.int _), by decide⟩⟩
    | exact ⟨"bool", by decide, fun _ => ⟨.base (.bl _), by decide⟩⟩
    | exact ⟨"str", by decide, fun _ => ⟨.base (.str _), by decide⟩⟩
    | exact ⟨"NoneType", by decide, fun _ => ⟨.base .non, by decide⟩⟩
    | cases h
/-- odd things that were made since H0 -/
structure OL (K : PySem.W.Frag) (H0 H : Hp) (ws : List V) : Prop where
  same : Same H0 H
  all : ∀ v ∈ ws, Odd K H v ∧ ∀ a, v = .ref a → H0 a = none
theorem OL.nil {K : PySem.W.Frag} (H : Hp) : OL K H H [] := ⟨Same.refl _, fun _ h => nomatch h⟩
theorem OL.go {K : PySem.W.Frag} {H0 H H' : Hp} {ws : List V} (o : OL K H0 H ws) (s : Same H H') : OL K H0 H' ws :=
  ⟨o.same.trans s, fun v hv => ⟨(o.all v hv).1.keep fun a ob _ e => s _ _ e, (o.all v hv).2⟩⟩
theorem OL.add {K : PySem.W.Frag} {H0 H : Hp} {ws : List V} {v : V} (o : OL K H0 H ws) (h : Odd K H v) (f : ∀ a, v = .ref a → H0 a = none) : OL K H0 H (ws ++ [v]) :=
  ⟨o.same, fun u hu => by
    rcases List.mem_append.mp hu with hu | hu
    · exact o.all u hu
    · rw [List.mem_singleton.mp hu]; exact ⟨h, f⟩⟩
theorem OL.flat {K : PySem.W.Frag} {H0 H : Hp} {ws : List V} {v : V} (o : OL K H0 H ws) (h : flatV v = true) : OL K H0 H (ws ++ [v]) := by
  obtain ⟨n, ne, hk⟩ := flat_kd (K := K) h
  exact o.add (.flat hk ne) fun a e => by rw [e] at h; cases h
theorem OL.lst {K : PySem.W.Frag} {H0 H : Hp} {ws xs : List V} {l : Addr} (o : OL K H0 H ws) (hl : H l = none) : OL K H0 (upd H l (.lst xs)) (ws ++ [.ref l]) :=
  (o.go (Same.upd (Same.refl _) hl)).add (.lst upd_same) fun a e => by cases e; exact o.same.free hl
theorem OL.tup {K : PySem.W.Frag} {H0 H : Hp} {ws xs : List V} {t : Addr} (o : OL K H0 H ws) (ht : H t = none) (fl : xs.all flatV = true) (few : xs.length ≤ 10) (bad : badT xs = true) : OL K H0 (upd H t (.tup xs)) (ws ++ [.ref t]) :=
  (o.go (Same.upd (Same.refl _) ht)).add (.tup upd_same (fun x hx => by obtain ⟨n, _, h⟩ := flat_kd (K := K) (List.all_eq_true.mp fl x hx); exact ⟨n, h⟩) few bad) fun a e => by cases e; exact o.same.free ht
def sp_l_odd (K : PySem.W.Frag) (_ : Ad) : Sp := fun vs H Q _ => ∃ (r : Addr), vs = [.ref r] ∧ Rng H r ∧ ∀ H' v, Ext r H H' → Odd K H' v → (∀ a, v = .ref a → H a = none) → Q v H'
section
variable {P : Program} {w : World} {K : PySem.W.Frag} {mg : Str → Option Value} {base : Heap} {A : Ad}
theorem ok_l_odd (T : Txt K mg A) : FnOk P w K mg base CX0 4 A.f_l_odd A.d_l_odd ["_law_rng_here"] (sp_l_odd K A) := by
  have G_l_choice := ok_l_choice (P := P) (w := w) (base := base) T
  refine T.F_l_odd.ok sc_l_odd (fun vs H Q E h => ?_) (fun cdv A0 outer s H vs Q E hr h => ?_)
  · obtain ⟨r, rfl, hr0, k⟩ := h
    rfl
  · obtain ⟨r, rfl, hr0, k⟩ := h
    refine ⟨_, (pss_cons (ps_set (i := 1) sc_l_odd.nd rfl (by first | exact Or.inl rfl | exact Or.inr rfl) (pe_lst (pa_cons pe_non (pa_cons pe_int (pa_cons pe_str (pa_cons (pe_lst (pa_cons pe_int (pa_cons pe_int (pa_cons pe_int pa_nil)))) (pa_cons (pe_tup (pa_cons pe_int (pa_cons pe_int pa_nil))) (pa_cons (pe_tup (pa_cons pe_int (pa_cons pe_int (pa_cons pe_int (pa_cons pe_int pa_nil))))) (pa_cons (pe_tup pa_nil) (pa_cons pe_bl (pa_cons (pe_tup (pa_cons (pe_un un_neg pe_int) (pa_cons pe_int (pa_cons pe_int pa_nil)))) (pa_cons (pe_tup (pa_cons pe_int (pa_cons pe_int (pa_cons pe_int pa_nil)))) (pa_cons (pe_tup (pa_cons pe_int (pa_cons pe_int (pa_cons pe_int pa_nil)))) (pa_cons (pe_tup (pa_cons pe_int (pa_cons pe_int (pa_cons pe_int pa_nil)))) pa_nil))))))))))))))
    (pss_cons (ps_set (i := 1) sc_l_odd.nd rfl (by first | exact Or.inl rfl | exact Or.inr rfl) (pe_op op_cat (pv 1) (pe_lst (pa_cons (pe_tup (pa_cons pe_int (pa_cons pe_int (pa_cons pe_int pa_nil)))) (pa_cons (pe_tup (pa_cons pe_int (pa_cons pe_int (pa_cons pe_int pa_nil)))) (pa_cons (pe_tup (pa_cons pe_bl (pa_cons pe_int (pa_cons pe_int pa_nil)))) (pa_cons (pe_tup (pa_cons pe_int (pa_cons pe_bl (pa_cons pe_int pa_nil)))) (pa_cons (pe_tup (pa_cons pe_int (pa_cons pe_int (pa_cons pe_bl pa_nil)))) (pa_cons (pe_tup (pa_cons pe_str (pa_cons pe_int (pa_cons pe_int pa_nil)))) pa_nil)))))))))
    (pss_cons (ps_set (i := 1) sc_l_odd.nd rfl (by first | exact Or.inl rfl | exact Or.inr rfl) (pe_op op_cat (pv 1) (pe_lst (pa_cons (pe_tup (pa_cons pe_int (pa_cons pe_non (pa_cons pe_int pa_nil)))) (pa_cons (pe_tup (pa_cons pe_int (pa_cons pe_int (pa_cons (pe_un un_neg pe_int) pa_nil)))) pa_nil)))))
    (pss_one (ps_ret (pe_call G_l_choice (hr.mono (by decide)) rfl T.m_l_choice T.k_l_choice T.b_l_choice .nil pass0 (pa_cons (pv 0) (pa_cons (pv 1) pa_nil)))))))), ?_⟩
    have o := OL.nil (K := K) H
    replace o := o.flat (v := .non) rfl
    replace o := o.flat (v := .int 3) rfl
    replace o := o.flat (v := .str ("1,2,3" : Str)) rfl
    refine ⟨(by show 3 ≤ sizeLine; decide), fun a0 h0 => ?_⟩
    replace o := o.lst (xs := [.int 1, .int 1, .int 1]) h0
    generalize upd H a0 (.lst [.int 1, .int 1, .int 1]) = H1 at *
    refine ⟨(by show 2 ≤ sizeLine; decide), fun a1 h1 => ?_⟩
    replace o := o.tup (xs := [.int 1, .int 1]) h1 (by rfl) (by decide) (by decide +kernel)
    generalize upd H1 a1 (.tup [.int 1, .int 1]) = H2 at *
    refine ⟨(by show 4 ≤ sizeLine; decide), fun a2 h2 => ?_⟩
    replace o := o.tup (xs := [.int 1, .int 1, .int 1, .int 1]) h2 (by rfl) (by decide) (by decide +kernel)
    generalize upd H2 a2 (.tup [.int 1, .int 1, .int 1, .int 1]) = H3 at *
    refine ⟨(by show 0 ≤ sizeLine; decide), fun a3 h3 => ?_⟩
    replace o := o.tup (xs := []) h3 (by rfl) (by decide) (by decide +kernel)
    generalize upd H3 a3 (.tup []) = H4 at *
    replace o := o.flat (v := .bl true) rfl
    refine ⟨_, rfl, (by show 3 ≤ sizeLine; decide), fun a4 h4 => ?_⟩
    replace o := o.tup (xs := [.int (-1), .int 1, .int 1]) h4 (by rfl) (by decide) (by decide +kernel)
    generalize upd H4 a4 (.tup [.int (-1), .int 1, .int 1]) = H5 at *
    refine ⟨(by show 3 ≤ sizeLine; decide), fun a5 h5 => ?_⟩
    replace o := o.tup (xs := [.int 1, .int 61, .int 1]) h5 (by rfl) (by decide) (by decide +kernel)
    generalize upd H5 a5 (.tup [.int 1, .int 61, .int 1]) = H6 at *
    refine ⟨(by show 3 ≤ sizeLine; decide), fun a6 h6 => ?_⟩
    replace o := o.tup (xs := [.int 61, .int 1, .int 1]) h6 (by rfl) (by decide) (by decide +kernel)
    generalize upd H6 a6 (.tup [.int 61, .int 1, .int 1]) = H7 at *
    refine ⟨(by show 3 ≤ sizeLine; decide), fun a7 h7 => ?_⟩
    replace o := o.tup (xs := [.int 1, .int 1, .int 5]) h7 (by rfl) (by decide) (by decide +kernel)
    generalize upd H7 a7 (.tup [.int 1, .int 1, .int 5]) = H8 at *
    refine ⟨(by show 12 ≤ sizeLine; decide), fun a8 h8 => ?_⟩
    have hq1 : upd H8 a8 (.lst [.non, .int 3, .str ("1,2,3" : Str), .ref a0, .ref a1, .ref a2, .ref a3, .bl true, .ref a4, .ref a5, .ref a6, .ref a7]) a8 = some (.lst [.non, .int 3, .str ("1,2,3" : Str), .ref a0, .ref a1, .ref a2, .ref a3, .bl true, .ref a4, .ref a5, .ref a6, .ref a7]) := upd_same
    replace o := o.go (Same.upd (o := .lst [.non, .int 3, .str ("1,2,3" : Str), .ref a0, .ref a1, .ref a2, .ref a3, .bl true, .ref a4, .ref a5, .ref a6, .ref a7]) (Same.refl _) h8)
    generalize upd H8 a8 (.lst [.non, .int 3, .str ("1,2,3" : Str), .ref a0, .ref a1, .ref a2, .ref a3, .bl true, .ref a4, .ref a5, .ref a6, .ref a7]) = H9 at *
    refine ⟨_, rfl, ?_⟩
    refine ⟨(by show 3 ≤ sizeLine; decide), fun a9 h9 => ?_⟩
    replace o := o.tup (xs := [.int 1, .int 1, .int 0]) h9 (by rfl) (by decide) (by decide +kernel)
    replace hq1 := (Same.upd (o := .tup [.int 1, .int 1, .int 0]) (Same.refl _) h9) _ _ hq1
    generalize upd H9 a9 (.tup [.int 1, .int 1, .int 0]) = H10 at *
    refine ⟨(by show 3 ≤ sizeLine; decide), fun a10 h10 => ?_⟩
    replace o := o.tup (xs := [.int 1, .int 1, .int 24]) h10 (by rfl) (by decide) (by decide +kernel)
    replace hq1 := (Same.upd (o := .tup [.int 1, .int 1, .int 24]) (Same.refl _) h10) _ _ hq1
    generalize upd H10 a10 (.tup [.int 1, .int 1, .int 24]) = H11 at *
    refine ⟨(by show 3 ≤ sizeLine; decide), fun a11 h11 => ?_⟩
    replace o := o.tup (xs := [.bl true, .int 1, .int 1]) h11 (by rfl) (by decide) (by decide +kernel)
    replace hq1 := (Same.upd (o := .tup [.bl true, .int 1, .int 1]) (Same.refl _) h11) _ _ hq1
    generalize upd H11 a11 (.tup [.bl true, .int 1, .int 1]) = H12 at *
    refine ⟨(by show 3 ≤ sizeLine; decide), fun a12 h12 => ?_⟩
    replace o := o.tup (xs := [.int 1, .bl false, .int 1]) h12 (by rfl) (by decide) (by decide +kernel)
    replace hq1 := (Same.upd (o := .tup [.int 1, .bl false, .int 1]) (Same.refl _) h12) _ _ hq1
    generalize upd H12 a12 (.tup [.int 1, .bl false, .int 1]) = H13 at *
    refine ⟨(by show 3 ≤ sizeLine; decide), fun a13 h13 => ?_⟩
    replace o := o.tup (xs := [.int 1, .int 1, .bl true]) h13 (by rfl) (by decide) (by decide +kernel)
    replace hq1 := (Same.upd (o := .tup [.int 1, .int 1, .bl true]) (Same.refl _) h13) _ _ hq1
    generalize upd H13 a13 (.tup [.int 1, .int 1, .bl true]) = H14 at *
    refine ⟨(by show 3 ≤ sizeLine; decide), fun a14 h14 => ?_⟩
    replace o := o.tup (xs := [.str ("1" : Str), .int 1, .int 1]) h14 (by rfl) (by decide) (by decide +kernel)
    replace hq1 := (Same.upd (o := .tup [.str ("1" : Str), .int 1, .int 1]) (Same.refl _) h14) _ _ hq1
    generalize upd H14 a14 (.tup [.str ("1" : Str), .int 1, .int 1]) = H15 at *
    refine ⟨(by show 6 ≤ sizeLine; decide), fun a15 h15 => ?_⟩
    have hq2 : upd H15 a15 (.lst [.ref a9, .ref a10, .ref a11, .ref a12, .ref a13, .ref a14]) a15 = some (.lst [.ref a9, .ref a10, .ref a11, .ref a12, .ref a13, .ref a14]) := upd_same
    replace hq1 := (Same.upd (o := .lst [.ref a9, .ref a10, .ref a11, .ref a12, .ref a13, .ref a14]) (Same.refl _) h15) _ _ hq1
    replace o := o.go (Same.upd (o := .lst [.ref a9, .ref a10, .ref a11, .ref a12, .ref a13, .ref a14]) (Same.refl _) h15)
    generalize upd H15 a15 (.lst [.ref a9, .ref a10, .ref a11, .ref a12, .ref a13, .ref a14]) = H16 at *
    refine ⟨a8, a15, _, _, rfl, rfl, hq1, hq2, (by show 18 ≤ sizeLine; decide), fun a16 h16 => ?_⟩
    have hq3 : upd H16 a16 (.lst (([.non, .int 3, .str ("1,2,3" : Str), .ref a0, .ref a1, .ref a2, .ref a3, .bl true, .ref a4, .ref a5, .ref a6, .ref a7] : List V) ++ [.ref a9, .ref a10, .ref a11, .ref a12, .ref a13, .ref a14])) a16 = some (.lst [.non, .int 3, .str ("1,2,3" : Str), .ref a0, .ref a1, .ref a2, .ref a3, .bl true, .ref a4, .ref a5, .ref a6, .ref a7, .ref a9, .ref a10, .ref a11, .ref a12, .ref a13, .ref a14]) := upd_same
    replace hq1 := (Same.upd (o := .lst (([.non, .int 3, .str ("1,2,3" : Str), .ref a0, .ref a1, .ref a2, .ref a3, .bl true, .ref a4, .ref a5, .ref a6, .ref a7] : List V) ++ [.ref a9, .ref a10, .ref a11, .ref a12, .ref a13, .ref a14])) (Same.refl _) h16) _ _ hq1
    replace hq2 := (Same.upd (o := .lst (([.non, .int 3, .str ("1,2,3" : Str), .ref a0, .ref a1, .ref a2, .ref a3, .bl true, .ref a4, .ref a5, .ref a6, .ref a7] : List V) ++ [.ref a9, .ref a10, .ref a11, .ref a12, .ref a13, .ref a14])) (Same.refl _) h16) _ _ hq2
    replace o := o.go (Same.upd (o := .lst (([.non, .int 3, .str ("1,2,3" : Str), .ref a0, .ref a1, .ref a2, .ref a3, .bl true, .ref a4, .ref a5, .ref a6, .ref a7] : List V) ++ [.ref a9, .ref a10, .ref a11, .ref a12, .ref a13, .ref a14])) (Same.refl _) h16)
    generalize upd H16 a16 (.lst (([.non, .int 3, .str ("1,2,3" : Str), .ref a0, .ref a1, .ref a2, .ref a3, .bl true, .ref a4, .ref a5, .ref a6, .ref a7] : List V) ++ [.ref a9, .ref a10, .ref a11, .ref a12, .ref a13, .ref a14])) = H17 at *
    refine ⟨_, rfl, ?_⟩
    refine ⟨(by show 3 ≤ sizeLine; decide), fun a17 h17 => ?_⟩
    replace o := o.tup (xs := [.int 1, .non, .int 1]) h17 (by rfl) (by decide) (by decide +kernel)
    replace hq1 := (Same.upd (o := .tup [.int 1, .non, .int 1]) (Same.refl _) h17) _ _ hq1
    replace hq2 := (Same.upd (o := .tup [.int 1, .non, .int 1]) (Same.refl _) h17) _ _ hq2
    replace hq3 := (Same.upd (o := .tup [.int 1, .non, .int 1]) (Same.refl _) h17) _ _ hq3
    generalize upd H17 a17 (.tup [.int 1, .non, .int 1]) = H18 at *
    refine ⟨_, rfl, (by show 3 ≤ sizeLine; decide), fun a18 h18 => ?_⟩
    replace o := o.tup (xs := [.int 1, .int 1, .int (-1)]) h18 (by rfl) (by decide) (by decide +kernel)
    replace hq1 := (Same.upd (o := .tup [.int 1, .int 1, .int (-1)]) (Same.refl _) h18) _ _ hq1
    replace hq2 := (Same.upd (o := .tup [.int 1, .int 1, .int (-1)]) (Same.refl _) h18) _ _ hq2
    replace hq3 := (Same.upd (o := .tup [.int 1, .int 1, .int (-1)]) (Same.refl _) h18) _ _ hq3
    generalize upd H18 a18 (.tup [.int 1, .int 1, .int (-1)]) = H19 at *
    refine ⟨(by show 2 ≤ sizeLine; decide), fun a19 h19 => ?_⟩
    have hq4 : upd H19 a19 (.lst [.ref a17, .ref a18]) a19 = some (.lst [.ref a17, .ref a18]) := upd_same
    replace hq1 := (Same.upd (o := .lst [.ref a17, .ref a18]) (Same.refl _) h19) _ _ hq1
    replace hq2 := (Same.upd (o := .lst [.ref a17, .ref a18]) (Same.refl _) h19) _ _ hq2
    replace hq3 := (Same.upd (o := .lst [.ref a17, .ref a18]) (Same.refl _) h19) _ _ hq3
    replace o := o.go (Same.upd (o := .lst [.ref a17, .ref a18]) (Same.refl _) h19)
    generalize upd H19 a19 (.lst [.ref a17, .ref a18]) = H20 at *
    have o5 := o.same
    refine ⟨a16, a19, _, _, rfl, rfl, hq3, hq4, (by show 20 ≤ sizeLine; decide), fun a20 h20 => ?_⟩
    have hq5 : upd H20 a20 (.lst (([.non, .int 3, .str ("1,2,3" : Str), .ref a0, .ref a1, .ref a2, .ref a3, .bl true, .ref a4, .ref a5, .ref a6, .ref a7, .ref a9, .ref a10, .ref a11, .ref a12, .ref a13, .ref a14] : List V) ++ [.ref a17, .ref a18])) a20 = some (.lst [.non, .int 3, .str ("1,2,3" : Str), .ref a0, .ref a1, .ref a2, .ref a3, .bl true, .ref a4, .ref a5, .ref a6, .ref a7, .ref a9, .ref a10, .ref a11, .ref a12, .ref a13, .ref a14, .ref a17, .ref a18]) := upd_same
    replace hq1 := (Same.upd (o := .lst (([.non, .int 3, .str ("1,2,3" : Str), .ref a0, .ref a1, .ref a2, .ref a3, .bl true, .ref a4, .ref a5, .ref a6, .ref a7, .ref a9, .ref a10, .ref a11, .ref a12, .ref a13, .ref a14] : List V) ++ [.ref a17, .ref a18])) (Same.refl _) h20) _ _ hq1
    replace hq2 := (Same.upd (o := .lst (([.non, .int 3, .str ("1,2,3" : Str), .ref a0, .ref a1, .ref a2, .ref a3, .bl true, .ref a4, .ref a5, .ref a6, .ref a7, .ref a9, .ref a10, .ref a11, .ref a12, .ref a13, .ref a14] : List V) ++ [.ref a17, .ref a18])) (Same.refl _) h20) _ _ hq2
    replace hq3 := (Same.upd (o := .lst (([.non, .int 3, .str ("1,2,3" : Str), .ref a0, .ref a1, .ref a2, .ref a3, .bl true, .ref a4, .ref a5, .ref a6, .ref a7, .ref a9, .ref a10, .ref a11, .ref a12, .ref a13, .ref a14] : List V) ++ [.ref a17, .ref a18])) (Same.refl _) h20) _ _ hq3
    replace hq4 := (Same.upd (o := .lst (([.non, .int 3, .str ("1,2,3" : Str), .ref a0, .ref a1, .ref a2, .ref a3, .bl true, .ref a4, .ref a5, .ref a6, .ref a7, .ref a9, .ref a10, .ref a11, .ref a12, .ref a13, .ref a14] : List V) ++ [.ref a17, .ref a18])) (Same.refl _) h20) _ _ hq4
    replace o := o.go (Same.upd (o := .lst (([.non, .int 3, .str ("1,2,3" : Str), .ref a0, .ref a1, .ref a2, .ref a3, .bl true, .ref a4, .ref a5, .ref a6, .ref a7, .ref a9, .ref a10, .ref a11, .ref a12, .ref a13, .ref a14] : List V) ++ [.ref a17, .ref a18])) (Same.refl _) h20)
    generalize upd H20 a20 (.lst (([.non, .int 3, .str ("1,2,3" : Str), .ref a0, .ref a1, .ref a2, .ref a3, .bl true, .ref a4, .ref a5, .ref a6, .ref a7, .ref a9, .ref a10, .ref a11, .ref a12, .ref a13, .ref a14] : List V) ++ [.ref a17, .ref a18])) = H21 at *
    have hr1 := hr0.same o.same
    have ne : a20 ≠ r := hr0.ne (o5.free h20)
    refine ⟨_, rfl, _, rfl, r, a20, [.non, .int 3, .str ("1,2,3" : Str), .ref a0, .ref a1, .ref a2, .ref a3, .bl true, .ref a4, .ref a5, .ref a6, .ref a7, .ref a9, .ref a10, .ref a11, .ref a12, .ref a13, .ref a14, .ref a17, .ref a18], rfl, hr1, SqL.of hq5, ne, by simp, (by show 20 < 1000000; decide), fun H' v e hv => ?_⟩
    obtain ⟨od, fr⟩ := o.all v hv
    refine k H' v ((Ext.of hr0 o.same).trans e) (od.keep fun a u ea hu => e.keep _ _ (fun z => ?_) hu) fr
    obtain ⟨_, _, hrr, _⟩ := hr0
    have := fr a ea
    rw [z, hrr] at this
    cases this
end
end VK


namespace VK
open PySem PySem.Spec PyProof.Rows L2 VM
theorem ixn {n i : Nat} (h : i < n) : ixN n (i : Int) = some i := by
  unfold ixN
  rw [if_pos (by omega), if_pos (by omega)]
  rfl
/-- the pieces with other things in their places from d on -/
structure TW (r D : Addr) (H7 H' : Hp) (zs : List (Addr × Pc)) (d : Nat) : Prop where
  keep : ∀ b o, b ≠ r → b ≠ D → H7 b = some o → H' b = some o
  rng : Rng H' r
  us : ∃ us, H' D = some (.lst us) ∧ us.length = zs.length ∧ ∀ j, j < d → us[j]? = (pzV zs)[j]?
def spL (K : PySem.W.Frag) : Sp := fun vs H Q _ => ∃ (a : Addr) (ns : List Int), vs = [.ref a] ∧ SqL K H a (ns.map V.int) ∧ ns.length ≤ 63 ∧ ∀ H', Q (.bl true) H'
def sp_law (K : PySem.W.Frag) (_ : Ad) : Sp := spL K
section
variable {P : Program} {w : World} {K : PySem.W.Frag} {mg : Str → Option Value} {base : Heap} {A : Ad}
theorem ok_law (T : Txt K mg A) : VG.FnG P w K mg base CX0 13 A.f_law A.d_law ["_law_script"] (sp_law K A) := by
  have G_l_draw := ok_l_draw (P := P) (w := w) (base := base) T
  have G_l_is_wrong := ok_l_is_wrong (P := P) (w := w) (base := base) T
  have G_l_odd := ok_l_odd (P := P) (w := w) (base := base) T
  have G_l_piece := ok_l_piece (P := P) (w := w) (base := base) T
  have G_l_pieces_right := ok_l_pieces_right (P := P) (w := w) (base := base) T
  have G_l_rng := ok_l_rng (P := P) (w := w) (base := base) T
  refine VG.okG0 T.F_law sc_law (fun vs H Q E h => ?_) (fun cdv A0 outer s H vs Q E hA hr h => ?_)
  · obtain ⟨a, ns, rfl, hS, hn, k⟩ := h
    rfl
  · obtain ⟨a, ns, rfl, hS, hn, k⟩ := h
    refine ⟨_, (pss_cons (ps_for PassesOwn.never rfl (pi_range1 rfl T.range (pa_cons (pe_callB (call_max2 rfl) (by rfl) T.max (by decide +kernel) (pa_cons pe_int (pa_cons (pe_callB (call_min2 rfl) (by rfl) T.min (by decide +kernel) (pa_cons pe_int (pa_cons (pe_callB (r := VG.rLen K) VG.call_len (by rfl) T.len (by decide +kernel) (pa_cons (pv 0) pa_nil)) pa_nil))) pa_nil))) pa_nil)) (pg_name (i := 1) sc_law.nd rfl (by first | exact Or.inl rfl | exact Or.inr rfl))
      (pss_cons (ps_set (i := 2) sc_law.nd rfl (by first | exact Or.inl rfl | exact Or.inr rfl) (pe_call G_l_rng (hr.mono (by decide)) rfl T.m_l_rng T.k_l_rng T.b_l_rng .nil pass0 (pa_cons (pv 0) (pa_cons (pv 1) pa_nil))))
    (pss_cons (ps_setLc (i := 3) (own := [("_law_turn", 5)]) (g := gName 5) (tt := tYes) rfl sc_law.nd rfl rfl (sw_true rfl rfl rfl (by decide +kernel)) (pi_range1 rfl T.range (pa_cons (pe_op op_add pe_int (pe_call G_l_draw (hr.mono (by decide)) rfl T.m_l_draw T.k_l_draw T.b_l_draw .nil pass0 (pa_cons (pv 2) (pa_cons pe_int pa_nil)))) pa_nil)) (blkOk_by (own := [("_law_turn", 5)]) (N := ["_law_script", "_law_k", "_law_rng_here", "_law_pieces", "_law_at", "_law_turn"]) (sc := defScope s_law) (by decide +kernel)) (fun _ _ _ _ _ => pg_name (i := 5) sc_law.nd rfl (by first | exact Or.inl rfl | exact Or.inr rfl)) (fun _ _ _ _ _ => pts_nil) (fun _ _ _ _ _ => (pe_call G_l_piece (hr.mono (by decide)) rfl T.m_l_piece T.k_l_piece T.b_l_piece .nil pass0 (pa_cons (pv 2) pa_nil))))
    (pss_cons (ps_if (pt_not (pt_val (VG.pe_callG G_l_pieces_right hA (hr.mono (by decide)) rfl T.m_l_pieces_right T.k_l_pieces_right T.b_l_pieces_right pass0 (pa_cons (pv 2) (pa_cons (pv 3) pa_nil))))) (pss_one (ps_ret pe_bl)) pss_nil)
    (pss_one (ps_if (pt_cmpR op_eq (pe_call G_l_draw (hr.mono (by decide)) rfl T.m_l_draw T.k_l_draw T.b_l_draw .nil pass0 (pa_cons (pv 2) (pa_cons pe_int pa_nil))) pe_int (nomark _)) (pss_cons (ps_set (i := 4) sc_law.nd rfl (by first | exact Or.inl rfl | exact Or.inr rfl) (pe_call G_l_draw (hr.mono (by decide)) rfl T.m_l_draw T.k_l_draw T.b_l_draw .nil pass0 (pa_cons (pv 2) (pa_cons (pe_callB (r := VG.rLen K) VG.call_len (by rfl) T.len (by decide +kernel) (pa_cons (pv 3) pa_nil)) pa_nil))))
    (pss_one (ps_for PassesOwn.never rfl (pi_range1 rfl T.range (pa_cons pe_int pa_nil)) (pg_name (i := 5) sc_law.nd rfl (by first | exact Or.inl rfl | exact Or.inr rfl))
      (pss_cons (ps_asg (pe_call G_l_odd (hr.mono (by decide)) rfl T.m_l_odd T.k_l_odd T.b_l_odd .nil pass0 (pa_cons (pv 2) pa_nil)) (pg_sub (pv 3) (pv 4) set_list))
    (pss_one (ps_if (PW.pt (pw_or (pt_not (pt_val (VG.pe_callG G_l_is_wrong hA (hr.mono (by decide)) rfl T.m_l_is_wrong T.k_l_is_wrong T.b_l_is_wrong pass0 (pa_cons (pv 3) (pa_cons (pv 4) pa_nil))))) (pw_or1 (pt_not (pt_val (VG.pe_callG G_l_is_wrong hA (hr.mono (by decide)) rfl T.m_l_is_wrong T.k_l_is_wrong T.b_l_is_wrong pass0 (pa_cons (pe_op op_cat (pv 3) (pe_lst (pa_cons pe_non pa_nil))) (pa_cons (pv 4) pa_nil)))))))) (pss_one (ps_ret pe_bl)) pss_nil)))))) pss_nil))))))
    (pss_one (ps_ret (pe_and (VG.pe_callG G_l_is_wrong hA (hr.mono (by decide)) rfl T.m_l_is_wrong T.k_l_is_wrong T.b_l_is_wrong pass0 (pa_cons (pe_lst pa_nil) (pa_cons pe_int pa_nil))) (pe_one (VG.pe_callG G_l_is_wrong hA (hr.mono (by decide)) rfl T.m_l_is_wrong T.k_l_is_wrong T.b_l_is_wrong pass0 (pa_cons (pe_lst (pa_cons (pe_tup (pa_cons pe_int (pa_cons pe_int (pa_cons pe_int pa_nil)))) (pa_cons (pe_tup (pa_cons pe_int (pa_cons pe_int (pa_cons pe_int pa_nil)))) (pa_cons (pe_tup (pa_cons pe_int (pa_cons pe_int (pa_cons pe_int pa_nil)))) (pa_cons pe_non pa_nil))))) (pa_cons pe_int pa_nil)))))))), ?_⟩
    refine ⟨_, rfl, a, _, rfl, .inl hS, _, _, rfl, _, _, rfl, _, rfl, ?_⟩
    have b6 : (if (if ((ns.map V.int).length : Int) < (4 : Int) then ((ns.map V.int).length : Int) else (4 : Int)) > 1 then (if ((ns.map V.int).length : Int) < (4 : Int) then ((ns.map V.int).length : Int) else (4 : Int)) else 1) ≤ 4 := by
      split <;> split <;> omega
    have b0 : 0 ≤ (if (if ((ns.map V.int).length : Int) < (4 : Int) then ((ns.map V.int).length : Int) else (4 : Int)) > 1 then (if ((ns.map V.int).length : Int) < (4 : Int) then ((ns.map V.int).length : Int) else (4 : Int)) else 1) := by
      split <;> split <;> omega
    generalize (if (if ((ns.map V.int).length : Int) < (4 : Int) then ((ns.map V.int).length : Int) else (4 : Int)) > 1 then (if ((ns.map V.int).length : Int) < (4 : Int) then ((ns.map V.int).length : Int) else (4 : Int)) else 1) = N at *
    refine ⟨by omega, by omega, ?_⟩
    refine for_range (lo := 0) (n := N.toNat) (fun i σ H' => ∃ v1 v2 v3 v4 v5, σ = [some (.ref a), v1, v2, v3, v4, v5] ∧ Same H H') ⟨none, none, none, none, none, rfl, Same.refl _⟩ ?_ ?_
    · rintro i σ H1 hi ⟨v1, v2, v3, v4, v5, rfl, s1⟩
      refine ⟨_, rfl, _, rfl, a, ns, _, rfl, s1.seq hS, by omega, by omega, fun H2 r s2 hr0 hr => ?_⟩
      have s12 := s1.trans s2
      have hrH := s1.free hr0
      refine ⟨_, rfl, r, _, rfl, hr, by decide, by decide, fun H3 n e3 n0 n1 => ?_⟩
      have nD0 : ∀ D, H3 D = none → D ≠ r := fun D h => e3.rng.ne h
      refine ⟨_, _, rfl, rfl, _, rfl, by omega, by omega, fun D hD => ?_⟩
      have nD := nD0 D hD
      refine lc_range (lo := 0) (n := (1 + n).toNat) (fun j H' => ∃ zs : List (Addr × Pc), zs.length = j ∧ H' D = some (.lst (pzV zs)) ∧ (∀ z ∈ zs, H' z.1 = some (.tup (pcV z.2)) ∧ z.2.Ok) ∧ Ext r H3 H')
        ⟨[], rfl, upd_same, fun _ h => (nomatch h), (Ext.refl e3.rng).new hD⟩ ?_ ?_
      · rintro j H' hj ⟨zs, hzl, hD2, hzz, e4⟩
        refine ⟨rfl, _, rfl, r, rfl, e4.rng, fun H5 t q e5 ht0 ht qok => ?_⟩
        have hD5 := e5.keep _ _ nD hD2
        refine ⟨_, hD5, small (by unfold pzV; rw [List.length_map]; omega), zs ++ [(t, q)], by rw [List.length_append, hzl]; rfl, by rw [upd_same, pz_push], fun z hz => ?_, (e4.trans e5).put hD nD⟩
        rcases List.mem_append.mp hz with hz | hz
        · obtain ⟨h1, h2⟩ := hzz z hz
          refine ⟨?_, h2⟩
          have h3 := e5.tup e4.rng h1
          rw [upd_ne (ne_of h3 hD5 (fun z => by cases z))]
          exact h3
        · rw [List.mem_singleton.mp hz]
          refine ⟨?_, qok⟩
          rw [upd_ne (ne_of ht hD5 (fun z => by cases z))]
          exact ht
      rintro H4 ⟨zs, hzl, hD4, hzz, e4⟩
      have z0 : zs ≠ [] := fun z => by rw [z] at hzl; have : (0 : Nat) = (1 + n).toNat := hzl; omega
      have hz : Pz H4 zs := ⟨fun z h => (hzz z h).1, fun z h => (hzz z h).2, z0, by omega⟩
      have l4 : zs.length ≤ 4 := by omega
      have l0 := hz.len0
      have DH : H D = none := s12.free (e3.free hD)
      have E4 : Ext r H2 H4 := e3.trans e4
      clear hzz e4 e3 hD nD0 hzl n0 n1
      refine ⟨_, rfl, _, rfl, r, D, zs, rfl, E4.rng, nD, hD4, hz, l4, fun H5 e5 => ⟨_, rfl, iteF ?_⟩⟩
      have E5 := E4.trans e5
      have hD5 := e5.keep _ _ nD hD4
      have hz5 := hz.ext e5 E4.rng
      refine ⟨_, rfl, r, _, rfl, E5.rng, by decide, by decide, fun H6 c e6 _ _ => ?_⟩
      have E6 := E5.trans e6
      have hD6 := e6.keep _ _ nD hD5
      have hz6 := hz5.ext e6 E5.rng
      clear E4 E5 hD4 hD5 hz hz5 e5 e6
      refine ⟨rfl, _, rfl, ifEq (fun c0 => ?_) (fun c0 => ?_)⟩
      · have pl : (pzV zs).length = zs.length := List.length_map _
        refine ⟨_, rfl, _, rfl, D, _, rfl, .inl (SqL.of hD6), r, _, rfl, E6.rng, by omega, by omega, fun H7 di e7 d0 d1 => ?_⟩
        obtain ⟨d, rfl⟩ : ∃ d : Nat, di = (d : Int) := ⟨di.toNat, by omega⟩
        have dl : d < zs.length := by omega
        have E7 := E6.trans e7
        have hD7 := e7.keep _ _ nD hD6
        have hz7 := hz6.ext e7 E6.rng
        clear E6 hD6 hz6 e7
        refine ⟨_, rfl, by decide, by decide, ?_⟩
        refine for_range (lo := 0) (n := 2) (fun i2 σ H' => ∃ v5, σ = [some (.ref a), some (.int (0 + (i : Int))), some (.ref r), some (.ref D), some (.int (d : Int)), v5] ∧ TW r D H7 H' zs d) ⟨_, rfl, fun b o _ _ e => e, E7.rng, _, hD7, pl, fun j _ => rfl⟩ ?_ ?_
        · rintro i2 σ H8 hi2 ⟨v5, rfl, tw⟩
          obtain ⟨us, hD8, ul, ub⟩ := tw.us
          refine ⟨_, rfl, r, rfl, tw.rng, fun H9 v e9 od fr => ?_⟩
          have hD9 := e9.keep _ _ nD hD8
          refine ⟨_, rfl, _, rfl, D, _, (d : Int), d, rfl, rfl, hD9, ixn (by omega), ?_⟩
          have vD : v ≠ .ref D := fun z => by have := fr D z; rw [hD8] at this; cases this
          have od10 : Odd K (upd H9 D (.lst (us.set d v))) v := od.keep fun b o eb e => by
            rw [upd_ne (fun z => vD (by rw [eb, z]))]; exact e
          have hD10 : upd H9 D (.lst (us.set d v)) D = some (.lst (us.set d v)) := upd_same
          have kp : ∀ b o, b ≠ r → b ≠ D → H7 b = some o → upd H9 D (.lst (us.set d v)) b = some o := fun b o n1 n2 e => by
            rw [upd_ne n2]; exact e9.keep _ _ n1 (tw.keep b o n1 n2 e)
          have rg10 : Rng (upd H9 D (.lst (us.set d v))) r := by
            obtain ⟨x1, x2, x3, x4⟩ := e9.rng
            exact ⟨x1, x2, by rw [upd_ne (Ne.symm nD)]; exact x3, x4⟩
          generalize upd H9 D (.lst (us.set d v)) = H10 at *
          have sd : (us.set d v)[d]? = some v := List.getElem?_set_self (by omega)
          have sj : ∀ j, j < d → (us.set d v)[j]? = (pzV zs)[j]? := fun j hj => by rw [List.getElem?_set_ne (by omega)]; exact ub j hj
          have sl : (us.set d v).length = zs.length := by rw [List.length_set, ul]
          generalize us.set d v = ws at *
          clear ub ul hD9 hD8 e9 fr tw
          have pj : ∀ j, j < d → ∃ t q, ws[j]? = some (.ref t) ∧ H10 t = some (.tup (pcV q)) ∧ q.Ok := fun j hj => by
            have hj2 : j < zs.length := by omega
            refine ⟨zs[j].1, zs[j].2, ?_, ?_, hz7.ok _ (List.getElem_mem hj2)⟩
            · rw [sj j hj]
              unfold pzV
              rw [List.getElem?_map, List.getElem?_eq_getElem hj2]
              rfl
            · have h7 := hz7.at_ _ (List.getElem_mem hj2)
              exact kp _ _ (E7.rng.ne_tup h7) (ne_of h7 hD7 (fun z => by cases z)) h7
          have pw : PzW K H10 ws d := .inr ⟨v, sd, od10.wrg, pj⟩
          have pw2 : PzW K H10 (ws ++ [.non]) d := .inr ⟨v, by rw [List.getElem?_append_left (by omega)]; exact sd, od10.wrg, fun j hj => by rw [List.getElem?_append_left (by omega)]; exact pj j hj⟩
          refine ⟨_, rfl, _, rfl, D, ws, d, rfl, hD10, pw, by omega, by omega, fun H11 s11 => ⟨_, rfl, iteF ?_⟩⟩
          refine ⟨_, rfl, (by show 1 ≤ sizeLine; decide), fun L1 hL1 => ?_⟩
          have s12 := s11.trans (Same.upd (o := .lst [.non]) (Same.refl H11) hL1)
          refine ⟨D, L1, _, _, rfl, rfl, s12 _ _ hD10, upd_same, (by rw [List.length_singleton, sizeLine_eq]; omega), fun L2 hL2 => ?_⟩
          have s13 := s12.trans (Same.upd (o := .lst (ws ++ [.non])) (Same.refl _) hL2)
          refine ⟨_, rfl, L2, ws ++ [.non], d, rfl, upd_same, pw2.same s13, by rw [List.length_append, List.length_singleton]; omega, by omega, fun H14 s14 => ⟨_, rfl, iteF ?_⟩⟩
          have s104 := s13.trans s14
          exact ⟨_, rfl, fun b o n1 n2 e => s104 _ _ (kp b o n1 n2 e), rg10.same s104, ws, s104 _ _ hD10, sl, sj⟩
        · rintro σ H8 ⟨v5, rfl, tw⟩
          refine ⟨_, _, _, _, _, rfl, fun b o e => ?_⟩
          have nr := ne_of_none e hrH
          exact tw.keep b o nr (ne_of_none e DH) (E7.keep b o nr (s12 b o e))
      · exact ⟨_, _, _, _, _, rfl, fun b o e => E6.keep b o (ne_of_none e hrH) (s12 b o e)⟩
    rintro σ H1 ⟨v1, v2, v3, v4, v5, rfl, s1⟩
    refine ⟨(by show 0 ≤ sizeLine; decide), fun q0 hq0 => ?_⟩
    refine ⟨q0, [], 0, rfl, upd_same, .inl ⟨rfl, rfl⟩, by decide, by decide, fun H2 s2 => ⟨_, rfl, iteT ?_⟩⟩
    refine ⟨(by show 3 ≤ sizeLine; decide), fun t1 h1 => ?_⟩
    have u1 : upd H2 t1 (.tup [.int 60, .int 60, .int 12]) t1 = some (.tup (pcV ⟨60, 60, 12⟩)) := upd_same
    generalize upd H2 t1 (.tup [.int 60, .int 60, .int 12]) = H3 at *
    refine ⟨(by show 3 ≤ sizeLine; decide), fun t2 h2 => ?_⟩
    have u2 : upd H3 t2 (.tup [.int 1, .int 1, .int 1]) t2 = some (.tup (pcV ⟨1, 1, 1⟩)) := upd_same
    have u1 := Same.upd (o := .tup [.int 1, .int 1, .int 1]) (Same.refl H3) h2 _ _ u1
    generalize upd H3 t2 (.tup [.int 1, .int 1, .int 1]) = H4 at *
    refine ⟨(by show 3 ≤ sizeLine; decide), fun t3 h3 => ?_⟩
    have u3 : upd H4 t3 (.tup [.int 2, .int 2, .int 7]) t3 = some (.tup [.int 2, .int 2, .int 7]) := upd_same
    have u1 := Same.upd (o := .tup [.int 2, .int 2, .int 7]) (Same.refl H4) h3 _ _ u1
    have u2 := Same.upd (o := .tup [.int 2, .int 2, .int 7]) (Same.refl H4) h3 _ _ u2
    generalize upd H4 t3 (.tup [.int 2, .int 2, .int 7]) = H5 at *
    have pw : PzW K H5 [.ref t1, .ref t2, .ref t3, .non] 2 := by
      refine .inr ⟨.ref t3, rfl, .tup u3 (fun x hx => ?_) (by decide) (by decide +kernel), fun j hj => ?_⟩
      · have fl : ([.int 2, .int 2, .int 7] : List V).all flatV = true := rfl
        obtain ⟨n, _, h⟩ := flat_kd (K := K) (List.all_eq_true.mp fl x hx)
        exact ⟨n, h⟩
      · match j, hj with
        | 0, _ => exact ⟨t1, ⟨60, 60, 12⟩, rfl, u1, by decide, by decide, by decide, by decide, .inr (.inr (.inr (.inr (.inr rfl))))⟩
        | 1, _ => exact ⟨t2, ⟨1, 1, 1⟩, rfl, u2, by decide, by decide, by decide, by decide, .inl rfl⟩
    refine ⟨(by show 4 ≤ sizeLine; decide), fun q hq => ?_⟩
    exact ⟨q, [.ref t1, .ref t2, .ref t3, .non], 2, rfl, upd_same, pw.same (Same.upd (Same.refl _) hq), (by show 4 ≤ 5; decide), by decide, fun H6 _ => k H6⟩
end
end VK


namespace VK
open PySem PySem.Spec PyProof.Rows L2 VM
theorem all_mk {l : PySem.W.OpenLaw} {w : World} {K : PySem.W.Frag} {h : Heap} {mg : Str → Option Value} {fa : Addr} (X : K.In h) (G : h.Ns mainGlobals mg) (hfa : mg "law" = some (.ref fa))
    {C_DueError : Addr}
    {C_TooMany : Addr}
    {C_InvalidCurve : Addr}
    {C_TooLong : Addr}
    {C_InvalidPiece : Addr}
    {C_Curve : Addr}
    {f_TooLong_init : Addr} {od_TooLong_init an_TooLong_init : Option Addr} {sl_TooLong_init : Array (Option Value)} {oc_TooLong_init kV_TooLong_init dc_TooLong_init pm_TooLong_init cd_TooLong_init ct_TooLong_init : Value}
    {f_InvalidPiece_init : Addr} {od_InvalidPiece_init an_InvalidPiece_init : Option Addr} {sl_InvalidPiece_init : Array (Option Value)} {oc_InvalidPiece_init kV_InvalidPiece_init dc_InvalidPiece_init pm_InvalidPiece_init cd_InvalidPiece_init ct_InvalidPiece_init : Value}
    {f_is_integer : Addr} {od_is_integer an_is_integer : Option Addr} {sl_is_integer : Array (Option Value)} {oc_is_integer kV_is_integer dc_is_integer pm_is_integer cd_is_integer ct_is_integer : Value}
    {f_is_count : Addr} {od_is_count an_is_count : Option Addr} {sl_is_count : Array (Option Value)} {oc_is_count kV_is_count dc_is_count pm_is_count cd_is_count ct_is_count : Value}
    {f_is_count_to : Addr} {od_is_count_to an_is_count_to : Option Addr} {sl_is_count_to : Array (Option Value)} {oc_is_count_to kV_is_count_to dc_is_count_to pm_is_count_to cd_is_count_to ct_is_count_to : Value}
    {f_rounded_up : Addr} {od_rounded_up an_rounded_up : Option Addr} {sl_rounded_up : Array (Option Value)} {oc_rounded_up kV_rounded_up dc_rounded_up pm_rounded_up cd_rounded_up ct_rounded_up : Value}
    {f_value_at : Addr} {od_value_at an_value_at : Option Addr} {sl_value_at : Array (Option Value)} {oc_value_at kV_value_at dc_value_at pm_value_at cd_value_at ct_value_at : Value}
    {f_least_form : Addr} {od_least_form an_least_form : Option Addr} {sl_least_form : Array (Option Value)} {oc_least_form kV_least_form dc_least_form pm_least_form cd_least_form ct_least_form : Value}
    {f_least_period : Addr} {od_least_period an_least_period : Option Addr} {sl_least_period : Array (Option Value)} {oc_least_period kV_least_period dc_least_period pm_least_period cd_least_period ct_least_period : Value}
    {f_form_of_pieces : Addr} {od_form_of_pieces an_form_of_pieces : Option Addr} {sl_form_of_pieces : Array (Option Value)} {oc_form_of_pieces kV_form_of_pieces dc_form_of_pieces pm_form_of_pieces cd_form_of_pieces ct_form_of_pieces : Value}
    {f_line_at : Addr} {od_line_at an_line_at : Option Addr} {sl_line_at : Array (Option Value)} {oc_line_at kV_line_at dc_line_at pm_line_at cd_line_at ct_line_at : Value}
    {f_C_init : Addr} {od_C_init an_C_init : Option Addr} {sl_C_init : Array (Option Value)} {oc_C_init dc_C_init pm_C_init cd_C_init ct_C_init : Value}
    {D_C_init : Addr}
    {t_C_init_period : Tok}
    {t_C_init_gain : Tok}
    {f_C_of_pieces : Addr} {od_C_of_pieces an_C_of_pieces : Option Addr} {sl_C_of_pieces : Array (Option Value)} {oc_C_of_pieces kV_C_of_pieces dc_C_of_pieces pm_C_of_pieces cd_C_of_pieces ct_C_of_pieces : Value}
    {p_C_of_pieces : Addr} {r_C_of_pieces : List Value}
    {f_C_eq : Addr} {od_C_eq an_C_eq : Option Addr} {sl_C_eq : Array (Option Value)} {oc_C_eq kV_C_eq dc_C_eq pm_C_eq cd_C_eq ct_C_eq : Value}
    {f_C_repr : Addr} {od_C_repr an_C_repr : Option Addr} {sl_C_repr : Array (Option Value)} {oc_C_repr kV_C_repr dc_C_repr pm_C_repr cd_C_repr ct_C_repr : Value}
    {f_C_str : Addr} {od_C_str an_C_str : Option Addr} {sl_C_str : Array (Option Value)} {oc_C_str kV_C_str dc_C_str pm_C_str cd_C_str ct_C_str : Value}
    {f_C_period : Addr} {od_C_period an_C_period : Option Addr} {sl_C_period : Array (Option Value)} {oc_C_period kV_C_period dc_C_period pm_C_period cd_C_period ct_C_period : Value}
    {p_C_period : Addr} {r_C_period : List Value}
    {f_C_gain : Addr} {od_C_gain an_C_gain : Option Addr} {sl_C_gain : Array (Option Value)} {oc_C_gain kV_C_gain dc_C_gain pm_C_gain cd_C_gain ct_C_gain : Value}
    {p_C_gain : Addr} {r_C_gain : List Value}
    {f_C_first_values : Addr} {od_C_first_values an_C_first_values : Option Addr} {sl_C_first_values : Array (Option Value)} {oc_C_first_values kV_C_first_values dc_C_first_values pm_C_first_values cd_C_first_values ct_C_first_values : Value}
    {f_C_at : Addr} {od_C_at an_C_at : Option Addr} {sl_C_at : Array (Option Value)} {oc_C_at kV_C_at dc_C_at pm_C_at cd_C_at ct_C_at : Value}
    {f_C_find_break : Addr} {od_C_find_break an_C_find_break : Option Addr} {sl_C_find_break : Array (Option Value)} {oc_C_find_break kV_C_find_break dc_C_find_break pm_C_find_break cd_C_find_break ct_C_find_break : Value}
    {f_C_is_good : Addr} {od_C_is_good an_C_is_good : Option Addr} {sl_C_is_good : Array (Option Value)} {oc_C_is_good kV_C_is_good dc_C_is_good pm_C_is_good cd_C_is_good ct_C_is_good : Value}
    {f_first_break : Addr} {od_first_break an_first_break : Option Addr} {sl_first_break : Array (Option Value)} {oc_first_break kV_first_break dc_first_break pm_first_break cd_first_break ct_first_break : Value}
    {f_find_problem : Addr} {od_find_problem an_find_problem : Option Addr} {sl_find_problem : Array (Option Value)} {oc_find_problem kV_find_problem dc_find_problem pm_find_problem cd_find_problem ct_find_problem : Value}
    {f_find_wrong_piece : Addr} {od_find_wrong_piece an_find_wrong_piece : Option Addr} {sl_find_wrong_piece : Array (Option Value)} {oc_find_wrong_piece kV_find_wrong_piece dc_find_wrong_piece pm_find_wrong_piece cd_find_wrong_piece ct_find_wrong_piece : Value}
    {f_is_piece : Addr} {od_is_piece an_is_piece : Option Addr} {sl_is_piece : Array (Option Value)} {oc_is_piece kV_is_piece dc_is_piece pm_is_piece cd_is_piece ct_is_piece : Value}
    {f_l_rng : Addr} {od_l_rng an_l_rng : Option Addr} {sl_l_rng : Array (Option Value)} {oc_l_rng kV_l_rng dc_l_rng pm_l_rng cd_l_rng ct_l_rng : Value}
    {f_l_draw : Addr} {od_l_draw an_l_draw : Option Addr} {sl_l_draw : Array (Option Value)} {oc_l_draw kV_l_draw dc_l_draw pm_l_draw cd_l_draw ct_l_draw : Value}
    {f_l_choice : Addr} {od_l_choice an_l_choice : Option Addr} {sl_l_choice : Array (Option Value)} {oc_l_choice kV_l_choice dc_l_choice pm_l_choice cd_l_choice ct_l_choice : Value}
    {f_l_piece : Addr} {od_l_piece an_l_piece : Option Addr} {sl_l_piece : Array (Option Value)} {oc_l_piece kV_l_piece dc_l_piece pm_l_piece cd_l_piece ct_l_piece : Value}
    {f_l_line : Addr} {od_l_line an_l_line : Option Addr} {sl_l_line : Array (Option Value)} {oc_l_line kV_l_line dc_l_line pm_l_line cd_l_line ct_l_line : Value}
    {f_l_least : Addr} {od_l_least an_l_least : Option Addr} {sl_l_least : Array (Option Value)} {oc_l_least kV_l_least dc_l_least pm_l_least cd_l_least ct_l_least : Value}
    {f_l_form : Addr} {od_l_form an_l_form : Option Addr} {sl_l_form : Array (Option Value)} {oc_l_form kV_l_form dc_l_form pm_l_form cd_l_form ct_l_form : Value}
    {f_l_made : Addr} {od_l_made an_l_made : Option Addr} {sl_l_made : Array (Option Value)} {oc_l_made kV_l_made dc_l_made pm_l_made cd_l_made ct_l_made : Value}
    {f_l_shown : Addr} {od_l_shown an_l_shown : Option Addr} {sl_l_shown : Array (Option Value)} {oc_l_shown kV_l_shown dc_l_shown pm_l_shown cd_l_shown ct_l_shown : Value}
    {f_l_due : Addr} {od_l_due an_l_due : Option Addr} {sl_l_due : Array (Option Value)} {oc_l_due kV_l_due dc_l_due pm_l_due cd_l_due ct_l_due : Value}
    {f_l_is_too_long : Addr} {od_l_is_too_long an_l_is_too_long : Option Addr} {sl_l_is_too_long : Array (Option Value)} {oc_l_is_too_long kV_l_is_too_long dc_l_is_too_long pm_l_is_too_long cd_l_is_too_long ct_l_is_too_long : Value}
    {f_l_is_wrong : Addr} {od_l_is_wrong an_l_is_wrong : Option Addr} {sl_l_is_wrong : Array (Option Value)} {oc_l_is_wrong kV_l_is_wrong dc_l_is_wrong pm_l_is_wrong cd_l_is_wrong ct_l_is_wrong : Value}
    {f_l_pieces_right : Addr} {od_l_pieces_right an_l_pieces_right : Option Addr} {sl_l_pieces_right : Array (Option Value)} {oc_l_pieces_right kV_l_pieces_right dc_l_pieces_right pm_l_pieces_right cd_l_pieces_right ct_l_pieces_right : Value}
    {f_l_odd : Addr} {od_l_odd an_l_odd : Option Addr} {sl_l_odd : Array (Option Value)} {oc_l_odd kV_l_odd dc_l_odd pm_l_odd cd_l_odd ct_l_odd : Value}
    {f_law : Addr} {od_law an_law : Option Addr} {sl_law : Array (Option Value)} {oc_law kV_law dc_law pm_law cd_law ct_law : Value}
    {t_LONGEST_PERIOD : Tok}
    {t_MAX_IN_PIECE : Tok}
    {t_MAX_VALUE : Tok}
    {t_MAX_VALUES : Tok}
    {a_PERIODS : Addr} {uPERIODS0 uPERIODS1 uPERIODS2 uPERIODS3 uPERIODS4 uPERIODS5 : Tok} {od_PERIODS : Option Addr} {n_PERIODS : Nat} {sl_PERIODS : Array (Option Value)}
    (g_DueError : PySem.W.nsIn K mainGlobals "DueError" = some (some (.ref C_DueError)))
    (g_TooMany : PySem.W.nsIn K mainGlobals "TooMany" = some (some (.ref C_TooMany)))
    (g_InvalidCurve : PySem.W.nsIn K mainGlobals "InvalidCurve" = some (some (.ref C_InvalidCurve)))
    (g_TooLong : PySem.W.nsIn K mainGlobals "TooLong" = some (some (.ref C_TooLong)))
    (xi_TooLong : PySem.W.excInitIn K C_TooLong [.type "ArithmeticError", .type "Exception", .type "BaseException", .type "object"] "ArithmeticError.__new__" = true)
    (xo_TooLong : PySem.W.excOver K C_TooLong [.type "ArithmeticError", .type "Exception", .type "BaseException", .type "object"] = true)
    (hd_TooLong : PySem.W.hasDictIn K C_TooLong = true)
    (sa_TooLong : PySem.W.findIn K (.ref C_TooLong) "__setattr__" = some (some (.builtin "object.__setattr__")))
    (xe_TooLong : PySem.W.subIn K (.ref C_TooLong) (.type "BaseException") = some true)
    (ty_TooLong : PySem.W.typeIn K (.ref C_TooLong) = some (.type "type"))
    (kc_TooLong : PySem.W.keepIn K (.ref C_TooLong) = true)
    (ga_TooLong : PySem.W.findIn K (.ref C_TooLong) "__getattribute__" = some (some (.builtin "BaseException.__getattribute__")))
    (gt_TooLong : PySem.W.findIn K (.ref C_TooLong) "__getattr__" = some none)
    (cc_TooLong : PySem.W.findIn K (.ref C_TooLong) "__class__" = some (some (.builtin "object.__class__")))
    (mr_TooLong : PySem.W.mroIn K C_TooLong (.type "object") = some true)
    (xm_TooLong : PySem.W.subIn K (.ref C_TooLong) (.ref C_TooLong) = some true)
    (n_TooLong_limit : PySem.W.findIn K (.ref C_TooLong) "limit" = some none)
    (q_gn : PySem.W.specialIn K (.builtin "object.__class__") "__get__" = some (some (.builtin "getset_descriptor.__get__")))
    (q_tk : PySem.W.takesIn K (.builtin "object.__class__") = some true)
    (g_InvalidPiece : PySem.W.nsIn K mainGlobals "InvalidPiece" = some (some (.ref C_InvalidPiece)))
    (xi_InvalidPiece : PySem.W.excInitIn K C_InvalidPiece [.type "ValueError", .type "Exception", .type "BaseException", .type "object"] "ValueError.__new__" = true)
    (xo_InvalidPiece : PySem.W.excOver K C_InvalidPiece [.type "ValueError", .type "Exception", .type "BaseException", .type "object"] = true)
    (hd_InvalidPiece : PySem.W.hasDictIn K C_InvalidPiece = true)
    (sa_InvalidPiece : PySem.W.findIn K (.ref C_InvalidPiece) "__setattr__" = some (some (.builtin "object.__setattr__")))
    (xe_InvalidPiece : PySem.W.subIn K (.ref C_InvalidPiece) (.type "BaseException") = some true)
    (ty_InvalidPiece : PySem.W.typeIn K (.ref C_InvalidPiece) = some (.type "type"))
    (kc_InvalidPiece : PySem.W.keepIn K (.ref C_InvalidPiece) = true)
    (ga_InvalidPiece : PySem.W.findIn K (.ref C_InvalidPiece) "__getattribute__" = some (some (.builtin "BaseException.__getattribute__")))
    (gt_InvalidPiece : PySem.W.findIn K (.ref C_InvalidPiece) "__getattr__" = some none)
    (cc_InvalidPiece : PySem.W.findIn K (.ref C_InvalidPiece) "__class__" = some (some (.builtin "object.__class__")))
    (mr_InvalidPiece : PySem.W.mroIn K C_InvalidPiece (.type "object") = some true)
    (xm_InvalidPiece : PySem.W.subIn K (.ref C_InvalidPiece) (.ref C_InvalidPiece) = some true)
    (n_InvalidPiece_position : PySem.W.findIn K (.ref C_InvalidPiece) "position" = some none)
    (kt_InvalidPiece_DueError : PySem.W.kitOne K (.ref C_InvalidPiece) (.ref C_DueError) = some true)
    (kt_InvalidPiece_ValueError : PySem.W.kitOne K (.ref C_InvalidPiece) (.type "ValueError") = some true)
    (kt_InvalidPiece_InvalidCurve : PySem.W.kitOne K (.ref C_InvalidPiece) (.ref C_InvalidCurve) = some false)
    (kt_TooLong_ArithmeticError : PySem.W.kitOne K (.ref C_TooLong) (.type "ArithmeticError") = some true)
    (kt_TooLong_DueError_TooMany : PySem.W.kitAny K (.ref C_TooLong) [.ref C_DueError, .ref C_TooMany] = some false)
    (g_Curve : PySem.W.nsIn K mainGlobals "Curve" = some (some (.ref C_Curve)))
    (pg_Curve : PySem.W.plainGet K C_Curve Str.empty = true)
    (hd_Curve : PySem.W.hasDictIn K C_Curve = true)
    (po_Curve : PySem.W.plainOver K C_Curve = true)
    (sa_Curve : PySem.W.findIn K (.ref C_Curve) "__setattr__" = some (some (.builtin "object.__setattr__")))
    (mk_Curve : PySem.W.makesIn K C_Curve = true)
    (kc_Curve : PySem.W.keepIn K (.ref C_Curve) = true)
    (ic_Curve : PySem.W.isClsIn K C_Curve = true)
    (it_Curve : PySem.W.typeIn K (.ref C_Curve) = some (.type "type"))
    (ig_Curve : PySem.W.findIn K (.ref C_Curve) "__class__" = some (some (.builtin "object.__class__")))
    (io_Curve : PySem.W.mroIn K C_Curve (.type "object") = some true)
    (ie_Curve : PySem.W.findIn K (.ref C_Curve) "__ne__" = some (some (.builtin "object.__ne__")))
    (i_gn : PySem.W.specialIn K (.builtin "object.__class__") "__get__" = some (some (.builtin "getset_descriptor.__get__")))
    (i_tk : PySem.W.takesIn K (.builtin "object.__class__") = some true)
    (n_Curve_values : PySem.W.findIn K (.ref C_Curve) "_values" = some none)
    (n_Curve_period : PySem.W.findIn K (.ref C_Curve) "_period" = some none)
    (n_Curve_gain : PySem.W.findIn K (.ref C_Curve) "_gain" = some none)
    (n_Curve_was_searched : PySem.W.findIn K (.ref C_Curve) "_was_searched" = some none)
    (n_Curve_break : PySem.W.findIn K (.ref C_Curve) "_break" = some none)
    (a_TooLong_init : PySem.W.findIn K (.ref C_TooLong) "__init__" = some (some (.ref f_TooLong_init)))
    (i_TooLong_init : PySem.W.isFn K (.ref f_TooLong_init) = true)
    (l_TooLong_init : K.lookup f_TooLong_init = some ⟨oc_TooLong_init, od_TooLong_init, .func (PySem.W.fnOf "__init__" "TooLong.__init__" (defArgs s_TooLong_init) (defBody s_TooLong_init) (defScope s_TooLong_init) .none kV_TooLong_init dc_TooLong_init pm_TooLong_init an_TooLong_init cd_TooLong_init ct_TooLong_init), sl_TooLong_init⟩)
    (c_TooLong_init : PySem.W.codeIn K cd_TooLong_init "TooLong.__init__" = true)
    (k_TooLong_init : PySem.W.keepIn K (.ref f_TooLong_init) = true)
    (tI_TooLong : PySem.W.typeIn K (.ref f_TooLong_init) = some (.type "function"))
    (a_InvalidPiece_init : PySem.W.findIn K (.ref C_InvalidPiece) "__init__" = some (some (.ref f_InvalidPiece_init)))
    (i_InvalidPiece_init : PySem.W.isFn K (.ref f_InvalidPiece_init) = true)
    (l_InvalidPiece_init : K.lookup f_InvalidPiece_init = some ⟨oc_InvalidPiece_init, od_InvalidPiece_init, .func (PySem.W.fnOf "__init__" "InvalidPiece.__init__" (defArgs s_InvalidPiece_init) (defBody s_InvalidPiece_init) (defScope s_InvalidPiece_init) .none kV_InvalidPiece_init dc_InvalidPiece_init pm_InvalidPiece_init an_InvalidPiece_init cd_InvalidPiece_init ct_InvalidPiece_init), sl_InvalidPiece_init⟩)
    (c_InvalidPiece_init : PySem.W.codeIn K cd_InvalidPiece_init "InvalidPiece.__init__" = true)
    (k_InvalidPiece_init : PySem.W.keepIn K (.ref f_InvalidPiece_init) = true)
    (tI_InvalidPiece : PySem.W.typeIn K (.ref f_InvalidPiece_init) = some (.type "function"))
    (a_is_integer : PySem.W.nsIn K mainGlobals "is_integer" = some (some (.ref f_is_integer)))
    (l_is_integer : K.lookup f_is_integer = some ⟨oc_is_integer, od_is_integer, .func (PySem.W.fnOf "is_integer" "is_integer" (defArgs s_is_integer) (defBody s_is_integer) (defScope s_is_integer) .none kV_is_integer dc_is_integer pm_is_integer an_is_integer cd_is_integer ct_is_integer), sl_is_integer⟩)
    (c_is_integer : PySem.W.codeIn K cd_is_integer "is_integer" = true)
    (k_is_integer : PySem.W.keepIn K (.ref f_is_integer) = true)
    (a_is_count : PySem.W.nsIn K mainGlobals "is_count" = some (some (.ref f_is_count)))
    (l_is_count : K.lookup f_is_count = some ⟨oc_is_count, od_is_count, .func (PySem.W.fnOf "is_count" "is_count" (defArgs s_is_count) (defBody s_is_count) (defScope s_is_count) .none kV_is_count dc_is_count pm_is_count an_is_count cd_is_count ct_is_count), sl_is_count⟩)
    (c_is_count : PySem.W.codeIn K cd_is_count "is_count" = true)
    (k_is_count : PySem.W.keepIn K (.ref f_is_count) = true)
    (a_is_count_to : PySem.W.nsIn K mainGlobals "is_count_to" = some (some (.ref f_is_count_to)))
    (l_is_count_to : K.lookup f_is_count_to = some ⟨oc_is_count_to, od_is_count_to, .func (PySem.W.fnOf "is_count_to" "is_count_to" (defArgs s_is_count_to) (defBody s_is_count_to) (defScope s_is_count_to) .none kV_is_count_to dc_is_count_to pm_is_count_to an_is_count_to cd_is_count_to ct_is_count_to), sl_is_count_to⟩)
    (c_is_count_to : PySem.W.codeIn K cd_is_count_to "is_count_to" = true)
    (k_is_count_to : PySem.W.keepIn K (.ref f_is_count_to) = true)
    (a_rounded_up : PySem.W.nsIn K mainGlobals "rounded_up" = some (some (.ref f_rounded_up)))
    (l_rounded_up : K.lookup f_rounded_up = some ⟨oc_rounded_up, od_rounded_up, .func (PySem.W.fnOf "rounded_up" "rounded_up" (defArgs s_rounded_up) (defBody s_rounded_up) (defScope s_rounded_up) .none kV_rounded_up dc_rounded_up pm_rounded_up an_rounded_up cd_rounded_up ct_rounded_up), sl_rounded_up⟩)
    (c_rounded_up : PySem.W.codeIn K cd_rounded_up "rounded_up" = true)
    (k_rounded_up : PySem.W.keepIn K (.ref f_rounded_up) = true)
    (a_value_at : PySem.W.nsIn K mainGlobals "value_at" = some (some (.ref f_value_at)))
    (l_value_at : K.lookup f_value_at = some ⟨oc_value_at, od_value_at, .func (PySem.W.fnOf "value_at" "value_at" (defArgs s_value_at) (defBody s_value_at) (defScope s_value_at) .none kV_value_at dc_value_at pm_value_at an_value_at cd_value_at ct_value_at), sl_value_at⟩)
    (c_value_at : PySem.W.codeIn K cd_value_at "value_at" = true)
    (k_value_at : PySem.W.keepIn K (.ref f_value_at) = true)
    (a_least_form : PySem.W.nsIn K mainGlobals "least_form" = some (some (.ref f_least_form)))
    (l_least_form : K.lookup f_least_form = some ⟨oc_least_form, od_least_form, .func (PySem.W.fnOf "least_form" "least_form" (defArgs s_least_form) (defBody s_least_form) (defScope s_least_form) .none kV_least_form dc_least_form pm_least_form an_least_form cd_least_form ct_least_form), sl_least_form⟩)
    (c_least_form : PySem.W.codeIn K cd_least_form "least_form" = true)
    (k_least_form : PySem.W.keepIn K (.ref f_least_form) = true)
    (a_least_period : PySem.W.nsIn K mainGlobals "least_period" = some (some (.ref f_least_period)))
    (l_least_period : K.lookup f_least_period = some ⟨oc_least_period, od_least_period, .func (PySem.W.fnOf "least_period" "least_period" (defArgs s_least_period) (defBody s_least_period) (defScope s_least_period) .none kV_least_period dc_least_period pm_least_period an_least_period cd_least_period ct_least_period), sl_least_period⟩)
    (c_least_period : PySem.W.codeIn K cd_least_period "least_period" = true)
    (k_least_period : PySem.W.keepIn K (.ref f_least_period) = true)
    (a_form_of_pieces : PySem.W.nsIn K mainGlobals "form_of_pieces" = some (some (.ref f_form_of_pieces)))
    (l_form_of_pieces : K.lookup f_form_of_pieces = some ⟨oc_form_of_pieces, od_form_of_pieces, .func (PySem.W.fnOf "form_of_pieces" "form_of_pieces" (defArgs s_form_of_pieces) (defBody s_form_of_pieces) (defScope s_form_of_pieces) .none kV_form_of_pieces dc_form_of_pieces pm_form_of_pieces an_form_of_pieces cd_form_of_pieces ct_form_of_pieces), sl_form_of_pieces⟩)
    (c_form_of_pieces : PySem.W.codeIn K cd_form_of_pieces "form_of_pieces" = true)
    (k_form_of_pieces : PySem.W.keepIn K (.ref f_form_of_pieces) = true)
    (a_line_at : PySem.W.nsIn K mainGlobals "line_at" = some (some (.ref f_line_at)))
    (l_line_at : K.lookup f_line_at = some ⟨oc_line_at, od_line_at, .func (PySem.W.fnOf "line_at" "line_at" (defArgs s_line_at) (defBody s_line_at) (defScope s_line_at) .none kV_line_at dc_line_at pm_line_at an_line_at cd_line_at ct_line_at), sl_line_at⟩)
    (c_line_at : PySem.W.codeIn K cd_line_at "line_at" = true)
    (k_line_at : PySem.W.keepIn K (.ref f_line_at) = true)
    (a_C_init : PySem.W.findIn K (.ref C_Curve) "__init__" = some (some (.ref f_C_init)))
    (i_C_init : PySem.W.isFn K (.ref f_C_init) = true)
    (l_C_init : K.lookup f_C_init = some ⟨oc_C_init, od_C_init, .func (PySem.W.fnOf "__init__" "Curve.__init__" (defArgs s_C_init) (defBody s_C_init) (defScope s_C_init) .none (.ref D_C_init) dc_C_init pm_C_init an_C_init cd_C_init ct_C_init), sl_C_init⟩)
    (c_C_init : PySem.W.codeIn K cd_C_init "Curve.__init__" = true)
    (k_C_init : PySem.W.keepIn K (.ref f_C_init) = true)
    (d_C_init_period : PySem.W.nsIn K D_C_init "period" = some (some (.int 1 t_C_init_period)))
    (d_C_init_gain : PySem.W.nsIn K D_C_init "gain" = some (some (.int 0 t_C_init_gain)))
    (a_C_of_pieces : PySem.W.findCls K (.ref C_Curve) (.type "type") "of_pieces" = some (.get (.builtin "classmethod.__get__") (.ref p_C_of_pieces) .none (.ref C_Curve)))
    (rc_C_of_pieces : PySem.W.recIn K p_C_of_pieces "classmethod" = some (.ref f_C_of_pieces :: r_C_of_pieces))
    (fi_C_of_pieces : PySem.W.fnIn K f_C_of_pieces = true)
    (rr_C_of_pieces : PySem.W.readsIn K C_Curve (.type "type") = true)
    (rg_C_of_pieces : PySem.W.specialIn K (.ref C_Curve) "__getattribute__" = some (some (.builtin "type.__getattribute__")))
    (l_C_of_pieces : K.lookup f_C_of_pieces = some ⟨oc_C_of_pieces, od_C_of_pieces, .func (PySem.W.fnOf "of_pieces" "Curve.of_pieces" (defArgs s_C_of_pieces) (defBody s_C_of_pieces) (defScope s_C_of_pieces) .none kV_C_of_pieces dc_C_of_pieces pm_C_of_pieces an_C_of_pieces cd_C_of_pieces ct_C_of_pieces), sl_C_of_pieces⟩)
    (c_C_of_pieces : PySem.W.codeIn K cd_C_of_pieces "Curve.of_pieces" = true)
    (k_C_of_pieces : PySem.W.keepIn K (.ref f_C_of_pieces) = true)
    (a_C_eq : PySem.W.findIn K (.ref C_Curve) "__eq__" = some (some (.ref f_C_eq)))
    (i_C_eq : PySem.W.isFn K (.ref f_C_eq) = true)
    (l_C_eq : K.lookup f_C_eq = some ⟨oc_C_eq, od_C_eq, .func (PySem.W.fnOf "__eq__" "Curve.__eq__" (defArgs s_C_eq) (defBody s_C_eq) (defScope s_C_eq) .none kV_C_eq dc_C_eq pm_C_eq an_C_eq cd_C_eq ct_C_eq), sl_C_eq⟩)
    (c_C_eq : PySem.W.codeIn K cd_C_eq "Curve.__eq__" = true)
    (k_C_eq : PySem.W.keepIn K (.ref f_C_eq) = true)
    (a_C_repr : PySem.W.findIn K (.ref C_Curve) "__repr__" = some (some (.ref f_C_repr)))
    (i_C_repr : PySem.W.isFn K (.ref f_C_repr) = true)
    (l_C_repr : K.lookup f_C_repr = some ⟨oc_C_repr, od_C_repr, .func (PySem.W.fnOf "__repr__" "Curve.__repr__" (defArgs s_C_repr) (defBody s_C_repr) (defScope s_C_repr) .none kV_C_repr dc_C_repr pm_C_repr an_C_repr cd_C_repr ct_C_repr), sl_C_repr⟩)
    (c_C_repr : PySem.W.codeIn K cd_C_repr "Curve.__repr__" = true)
    (k_C_repr : PySem.W.keepIn K (.ref f_C_repr) = true)
    (a_C_str : PySem.W.findIn K (.ref C_Curve) "__str__" = some (some (.ref f_C_str)))
    (i_C_str : PySem.W.isFn K (.ref f_C_str) = true)
    (l_C_str : K.lookup f_C_str = some ⟨oc_C_str, od_C_str, .func (PySem.W.fnOf "__str__" "Curve.__str__" (defArgs s_C_str) (defBody s_C_str) (defScope s_C_str) .none kV_C_str dc_C_str pm_C_str an_C_str cd_C_str ct_C_str), sl_C_str⟩)
    (c_C_str : PySem.W.codeIn K cd_C_str "Curve.__str__" = true)
    (k_C_str : PySem.W.keepIn K (.ref f_C_str) = true)
    (a_C_period : PySem.W.findIn K (.ref C_Curve) "period" = some (some (.ref p_C_period)))
    (pg_C_period : PySem.W.specialIn K (.ref p_C_period) "__get__" = some (some (.builtin "property.__get__")))
    (pt_C_period : PySem.W.takesIn K (.ref p_C_period) = some true)
    (pr_C_period : PySem.W.recIn K p_C_period "property" = some (.ref f_C_period :: r_C_period))
    (l_C_period : K.lookup f_C_period = some ⟨oc_C_period, od_C_period, .func (PySem.W.fnOf "period" "Curve.period" (defArgs s_C_period) (defBody s_C_period) (defScope s_C_period) .none kV_C_period dc_C_period pm_C_period an_C_period cd_C_period ct_C_period), sl_C_period⟩)
    (c_C_period : PySem.W.codeIn K cd_C_period "Curve.period" = true)
    (k_C_period : PySem.W.keepIn K (.ref f_C_period) = true)
    (a_C_gain : PySem.W.findIn K (.ref C_Curve) "gain" = some (some (.ref p_C_gain)))
    (pg_C_gain : PySem.W.specialIn K (.ref p_C_gain) "__get__" = some (some (.builtin "property.__get__")))
    (pt_C_gain : PySem.W.takesIn K (.ref p_C_gain) = some true)
    (pr_C_gain : PySem.W.recIn K p_C_gain "property" = some (.ref f_C_gain :: r_C_gain))
    (l_C_gain : K.lookup f_C_gain = some ⟨oc_C_gain, od_C_gain, .func (PySem.W.fnOf "gain" "Curve.gain" (defArgs s_C_gain) (defBody s_C_gain) (defScope s_C_gain) .none kV_C_gain dc_C_gain pm_C_gain an_C_gain cd_C_gain ct_C_gain), sl_C_gain⟩)
    (c_C_gain : PySem.W.codeIn K cd_C_gain "Curve.gain" = true)
    (k_C_gain : PySem.W.keepIn K (.ref f_C_gain) = true)
    (a_C_first_values : PySem.W.findIn K (.ref C_Curve) "first_values" = some (some (.ref f_C_first_values)))
    (i_C_first_values : PySem.W.isFn K (.ref f_C_first_values) = true)
    (l_C_first_values : K.lookup f_C_first_values = some ⟨oc_C_first_values, od_C_first_values, .func (PySem.W.fnOf "first_values" "Curve.first_values" (defArgs s_C_first_values) (defBody s_C_first_values) (defScope s_C_first_values) .none kV_C_first_values dc_C_first_values pm_C_first_values an_C_first_values cd_C_first_values ct_C_first_values), sl_C_first_values⟩)
    (c_C_first_values : PySem.W.codeIn K cd_C_first_values "Curve.first_values" = true)
    (k_C_first_values : PySem.W.keepIn K (.ref f_C_first_values) = true)
    (a_C_at : PySem.W.findIn K (.ref C_Curve) "at" = some (some (.ref f_C_at)))
    (i_C_at : PySem.W.isFn K (.ref f_C_at) = true)
    (l_C_at : K.lookup f_C_at = some ⟨oc_C_at, od_C_at, .func (PySem.W.fnOf "at" "Curve.at" (defArgs s_C_at) (defBody s_C_at) (defScope s_C_at) .none kV_C_at dc_C_at pm_C_at an_C_at cd_C_at ct_C_at), sl_C_at⟩)
    (c_C_at : PySem.W.codeIn K cd_C_at "Curve.at" = true)
    (k_C_at : PySem.W.keepIn K (.ref f_C_at) = true)
    (a_C_find_break : PySem.W.findIn K (.ref C_Curve) "find_break" = some (some (.ref f_C_find_break)))
    (i_C_find_break : PySem.W.isFn K (.ref f_C_find_break) = true)
    (l_C_find_break : K.lookup f_C_find_break = some ⟨oc_C_find_break, od_C_find_break, .func (PySem.W.fnOf "find_break" "Curve.find_break" (defArgs s_C_find_break) (defBody s_C_find_break) (defScope s_C_find_break) .none kV_C_find_break dc_C_find_break pm_C_find_break an_C_find_break cd_C_find_break ct_C_find_break), sl_C_find_break⟩)
    (c_C_find_break : PySem.W.codeIn K cd_C_find_break "Curve.find_break" = true)
    (k_C_find_break : PySem.W.keepIn K (.ref f_C_find_break) = true)
    (a_C_is_good : PySem.W.findIn K (.ref C_Curve) "is_good" = some (some (.ref f_C_is_good)))
    (i_C_is_good : PySem.W.isFn K (.ref f_C_is_good) = true)
    (l_C_is_good : K.lookup f_C_is_good = some ⟨oc_C_is_good, od_C_is_good, .func (PySem.W.fnOf "is_good" "Curve.is_good" (defArgs s_C_is_good) (defBody s_C_is_good) (defScope s_C_is_good) .none kV_C_is_good dc_C_is_good pm_C_is_good an_C_is_good cd_C_is_good ct_C_is_good), sl_C_is_good⟩)
    (c_C_is_good : PySem.W.codeIn K cd_C_is_good "Curve.is_good" = true)
    (k_C_is_good : PySem.W.keepIn K (.ref f_C_is_good) = true)
    (a_first_break : PySem.W.nsIn K mainGlobals "first_break" = some (some (.ref f_first_break)))
    (l_first_break : K.lookup f_first_break = some ⟨oc_first_break, od_first_break, .func (PySem.W.fnOf "first_break" "first_break" (defArgs s_first_break) (defBody s_first_break) (defScope s_first_break) .none kV_first_break dc_first_break pm_first_break an_first_break cd_first_break ct_first_break), sl_first_break⟩)
    (c_first_break : PySem.W.codeIn K cd_first_break "first_break" = true)
    (k_first_break : PySem.W.keepIn K (.ref f_first_break) = true)
    (a_find_problem : PySem.W.nsIn K mainGlobals "find_problem" = some (some (.ref f_find_problem)))
    (l_find_problem : K.lookup f_find_problem = some ⟨oc_find_problem, od_find_problem, .func (PySem.W.fnOf "find_problem" "find_problem" (defArgs s_find_problem) (defBody s_find_problem) (defScope s_find_problem) .none kV_find_problem dc_find_problem pm_find_problem an_find_problem cd_find_problem ct_find_problem), sl_find_problem⟩)
    (c_find_problem : PySem.W.codeIn K cd_find_problem "find_problem" = true)
    (k_find_problem : PySem.W.keepIn K (.ref f_find_problem) = true)
    (a_find_wrong_piece : PySem.W.nsIn K mainGlobals "find_wrong_piece" = some (some (.ref f_find_wrong_piece)))
    (l_find_wrong_piece : K.lookup f_find_wrong_piece = some ⟨oc_find_wrong_piece, od_find_wrong_piece, .func (PySem.W.fnOf "find_wrong_piece" "find_wrong_piece" (defArgs s_find_wrong_piece) (defBody s_find_wrong_piece) (defScope s_find_wrong_piece) .none kV_find_wrong_piece dc_find_wrong_piece pm_find_wrong_piece an_find_wrong_piece cd_find_wrong_piece ct_find_wrong_piece), sl_find_wrong_piece⟩)
    (c_find_wrong_piece : PySem.W.codeIn K cd_find_wrong_piece "find_wrong_piece" = true)
    (k_find_wrong_piece : PySem.W.keepIn K (.ref f_find_wrong_piece) = true)
    (a_is_piece : PySem.W.nsIn K mainGlobals "is_piece" = some (some (.ref f_is_piece)))
    (l_is_piece : K.lookup f_is_piece = some ⟨oc_is_piece, od_is_piece, .func (PySem.W.fnOf "is_piece" "is_piece" (defArgs s_is_piece) (defBody s_is_piece) (defScope s_is_piece) .none kV_is_piece dc_is_piece pm_is_piece an_is_piece cd_is_piece ct_is_piece), sl_is_piece⟩)
    (c_is_piece : PySem.W.codeIn K cd_is_piece "is_piece" = true)
    (k_is_piece : PySem.W.keepIn K (.ref f_is_piece) = true)
    (a_l_rng : PySem.W.nsIn K mainGlobals "_law_rng" = some (some (.ref f_l_rng)))
    (l_l_rng : K.lookup f_l_rng = some ⟨oc_l_rng, od_l_rng, .func (PySem.W.fnOf "_law_rng" "_law_rng" (defArgs s_l_rng) (defBody s_l_rng) (defScope s_l_rng) .none kV_l_rng dc_l_rng pm_l_rng an_l_rng cd_l_rng ct_l_rng), sl_l_rng⟩)
    (c_l_rng : PySem.W.codeIn K cd_l_rng "_law_rng" = true)
    (k_l_rng : PySem.W.keepIn K (.ref f_l_rng) = true)
    (a_l_draw : PySem.W.nsIn K mainGlobals "_law_draw" = some (some (.ref f_l_draw)))
    (l_l_draw : K.lookup f_l_draw = some ⟨oc_l_draw, od_l_draw, .func (PySem.W.fnOf "_law_draw" "_law_draw" (defArgs s_l_draw) (defBody s_l_draw) (defScope s_l_draw) .none kV_l_draw dc_l_draw pm_l_draw an_l_draw cd_l_draw ct_l_draw), sl_l_draw⟩)
    (c_l_draw : PySem.W.codeIn K cd_l_draw "_law_draw" = true)
    (k_l_draw : PySem.W.keepIn K (.ref f_l_draw) = true)
    (a_l_choice : PySem.W.nsIn K mainGlobals "_law_choice" = some (some (.ref f_l_choice)))
    (l_l_choice : K.lookup f_l_choice = some ⟨oc_l_choice, od_l_choice, .func (PySem.W.fnOf "_law_choice" "_law_choice" (defArgs s_l_choice) (defBody s_l_choice) (defScope s_l_choice) .none kV_l_choice dc_l_choice pm_l_choice an_l_choice cd_l_choice ct_l_choice), sl_l_choice⟩)
    (c_l_choice : PySem.W.codeIn K cd_l_choice "_law_choice" = true)
    (k_l_choice : PySem.W.keepIn K (.ref f_l_choice) = true)
    (a_l_piece : PySem.W.nsIn K mainGlobals "_law_piece" = some (some (.ref f_l_piece)))
    (l_l_piece : K.lookup f_l_piece = some ⟨oc_l_piece, od_l_piece, .func (PySem.W.fnOf "_law_piece" "_law_piece" (defArgs s_l_piece) (defBody s_l_piece) (defScope s_l_piece) .none kV_l_piece dc_l_piece pm_l_piece an_l_piece cd_l_piece ct_l_piece), sl_l_piece⟩)
    (c_l_piece : PySem.W.codeIn K cd_l_piece "_law_piece" = true)
    (k_l_piece : PySem.W.keepIn K (.ref f_l_piece) = true)
    (a_l_line : PySem.W.nsIn K mainGlobals "_law_line" = some (some (.ref f_l_line)))
    (l_l_line : K.lookup f_l_line = some ⟨oc_l_line, od_l_line, .func (PySem.W.fnOf "_law_line" "_law_line" (defArgs s_l_line) (defBody s_l_line) (defScope s_l_line) .none kV_l_line dc_l_line pm_l_line an_l_line cd_l_line ct_l_line), sl_l_line⟩)
    (c_l_line : PySem.W.codeIn K cd_l_line "_law_line" = true)
    (k_l_line : PySem.W.keepIn K (.ref f_l_line) = true)
    (a_l_least : PySem.W.nsIn K mainGlobals "_law_least" = some (some (.ref f_l_least)))
    (l_l_least : K.lookup f_l_least = some ⟨oc_l_least, od_l_least, .func (PySem.W.fnOf "_law_least" "_law_least" (defArgs s_l_least) (defBody s_l_least) (defScope s_l_least) .none kV_l_least dc_l_least pm_l_least an_l_least cd_l_least ct_l_least), sl_l_least⟩)
    (c_l_least : PySem.W.codeIn K cd_l_least "_law_least" = true)
    (k_l_least : PySem.W.keepIn K (.ref f_l_least) = true)
    (a_l_form : PySem.W.nsIn K mainGlobals "_law_form" = some (some (.ref f_l_form)))
    (l_l_form : K.lookup f_l_form = some ⟨oc_l_form, od_l_form, .func (PySem.W.fnOf "_law_form" "_law_form" (defArgs s_l_form) (defBody s_l_form) (defScope s_l_form) .none kV_l_form dc_l_form pm_l_form an_l_form cd_l_form ct_l_form), sl_l_form⟩)
    (c_l_form : PySem.W.codeIn K cd_l_form "_law_form" = true)
    (k_l_form : PySem.W.keepIn K (.ref f_l_form) = true)
    (a_l_made : PySem.W.nsIn K mainGlobals "_law_made" = some (some (.ref f_l_made)))
    (l_l_made : K.lookup f_l_made = some ⟨oc_l_made, od_l_made, .func (PySem.W.fnOf "_law_made" "_law_made" (defArgs s_l_made) (defBody s_l_made) (defScope s_l_made) .none kV_l_made dc_l_made pm_l_made an_l_made cd_l_made ct_l_made), sl_l_made⟩)
    (c_l_made : PySem.W.codeIn K cd_l_made "_law_made" = true)
    (k_l_made : PySem.W.keepIn K (.ref f_l_made) = true)
    (a_l_shown : PySem.W.nsIn K mainGlobals "_law_shown" = some (some (.ref f_l_shown)))
    (l_l_shown : K.lookup f_l_shown = some ⟨oc_l_shown, od_l_shown, .func (PySem.W.fnOf "_law_shown" "_law_shown" (defArgs s_l_shown) (defBody s_l_shown) (defScope s_l_shown) .none kV_l_shown dc_l_shown pm_l_shown an_l_shown cd_l_shown ct_l_shown), sl_l_shown⟩)
    (c_l_shown : PySem.W.codeIn K cd_l_shown "_law_shown" = true)
    (k_l_shown : PySem.W.keepIn K (.ref f_l_shown) = true)
    (a_l_due : PySem.W.nsIn K mainGlobals "_law_due" = some (some (.ref f_l_due)))
    (l_l_due : K.lookup f_l_due = some ⟨oc_l_due, od_l_due, .func (PySem.W.fnOf "_law_due" "_law_due" (defArgs s_l_due) (defBody s_l_due) (defScope s_l_due) .none kV_l_due dc_l_due pm_l_due an_l_due cd_l_due ct_l_due), sl_l_due⟩)
    (c_l_due : PySem.W.codeIn K cd_l_due "_law_due" = true)
    (k_l_due : PySem.W.keepIn K (.ref f_l_due) = true)
    (a_l_is_too_long : PySem.W.nsIn K mainGlobals "_law_is_too_long" = some (some (.ref f_l_is_too_long)))
    (l_l_is_too_long : K.lookup f_l_is_too_long = some ⟨oc_l_is_too_long, od_l_is_too_long, .func (PySem.W.fnOf "_law_is_too_long" "_law_is_too_long" (defArgs s_l_is_too_long) (defBody s_l_is_too_long) (defScope s_l_is_too_long) .none kV_l_is_too_long dc_l_is_too_long pm_l_is_too_long an_l_is_too_long cd_l_is_too_long ct_l_is_too_long), sl_l_is_too_long⟩)
    (c_l_is_too_long : PySem.W.codeIn K cd_l_is_too_long "_law_is_too_long" = true)
    (k_l_is_too_long : PySem.W.keepIn K (.ref f_l_is_too_long) = true)
    (a_l_is_wrong : PySem.W.nsIn K mainGlobals "_law_is_wrong" = some (some (.ref f_l_is_wrong)))
    (l_l_is_wrong : K.lookup f_l_is_wrong = some ⟨oc_l_is_wrong, od_l_is_wrong, .func (PySem.W.fnOf "_law_is_wrong" "_law_is_wrong" (defArgs s_l_is_wrong) (defBody s_l_is_wrong) (defScope s_l_is_wrong) .none kV_l_is_wrong dc_l_is_wrong pm_l_is_wrong an_l_is_wrong cd_l_is_wrong ct_l_is_wrong), sl_l_is_wrong⟩)
    (c_l_is_wrong : PySem.W.codeIn K cd_l_is_wrong "_law_is_wrong" = true)
    (k_l_is_wrong : PySem.W.keepIn K (.ref f_l_is_wrong) = true)
    (a_l_pieces_right : PySem.W.nsIn K mainGlobals "_law_pieces_right" = some (some (.ref f_l_pieces_right)))
    (l_l_pieces_right : K.lookup f_l_pieces_right = some ⟨oc_l_pieces_right, od_l_pieces_right, .func (PySem.W.fnOf "_law_pieces_right" "_law_pieces_right" (defArgs s_l_pieces_right) (defBody s_l_pieces_right) (defScope s_l_pieces_right) .none kV_l_pieces_right dc_l_pieces_right pm_l_pieces_right an_l_pieces_right cd_l_pieces_right ct_l_pieces_right), sl_l_pieces_right⟩)
    (c_l_pieces_right : PySem.W.codeIn K cd_l_pieces_right "_law_pieces_right" = true)
    (k_l_pieces_right : PySem.W.keepIn K (.ref f_l_pieces_right) = true)
    (a_l_odd : PySem.W.nsIn K mainGlobals "_law_odd" = some (some (.ref f_l_odd)))
    (l_l_odd : K.lookup f_l_odd = some ⟨oc_l_odd, od_l_odd, .func (PySem.W.fnOf "_law_odd" "_law_odd" (defArgs s_l_odd) (defBody s_l_odd) (defScope s_l_odd) .none kV_l_odd dc_l_odd pm_l_odd an_l_odd cd_l_odd ct_l_odd), sl_l_odd⟩)
    (c_l_odd : PySem.W.codeIn K cd_l_odd "_law_odd" = true)
    (k_l_odd : PySem.W.keepIn K (.ref f_l_odd) = true)
    (a_law : PySem.W.nsIn K mainGlobals "law" = some (some (.ref f_law)))
    (l_law : K.lookup f_law = some ⟨oc_law, od_law, .func (PySem.W.fnOf "law" "law" (defArgs s_law) (defBody s_law) (defScope s_law) .none kV_law dc_law pm_law an_law cd_law ct_law), sl_law⟩)
    (c_law : PySem.W.codeIn K cd_law "law" = true)
    (k_law : PySem.W.keepIn K (.ref f_law) = true)
    (v_LONGEST_PERIOD : PySem.W.nsIn K mainGlobals "LONGEST_PERIOD" = some (some (.int 12 t_LONGEST_PERIOD)))
    (v_MAX_IN_PIECE : PySem.W.nsIn K mainGlobals "MAX_IN_PIECE" = some (some (.int 60 t_MAX_IN_PIECE)))
    (v_MAX_VALUE : PySem.W.nsIn K mainGlobals "MAX_VALUE" = some (some (.int 2000 t_MAX_VALUE)))
    (v_MAX_VALUES : PySem.W.nsIn K mainGlobals "MAX_VALUES" = some (some (.int 24 t_MAX_VALUES)))
    (v_PERIODS : PySem.W.nsIn K mainGlobals "PERIODS" = some (some (.ref a_PERIODS)))
    (l_PERIODS : K.lookup a_PERIODS = some ⟨.type "tuple", od_PERIODS, .seq #[.int 1 uPERIODS0, .int 2 uPERIODS1, .int 3 uPERIODS2, .int 4 uPERIODS3, .int 6 uPERIODS4, .int 12 uPERIODS5] n_PERIODS, sl_PERIODS⟩)
    (z_ArithmeticError : PySem.W.nsIn K mainGlobals "ArithmeticError" = some none)
    (z_ValueError : PySem.W.nsIn K mainGlobals "ValueError" = some none)
    (z_abs : PySem.W.nsIn K mainGlobals "abs" = some none)
    (z_all : PySem.W.nsIn K mainGlobals "all" = some none)
    (z_bool : PySem.W.nsIn K mainGlobals "bool" = some none)
    (z_divmod : PySem.W.nsIn K mainGlobals "divmod" = some none)
    (z_enumerate : PySem.W.nsIn K mainGlobals "enumerate" = some none)
    (z_int : PySem.W.nsIn K mainGlobals "int" = some none)
    (z_isinstance : PySem.W.nsIn K mainGlobals "isinstance" = some none)
    (z_len : PySem.W.nsIn K mainGlobals "len" = some none)
    (z_list : PySem.W.nsIn K mainGlobals "list" = some none)
    (z_max : PySem.W.nsIn K mainGlobals "max" = some none)
    (z_min : PySem.W.nsIn K mainGlobals "min" = some none)
    (z_range : PySem.W.nsIn K mainGlobals "range" = some none)
    (z_repr : PySem.W.nsIn K mainGlobals "repr" = some none)
    (z_str : PySem.W.nsIn K mainGlobals "str" = some none)
    (z_tuple : PySem.W.nsIn K mainGlobals "tuple" = some none)
    : ∃ fd : FuncData, (∀ (s : Shared) (v : Value), BindsTo s fd ⟨[v], []⟩ [("_law_script", v)]) ∧ ∀ base : Heap, K.In base → base.Ns mainGlobals mg → VG.FnG l.prog w K mg base CX0 13 fa fd ["_law_script"] (spL K) := by
  have e := hfa.symm.trans (PySem.W.mg_of X G a_law)
  cases e
  let A : Ad := {
    DueError := C_DueError,
    TooMany := C_TooMany,
    InvalidCurve := C_InvalidCurve,
    TooLong := C_TooLong,
    InvalidPiece := C_InvalidPiece,
    Curve := C_Curve,
    f_TooLong_init := f_TooLong_init,
    d_TooLong_init := PySem.W.fnOf "__init__" "TooLong.__init__" (defArgs s_TooLong_init) (defBody s_TooLong_init) (defScope s_TooLong_init) .none kV_TooLong_init dc_TooLong_init pm_TooLong_init an_TooLong_init cd_TooLong_init ct_TooLong_init,
    f_InvalidPiece_init := f_InvalidPiece_init,
    d_InvalidPiece_init := PySem.W.fnOf "__init__" "InvalidPiece.__init__" (defArgs s_InvalidPiece_init) (defBody s_InvalidPiece_init) (defScope s_InvalidPiece_init) .none kV_InvalidPiece_init dc_InvalidPiece_init pm_InvalidPiece_init an_InvalidPiece_init cd_InvalidPiece_init ct_InvalidPiece_init,
    f_is_integer := f_is_integer,
    d_is_integer := PySem.W.fnOf "is_integer" "is_integer" (defArgs s_is_integer) (defBody s_is_integer) (defScope s_is_integer) .none kV_is_integer dc_is_integer pm_is_integer an_is_integer cd_is_integer ct_is_integer,
    f_is_count := f_is_count,
    d_is_count := PySem.W.fnOf "is_count" "is_count" (defArgs s_is_count) (defBody s_is_count) (defScope s_is_count) .none kV_is_count dc_is_count pm_is_count an_is_count cd_is_count ct_is_count,
    f_is_count_to := f_is_count_to,
    d_is_count_to := PySem.W.fnOf "is_count_to" "is_count_to" (defArgs s_is_count_to) (defBody s_is_count_to) (defScope s_is_count_to) .none kV_is_count_to dc_is_count_to pm_is_count_to an_is_count_to cd_is_count_to ct_is_count_to,
    f_rounded_up := f_rounded_up,
    d_rounded_up := PySem.W.fnOf "rounded_up" "rounded_up" (defArgs s_rounded_up) (defBody s_rounded_up) (defScope s_rounded_up) .none kV_rounded_up dc_rounded_up pm_rounded_up an_rounded_up cd_rounded_up ct_rounded_up,
    f_value_at := f_value_at,
    d_value_at := PySem.W.fnOf "value_at" "value_at" (defArgs s_value_at) (defBody s_value_at) (defScope s_value_at) .none kV_value_at dc_value_at pm_value_at an_value_at cd_value_at ct_value_at,
    f_least_form := f_least_form,
    d_least_form := PySem.W.fnOf "least_form" "least_form" (defArgs s_least_form) (defBody s_least_form) (defScope s_least_form) .none kV_least_form dc_least_form pm_least_form an_least_form cd_least_form ct_least_form,
    f_least_period := f_least_period,
    d_least_period := PySem.W.fnOf "least_period" "least_period" (defArgs s_least_period) (defBody s_least_period) (defScope s_least_period) .none kV_least_period dc_least_period pm_least_period an_least_period cd_least_period ct_least_period,
    f_form_of_pieces := f_form_of_pieces,
    d_form_of_pieces := PySem.W.fnOf "form_of_pieces" "form_of_pieces" (defArgs s_form_of_pieces) (defBody s_form_of_pieces) (defScope s_form_of_pieces) .none kV_form_of_pieces dc_form_of_pieces pm_form_of_pieces an_form_of_pieces cd_form_of_pieces ct_form_of_pieces,
    f_line_at := f_line_at,
    d_line_at := PySem.W.fnOf "line_at" "line_at" (defArgs s_line_at) (defBody s_line_at) (defScope s_line_at) .none kV_line_at dc_line_at pm_line_at an_line_at cd_line_at ct_line_at,
    f_C_init := f_C_init,
    d_C_init := PySem.W.fnOf "__init__" "Curve.__init__" (defArgs s_C_init) (defBody s_C_init) (defScope s_C_init) .none (.ref D_C_init) dc_C_init pm_C_init an_C_init cd_C_init ct_C_init,
    p_C_of_pieces := p_C_of_pieces,
    f_C_of_pieces := f_C_of_pieces,
    d_C_of_pieces := PySem.W.fnOf "of_pieces" "Curve.of_pieces" (defArgs s_C_of_pieces) (defBody s_C_of_pieces) (defScope s_C_of_pieces) .none kV_C_of_pieces dc_C_of_pieces pm_C_of_pieces an_C_of_pieces cd_C_of_pieces ct_C_of_pieces,
    f_C_eq := f_C_eq,
    d_C_eq := PySem.W.fnOf "__eq__" "Curve.__eq__" (defArgs s_C_eq) (defBody s_C_eq) (defScope s_C_eq) .none kV_C_eq dc_C_eq pm_C_eq an_C_eq cd_C_eq ct_C_eq,
    f_C_repr := f_C_repr,
    d_C_repr := PySem.W.fnOf "__repr__" "Curve.__repr__" (defArgs s_C_repr) (defBody s_C_repr) (defScope s_C_repr) .none kV_C_repr dc_C_repr pm_C_repr an_C_repr cd_C_repr ct_C_repr,
    f_C_str := f_C_str,
    d_C_str := PySem.W.fnOf "__str__" "Curve.__str__" (defArgs s_C_str) (defBody s_C_str) (defScope s_C_str) .none kV_C_str dc_C_str pm_C_str an_C_str cd_C_str ct_C_str,
    p_C_period := p_C_period,
    f_C_period := f_C_period,
    d_C_period := PySem.W.fnOf "period" "Curve.period" (defArgs s_C_period) (defBody s_C_period) (defScope s_C_period) .none kV_C_period dc_C_period pm_C_period an_C_period cd_C_period ct_C_period,
    p_C_gain := p_C_gain,
    f_C_gain := f_C_gain,
    d_C_gain := PySem.W.fnOf "gain" "Curve.gain" (defArgs s_C_gain) (defBody s_C_gain) (defScope s_C_gain) .none kV_C_gain dc_C_gain pm_C_gain an_C_gain cd_C_gain ct_C_gain,
    f_C_first_values := f_C_first_values,
    d_C_first_values := PySem.W.fnOf "first_values" "Curve.first_values" (defArgs s_C_first_values) (defBody s_C_first_values) (defScope s_C_first_values) .none kV_C_first_values dc_C_first_values pm_C_first_values an_C_first_values cd_C_first_values ct_C_first_values,
    f_C_at := f_C_at,
    d_C_at := PySem.W.fnOf "at" "Curve.at" (defArgs s_C_at) (defBody s_C_at) (defScope s_C_at) .none kV_C_at dc_C_at pm_C_at an_C_at cd_C_at ct_C_at,
    f_C_find_break := f_C_find_break,
    d_C_find_break := PySem.W.fnOf "find_break" "Curve.find_break" (defArgs s_C_find_break) (defBody s_C_find_break) (defScope s_C_find_break) .none kV_C_find_break dc_C_find_break pm_C_find_break an_C_find_break cd_C_find_break ct_C_find_break,
    f_C_is_good := f_C_is_good,
    d_C_is_good := PySem.W.fnOf "is_good" "Curve.is_good" (defArgs s_C_is_good) (defBody s_C_is_good) (defScope s_C_is_good) .none kV_C_is_good dc_C_is_good pm_C_is_good an_C_is_good cd_C_is_good ct_C_is_good,
    f_first_break := f_first_break,
    d_first_break := PySem.W.fnOf "first_break" "first_break" (defArgs s_first_break) (defBody s_first_break) (defScope s_first_break) .none kV_first_break dc_first_break pm_first_break an_first_break cd_first_break ct_first_break,
    f_find_problem := f_find_problem,
    d_find_problem := PySem.W.fnOf "find_problem" "find_problem" (defArgs s_find_problem) (defBody s_find_problem) (defScope s_find_problem) .none kV_find_problem dc_find_problem pm_find_problem an_find_problem cd_find_problem ct_find_problem,
    f_find_wrong_piece := f_find_wrong_piece,
    d_find_wrong_piece := PySem.W.fnOf "find_wrong_piece" "find_wrong_piece" (defArgs s_find_wrong_piece) (defBody s_find_wrong_piece) (defScope s_find_wrong_piece) .none kV_find_wrong_piece dc_find_wrong_piece pm_find_wrong_piece an_find_wrong_piece cd_find_wrong_piece ct_find_wrong_piece,
    f_is_piece := f_is_piece,
    d_is_piece := PySem.W.fnOf "is_piece" "is_piece" (defArgs s_is_piece) (defBody s_is_piece) (defScope s_is_piece) .none kV_is_piece dc_is_piece pm_is_piece an_is_piece cd_is_piece ct_is_piece,
    f_l_rng := f_l_rng,
    d_l_rng := PySem.W.fnOf "_law_rng" "_law_rng" (defArgs s_l_rng) (defBody s_l_rng) (defScope s_l_rng) .none kV_l_rng dc_l_rng pm_l_rng an_l_rng cd_l_rng ct_l_rng,
    f_l_draw := f_l_draw,
    d_l_draw := PySem.W.fnOf "_law_draw" "_law_draw" (defArgs s_l_draw) (defBody s_l_draw) (defScope s_l_draw) .none kV_l_draw dc_l_draw pm_l_draw an_l_draw cd_l_draw ct_l_draw,
    f_l_choice := f_l_choice,
    d_l_choice := PySem.W.fnOf "_law_choice" "_law_choice" (defArgs s_l_choice) (defBody s_l_choice) (defScope s_l_choice) .none kV_l_choice dc_l_choice pm_l_choice an_l_choice cd_l_choice ct_l_choice,
    f_l_piece := f_l_piece,
    d_l_piece := PySem.W.fnOf "_law_piece" "_law_piece" (defArgs s_l_piece) (defBody s_l_piece) (defScope s_l_piece) .none kV_l_piece dc_l_piece pm_l_piece an_l_piece cd_l_piece ct_l_piece,
    f_l_line := f_l_line,
    d_l_line := PySem.W.fnOf "_law_line" "_law_line" (defArgs s_l_line) (defBody s_l_line) (defScope s_l_line) .none kV_l_line dc_l_line pm_l_line an_l_line cd_l_line ct_l_line,
    f_l_least := f_l_least,
    d_l_least := PySem.W.fnOf "_law_least" "_law_least" (defArgs s_l_least) (defBody s_l_least) (defScope s_l_least) .none kV_l_least dc_l_least pm_l_least an_l_least cd_l_least ct_l_least,
    f_l_form := f_l_form,
    d_l_form := PySem.W.fnOf "_law_form" "_law_form" (defArgs s_l_form) (defBody s_l_form) (defScope s_l_form) .none kV_l_form dc_l_form pm_l_form an_l_form cd_l_form ct_l_form,
    f_l_made := f_l_made,
    d_l_made := PySem.W.fnOf "_law_made" "_law_made" (defArgs s_l_made) (defBody s_l_made) (defScope s_l_made) .none kV_l_made dc_l_made pm_l_made an_l_made cd_l_made ct_l_made,
    f_l_shown := f_l_shown,
    d_l_shown := PySem.W.fnOf "_law_shown" "_law_shown" (defArgs s_l_shown) (defBody s_l_shown) (defScope s_l_shown) .none kV_l_shown dc_l_shown pm_l_shown an_l_shown cd_l_shown ct_l_shown,
    f_l_due := f_l_due,
    d_l_due := PySem.W.fnOf "_law_due" "_law_due" (defArgs s_l_due) (defBody s_l_due) (defScope s_l_due) .none kV_l_due dc_l_due pm_l_due an_l_due cd_l_due ct_l_due,
    f_l_is_too_long := f_l_is_too_long,
    d_l_is_too_long := PySem.W.fnOf "_law_is_too_long" "_law_is_too_long" (defArgs s_l_is_too_long) (defBody s_l_is_too_long) (defScope s_l_is_too_long) .none kV_l_is_too_long dc_l_is_too_long pm_l_is_too_long an_l_is_too_long cd_l_is_too_long ct_l_is_too_long,
    f_l_is_wrong := f_l_is_wrong,
    d_l_is_wrong := PySem.W.fnOf "_law_is_wrong" "_law_is_wrong" (defArgs s_l_is_wrong) (defBody s_l_is_wrong) (defScope s_l_is_wrong) .none kV_l_is_wrong dc_l_is_wrong pm_l_is_wrong an_l_is_wrong cd_l_is_wrong ct_l_is_wrong,
    f_l_pieces_right := f_l_pieces_right,
    d_l_pieces_right := PySem.W.fnOf "_law_pieces_right" "_law_pieces_right" (defArgs s_l_pieces_right) (defBody s_l_pieces_right) (defScope s_l_pieces_right) .none kV_l_pieces_right dc_l_pieces_right pm_l_pieces_right an_l_pieces_right cd_l_pieces_right ct_l_pieces_right,
    f_l_odd := f_l_odd,
    d_l_odd := PySem.W.fnOf "_law_odd" "_law_odd" (defArgs s_l_odd) (defBody s_l_odd) (defScope s_l_odd) .none kV_l_odd dc_l_odd pm_l_odd an_l_odd cd_l_odd ct_l_odd,
    f_law := fa,
    d_law := PySem.W.fnOf "law" "law" (defArgs s_law) (defBody s_law) (defScope s_law) .none kV_law dc_law pm_law an_law cd_law ct_law,
    t_LONGEST_PERIOD := t_LONGEST_PERIOD,
    t_MAX_IN_PIECE := t_MAX_IN_PIECE,
    t_MAX_VALUE := t_MAX_VALUE,
    t_MAX_VALUES := t_MAX_VALUES,
    a_PERIODS := a_PERIODS }
  have T : Txt K mg A := {
    m_DueError := PySem.W.mg_of X G g_DueError,
    m_TooMany := PySem.W.mg_of X G g_TooMany,
    m_InvalidCurve := PySem.W.mg_of X G g_InvalidCurve,
    m_TooLong := PySem.W.mg_of X G g_TooLong,
    O_TooLong := ⟨⟨_, _, _, _, VX.bsA, xi_TooLong, xo_TooLong⟩, hd_TooLong, sa_TooLong, xe_TooLong, ty_TooLong, kc_TooLong⟩,
    xf_TooLong := ⟨ga_TooLong, gt_TooLong, xe_TooLong, hd_TooLong⟩,
    as_TooLong := ⟨VX.isC hd_TooLong, ga_TooLong, gt_TooLong, xe_TooLong, cc_TooLong, q_gn, q_tk, mr_TooLong⟩,
    ex_TooLong := PySem.W.exm_ref xe_TooLong hd_TooLong ty_TooLong xm_TooLong,
    n_TooLong_limit := n_TooLong_limit,
    m_InvalidPiece := PySem.W.mg_of X G g_InvalidPiece,
    O_InvalidPiece := ⟨⟨_, _, _, _, VX.bsV, xi_InvalidPiece, xo_InvalidPiece⟩, hd_InvalidPiece, sa_InvalidPiece, xe_InvalidPiece, ty_InvalidPiece, kc_InvalidPiece⟩,
    xf_InvalidPiece := ⟨ga_InvalidPiece, gt_InvalidPiece, xe_InvalidPiece, hd_InvalidPiece⟩,
    as_InvalidPiece := ⟨VX.isC hd_InvalidPiece, ga_InvalidPiece, gt_InvalidPiece, xe_InvalidPiece, cc_InvalidPiece, q_gn, q_tk, mr_InvalidPiece⟩,
    ex_InvalidPiece := PySem.W.exm_ref xe_InvalidPiece hd_InvalidPiece ty_InvalidPiece xm_InvalidPiece,
    n_InvalidPiece_position := n_InvalidPiece_position,
    kt_InvalidPiece_DueError := kt_InvalidPiece_DueError,
    kt_InvalidPiece_ValueError := kt_InvalidPiece_ValueError,
    kt_InvalidPiece_InvalidCurve := kt_InvalidPiece_InvalidCurve,
    kt_TooLong_ArithmeticError := kt_TooLong_ArithmeticError,
    kt_TooLong_DueError_TooMany := kt_TooLong_DueError_TooMany,
    m_Curve := PySem.W.mg_of X G g_Curve,
    cl := ⟨pg_Curve, hd_Curve, po_Curve, sa_Curve⟩,
    M_Curve := ⟨mk_Curve, a_C_init, i_C_init, kc_Curve⟩,
    ic_Curve := ⟨ic_Curve, it_Curve, ig_Curve, i_gn, i_tk, io_Curve, ie_Curve⟩,
    n_values := n_Curve_values,
    n_period := n_Curve_period,
    n_gain := n_Curve_gain,
    n_was_searched := n_Curve_was_searched,
    n_break := n_Curve_break,
    F_TooLong_init := fun_mk (st := s_TooLong_init) l_TooLong_init c_TooLong_init k_TooLong_init,
    b_TooLong_init := ((fun_mk (st := s_TooLong_init) l_TooLong_init c_TooLong_init k_TooLong_init).binds (ps := ["self", "limit"]) fun _ _ _ _ _ _ us hl => match us, hl with | [_, _], _ => rfl),
    iC_TooLong := a_TooLong_init,
    tI_TooLong := tI_TooLong,
    F_InvalidPiece_init := fun_mk (st := s_InvalidPiece_init) l_InvalidPiece_init c_InvalidPiece_init k_InvalidPiece_init,
    b_InvalidPiece_init := ((fun_mk (st := s_InvalidPiece_init) l_InvalidPiece_init c_InvalidPiece_init k_InvalidPiece_init).binds (ps := ["self", "position"]) fun _ _ _ _ _ _ us hl => match us, hl with | [_, _], _ => rfl),
    iC_InvalidPiece := a_InvalidPiece_init,
    tI_InvalidPiece := tI_InvalidPiece,
    F_is_integer := fun_mk (st := s_is_integer) l_is_integer c_is_integer k_is_integer,
    m_is_integer := PySem.W.mg_of X G a_is_integer,
    k_is_integer := k_is_integer,
    b_is_integer := ((fun_mk (st := s_is_integer) l_is_integer c_is_integer k_is_integer).binds (ps := ["value"]) fun _ _ _ _ _ _ us hl => match us, hl with | [_], _ => rfl),
    F_is_count := fun_mk (st := s_is_count) l_is_count c_is_count k_is_count,
    m_is_count := PySem.W.mg_of X G a_is_count,
    k_is_count := k_is_count,
    b_is_count := ((fun_mk (st := s_is_count) l_is_count c_is_count k_is_count).binds (ps := ["value"]) fun _ _ _ _ _ _ us hl => match us, hl with | [_], _ => rfl),
    F_is_count_to := fun_mk (st := s_is_count_to) l_is_count_to c_is_count_to k_is_count_to,
    m_is_count_to := PySem.W.mg_of X G a_is_count_to,
    k_is_count_to := k_is_count_to,
    b_is_count_to := ((fun_mk (st := s_is_count_to) l_is_count_to c_is_count_to k_is_count_to).binds (ps := ["value", "most"]) fun _ _ _ _ _ _ us hl => match us, hl with | [_, _], _ => rfl),
    F_rounded_up := fun_mk (st := s_rounded_up) l_rounded_up c_rounded_up k_rounded_up,
    m_rounded_up := PySem.W.mg_of X G a_rounded_up,
    k_rounded_up := k_rounded_up,
    b_rounded_up := ((fun_mk (st := s_rounded_up) l_rounded_up c_rounded_up k_rounded_up).binds (ps := ["units", "parts"]) fun _ _ _ _ _ _ us hl => match us, hl with | [_, _], _ => rfl),
    F_value_at := fun_mk (st := s_value_at) l_value_at c_value_at k_value_at,
    m_value_at := PySem.W.mg_of X G a_value_at,
    k_value_at := k_value_at,
    b_value_at := ((fun_mk (st := s_value_at) l_value_at c_value_at k_value_at).binds (ps := ["values", "period", "gain", "length"]) fun _ _ _ _ _ _ us hl => match us, hl with | [_, _, _, _], _ => rfl),
    F_least_form := fun_mk (st := s_least_form) l_least_form c_least_form k_least_form,
    m_least_form := PySem.W.mg_of X G a_least_form,
    k_least_form := k_least_form,
    b_least_form := ((fun_mk (st := s_least_form) l_least_form c_least_form k_least_form).binds (ps := ["values", "period", "gain"]) fun _ _ _ _ _ _ us hl => match us, hl with | [_, _, _], _ => rfl),
    F_least_period := fun_mk (st := s_least_period) l_least_period c_least_period k_least_period,
    m_least_period := PySem.W.mg_of X G a_least_period,
    k_least_period := k_least_period,
    b_least_period := ((fun_mk (st := s_least_period) l_least_period c_least_period k_least_period).binds (ps := ["row", "many", "period"]) fun _ _ _ _ _ _ us hl => match us, hl with | [_, _, _], _ => rfl),
    F_form_of_pieces := fun_mk (st := s_form_of_pieces) l_form_of_pieces c_form_of_pieces k_form_of_pieces,
    m_form_of_pieces := PySem.W.mg_of X G a_form_of_pieces,
    k_form_of_pieces := k_form_of_pieces,
    b_form_of_pieces := ((fun_mk (st := s_form_of_pieces) l_form_of_pieces c_form_of_pieces k_form_of_pieces).binds (ps := ["pieces"]) fun _ _ _ _ _ _ us hl => match us, hl with | [_], _ => rfl),
    F_line_at := fun_mk (st := s_line_at) l_line_at c_line_at k_line_at,
    m_line_at := PySem.W.mg_of X G a_line_at,
    k_line_at := k_line_at,
    b_line_at := ((fun_mk (st := s_line_at) l_line_at c_line_at k_line_at).binds (ps := ["piece", "length"]) fun _ _ _ _ _ _ us hl => match us, hl with | [_, _], _ => rfl),
    F_C_init := ⟨⟨_, _, _, _, _, _, _, _, _, _, rfl, l_C_init, c_C_init, .inl ⟨rfl, rfl⟩, .inr ⟨D_C_init, rfl, by
      intro q hq
      simp only [List.mem_cons, List.not_mem_nil, or_false] at hq
      rcases hq with rfl | rfl
      · exact ⟨_, d_C_init_period, ⟨_, rfl⟩⟩
      · exact ⟨_, d_C_init_gain, ⟨_, rfl⟩⟩⟩⟩, k_C_init⟩,
    F_C_of_pieces := fun_mk (st := s_C_of_pieces) l_C_of_pieces c_C_of_pieces k_C_of_pieces,
    cm_of_pieces := ⟨a_C_of_pieces, ⟨_, rc_C_of_pieces⟩, fi_C_of_pieces⟩,
    rd_Curve := ⟨rr_C_of_pieces, rg_C_of_pieces⟩,
    F_C_eq := fun_mk (st := s_C_eq) l_C_eq c_C_eq k_C_eq,
    b_C_eq := ((fun_mk (st := s_C_eq) l_C_eq c_C_eq k_C_eq).binds (ps := ["self", "other"]) fun _ _ _ _ _ _ us hl => match us, hl with | [_, _], _ => rfl),
    me___eq__ := ⟨a_C_eq, i_C_eq, k_C_eq⟩,
    F_C_repr := fun_mk (st := s_C_repr) l_C_repr c_C_repr k_C_repr,
    b_C_repr := ((fun_mk (st := s_C_repr) l_C_repr c_C_repr k_C_repr).binds (ps := ["self"]) fun _ _ _ _ _ _ us hl => match us, hl with | [_], _ => rfl),
    me___repr__ := ⟨a_C_repr, i_C_repr, k_C_repr⟩,
    F_C_str := fun_mk (st := s_C_str) l_C_str c_C_str k_C_str,
    b_C_str := ((fun_mk (st := s_C_str) l_C_str c_C_str k_C_str).binds (ps := ["self"]) fun _ _ _ _ _ _ us hl => match us, hl with | [_], _ => rfl),
    me___str__ := ⟨a_C_str, i_C_str, k_C_str⟩,
    F_C_period := fun_mk (st := s_C_period) l_C_period c_C_period k_C_period,
    b_C_period := ((fun_mk (st := s_C_period) l_C_period c_C_period k_C_period).binds (ps := ["self"]) fun _ _ _ _ _ _ us hl => match us, hl with | [_], _ => rfl),
    pr_C_period := ⟨a_C_period, pg_C_period, pt_C_period, _, pr_C_period⟩,
    F_C_gain := fun_mk (st := s_C_gain) l_C_gain c_C_gain k_C_gain,
    b_C_gain := ((fun_mk (st := s_C_gain) l_C_gain c_C_gain k_C_gain).binds (ps := ["self"]) fun _ _ _ _ _ _ us hl => match us, hl with | [_], _ => rfl),
    pr_C_gain := ⟨a_C_gain, pg_C_gain, pt_C_gain, _, pr_C_gain⟩,
    F_C_first_values := fun_mk (st := s_C_first_values) l_C_first_values c_C_first_values k_C_first_values,
    b_C_first_values := ((fun_mk (st := s_C_first_values) l_C_first_values c_C_first_values k_C_first_values).binds (ps := ["self"]) fun _ _ _ _ _ _ us hl => match us, hl with | [_], _ => rfl),
    me_first_values := ⟨a_C_first_values, i_C_first_values, k_C_first_values⟩,
    F_C_at := fun_mk (st := s_C_at) l_C_at c_C_at k_C_at,
    b_C_at := ((fun_mk (st := s_C_at) l_C_at c_C_at k_C_at).binds (ps := ["self", "length"]) fun _ _ _ _ _ _ us hl => match us, hl with | [_, _], _ => rfl),
    me_at := ⟨a_C_at, i_C_at, k_C_at⟩,
    F_C_find_break := fun_mk (st := s_C_find_break) l_C_find_break c_C_find_break k_C_find_break,
    b_C_find_break := ((fun_mk (st := s_C_find_break) l_C_find_break c_C_find_break k_C_find_break).binds (ps := ["self"]) fun _ _ _ _ _ _ us hl => match us, hl with | [_], _ => rfl),
    me_find_break := ⟨a_C_find_break, i_C_find_break, k_C_find_break⟩,
    F_C_is_good := fun_mk (st := s_C_is_good) l_C_is_good c_C_is_good k_C_is_good,
    b_C_is_good := ((fun_mk (st := s_C_is_good) l_C_is_good c_C_is_good k_C_is_good).binds (ps := ["self"]) fun _ _ _ _ _ _ us hl => match us, hl with | [_], _ => rfl),
    me_is_good := ⟨a_C_is_good, i_C_is_good, k_C_is_good⟩,
    F_first_break := fun_mk (st := s_first_break) l_first_break c_first_break k_first_break,
    m_first_break := PySem.W.mg_of X G a_first_break,
    k_first_break := k_first_break,
    b_first_break := ((fun_mk (st := s_first_break) l_first_break c_first_break k_first_break).binds (ps := ["curve"]) fun _ _ _ _ _ _ us hl => match us, hl with | [_], _ => rfl),
    F_find_problem := fun_mk (st := s_find_problem) l_find_problem c_find_problem k_find_problem,
    m_find_problem := PySem.W.mg_of X G a_find_problem,
    k_find_problem := k_find_problem,
    b_find_problem := ((fun_mk (st := s_find_problem) l_find_problem c_find_problem k_find_problem).binds (ps := ["values", "period", "gain"]) fun _ _ _ _ _ _ us hl => match us, hl with | [_, _, _], _ => rfl),
    F_find_wrong_piece := fun_mk (st := s_find_wrong_piece) l_find_wrong_piece c_find_wrong_piece k_find_wrong_piece,
    m_find_wrong_piece := PySem.W.mg_of X G a_find_wrong_piece,
    k_find_wrong_piece := k_find_wrong_piece,
    b_find_wrong_piece := ((fun_mk (st := s_find_wrong_piece) l_find_wrong_piece c_find_wrong_piece k_find_wrong_piece).binds (ps := ["pieces"]) fun _ _ _ _ _ _ us hl => match us, hl with | [_], _ => rfl),
    F_is_piece := fun_mk (st := s_is_piece) l_is_piece c_is_piece k_is_piece,
    m_is_piece := PySem.W.mg_of X G a_is_piece,
    k_is_piece := k_is_piece,
    b_is_piece := ((fun_mk (st := s_is_piece) l_is_piece c_is_piece k_is_piece).binds (ps := ["value"]) fun _ _ _ _ _ _ us hl => match us, hl with | [_], _ => rfl),
    F_l_rng := fun_mk (st := s_l_rng) l_l_rng c_l_rng k_l_rng,
    m_l_rng := PySem.W.mg_of X G a_l_rng,
    k_l_rng := k_l_rng,
    b_l_rng := ((fun_mk (st := s_l_rng) l_l_rng c_l_rng k_l_rng).binds (ps := ["_law_script", "_law_k"]) fun _ _ _ _ _ _ us hl => match us, hl with | [_, _], _ => rfl),
    F_l_draw := fun_mk (st := s_l_draw) l_l_draw c_l_draw k_l_draw,
    m_l_draw := PySem.W.mg_of X G a_l_draw,
    k_l_draw := k_l_draw,
    b_l_draw := ((fun_mk (st := s_l_draw) l_l_draw c_l_draw k_l_draw).binds (ps := ["_law_rng_here", "_law_many"]) fun _ _ _ _ _ _ us hl => match us, hl with | [_, _], _ => rfl),
    F_l_choice := fun_mk (st := s_l_choice) l_l_choice c_l_choice k_l_choice,
    m_l_choice := PySem.W.mg_of X G a_l_choice,
    k_l_choice := k_l_choice,
    b_l_choice := ((fun_mk (st := s_l_choice) l_l_choice c_l_choice k_l_choice).binds (ps := ["_law_rng_here", "_law_some"]) fun _ _ _ _ _ _ us hl => match us, hl with | [_, _], _ => rfl),
    F_l_piece := fun_mk (st := s_l_piece) l_l_piece c_l_piece k_l_piece,
    m_l_piece := PySem.W.mg_of X G a_l_piece,
    k_l_piece := k_l_piece,
    b_l_piece := ((fun_mk (st := s_l_piece) l_l_piece c_l_piece k_l_piece).binds (ps := ["_law_rng_here"]) fun _ _ _ _ _ _ us hl => match us, hl with | [_], _ => rfl),
    F_l_line := fun_mk (st := s_l_line) l_l_line c_l_line k_l_line,
    m_l_line := PySem.W.mg_of X G a_l_line,
    k_l_line := k_l_line,
    b_l_line := ((fun_mk (st := s_l_line) l_l_line c_l_line k_l_line).binds (ps := ["_law_piece_here", "_law_span"]) fun _ _ _ _ _ _ us hl => match us, hl with | [_, _], _ => rfl),
    F_l_least := fun_mk (st := s_l_least) l_l_least c_l_least k_l_least,
    m_l_least := PySem.W.mg_of X G a_l_least,
    k_l_least := k_l_least,
    b_l_least := ((fun_mk (st := s_l_least) l_l_least c_l_least k_l_least).binds (ps := ["_law_pieces", "_law_span"]) fun _ _ _ _ _ _ us hl => match us, hl with | [_, _], _ => rfl),
    F_l_form := fun_mk (st := s_l_form) l_l_form c_l_form k_l_form,
    m_l_form := PySem.W.mg_of X G a_l_form,
    k_l_form := k_l_form,
    b_l_form := ((fun_mk (st := s_l_form) l_l_form c_l_form k_l_form).binds (ps := ["_law_pieces"]) fun _ _ _ _ _ _ us hl => match us, hl with | [_], _ => rfl),
    F_l_made := fun_mk (st := s_l_made) l_l_made c_l_made k_l_made,
    m_l_made := PySem.W.mg_of X G a_l_made,
    k_l_made := k_l_made,
    b_l_made := ((fun_mk (st := s_l_made) l_l_made c_l_made k_l_made).binds (ps := ["_law_pieces"]) fun _ _ _ _ _ _ us hl => match us, hl with | [_], _ => rfl),
    F_l_shown := fun_mk (st := s_l_shown) l_l_shown c_l_shown k_l_shown,
    m_l_shown := PySem.W.mg_of X G a_l_shown,
    k_l_shown := k_l_shown,
    b_l_shown := ((fun_mk (st := s_l_shown) l_l_shown c_l_shown k_l_shown).binds (ps := ["_law_curve"]) fun _ _ _ _ _ _ us hl => match us, hl with | [_], _ => rfl),
    F_l_due := fun_mk (st := s_l_due) l_l_due c_l_due k_l_due,
    m_l_due := PySem.W.mg_of X G a_l_due,
    k_l_due := k_l_due,
    b_l_due := ((fun_mk (st := s_l_due) l_l_due c_l_due k_l_due).binds (ps := ["_law_form_here"]) fun _ _ _ _ _ _ us hl => match us, hl with | [_], _ => rfl),
    F_l_is_too_long := fun_mk (st := s_l_is_too_long) l_l_is_too_long c_l_is_too_long k_l_is_too_long,
    m_l_is_too_long := PySem.W.mg_of X G a_l_is_too_long,
    k_l_is_too_long := k_l_is_too_long,
    b_l_is_too_long := ((fun_mk (st := s_l_is_too_long) l_l_is_too_long c_l_is_too_long k_l_is_too_long).binds (ps := ["_law_pieces"]) fun _ _ _ _ _ _ us hl => match us, hl with | [_], _ => rfl),
    F_l_is_wrong := fun_mk (st := s_l_is_wrong) l_l_is_wrong c_l_is_wrong k_l_is_wrong,
    m_l_is_wrong := PySem.W.mg_of X G a_l_is_wrong,
    k_l_is_wrong := k_l_is_wrong,
    b_l_is_wrong := ((fun_mk (st := s_l_is_wrong) l_l_is_wrong c_l_is_wrong k_l_is_wrong).binds (ps := ["_law_pieces", "_law_at"]) fun _ _ _ _ _ _ us hl => match us, hl with | [_, _], _ => rfl),
    F_l_pieces_right := fun_mk (st := s_l_pieces_right) l_l_pieces_right c_l_pieces_right k_l_pieces_right,
    m_l_pieces_right := PySem.W.mg_of X G a_l_pieces_right,
    k_l_pieces_right := k_l_pieces_right,
    b_l_pieces_right := ((fun_mk (st := s_l_pieces_right) l_l_pieces_right c_l_pieces_right k_l_pieces_right).binds (ps := ["_law_rng_here", "_law_pieces"]) fun _ _ _ _ _ _ us hl => match us, hl with | [_, _], _ => rfl),
    F_l_odd := fun_mk (st := s_l_odd) l_l_odd c_l_odd k_l_odd,
    m_l_odd := PySem.W.mg_of X G a_l_odd,
    k_l_odd := k_l_odd,
    b_l_odd := ((fun_mk (st := s_l_odd) l_l_odd c_l_odd k_l_odd).binds (ps := ["_law_rng_here"]) fun _ _ _ _ _ _ us hl => match us, hl with | [_], _ => rfl),
    F_law := fun_mk (st := s_law) l_law c_law k_law,
    m_law := PySem.W.mg_of X G a_law,
    k_law := k_law,
    b_law := ((fun_mk (st := s_law) l_law c_law k_law).binds (ps := ["_law_script"]) fun _ _ _ _ _ _ us hl => match us, hl with | [_], _ => rfl),
    v_LONGEST_PERIOD := PySem.W.mg_of X G v_LONGEST_PERIOD,
    v_MAX_IN_PIECE := PySem.W.mg_of X G v_MAX_IN_PIECE,
    v_MAX_VALUE := PySem.W.mg_of X G v_MAX_VALUE,
    v_MAX_VALUES := PySem.W.mg_of X G v_MAX_VALUES,
    v_PERIODS := PySem.W.mg_of X G v_PERIODS,
    periods := fun H => .inr ⟨_, _, _, l_PERIODS, rfl, rfl, (by rw [sizeLine_eq]; show 6 ≤ _; decide), (.cons ⟨_, rfl⟩ (.cons ⟨_, rfl⟩ (.cons ⟨_, rfl⟩ (.cons ⟨_, rfl⟩ (.cons ⟨_, rfl⟩ (.cons ⟨_, rfl⟩ .nil))))))⟩,
    ArithmeticError := PySem.W.mg_none_of X G z_ArithmeticError,
    ValueError := PySem.W.mg_none_of X G z_ValueError,
    abs := PySem.W.mg_none_of X G z_abs,
    all := PySem.W.mg_none_of X G z_all,
    bool := PySem.W.mg_none_of X G z_bool,
    divmod := PySem.W.mg_none_of X G z_divmod,
    enumerate := PySem.W.mg_none_of X G z_enumerate,
    int := PySem.W.mg_none_of X G z_int,
    isinstance := PySem.W.mg_none_of X G z_isinstance,
    len := PySem.W.mg_none_of X G z_len,
    list := PySem.W.mg_none_of X G z_list,
    max := PySem.W.mg_none_of X G z_max,
    min := PySem.W.mg_none_of X G z_min,
    range := PySem.W.mg_none_of X G z_range,
    repr := PySem.W.mg_none_of X G z_repr,
    str := PySem.W.mg_none_of X G z_str,
    tuple := PySem.W.mg_none_of X G z_tuple }
  exact ⟨_, fun s v => .of_eq rfl, fun base _ _ => ok_law (P := l.prog) (w := w) (base := base) T⟩
end VK

open PySem PySem.W PyProof.Rows in
set_option maxRecDepth 100000 in
set_option maxHeartbeats 0 in
theorem PySem.Challenge.cw_dueways_k15_curves_of_pieces_holds : PySem.Challenge.rw_dueways_k15_curves_of_pieces.Holds := by
  w_on; o_law; k_head; (case hw => w_witness2)
  k_fill
  refine VG.walkG (n := 63) (k := 13) (x := "_law_script") (CX := fun _ => L2.CX0) (sp := fun w => VK.spL _) rfl (by decide) rfl ⟨rfl, by decide, by decide⟩ (fun w h Y => PySem.W.kIn_of Y) ?F (fun _ _ a ns hl _ hS => ⟨a, ns, rfl, hS, hl, fun _ => rfl⟩) fun _ _ _ _ _ z => z
  case F =>
    intro w mg fa h KX G hmg
    refine' VK.all_mk KX G hmg ?g_DueError ?g_TooMany ?g_InvalidCurve ?g_TooLong ?xi_TooLong ?xo_TooLong ?hd_TooLong ?sa_TooLong ?xe_TooLong ?ty_TooLong ?kc_TooLong ?ga_TooLong ?gt_TooLong ?cc_TooLong ?mr_TooLong ?xm_TooLong ?n_TooLong_limit ?q_gn ?q_tk ?g_InvalidPiece ?xi_InvalidPiece ?xo_InvalidPiece ?hd_InvalidPiece ?sa_InvalidPiece ?xe_InvalidPiece ?ty_InvalidPiece ?kc_InvalidPiece ?ga_InvalidPiece ?gt_InvalidPiece ?cc_InvalidPiece ?mr_InvalidPiece ?xm_InvalidPiece ?n_InvalidPiece_position ?kt_InvalidPiece_DueError ?kt_InvalidPiece_ValueError ?kt_InvalidPiece_InvalidCurve ?kt_TooLong_ArithmeticError ?kt_TooLong_DueError_TooMany ?g_Curve ?pg_Curve ?hd_Curve ?po_Curve ?sa_Curve ?mk_Curve ?kc_Curve ?ic_Curve ?it_Curve ?ig_Curve ?io_Curve ?ie_Curve ?i_gn ?i_tk ?n_Curve_values ?n_Curve_period ?n_Curve_gain ?n_Curve_was_searched ?n_Curve_break ?a_TooLong_init ?i_TooLong_init ?l_TooLong_init ?c_TooLong_init ?k_TooLong_init ?tI_TooLong ?a_InvalidPiece_init ?i_InvalidPiece_init ?l_InvalidPiece_init ?c_InvalidPiece_init ?k_InvalidPiece_init ?tI_InvalidPiece ?a_is_integer ?l_is_integer ?c_is_integer ?k_is_integer ?a_is_count ?l_is_count ?c_is_count ?k_is_count ?a_is_count_to ?l_is_count_to ?c_is_count_to ?k_is_count_to ?a_rounded_up ?l_rounded_up ?c_rounded_up ?k_rounded_up ?a_value_at ?l_value_at ?c_value_at ?k_value_at ?a_least_form ?l_least_form ?c_least_form ?k_least_form ?a_least_period ?l_least_period ?c_least_period ?k_least_period ?a_form_of_pieces ?l_form_of_pieces ?c_form_of_pieces ?k_form_of_pieces ?a_line_at ?l_line_at ?c_line_at ?k_line_at ?a_C_init ?i_C_init ?l_C_init ?c_C_init ?k_C_init ?d_C_init_period ?d_C_init_gain ?a_C_of_pieces ?rc_C_of_pieces ?fi_C_of_pieces ?rr_C_of_pieces ?rg_C_of_pieces ?l_C_of_pieces ?c_C_of_pieces ?k_C_of_pieces ?a_C_eq ?i_C_eq ?l_C_eq ?c_C_eq ?k_C_eq ?a_C_repr ?i_C_repr ?l_C_repr ?c_C_repr ?k_C_repr ?a_C_str ?i_C_str ?l_C_str ?c_C_str ?k_C_str ?a_C_period ?pg_C_period ?pt_C_period ?pr_C_period ?l_C_period ?c_C_period ?k_C_period ?a_C_gain ?pg_C_gain ?pt_C_gain ?pr_C_gain ?l_C_gain ?c_C_gain ?k_C_gain ?a_C_first_values ?i_C_first_values ?l_C_first_values ?c_C_first_values ?k_C_first_values ?a_C_at ?i_C_at ?l_C_at ?c_C_at ?k_C_at ?a_C_find_break ?i_C_find_break ?l_C_find_break ?c_C_find_break ?k_C_find_break ?a_C_is_good ?i_C_is_good ?l_C_is_good ?c_C_is_good ?k_C_is_good ?a_first_break ?l_first_break ?c_first_break ?k_first_break ?a_find_problem ?l_find_problem ?c_find_problem ?k_find_problem ?a_find_wrong_piece ?l_find_wrong_piece ?c_find_wrong_piece ?k_find_wrong_piece ?a_is_piece ?l_is_piece ?c_is_piece ?k_is_piece ?a_l_rng ?l_l_rng ?c_l_rng ?k_l_rng ?a_l_draw ?l_l_draw ?c_l_draw ?k_l_draw ?a_l_choice ?l_l_choice ?c_l_choice ?k_l_choice ?a_l_piece ?l_l_piece ?c_l_piece ?k_l_piece ?a_l_line ?l_l_line ?c_l_line ?k_l_line ?a_l_least ?l_l_least ?c_l_least ?k_l_least ?a_l_form ?l_l_form ?c_l_form ?k_l_form ?a_l_made ?l_l_made ?c_l_made ?k_l_made ?a_l_shown ?l_l_shown ?c_l_shown ?k_l_shown ?a_l_due ?l_l_due ?c_l_due ?k_l_due ?a_l_is_too_long ?l_l_is_too_long ?c_l_is_too_long ?k_l_is_too_long ?a_l_is_wrong ?l_l_is_wrong ?c_l_is_wrong ?k_l_is_wrong ?a_l_pieces_right ?l_l_pieces_right ?c_l_pieces_right ?k_l_pieces_right ?a_l_odd ?l_l_odd ?c_l_odd ?k_l_odd ?a_law ?l_law ?c_law ?k_law ?v_LONGEST_PERIOD ?v_MAX_IN_PIECE ?v_MAX_VALUE ?v_MAX_VALUES ?v_PERIODS ?l_PERIODS ?z_ArithmeticError ?z_ValueError ?z_abs ?z_all ?z_bool ?z_divmod ?z_enumerate ?z_int ?z_isinstance ?z_len ?z_list ?z_max ?z_min ?z_range ?z_repr ?z_str ?z_tuple
    (case g_DueError => k_is)
    (case g_TooMany => k_is)
    (case g_InvalidCurve => k_is)
    (case g_TooLong => k_is)
    (case xi_TooLong => kx_is)
    (case xo_TooLong => kx_is)
    (case hd_TooLong => k_is)
    (case sa_TooLong => k_is)
    (case xe_TooLong => k_is)
    (case ty_TooLong => k_is)
    (case kc_TooLong => k_is)
    (case ga_TooLong => k_is)
    (case gt_TooLong => k_is)
    (case cc_TooLong => k_is)
    (case mr_TooLong => k_is)
    (case xm_TooLong => k_is)
    (case n_TooLong_limit => k_is)
    (case q_gn => k_is)
    (case q_tk => k_is)
    (case g_InvalidPiece => k_is)
    (case xi_InvalidPiece => kx_is)
    (case xo_InvalidPiece => kx_is)
    (case hd_InvalidPiece => k_is)
    (case sa_InvalidPiece => k_is)
    (case xe_InvalidPiece => k_is)
    (case ty_InvalidPiece => k_is)
    (case kc_InvalidPiece => k_is)
    (case ga_InvalidPiece => k_is)
    (case gt_InvalidPiece => k_is)
    (case cc_InvalidPiece => k_is)
    (case mr_InvalidPiece => k_is)
    (case xm_InvalidPiece => k_is)
    (case n_InvalidPiece_position => k_is)
    (case kt_InvalidPiece_DueError => kit_is)
    (case kt_InvalidPiece_ValueError => kit_is)
    (case kt_InvalidPiece_InvalidCurve => kit_is)
    (case kt_TooLong_ArithmeticError => kit_is)
    (case kt_TooLong_DueError_TooMany => kit_is)
    (case g_Curve => k_is)
    (case pg_Curve => k_is)
    (case hd_Curve => k_is)
    (case po_Curve => k_is)
    (case sa_Curve => k_is)
    (case mk_Curve => k_is)
    (case kc_Curve => k_is)
    (case ic_Curve => k_is)
    (case it_Curve => k_is)
    (case ig_Curve => k_is)
    (case io_Curve => k_is)
    (case ie_Curve => k_is)
    (case i_gn => k_is)
    (case i_tk => k_is)
    (case n_Curve_values => k_is)
    (case n_Curve_period => k_is)
    (case n_Curve_gain => k_is)
    (case n_Curve_was_searched => k_is)
    (case n_Curve_break => k_is)
    (case a_TooLong_init => k_is)
    (case i_TooLong_init => k_is)
    (case l_TooLong_init => k_is)
    (case c_TooLong_init => k_is)
    (case k_TooLong_init => k_is)
    (case tI_TooLong => k_is)
    (case a_InvalidPiece_init => k_is)
    (case i_InvalidPiece_init => k_is)
    (case l_InvalidPiece_init => k_is)
    (case c_InvalidPiece_init => k_is)
    (case k_InvalidPiece_init => k_is)
    (case tI_InvalidPiece => k_is)
    (case a_is_integer => k_is)
    (case l_is_integer => k_is)
    (case c_is_integer => k_is)
    (case k_is_integer => k_is)
    (case a_is_count => k_is)
    (case l_is_count => k_is)
    (case c_is_count => k_is)
    (case k_is_count => k_is)
    (case a_is_count_to => k_is)
    (case l_is_count_to => k_is)
    (case c_is_count_to => k_is)
    (case k_is_count_to => k_is)
    (case a_rounded_up => k_is)
    (case l_rounded_up => k_is)
    (case c_rounded_up => k_is)
    (case k_rounded_up => k_is)
    (case a_value_at => k_is)
    (case l_value_at => k_is)
    (case c_value_at => k_is)
    (case k_value_at => k_is)
    (case a_least_form => k_is)
    (case l_least_form => k_is)
    (case c_least_form => k_is)
    (case k_least_form => k_is)
    (case a_least_period => k_is)
    (case l_least_period => k_is)
    (case c_least_period => k_is)
    (case k_least_period => k_is)
    (case a_form_of_pieces => k_is)
    (case l_form_of_pieces => k_is)
    (case c_form_of_pieces => k_is)
    (case k_form_of_pieces => k_is)
    (case a_line_at => k_is)
    (case l_line_at => k_is)
    (case c_line_at => k_is)
    (case k_line_at => k_is)
    (case a_C_init => k_is)
    (case i_C_init => k_is)
    (case l_C_init => k_is)
    (case c_C_init => k_is)
    (case k_C_init => k_is)
    (case d_C_init_period => k_is)
    (case d_C_init_gain => k_is)
    (case a_C_of_pieces => k_is)
    (case rc_C_of_pieces => k_is)
    (case fi_C_of_pieces => k_is)
    (case rr_C_of_pieces => k_is)
    (case rg_C_of_pieces => k_is)
    (case l_C_of_pieces => k_is)
    (case c_C_of_pieces => k_is)
    (case k_C_of_pieces => k_is)
    (case a_C_eq => k_is)
    (case i_C_eq => k_is)
    (case l_C_eq => k_is)
    (case c_C_eq => k_is)
    (case k_C_eq => k_is)
    (case a_C_repr => k_is)
    (case i_C_repr => k_is)
    (case l_C_repr => k_is)
    (case c_C_repr => k_is)
    (case k_C_repr => k_is)
    (case a_C_str => k_is)
    (case i_C_str => k_is)
    (case l_C_str => k_is)
    (case c_C_str => k_is)
    (case k_C_str => k_is)
    (case a_C_period => k_is)
    (case pg_C_period => k_is)
    (case pt_C_period => k_is)
    (case pr_C_period => k_is)
    (case l_C_period => k_is)
    (case c_C_period => k_is)
    (case k_C_period => k_is)
    (case a_C_gain => k_is)
    (case pg_C_gain => k_is)
    (case pt_C_gain => k_is)
    (case pr_C_gain => k_is)
    (case l_C_gain => k_is)
    (case c_C_gain => k_is)
    (case k_C_gain => k_is)
    (case a_C_first_values => k_is)
    (case i_C_first_values => k_is)
    (case l_C_first_values => k_is)
    (case c_C_first_values => k_is)
    (case k_C_first_values => k_is)
    (case a_C_at => k_is)
    (case i_C_at => k_is)
    (case l_C_at => k_is)
    (case c_C_at => k_is)
    (case k_C_at => k_is)
    (case a_C_find_break => k_is)
    (case i_C_find_break => k_is)
    (case l_C_find_break => k_is)
    (case c_C_find_break => k_is)
    (case k_C_find_break => k_is)
    (case a_C_is_good => k_is)
    (case i_C_is_good => k_is)
    (case l_C_is_good => k_is)
    (case c_C_is_good => k_is)
    (case k_C_is_good => k_is)
    (case a_first_break => k_is)
    (case l_first_break => k_is)
    (case c_first_break => k_is)
    (case k_first_break => k_is)
    (case a_find_problem => k_is)
    (case l_find_problem => k_is)
    (case c_find_problem => k_is)
    (case k_find_problem => k_is)
    (case a_find_wrong_piece => k_is)
    (case l_find_wrong_piece => k_is)
    (case c_find_wrong_piece => k_is)
    (case k_find_wrong_piece => k_is)
    (case a_is_piece => k_is)
    (case l_is_piece => k_is)
    (case c_is_piece => k_is)
    (case k_is_piece => k_is)
    (case a_l_rng => k_is)
    (case l_l_rng => k_is)
    (case c_l_rng => k_is)
    (case k_l_rng => k_is)
    (case a_l_draw => k_is)
    (case l_l_draw => k_is)
    (case c_l_draw => k_is)
    (case k_l_draw => k_is)
    (case a_l_choice => k_is)
    (case l_l_choice => k_is)
    (case c_l_choice => k_is)
    (case k_l_choice => k_is)
    (case a_l_piece => k_is)
    (case l_l_piece => k_is)
    (case c_l_piece => k_is)
    (case k_l_piece => k_is)
    (case a_l_line => k_is)
    (case l_l_line => k_is)
    (case c_l_line => k_is)
    (case k_l_line => k_is)
    (case a_l_least => k_is)
    (case l_l_least => k_is)
    (case c_l_least => k_is)
    (case k_l_least => k_is)
    (case a_l_form => k_is)
    (case l_l_form => k_is)
    (case c_l_form => k_is)
    (case k_l_form => k_is)
    (case a_l_made => k_is)
    (case l_l_made => k_is)
    (case c_l_made => k_is)
    (case k_l_made => k_is)
    (case a_l_shown => k_is)
    (case l_l_shown => k_is)
    (case c_l_shown => k_is)
    (case k_l_shown => k_is)
    (case a_l_due => k_is)
    (case l_l_due => k_is)
    (case c_l_due => k_is)
    (case k_l_due => k_is)
    (case a_l_is_too_long => k_is)
    (case l_l_is_too_long => k_is)
    (case c_l_is_too_long => k_is)
    (case k_l_is_too_long => k_is)
    (case a_l_is_wrong => k_is)
    (case l_l_is_wrong => k_is)
    (case c_l_is_wrong => k_is)
    (case k_l_is_wrong => k_is)
    (case a_l_pieces_right => k_is)
    (case l_l_pieces_right => k_is)
    (case c_l_pieces_right => k_is)
    (case k_l_pieces_right => k_is)
    (case a_l_odd => k_is)
    (case l_l_odd => k_is)
    (case c_l_odd => k_is)
    (case k_l_odd => k_is)
    (case a_law => k_is)
    (case l_law => k_is)
    (case c_law => k_is)
    (case k_law => k_is)
    (case v_LONGEST_PERIOD => k_is)
    (case v_MAX_IN_PIECE => k_is)
    (case v_MAX_VALUE => k_is)
    (case v_MAX_VALUES => k_is)
    (case v_PERIODS => k_is)
    (case l_PERIODS => k_is)
    (case z_ArithmeticError => k_is)
    (case z_ValueError => k_is)
    (case z_abs => k_is)
    (case z_all => k_is)
    (case z_bool => k_is)
    (case z_divmod => k_is)
    (case z_enumerate => k_is)
    (case z_int => k_is)
    (case z_isinstance => k_is)
    (case z_len => k_is)
    (case z_list => k_is)
    (case z_max => k_is)
    (case z_min => k_is)
    (case z_range => k_is)
    (case z_repr => k_is)
    (case z_str => k_is)
    (case z_tuple => k_is)


