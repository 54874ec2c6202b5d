import PyProof.Rows.All
import Wide.All
import OpenK.AllK
import Wide.FinOn
import HandS.ForMost
import HandS.Wide
import HandS.IsInst
import HandS.EndBits
import HandS.Flow
import PyProof.ReprRoads
import HandS.Style
import HandS.Strs
import HandS.Zip
import PyProof.StrOps2
import PyProof.StrLawsRepr
import PyProof.ReprLen
import HandS.Walk
import HandS.Codes
import HandS.Set
import PyProof.Rows.SortShellAny
import HandS.SetFor
import HandS.Star
import PyProof.SetRoads
import HandS.Text
import HandS.More
import HandS.SortInts
import HandS.Defaults
import PyProof.TypeEq
import HandS.Gcd
import HandS.WideBits
import KE.KMathGC
import HandS.Replace
import HandS.Conv
import HandS.NoneIn
import KE.DatumOrd
import KE.SortData
import HandS.RevRange
import HandS.GenYield
import HandS.IterNext
import HandS.GenList
import HandS.SetKeys
import HandS.FStr
import HandS.WordsDict
import HandS.DictComp
import HandS.ListItems
import HandS.Deep
import HandS.SetBool
import HandS.Property
import HandS.ClsMeth
import HandS.NamedTupGet
import HandS.ExcCtx
import HandS.ExcIs
import HandS.HotCalls
import HandS.WordsExc
import PySem.Challenge.RW_ghosttext_k48_named_arguments_of_orders
set_option Elab.async false
set_option linter.all false
set_option maxRecDepth 100000
set_option maxHeartbeats 4000000
namespace Gd
open PySem PySem.Spec PyProof.Rows L2
structure GFn (P : Program) (w : World) (K : PySem.W.Frag) (mg : Str → Option Value)
    (base : Heap) (CX : CXT) (k : Nat) (f : Addr) (fd : FuncData) (ps : List Str) (sp : Sp) : Prop where
  many : ∀ vs H Q E, sp vs H Q E → vs.length = ps.length
  go : ∀ (A : Around) (outer : List Env) (s : Shared) (H : Hp) (args : Args) (us : List Value) (vs : List V) (Q : VK) (E : XK),
    A.guards = some [] → Room k A → Env0 P w K mg base A outer s H → BindsTo s fd args (ps.zip us) →
    Vals vs us → sp vs H Q E → codeAny (model P w) A (.call (.ref f) args) (CR CX outer P w H s Q E) s
section
variable {P : Program} {w : World} {K : PySem.W.Frag} {mg : Str → Option Value} {base : Heap}
variable {CX : CXT} {k j : Nat} {f : Addr} {fd : FuncData} {ps N : List Str} {sp : Sp}
theorem GFn.of (F : FnOk P w K mg base CX k f fd ps sp) : GFn P w K mg base CX k f fd ps sp :=
  ⟨F.len, fun A outer s H args us vs Q E _ hr => F.run A outer s H args us vs Q E hr⟩
theorem GFn.up (F : GFn P w K mg base CX j f fd ps sp) (h : j ≤ k) : GFn P w K mg base CX k f fd ps sp :=
  ⟨F.many, fun A outer s H args us vs Q E g hr => F.go A outer s H args us vs Q E g (hr.mono h)⟩
/-- a def's body, where nothing is being shown -/
theorem GFn.mk' {x qual : Str} {st : Stmt} (F : Fun K x qual st f fd) (S : FnScope N ps (defScope st))
    (len : ∀ vs H Q E, sp vs H Q E → vs.length = ps.length)
    (body : ∀ (cdv : Value) (A : Around) (outer : List Env) (s : Shared) (H : Hp) (vs : List V) (Q : VK) (E : XK),
      A.guards = some [] → Room k (A.deeper (envOfC qual (defScope st) s.heap.objs.size f cdv)) → sp vs H Q E →
      ∃ t, PSs (cxOf CX0 P w K mg base N qual (defScope st) f cdv A outer s H E).nox (defBody st) t ∧
        t { nx := fun _ H' => Q .non H', rt := Q } (start N vs) H) :
    GFn P w K mg base CX0 (k + 1) f fd ps sp := by
  obtain ⟨oc, od, kV, doc, pm, an, cdv, ct, osl, rfl, lk, hcd⟩ := F.ex
  refine ⟨len, fun A outer s H args us vs Q E gd hr e0 hb r hsp => ?_⟩
  have hl := len _ _ _ _ hsp
  have hK : K.In s.heap := e0.mod.kin.keeps fun b o e => (e0.bs b o e).1
  have hlim : s.heap.NoLimit := e0.mod.nolimit.keeps fun b o e => (e0.bs b o e).1
  have kinds : ∀ y ∈ ps.zip us, (defScope st).names.lookup y.1 = some .local ∨
      ((defScope st).names.lookup y.1 = some .cell ∧
        ((cellsFrom (s.heap.objs.size + 1) (defScope st).names []).lookup y.1).isSome = true) := by
    rintro ⟨n, v⟩ hy
    rcases S.par n (List.of_mem_zip hy).1 with q | q
    · exact .inl q
    · exact .inr ⟨q, PySem.W.cellsFrom_some _ _ _ (.inl q)⟩
  refine codeAny_call_function hr.depth (hK _ _ lk) rfl S.co S.gen rfl (PySem.W.codeRec_of hK hcd) (hb _ _ _ _ ?_)
  refine wpAny_newFunctionEnv_cells S.kind kinds fun env he s1 x => ?_
  subst he
  refine ⟨hlim.keeps x.toInCall.keep, codeAny_func ?_⟩
  obtain ⟨t, ht, hq⟩ := body cdv A outer s H vs Q E gd (hr.deeper _) hsp
  have I := inv_start (CX := CX0) (P := P) (mg := mg) (E := E) S hr.hd e0 hl r x
  refine wpAny_mono (ht.nox.run [] s1 (start N vs) H _ I hq) (fun fl s' hs => ?_) fun e s' hs => hs
  cases fl with
  | ret u =>
    obtain ⟨v, σ', H', J, rv, q⟩ := hs
    exact ⟨v, H', J.os, J.bare, J.base, J.hok, rv, q⟩
  | next =>
    obtain ⟨σ', H', J, q⟩ := hs
    exact ⟨V.non, H', J.os, J.bare, J.base, J.hok, rfl, q⟩
  | brk =>
    obtain ⟨_, _, _, q⟩ := hs
    exact False.elim q
  | cont =>
    obtain ⟨_, _, _, q⟩ := hs
    exact False.elim q
end
section
variable {X : Cx} {CX : CXT} {k : Nat} {f : Addr} {fd : FuncData} {ps : List Str} {sp : Sp}
variable {dvs : List V} {ds : List Value} {E : XK}
theorem run_g {pins : List (Addr × Obj)} {σ : L2.St} {H : Hp} {s : Shared} {Q : VK} {us : List Value} {vs : List V}
    (F : GFn X.prog X.w X.K X.mg X.base CX k f fd ps sp) (hg : X.A.guards = some []) (hr : Room k X.A)
    (hb : Binds X.K fd ps ds) (hd : Vals dvs ds) (hx : Passes CX X E) (I : Inv X pins σ H s) (r : Vals vs us)
    (h : sp (vs ++ dvs) H Q E) : wpAny (model X.prog X.w) X.A (call (.ref f) us) (EP X pins σ Q) X.xe s := by
  have r2 := r.append hd
  have hl : (us ++ ds).length = ps.length := by
    rw [← r2.length]
    exact F.many _ _ _ _ h
  refine wpAny_call (codeAny_mono (F.go X.A X.stack s H ⟨us, []⟩ _ _ Q E hg hr I.env0 (hb s us I.kIn hl) r2 h) ?_)
  intro r s' hq
  cases r with
  | error e => exact hx pins σ H s e s' I hq
  | ok fl =>
    cases fl with
    | ret u => exact I.after hq
    | next => exact hq.elim
    | brk => exact hq.elim
    | cont => exact hq.elim
theorem pe_callG {x : Str} {p pos : Pos} {e : Expr} {es : List Expr} {t : TA}
    (F : GFn X.prog X.w X.K X.mg X.base CX k f fd ps sp) (gd : X.A.guards = some []) (hr : Room k X.A) (hg : Gl X x)
    (hm : X.mg x = some (.ref f)) (hk : PySem.W.keepIn X.K (.ref f) = true) (hb : Binds X.K fd ps ds) (hd : Vals dvs ds)
    (hx : Passes CX X E) (ha : PA X (e :: es) t) (hdb : (x == ("__debug__" : Str)) = false := by decide)
    (he : starEach (e :: es) X.env = (false, eval e X.env) :: starEach es X.env := by rfl)
    (hpl : (backTo pos (starEach es X.env)).any (·.1) = false := by rfl) :
    PE X (.Call (.Name x p) (e :: es) [] pos) (tCall sp dvs E t) := by
  refine ⟨fun pins s σ H Q I h => wpAny_Call_Name_kw (ld_glob I hg hm ?_ hdb)⟩
  refine PySem.W.callWith_K (h₀ := X.base) I.ok.mod.kin hk (thn (ha.run pos pins s σ H _ I h) ?_) he hpl
  exact fun us s1 ⟨vs, H1, I1, r, q⟩ => ⟨I1.kIn, run_g F gd hr hb hd hx I1 r q⟩
end
theorem law_callG {P : Program} {w : World} {K : PySem.W.Frag} {mg mb : Str → Option Value} {k : Nat} {fa a : Addr}
    {fd : FuncData} {x : Str} {sp : Sp} {s1 : Shared} {vs : List Value} {ns : List Int} (KX : K.In s1.heap)
    (hns : s1.heap.Ns mainGlobals mg) (hb : s1.heap.Ns builtinsNs mb) (hbb : ∀ x : Str, x ≠ "__name__" → mb x = bootBuiltins x)
    (hlim : s1.heap.NoLimit) (hg : s1.gens = #[]) (ha : s1.heap.get? a = some { cls := .type "list", data := .seq vs.toArray })
    (hi : IntsAre vs ns) (hl : ns.length ≤ sizeLine) (hr : Room k callerA)
    (F : ∀ base : Heap, K.In base → base.Ns mainGlobals mg → GFn P w K mg base CX0 k fa fd [x] sp)
    (hbind : ∀ (s : Shared) (u : Value), BindsTo s fd ⟨[u], []⟩ [(x, u)])
    (hsp : ∀ H : Hp, Only H → SqL K H a (ns.map V.int) → sp [.ref a] H (fun v _ => v = .bl true) fun _ _ _ => False) :
    codeAny (model P w) callerA (.call (.ref fa) ⟨[.ref a], []⟩)
      (fun r s' => r = .ok (.ret (.bool true)) ∧ OldK s1.heap s'.heap ∧ s'.os = s1.os ∧ AllBare s'.gens) s1 := by
  have rv := vals_ints hi
  have lenV := hi.length
  have core : ∀ H : Hp, Only H → SqL K H a (ns.map V.int) → HOk P w H s1.heap → (∀ b, H b ≠ none → b = a) →
      (H a ≠ none → K.lookup a = none) → codeAny (model P w) callerA (.call (.ref fa) ⟨[.ref a], []⟩)
        (fun r s' => r = .ok (.ret (.bool true)) ∧ OldK s1.heap s'.heap ∧ s'.os = s1.os ∧ AllBare s'.gens) s1 := by
    intro H hO hS hok hA hK
    have one : ∀ {b : Addr}, H b ≠ none → b = a := fun {b} z => hA b z
    have noA : ∀ {b : Addr} {o : Obj} {es : Array DictEntry} {ep : Nat}, s1.heap.get? b = some o → o.data = .dict es ep → H b = none := by
      intro b o es ep e d
      cases q : H b with
      | none => rfl
      | some u =>
        have e' : b = a := one (by rw [q]; simp)
        subst e'
        rw [ha] at e; cases e
        exact absurd d (by intro z; cases z)
    have nsK : ∀ {b : Addr} {m : Str → Option Value}, s1.heap.Ns b m → (hidT s1.heap H).Ns b m := by
      rintro b m ⟨o, es, ep, e, d, r⟩
      exact ⟨o, es, ep, hidT_get e (noA e d), d, r⟩
    have hKb : K.In (hidT s1.heap H) := by
      intro b o e
      refine hidT_get (KX b o e) ?_
      cases q : H b with
      | none => rfl
      | some u =>
        have e' : b = a := one (by rw [q]; simp)
        subst e'
        rw [hK (by rw [q]; simp)] at e; cases e
    have hM : Mod K mg (hidT s1.heap H) :=
      ⟨hKb, nsK hns, ⟨mb, nsK hb, hbb⟩, let ⟨mc, h1, h2⟩ := hlim; ⟨mc, nsK h1, h2⟩⟩
    have e0 : Env0 P w K mg (hidT s1.heap H) callerA [] s1 H :=
      ⟨rfl, hM, fun b o e => of_hidT e, Nat.le_of_eq (hidT_size _ _), trivial,
        fun b hb => absurd (show b ∈ ([] : List Addr) from hb) (by simp), hok, .of_eq hg⟩
    have G := F _ hKb (nsK hns)
    refine codeAny_mono (G.go callerA [] s1 H ⟨[.ref a], []⟩ [.ref a] [.ref a] _ _ rfl hr e0 (hbind s1 (.ref a)) (.cons rfl .nil) (hsp H hO hS)) ?_
    intro r s' h
    cases r with
    | error e => exact False.elim h
    | ok fl =>
      cases fl with
      | next => exact h.elim
      | brk => exact h.elim
      | cont => exact h.elim
      | ret u =>
        obtain ⟨v, H', os, bare, un, hok', r', q⟩ := h
        obtain rfl : v = .bl true := q
        obtain rfl : u = Value.bool true := r'
        refine ⟨rfl, OldK.of_keep fun b o e => ?_, os, bare⟩
        cases q : H b with
        | none =>
          refine un.keep b o e q ?_ (by simp)
          intro z
          exact absurd (show b ∈ ([] : List Addr) from z) (by simp)
        | some u =>
          rcases hO b with z | ⟨ob, xs, z⟩
          · rw [q] at z; cases z
          · obtain ⟨e1, _⟩ := hok b _ z
            obtain ⟨e2, _⟩ := hok' b _ (un.frzs b ob _ z)
            rw [e] at e1; cases e1
            exact e2
  cases hk : K.lookup a with
  | some o =>
    have e := KX a o hk
    rw [ha] at e
    cases e
    refine core (fun _ => none) (fun _ => .inl rfl) (.inr ⟨_, vs.toArray, _, hk, rfl, rfl, rfl, ?_, by simpa using rv⟩) ?_ (fun b z => absurd rfl z) fun z => absurd rfl z
    · rw [List.size_toArray, lenV]
      exact hl
    · intro b u z
      have z' : (none : Option HO) = some u := z
      cases z'
  | none =>
    let Hs : Hp := fun b => if b = a then some (.frz { cls := .type "list", data := .seq vs.toArray } (.lst (ns.map V.int))) else none
    have hin : ∀ {b}, b = a → Hs b = some (.frz { cls := .type "list", data := .seq vs.toArray } (.lst (ns.map V.int))) := fun e => if_pos e
    have hout : ∀ {b}, b ≠ a → Hs b = none := fun e => if_neg e
    refine core Hs (fun b => ?_) (.inl (.inr ⟨_, hin rfl⟩)) (fun b u z => ?_) (fun b z => ?_) fun _ => hk
    · by_cases e : b = a
      · exact .inr ⟨_, _, hin e⟩
      · exact .inl (hout e)
    · by_cases e : b = a
      · rw [hin e] at z
        cases z
        subst e
        exact ⟨ha, by rw [List.length_map]; exact hl, vs, _, rv, ha⟩
      · rw [hout e] at z
        cases z
    · by_cases e : b = a
      · exact e
      · exact absurd (hout e) z
/-- the head's goal, from the law's promise -/
theorem walk_ofG {l : PySem.W.OpenLaw} {n k : Nat} {q : Program} {loose : List Str} {XP : (Str → Option Value) → Heap → Prop}
    {YP : World → Heap → Prop} {d : DefRec} {K : Params → PySem.W.Frag} {sp : World → Sp} {x : Str}
    (hn : l.most = some n) (hn2 : n ≤ sizeLine) (hdf : d.params.defaults = []) (hr : Room k callerA)
    (hY : ∀ (w : World) (h : Heap), YP w h → (K w.params).In h)
    (F : ∀ (w : World) (mg : Str → Option Value) (fa : Addr) (h : Heap), (K w.params).In h → h.Ns mainGlobals mg →
      mg d.name = some (.ref fa) → ∃ fd : FuncData, (∀ (s : Shared) (u : Value), BindsTo s fd ⟨[u], []⟩ [(x, u)]) ∧
        ∀ base : Heap, (K w.params).In base → base.Ns mainGlobals mg → GFn l.prog w (K w.params) mg base CX0 k fa fd [x] (sp w))
    (hsp : ∀ (w : World) (H : Hp) (a : Addr) (ns : List Int), ns.length ≤ n → (∀ z ∈ ns, Builtin.Int.intBits z ≤ 1048576) →
      Only H → SqL (K w.params) H a (ns.map V.int) → sp w [.ref a] H (fun v _ => v = .bl true) fun _ _ _ => False) :
    PySem.W.WalkO q loose XP YP l.row.toRowW d [] (fun f vs => PySem.call f vs) := by
  refine Att.attach_callB hn hdf fun w s₀ s₁ mg mb fa o pm cd doc a vs ns G Y ho hd hcd hmg hobj hints hlen hbits hg => ?_
  have KX := hY w _ Y
  obtain ⟨fd, hb, hF⟩ := F w mg fa _ KX G.T.g hmg
  exact law_callG KX G.T.g G.T.b G.T.builtins G.T.nolimit hg hobj hints (Nat.le_trans hlen hn2) hr hF hb
    fun H hO hS => hsp w H a ns hlen hbits hO hS
end Gd
namespace Gd
open PySem PySem.Spec PyProof.Rows L2
abbrev tl (x : Str) : List Nat := x.cps.toList
def uAdd (K : PySem.W.Frag) : R2 := fun x y H Q => match x, y with
  | .int i, .int j => Q (.int (i + j)) H
  | .str a, .str b => a.length + b.length ≤ sizeLine ∧ Q (.str (a ++ b)) H
  | .ref a, .ref b => (∃ xs zs, SqL K H a xs ∧ SqL K H b zs ∧ xs.length + zs.length ≤ sizeLine ∧
      ∀ p, H p = none → Q (.ref p) (upd H p (.lst (xs ++ zs)))) ∨ rCatT K (.ref a) (.ref b) H Q
  | _, _ => False
def uSub : R2 := fun x y H Q => match x, y with
  | .int i, .int j => Q (.int (i - j)) H
  | _, _ => False
def strRep (a : Str) (n : Nat) : Str := ⟨(List.replicate n (tl a)).flatten.toArray⟩
def uMul : R2 := fun x y H Q => match x, y with
  | .int i, .int j => (CMul i j ∨ CMulW i j) ∧ Q (.int (i * j)) H
  | .str a, .int k => (k < 16777217 ∧ -16777217 < k ∧ a.length * k.toNat ≤ sizeLine) ∧ Q (.str (strRep a k.toNat)) H
  | .ref a, .int k => ∃ xs, H a = some (.lst xs) ∧ -(2 ^ 63) ≤ k ∧ k < 2 ^ 63 ∧ xs.length * k.toNat ≤ sizeLine ∧
      ∀ p, H p = none → Q (.ref p) (upd H p (.lst (List.replicate k.toNat xs).flatten))
  | _, _ => False
def uMod : R2 := fun x y H Q => match x, y with
  | .int i, .int j => 0 < j ∧ Q (.int (i % j)) H
  | _, _ => False
def uDiv : R2 := fun x y H Q => match x, y with
  | .int i, .int j => CDivW i j ∧ Q (.int (i / j)) H
  | _, _ => False
def CPowW (i j : Int) : Prop := 0 ≤ j ∧ (Builtin.Int.intBits i : Int) * j ≤ 2 ^ 27
def uPow : R2 := fun x y H Q => match x, y with
  | .int i, .int j => CPowW i j ∧ Q (.int (i ^ j.toNat)) H
  | _, _ => False
def uEq (K : PySem.W.Frag) : R2 := fun x y H Q => (scal x y = true ∧ Q (.bl (decide (x = y))) H) ∨ rEqD K x y H Q
def uNe (K : PySem.W.Frag) : R2 := fun x y H Q => (scal x y = true ∧ Q (.bl (!decide (x = y))) H) ∨ rNeD K x y H Q
def uLt : R2 := fun x y H Q => match x, y with
  | .int i, .int j => Q (.bl (decide (i < j))) H
  | .str a, .str b => Q (.bl (decide (tl a < tl b))) H
  | _, _ => False
def uGt : R2 := fun x y H Q => match x, y with
  | .int i, .int j => Q (.bl (decide (j < i))) H
  | .str a, .str b => Q (.bl (decide (tl b < tl a))) H
  | _, _ => False
def uLe : R2 := fun x y H Q => match x, y with
  | .int i, .int j => Q (.bl (decide (i ≤ j))) H
  | .str a, .str b => Q (.bl (!decide (tl b < tl a))) H
  | _, _ => False
def uGe : R2 := fun x y H Q => match x, y with
  | .int i, .int j => Q (.bl (decide (j ≤ i))) H
  | .str a, .str b => Q (.bl (!decide (tl a < tl b))) H
  | _, _ => False
def uIn (K : PySem.W.Frag) : R2 := fun x y H Q => match y with
  | .str z => ∃ c, x = .str ⟨#[c]⟩ ∧ Q (.bl (decide (c ∈ tl z))) H
  | .ref p => ∃ xs, (SqL K H p xs ∨ SqT K H p xs) ∧ flatV x = true ∧ xs.all flatV = true ∧ Q (.bl (inV x xs)) H
  | _ => False
section
variable {X : Cx}
theorem OpR.or {f : Value → Value → Sem Value} {r r' : R2} (h : OpR X f r) (h' : OpR X f r') :
    OpR X f (fun x y H Q => r x y H Q ∨ r' x y H Q) := by
  intro pins s σ H x y v u Q I rx ry q
  rcases q with q | q
  · exact h pins s σ H x y v u Q I rx ry q
  · exact h' pins s σ H x y v u Q I rx ry q
theorem OpR.imp {f : Value → Value → Sem Value} {r r' : R2} (h : OpR X f r) (g : ∀ x y H Q, r' x y H Q → r x y H Q) : OpR X f r' :=
  fun pins s σ H x y v u Q I rx ry q => h pins s σ H x y v u Q I rx ry (g x y H Q q)
theorem op_catQ : OpR X (binaryOp .Add) (fun x y H Q => ∃ a b xs zs, x = .ref a ∧ y = .ref b ∧ SqL X.K H a xs ∧ SqL X.K H b zs ∧ xs.length + zs.length ≤ sizeLine ∧
    ∀ p, H p = none → Q (.ref p) (upd H p (.lst (xs ++ zs)))) := by
  intro pins s σ H x y v u Q I rx ry h
  obtain ⟨l, b, xs, zs, rfl, rfl, hH, hH2, hz, q⟩ := h
  cases rx
  cases ry
  obtain ⟨its, r, ⟨⟨cls, dd, data, sl⟩, n, ho, hc, hd, hs⟩, z1⟩ := I.list hH
  obtain ⟨its2, r2, ⟨⟨cls2, dd2, data2, sl2⟩, n2, ho2, hc2, hd2, hs2⟩, z2⟩ := I.list hH2
  simp only at hc hd hs hc2 hd2 hs2
  subst hc hd hs hc2 hd2 hs2
  have e1 := r.length
  have e2 := r2.length
  have ea : its.toArray ++ its2.toArray = (its ++ its2).toArray := by simp
  refine concat_meets ⟨_, ho, rfl⟩ ⟨_, ho2, rfl⟩ noFill_list_add seq_list_add PySem.F.slot_list_add PySem.F.entry_list_add (PySem.F.args_list_add_2 _ _)
    (list_addW l b its.toArray its2.toArray n n2 none none sl sl2 (by rw [List.size_toArray, List.size_toArray]; omega)) ⟨ho, ho2, ?_⟩
  rw [ea]
  exact ⟨.ref _, _, I.lnew (t' := s.toks) (r.append r2) (by rw [List.length_append]; omega), rfl, q _ I.fresh⟩
theorem ou_add : OpR X (binaryOp .Add) (uAdd X.K) :=
  OpR.imp (OpR.or op_add (OpR.or op_add_str (OpR.or op_catQ op_catT))) fun x y H Q h => by
    cases x <;> cases y <;> first
      | exact False.elim h
      | exact .inl ⟨_, _, rfl, rfl, h⟩
      | exact .inr (.inl ⟨_, _, rfl, rfl, h.1, h.2⟩)
      | skip
    rcases h with ⟨xs, zs, h1, h2, h3, h4⟩ | h
    · exact .inr (.inr (.inl ⟨_, _, xs, zs, rfl, rfl, h1, h2, h3, h4⟩))
    · exact .inr (.inr (.inr h))
theorem ou_sub : OpR X (binaryOp .Sub) uSub := OpR.imp op_sub fun x y H Q h => by
  cases x <;> cases y <;> first
    | exact False.elim h
    | exact ⟨_, _, rfl, rfl, h⟩
theorem foldl_app (z : Array Nat) : ∀ (n : Nat) (acc : Array Nat), ((List.replicate n z).foldl (· ++ ·) acc).toList = acc.toList ++ (List.replicate n z.toList).flatten
  | 0, acc => by simp
  | n + 1, acc => by
    rw [List.replicate_succ, List.foldl_cons, foldl_app z n, List.replicate_succ, List.flatten_cons, Array.toList_append, List.append_assoc]
theorem strRep_len (a : Str) (n : Nat) : (strRep a n).length = a.length * n := by
  show (List.replicate n (tl a)).flatten.toArray.size = a.cps.size * n
  rw [List.size_toArray, List.length_flatten]
  simp [Nat.mul_comm]
theorem tl_rep (a : Str) (n : Nat) : tl (strRep a n) = (List.replicate n (tl a)).flatten := rfl
theorem ou_mulS {a : Str} {k : Int} {t u : Tok} {pins : List (Addr × Obj)} {s : Shared} {σ : L2.St} {H : Hp} {Q : VK} (I : Inv X pins σ H s)
    (hc : k < 16777217 ∧ -16777217 < k ∧ a.length * k.toNat ≤ sizeLine) (q : Q (.str (strRep a k.toNat)) H) :
    wpAny (model X.prog X.w) X.A (binaryOp .Mult (.str a t) (.int k u)) (EP X pins σ Q) X.xe s := by
  obtain ⟨h1, h2, h3⟩ := hc
  have hz := h3
  rw [sizeLine_eq] at h3
  have two : (2 : Int) ^ 63 = 9223372036854775808 := by decide
  refine PySem.P.mul_str ?_ (fun h0 h z => ?_) (fun h0 h => ?_) ?_
  · rw [two, decide_eq_false (by omega), decide_eq_false (by omega)]
    rfl
  · have hk : 0 < k := by omega
    have e1 : (a.length : Int) * k ≤ 16777216 := by
      have e : ((a.length * k.toNat : Nat) : Int) ≤ ((16777216 : Nat) : Int) := Int.ofNat_le.mpr h3
      rw [Int.natCast_mul, Int.toNat_of_nonneg (by omega)] at e
      exact e
    rw [two] at z
    have e2 := Int.mul_ediv_add_emod (9223372036854775808 - 1) k
    have e3 := Int.emod_lt_of_pos (9223372036854775808 - 1) hk
    have e4 : k * ((9223372036854775808 - 1) / k) ≤ k * (a.length : Int) := Int.mul_le_mul_of_nonneg_left (by omega) (by omega)
    rw [Int.mul_comm k (a.length : Int)] at e4
    generalize k * ((9223372036854775808 - 1) / k) = p at *
    generalize (a.length : Int) * k = r at *
    omega
  · unfold PySem.Builtin.Str.tooLong
    exact decide_eq_false (by omega)
  · by_cases h0 : k < 1
    · rw [if_pos h0]
      have e : strRep a k.toNat = Str.empty := by
        rw [show k.toNat = 0 by omega]
        rfl
      exact ⟨Nat.zero_le _, .str _, H, I.tok _, ⟨_, by rw [e]⟩, q⟩
    · rw [if_neg h0]
      by_cases h1' : (k == 1 || a.length == 0) = true
      · rw [if_pos h1']
        have e : strRep a k.toNat = a := by
          rw [Bool.or_eq_true, beq_iff_eq, beq_iff_eq] at h1'
          apply TL.ext_tl
          show tl (strRep a k.toNat) = tl a
          rw [tl_rep]
          rcases h1' with h1' | h1'
          · rw [h1']
            simp
          · have z : tl a = [] := by
              apply List.eq_nil_of_length_eq_zero
              simpa [tl, Str.length] using h1'
            rw [z]
            simp
        exact ⟨.str _, H, I, ⟨t, by rw [e]⟩, q⟩
      · rw [if_neg h1']
        have e : (⟨(List.replicate k.toNat a.cps).foldl (· ++ ·) #[]⟩ : Str) = strRep a k.toNat := by
          apply TL.ext_tl
          show ((List.replicate k.toNat a.cps).foldl (· ++ ·) #[]).toList = (List.replicate k.toNat (tl a)).flatten
          rw [foldl_app]
          simp [tl]
        refine ⟨?_, .str _, H, I.tok _, ⟨_, by rw [e]⟩, q⟩
        rw [e, strRep_len]
        exact hz
def rMulS : R2 := fun x y H Q => ∃ a k, x = .str a ∧ y = .int k ∧ (k < 16777217 ∧ -16777217 < k ∧ a.length * k.toNat ≤ sizeLine) ∧ Q (.str (strRep a k.toNat)) H
theorem op_mulS : OpR X (binaryOp .Mult) rMulS := by
  rintro pins s σ H x y v u Q I rx ry ⟨a, k, rfl, rfl, h, q⟩
  obtain ⟨t, rfl⟩ := rx
  obtain ⟨t', rfl⟩ := ry
  exact ou_mulS I h q
theorem ou_mul : OpR X (binaryOp .Mult) uMul :=
  OpR.imp (OpR.or op_mul (OpR.or op_mulW (OpR.or op_mulS op_rep))) fun x y H Q h => by
    cases x <;> cases y <;> first
      | exact False.elim h
      | exact .inr (.inr (.inl ⟨_, _, rfl, rfl, h.1, h.2⟩))
      | skip
    · rcases h.1 with c | c
      · exact .inl ⟨_, _, rfl, rfl, c, h.2⟩
      · exact .inr (.inl ⟨_, _, rfl, rfl, c, h.2⟩)
    · obtain ⟨xs, h1, h2, h3, h4, h5⟩ := h
      exact .inr (.inr (.inr ⟨_, _, xs, rfl, rfl, h1, h2, h3, h4, h5⟩))
theorem ou_mod : OpR X (binaryOp .Mod) uMod := OpR.imp op_mod fun x y H Q h => by
  cases x <;> cases y <;> first
    | exact False.elim h
    | exact ⟨_, _, rfl, rfl, h.1, h.2⟩
theorem ou_div : OpR X (binaryOp .FloorDiv) uDiv := OpR.imp op_fdivW fun x y H Q h => by
  cases x <;> cases y <;> first
    | exact False.elim h
    | exact ⟨_, _, rfl, rfl, h.1, h.2⟩
theorem op_powW : OpR X (binaryOp .Pow) (rI CPowW fun i j => .int (i ^ j.toNat)) := opI fun _ _ _ _ _ _ _ hc q => pow_int hc.1 hc.2 q
theorem ou_pow : OpR X (binaryOp .Pow) uPow := OpR.imp op_powW fun x y H Q h => by
  cases x <;> cases y <;> first
    | exact False.elim h
    | exact ⟨_, _, rfl, rfl, h.1, h.2⟩
theorem ou_eq (hu : X.A.units + 64 < cLine) : OpR X (compareOp .Eq) (uEq X.K) := OpR.or op_eq (op_eqD hu)
theorem ou_ne (hu : X.A.units + 64 < cLine) : OpR X (compareOp .NotEq) (uNe X.K) := OpR.or op_ne (op_neD hu)
theorem ou_lt : OpR X (compareOp .Lt) uLt := OpR.imp (OpR.or op_lt op_lt_str) fun x y H Q h => by
  cases x <;> cases y <;> first
    | exact False.elim h
    | exact .inl ⟨_, _, rfl, rfl, h⟩
    | exact .inr ⟨_, _, rfl, rfl, h⟩
theorem ou_gt : OpR X (compareOp .Gt) uGt := OpR.imp (OpR.or op_gt op_gt_str) fun x y H Q h => by
  cases x <;> cases y <;> first
    | exact False.elim h
    | exact .inl ⟨_, _, rfl, rfl, h⟩
    | exact .inr ⟨_, _, rfl, rfl, h⟩
theorem ou_le : OpR X (compareOp .LtE) uLe := OpR.imp (OpR.or op_le op_le_str) fun x y H Q h => by
  cases x <;> cases y <;> first
    | exact False.elim h
    | exact .inl ⟨_, _, rfl, rfl, h⟩
    | exact .inr ⟨_, _, rfl, rfl, h⟩
theorem ou_ge : OpR X (compareOp .GtE) uGe := OpR.imp (OpR.or op_ge op_ge_str) fun x y H Q h => by
  cases x <;> cases y <;> first
    | exact False.elim h
    | exact .inl ⟨_, _, rfl, rfl, h⟩
    | exact .inr ⟨_, _, rfl, rfl, h⟩
theorem ou_in : OpR X (compareOp .In) (uIn X.K) := OpR.imp (OpR.or op_in_sign op_in_seq) fun x y H Q h => by
  cases y <;> first
    | exact False.elim h
    | (obtain ⟨c, e, q⟩ := h
       exact .inl ⟨c, _, e, rfl, q⟩)
    | (obtain ⟨xs, h1, h2, h3, q⟩ := h
       exact .inr ⟨_, xs, rfl, h1, h2, h3, q⟩)
end
end Gd
namespace Gd
open PySem PySem.Spec PyProof.Rows L2
/-- all that is tracked stays, but at S -/
def Kp (S : List Addr) (H H' : Hp) : Prop := ∀ b o, H b = some o → b ∉ S → H' b = some o
section
variable {S T : List Addr} {H H1 H2 H' : Hp} {a b p : Addr} {o u : HO}
theorem Kp.refl : Kp S H H := fun _ _ h _ => h
theorem Kp.get (k : Kp S H H') (h : H b = some o) (n : b ∉ S) : H' b = some o := k b o h n
theorem Kp.get0 (k : Kp [] H H') (h : H b = some o) : H' b = some o := k b o h (by simp)
theorem Kp.new (k : Kp S H H') (h : H' p = none) : Kp S H (upd H' p o) := fun b u e n => by
  have e2 := k b u e n
  rw [upd_ne (ne_of_none e2 h)]
  exact e2
theorem Kp.mutS (k : Kp S H H') (h : p ∈ S) : Kp S H (upd H' p o) := fun b u e n => by
  rw [upd_ne (fun z => n (by rw [z]; exact h))]
  exact k b u e n
theorem Kp.call (k : Kp S H H1) (l : Kp T H1 H2) (h : ∀ t ∈ T, t ∈ S ∨ H t = none) : Kp S H H2 := fun b u e n =>
  l b u (k b u e n) fun z => (h b z).elim n fun w => by rw [e] at w; cases w
theorem Kp.mem (k : Kp S H H') (h : ∀ t ∈ S, t ∈ T) : Kp T H H' := fun b u e n => k b u e fun z => n (h b z)
theorem Same.kp (s : Same H H') : Kp S H H' := fun b u e _ => s b u e
end
section
variable {X : Cx} {K : PySem.W.Frag} {σ : L2.St} {H : Hp} {Q : VK} {D : Ends} {v x y : V} {ta tb te tc : TE} {r : R2} {t u : TS} {i : Nat}
/-- a test by truth -/
def uTru (K : PySem.W.Frag) (ta : TE) : TT := fun σ H Q => ta σ H fun x H' => ∃ k, TruV K x H' k ∧ Q k H'
theorem u_addI {a b : Int} (q : Q (.int (a + b)) H) : uAdd K (.int a) (.int b) H Q := q
theorem u_addS {a b : Str} (h : a.length + b.length ≤ sizeLine) (q : Q (.str (a ++ b)) H) : uAdd K (.str a) (.str b) H Q := ⟨h, q⟩
theorem u_addL {a b : Addr} {xs zs : List V} (h1 : SqL K H a xs) (h2 : SqL K H b zs) (h3 : xs.length + zs.length ≤ sizeLine)
    (q : ∀ p, H p = none → Q (.ref p) (upd H p (.lst (xs ++ zs)))) : uAdd K (.ref a) (.ref b) H Q := .inl ⟨xs, zs, h1, h2, h3, q⟩
theorem u_subI {a b : Int} (q : Q (.int (a - b)) H) : uSub (.int a) (.int b) H Q := q
theorem u_mulI {a b : Int} (h : CMul a b ∨ CMulW a b) (q : Q (.int (a * b)) H) : uMul (.int a) (.int b) H Q := ⟨h, q⟩
theorem u_mulS {a : Str} {k : Int} (h1 : k < 16777217) (h2 : -16777217 < k) (h3 : a.length * k.toNat ≤ sizeLine) (q : Q (.str (strRep a k.toNat)) H) : uMul (.str a) (.int k) H Q := ⟨⟨h1, h2, h3⟩, q⟩
theorem u_mod {a b : Int} (h : 0 < b) (q : Q (.int (a % b)) H) : uMod (.int a) (.int b) H Q := ⟨h, q⟩
theorem u_div {a b : Int} (h : 0 < b) (h2 : b.natAbs.log2 < 9000) (q : Q (.int (a / b)) H) : uDiv (.int a) (.int b) H Q := ⟨⟨h, h2⟩, q⟩
theorem u_pow {a b : Int} (h : CPowW a b) (q : Q (.int (a ^ b.toNat)) H) : uPow (.int a) (.int b) H Q := ⟨h, q⟩
theorem u_eqI {a b : Int} (q : Q (.bl (decide (a = b))) H) : uEq K (.int a) (.int b) H Q := .inl ⟨rfl, by
  rw [show decide (V.int a = V.int b) = decide (a = b) by simp]
  exact q⟩
theorem u_eqS {a b : Str} (q : Q (.bl (decide (a = b))) H) : uEq K (.str a) (.str b) H Q := .inl ⟨rfl, by
  rw [show decide (V.str a = V.str b) = decide (a = b) by simp]
  exact q⟩
theorem u_neS {a b : Str} (q : Q (.bl (!decide (a = b))) H) : uNe K (.str a) (.str b) H Q := .inl ⟨rfl, by
  rw [show decide (V.str a = V.str b) = decide (a = b) by simp]
  exact q⟩
theorem u_eqB {a b : Bool} (q : Q (.bl (a == b)) H) : uEq K (.bl a) (.bl b) H Q := .inl ⟨rfl, by
  rw [show decide (V.bl a = V.bl b) = (a == b) by cases a <;> cases b <;> rfl]
  exact q⟩
theorem u_neB {a b : Bool} (q : Q (.bl (!(a == b))) H) : uNe K (.bl a) (.bl b) H Q := .inl ⟨rfl, by
  rw [show decide (V.bl a = V.bl b) = (a == b) by cases a <;> cases b <;> rfl]
  exact q⟩
theorem u_eqD {d e : PyData} (h1 : Dp K H x d) (h2 : Dp K H y e) (h3 : SeqAt.shaped d = true) (h4 : SeqAt.shaped e = true) (q : Q (.bl (PyData.eqv d e)) H) : uEq K x y H Q := .inr ⟨d, e, h1, h2, h3, h4, q⟩
theorem u_neD {d e : PyData} (h1 : Dp K H x d) (h2 : Dp K H y e) (h3 : SeqAt.shaped d = true) (h4 : SeqAt.shaped e = true) (q : Q (.bl (!PyData.eqv d e)) H) : uNe K x y H Q := .inr ⟨d, e, h1, h2, h3, h4, q⟩
theorem u_ltI {a b : Int} (q : Q (.bl (decide (a < b))) H) : uLt (.int a) (.int b) H Q := q
theorem u_gtI {a b : Int} (q : Q (.bl (decide (b < a))) H) : uGt (.int a) (.int b) H Q := q
theorem u_leI {a b : Int} (q : Q (.bl (decide (a ≤ b))) H) : uLe (.int a) (.int b) H Q := q
theorem u_geI {a b : Int} (q : Q (.bl (decide (b ≤ a))) H) : uGe (.int a) (.int b) H Q := q
theorem u_ltS {a b : Str} (q : Q (.bl (decide (tl a < tl b))) H) : uLt (.str a) (.str b) H Q := q
theorem u_inS {c : Nat} {z : Str} (q : Q (.bl (decide (c ∈ tl z))) H) : uIn K (.str ⟨#[c]⟩) (.str z) H Q := ⟨c, rfl, q⟩
end
def uLen (K : PySem.W.Frag) : List V → Hp → VK → Prop := fun xs H Q => ∃ x n, xs = [x] ∧ LenV K x H n ∧ Q (.int n) H
theorem cu_len {X : Cx} : CallR X (.builtin "len") (uLen X.K) := call_len
section
variable {K : PySem.W.Frag} {H : Hp} {Q : VK} {a : Addr} {xs : List V}
theorem u_lenS {s : Str} (h : s.length ≤ sizeLine) (q : Q (.int (s.length : Int)) H) : uLen K [.str s] H Q := ⟨_, s.length, rfl, ⟨h, rfl⟩, q⟩
theorem u_lenL (h : SqL K H a xs) (q : Q (.int (xs.length : Int)) H) : uLen K [.ref a] H Q := ⟨_, xs.length, rfl, .inl ⟨xs, h, rfl⟩, q⟩
theorem u_lenT (h : SqT K H a xs) (q : Q (.int (xs.length : Int)) H) : uLen K [.ref a] H Q := ⟨_, xs.length, rfl, .inr ⟨xs, h, rfl⟩, q⟩
end
/-- isinstance by the type's name -/
def kinds : List String := ["NoneType", "bool", "int", "str", "list", "tuple", "dict"]
def isi (T C : String) : Bool := T == C || (T == "bool" && C == "int")
theorem isi_ok : ∀ T ∈ kinds, ∀ C ∈ ["bool", "int", "str", "list", "tuple", "dict"], kitB T C = some (isi T C) := by decide +kernel
inductive TyN (K : PySem.W.Frag) (H : Hp) : V → String → Prop
  | non : TyN K H .non "NoneType"
  | bl (b : Bool) : TyN K H (.bl b) "bool"
  | int (i : Int) : TyN K H (.int i) "int"
  | str (s : Str) : TyN K H (.str s) "str"
  | lst {a : Addr} {xs : List V} (h : SqL K H a xs) : TyN K H (.ref a) "list"
  | tup {a : Addr} {xs : List V} (h : H a = some (.tup xs)) : TyN K H (.ref a) "tuple"
  | dct {a : Addr} {kvs : List (Key × V)} (h : H a = some (.dK kvs)) : TyN K H (.ref a) "dict"
theorem TyN.mem {K : PySem.W.Frag} {H : Hp} {x : V} {T : String} (h : TyN K H x T) : T ∈ kinds := by
  cases h <;> decide
theorem TyN.x {K : PySem.W.Frag} {H : Hp} {x : V} {T : String} (h : TyN K H x T) : TyX K H x (.type T) := by
  cases h with
  | non => exact .base .non
  | bl b => exact .base (.bl b)
  | int i => exact .base (.int i)
  | str s => exact .base (.str s)
  | lst h =>
    rcases h with (h | ⟨o, h⟩) | ⟨o, its, n, h1, h2, _⟩
    · exact .base (.lst h)
    · exact .base (.frz h)
    · exact .kList h1 h2
  | tup h => exact .base (.tup h)
  | dct h => exact .base (.dK h)
def uIsi (K : PySem.W.Frag) : List V → Hp → VK → Prop := fun xs H Q => ∃ x C T, xs = [x, .ty C] ∧ C ∈ ["bool", "int", "str", "list", "tuple", "dict"] ∧ TyN K H x T ∧ Q (.bl (isi T C)) H
theorem cu_isi {X : Cx} : CallR X (.builtin "isinstance") (uIsi X.K) := by
  intro pins s σ H xs us Q I r h
  obtain ⟨x, C, T, rfl, hC, hT, q⟩ := h
  exact call_isi pins s σ H _ us Q I r ⟨x, .ty C, _, .type C, isi T C, rfl, .ty C, hT.x, kit_ty (isi_ok T hT.mem C hC), q⟩
theorem u_isi {K : PySem.W.Frag} {H : Hp} {Q : VK} {x : V} {C T : String} (h : TyN K H x T) (q : Q (.bl (isi T C)) H) (hC : C ∈ ["bool", "int", "str", "list", "tuple", "dict"] := by decide) : uIsi K [x, .ty C] H Q := ⟨x, C, T, rfl, hC, h, q⟩
end Gd
namespace Gd
open PySem PySem.Spec PyProof.Rows L2
mutual
inductive Dq (N : Addr → Prop) (H : Hp) : V → PyData → Prop
  | non : Dq N H .non .none
  | bl (b : Bool) : Dq N H (.bl b) (.bool b)
  | int (i : Int) : Dq N H (.int i) (.int i)
  | str (x : Str) : Dq N H (.str x) (.str x)
  | lst {a : Addr} {xs : List V} {ds : List PyData} (n : N a) (h : H a = some (.lst xs)) (r : DqL N H xs ds) : Dq N H (.ref a) (.list ds)
  | tup {a : Addr} {xs : List V} {ds : List PyData} (n : N a) (h : H a = some (.tup xs)) (r : DqL N H xs ds) : Dq N H (.ref a) (.tuple ds)
  | d0 {a : Addr} (n : N a) (h : H a = some (.dK [])) : Dq N H (.ref a) (.dict [])
inductive DqL (N : Addr → Prop) (H : Hp) : List V → List PyData → Prop
  | nil : DqL N H [] []
  | cons {v : V} {vs : List V} {d : PyData} {ds : List PyData} (h : Dq N H v d) (r : DqL N H vs ds) : DqL N H (v :: vs) (d :: ds)
end
section
variable {N M : Addr → Prop} {H H' : Hp} {S : List Addr}
mutual
theorem Dq.mono (k : ∀ b o, N b → H b = some o → H' b = some o) (m : ∀ b, N b → M b) : ∀ (d : PyData) (v : V), Dq N H v d → Dq M H' v d
  | .none, _, h => by cases h; exact .non
  | .bool b, _, h => by cases h; exact .bl b
  | .int i, _, h => by cases h; exact .int i
  | .str x, _, h => by cases h; exact .str x
  | .list ds, _, h => by
    cases h with
    | lst n h r => exact .lst (m _ n) (k _ _ n h) (DqL.mono k m ds _ r)
  | .tuple ds, _, h => by
    cases h with
    | tup n h r => exact .tup (m _ n) (k _ _ n h) (DqL.mono k m ds _ r)
  | .dict _, _, h => by
    cases h with
    | d0 n h => exact .d0 (m _ n) (k _ _ n h)
theorem DqL.mono (k : ∀ b o, N b → H b = some o → H' b = some o) (m : ∀ b, N b → M b) : ∀ (ds : List PyData) (vs : List V), DqL N H vs ds → DqL M H' vs ds
  | [], _, h => by cases h; exact .nil
  | d :: ds, _, h => by
    cases h with
    | cons h r => exact .cons (Dq.mono k m d _ h) (DqL.mono k m ds _ r)
end
theorem Dq.kp {d : PyData} {v : V} (h : Dq N H v d) (k : Kp S H H') (n : ∀ b, N b → b ∉ S) : Dq N H' v d := Dq.mono (fun b o a e => k b o e (n b a)) (fun _ a => a) d v h
theorem DqL.kp {ds : List PyData} {vs : List V} (h : DqL N H vs ds) (k : Kp S H H') (n : ∀ b, N b → b ∉ S) : DqL N H' vs ds := DqL.mono (fun b o a e => k b o e (n b a)) (fun _ a => a) ds vs h
theorem Dq.new {d : PyData} {v : V} {p : Addr} {o : HO} (h : Dq N H v d) (np : H p = none) : Dq N (upd H p o) v d :=
  Dq.mono (fun b u _ e => by rw [upd_ne (ne_of_none e np)]; exact e) (fun _ a => a) d v h
theorem DqL.new {d : List PyData} {v : List V} {p : Addr} {o : HO} (h : DqL N H v d) (np : H p = none) : DqL N (upd H p o) v d :=
  DqL.mono (fun b u _ e => by rw [upd_ne (ne_of_none e np)]; exact e) (fun _ a => a) d v h
theorem Dq.mut {d : PyData} {v : V} {p : Addr} {o : HO} (h : Dq N H v d) (np : ¬ N p) : Dq N (upd H p o) v d :=
  Dq.mono (fun b u a e => by rw [upd_ne (fun z => np (by rw [← z]; exact a))]; exact e) (fun _ a => a) d v h
theorem DqL.mut {d : List PyData} {v : List V} {p : Addr} {o : HO} (h : DqL N H v d) (np : ¬ N p) : DqL N (upd H p o) v d :=
  DqL.mono (fun b u a e => by rw [upd_ne (fun z => np (by rw [← z]; exact a))]; exact e) (fun _ a => a) d v h
theorem DqL.app : ∀ {vs us : List V} {ds es : List PyData}, DqL N H vs ds → DqL N H us es → DqL N H (vs ++ us) (ds ++ es)
  | [], _, _, _, h, g => by cases h; exact g
  | v :: vs, _, _, _, h, g => by
    cases h with
    | cons h r => exact .cons h (r.app g)
theorem DqL.get : ∀ {vs : List V} {ds : List PyData} {i : Nat} {v : V}, DqL N H vs ds → vs[i]? = some v → ∃ d, ds[i]? = some d ∧ Dq N H v d
  | [], _, i, _, _, e => by simp at e
  | u :: vs, _, 0, v, h, e => by
    cases h with
    | cons h r =>
      simp at e
      subst e
      exact ⟨_, rfl, h⟩
  | u :: vs, _, i + 1, v, h, e => by
    cases h with
    | cons h r =>
      obtain ⟨d, e2, h2⟩ := r.get (i := i) (by simpa using e)
      exact ⟨d, by simpa using e2, h2⟩
theorem dqL_strs : ∀ ws : List Str, DqL N H (ws.map V.str) (ws.map PyData.str)
  | [] => .nil
  | w :: ws => .cons (.str w) (dqL_strs ws)
mutual
theorem Dq.dp {K : PySem.W.Frag} : ∀ (d : PyData) (v : V), d.hasDict = false → Dq N H v d → Dp K H v d
  | .none, _, _, h => by cases h; exact .non
  | .bool b, _, _, h => by cases h; exact .bl b
  | .int i, _, _, h => by cases h; exact .int i
  | .str x, _, _, h => by cases h; exact .str x
  | .list ds, _, z, h => by
    cases h with
    | lst n h r => exact .lst (SqL.of h) (DqL.dp ds _ (by simpa only [PyData.hasDict] using z) r)
  | .tuple ds, _, z, h => by
    cases h with
    | tup n h r => exact .tup (SqT.of h) (DqL.dp ds _ (by simpa only [PyData.hasDict] using z) r)
  | .dict _, _, z, _ => by simp [PyData.hasDict] at z
theorem DqL.dp {K : PySem.W.Frag} : ∀ (ds : List PyData) (vs : List V), PyData.hasDictAll ds = false → DqL N H vs ds → DpAll K H vs ds
  | [], _, _, h => by cases h; exact .nil
  | d :: ds, _, z, h => by
    simp only [PyData.hasDictAll, Bool.or_eq_false_iff] at z
    cases h with
    | cons h r => exact .cons (Dq.dp d _ z.1 h) (DqL.dp ds _ z.2 r)
end
end
theorem noDict_shaped (d : PyData) (h : SeqAt.shaped d = true) : d.hasDict = false := PyData.hasDict_of_canLay d (by
  unfold SeqAt.shaped at h
  simp only [Bool.and_eq_true] at h
  exact h.1)
/-- data, or the empty dict alone -/
inductive DqT (N : Addr → Prop) (H : Hp) : V → PyData → Prop
  | of {v : V} {d : PyData} (h : Dq N H v d) : DqT N H v d
  | d0 {a : Addr} (n : N a) (h : H a = some (.dK [])) : DqT N H (.ref a) (.dict [])
end Gd
namespace Gd
open PySem PySem.Spec PyProof.Rows L2
/-- what a for walks: a list, a tuple, a text -/
def iU (K : PySem.W.Frag) (te : TE) : TI := fun σ H R => te σ H fun v H1 =>
  (∃ a, v = .ref a ∧ (∃ xs, SqL K H1 a xs) ∧ R (Itl K a) H1) ∨ (∃ a, v = .ref a ∧ (∃ xs, SqT K H1 a xs) ∧ R (Itt K a) H1) ∨ ∃ x, v = .str x ∧ R (Its x) H1
theorem pi_u {X : Cx} {tg e : Expr} {te : TE} (he : PE X e te) : PI X tg e (iU X.K te) := by
  refine ⟨fun pins s σ H R I h => ?_⟩
  refine thn (he.run pins s σ H _ I h) fun v s1 ⟨y, H1, I1, r1, q1⟩ => ?_
  have one : ∀ b ∈ [s1.heap.objs.size], FpOk X pins H1 b := fun b hb => by
    rw [show b = s1.heap.objs.size by simpa using hb]
    exact I1.fpOk (Nat.le_refl _) (I1.hok.fresh (Nat.le_refl _))
  rcases q1 with ⟨a, rfl, ⟨xs, hq⟩, q⟩ | ⟨a, rfl, ⟨xs, hq⟩, q⟩ | ⟨x, rfl, q⟩
  · cases r1
    obtain ⟨its, rv, p, hz⟩ := I1.list hq
    exact wpAny_pyIter_list p.isList ⟨s1.heap.objs.size, [s1.heap.objs.size], _, _, H1, rfl,
      I1.kept (t' := s1.toks) fun b o e => Heap.get?_push_of_some _ e, turn_list a _, ⟨_, Heap.get?_push_size _ rfl, rfl, rfl⟩, one, q⟩
  · cases r1
    obtain ⟨its, rv, p, hz⟩ := I1.tuple hq
    exact wpAny_pyIter_tuple (show s1.heap.IsTuple a its.toArray from p) ⟨s1.heap.objs.size, [s1.heap.objs.size], _, _, H1, rfl,
      I1.kept (t' := s1.toks) fun b o e => Heap.get?_push_of_some _ e, turn_tuple a _, ⟨_, Heap.get?_push_size _ rfl, rfl, rfl⟩, one, q⟩
  · obtain ⟨t, rfl⟩ := r1
    cases ha : x.cps.all (· < 128)
    · exact wpAny_pyIter_wide ha (pi_one (tk := s1.toks) I1 _ (turn_str _ x t "str_iterator" (.inr rfl)) ⟨_, Heap.get?_push_size _ rfl, rfl, rfl⟩ q)
    · exact wpAny_pyIter_ascii ha (pi_one (tk := s1.toks) I1 _ (turn_str _ x t "str_ascii_iterator" (.inl rfl)) ⟨_, Heap.get?_push_size _ rfl, rfl, rfl⟩ q)
section
variable {K : PySem.W.Frag} {σ : L2.St} {H : Hp} {D : Ends} {g : TG} {tb : TS} {te : TE} {ta : TA} {Q : VK} {tt : TT} {ws : List Nat}
abbrev inD (D : Ends) (N : L2.St → Hp → Prop) : Ends := { D with nx := N, ct := N, bk := D.nx }
/-- the rest of a for, once its walk J has come -/
def Rf (g : TG) (tb : TS) (D : Ends) (σ : L2.St) (J : It) (H1 : Hp) : Prop := ∃ W : Nat → Nat → L2.St → Hp → Prop, (∃ m, W 0 m σ H1) ∧ ∀ i m σ H, W i m σ H →
  (J.stop i H ∧ D.nx σ H) ∨ (J.go i H ∧ ∃ N : L2.St → Hp → Prop, (∀ σ' H', N σ' H' → ∃ m', m' < m ∧ W (i + 1) m' σ' H') ∧
    ∀ x H', J.yld i H x H' → g x σ H' fun σ2 H2 => tb (inD D N) σ2 H2)
/-- the rest of a comprehension -/
def Rl (g : TG) (tt : TT) (te : TE) (ws : List Nat) (σ : L2.St) (Q : VK) (J : It) (H1 : Hp) : Prop := ∀ D, H1 D = none → ∃ W : Nat → Nat → Hp → Prop,
  (∃ m, W 0 m (upd H1 D (.lst []))) ∧ ∀ i m H, W i m H → (J.stop i H ∧ Q (.ref D) H) ∨ (J.go i H ∧ ∃ Nx : Hp → Prop, (∀ H', Nx H' → ∃ m', m' < m ∧ W (i + 1) m' H') ∧
    ∀ x H', J.yld i H x H' → g x (wipe σ ws) H' fun σ2 H2 => wipe σ2 ws = wipe σ ws ∧ tt σ2 H2 fun b H3 =>
      if b = true then te σ2 H3 fun y H4 => ∃ acc, H4 D = some (.lst acc) ∧ acc.length < sizeLine ∧ Nx (upd H4 D (.lst (acc ++ [y]))) else Nx H3)
def wU (K : PySem.W.Frag) (R : It → Hp → Prop) (v : V) (H1 : Hp) : Prop :=
  (∃ a, v = .ref a ∧ (∃ xs, SqL K H1 a xs) ∧ R (Itl K a) H1) ∨ (∃ a, v = .ref a ∧ (∃ xs, SqT K H1 a xs) ∧ R (Itt K a) H1) ∨ ∃ x, v = .str x ∧ R (Its x) H1
def wR1 (R : It → Hp → Prop) (vs : List V) (H1 : Hp) : Prop := ∃ j : Int, vs = [.int j] ∧ -(2 ^ 62) ≤ j ∧ j < 2 ^ 62 ∧ R (Itr 0 j.toNat) H1
def wZ (K : PySem.W.Frag) (R : It → Hp → Prop) (vs : List V) (H1 : Hp) : Prop := ∃ a b xs ys, vs = [.ref a, .ref b] ∧ SqL K H1 a xs ∧ SqL K H1 b ys ∧ R (Itz K a b) H1
def wV (K : PySem.W.Frag) (R : It → Hp → Prop) (vs : List V) (H1 : Hp) : Prop := ∃ (a : Addr) (xs : List V), vs = [.ref a] ∧ SqL K H1 a xs ∧ R (Itv K a xs.length) H1
theorem rd_forU (q : te σ H fun v H1 => wU K (Rf g tb D σ) v H1) : tFor (iU K te) g tb D σ H := q
theorem rd_for1 (q : ta σ H fun v H1 => wR1 (Rf g tb D σ) v H1) : tFor (iRng1 ta) g tb D σ H := q
theorem rd_forZ (q : ta σ H fun v H1 => wZ K (Rf g tb D σ) v H1) : tFor (iZip K ta) g tb D σ H := q
theorem rd_forV (q : ta σ H fun v H1 => wV K (Rf g tb D σ) v H1) : tFor (iRev K ta) g tb D σ H := q
theorem rd_lcU {te1 : TE} (q : te1 σ H fun v H1 => wU K (Rl g tt te ws σ Q) v H1) : tLc (iU K te1) g tt te ws σ H Q := q
theorem rd_lc1 (q : ta σ H fun v H1 => wR1 (Rl g tt te ws σ Q) v H1) : tLc (iRng1 ta) g tt te ws σ H Q := q
theorem rd_lcZ (q : ta σ H fun v H1 => wZ K (Rl g tt te ws σ Q) v H1) : tLc (iZip K ta) g tt te ws σ H Q := q
theorem rf_it {J : It} {n : Nat} {G : Hp → Prop} {Y : Nat → Hp → V → Hp → Prop} (w : Walk J n G Y) (Pv : Nat → L2.St → Hp → Prop) (h0 : Pv 0 σ H)
    (hG : ∀ i σ H, Pv i σ H → G H) (hs : ∀ i x σ H H', i < n → Pv i σ H → Y i H x H' → g x σ H' fun σ2 H2 => tb (inD D (Pv (i + 1))) σ2 H2)
    (hd : ∀ σ H, Pv n σ H → D.nx σ H) : Rf g tb D σ J H := for_it w Pv h0 (fun i σ H _ p => hG i σ H p) hs hd
theorem fo_l {a : Addr} {xs : List V} (hx : SqL K H a xs) (Pv : Nat → L2.St → Hp → Prop) (h0 : Pv 0 σ H) (hl : ∀ i σ H, Pv i σ H → SqL K H a xs)
    (hs : ∀ i x σ H, xs[i]? = some x → Pv i σ H → g x σ H fun σ2 H2 => tb (inD D (Pv (i + 1))) σ2 H2) (hd : ∀ σ H, Pv xs.length σ H → D.nx σ H) :
    wU K (Rf g tb D σ) (.ref a) H := .inl ⟨a, rfl, ⟨xs, hx⟩, rf_it walk_list Pv h0 hl (fun i x σ H H' _ p y => by
      obtain ⟨rfl, e⟩ := y
      exact hs i x σ H' e p) hd⟩
/-- one turn: the item's text, kept or not -/
def lcT (g : TG) (tt : TT) (te : TE) (ws : List Nat) (σ : L2.St) (D : Addr) (P : Hp → Prop) (x : V) (H' : Hp) : Prop :=
  g x (wipe σ ws) H' fun σ2 H2 => wipe σ2 ws = wipe σ ws ∧ tt σ2 H2 fun b H3 =>
      if b = true then te σ2 H3 fun y H4 => ∃ acc, H4 D = some (.lst acc) ∧ acc.length < sizeLine ∧ P (upd H4 D (.lst (acc ++ [y]))) else P H3
theorem rl_it {J : It} {n : Nat} {G : Hp → Prop} {Y : Nat → Hp → V → Hp → Prop} (w : Walk J n G Y)
    (h : ∀ C, H C = none → ∃ Pv : Nat → Hp → Prop, Pv 0 (upd H C (.lst [])) ∧ (∀ i H, Pv i H → G H) ∧
      (∀ i x H H', i < n → Pv i H → Y i H x H' → lcT g tt te ws σ C (Pv (i + 1)) x H') ∧ ∀ H, Pv n H → Q (.ref C) H) : Rl g tt te ws σ Q J H := by
  intro C hC
  obtain ⟨Pv, h0, hG, hs, hd⟩ := h C hC
  refine ⟨fun i m H => m = n - i ∧ i ≤ n ∧ Pv i H, ⟨n, by simp, Nat.zero_le _, h0⟩, ?_⟩
  rintro i m H ⟨rfl, hi, p⟩
  by_cases hlt : i < n
  · exact .inr ⟨w.goes i H hlt (hG i H p), Pv (i + 1), fun H' p' => ⟨n - (i + 1), by omega, rfl, hlt, p'⟩, fun x H' y => hs i x H H' hlt p (w.yields i H x H' hlt (hG i H p) y)⟩
  · have e : i = n := by omega
    subst e
    exact .inl ⟨w.stops H (hG i H p), hd H p⟩
end
end Gd
namespace Gd
open PySem PySem.Spec PyProof.Rows L2
/-- a def of the module, by its name: where it stands and what it promises -/
structure GC (P : Program) (w : World) (K : PySem.W.Frag) (mg : Str → Option Value) (base : Heap) (k : Nat) (x : Str) (sp : Sp) : Prop where
  ex : ∃ (f : Addr) (fd : FuncData) (ps : List Str), mg x = some (.ref f) ∧ PySem.W.keepIn K (.ref f) = true ∧ Binds K fd ps [] ∧ GFn P w K mg base CX0 k f fd ps sp
section
variable {X : Cx} {k j : Nat} {sp : Sp} {x : Str} {p pos : Pos} {e : Expr} {es : List Expr} {t : TA} {ta tb tc : TE} {a b c : Expr}
theorem pe_gc (cc : GC X.prog X.w X.K X.mg X.base k x sp) (gd : X.A.guards = some []) (hr : Room j X.A) (hk : k ≤ j) (hg : Gl X x) (ha : PA X (e :: es) t)
    (hdb : (x == ("__debug__" : Str)) = false := by decide) (he : starEach (e :: es) X.env = (false, eval e X.env) :: starEach es X.env := by rfl)
    (hpl : (backTo pos (starEach es X.env)).any (·.1) = false := by rfl) : PE X (.Call (.Name x p) (e :: es) [] pos) (tCall sp [] E0 t) := by
  obtain ⟨f, fd, ps, h1, h2, h3, h4⟩ := cc.ex
  exact pe_callG h4 gd (hr.mono hk) hg h1 h2 h3 .nil pass0 ha hdb he hpl
theorem pt_u (ha : PE X a ta) (he : ∀ whole, isTrue a X.env whole = (do let v ← whole; standAt a.pos; holding [v] (truthy v))) : PT X a (uTru X.K ta) := pt_truth ha he
theorem u_ixL {K : PySem.W.Frag} {H : Hp} {Q : VK} {a : Addr} {xs : List V} {i : Int} {v : V} (h : SqL K H a xs) (e : atI xs i = some v) (q : Q v H) : rIx K (.ref a) (.int i) H Q := .inl ⟨a, xs, i, v, rfl, rfl, h, e, q⟩
theorem u_ixS {K : PySem.W.Frag} {H : Hp} {Q : VK} {z : Str} {i : Int} {c : Nat} (h : z.length ≤ sizeLine) (e : atI (tl z) i = some c) (q : Q (.str ⟨#[c]⟩) H) : rIx K (.str z) (.int i) H Q := .inr (.inr ⟨z, i, c, rfl, rfl, h, e, q⟩)
theorem atI_of {α : Type} {xs : List α} {i : Int} {v : α} (h0 : 0 ≤ i) (e : xs[i.toNat]? = some v) : atI xs i = some v := by
  have q := atI_nat e
  rw [Int.toNat_of_nonneg h0] at q
  exact q
theorem atI_lt {α : Type} {xs : List α} {i : Int} (h0 : 0 ≤ i) (h1 : i < xs.length) : ∃ v, atI xs i = some v ∧ v ∈ xs := by
  have h2 : i.toNat < xs.length := by omega
  exact ⟨xs[i.toNat], atI_of h0 (by simp [h2]), List.getElem_mem h2⟩
theorem bits_le {i : Int} {n : Nat} (h0 : 0 < n) (h : i.natAbs < 2 ^ n) : Builtin.Int.intBits i ≤ n := by
  have e := PySem.Flt.log2_lt_of h0 h
  unfold Builtin.Int.intBits
  split <;> omega
theorem powW {i j : Int} {n : Nat} (h0 : 0 < n) (h : i.natAbs < 2 ^ n) (h1 : 0 ≤ j) (h2 : (n : Int) * j ≤ 2 ^ 27) : CPowW i j := by
  have e := bits_le h0 h
  refine ⟨h1, Int.le_trans (Int.mul_le_mul_of_nonneg_right ?_ h1) h2⟩
  exact Int.ofNat_le.mpr e
theorem ite_nt {A B : Prop} (h : B) : if (!true) = true then A else B := h
theorem log_small {j : Int} (h : j.natAbs < 18446744073709551616) : j.natAbs.log2 < 9000 := by
  have h2 : j.natAbs < 2 ^ 64 := Nat.lt_of_lt_of_le h (by decide)
  have e := PySem.Flt.log2_lt_of (show 0 < 64 by decide) h2
  omega
theorem len_app (a b : Str) : (a ++ b).length = a.length + b.length := by
  rw [TL.len_tl, TL.len_tl, TL.len_tl, TL.tl_append, List.length_append]
theorem len_one (c : Nat) : (⟨#[c]⟩ : Str).length = 1 := rfl
theorem mem_app {a b : Str} {c : Nat} : c ∈ tl (a ++ b) ↔ c ∈ tl a ∨ c ∈ tl b := by
  rw [show tl (a ++ b) = tl a ++ tl b from TL.tl_append a b, List.mem_append]
theorem mem_one {c d : Nat} : c ∈ tl (⟨#[d]⟩ : Str) ↔ c = d := by simp [tl]
theorem Dq.imp {N M : Addr → Prop} {H : Hp} {v : V} {d : PyData} (h : Dq N H v d) (m : ∀ b, N b → M b) : Dq M H v d := Dq.mono (fun _ _ _ e => e) m d v h
theorem DqL.imp {N M : Addr → Prop} {H : Hp} {v : List V} {d : List PyData} (h : DqL N H v d) (m : ∀ b, N b → M b) : DqL M H v d := DqL.mono (fun _ _ _ e => e) m d v h
theorem layAll_map {α : Type} (f : α → PyData) : ∀ ws : List α, (∀ w ∈ ws, (f w).canLay0 = true) → PyData.canLayAll0 (ws.map f) = true
  | [], _ => by simp [PyData.canLayAll0]
  | w :: ws, h => by
    rw [List.map_cons, PyData.canLayAll0, h w (by simp), layAll_map f ws fun v hv => h v (by simp [hv])]
    rfl
theorem depAll_map {α : Type} (f : α → PyData) (n : Nat) : ∀ ws : List α, (∀ w ∈ ws, (f w).depth ≤ n) → PyData.depthAll (ws.map f) ≤ n
  | [], _ => by simp [PyData.depthAll]
  | w :: ws, h => by
    rw [List.map_cons, PyData.depthAll]
    exact Nat.max_le.mpr ⟨h w (by simp), depAll_map f n ws fun v hv => h v (by simp [hv])⟩
theorem shaped_map {α : Type} (f : α → PyData) (ws : List α) (h : ∀ w ∈ ws, (f w).canLay0 = true ∧ (f w).depth ≤ 63) : SeqAt.shaped (.list (ws.map f)) = true := by
  unfold SeqAt.shaped
  rw [Bool.and_eq_true, decide_eq_true_eq]
  refine ⟨?_, ?_⟩
  · rw [PyData.canLay0]
    exact layAll_map f ws fun w hw => (h w hw).1
  · rw [PyData.depth]
    have := depAll_map f 63 ws fun w hw => (h w hw).2
    omega
theorem shaped_strs (ws : List Str) (h : ∀ w ∈ ws, PyData.strOk w = true) : SeqAt.shaped (.list (ws.map PyData.str)) = true :=
  shaped_map _ ws fun w hw => ⟨by rw [PyData.canLay0]; exact h w hw, by simp [PyData.depth]⟩
theorem shaped_ints (ws : List Int) : SeqAt.shaped (.list (ws.map PyData.int)) = true :=
  shaped_map _ ws fun w hw => ⟨by rw [PyData.canLay0], by simp [PyData.depth]⟩
theorem strOk_iff (z : Str) : PyData.strOk z = true ↔ ∀ c ∈ tl z, c < 1114112 := by
  unfold PyData.strOk tl
  rw [← Array.all_toList, List.all_eq_true]
  constructor
  · intro h c hc
    exact of_decide_eq_true (h c hc)
  · intro h c hc
    exact decide_eq_true (h c hc)
theorem pss_cut {st : Stmt} {rest : List Stmt} {t u : TS} (h1 : PS X st t) (h2 : PSs X rest u) : PSs X (st :: rest) (C8.tCut t u) := C8.pss_cut h1 h2
def uSl (K : PySem.W.Frag) : V → Option Int → Option Int → Hp → VK → Prop := fun x lo hi H Q => rSlS x lo hi H Q ∨ rSlL K x lo hi H Q ∨ rSlT K x lo hi H Q
theorem sl_u : SlR X (uSl X.K) := SlR.or sl_str (SlR.or sl_list sl_tup)
theorem u_slS {K : PySem.W.Frag} {H : Hp} {Q : VK} {z : Str} {lo hi : Option Int} (h : z.length ≤ sizeLine) (q : Q (.str (cutS z lo hi)) H) : uSl K (.str z) lo hi H Q := .inl ⟨z, rfl, h, q⟩
theorem u_slL {K : PySem.W.Frag} {H : Hp} {Q : VK} {p : Addr} {xs : List V} {lo hi : Option Int} (h : SqL K H p xs) (q : ∀ p, H p = none → Q (.ref p) (upd H p (.lst (cutV xs lo hi)))) :
    uSl K (.ref p) lo hi H Q := .inr (.inl ⟨p, xs, rfl, h, q⟩)
theorem cut_to (z : Str) {d : Int} (h : 0 ≤ d) : tl (cutS z none (some d)) = (tl z).take d.toNat := by
  unfold cutS tl
  have e := HT.sIx_nat z.length z.length d.toNat
  rw [Int.toNat_of_nonneg h] at e
  rw [e, HT.sIx_none]
  simp only [List.drop_zero, Nat.sub_zero]
  have el : z.cps.toList.length = z.length := by simp [Str.length]
  by_cases hd : d.toNat ≤ z.length
  · rw [Nat.min_eq_left hd]
  · rw [Nat.min_eq_right (by omega), List.take_of_length_le (by omega), List.take_of_length_le (by omega)]
theorem rd_rU {g : Int → V} {i : Int} {H : Hp} {Q : VK} (q : Q (g i) H) : rU g (.int i) H Q := ⟨i, rfl, q⟩
theorem u_app {H : Hp} {Q : VK} {l : Addr} {xs : List V} {y : V} (h : H l = some (.lst xs)) (hz : xs.length < sizeLine) (q : Q .non (upd H l (.lst (xs ++ [y])))) : rAppend (.ref l) [y] H Q :=
  ⟨l, xs, y, rfl, rfl, h, hz, q⟩
end
section
variable {X : Cx} {K : PySem.W.Frag} (h : X.K = K)
include h
theorem kou_add : OpR X (binaryOp .Add) (uAdd K) := by subst h; exact ou_add
theorem kou_eq (hu : X.A.units + 64 < cLine) : OpR X (compareOp .Eq) (uEq K) := by subst h; exact ou_eq hu
theorem kou_ne (hu : X.A.units + 64 < cLine) : OpR X (compareOp .NotEq) (uNe K) := by subst h; exact ou_ne hu
theorem kou_in : OpR X (compareOp .In) (uIn K) := by subst h; exact ou_in
theorem kcu_len : CallR X (.builtin "len") (uLen K) := by subst h; exact cu_len
theorem kcu_isi : CallR X (.builtin "isinstance") (uIsi K) := by subst h; exact cu_isi
theorem kix_seq : IxR X (rIx K) := by subst h; exact ix_seq
theorem ksl_u : SlR X (uSl K) := by subst h; exact sl_u
theorem kpi_u {tg e : Expr} {te : TE} (he : PE X e te) : PI X tg e (iU K te) := by subst h; exact pi_u he
theorem kpe_andT {a b : Expr} {rest : List Expr} {pos : Pos} {ta tb : TE} (ha : PE X a ta) (hb : PE X (.BoolOp .And (b :: rest) pos) tb) : PE X (.BoolOp .And (a :: b :: rest) pos) (tAndT K ta tb) := by subst h; exact pe_andT ha hb
theorem kpe_orT {a b : Expr} {rest : List Expr} {pos : Pos} {ta tb : TE} (ha : PE X a ta) (hb : PE X (.BoolOp .Or (b :: rest) pos) tb) : PE X (.BoolOp .Or (a :: b :: rest) pos) (tOrT K ta tb) := by subst h; exact pe_orT ha hb
theorem kpt_u {a : Expr} {ta : TE} (ha : PE X a ta) (he : ∀ whole, isTrue a X.env whole = (do let v ← whole; standAt a.pos; holding [v] (truthy v))) : PT X a (uTru K ta) := by subst h; exact pt_u ha he
theorem kcr_all (hc : X.calm = true) : CallR X (.builtin "all") (rAll K) := by subst h; exact cr_all hc
theorem kcr_sum (hc : X.calm = true) : CallR X (.builtin "sum") (rSum K) := by subst h; exact cr_sum hc
theorem kpg_tup {es : List Expr} {k : Nat} {pos : Pos} {t : TGs} {n : Nat} (hc : X.calm = true) (hp : PGs X es t)
    (hn : (assignEach es X.env).length = n := by rfl) (hst : (assignEach es X.env).findIdx? (·.1) = none := by rfl) : PG X (.Tuple es k pos) (gTup K n t) := by subst h; exact pg_tup hc hp hn hst
variable {o e : Expr} {es : List Expr} {to te : TE} {t : TA} {name : Str} {apos cpos : Pos} {T id : String}
  {r : V → List V → Hp → VK → Prop}
theorem kpe_bm (pa : PlainAttrs T) (slot : Slot T name id)
    (hty : typeOf (.builtin id) = pure (.type "method_descriptor"))
    (hm : MtR X id r) (ho : PE X o to) (ha : PA X (e :: es) t)
    (b1 : attributeBase o name X.env (eval o X.env) = eval o X.env := by rfl)
    (b2 : ((backTo cpos (starEach (e :: es) X.env)).all (fun x => !x.1) &&
      (backToKw cpos (keywordEach [] X.env)).all (fun x => x.1.isSome) &&
      decide ((e :: es).length + ([] : List Keyword).length +
        (if ([] : List Keyword).isEmpty then 0 else 1) < 30)) = true := by rfl)
    (b3 : (apos.endLine == cpos.line) = true := by rfl)
    (b4 : starEach (e :: es) X.env = (false, eval e X.env) :: starEach es X.env := by rfl)
    (b5 : (backTo cpos (starEach es X.env)).any (·.1) = false := by rfl) :
    PE X (.Call (.Attribute o name apos) (e :: es) [] cpos) (tBM K T r to t) := by
  subst h
  exact pe_bm pa slot hty hm ho ha b1 b2 b3 b4 b5
theorem kpi_zip {e2 : Expr} {p pos tpos : Pos} {elts : List Expr} {kk : Nat} (hg : Gl X "zip")
    (hm : X.mg "zip" = none) (ha : PA X [e, e2] t)
    (hs : starEach [e, e2] X.env = (false, eval e X.env) :: starEach [e2] X.env := by rfl)
    (hpl : (backTo pos (starEach [e2] X.env)).any (·.1) = false := by rfl) :
    PI X (.Tuple elts kk tpos) (.Call (.Name "zip" p) [e, e2] [] pos) (iZip K t) := by
  subst h
  exact pi_zip hg hm ha hs hpl
def rJoin (K : PySem.W.Frag) : V → List V → Hp → VK → Prop := fun x xs H Q => ∃ a p, ∃ ys : List Str, x = .str a ∧ xs = [.ref p] ∧
  (SqL K H p (ys.map V.str) ∨ SqT K H p (ys.map V.str)) ∧
  (ys.map (·.length)).sum + ys.length * a.length ≤ 16777216 ∧ Q (.str (Txt.join a ys)) H
theorem kpe_join (ho : PE X o to) (he : PE X e te)
    (hs : starEach [e] X.env = [(false, eval e X.env)] := by rfl)
    (hb : attributeBase o "join" X.env (eval o X.env) = eval o X.env := by rfl)
    (hl : (apos.endLine == cpos.line) = true := by rfl) :
    PE X (.Call (.Attribute o "join" apos) [e] [] cpos) (tM1 (rJoin K) to te) := by
  subst h
  exact pe_join ho he hs hb hl
end
end Gd
namespace Gd
open PySem PySem.Spec PyProof.Rows L2
def keyT (e : Int × Value) : Str := match e.2 with
  | .str x _ => x
  | _ => Str.empty
def GoodT (w : World) (e : Int × Value) : Prop := ∃ x tk, e.2 = Value.str x tk ∧ e.1 = hashStr w x
/-- the set of texts at a: ks its members, in some order, each once -/
def SetT (w : World) (h : Heap) (a : Addr) (ks : List Str) : Prop :=
  ∃ o es ep t, h.get? a = some o ∧ o.ExactSet ∧ o.data = .set es ep t ∧ (∀ e ∈ es.toList, GoodT w e) ∧
    (es.toList.map keyT).Perm ks ∧ ks.Nodup ∧ es.size < scanBound ∧ t.fits es.size = true ∧
    Ris t.place.toList ∧ (w.params.followText "set-order" = true ∨ t.led = true)
def addT (ks : List Str) (x : Str) : List Str := if x ∈ ks then ks else ks ++ [x]
def dedT (xs : List Str) : List Str := xs.foldl addT []
theorem addT_mem {ks : List Str} {x y : Str} : y ∈ addT ks x ↔ y ∈ ks ∨ y = x := by
  unfold addT
  split
  · exact ⟨.inl, fun h => h.elim id fun e => by rw [e]; assumption⟩
  · simp
theorem foldT_mem : ∀ (xs ks : List Str) (y : Str), y ∈ xs.foldl addT ks ↔ y ∈ ks ∨ y ∈ xs
  | [], ks, y => by simp
  | x :: xs, ks, y => by
    rw [List.foldl_cons, foldT_mem xs, addT_mem, List.mem_cons, or_assoc]
theorem dedT_mem {xs : List Str} {y : Str} : y ∈ dedT xs ↔ y ∈ xs := by
  unfold dedT
  rw [foldT_mem]
  simp
theorem addT_nodup {ks : List Str} {x : Str} (h : ks.Nodup) : (addT ks x).Nodup := by
  unfold addT
  split
  · exact h
  · rename_i n
    rw [List.nodup_append]
    refine ⟨h, by simp, fun a ha b hb e => ?_⟩
    rw [List.mem_singleton.mp hb] at e
    rw [e] at ha
    exact n ha
theorem foldT_nodup : ∀ (xs ks : List Str), ks.Nodup → (xs.foldl addT ks).Nodup
  | [], _, h => h
  | x :: xs, ks, h => foldT_nodup xs _ (addT_nodup h)
theorem dedT_nodup (xs : List Str) : (dedT xs).Nodup := foldT_nodup xs [] .nil
theorem addT_len (ks : List Str) (x : Str) : (addT ks x).length ≤ ks.length + 1 := by
  unfold addT
  split
  · omega
  · simp
theorem foldT_len : ∀ (xs ks : List Str), (xs.foldl addT ks).length ≤ ks.length + xs.length
  | [], ks => by simp
  | x :: xs, ks => by
    have h1 := foldT_len xs (addT ks x)
    have h2 := addT_len ks x
    rw [List.foldl_cons, List.length_cons]
    omega
theorem dedT_len (xs : List Str) : (dedT xs).length ≤ xs.length := by
  have := foldT_len xs []
  simpa [dedT] using this
theorem foldT_id : ∀ (xs ks : List Str), (ks ++ xs).Nodup → xs.foldl addT ks = ks ++ xs
  | [], ks, _ => by simp
  | x :: xs, ks, h => by
    have hx : x ∉ ks := fun z => by
      rw [List.nodup_append] at h
      exact h.2.2 x z x (by simp) rfl
    rw [List.foldl_cons]
    unfold addT
    rw [if_neg hx]
    have e : ks ++ [x] ++ xs = ks ++ x :: xs := by simp
    have := foldT_id xs (ks ++ [x]) (by rw [e]; exact h)
    unfold addT at this
    rw [this, e]
theorem dedT_id {xs : List Str} (h : xs.Nodup) : dedT xs = xs := by
  have := foldT_id xs [] (by simpa using h)
  simpa [dedT] using this
section
variable {P : Program} {w : World} {A : Around} {E : Value → Shared → Prop} {s : Shared} {h h' : Heap} {a : Addr} {ks : List Str}
theorem SetT.at (R : SetT w h a ks) (k : ∀ o, h.get? a = some o → h'.get? a = some o) : SetT w h' a ks := by
  obtain ⟨o, es, ep, t, ho, r⟩ := R
  exact ⟨o, es, ep, t, k o ho, r⟩
theorem goodT_elems {l : List (Int × Value)} (g : ∀ e ∈ l, GoodT w e) : ElemsOf (PySem.strKind P w) l := fun e he => by
  obtain ⟨k, tk, h1, h2⟩ := g e he
  exact ⟨⟨k, by rw [h1]; exact PySem.strKind_is P w k tk, h2⟩, by rw [h1] <;> rfl⟩
theorem goodT_is {e : Int × Value} (g : GoodT w e) (k : Str) : (PySem.strKind P w).is k e.2 = true ↔ keyT e = k := by
  obtain ⟨k0, tk, h1, _⟩ := g
  unfold keyT
  rw [h1]
  first
    | (show ((k0 == k) = true) ↔ k0 = k; exact beq_iff_eq)
    | (show (decide (k0 = k) = true) ↔ k0 = k; exact decide_eq_true_iff)
    | (show (decide (k = k0) = true) ↔ k0 = k; exact decide_eq_true_iff.trans eq_comm)
theorem goodT_mem {l : List (Int × Value)} (g : ∀ e ∈ l, GoodT w e) (k : Str) : k ∈ l.map keyT ↔ ∃ e ∈ l, (PySem.strKind P w).is k e.2 = true := by
  rw [List.mem_map]
  constructor
  · rintro ⟨e, he, q⟩
    exact ⟨e, he, (goodT_is (g e he) k).2 q⟩
  · rintro ⟨e, he, q⟩
    exact ⟨e, he, (goodT_is (g e he) k).1 q⟩
theorem setT_tail {g : Bool → Sem Unit} (hg : ∀ (b : Bool) (s₁ : Shared) (Q' : Unit → Shared → Prop), Q' () s₁ → wpAny (model P w) A (g b) Q' E s₁)
    {o : Obj} {es : Array (Int × Value)} {ep : Nat} {t : SetTable} (ho : s.heap.get? a = some o) (hex : o.ExactSet) (hd : o.data = .set es ep t)
    {es1 : Array (Int × Value)} {t2 : SetTable} {ks' : List Str} (g1 : ∀ e ∈ es1.toList, GoodT w e) (pm1 : (es1.toList.map keyT).Perm ks') (nd1 : ks'.Nodup)
    (hb1 : es1.size < scanBound) (hf2 : t2.fits es1.size = true) (hr : Ris t2.place.toList)
    (hl : w.params.followText "set-order" = true ∨ t2.led = true) {wasDummy : Bool} {R : Option Bool → Shared → Prop}
    (hR : ∀ h', Heap.SameBut a s.heap h' → SetT w h' a ks' → R (some true) { s with heap := h' }) :
    wpAny (model P w) A (do
        storeSet a es1 t2
        if (!wasDummy && t2.tooFull) = true then do
          g (relayAll t2 es1 (SetTable.grown es1.size)).2.2
          storeSet a (relayAll t2 es1 (SetTable.grown es1.size)).1 (relayAll t2 es1 (SetTable.grown es1.size)).2.1
          pure (some true)
        else pure (some true)) R E s := by
  refine wpAny_bind (wpAny_storeSet_of ho hd ?_ (fits_of_scanBound hb1))
  have ho1 := store_at (es' := es1) (t' := t2) ho hd
  have sb1 := Heap.SameBut.update s.heap a (Obj.putSet es1 t2)
  split
  · have pm := relayAll_perm t2 es1 (SetTable.grown es1.size)
    have hf3 := relayAll_fits t2 es1 (SetTable.grown es1.size)
    have hr3 := relayAll_ris t2 es1 (SetTable.grown es1.size)
    have hl3 := relayAll_led t2 es1 (SetTable.grown es1.size)
    generalize relayAll t2 es1 (SetTable.grown es1.size) = Z at pm hf3 hr3 hl3 ⊢
    obtain ⟨es2, t3, gave⟩ := Z
    dsimp only at pm hf3 hr3 hl3 ⊢
    have hsz : es2.size = es1.size := by rw [← Array.length_toList, pm.length_eq, Array.length_toList]
    refine wpAny_bind (hg _ _ _ ?_)
    refine wpAny_bind (wpAny_storeSet_of ho1 rfl ?_ (fits_of_scanBound (by rw [hsz]; exact hb1)))
    have ho2 := store_at (es' := es2) (t' := t3) ho1 rfl
    refine wpAny_pure (hR _ (sb1.trans (Heap.SameBut.update _ a _)) ?_)
    exact ⟨_, es2, _, t3, ho2, hex, rfl, fun e he => g1 e (pm.mem_iff.mp he), (pm.map keyT).trans pm1, nd1,
      by rw [hsz]; exact hb1, hf3, hr3, hl.imp id fun z => by rw [hl3]; exact z⟩
  · exact wpAny_pure (hR _ sb1 ⟨_, es1, _, t2, ho1, hex, rfl, g1, pm1, nd1, hb1, hf2, hr, hl⟩)
theorem setT_add {k : Str} {tk : Tok} {Q : Bool → Shared → Prop} (R : SetT w s.heap a ks) (room : ks.length + 1 < scanBound)
    (hQ : ∀ b h', Heap.SameBut a s.heap h' → SetT w h' a (addT ks k) → Q b { s with heap := h' }) :
    wpAny (model P w) A (setAddHashed a (.str k tk) ((PySem.strKind P w).hash k)) Q E s := by
  obtain ⟨o, es, ep, t, ho, hex, hd, g, pk0, nd, hb, hf, hr, hl⟩ := R
  have hn : es.size = ks.length := by rw [← pk0.length_eq, List.length_map, Array.length_toList]
  have hkey : (PySem.strKind P w).is k (.str k tk) = true := PySem.strKind_is P w k tk
  have hsc : (Value.str k tk).scannable = true := rfl
  have hel : ElemsOf (PySem.strKind P w) es.toList := goodT_elems g
  unfold setAddHashed setAddHashedIn
  refine wpAny_holding (wpAny_bind (wpAny_setState_of ho hd hf ?_))
  dsimp only
  rw [byScan_of hsc hb hel]
  simp only [↓reduceIte]
  unfold setAddByScan
  refine wpAny_bind ?_
  refine wpAny_bind (wpAny_rule ?_)
  refine wpAny_bind (wpAny_setScan_of hkey ho hd hf hel ?_)
  cases hfi : List.findIdx? (fun e => (PySem.strKind P w).is k e.2) es.toList with
  | some j =>
    dsimp only
    obtain ⟨hj, pj, _⟩ := List.findIdx?_eq_some_iff_getElem.mp hfi
    have hk : k ∈ ks := pk0.mem_iff.mp ((goodT_mem (P := P) g k).2 ⟨es.toList[j], List.getElem_mem hj, pj⟩)
    have e : addT ks k = ks := if_pos hk
    refine wpAny_pure (wpAny_pure ?_)
    refine hQ _ s.heap (Heap.SameBut.refl a s.heap) ?_
    rw [e]
    exact ⟨o, es, ep, t, ho, hex, hd, g, pk0, nd, hb, hf, hr, hl⟩
  | none =>
    dsimp only
    have hnk : k ∉ es.toList.map keyT := fun z => by
      obtain ⟨e, he, q⟩ := (goodT_mem (P := P) g k).1 z
      have c := List.findIdx?_eq_none_iff.mp hfi e he
      rw [q] at c
      cases c
    have hnk2 : k ∉ ks := fun z => hnk (pk0.mem_iff.mpr z)
    have ea : addT ks k = ks ++ [k] := if_neg hnk2
    have hgw : ∀ (b : Bool) {s₁ : Shared} {Q' : Unit → Shared → Prop}, Q' () s₁ →
        wpAny (model P w) A (match b with | true => rule "set.scan.the-table-gave-way" | false => pure ()) Q' E s₁ :=
      fun b s₁ Q' q => by cases b <;> first | exact wpAny_pure q | exact wpAny_rule q
    have pm := layNew_perm t es ((PySem.strKind P w).hash k) (.str k tk)
    have hf1 := layNew_fits t es ((PySem.strKind P w).hash k) (.str k tk)
    have hr1 := layNew_ris t es ((PySem.strKind P w).hash k) (.str k tk) hr
    have hl1 := layNew_led t es ((PySem.strKind P w).hash k) (.str k tk)
    generalize layNew t es ((PySem.strKind P w).hash k) (.str k tk) = Z at pm hf1 hr1 hl1 ⊢
    obtain ⟨es1, t1, wasDummy, gave⟩ := Z
    dsimp only at pm hf1 hr1 hl1 ⊢
    rw [Array.toList_push] at pm
    have g1 : ∀ e ∈ es1.toList, GoodT w e := fun e he => by
      rcases List.mem_append.mp (pm.mem_iff.mp he) with z | z
      · exact g e z
      · rw [List.mem_singleton.mp z]
        exact ⟨k, tk, rfl, rfl⟩
    have pk : (es1.toList.map keyT).Perm (addT ks k) := by
      rw [ea]
      refine (pm.map keyT).trans ?_
      rw [List.map_append]
      exact pk0.append (List.Perm.refl _)
    have nd1 : (addT ks k).Nodup := addT_nodup nd
    have hsz : es1.size = ks.length + 1 := by rw [← Array.length_toList, pm.length_eq, List.length_append, Array.length_toList, hn]; rfl
    have hb1 : es1.size < scanBound := by rw [hsz]; exact room
    have hled : w.params.followText "set-order" = true ∨ t1.led = true := hl.imp id fun z => by rw [hl1]; exact z
    have fin : ∀ h', Heap.SameBut a s.heap h' → SetT w h' a (addT ks k) → Q true { s with heap := h' } := fun h' sb r => hQ true h' sb r
    refine wpAny_bind (hgw _ ?_)
    split
    · refine wpAny_bind ?_
      rw [hashByValue_scannable 8 hsc]
      refine wpAny_pure ?_
      refine setT_tail ?_ ho hex hd g1 pk nd1 hb1 ?_ ?_ ?_ ?_
      · intro b s₁ Q' q
        cases b <;> first | exact wpAny_pure q | exact wpAny_rule q
      · first | (split <;> first | exact hf1 | exact SetTable.fits_plain_off hf1) | exact hf1
      · first | (split <;> exact hr1) | exact hr1
      · first | (split <;> exact hled) | exact hled
      · intro h' sb r
        dsimp only
        exact wpAny_pure (fin h' sb r)
    · refine wpAny_bind (wpAny_pure ?_)
      simp only [↓reduceIte]
      refine setT_tail ?_ ho hex hd g1 pk nd1 hb1 hf1 hr1 hled ?_
      · intro b s₁ Q' q
        cases b <;> first | exact wpAny_pure q | exact wpAny_rule q
      · intro h' sb r
        dsimp only
        exact wpAny_pure (fin h' sb r)
end
section
variable {prog : Program} {w : World} {A : Around} {R : Result → Shared → Prop} {I : Addr} {fp wr : List Addr}
  {G : Array GenState → Array GenState → Prop} {n : Nat} {P : Nat → Value → Prop} {St : Nat → Shared → Prop}
theorem loopT (W : WalksS prog w A.in1 I fp wr G n P St) (S : Addr) (hSf : S ∉ fp) (xs : List Str) (hsz : xs.length = n) (hn1 : n < 4000)
    (hval : ∀ i v, P i v → ∃ t, v = .str (xs.getD i Str.empty) t) :
    ∀ (k i : Nat) (s : Shared), n - i = k → i ≤ n → St i s → SetT w s.heap S (dedT (xs.take i)) →
      (∀ s', Moved (S :: wr) G s s' → SetT w s'.heap S (dedT xs) → R (.ok (.ret .none)) s') →
      codeAny (model prog w) A (.builtin "set.update.loop" ⟨[.ref S, .ref I], []⟩) R s := by
  have hSw : S ∉ wr := fun h => hSf (W.sub _ h)
  have hsub : ∀ b ∈ wr, b ∈ S :: wr := fun b hb => List.mem_cons_of_mem _ hb
  intro k
  induction k with
  | zero =>
    intro i s hk hi hst hS hR
    have hin : i = n := by omega
    subst hin
    rw [List.take_of_length_le (by omega)] at hS
    refine codeAny_builtin PyProof.Rows.F.entry_set_update_loop ?_
    rw [Around.under_plainId PyProof.Rows.F.plain_set_update_loop _]
    show wpAny _ A.in1 (pyNext (.ref I) >>= _) _ _ s
    refine wpAny_bind (W.done s _ _ hst fun s' hm => ?_)
    show wpAny _ A.in1 (ret Value.none) _ _ s'
    exact wpAny_pure (hR s' (hm.mono hsub) (hS.at fun o ho => hm.heap S _ hSw ho))
  | succ k ih =>
    intro i s hk hi hst hS hR
    have hlt : i < n := by omega
    refine codeAny_builtin PyProof.Rows.F.entry_set_update_loop ?_
    rw [Around.under_plainId PyProof.Rows.F.plain_set_update_loop _]
    show wpAny _ A.in1 (pyNext (.ref I) >>= _) _ _ s
    refine wpAny_bind (W.item i s _ _ hlt hst fun v s' hP hst' hm => ?_)
    obtain ⟨t, rfl⟩ := hval i v hP
    have hS' : SetT w s'.heap S (dedT (xs.take i)) := hS.at fun o ho => hm.heap S _ hSw ho
    show wpAny _ A.in1 (holding [Value.str (xs.getD i Str.empty) t] (setAdd S (.str (xs.getD i Str.empty) t)) >>= _) _ _ s'
    refine wpAny_bind (wpAny_holding ?_)
    unfold setAdd
    refine wpAny_holding ?_
    refine wpAny_bind ((PySem.strKind prog w).pyHash (k := xs.getD i Str.empty) (PySem.strKind_is _ _ _ _) ?_)
    have room : (dedT (xs.take i)).length + 1 < scanBound := by
      have := dedT_len (xs.take i)
      rw [List.length_take] at this
      unfold scanBound
      omega
    refine setT_add (P := prog) (s := { s' with toks := s'.toks + 1 }) hS' room fun b h' hsb hS2 => ?_
    have ed : addT (dedT (xs.take i)) (xs.getD i Str.empty) = dedT (xs.take (i + 1)) := by
      have hi' : i < xs.length := by omega
      rw [List.take_add_one, List.getElem?_eq_getElem hi', Option.toList_some]
      unfold dedT
      rw [List.foldl_append, List.foldl_cons, List.foldl_nil]
      simp [hi']
    rw [ed] at hS2
    refine wpAny_pure ⟨plainId_quiet PyProof.Rows.F.plain_set_update_loop _, ih (i + 1) _ (by omega) hlt (W.frame _ s' _ _ hst' (Nat.le_succ _) fun b hb o e => ?_) hS2 fun s'' hm'' hS'' => ?_⟩
    · rw [hsb.2 b (fun h : b = S => hSf (by rw [← h]; exact hb))]
      exact e
    · refine hR s'' (Moved.trans W.gtrans ((hm.mono hsub).then_heap (Nat.le_succ _) fun b o hb e => ?_) hm'') hS''
      rw [hsb.2 b (fun h : b = S => hb (by rw [h]; exact List.mem_cons_self))]
      exact e
end
section
variable {prog : Program} {w : World} {A : Around} {E : Value → Shared → Prop} {s : Shared}
/-- a set as it is born -/
abbrev bornS (w : World) : Obj := { cls := .type "set", dict := none, data := .set #[] 0 (.fresh 0 0 (!w.params.followText "set-order")) }
theorem setT_born {h : Heap} (w : World) : SetT w (h.push (bornS w)) h.objs.size [] := by
  refine ⟨_, #[], 0, _, Heap.get?_push_size _ rfl, ⟨rfl, rfl, rfl⟩, rfl, fun e he => by simp at he, by simp, .nil, by decide, by rfl, List.Pairwise.nil, ?_⟩
  show _ ∨ (!w.params.followText "set-order") = true
  cases w.params.followText "set-order"
  · exact .inr rfl
  · exact .inl rfl
theorem code_setT (a : Value) {Q₁ : Value → Shared → Prop} (h : Q₁ (.ref s.heap.objs.size) { s with heap := s.heap.push (bornS w) }) :
    codeAny (model prog w) A (.call (.builtin "set.__new__") ⟨[.type "set", a], []⟩) (wants Q₁ E) s := by
  refine codeAny_of_tree ?_
  show wpAny _ A.in1 (do
    checkBuiltinCall "set.__new__" ⟨[.type "set", a], []⟩
    again (.builtin "set.__new__" ⟨[.type "set", a], []⟩)) _ _ s
  refine wpAny_bind (wpAny_of_eq (show checkBuiltinCall "set.__new__" ⟨[.type "set", a], []⟩ = pure () by kernel_rfl) (wpAny_pure ?_))
  refine ⟨plainId_quiet PySem.F.plain_set_new _, codeAny_builtin PySem.F.entry_set_new ?_⟩
  rw [Around.under_plainId PySem.F.plain_set_new _]
  unfold Builtin.«set.__new__» Builtin.Frozenset.newClass
  have hsub := sub_set_self
  obtain ⟨hp, g, d, tk, os⟩ := s
  dsimp only
  wp_walk
  refine wpAny_askSetting (wpAny_pure ?_)
  dsimp only
  simp only [newObj]
  exact wpAny_bind (wpAny_alloc (wpAny_pure (wpAny_pure h)))
theorem strs_nth : ∀ {vs : List Value} {xs : List Str}, PyProof.Rows.StrsAre vs xs → ∀ (i : Nat) (v : Value), vs[i]? = some v → ∃ t, v = .str (xs.getD i Str.empty) t
  | _, _, .nil, i, v, h => by simp at h
  | _, _, .cons n t hr, 0, v, h => by
    simp at h
    exact ⟨t, by rw [← h]; rfl⟩
  | _, _, .cons n t hr, i + 1, v, h => by
    obtain ⟨t', e⟩ := strs_nth hr i v (by simpa using h)
    exact ⟨t', by rw [e]; rfl⟩
set_option maxHeartbeats 3200000 in
theorem call_setT {l : Addr} {items : Array Value} {xs : List Str} {Q : Value → Shared → Prop} (hh : A.handled = none)
    (hl : s.heap.IsList l items) (hi : PyProof.Rows.StrsAre items.toList xs) (hn1 : xs.length < 4000)
    (h : ∀ (h' : Heap) (tk : Nat), SetT w h' s.heap.objs.size (dedT xs) →
      (∀ b o, b < s.heap.objs.size → s.heap.get? b = some o → h'.get? b = some o) → Q (.ref s.heap.objs.size) { s with heap := h', toks := tk }) :
    wpAny (model prog w) A (call (.type "set") [.ref l]) Q E s := by
  obtain ⟨c, tl, hmro⟩ := PySem.F.called_set.mro
  have hmade := PySem.F.called_set.made
  have hsub := PySem.F.called_set.sub
  refine wpAny_call (codeAny_of_tree ?_)
  show wpAny _ _ (callAny (.type "set") _) _ _ _
  refine wpAny_pure ⟨Code.quiet_builtin _ (by decide +kernel), codeAny_builtin PySem.F.entry_type_call ?_⟩
  rw [Around.under_plain (weight_type_call_type "set" [.ref l] []) rfl]
  have h1 := PySem.F.called_set.notType
  have h2 := PySem.F.called_set.canCreate
  have hct := PySem.F.typeCall_set_1 (.ref l)
  repeat (any_goals (first | assumption | wp_step))
  refine codeAny_mono (code_setT (.ref l) (E := E) (Q₁ := fun obj s₁ => obj = .ref s.heap.objs.size ∧
    s₁ = { s with heap := s.heap.push (bornS w) }) ⟨rfl, rfl⟩) fun r s₁ hr => ?_
  cases r with
  | error e => exact hr
  | ok fl =>
    cases fl with
    | ret obj =>
      obtain ⟨rfl, rfl⟩ := hr
      have hS : (s.heap.push (bornS w)).get? s.heap.objs.size = some (bornS w) := Heap.get?_push_size _ rfl
      have hT : Shared.TypeIs { s with heap := s.heap.push (bornS w) } (.ref s.heap.objs.size) "set" := ⟨_, hS, rfl⟩
      have hli := PySem.F.called_set.init.lookup
      have hbi := PySem.F.called_set.init.bind (.ref s.heap.objs.size)
      repeat (any_goals (first | assumption | wp_step))
      refine codeAny_mono (codeAny_call_builtin (R := wants (fun r s₂ => r = .none ∧ ∃ h' tk, s₂ = { s with heap := h', toks := tk } ∧
        SetT w h' s.heap.objs.size (dedT xs) ∧ (∀ b o, b < s.heap.objs.size → s.heap.get? b = some o → h'.get? b = some o)) E)
        PySem.F.called_set.init.plain PySem.F.entry_set_init (check_set_init_1 hT ?_)) fun r₂ s₂ hr₂ => ?_
      · obtain ⟨ol, hol, hcl, nl, hdl⟩ := hl
        obtain ⟨ocls, odict, odata, oslots⟩ := ol
        simp only at hcl hdl
        subst hcl
        subst hdl
        have hol' : (s.heap.push (bornS w)).get? l = some { cls := .type "list", dict := odict, data := .seq items nl, slots := oslots } := Heap.get?_push_of_some _ hol
        have hsls := PySem.F.sub_list_set
        have hslf := PySem.F.sub_list_frozenset
        have hne : (Value.type "list" == Value.type "dict") = false := by decide
        have hl1 : (s.heap.push (bornS w)).IsList l items := ⟨_, hol', rfl, nl, rfl⟩
        unfold Builtin.«set.__init__» noKeywords Builtin.Frozenset.updateFrom
        generalize hPI : pyIter = PI
        wp_walk
        subst hPI
        refine wpAny_pyIter_list hl1 (wpAny_bind (wpAny_runValue ?_))
        have hlS : l < s.heap.objs.size := Heap.lt_size hol
        have hh3 : A.in1.in1.in1.handled = none := by simp [hh]
        have hneI : l ≠ (s.heap.push (bornS w)).objs.size := by
          rw [Heap.size_push]
          exact Nat.ne_of_lt (Nat.lt_succ_of_lt hlS)
        have hSf : s.heap.objs.size ∉ [(s.heap.push (bornS w)).objs.size, l] := by
          rw [Heap.size_push]
          simp only [List.mem_cons, List.mem_singleton, List.not_mem_nil, or_false, not_or]
          exact ⟨Nat.ne_of_lt (Nat.lt_succ_self _), Nat.ne_of_gt hlS⟩
        have hsz : xs.length = items.size := by
          rw [← StrsAre.len_eq hi, Array.length_toList]
        have hval : ∀ (i : Nat) (v : Value), items[i]? = some v → ∃ t, v = .str (xs.getD i Str.empty) t :=
          fun i v hv => strs_nth hi i v (by rw [Array.getElem?_toList]; exact hv)
        refine loopT ((Walks.list hh3 _ l hneI items).toS) s.heap.objs.size hSf xs hsz (by rw [← hsz]; exact hn1) hval
          (items.size - 0) 0 _ (by omega) (Nat.zero_le _) ⟨⟨_, Heap.get?_push_size _ rfl, rfl, rfl⟩, (hl1.push _)⟩ ?hS0 ?hR
        case hS0 =>
          exact (setT_born w).at fun o ho => Heap.get?_push_of_some _ ho
        case hR =>
          intro s' hm hS'
          obtain ⟨h', g', d', tk', os'⟩ := s'
          obtain rfl : g' = s.gens := hm.gens
          obtain rfl : d' = s.drawn := hm.drawn
          obtain rfl : os' = s.os := hm.os
          show wpAny _ _ _ _ _ _
          refine wpAny_pure ?_
          show wpAny _ _ (ret Value.none) _ _ _
          refine wpAny_pure ⟨rfl, h', tk', rfl, hS', fun b o hb e => ?_⟩
          refine hm.heap b o ?_ (Heap.get?_push_of_some _ (Heap.get?_push_of_some _ e))
          simp only [List.mem_cons, List.mem_singleton, List.not_mem_nil, or_false, not_or]
          refine ⟨Nat.ne_of_lt hb, ?_⟩
          rw [Heap.size_push]
          exact Nat.ne_of_lt (Nat.lt_succ_of_lt hb)
      · cases r₂ with
        | error e => exact hr₂
        | ok fl₂ =>
          cases fl₂ with
          | ret r =>
            obtain ⟨rfl, h', tk, rfl, hS', hk'⟩ := hr₂
            repeat (any_goals (first | assumption | wp_step))
            exact h _ _ hS' hk'
          | _ => exact hr₂.elim
    | _ => exact hr.elim
end
section
variable {P : Program} {w : World} {A : Around} {E : Value → Shared → Prop} {s : Shared} {a : Addr} {ks : List Str}
def rawT : Value → Str
  | .str x _ => x
  | _ => Str.empty
theorem strs_of : ∀ (l : List Value), (∀ v ∈ l, ∃ k tk, v = Value.str k tk) → PyProof.Rows.StrsAre l (l.map rawT)
  | [], _ => .nil
  | v :: l, h => by
    obtain ⟨k, tk, rfl⟩ := h v List.mem_cons_self
    exact .cons k tk (strs_of l fun u hu => h u (List.mem_cons_of_mem _ hu))
theorem sorted_setT {Q : Value → Shared → Prop} (R : SetT w s.heap a ks) (hh : A.handled = none)
    (hQ : ∀ s' p (out : Array Value) (c : Nat) (ys : List Str), (∀ b o, s.heap.get? b = some o → s'.heap.get? b = some o) → s'.gens = s.gens → s'.os = s.os →
      s.heap.objs.size ≤ p → s'.heap.get? p = some (seqObj "list" out c) → PyProof.Rows.StrsAre out.toList ys → ys.Perm ks → sortedS ys = true → Q (.ref p) s') :
    wpAny (model P w) A (call (.builtin "sorted") [.ref a]) Q E s := by
  obtain ⟨o, es, ep, t, ho, hex, hd, g, pk0, nd, hb, hf, hr, hl⟩ := R
  refine Calls.call_function_entry kind_sorted plain_sorted entry_sorted (args_sorted1 _) ?_
  unfold Builtin.«sorted»
  refine wpAny_bind (m := checkCount "sorted" 1 1 _) (wpAny_pure ?_)
  refine wpAny_bind (collect_set (A := A.in1) hh ⟨o, ho, hex.1, hd⟩ hf hb hr hl fun s1 vs k1 hz g1 o1 pm => ?_)
  have hvl : vs.length < scanBound := by
    rw [pm.length_eq, List.length_map, Array.length_toList]
    exact hb
  have hvz : vs.length ≤ sizeLine := fits_of_scanBound hvl
  have hI : PyProof.Rows.StrsAre vs (vs.map rawT) := strs_of vs fun v hv => by
    obtain ⟨e, he, q⟩ := List.mem_map.mp (pm.mem_iff.mp hv)
    obtain ⟨k, tk, h1, _⟩ := g e he
    exact ⟨k, tk, by rw [← q]; exact h1⟩
  have pk : (vs.map rawT).Perm ks := by
    have q := pm.map rawT
    rw [List.map_map] at q
    exact q.trans pk0
  refine wpAny_bind (wpAny_newList ?_ hvz)
  have hoL : (s1.heap.push (seqObj "list" vs.toArray 0)).get? s1.heap.objs.size = some (seqObj "list" vs.toArray 0) := Heap.get?_push_size _ rfl
  refine wpAny_bind (wpAny_holding (wpAny_call_entry slot_list_sort ⟨_, hoL, rfl⟩ entry_list_sort
    (list_sort_treeKAny strKind_oneLt hoL hI.keysOf (fun v₁ v₂ rest e => keyKind_strs (by rw [← e]; exact hI)) hvz fun st' hp hs => ⟨_, rfl, ?_⟩) (args_list_sort _)))
  obtain ⟨ys, h1, h2, h3⟩ := sorted_out_str hI hp hs
  obtain ⟨c, hc⟩ := sortedHeap_at (vs := vs) (out := (arrOf st').map (·.2)) hoL
  refine wpAny_pure ⟨_, rfl, hQ _ s1.heap.objs.size _ c ys (fun b u e => ?_) g1 o1 hz hc h1 (h2.trans pk) h3⟩
  have q := k1 b u e
  have hlt := Heap.lt_size q
  show (sortedHeap (s1.heap.push (seqObj "list" vs.toArray 0)) s1.heap.objs.size vs _).get? b = some u
  rw [sortedHeap_old (Nat.ne_of_lt hlt) (by rw [size_push']; exact Nat.lt_succ_of_lt hlt)]
  exact Heap.get?_push_of_some _ q
end
def SetTO (w : World) (a : Addr) (ks : List Str) : HO := .ext fun h => SetT w h a ks
section
variable {X : Cx} {pins : List (Addr × Obj)} {σ : L2.St} {H : Hp} {s : Shared} {a : Addr} {ks : List Str}
theorem setTO_new {P : Program} {w : World} {H : Hp} {h : Heap} (R : SetT w h a ks) : ObjOk P w H h a (SetTO w a ks) :=
  ⟨R, by obtain ⟨o, es, ep, t, ho, _⟩ := R; exact ⟨o, ho⟩, fun _ _ r k => SetT.at r k⟩
theorem setTO_get (I : Inv X pins σ H s) (ha : H a = some (SetTO X.w a ks)) : SetT X.w s.heap a ks := (I.hok a _ ha).1
/-- set(list of texts) -/
def uSet (K : PySem.W.Frag) (w : World) : List V → Hp → VK → Prop := fun vs H Q => ∃ (a : Addr) (xs : List Str), vs = [.ref a] ∧ SqL K H a (xs.map V.str) ∧ xs.length < 4000 ∧
  ∀ p, H p = none → Q (.ref p) (upd H p (SetTO w p (dedT xs)))
theorem cu_set (hc : X.calm = true) : CallR X (.type "set") (uSet X.K X.w) := by
  intro pins s σ H vs us Q I r h
  obtain ⟨a, xs, rfl, hS, hz, q⟩ := h
  obtain ⟨its, rv, pl, _⟩ := I.list hS
  rw [Vals.ref1 r]
  refine call_setT (w := X.w) (I.ok.hd hc) pl.isList (by simpa using Vals.strs rv) hz fun h' tk hS' hk => ?_
  have hn : H s.heap.objs.size = none := I.hok.fresh (Nat.le_refl _)
  refine ⟨.ref s.heap.objs.size, _, I.laid (t' := tk) (fun b o e => hk b o (Heap.lt_size e) e) (Nat.le_refl _) (setTO_new hS'), rfl, q _ hn⟩
/-- sorted(set of texts), sorted(list of texts) -/
def uSorted (K : PySem.W.Frag) (w : World) : List V → Hp → VK → Prop := fun vs H Q => ∃ (a : Addr) (xs : List Str), vs = [.ref a] ∧
  (H a = some (SetTO w a xs) ∨ (SqL K H a (xs.map V.str) ∧ xs.length ≤ 100000)) ∧
  ∀ p ys, H p = none → ys.Perm xs → sortedS ys = true → Q (.ref p) (upd H p (.lst (ys.map V.str)))
theorem cu_sorted (hc : X.calm = true) : CallR X (.builtin "sorted") (uSorted X.K X.w) := by
  intro pins s σ H vs us Q I r h
  obtain ⟨a, xs, rfl, hS, q⟩ := h
  rw [Vals.ref1 r]
  rcases hS with hS | ⟨hS, hz⟩
  · have R := setTO_get I hS
    have hlen : xs.length ≤ sizeLine := by
      obtain ⟨o, es, ep, t, ho, hex, hd, g, pk0, nd, hb, _⟩ := R
      rw [← pk0.length_eq, List.length_map, Array.length_toList]
      exact fits_of_scanBound hb
    refine sorted_setT R (I.ok.hd hc) fun s' p out c ys k g o hp hg hi pm hs => ?_
    have hn : H p = none := I.hok.fresh hp
    have hl : (ys.map V.str).length ≤ sizeLine := by
      rw [List.length_map, pm.length_eq]
      exact hlen
    have J : Inv X pins σ (upd H p (.lst (ys.map V.str))) { s with heap := s'.heap, gens := s'.gens, drawn := s'.drawn, toks := s'.toks } :=
      I.call (ch := []) (Un.laid k hp hn) (I.hok.laid k hp ⟨hl, out.toList, c, vals_of_strs hi, hg⟩) (by rw [g]; exact I.bare) (fun _ z => nomatch z)
    have e : s' = { s with heap := s'.heap, gens := s'.gens, drawn := s'.drawn, toks := s'.toks } := by
      cases s'
      cases s
      cases o
      rfl
    rw [e]
    exact ⟨.ref p, _, J, rfl, q p ys hn pm hs⟩
  · obtain ⟨its, rv, pl, hz2⟩ := I.list hS
    have hS2 := Vals.strs rv
    refine sorted_strsAny pl.isList hS2 (by rw [← rv.length]; exact hz2) fun out ys h1 h2 h3 => ?_
    obtain ⟨c, hcc⟩ := sortedAll_at s.heap its out
    have hn : H (s.heap.objs.size + 1) = none := I.hok.fresh (Nat.le_succ _)
    refine ⟨.ref (s.heap.objs.size + 1), _, I.laid (o := .lst (ys.map V.str)) (t' := s.toks) (fun _ _ => sortedAll_old) (Nat.le_succ _) (show ObjOk X.prog X.w _ _ _ (.lst (ys.map V.str)) from ⟨?_, out.toList, c, vals_of_strs h1, hcc⟩), rfl, q _ ys hn h2 h3⟩
    rw [List.length_map, h2.length_eq, sizeLine_eq]
    omega
end
end Gd
namespace Gd
open PySem PySem.Spec PyProof.Rows L2
/-- texts in ascending order -/
theorem risingS_pw : ∀ (ss : List Str) (p : Str), risingS p ss = true → (p :: ss).Pairwise fun a b => ¬ (tl b < tl a)
  | [], p, _ => List.pairwise_singleton _ _
  | x :: r, p, h => by
    rw [risingS, Bool.and_eq_true] at h
    have h1 : ¬ (tl x < tl p) := by
      have := h.1
      rw [ltCps_eq] at this
      simpa using this
    have ih := risingS_pw r x h.2
    refine List.Pairwise.cons (fun b hb => ?_) ih
    rcases List.mem_cons.1 hb with e | e
    · rw [e]; exact h1
    · have h2 : ¬ (tl b < tl x) := (List.pairwise_cons.1 ih).1 b e
      exact List.not_lt.2 (List.le_trans (List.not_lt.1 h1) (List.not_lt.1 h2))
theorem sortedS_pw : ∀ {ss : List Str}, sortedS ss = true → ss.Pairwise fun a b => ¬ (tl b < tl a)
  | [], _ => List.Pairwise.nil
  | x :: r, h => risingS_pw r x h
end Gd
namespace Gd
open PySem PySem.Spec PyProof.Rows L2
theorem TyN.b {K : PySem.W.Frag} {H : Hp} {x : V} {T : String} (h : TyN K H x T) : TyB K H x T := by
  cases h with
  | non => exact .non
  | bl b => exact .bl b
  | int i => exact .int i
  | str s => exact .str s
  | lst h => exact .lst h
  | tup h => exact .tup (SqT.of h)
  | dct h => exact .dK h
def uTyp (K : PySem.W.Frag) : List V → Hp → VK → Prop := fun xs H Q => ∃ x T, xs = [x] ∧ TyN K H x T ∧ Q (.ty T) H
theorem cu_typ {X : Cx} : CallR X (.type "type") (uTyp X.K) := by
  intro pins s σ H xs us Q I r h
  obtain ⟨x, T, e, t, q⟩ := h
  exact call_type1 pins s σ H xs us Q I r ⟨x, T, e, t.b, q⟩
theorem kcu_typ {X : Cx} {K : PySem.W.Frag} (h : K = X.K) : CallR X (.type "type") (uTyp K) := by
  subst h
  exact cu_typ
theorem tyty {a : String} (h : a ∈ ["NoneType", "bool", "int", "str", "list", "tuple", "dict"]) : ∀ s : Shared, s.TypeIs (.type a) "type" := by
  simp only [List.mem_cons, List.not_mem_nil, or_false] at h
  rcases h with rfl | rfl | rfl | rfl | rfl | rfl | rfl
  · exact TypeEq.meta_NoneType
  · exact TypeEq.meta_bool
  · exact TypeEq.meta_int
  · exact TypeEq.meta_str
  · exact TypeEq.meta_list
  · exact TypeEq.meta_tuple
  · exact TypeEq.meta_dict
def uEqT : R2 := fun x y H Q => ∃ a b, x = .ty a ∧ y = .ty b ∧ a ∈ ["NoneType", "bool", "int", "str", "list", "tuple", "dict"] ∧ b ∈ ["NoneType", "bool", "int", "str", "list", "tuple", "dict"] ∧ Q (.bl (decide (a = b))) H
theorem ou_eqT {X : Cx} : OpR X (compareOp .Eq) uEqT := by
  intro pins s σ H x y v u Q I rx ry h
  obtain ⟨a, b, rfl, rfl, ha, hb, q⟩ := h
  cases (show v = Value.type a from rx)
  cases (show u = Value.type b from ry)
  by_cases e : a = b
  · subst e
    rw [decide_eq_true rfl] at q
    exact TypeEq.eq_type_same (tyty ha) ⟨.bl true, H, I, rfl, q⟩
  · rw [decide_eq_false e] at q
    exact TypeEq.eq_type_other (tyty ha) (tyty hb) (beq_eq_false_iff_ne.mpr fun z => e (Value.type.inj z)) ⟨.bl false, H, I, rfl, q⟩
theorem rd_typ {K : PySem.W.Frag} {H : Hp} {Q : VK} {x : V} {T : String} (t : TyN K H x T) (q : Q (.ty T) H) : uTyp K [x] H Q := ⟨x, T, rfl, t, q⟩
def eqs (k : Str) (v : Value) : Bool := match v with
  | .str n _ => n.cps.toList == k.cps.toList
  | _ => false
theorem eqs_gives {k : Str} {t : Tok} : ∀ {us : List Value} {ns : List Str}, StrsAre us ns → ∀ y ∈ us, MeetsSeq.EqGives y (.str k t) (eqs k y)
  | _, _, .nil => fun y hy => by cases hy
  | _, _, .cons n t' h => fun y hy => by
    rcases List.mem_cons.mp hy with e | e
    · rw [e]
      exact SeqRoads2.EqGives.str n k t' t
    · exact eqs_gives h y e
theorem erase_mapS : ∀ (l : List Str) (j : Nat), (l.map V.str).eraseIdx j = (l.eraseIdx j).map V.str
  | [], j => by simp
  | a :: r, 0 => by simp
  | a :: r, j + 1 => by
    have ih := erase_mapS r j
    simp [ih]
theorem erase_at : ∀ (l : List Str) (k : Str) (j : Nat), l[j]? = some k → (∀ m : Nat, m < j → l[m]? ≠ some k) → l.eraseIdx j = l.erase k
  | [], k, j, h, _ => by simp at h
  | a :: r, k, 0, h, _ => by
    have e : a = k := by simpa using h
    simp [e]
  | a :: r, k, j + 1, h, n => by
    have e : a ≠ k := fun e => n 0 (by omega) (by simp [e])
    have ih := erase_at r k j (by simpa using h) fun m hm => by simpa using n (m + 1) (by omega)
    rw [List.eraseIdx_cons_succ, ih, List.erase_cons_tail (by simpa using e)]
theorem first_at : ∀ (l : List Str) (k : Str), k ∈ l → ∃ j, l[j]? = some k ∧ ∀ m : Nat, m < j → l[m]? ≠ some k
  | [], k, h => by cases h
  | a :: r, k, h => by
    by_cases e : a = k
    · exact ⟨0, by simp [e], fun m hm => by omega⟩
    · obtain ⟨j, h1, h2⟩ := first_at r k (by
        rcases List.mem_cons.mp h with h | h
        · exact absurd h.symm e
        · exact h)
      refine ⟨j + 1, by simpa using h1, fun m hm => ?_⟩
      cases m with
      | zero => simpa using e
      | succ m => simpa using h2 m (by omega)
def uRem : V → List V → Hp → VK → Prop := fun x xs H Q => ∃ (l : Addr) (ns : List Str) (k : Str), x = .ref l ∧ xs = [.str k] ∧ H l = some (.lst (ns.map V.str)) ∧ k ∈ ns ∧ Q .non (upd H l (.lst ((ns.erase k).map V.str)))
theorem mu_remT {X : Cx} : MtM X "list.remove" uRem := by
  intro pins s σ H x xs v us Q I rx rxs h
  obtain ⟨l, ns, k, rfl, rfl, hH, hk, q⟩ := h
  obtain ⟨j, hj, hno⟩ := first_at ns k hk
  rw [← erase_at ns k j hj hno] at q
  cases rx
  obtain ⟨u, rfl, ru⟩ := rxs.one
  obtain ⟨t, rfl⟩ := ru
  obtain ⟨z, its, n, r, hl, e⟩ := I.lstM hH
  have hi := Vals.strs r
  rw [List.length_map] at hl z
  have hjn : j < ns.length := (List.getElem?_eq_some_iff.mp hj).1
  have hjl : j < its.toArray.size := by rw [List.size_toArray]; omega
  have at_ : ∀ (m : Nat) (hm : m < ns.length) (hm' : m < its.toArray.size), ∃ tm, its.toArray[m] = .str ns[m] tm := by
    intro m hm hm'
    obtain ⟨tm, hmt⟩ := strs_nth hi m its.toArray[m] (by simp [List.getElem?_eq_getElem (show m < its.length by simpa using hm')])
    refine ⟨tm, hmt.trans ?_⟩
    rw [List.getD_eq_getElem?_getD, List.getElem?_eq_getElem hm]
    rfl
  refine call_meets PySem.F.slot_list_remove ⟨_, e, rfl⟩ PySem.F.entry_list_remove (PySem.F.args_list_remove_2 _ _)
    (MeetsSeq.list_remove l its.toArray n (.str k t) (eqs k) (fun y hy => eqs_gives hi y (by simpa using hy)) j hjl ?_ ?_ (by rw [List.size_toArray]; omega)) ⟨e, ?_⟩
  · obtain ⟨tj, e1⟩ := at_ j hjn hjl
    rw [e1]
    have e2 : ns[j] = k := by
      rw [List.getElem?_eq_getElem hjn] at hj
      exact Option.some.inj hj
    rw [e2]
    exact beq_self_eq_true k.cps.toList
  · intro m hm hmj
    have hmn : m < ns.length := by omega
    obtain ⟨tm, e1⟩ := at_ m hmn hm
    rw [e1]
    refine beq_eq_false_iff_ne.mpr fun e2 => hno m hmj ?_
    rw [List.getElem?_eq_getElem hmn, TL.ext_tl e2]
  · have rr := r.eraseIdx j
    rw [erase_mapS] at rr
    refine ⟨.non, _, I.lset (its' := its.eraseIdx j) (t' := s.toks) hH e ?_ rr ?_, rfl, q⟩
    · show its.toArray.eraseIdxIfInBounds j = (its.eraseIdx j).toArray
      rw [List.eraseIdxIfInBounds_toArray]
    · have z2 : (ns.eraseIdx j).length ≤ ns.length := List.length_eraseIdx_le ..
      rw [List.length_map]
      omega
theorem u_rem {H : Hp} {Q : VK} {l : Addr} {ns : List Str} {k : Str} (h : H l = some (.lst (ns.map V.str))) (hk : k ∈ ns) (q : Q .non (upd H l (.lst ((ns.erase k).map V.str)))) : uRem (.ref l) [.str k] H Q :=
  ⟨l, ns, k, rfl, rfl, h, hk, q⟩
theorem GFn.no {P : Program} {w : World} {K : PySem.W.Frag} {mg : Str → Option Value} {base : Heap} {CX : CXT} {k : Nat} {f : Addr} {fd : FuncData} {ps : List Str} : GFn P w K mg base CX k f fd ps (fun _ _ _ _ => False) :=
  ⟨fun _ _ _ _ h => h.elim, fun _ _ _ _ _ _ _ _ _ _ _ _ _ _ h => h.elim⟩
section
variable {X : Cx} {K : PySem.W.Frag} {w : World} {e : Expr} {es : List Expr} {te : TE} {t : TA}
theorem kcu_set (h : K = X.K) (hw : w = X.w) (hc : X.calm = true) : CallR X (.type "set") (uSet K w) := by
  subst h hw
  exact cu_set hc
def uList (K : PySem.W.Frag) : List V → Hp → VK → Prop := fun xs H Q => ∃ p ys, xs = [.ref p] ∧ (SqL K H p ys ∨ SqT K H p ys) ∧ ∀ l, H l = none → Q (.ref l) (upd H l (.lst ys))
theorem kcall_list (h : K = X.K) : CallR X (.type "list") (uList K) := by
  subst h
  exact call_list_of
theorem kpe_revL {k : Nat} {p1 p2 p3 pos : Pos} (h : K = X.K) (he : PE X e te) : PE X (.Subscript e (.Slice none none (some (.UnaryOp .USub (.Constant (.int 1) k p1) p2)) p3) pos) (tRevL K te) := by
  subst h
  exact pe_revL he
end
theorem u_set {K : PySem.W.Frag} {w : World} {H : Hp} {Q : VK} {a : Addr} {xs : List Str} (h : SqL K H a (xs.map V.str)) (hz : xs.length < 4000) (q : ∀ p, H p = none → Q (.ref p) (upd H p (SetTO w p (dedT xs)))) : uSet K w [.ref a] H Q :=
  ⟨a, xs, rfl, h, hz, q⟩
theorem u_sortedS {K : PySem.W.Frag} {w : World} {H : Hp} {Q : VK} {a : Addr} {xs : List Str} (h : H a = some (SetTO w a xs))
    (q : ∀ p ys, H p = none → ys.Perm xs → sortedS ys = true → Q (.ref p) (upd H p (.lst (ys.map V.str)))) : uSorted K w [.ref a] H Q := ⟨a, xs, rfl, .inl h, q⟩
theorem u_sortedL {K : PySem.W.Frag} {w : World} {H : Hp} {Q : VK} {a : Addr} {xs : List Str} (h : SqL K H a (xs.map V.str)) (hz : xs.length ≤ 100000)
    (q : ∀ p ys, H p = none → ys.Perm xs → sortedS ys = true → Q (.ref p) (upd H p (.lst (ys.map V.str)))) : uSorted K w [.ref a] H Q := ⟨a, xs, rfl, .inr ⟨h, hz⟩, q⟩
theorem u_list {K : PySem.W.Frag} {H : Hp} {Q : VK} {p : Addr} {ys : List V} (h : SqL K H p ys) (q : ∀ l, H l = none → Q (.ref l) (upd H l (.lst ys))) : uList K [.ref p] H Q := ⟨p, ys, rfl, .inl h, q⟩
end Gd
namespace Gd
open PySem PySem.Spec PyProof.Rows L2
def uIsi2 (K : PySem.W.Frag) : List V → Hp → VK → Prop := fun xs H Q => ∃ x tp A B T, xs = [x, .ref tp] ∧ H tp = some (.tup [.ty A, .ty B]) ∧
  A ∈ ["bool", "int", "str", "list", "tuple", "dict"] ∧ B ∈ ["bool", "int", "str", "list", "tuple", "dict"] ∧ TyN K H x T ∧ Q (.bl (isi T A || isi T B)) H
theorem cu_isi2 {X : Cx} : CallR X (.builtin "isinstance") (uIsi2 X.K) := by
  intro pins s σ H xs us Q I r h
  obtain ⟨x, tp, A, B, T, rfl, hp, hA, hB, hT, q⟩ := h
  refine call_isiT pins s σ H _ us Q I r ⟨x, tp, _, _, [.type A, .type B], isi T A || isi T B, rfl, hp, .cons (.ty A) (.cons (.ty B) .nil), hT.x, ?_, q⟩
  refine kitAny_cons (kit_ty (isi_ok T hT.mem A hA)) (fun e => ?_) (fun e => by rw [e]; rfl)
  refine kitAny_cons (kit_ty (isi_ok T hT.mem B hB)) (fun e2 => ?_) (fun e2 => by rw [e2, Bool.or_true])
  rw [e, e2]
  exact kitAny_nil
theorem kcu_isi2 {X : Cx} {K : PySem.W.Frag} (h : K = X.K) : CallR X (.builtin "isinstance") (uIsi2 K) := by
  subst h
  exact cu_isi2
theorem u_isi2 {K : PySem.W.Frag} {H : Hp} {Q : VK} {x : V} {tp : Addr} {A B T : String} (h : TyN K H x T) (hp : H tp = some (.tup [.ty A, .ty B])) (q : Q (.bl (isi T A || isi T B)) H)
    (hA : A ∈ ["bool", "int", "str", "list", "tuple", "dict"] := by decide) (hB : B ∈ ["bool", "int", "str", "list", "tuple", "dict"] := by decide) : uIsi2 K [x, .ref tp] H Q :=
  ⟨x, tp, A, B, T, rfl, hp, hA, hB, h, q⟩
theorem inV_strs (x : Str) (ws : List Str) : inV (.str x) (ws.map V.str) = decide (x ∈ ws) := by
  unfold inV
  rw [List.any_map, show (fun y => eqV y (V.str x)) ∘ V.str = fun w : Str => w == x from rfl, Bool.eq_iff_iff]
  simp only [List.any_eq_true, beq_iff_eq, exists_eq_right, decide_eq_true_eq]
theorem flat_strs (ws : List Str) : (ws.map V.str).all flatV = true := by simp [List.all_map, flatV]
theorem u_inW {K : PySem.W.Frag} {H : Hp} {Q : VK} {p : Addr} {x : Str} {ws : List Str} (h : SqL K H p (ws.map V.str)) (q : Q (.bl (decide (x ∈ ws))) H) : uIn K (.str x) (.ref p) H Q :=
  ⟨_, .inl h, rfl, flat_strs ws, by rw [inV_strs]; exact q⟩
def adj : List Str → Option (Str × Str)
  | x :: y :: r => if Txt.startswith y x = true then some (x, y) else adj (y :: r)
  | _ => none
theorem adj_none : ∀ {ys : List Str}, ys.Nodup → (∀ x ∈ ys, ∀ y ∈ ys, x ≠ y → Txt.startswith y x = false) → adj ys = none
  | [], _, _ => rfl
  | [x], _, _ => rfl
  | x :: y :: r, n, h => by
    have e : x ≠ y := by
      intro e
      subst e
      simp at n
    rw [adj, if_neg (by rw [h x (by simp) y (by simp) e]; simp)]
    exact adj_none (List.nodup_cons.mp n).2 fun a ha b hb => h a (by simp [ha]) b (by simp [hb])
/-- no two different ones clash -/
def NC (ws : List Str) : Prop := ∀ x ∈ ws, ∀ y ∈ ws, x ≠ y → Txt.startswith y x = false
theorem NC.adj {ws ys : List Str} (h : NC ws) (p : ys.Perm (dedT ws)) : adj ys = none := by
  refine adj_none (p.nodup_iff.mpr (dedT_nodup _)) fun x hx y hy => h x ?_ y ?_
  · exact dedT_mem.mp (p.mem_iff.mp hx)
  · exact dedT_mem.mp (p.mem_iff.mp hy)
/-- the uses played -/
def play (ws us : List Str) : List Str := us.foldl (fun w x => w.erase x ++ [x]) ws
theorem play_len : ∀ (us ws : List Str), (play ws us).length ≤ ws.length + us.length
  | [], ws => by simp [play]
  | u :: us, ws => by
    have ih := play_len us (ws.erase u ++ [u])
    have e := List.length_erase_le (a := u) (l := ws)
    unfold play at *
    simp only [List.foldl_cons, List.length_append, List.length_cons, List.length_nil] at *
    omega
theorem play_snoc (ws us : List Str) (x : Str) : play ws (us ++ [x]) = (play ws us).erase x ++ [x] := by
  unfold play
  rw [List.foldl_append]
  rfl
end Gd
namespace Gd
open PySem PySem.Spec PyProof.Rows L2
end Gd
namespace Gd
open PySem PySem.Spec PyProof.Rows L2
def uLenS (w : World) : List V → Hp → VK → Prop := fun xs H Q => ∃ a ks, xs = [.ref a] ∧ H a = some (SetTO w a ks) ∧ Q (.int (ks.length : Int)) H
theorem cu_lenS {X : Cx} : CallR X (.builtin "len") (uLenS X.w) := by
  intro pins s σ H xs us Q I r h
  obtain ⟨a, ks, rfl, ha, q⟩ := h
  obtain ⟨o, es, ep, t, ho, hex, hd, g, pk, nd, hb, hf, hr, hl⟩ := setTO_get I ha
  rw [Vals.ref1 r]
  have e : es.size = ks.length := by
    rw [← pk.length_eq, List.length_map, Array.length_toList]
  have z := sizeLine_eq
  have z2 := fits_of_scanBound hb
  refine call_len_set ho hex hd hf (by omega) ?_
  rw [e]
  exact ⟨.int (ks.length : Int), H, I.tok _, ⟨_, rfl⟩, q⟩
theorem kcu_lenS {X : Cx} {w : World} (h : w = X.w) : CallR X (.builtin "len") (uLenS w) := by
  subst h
  exact cu_lenS
theorem u_lenS' {w : World} {H : Hp} {Q : VK} {a : Addr} {ks : List Str} (h : H a = some (SetTO w a ks)) (q : Q (.int (ks.length : Int)) H) : uLenS w [.ref a] H Q := ⟨a, ks, rfl, h, q⟩
theorem NC.sub {ws us : List Str} (h : NC ws) (m : ∀ u ∈ us, u ∈ ws) : NC us := fun x hx y hy => h x (m x hx) y (m y hy)
end Gd
namespace Gd
open PySem PySem.Spec PyProof.Rows L2
theorem play_cons (ws us : List Str) (u : Str) : play ws (u :: us) = play (ws.erase u ++ [u]) us := rfl
theorem step_nodup {ws : List Str} {u : Str} (n : ws.Nodup) : (ws.erase u ++ [u]).Nodup := by
  rw [List.nodup_append]
  refine ⟨n.erase u, by simp, fun a ha b hb e => ?_⟩
  rw [List.mem_singleton.mp hb] at e
  subst e
  exact (n.mem_erase_iff.mp ha).1 rfl
theorem play_nodup : ∀ (us ws : List Str), ws.Nodup → (play ws us).Nodup
  | [], _, n => n
  | u :: us, ws, n => by
    rw [play_cons]
    exact play_nodup us _ (step_nodup n)
theorem play_mem : ∀ (us ws : List Str) (x : Str), x ∈ play ws us ↔ x ∈ ws ∨ x ∈ us
  | [], ws, x => by simp [play]
  | u :: us, ws, x => by
    rw [play_cons, play_mem us, List.mem_append, List.mem_singleton, List.mem_cons]
    by_cases e : x = u
    · simp [e]
    · simp [e, List.mem_erase_of_ne e]
theorem play_new : ∀ (us ws : List Str), (ws ++ us).Nodup → play ws us = ws ++ us
  | [], ws, _ => by simp [play]
  | u :: us, ws, n => by
    have hu : u ∉ ws := fun h => (List.nodup_append.mp n).2.2 u h u (by simp) rfl
    rw [play_cons, List.erase_of_not_mem hu, play_new us (ws ++ [u]) (by simpa using n)]
    simp
theorem play_self {ws : List Str} (n : ws.Nodup) : play [] ws = ws := play_new ws [] (by simpa using n)
/-- what was not used stays in front, in its order -/
theorem play_rest {ws : List Str} (n : ws.Nodup) (us : List Str) : play ws us = ws.filter (fun x => !decide (x ∈ us)) ++ play [] us := by
  generalize hr : us.reverse = rs
  obtain rfl : us = rs.reverse := by rw [← hr, List.reverse_reverse]
  clear hr
  induction rs with
  | nil =>
    show ws = _ ++ []
    rw [List.append_nil]
    exact (List.filter_eq_self.mpr (by simp)).symm
  | cons u rs ih =>
    rw [List.reverse_cons, play_snoc, play_snoc, ih]
    have nd := play_nodup rs.reverse ws n
    rw [ih] at nd
    have e : (ws.filter (fun x => !decide (x ∈ rs.reverse)) ++ play [] rs.reverse).erase u = ws.filter (fun x => !decide (x ∈ rs.reverse ++ [u])) ++ (play [] rs.reverse).erase u := by
      by_cases hu : u ∈ rs.reverse
      · have hf : u ∉ ws.filter (fun x => !decide (x ∈ rs.reverse)) := by
          rw [List.mem_filter]
          simp [hu]
        rw [List.erase_append_right _ hf]
        congr 1
        refine List.filter_congr fun x _ => ?_
        by_cases e : x = u
        · simp [e, hu]
        · simp [e]
      · have hp : u ∉ play [] rs.reverse := by
          rw [play_mem]
          simpa using hu
        rw [List.erase_of_not_mem hp]
        have hf : ws.filter (fun x => !decide (x ∈ rs.reverse ++ [u])) = (ws.filter (fun x => !decide (x ∈ rs.reverse))).erase u := by
          rw [List.Nodup.erase_eq_filter (show List.Nodup _ from List.Pairwise.filter _ n), List.filter_filter]
          refine List.filter_congr fun x _ => ?_
          by_cases e : x = u
          · simp [e]
          · simp [e]
        rw [hf]
        by_cases hm : u ∈ ws.filter (fun x => !decide (x ∈ rs.reverse))
        · rw [List.erase_append_left _ hm]
        · rw [List.erase_append_right _ hm, List.erase_of_not_mem hm, List.erase_of_not_mem hp]
    rw [e, List.append_assoc]
end Gd
namespace Gd
open PySem PySem.Spec PyProof.Rows L2
def pickV (ix : List Nat) (vs : List V) : List V := ix.map fun i => vs.getD i .non
def pickU (ix : List Nat) (us : List Value) : List Value := ix.map fun i => us.getD i .none
theorem pick_rel : ∀ (ix : List Nat) {vs : List V} {us : List Value}, Vals vs us → Vals (pickV ix vs) (pickU ix us)
  | [], _, _, _ => .nil
  | i :: ix, vs, us, r => by
    refine .cons ?_ (pick_rel ix r)
    clear ix
    induction r generalizing i with
    | nil => exact rfl
    | cons a r ih =>
      cases i with
      | zero => exact a
      | succ i => exact ih i
structure GK (P : Program) (w : World) (K : PySem.W.Frag) (mg : Str → Option Value) (base : Heap) (k : Nat) (x : Str) (ks : List Str) (ix : List Nat) (sp : Sp) : Prop where
  ex : ∃ (f : Addr) (fd : FuncData) (ps : List Str), mg x = some (.ref f) ∧ PySem.W.keepIn K (.ref f) = true ∧
    (∀ us : List Value, us.length = ks.length → bindArgs fd ⟨[], ks.zip us⟩ = pure (ps.zip (pickU ix us))) ∧ GFn P w K mg base CX0 k f fd ps sp
def tKw (n : Nat) (ix : List Nat) (sp : Sp) (tk : TA) : TE := fun σ H Q => tk σ H fun zs H2 => zs.length = n ∧ sp (pickV ix zs) H2 Q E0
section
variable {X : Cx} {j k n : Nat} {sp : Sp} {x : Str} {p pos : Pos} {kws : List Keyword} {ks : List Str} {ix : List Nat} {tk : TA}
theorem pe_gck (cc : GK X.prog X.w X.K X.mg X.base k x ks ix sp) (gd : X.A.guards = some []) (hr : Room j X.A) (hk : k ≤ j) (hg : Gl X x) (hn : ks.length = n) (hkw : PK X kws tk)
    (hdb : (x == ("__debug__" : Str)) = false := by decide)
    (hall : (backToKw pos (keywordEach kws X.env)).all (·.1.isSome) = true := by rfl)
    (hks : (backToKw pos (keywordEach kws X.env)).filterMap (·.1) = ks := by rfl)
    (hpl : ((backTo pos (starEach [] X.env)).any (·.1) || (backToKw pos (keywordEach kws X.env)).any (·.1.isNone)) = false := by rfl) :
    PE X (.Call (.Name x p) [] kws pos) (tKw n ix sp tk) := by
  obtain ⟨f, fd, ps, h1, h2, hb, F⟩ := cc.ex
  refine ⟨fun pins s σ H Q I h => wpAny_Call_Name_kw (ld_glob I hg h1 ?_ hdb)⟩
  refine PySem.W.callWith_KW0 (h₀ := X.base) I.ok.mod.kin h2 hall (thn (hkw.run pos pins s σ H _ I h) ?_) hpl
  rintro us s1 ⟨vs, H1, I1, r, hl, q⟩
  refine ⟨I1.kIn, ?_⟩
  rw [hks]
  have e := hb us (by rw [← r.length, hl, hn])
  refine wpAny_call (codeAny_mono (F.go X.A X.stack s1 H1 ⟨[], ks.zip us⟩ _ _ Q E0 gd (hr.mono hk) I1.env0 (BindsTo.of_eq e) (pick_rel ix r) q) fun c s' hq => ?_)
  match c, hq with
  | .ok (.ret u), hq => exact I1.after hq
  | .ok .next, hq => exact hq.elim
  | .ok .brk, hq => exact hq.elim
  | .ok .cont, hq => exact hq.elim
  | .error e, hq => exact pass0 pins σ H1 s1 e s' I1 hq
end
end Gd
namespace Gd
open PySem PySem.Spec PyProof.Rows L2
/-- what stands in an attribute: data, or a cell at a told place -/
inductive FV where
  | d (x : PyData)
  | a (q : Addr)
/-- a list or a dict that may change -/
inductive Cell where
  | l (xs : List PyData)
  | m (kvs : List (Key × PyData))
  /-- a list whose place is told; a dict of such places -/
  | la (a : Addr) (xs : List PyData) | mc (kvs : List (Key × Addr))
  /-- a dict that changes no more -/
  | fz (kvs : List (Key × PyData))
  /-- such a dict, for the time that it is locked: the very object -/
  | fx (o : Obj) (vs : List (Key × V)) (kvs : List (Key × PyData))
  /-- an object of the class at C -/
  | ob (C : Addr) (fs : List (Str × FV))
/-- a value: data; a new list that nothing else holds; a list that is only read; the script; a cell; kinds; a set of texts -/
inductive W where
  | d (x : PyData) | o (xs : List PyData) | b (xs : List PyData) | s (xs : List PyData) | c (k : Nat) | ty (n : String) | tt (n m : String) | set (ks : List Str) | lc (ks : List Nat) | x (a : Addr) | dm (kvs : List (Key × PyData)) | od (kvs : List (Key × PyData))
abbrev Ev := List (Option W)
abbrev Cs := List Cell
section
variable {K : PySem.W.Frag} {w : World}
inductive FvOk (G : Addr → Prop) (H : Hp) : V → FV → Prop
  | d {v : V} {x : PyData} (h : Dq G H v x) : FvOk G H v (.d x)
  | a {q : Addr} : FvOk G H (.ref q) (.a q)
inductive CellOk (G : Addr → Prop) (H : Hp) : Addr → Cell → Prop
  | l {p : Addr} {vs : List V} {xs : List PyData} (h : H p = some (.lst vs)) (r : DqL G H vs xs) : CellOk G H p (.l xs)
  | m {p : Addr} {vs : List (Key × V)} {kvs : List (Key × PyData)} (h : H p = some (.dK vs)) (r : Paired (fun (a : Key × V) (b : Key × PyData) => a.1 = b.1 ∧ Dq G H a.2 b.2) vs kvs) : CellOk G H p (.m kvs)
  | la {p : Addr} {vs : List V} {xs : List PyData} (h : H p = some (.lst vs)) (r : DqL G H vs xs) : CellOk G H p (.la p xs)
  | fz {p : Addr} {o : Obj} {vs : List (Key × V)} {kvs : List (Key × PyData)} (h : H p = some (.frz o (.dK vs))) (r : Paired (fun (a : Key × V) (b : Key × PyData) => a.1 = b.1 ∧ Dq G H a.2 b.2) vs kvs) : CellOk G H p (.fz kvs)
  | fx {p : Addr} {o : Obj} {vs : List (Key × V)} {kvs : List (Key × PyData)} (h : H p = some (.frz o (.dK vs))) (r : Paired (fun (a : Key × V) (b : Key × PyData) => a.1 = b.1 ∧ Dq G H a.2 b.2) vs kvs) : CellOk G H p (.fx o vs kvs)
  | ob {p C dx : Addr} {vs : List (Str × V)} {fs : List (Str × FV)} (h : H p = some (.ins C dx vs)) (r : Paired (fun (a : Str × V) (b : Str × FV) => a.1 = b.1 ∧ FvOk G H a.2 b.2) vs fs) : CellOk G H p (.ob C fs)
  | mc {p : Addr} {kvs : List (Key × Addr)} (h : H p = some (.dK (kvs.map fun a => (a.1, V.ref a.2)))) : CellOk G H p (.mc kvs)
/-- the heap under the cells c at ρ, data within G -/
structure Hx (B G : Addr → Prop) (ρ : List Addr) (c : Cs) (H : Hp) : Prop where
  nd : ρ.Nodup
  av : ∀ p ∈ ρ, ¬ G p
  avb : ∀ p ∈ ρ, ¬ B p
  live : ∀ p, G p → H p ≠ none
  liveb : ∀ p, B p → H p ≠ none
  cells : Paired (CellOk G H) ρ c
/-- cells in a list -/
inductive LcR (ρ : List Addr) : List V → List Nat → Prop
  | nil : LcR ρ [] []
  | cons {q : Addr} {k : Nat} {vs : List V} {ks : List Nat} (h : ρ[k]? = some q) (t : LcR ρ vs ks) : LcR ρ (.ref q :: vs) (k :: ks)
theorem LcR.mono {ρ ρ' : List Addr} {vs : List V} {ks : List Nat} (m : ∀ k ∈ ks, ∀ q, ρ[k]? = some q → ρ'[k]? = some q) (h : LcR ρ vs ks) : LcR ρ' vs ks := by
  induction h with
  | nil => exact .nil
  | cons h _ ih => exact .cons (m _ (by simp) _ h) (ih fun k hk => m k (by simp [hk]))
inductive Sh (K : PySem.W.Frag) (w : World) (B G : Addr → Prop) (ρ : List Addr) (H : Hp) : V → W → Prop
  | d {v : V} {x : PyData} (h : Dq G H v x) : Sh K w B G ρ H v (.d x)
  | o {p : Addr} {vs : List V} {xs : List PyData} (h : H p = some (.lst vs)) (r : DqL G H vs xs) (g : ¬ G p) (b : ¬ B p) (n : p ∉ ρ) : Sh K w B G ρ H (.ref p) (.o xs)
  | b {p : Addr} {vs : List V} {xs : List PyData} (h : H p = some (.lst vs)) (r : DqL G H vs xs) (b : B p) : Sh K w B G ρ H (.ref p) (.b xs)
  | s {p : Addr} {ns : List Int} (h : (Rd H p (.lst (ns.map V.int)) ∧ B p) ∨ ∃ (o : Obj) (its : Array Value) (n : Nat), K.lookup p = some o ∧ o.cls = .type "list" ∧ o.dict = none ∧ o.data = .seq its n ∧ its.size ≤ sizeLine ∧ Vals (ns.map V.int) its.toList) : Sh K w B G ρ H (.ref p) (.s (ns.map PyData.int))
  | c {p : Addr} {k : Nat} (h : ρ[k]? = some p) : Sh K w B G ρ H (.ref p) (.c k)
  | ty {n : String} : Sh K w B G ρ H (.ty n) (.ty n)
  | tt {p : Addr} {n m : String} (h : H p = some (.tup [.ty n, .ty m])) (g : G p) : Sh K w B G ρ H (.ref p) (.tt n m)
  | set {p : Addr} {ks : List Str} (h : H p = some (SetTO w p ks)) (g : G p) : Sh K w B G ρ H (.ref p) (.set ks)
  | lc {p : Addr} {vs : List V} {ks : List Nat} (h : H p = some (.lst vs)) (g : G p) (r : LcR ρ vs ks) : Sh K w B G ρ H (.ref p) (.lc ks)
  | x {a : Addr} : Sh K w B G ρ H (.ref a) (.x a)
  | dm {p : Addr} {o : Obj} {vs : List (Key × V)} {kvs : List (Key × PyData)} (h : H p = some (.frz o (.dK vs))) (r : Paired (fun (a : Key × V) (b : Key × PyData) => a.1 = b.1 ∧ Dq G H a.2 b.2) vs kvs) (g : G p) : Sh K w B G ρ H (.ref p) (.dm kvs)
  | od {p : Addr} {vs : List (Key × V)} {kvs : List (Key × PyData)} (h : H p = some (.dK vs)) (r : Paired (fun (a : Key × V) (b : Key × PyData) => a.1 = b.1 ∧ Dq G H a.2 b.2) vs kvs) (g : ¬ G p) (b : ¬ B p) (n : p ∉ ρ) : Sh K w B G ρ H (.ref p) (.od kvs)
/-- from a heap to a later one -/
structure Ext (G : Addr → Prop) (ρ : List Addr) (H : Hp) (G' : Addr → Prop) (ρ' : List Addr) (H' : Hp) : Prop where
  kp : Kp ρ H H'
  tr : ∀ b, H b ≠ none → H' b ≠ none
  pre : ∃ ys, ρ' = ρ ++ ys ∧ ∀ y ∈ ys, H y = none
  gr : ∀ p, G p → G' p
  nw : ∀ p, G' p → G p ∨ H p = none
/-- what slots need of a later heap -/
structure Stay (B G : Addr → Prop) (ρ : List Addr) (H : Hp) (G' : Addr → Prop) (ρ' : List Addr) (H' : Hp) : Prop where
  kg : ∀ b o, G b → H b = some o → H' b = some o
  kb : ∀ b o, B b → H b = some o → H' b = some o
  gr : ∀ p, G p → G' p
  pre : ∃ ys, ρ' = ρ ++ ys
def W.noO : W → Bool
  | .o _ => false
  | .od _ => false
  | _ => true
/-- new since H -/
def Fr (H : Hp) (v : V) : W → Prop
  | .o _ => ∃ p, v = .ref p ∧ H p = none
  | .od _ => ∃ p, v = .ref p ∧ H p = none
  | _ => True
def So (K : PySem.W.Frag) (w : World) (B G : Addr → Prop) (ρ : List Addr) (H : Hp) (a : Option V) : Option W → Prop
  | none => True
  | some u => u.noO = true ∧ ∃ v, a = some v ∧ Sh K w B G ρ H v u
abbrev Sl (K : PySem.W.Frag) (w : World) (B G : Addr → Prop) (ρ : List Addr) (H : Hp) : L2.St → Ev → Prop := Paired (So K w B G ρ H)
variable {B G G' G'' G0 : Addr → Prop} {ρ ρ' ρ'' ρ0 : List Addr} {H H' H'' H0 : Hp} {c c' : Cs} {σ : L2.St} {e e' : Ev} {v vx vy : V} {u x y : W}
theorem Ext.refl : Ext G ρ H G ρ H := ⟨Kp.refl, fun _ h => h, ⟨[], by simp, by simp⟩, fun _ h => h, fun _ h => .inl h⟩
theorem Ext.was (h : Ext G ρ H G' ρ' H') {b : Addr} (n : H' b = none) : H b = none := Classical.byContradiction fun z => h.tr b z n
theorem Ext.trans (h : Ext G ρ H G' ρ' H') (g : Ext G' ρ' H' G'' ρ'' H'') : Ext G ρ H G'' ρ'' H'' := by
  obtain ⟨ys, rfl, hy⟩ := h.pre
  obtain ⟨zs, rfl, hz⟩ := g.pre
  refine ⟨fun b o e n => ?_, fun b n => g.tr b (h.tr b n), ⟨ys ++ zs, by simp, fun y m => ?_⟩, fun p q => g.gr p (h.gr p q), fun p q => ?_⟩
  · refine g.kp b o (h.kp b o e n) fun z => ?_
    rcases List.mem_append.mp z with z | z
    · exact n z
    · rw [hy b z] at e; cases e
  · rcases List.mem_append.mp m with m | m
    · exact hy y m
    · exact h.was (hz y m)
  · rcases g.nw p q with q | q
    · exact h.nw p q
    · exact .inr (h.was q)
theorem Ext.keep (X : Hx B G ρ c H) (h : Ext G ρ H G' ρ' H') : ∀ b o, G b → H b = some o → H' b = some o := fun b o g e => h.kp b o e fun z => X.av b z g
theorem Ext.dq (X : Hx B G ρ c H) (h : Ext G ρ H G' ρ' H') {d : PyData} (q : Dq G H v d) : Dq G' H' v d := Dq.mono (h.keep X) h.gr d v q
theorem Ext.dql (X : Hx B G ρ c H) (h : Ext G ρ H G' ρ' H') {vs : List V} {ds : List PyData} (q : DqL G H vs ds) : DqL G' H' vs ds := DqL.mono (h.keep X) h.gr ds vs q
theorem Ext.nin (h : Ext G ρ H G' ρ' H') {p : Addr} {o : HO} (e : H p = some o) (n : p ∉ ρ) : p ∉ ρ' := by
  obtain ⟨ys, rfl, hy⟩ := h.pre
  intro z
  rcases List.mem_append.mp z with z | z
  · exact n z
  · rw [hy p z] at e; cases e
theorem Ext.stay (X : Hx B G ρ c H) (h : Ext G ρ H G' ρ' H') : Stay B G ρ H G' ρ' H' :=
  ⟨h.keep X, fun b o g e => h.kp b o e fun z => X.avb b z g, h.gr, let ⟨ys, e, _⟩ := h.pre; ⟨ys, e⟩⟩
theorem Stay.refl : Stay B G ρ H G ρ H := ⟨fun _ _ _ h => h, fun _ _ _ h => h, fun _ h => h, [], by simp⟩
theorem Stay.trans (h : Stay B G ρ H G' ρ' H') (g : Stay B G' ρ' H' G'' ρ'' H'') : Stay B G ρ H G'' ρ'' H'' := by
  obtain ⟨ys, rfl⟩ := h.pre
  obtain ⟨zs, rfl⟩ := g.pre
  exact ⟨fun b o q e => g.kg b o (h.gr b q) (h.kg b o q e), fun b o q e => g.kb b o q (h.kb b o q e), fun p q => g.gr p (h.gr p q), ys ++ zs, by simp⟩
theorem Stay.dq (h : Stay B G ρ H G' ρ' H') {d : PyData} (q : Dq G H v d) : Dq G' H' v d := Dq.mono h.kg h.gr d v q
theorem Stay.dql (h : Stay B G ρ H G' ρ' H') {vs : List V} {ds : List PyData} (q : DqL G H vs ds) : DqL G' H' vs ds := DqL.mono h.kg h.gr ds vs q
theorem Stay.sh (h : Stay B G ρ H G' ρ' H') (q : Sh K w B G ρ H v u) (nn : u.noO = true) : Sh K w B G' ρ' H' v u := by
  cases q with
  | d q => exact .d (h.dq q)
  | o _ _ _ _ _ => cases nn
  | od _ _ _ _ _ => cases nn
  | b e r n => exact .b (h.kb _ _ n e) (h.dql r) n
  | s q =>
    rcases q with ⟨q | ⟨o, q⟩, n⟩ | q
    · exact .s (.inl ⟨.inl (h.kb _ _ n q), n⟩)
    · exact .s (.inl ⟨.inr ⟨o, h.kb _ _ n q⟩, n⟩)
    · exact .s (.inr q)
  | c e =>
    obtain ⟨ys, rfl⟩ := h.pre
    refine .c ?_
    rw [List.getElem?_append_left (List.getElem?_eq_some_iff.mp e).1]
    exact e
  | ty => exact .ty
  | tt e n => exact .tt (h.kg _ _ n e) (h.gr _ n)
  | set e n => exact .set (h.kg _ _ n e) (h.gr _ n)
  | x => exact .x
  | dm e r n => exact .dm (h.kg _ _ n e) (Paired.mono (fun _ _ q => ⟨q.1, h.dq q.2⟩) r) (h.gr _ n)
  | lc e n r =>
    obtain ⟨ys, rfl⟩ := h.pre
    exact .lc (h.kg _ _ n e) (h.gr _ n) (r.mono fun k _ q e => by rw [List.getElem?_append_left (List.getElem?_eq_some_iff.mp e).1]; exact e)
theorem Stay.so (h : Stay B G ρ H G' ρ' H') {a : Option V} {z : Option W} (q : So K w B G ρ H a z) : So K w B G' ρ' H' a z := by
  cases z with
  | none => trivial
  | some u =>
    obtain ⟨n, v, e, q⟩ := q
    exact ⟨n, v, e, h.sh q n⟩
theorem Stay.sl (h : Stay B G ρ H G' ρ' H') (q : Sl K w B G ρ H σ e) : Sl K w B G' ρ' H' σ e := Paired.mono (fun _ _ r => h.so r) q
theorem Ext.sh (X : Hx B G ρ c H) (h : Ext G ρ H G' ρ' H') (q : Sh K w B G ρ H v u) : Sh K w B G' ρ' H' v u := by
  by_cases nn : u.noO = true
  · exact (h.stay X).sh q nn
  · cases q with
    | o e r g b n => exact .o (h.kp _ _ e n) (h.dql X r) (fun z => (h.nw _ z).elim g fun z => by rw [e] at z; cases z) b (h.nin e n)
    | od e r g b n => exact .od (h.kp _ _ e n) (Paired.mono (fun _ _ q => ⟨q.1, h.dq X q.2⟩) r) (fun z => (h.nw _ z).elim g fun z => by rw [e] at z; cases z) b (h.nin e n)
    | _ => exact absurd rfl nn
theorem Ext.fr (h : Ext G ρ H G' ρ' H') (q : Fr H' v u) : Fr H v u := by
  cases u with
  | o xs =>
    obtain ⟨p, e, n⟩ := q
    exact ⟨p, e, h.was n⟩
  | od xs =>
    obtain ⟨p, e, n⟩ := q
    exact ⟨p, e, h.was n⟩
  | _ => trivial
theorem Ext.sl (X : Hx B G ρ c H) (h : Ext G ρ H G' ρ' H') (q : Sl K w B G ρ H σ e) : Sl K w B G' ρ' H' σ e := (h.stay X).sl q
theorem Ext.shs (X : Hx B G ρ c H) (h : Ext G ρ H G' ρ' H') {vs : List V} {us : List W} (q : Paired (Sh K w B G ρ H) vs us) : Paired (Sh K w B G' ρ' H') vs us := Paired.mono (fun _ _ r => h.sh X r) q
theorem paired_get {α β : Type} {F : α → β → Prop} : ∀ {xs : List α} {ys : List β} {i : Nat} {y : β}, Paired F xs ys → ys[i]? = some y → ∃ x, xs[i]? = some x ∧ F x y
  | _, _, _, _, .nil, e => by simp at e
  | _, _, 0, _, .cons r _, e => by simp at e; subst e; exact ⟨_, rfl, r⟩
  | _, _, i + 1, y, .cons _ t, e => by
    obtain ⟨x, h1, h2⟩ := paired_get (i := i) (y := y) t (by simpa using e)
    exact ⟨x, by simpa using h1, h2⟩
theorem paired_set {α β : Type} {F : α → β → Prop} {a : α} {b : β} (r : F a b) : ∀ {xs : List α} {ys : List β} (i : Nat), Paired F xs ys → Paired F (xs.set i a) (ys.set i b)
  | _, _, _, .nil => .nil
  | _, _, 0, .cons _ t => .cons r t
  | _, _, i + 1, .cons q t => .cons q (paired_set r i t)
theorem paired_app {α β : Type} {F : α → β → Prop} : ∀ {xs us : List α} {ys zs : List β}, Paired F xs ys → Paired F us zs → Paired F (xs ++ us) (ys ++ zs)
  | _, _, _, _, .nil, s => s
  | _, _, _, _, .cons r t, s => .cons r (paired_app t s)
theorem FvOk.mv {x : FV} (h : FvOk G H v x) (k : ∀ b o, G b → H b = some o → H' b = some o) (m : ∀ b, G b → G' b) : FvOk G' H' v x := by
  cases h with
  | d h => exact .d (Dq.mono k m _ _ h)
  | a => exact .a
theorem CellOk.trk {p : Addr} {x : Cell} (h : CellOk G H p x) : H p ≠ none := by
  cases h with
  | l h _ => rw [h]; simp
  | m h _ => rw [h]; simp
  | la h _ => rw [h]; simp
  | fz h _ => rw [h]; simp
  | fx h _ => rw [h]; simp
  | ob h _ => rw [h]; simp
  | mc h => rw [h]; simp
theorem CellOk.mv {p : Addr} {x : Cell} (h : CellOk G H p x) (e : H' p = H p) (k : ∀ b o, G b → H b = some o → H' b = some o) (m : ∀ b, G b → G' b) : CellOk G' H' p x := by
  cases h with
  | l h r => exact .l (e.trans h) (DqL.mono k m _ _ r)
  | m h r => exact .m (e.trans h) (Paired.mono (fun a b q => ⟨q.1, Dq.mono k m _ _ q.2⟩) r)
  | la h r => exact .la (e.trans h) (DqL.mono k m _ _ r)
  | fz h r => exact .fz (e.trans h) (Paired.mono (fun a b q => ⟨q.1, Dq.mono k m _ _ q.2⟩) r)
  | fx h r => exact .fx (e.trans h) (Paired.mono (fun a b q => ⟨q.1, Dq.mono k m _ _ q.2⟩) r)
  | ob h r => exact .ob (e.trans h) (Paired.mono (fun a b q => ⟨q.1, q.2.mv k m⟩) r)
  | mc h => exact .mc (e.trans h)
theorem cells_trk {ps : List Addr} {c : Cs} (q : Paired (CellOk G H) ps c) : ∀ p ∈ ps, H p ≠ none := by
  induction q with
  | nil => intro p h; cases h
  | cons r _ ih =>
    intro p h
    rcases List.mem_cons.mp h with e | h
    · rw [e]; exact r.trk
    · exact ih p h
theorem Hx.trk (X : Hx B G ρ c H) {p : Addr} (h : p ∈ ρ) : H p ≠ none := cells_trk X.cells p h
theorem Hx.len (X : Hx B G ρ c H) : ρ.length = c.length := Paired.length X.cells
/-- nothing that was changed -/
theorem Hx.pure (X : Hx B G ρ c H) (k : Kp [] H H') (gr : ∀ p, G p → G' p) (nw : ∀ p, G' p → G p ∨ (H p = none ∨ p ∉ ρ)) (live : ∀ p, G' p → H' p ≠ none) : Hx B G' ρ c H' := by
  refine ⟨X.nd, fun p hp g => ?_, X.avb, live, fun p b => ?_, ?_⟩
  · rcases nw p g with g | g | g
    · exact X.av p hp g
    · exact X.trk hp g
    · exact g hp
  · cases h : H p with
    | none => exact absurd h (X.liveb p b)
    | some o => rw [k.get0 h]; simp
  · refine Paired.mono (fun p x r => ?_) X.cells
    have e : H' p = H p := by
      cases h : H p with
      | none => exact absurd h r.trk
      | some o => exact k.get0 h
    exact r.mv e (fun b o _ e => k.get0 e) gr
/-- a new object -/
theorem Hx.new (X : Hx B G ρ c H) {p : Addr} {o : HO} (n : H p = none) : Hx B G ρ c (upd H p o) :=
  X.pure (Kp.refl.new n) (fun _ h => h) (fun _ h => .inl h) fun q g => by
    have := X.live q g
    rw [upd_ne (fun z => by rw [z] at this; exact this n)]
    exact this
theorem Ext.new {p : Addr} {o : HO} (n : H p = none) : Ext G ρ H G ρ (upd H p o) :=
  ⟨(Kp.refl.new n), fun b h => by
    by_cases e : b = p
    · rw [e, upd_same]; simp
    · rw [upd_ne e]; exact h, ⟨[], by simp, by simp⟩, fun _ h => h, fun _ h => .inl h⟩
/-- data now -/
def Gp (G : Addr → Prop) (p : Addr) : Addr → Prop := fun q => G q ∨ q = p
theorem Hx.data (X : Hx B G ρ c H) {p : Addr} (t : H p ≠ none) (n : p ∉ ρ) : Hx B (Gp G p) ρ c H :=
  X.pure Kp.refl (fun _ h => .inl h) (fun q h => h.elim .inl fun e => .inr (.inr (by rw [e]; exact n))) fun q g => g.elim (X.live q) fun e => by rw [e]; exact t
theorem Ext.data (h : Ext G0 ρ0 H0 G ρ H) {p : Addr} (n : H0 p = none) : Ext G0 ρ0 H0 (Gp G p) ρ H :=
  ⟨h.kp, h.tr, h.pre, fun q g => .inl (h.gr q g), fun q g => g.elim (h.nw q) fun e => .inr (by rw [e]; exact n)⟩
/-- a cell now -/
theorem Hx.cell (X : Hx B G ρ c H) {p : Addr} {x : Cell} (h : CellOk G H p x) (n : p ∉ ρ) (g : ¬ G p) (b : ¬ B p) : Hx B G (ρ ++ [p]) (c ++ [x]) H :=
  ⟨by
    rw [List.nodup_append]
    refine ⟨X.nd, by simp, fun a ha b hb z => ?_⟩
    rw [List.mem_singleton.mp hb] at z
    exact n (z ▸ ha), fun q hq => by
    rcases List.mem_append.mp hq with h | h
    · exact X.av q h
    · rw [List.mem_singleton.mp h]; exact g, fun q hq => by
    rcases List.mem_append.mp hq with h | h
    · exact X.avb q h
    · rw [List.mem_singleton.mp h]; exact b, X.live, X.liveb, paired_app X.cells (.cons h .nil)⟩
theorem Ext.cell (h : Ext G0 ρ0 H0 G ρ H) {p : Addr} (n : H0 p = none) : Ext G0 ρ0 H0 G (ρ ++ [p]) H := by
  obtain ⟨ys, rfl, hy⟩ := h.pre
  refine ⟨h.kp, h.tr, ⟨ys ++ [p], by simp, fun y m => ?_⟩, h.gr, h.nw⟩
  rcases List.mem_append.mp m with m | m
  · exact hy y m
  · rw [List.mem_singleton.mp m]; exact n
/-- a cell changed -/
theorem cells_off {p : Addr} {o : HO} (hG : ∀ q, G q → q ≠ p) {ps : List Addr} {c : Cs} (q : Paired (CellOk G H) ps c) (n : p ∉ ps) : Paired (CellOk G (upd H p o)) ps c := by
  induction q with
  | nil => exact .nil
  | cons r _ ih =>
    simp only [List.mem_cons, not_or] at n
    exact .cons (r.mv (upd_ne (Ne.symm n.1)) (fun b o g e => by rw [upd_ne (hG b g)]; exact e) (fun _ h => h)) (ih n.2)
theorem cells_set {p : Addr} {o : HO} {x : Cell} (hG : ∀ q, G q → q ≠ p) (h : CellOk G (upd H p o) p x) : ∀ {ps : List Addr} {c : Cs} {k : Nat}, ps.Nodup → Paired (CellOk G H) ps c → ps[k]? = some p → Paired (CellOk G (upd H p o)) ps (c.set k x) := by
  intro ps c k nd q ek
  induction q generalizing k with
  | nil => simp at ek
  | @cons a b l1 l2 r t ih =>
    have nd2 := List.nodup_cons.mp nd
    cases k with
    | zero =>
      have e1 : a = p := by simpa using ek
      subst e1
      exact .cons h (cells_off hG t nd2.1)
    | succ k =>
      have ek2 : l1[k]? = some p := by simpa using ek
      have n1 : a ≠ p := fun z => nd2.1 (z ▸ List.mem_of_getElem? ek2)
      exact .cons (r.mv (upd_ne n1) (fun b o g e => by rw [upd_ne (hG b g)]; exact e) (fun _ h => h)) (ih nd2.2 ek2)
theorem Hx.mut (X : Hx B G ρ c H) {k : Nat} {p : Addr} {o : HO} {x : Cell} (e : ρ[k]? = some p) (h : CellOk G (upd H p o) p x) : Hx B G ρ (c.set k x) (upd H p o) := by
  have hp : p ∈ ρ := List.mem_of_getElem? e
  have hG : ∀ q, G q → q ≠ p := fun q g z => X.av p hp (z ▸ g)
  refine ⟨X.nd, X.av, X.avb, fun q g => ?_, fun q g => ?_, cells_set hG h X.nd X.cells e⟩
  · rw [upd_ne (hG q g)]
    exact X.live q g
  · rw [upd_ne fun z => X.avb p hp (by rw [← z]; exact g)]
    exact X.liveb q g
theorem Ext.mut (h : Ext G0 ρ0 H0 G ρ H) {p : Addr} {o : HO} (hp : p ∈ ρ) : Ext G0 ρ0 H0 G ρ (upd H p o) := by
  refine h.trans ⟨Kp.refl.mutS hp, fun b t => ?_, ⟨[], by simp, by simp⟩, fun _ h => h, fun _ h => .inl h⟩
  by_cases z : b = p
  · rw [z, upd_same]; simp
  · rw [upd_ne z]; exact t
inductive Lv (c : Cs) : W → List PyData → Prop
  | d {xs : List PyData} : Lv c (.d (.list xs)) xs
  | o {xs : List PyData} : Lv c (.o xs) xs
  | b {xs : List PyData} : Lv c (.b xs) xs
  | s {xs : List PyData} : Lv c (.s xs) xs
  | c {k : Nat} {xs : List PyData} (h : c[k]? = some (.l xs)) : Lv c (.c k) xs
  | ca {k : Nat} {a : Addr} {xs : List PyData} (h : c[k]? = some (.la a xs)) : Lv c (.c k) xs
theorem dqL_int : ∀ {ns : List Int}, DqL G H (ns.map V.int) (ns.map PyData.int)
  | [] => .nil
  | n :: ns => .cons (.int n) dqL_int
/-- all but the script stands there as a list -/
inductive Lx (c : Cs) : W → List PyData → Prop
  | d {xs : List PyData} : Lx c (.d (.list xs)) xs
  | o {xs : List PyData} : Lx c (.o xs) xs
  | b {xs : List PyData} : Lx c (.b xs) xs
  | c {k : Nat} {xs : List PyData} (h : c[k]? = some (.l xs)) : Lx c (.c k) xs
  | ca {k : Nat} {a : Addr} {xs : List PyData} (h : c[k]? = some (.la a xs)) : Lx c (.c k) xs
theorem Lx.at (X : Hx B G ρ c H) (q : Sh K w B G ρ H v u) {xs : List PyData} (l : Lx c u xs) : ∃ a vs, v = .ref a ∧ H a = some (.lst vs) ∧ DqL G H vs xs := by
  cases l with
  | d =>
    cases q with
    | d q =>
      cases q with
      | lst n h r => exact ⟨_, _, rfl, h, r⟩
  | o => cases q with | o h r _ _ _ => exact ⟨_, _, rfl, h, r⟩
  | b => cases q with | b h r _ => exact ⟨_, _, rfl, h, r⟩
  | c e =>
    cases q with
    | c h =>
      obtain ⟨p, hp, r⟩ := paired_get X.cells e
      rw [h] at hp
      cases hp
      cases r with
      | l h r => exact ⟨_, _, rfl, h, r⟩
  | ca e =>
    cases q with
    | c h =>
      obtain ⟨p, hp, r⟩ := paired_get X.cells e
      rw [h] at hp
      cases hp
      cases r with
      | la h r => exact ⟨_, _, rfl, h, r⟩
theorem Lv.seq (X : Hx B G ρ c H) (q : Sh K w B G ρ H v u) {xs : List PyData} (l : Lv c u xs) : ∃ a vs, v = .ref a ∧ SqL K H a vs ∧ DqL G H vs xs := by
  have key : ∀ {xs}, Lx c u xs → ∃ a vs, v = .ref a ∧ SqL K H a vs ∧ DqL G H vs xs := fun l => by
    obtain ⟨a, vs, e, h, r⟩ := l.at X q
    exact ⟨a, vs, e, SqL.of h, r⟩
  cases l with
  | d => exact key .d
  | o => exact key .o
  | b => exact key .b
  | c h => exact key (.c h)
  | ca h => exact key (.ca h)
  | s =>
    cases q with
    | s q =>
      refine ⟨_, _, rfl, ?_, dqL_int⟩
      rcases q with ⟨q, _⟩ | q
      · exact .inl q
      · exact .inr q
inductive Dv (c : Cs) : W → PyData → Prop
  | d {x : PyData} : Dv c (.d x) x
  | l {u : W} {xs : List PyData} (h : Lv c u xs) : Dv c u (.list xs)
theorem Dv.dp (X : Hx B G ρ c H) (q : Sh K w B G ρ H v u) {x : PyData} (l : Dv c u x) (z : x.hasDict = false) : Dp K H v x := by
  cases l with
  | d => cases q with | d q => exact Dq.dp _ _ z q
  | l h =>
    obtain ⟨a, vs, rfl, h1, h2⟩ := h.seq X q
    exact .lst h1 (DqL.dp _ _ (by simpa only [PyData.hasDict] using z) h2)
inductive Dx (c : Cs) : W → PyData → Prop
  | d {x : PyData} : Dx c (.d x) x
  | l {u : W} {xs : List PyData} (h : Lx c u xs) : Dx c u (.list xs)
theorem Dx.dq (X : Hx B G ρ c H) (q : Sh K w B G ρ H v u) {x : PyData} (l : Dx c u x) : DqT (fun _ => True) H v x := by
  cases l with
  | d => cases q with | d q => exact .of (q.imp fun _ _ => trivial)
  | l h =>
    obtain ⟨a, vs, rfl, h1, h2⟩ := h.at X q
    exact .of (.lst trivial h1 (h2.imp fun _ _ => trivial))
/-- the wish T of a heap, by the wish Q of values and cells, from the base on -/
def Kt (K : PySem.W.Frag) (w : World) (B G : Addr → Prop) (ρ : List Addr) (H : Hp) (Q : W → Cs → Prop) (T : VK) : Prop :=
  ∀ u v c' G' ρ' H', Ext G ρ H G' ρ' H' → Hx B G' ρ' c' H' → Sh K w B G' ρ' H' v u → Fr H v u → Q u c' → T v H'
def VE (K : PySem.W.Frag) (w : World) (t : TE) (e : Ev) (c : Cs) (Q : W → Cs → Prop) : Prop :=
  ∀ B G ρ σ H T, Hx B G ρ c H → Sl K w B G ρ H σ e → Kt K w B G ρ H Q T → t σ H T
/-- new lists stand apart -/
def Dj : List V → List W → Prop
  | v :: vs, u :: us => (u.noO = false → ∀ q ∈ vs.zip us, q.2.noO = false → q.1 ≠ v) ∧ Dj vs us
  | _, _ => True
def KtA (K : PySem.W.Frag) (w : World) (B G : Addr → Prop) (ρ : List Addr) (H : Hp) (Q : List W → Cs → Prop) (T : List V → Hp → Prop) : Prop :=
  ∀ us vs c' G' ρ' H', Ext G ρ H G' ρ' H' → Hx B G' ρ' c' H' → Paired (Sh K w B G' ρ' H') vs us → Paired (Fr H) vs us → Dj vs us → Q us c' → T vs H'
def VA (K : PySem.W.Frag) (w : World) (t : TA) (e : Ev) (c : Cs) (Q : List W → Cs → Prop) : Prop :=
  ∀ B G ρ σ H T, Hx B G ρ c H → Sl K w B G ρ H σ e → KtA K w B G ρ H Q T → t σ H T
def KtB {α : Type} (B G : Addr → Prop) (ρ : List Addr) (H : Hp) (Q : α → Cs → Prop) (T : α → Hp → Prop) : Prop :=
  ∀ b c' G' ρ' H', Ext G ρ H G' ρ' H' → Hx B G' ρ' c' H' → Q b c' → T b H'
def VT (K : PySem.W.Frag) (w : World) (t : TT) (e : Ev) (c : Cs) (Q : Bool → Cs → Prop) : Prop :=
  ∀ B G ρ σ H T, Hx B G ρ c H → Sl K w B G ρ H σ e → KtB B G ρ H Q T → t σ H T
def VO (K : PySem.W.Frag) (w : World) (t : TO) (e : Ev) (c : Cs) (Q : Option Int → Cs → Prop) : Prop :=
  ∀ B G ρ σ H T, Hx B G ρ c H → Sl K w B G ρ H σ e → KtB B G ρ H Q T → t σ H T
/-- readings of values that have come since the base -/
def V2 (K : PySem.W.Frag) (w : World) (r : R2) (x y : W) (c : Cs) (Q : W → Cs → Prop) : Prop :=
  ∀ B G0 ρ0 H0 G ρ H vx vy T, Ext G0 ρ0 H0 G ρ H → Hx B G ρ c H → Sh K w B G ρ H vx x → Sh K w B G ρ H vy y → Fr H0 vx x → Fr H0 vy y → Kt K w B G0 ρ0 H0 Q T → r vx vy H T
def VU (K : PySem.W.Frag) (w : World) (r : V → Hp → VK → Prop) (x : W) (c : Cs) (Q : W → Cs → Prop) : Prop :=
  ∀ B G0 ρ0 H0 G ρ H vx T, Ext G0 ρ0 H0 G ρ H → Hx B G ρ c H → Sh K w B G ρ H vx x → Fr H0 vx x → Kt K w B G0 ρ0 H0 Q T → r vx H T
def VX (K : PySem.W.Frag) (w : World) (r : List V → Hp → VK → Prop) (us : List W) (c : Cs) (Q : W → Cs → Prop) : Prop :=
  ∀ B G0 ρ0 H0 G ρ H vs T, Ext G0 ρ0 H0 G ρ H → Hx B G ρ c H → Paired (Sh K w B G ρ H) vs us → Paired (Fr H0) vs us → Kt K w B G0 ρ0 H0 Q T → r vs H T
def VM (K : PySem.W.Frag) (w : World) (r : V → List V → Hp → VK → Prop) (x : W) (us : List W) (c : Cs) (Q : W → Cs → Prop) : Prop :=
  ∀ B G0 ρ0 H0 G ρ H vx vs T, Ext G0 ρ0 H0 G ρ H → Hx B G ρ c H → Sh K w B G ρ H vx x → Fr H0 vx x → Paired (Sh K w B G ρ H) vs us → Paired (Fr H0) vs us → Kt K w B G0 ρ0 H0 Q T → r vx vs H T
section
variable {Q : W → Cs → Prop} {T : VK}
theorem Kt.d (k : Kt K w B G0 ρ0 H0 Q T) (E : Ext G0 ρ0 H0 G ρ H) (X : Hx B G ρ c H) {z : PyData} (h : Dq G H v z) (q : Q (.d z) c) : T v H := k _ _ _ _ _ _ E X (.d h) trivial q
/-- a new list -/
theorem Kt.l (k : Kt K w B G0 ρ0 H0 Q T) (E : Ext G0 ρ0 H0 G ρ H) (X : Hx B G ρ c H) {p : Addr} {vs : List V} {xs : List PyData} (n : H p = none) (r : DqL G H vs xs) (q : Q (.o xs) c) : T (.ref p) (upd H p (.lst vs)) := by
  refine k _ _ _ _ _ _ (E.trans (.new n)) (X.new n) (.o upd_same (r.new n) (fun g => X.live p g n) (fun g => X.liveb p g n) fun z => X.trk z n) ⟨p, rfl, E.was n⟩ q
/-- a new tuple -/
theorem Kt.t (k : Kt K w B G0 ρ0 H0 Q T) (E : Ext G0 ρ0 H0 G ρ H) (X : Hx B G ρ c H) {p : Addr} {vs : List V} {xs : List PyData} (n : H p = none) (r : DqL G H vs xs) (q : Q (.d (.tuple xs)) c) : T (.ref p) (upd H p (.tup vs)) := by
  have X1 : Hx B (Gp G p) ρ c (upd H p (.tup vs)) := (X.new n).data (by rw [upd_same]; simp) (fun z => X.trk z n)
  refine k _ _ _ _ _ _ ((E.trans (.new n)).data (E.was n)) X1 (.d (.tup (.inr rfl) upd_same ?_)) trivial q
  exact (r.new n).imp fun b h => .inl h
end
end
end Gd
namespace Gd
open PySem PySem.Spec PyProof.Rows L2
section
variable {K : PySem.W.Frag} {w : World} {B : Addr → Prop} {G G' G'' G0 : Addr → Prop} {ρ ρ' ρ'' ρ0 : List Addr} {H H' H'' H0 : Hp} {c c' : Cs} {σ : L2.St} {e e' : Ev} {v vx vy : V} {u x y : W}
variable {Q : W → Cs → Prop} {QA : List W → Cs → Prop} {QB : Bool → Cs → Prop} {QO : Option Int → Cs → Prop} {ta tb tc te : TE} {t : TA} {tt tt1 : TT} {i : Nat}
theorem fr_noO (h : u.noO = true) : Fr H v u := by
  cases u <;> first
    | trivial
    | cases h
theorem v_var (h : e[i]? = some (some u)) (q : Q u c) : VE K w (tVar i) e c Q := by
  intro B G ρ σ H T X S k
  obtain ⟨a, h1, h2⟩ := paired_get S h
  obtain ⟨n, v, rfl, h3⟩ := h2
  exact ⟨v, h1, k _ _ _ _ _ _ .refl X h3 (fr_noO n) q⟩
theorem v_c {z : PyData} (h : ∀ G H, Dq G H v z) (q : Q (.d z) c) : VE K w (tC v) e c Q := fun B G ρ σ H T X S k => k.d .refl X (h G H) q
theorem v_non (q : Q (.d .none) c) : VE K w (tC .non) e c Q := v_c (fun _ _ => .non) q
theorem v_int {i : Int} (q : Q (.d (.int i)) c) : VE K w (tC (.int i)) e c Q := v_c (fun _ _ => .int i) q
theorem v_str {i : Str} (q : Q (.d (.str i)) c) : VE K w (tC (.str i)) e c Q := v_c (fun _ _ => .str i) q
theorem v_bl {i : Bool} (q : Q (.d (.bool i)) c) : VE K w (tC (.bl i)) e c Q := v_c (fun _ _ => .bl i) q
theorem v_ty {i : String} (q : Q (.ty i) c) : VE K w (tC (.ty i)) e c Q := fun B G ρ σ H T X S k => k _ _ _ _ _ _ .refl X .ty trivial q
theorem v_op {r : R2} (h : VE K w ta e c fun x c1 => VE K w tb e c1 fun y c2 => V2 K w r x y c2 Q) : VE K w (tOp r ta tb) e c Q := by
  intro B G ρ σ H T X S k
  refine h B G ρ σ H _ X S fun x vx c1 G1 ρ1 H1 E1 X1 s1 f1 q1 => ?_
  refine q1 B G1 ρ1 σ H1 _ X1 (E1.sl X S) fun y vy c2 G2 ρ2 H2 E2 X2 s2 f2 q2 => ?_
  exact q2 B G ρ H G2 ρ2 H2 vx vy T (E1.trans E2) X2 (E2.sh X1 s1) s2 f1 (E1.fr f2) k
theorem v_un {r : V → Hp → VK → Prop} (h : VE K w ta e c fun x c1 => VU K w r x c1 Q) : VE K w (tUn r ta) e c Q := by
  intro B G ρ σ H T X S k
  refine h B G ρ σ H _ X S fun x vx c1 G1 ρ1 H1 E1 X1 s1 f1 q1 => ?_
  exact q1 B G ρ H G1 ρ1 H1 vx T E1 X1 s1 f1 k
theorem v_nil (q : QA [] c) : VA K w tNil e c QA := fun B G ρ σ H T X S k => k _ _ _ _ _ _ .refl X .nil .nil trivial q
theorem dj_of {vs : List V} {us : List W} (s : Sh K w B G ρ H v u) (f : Paired (Fr H) vs us) (n : u.noO = false) : ∀ q ∈ vs.zip us, q.2.noO = false → q.1 ≠ v := by
  have hp : ∃ p, v = .ref p ∧ H p ≠ none := by
    cases s with
    | o h _ _ _ _ => exact ⟨_, rfl, by rw [h]; simp⟩
    | od h _ _ _ _ => exact ⟨_, rfl, by rw [h]; simp⟩
    | _ => cases n
  obtain ⟨p, rfl, hp⟩ := hp
  induction f with
  | nil => intro q hq; cases hq
  | @cons a b l1 l2 r _ ih =>
    intro q hq z e
    rw [List.zip_cons_cons, List.mem_cons] at hq
    rcases hq with rfl | hq
    · cases b with
      | o xs =>
        obtain ⟨p', e1, e2⟩ := r
        simp only at e
        rw [e1] at e
        cases e
        exact hp e2
      | od xs =>
        obtain ⟨p', e1, e2⟩ := r
        simp only at e
        rw [e1] at e
        cases e
        exact hp e2
      | _ => cases z
    · exact ih q hq z e
theorem v_cons (h : VE K w ta e c fun x c1 => VA K w t e c1 fun us c2 => QA (x :: us) c2) : VA K w (tCons ta t) e c QA := by
  intro B G ρ σ H T X S k
  refine h B G ρ σ H _ X S fun x vx c1 G1 ρ1 H1 E1 X1 s1 f1 q1 => ?_
  refine q1 B G1 ρ1 σ H1 _ X1 (E1.sl X S) fun us vs c2 G2 ρ2 H2 E2 X2 s2 f2 d2 q2 => ?_
  exact k _ _ _ _ _ _ (E1.trans E2) X2 (.cons (E2.sh X1 s1) s2) (.cons f1 (Paired.mono (fun _ _ q => E1.fr q) f2)) ⟨fun z => dj_of s1 f2 z, d2⟩ q2
theorem v_cb {r : List V → Hp → VK → Prop} (h : VA K w t e c fun us c1 => VX K w r us c1 Q) : VE K w (tCB r t) e c Q := by
  intro B G ρ σ H T X S k
  refine h B G ρ σ H _ X S fun us vs c1 G1 ρ1 H1 E1 X1 s1 f1 d1 q1 => ?_
  exact q1 B G ρ H G1 ρ1 H1 vs T E1 X1 s1 f1 k
def dat1 : W → Option PyData
  | .d x => some x
  | .o xs => some (.list xs)
  | _ => none
def dats : List W → Option (List PyData)
  | [] => some []
  | u :: us => (dat1 u).bind fun d => (dats us).map fun ds => d :: ds
/-- data, or a new list that can be data -/
def Dd (H0 : Hp) (G : Addr → Prop) (ρ : List Addr) (H : Hp) (v : V) (x : PyData) : Prop := Dq G H v x ∨ ∃ p vs xs, v = .ref p ∧ x = .list xs ∧ H p = some (.lst vs) ∧ DqL G H vs xs ∧ p ∉ ρ ∧ H0 p = none
theorem Dd.of (q : Sh K w B G ρ H v u) (f : Fr H0 v u) {x : PyData} (h : dat1 u = some x) : Dd H0 G ρ H v x := by
  cases q with
  | d q => cases h; exact .inl q
  | o a r g b n =>
    cases h
    obtain ⟨p, e, z⟩ := f
    cases e
    exact .inr ⟨_, _, _, rfl, rfl, a, r, n, z⟩
  | _ => cases h
theorem Dd.gr {x' : PyData} (h : Dd H0 G ρ H v x') (k : ∀ p, G p → G' p) : Dd H0 G' ρ H v x' := by
  rcases h with h | ⟨p, vs, xs, h1, h2, h3, h4, h5⟩
  · exact .inl (h.imp k)
  · exact .inr ⟨p, vs, xs, h1, h2, h3, h4.imp k, h5⟩
theorem Dd.data {x' : PyData} (h : Dd H0 G ρ H v x') (E : Ext G0 ρ0 H0 G ρ H) (X : Hx B G ρ c H) : ∃ G', Ext G0 ρ0 H0 G' ρ H ∧ Hx B G' ρ c H ∧ (∀ p, G p → G' p) ∧ Dq G' H v x' := by
  rcases h with h | ⟨p, vs, xs, rfl, rfl, h3, h4, h5, h6⟩
  · exact ⟨G, E, X, fun _ h => h, h⟩
  · exact ⟨Gp G p, E.data h6, X.data (by rw [h3]; simp) h5, fun _ h => .inl h, .lst (.inr rfl) h3 (h4.imp fun _ h => .inl h)⟩
theorem dats_data : ∀ {vs : List V} {xs : List PyData} {G : Addr → Prop}, Paired (Dd H0 G ρ H) vs xs → Ext G0 ρ0 H0 G ρ H → Hx B G ρ c H → ∃ G', Ext G0 ρ0 H0 G' ρ H ∧ Hx B G' ρ c H ∧ (∀ p, G p → G' p) ∧ DqL G' H vs xs
  | _, _, G, .nil, E, X => ⟨G, E, X, fun _ h => h, .nil⟩
  | _, _, G, .cons r t, E, X => by
    obtain ⟨G1, E1, X1, g1, q1⟩ := r.data E X
    obtain ⟨G2, E2, X2, g2, q2⟩ := dats_data (Paired.mono (fun _ _ q => Dd.gr q g1) t) E1 X1
    exact ⟨G2, E2, X2, fun p h => g2 p (g1 p h), .cons (q1.imp g2) q2⟩
theorem dats_of : ∀ {vs : List V} {us : List W} {xs : List PyData}, Paired (Sh K w B G ρ H) vs us → Paired (Fr H0) vs us → dats us = some xs → Paired (Dd H0 G ρ H) vs xs
  | _, _, xs, .nil, _, h => by cases h; exact .nil
  | _, _, xs, .cons q t, .cons f g, h => by
    unfold dats at h
    obtain ⟨d, h1, h2⟩ := Option.bind_eq_some_iff.mp h
    obtain ⟨ds, h3, rfl⟩ := Option.map_eq_some_iff.mp h2
    exact .cons (Dd.of q f h1) (dats_of t g h3)
theorem v_lst (h : VA K w t e c fun us c1 => ∃ xs, dats us = some xs ∧ us.length ≤ sizeLine ∧ Q (.o xs) c1) : VE K w (tLst t) e c Q := by
  intro B G ρ σ H T X S k
  refine h B G ρ σ H _ X S fun us vs c1 G1 ρ1 H1 E1 X1 s1 f1 d1 ⟨xs, h1, h2, q1⟩ => ?_
  obtain ⟨G2, E2, X2, _, q2⟩ := dats_data (dats_of s1 f1 h1) E1 X1
  refine ⟨by rw [Paired.length s1]; exact h2, fun p n => k.l E2 X2 n q2 q1⟩
theorem v_tup (h : VA K w t e c fun us c1 => ∃ xs, dats us = some xs ∧ us.length ≤ sizeLine ∧ Q (.d (.tuple xs)) c1) : VE K w (tTup t) e c Q := by
  intro B G ρ σ H T X S k
  refine h B G ρ σ H _ X S fun us vs c1 G1 ρ1 H1 E1 X1 s1 f1 d1 ⟨xs, h1, h2, q1⟩ => ?_
  obtain ⟨G2, E2, X2, _, q2⟩ := dats_data (dats_of s1 f1 h1) E1 X1
  refine ⟨by rw [Paired.length s1]; exact h2, fun p n => k.t E2 X2 n q2 q1⟩
theorem v_tupT (h : VA K w t e c fun us c1 => ∃ a b, us = [.ty a, .ty b] ∧ Q (.tt a b) c1) : VE K w (tTup t) e c Q := by
  intro B G ρ σ H T X S k
  refine h B G ρ σ H _ X S fun us vs c1 G1 ρ1 H1 E1 X1 s1 f1 d1 ⟨a, b, h1, q1⟩ => ?_
  subst h1
  cases s1 with
  | cons s1 s2 => cases s2 with
    | cons s2 s3 =>
      cases s3
      cases s1
      cases s2
      refine ⟨by show 2 ≤ sizeLine; rw [sizeLine_eq]; decide, fun p n => ?_⟩
      exact k _ _ _ _ _ _ ((E1.trans (.new n)).data (E1.was n)) ((X1.new n).data (by rw [upd_same]; simp) fun z => X1.trk z n) (.tt upd_same (.inr rfl)) trivial q1
theorem v_dnew (q : Q (.c c.length) (c ++ [.m []])) : VE K w tDNewK e c Q := by
  intro B G ρ σ H T X S k p n
  have X1 : Hx B G ρ c (upd H p (.dK [])) := X.new n
  have X2 := X1.cell (.m upd_same .nil) (fun z => X.trk z n) (fun g => X.live p g n) fun g => X.liveb p g n
  refine k _ _ _ _ _ _ (Ext.cell (.new n) n) X2 (.c ?_) trivial q
  rw [← X.len]
  simp
theorem v_ife (h : VT K w tt e c fun b c1 => if b = true then VE K w ta e c1 Q else VE K w tb e c1 Q) : VE K w (tIf tt ta tb) e c Q := by
  intro B G ρ σ H T X S k
  refine h B G ρ σ H _ X S fun b c1 G1 ρ1 H1 E1 X1 q1 => ?_
  have k1 : Kt K w B G1 ρ1 H1 Q T := fun u v c' G' ρ' H' E' X' s f q => k u v c' G' ρ' H' (E1.trans E') X' s (E1.fr f) q
  cases b with
  | true => rw [if_pos rfl] at q1; rw [if_pos rfl]; exact q1 _ _ _ _ _ _ X1 (E1.sl X S) k1
  | false => rw [if_neg (by decide)] at q1; rw [if_neg (by decide)]; exact q1 _ _ _ _ _ _ X1 (E1.sl X S) k1
inductive Tv (c : Cs) : W → Bool → Prop
  | non : Tv c (.d .none) false
  | bl (b : Bool) : Tv c (.d (.bool b)) b
  | int (i : Int) : Tv c (.d (.int i)) (i != 0)
  | str (s : Str) (h : s.length ≤ sizeLine) : Tv c (.d (.str s)) ((s.length : Int) != 0)
  | lst {u : W} {xs : List PyData} (h : Lv c u xs) : Tv c u (!xs.isEmpty)
  | tup (xs : List PyData) : Tv c (.d (.tuple xs)) (!xs.isEmpty)
  | dct {k : Nat} {kvs : List (Key × PyData)} (h : c[k]? = some (.m kvs)) : Tv c (.c k) (!kvs.isEmpty)
theorem dql_len {vs : List V} : ∀ {xs : List PyData}, DqL G H vs xs → vs.length = xs.length := by
  intro xs h
  induction vs generalizing xs with
  | nil => cases h; rfl
  | cons v vs ih =>
    cases h with
    | cons _ r => simp [ih r]
theorem isE {α β : Type} {xs : List α} {ys : List β} (h : xs.length = ys.length) : xs.isEmpty = ys.isEmpty := by
  cases xs <;> cases ys <;> simp at h <;> rfl
theorem Tv.tru {b : Bool} (h : Tv c u b) (X : Hx B G ρ c H) (q : Sh K w B G ρ H v u) : TruV K v H b := by
  cases h with
  | non => cases q with | d q => cases q; rfl
  | bl b => cases q with | d q => cases q; rfl
  | int i => cases q with | d q => cases q; rfl
  | str s h => cases q with | d q => cases q; exact ⟨h, rfl⟩
  | lst l =>
    obtain ⟨a, vs, rfl, h1, h2⟩ := l.seq X q
    exact .inl ⟨vs, h1, by rw [isE (dql_len h2)]⟩
  | tup xs =>
    cases q with
    | d q =>
      cases q with
      | tup n h r => exact .inr (.inl ⟨_, SqT.of h, by rw [isE (dql_len r)]⟩)
  | dct e =>
    cases q with
    | c h =>
      obtain ⟨p, hp, r⟩ := paired_get X.cells e
      rw [h] at hp
      cases hp
      cases r with
      | m h r => exact .inr (.inr ⟨_, h, by rw [isE (Paired.length r)]⟩)
theorem v_andT (h : VE K w ta e c fun x c1 => ∃ k, Tv c1 x k ∧ if k = true then VE K w tb e c1 Q else Q x c1) : VE K w (tAndT K ta tb) e c Q := by
  intro B G ρ σ H T X S k
  refine h B G ρ σ H _ X S fun x vx c1 G1 ρ1 H1 E1 X1 s1 f1 ⟨b, hb, q1⟩ => ⟨b, hb.tru X1 s1, ?_⟩
  cases b with
  | true =>
    rw [if_pos rfl] at q1; rw [if_pos rfl]
    exact q1 _ _ _ _ _ _ X1 (E1.sl X S) fun u v c' G' ρ' H' E' X' s f q => k u v c' G' ρ' H' (E1.trans E') X' s (E1.fr f) q
  | false => rw [if_neg (by decide)] at q1; rw [if_neg (by decide)]; exact k _ _ _ _ _ _ E1 X1 s1 f1 q1
theorem v_orT (h : VE K w ta e c fun x c1 => ∃ k, Tv c1 x k ∧ if k = true then Q x c1 else VE K w tb e c1 Q) : VE K w (tOrT K ta tb) e c Q := by
  intro B G ρ σ H T X S k
  refine h B G ρ σ H _ X S fun x vx c1 G1 ρ1 H1 E1 X1 s1 f1 ⟨b, hb, q1⟩ => ⟨b, hb.tru X1 s1, ?_⟩
  cases b with
  | false =>
    rw [if_neg (by decide)] at q1; rw [if_neg (by decide)]
    exact q1 _ _ _ _ _ _ X1 (E1.sl X S) fun u v c' G' ρ' H' E' X' s f q => k u v c' G' ρ' H' (E1.trans E') X' s (E1.fr f) q
  | true => rw [if_pos rfl] at q1; rw [if_pos rfl]; exact k _ _ _ _ _ _ E1 X1 s1 f1 q1
theorem v_tru (h : VE K w te e c fun x c1 => ∃ k, Tv c1 x k ∧ QB k c1) : VT K w (uTru K te) e c QB := by
  intro B G ρ σ H T X S k
  refine h B G ρ σ H _ X S fun x vx c1 G1 ρ1 H1 E1 X1 s1 f1 ⟨b, hb, q1⟩ => ⟨b, hb.tru X1 s1, ?_⟩
  exact k _ _ _ _ _ E1 X1 q1
theorem v_test (h : VE K w te e c fun x c1 => ∃ k, x = .d (.bool k) ∧ QB k c1) : VT K w (tTest te) e c QB := by
  intro B G ρ σ H T X S k
  refine h B G ρ σ H _ X S fun x vx c1 G1 ρ1 H1 E1 X1 s1 f1 ⟨b, hb, q1⟩ => ?_
  subst hb
  cases s1 with
  | d q =>
    cases q
    exact ⟨b, rfl, k _ _ _ _ _ E1 X1 q1⟩
theorem KtB.re {α : Type} {QB : α → Cs → Prop} {T : α → Hp → Prop} (k : KtB B G ρ H QB T) (E : Ext G ρ H G' ρ' H') : KtB B G' ρ' H' QB T := fun b c' G1 ρ1 H1 E1 X1 q => k b c' G1 ρ1 H1 (E.trans E1) X1 q
theorem Kt.re {T : VK} (k : Kt K w B G ρ H Q T) (E : Ext G ρ H G' ρ' H') : Kt K w B G' ρ' H' Q T := fun u v c' G1 ρ1 H1 E1 X1 s f q => k u v c' G1 ρ1 H1 (E.trans E1) X1 s (E.fr f) q
theorem v_tand (h : VT K w tt e c fun b c1 => if b = true then VT K w tt1 e c1 QB else QB false c1) : VT K w (tAnd tt tt1) e c QB := by
  intro B G ρ σ H T X S k
  refine h B G ρ σ H _ X S fun b c1 G1 ρ1 H1 E1 X1 q1 => ?_
  cases b with
  | true => rw [if_pos rfl] at q1; rw [if_pos rfl]; exact q1 _ _ _ _ _ _ X1 (E1.sl X S) (k.re E1)
  | false => rw [if_neg (by decide)] at q1; rw [if_neg (by decide)]; exact k _ _ _ _ _ E1 X1 q1
theorem v_tor (h : VT K w tt e c fun b c1 => if b = true then QB true c1 else VT K w tt1 e c1 QB) : VT K w (tOr tt tt1) e c QB := by
  intro B G ρ σ H T X S k
  refine h B G ρ σ H _ X S fun b c1 G1 ρ1 H1 E1 X1 q1 => ?_
  cases b with
  | false => rw [if_neg (by decide)] at q1; rw [if_neg (by decide)]; exact q1 _ _ _ _ _ _ X1 (E1.sl X S) (k.re E1)
  | true => rw [if_pos rfl] at q1; rw [if_pos rfl]; exact k _ _ _ _ _ E1 X1 q1
theorem v_tnot (h : VT K w tt e c fun b c1 => QB (!b) c1) : VT K w (tNot tt) e c QB := by
  intro B G ρ σ H T X S k
  exact h B G ρ σ H _ X S fun b c1 G1 ρ1 H1 E1 X1 q1 => k _ _ _ _ _ E1 X1 q1
theorem v_yes (q : QB true c) : VT K w tYes e c QB := fun B G ρ σ H T X S k => k _ _ _ _ _ .refl X q
end
end Gd
namespace Gd
open PySem PySem.Spec PyProof.Rows L2
section
variable {K : PySem.W.Frag} {w : World} {B : Addr → Prop} {G G' G'' G0 : Addr → Prop} {ρ ρ' ρ'' ρ0 : List Addr} {H H' H'' H0 : Hp} {c c' : Cs} {σ : L2.St} {e e' : Ev} {v vx vy : V} {u x y : W}
variable {Q : W → Cs → Prop}
theorem dq_int {i : Int} (h : Dq G H v (.int i)) : v = .int i := by cases h; rfl
theorem dq_str {i : Str} (h : Dq G H v (.str i)) : v = .str i := by cases h; rfl
theorem dq_bl {i : Bool} (h : Dq G H v (.bool i)) : v = .bl i := by cases h; rfl
theorem dq_non (h : Dq G H v .none) : v = .non := by cases h; rfl
theorem dql_strs : ∀ {vs : List V} {ws : List Str}, DqL G H vs (ws.map .str) → vs = ws.map V.str
  | _, [], h => by cases h; rfl
  | _, w :: ws, h => by
    cases h with
    | cons h r => rw [dq_str h, dql_strs r]; rfl
theorem dql_ints : ∀ {vs : List V} {ws : List Int}, DqL G H vs (ws.map .int) → vs = ws.map V.int
  | _, [], h => by cases h; rfl
  | _, w :: ws, h => by
    cases h with
    | cons h r => rw [dq_int h, dql_ints r]; rfl
theorem dql_bls : ∀ {vs : List V} {ws : List Bool}, DqL G H vs (ws.map .bool) → vs = ws.map V.bl
  | _, [], h => by cases h; rfl
  | _, w :: ws, h => by
    cases h with
    | cons h r => rw [dq_bl h, dql_bls r]; rfl
theorem dql_at {vs : List V} {xs : List PyData} {i : Int} {d : PyData} (h : DqL G H vs xs) (e : atI xs i = some d) : ∃ v, atI vs i = some v ∧ Dq G H v d := by
  unfold atI at *
  obtain ⟨j, h1, h2⟩ := Option.bind_eq_some_iff.mp e
  have hl := dql_len h
  have : ∃ v, vs[j]? = some v := by
    have := (List.getElem?_eq_some_iff.mp h2).1
    exact ⟨vs[j], List.getElem?_eq_getElem (by omega)⟩
  obtain ⟨v, hv⟩ := this
  obtain ⟨d', e1, e2⟩ := DqL.get h hv
  rw [h2] at e1
  cases e1
  exact ⟨v, by rw [hl, h1]; exact hv, e2⟩
theorem DqL.take {vs : List V} : ∀ {xs : List PyData} (n : Nat), DqL G H vs xs → DqL G H (vs.take n) (xs.take n) := by
  intro xs n h
  induction vs generalizing xs n with
  | nil => cases h; simp; exact .nil
  | cons v vs ih =>
    cases h with
    | cons h r =>
      cases n with
      | zero => exact .nil
      | succ n => exact .cons h (ih n r)
theorem DqL.drop {vs : List V} : ∀ {xs : List PyData} (n : Nat), DqL G H vs xs → DqL G H (vs.drop n) (xs.drop n) := by
  intro xs n h
  induction vs generalizing xs n with
  | nil => cases h; simp; exact .nil
  | cons v vs ih =>
    cases h with
    | cons h r =>
      cases n with
      | zero => exact .cons h r
      | succ n => exact ih n r
theorem DqL.rev {vs : List V} {xs : List PyData} (h : DqL G H vs xs) : DqL G H vs.reverse xs.reverse := by
  induction vs generalizing xs with
  | nil => cases h; exact .nil
  | cons v vs ih =>
    cases h with
    | cons h r =>
      rw [List.reverse_cons, List.reverse_cons]
      exact (ih r).app (.cons h .nil)
theorem DqL.set {vs : List V} {xs : List PyData} {v : V} {d : PyData} (j : Nat) (h : DqL G H vs xs) (q : Dq G H v d) : DqL G H (vs.set j v) (xs.set j d) := by
  induction vs generalizing xs j with
  | nil => cases h; exact .nil
  | cons v vs ih =>
    cases h with
    | cons h r =>
      cases j with
      | zero => exact .cons q r
      | succ j => exact .cons h (ih j r)
theorem DqL.erase {vs : List V} {xs : List PyData} (j : Nat) (h : DqL G H vs xs) : DqL G H (vs.eraseIdx j) (xs.eraseIdx j) := by
  induction vs generalizing xs j with
  | nil => cases h; exact .nil
  | cons v vs ih =>
    cases h with
    | cons h r =>
      cases j with
      | zero => exact r
      | succ j => exact .cons h (ih j r)
/-- the cut of a list of data -/
def cutD (xs : List PyData) (lo hi : Option Int) : List PyData := (xs.drop (HT.sIx xs.length 0 lo)).take (HT.sIx xs.length xs.length hi - HT.sIx xs.length 0 lo)
theorem DqL.cut {vs : List V} {xs : List PyData} (h : DqL G H vs xs) (lo hi : Option Int) : DqL G H (cutV vs lo hi) (cutD xs lo hi) := by
  unfold cutV cutD
  rw [dql_len h]
  exact (h.drop _).take _
theorem w_ss {r : R2} {a b z : PyData} {va vb vz : V} (ha : ∀ {G H v}, Dq G H v a → v = va) (hb : ∀ {G H v}, Dq G H v b → v = vb) (hz : ∀ {G H}, Dq G H vz z)
    (hr : ∀ {H : Hp} {T : VK}, T vz H → r va vb H T) (q : Q (.d z) c) : V2 K w r (.d a) (.d b) c Q := by
  intro B G0 ρ0 H0 G ρ H vx vy T E X sx sy fx fy k
  cases sx with
  | d q1 =>
    cases sy with
    | d q2 =>
      rw [ha q1, hb q2]
      exact hr (k.d E X hz q)
theorem w_us {r : V → Hp → VK → Prop} {a z : PyData} {va vz : V} (ha : ∀ {G H v}, Dq G H v a → v = va) (hz : ∀ {G H}, Dq G H vz z)
    (hr : ∀ {H : Hp} {T : VK}, T vz H → r va H T) (q : Q (.d z) c) : VU K w r (.d a) c Q := by
  intro B G0 ρ0 H0 G ρ H vx T E X sx fx k
  cases sx with
  | d q1 =>
    rw [ha q1]
    exact hr (k.d E X hz q)
theorem w_addI {a b : Int} (q : Q (.d (.int (a + b))) c) : V2 K w (uAdd K) (.d (.int a)) (.d (.int b)) c Q := w_ss dq_int dq_int (.int _) (fun q => u_addI q) q
theorem w_addS {a b : Str} (h : a.length + b.length ≤ sizeLine) (q : Q (.d (.str (a ++ b))) c) : V2 K w (uAdd K) (.d (.str a)) (.d (.str b)) c Q := w_ss dq_str dq_str (.str _) (fun q => u_addS h q) q
theorem w_addL {xs ys : List PyData} (h1 : Lv c x xs) (h2 : Lv c y ys) (h3 : xs.length + ys.length ≤ sizeLine) (q : Q (.o (xs ++ ys)) c) : V2 K w (uAdd K) x y c Q := by
  intro B G0 ρ0 H0 G ρ H vx vy T E X sx sy fx fy k
  obtain ⟨a, vs, rfl, a1, a2⟩ := h1.seq X sx
  obtain ⟨b, us, rfl, b1, b2⟩ := h2.seq X sy
  exact u_addL a1 b1 (by rw [dql_len a2, dql_len b2]; exact h3) fun p n => k.l E X n (a2.app b2) q
theorem w_subI {a b : Int} (q : Q (.d (.int (a - b))) c) : V2 K w uSub (.d (.int a)) (.d (.int b)) c Q := w_ss dq_int dq_int (.int _) (fun q => u_subI q) q
theorem w_mulI {a b : Int} (h : CMul a b ∨ CMulW a b) (q : Q (.d (.int (a * b))) c) : V2 K w uMul (.d (.int a)) (.d (.int b)) c Q := w_ss dq_int dq_int (.int _) (fun q => u_mulI h q) q
theorem w_mulS {a : Str} {b : Int} (h1 : b < 16777217) (h2 : -16777217 < b) (h3 : a.length * b.toNat ≤ sizeLine) (q : Q (.d (.str (strRep a b.toNat))) c) : V2 K w uMul (.d (.str a)) (.d (.int b)) c Q := w_ss dq_str dq_int (.str _) (fun q => u_mulS h1 h2 h3 q) q
theorem w_mod {a b : Int} (h : 0 < b) (q : Q (.d (.int (a % b))) c) : V2 K w uMod (.d (.int a)) (.d (.int b)) c Q := w_ss dq_int dq_int (.int _) (fun q => u_mod h q) q
theorem w_div {a b : Int} (h : 0 < b) (h2 : b.natAbs.log2 < 9000) (q : Q (.d (.int (a / b))) c) : V2 K w uDiv (.d (.int a)) (.d (.int b)) c Q := w_ss dq_int dq_int (.int _) (fun q => u_div h h2 q) q
theorem w_pow {a b : Int} (h : CPowW a b) (q : Q (.d (.int (a ^ b.toNat))) c) : V2 K w uPow (.d (.int a)) (.d (.int b)) c Q := w_ss dq_int dq_int (.int _) (fun q => u_pow h q) q
theorem w_neg {a : Int} (q : Q (.d (.int (-a))) c) : VU K w (rU fun i => .int (-i)) (.d (.int a)) c Q := w_us dq_int (.int _) (fun q => rd_rU q) q
theorem w_eqI {a b : Int} (q : Q (.d (.bool (decide (a = b)))) c) : V2 K w (uEq K) (.d (.int a)) (.d (.int b)) c Q := w_ss dq_int dq_int (.bl _) (fun q => u_eqI q) q
theorem w_eqS {a b : Str} (q : Q (.d (.bool (decide (a = b)))) c) : V2 K w (uEq K) (.d (.str a)) (.d (.str b)) c Q := w_ss dq_str dq_str (.bl _) (fun q => u_eqS q) q
theorem w_neS {a b : Str} (q : Q (.d (.bool (!decide (a = b)))) c) : V2 K w (uNe K) (.d (.str a)) (.d (.str b)) c Q := w_ss dq_str dq_str (.bl _) (fun q => u_neS q) q
theorem w_eqB {a b : Bool} (q : Q (.d (.bool (a == b))) c) : V2 K w (uEq K) (.d (.bool a)) (.d (.bool b)) c Q := w_ss dq_bl dq_bl (.bl _) (fun q => u_eqB q) q
theorem w_neB {a b : Bool} (q : Q (.d (.bool (!(a == b)))) c) : V2 K w (uNe K) (.d (.bool a)) (.d (.bool b)) c Q := w_ss dq_bl dq_bl (.bl _) (fun q => u_neB q) q
theorem w_ltI {a b : Int} (q : Q (.d (.bool (decide (a < b)))) c) : V2 K w uLt (.d (.int a)) (.d (.int b)) c Q := w_ss dq_int dq_int (.bl _) (fun q => u_ltI q) q
theorem w_gtI {a b : Int} (q : Q (.d (.bool (decide (b < a)))) c) : V2 K w uGt (.d (.int a)) (.d (.int b)) c Q := w_ss dq_int dq_int (.bl _) (fun q => u_gtI q) q
theorem w_leI {a b : Int} (q : Q (.d (.bool (decide (a ≤ b)))) c) : V2 K w uLe (.d (.int a)) (.d (.int b)) c Q := w_ss dq_int dq_int (.bl _) (fun q => u_leI q) q
theorem w_geI {a b : Int} (q : Q (.d (.bool (decide (b ≤ a)))) c) : V2 K w uGe (.d (.int a)) (.d (.int b)) c Q := w_ss dq_int dq_int (.bl _) (fun q => u_geI q) q
theorem w_ltS {a b : Str} (q : Q (.d (.bool (decide (tl a < tl b)))) c) : V2 K w uLt (.d (.str a)) (.d (.str b)) c Q := w_ss dq_str dq_str (.bl _) (fun q => u_ltS q) q
theorem w_inS {a : Nat} {z : Str} (q : Q (.d (.bool (decide (a ∈ tl z)))) c) : V2 K w (uIn K) (.d (.str ⟨#[a]⟩)) (.d (.str z)) c Q := w_ss dq_str dq_str (.bl _) (fun q => u_inS q) q
theorem w_isN {z : PyData} (q : Q (.d (.bool (match z with | .none => true | _ => false))) c) : V2 K w (fun x y H Q => y = .non ∧ Q (.bl (decide (x = .non))) H) (.d z) (.d .none) c Q := by
  intro B G0 ρ0 H0 G ρ H vx vy T E X sx sy fx fy k
  cases sx with
  | d q1 =>
    cases sy with
    | d q2 =>
      cases q2
      refine ⟨rfl, ?_⟩
      cases q1 <;> exact k.d E X (.bl _) q
theorem w_isNn {z : PyData} (q : Q (.d (.bool (match z with | .none => false | _ => true))) c) : V2 K w (fun x y H Q => y = .non ∧ Q (.bl (!decide (x = .non))) H) (.d z) (.d .none) c Q := by
  intro B G0 ρ0 H0 G ρ H vx vy T E X sx sy fx fy k
  cases sx with
  | d q1 =>
    cases sy with
    | d q2 =>
      cases q2
      refine ⟨rfl, ?_⟩
      cases q1 <;> exact k.d E X (.bl _) q
theorem w_eqD {a b : PyData} (h1 : Dv c x a) (h2 : Dv c y b) (s1 : SeqAt.shaped a = true) (s2 : SeqAt.shaped b = true) (q : Q (.d (.bool (PyData.eqv a b))) c) : V2 K w (uEq K) x y c Q := by
  intro B G0 ρ0 H0 G ρ H vx vy T E X sx sy fx fy k
  exact u_eqD (h1.dp X sx (noDict_shaped _ s1)) (h2.dp X sy (noDict_shaped _ s2)) s1 s2 (k.d E X (.bl _) q)
theorem w_neD {a b : PyData} (h1 : Dv c x a) (h2 : Dv c y b) (s1 : SeqAt.shaped a = true) (s2 : SeqAt.shaped b = true) (q : Q (.d (.bool (!PyData.eqv a b))) c) : V2 K w (uNe K) x y c Q := by
  intro B G0 ρ0 H0 G ρ H vx vy T E X sx sy fx fy k
  exact u_neD (h1.dp X sx (noDict_shaped _ s1)) (h2.dp X sy (noDict_shaped _ s2)) s1 s2 (k.d E X (.bl _) q)
theorem w_inW {z : Str} {ws : List Str} (h : Lv c y (ws.map .str)) (q : Q (.d (.bool (decide (z ∈ ws)))) c) : V2 K w (uIn K) (.d (.str z)) y c Q := by
  intro B G0 ρ0 H0 G ρ H vx vy T E X sx sy fx fy k
  obtain ⟨a, vs, rfl, a1, a2⟩ := h.seq X sy
  cases sx with
  | d q1 =>
    cases q1
    rw [dql_strs a2] at a1
    exact u_inW a1 (k.d E X (.bl _) q)
theorem w_ixL {xs : List PyData} {i : Int} {d : PyData} (h : Lv c x xs) (a : atI xs i = some d) (q : Q (.d d) c) : V2 K w (rIx K) x (.d (.int i)) c Q := by
  intro B G0 ρ0 H0 G ρ H vx vy T E X sx sy fx fy k
  obtain ⟨p, vs, rfl, a1, a2⟩ := h.seq X sx
  cases sy with
  | d q2 =>
    cases q2
    obtain ⟨v, h1, h2⟩ := dql_at a2 a
    exact u_ixL a1 h1 (k.d E X h2 q)
theorem w_ixS {z : Str} {i : Int} {a : Nat} (h : z.length ≤ sizeLine) (g : atI (tl z) i = some a) (q : Q (.d (.str ⟨#[a]⟩)) c) : V2 K w (rIx K) (.d (.str z)) (.d (.int i)) c Q := w_ss dq_str dq_int (.str _) (fun q => u_ixS h g q) q
theorem v1 {vs : List V} {F : V → W → Prop} (h : Paired F vs [u]) : ∃ v, vs = [v] ∧ F v u := by
  cases h with
  | cons r t => cases t; exact ⟨_, rfl, r⟩
theorem v2 {vs : List V} {F : V → W → Prop} (h : Paired F vs [x, y]) : ∃ v v', vs = [v, v'] ∧ F v x ∧ F v' y := by
  cases h with
  | cons r t =>
    obtain ⟨v', rfl, r'⟩ := v1 t
    exact ⟨_, _, rfl, r, r'⟩
theorem w_x1 {r : List V → Hp → VK → Prop} {a z : PyData} {va vz : V} (ha : ∀ {G H v}, Dq G H v a → v = va) (hz : ∀ {G H}, Dq G H vz z)
    (hr : ∀ {H : Hp} {T : VK}, T vz H → r [va] H T) (q : Q (.d z) c) : VX K w r [.d a] c Q := by
  intro B G0 ρ0 H0 G ρ H vs T E X sx fx k
  obtain ⟨v, rfl, s⟩ := v1 sx
  cases s with
  | d q1 => rw [ha q1]; exact hr (k.d E X hz q)
theorem w_x2 {r : List V → Hp → VK → Prop} {a b z : PyData} {va vb vz : V} (ha : ∀ {G H v}, Dq G H v a → v = va) (hb : ∀ {G H v}, Dq G H v b → v = vb) (hz : ∀ {G H}, Dq G H vz z)
    (hr : ∀ {H : Hp} {T : VK}, T vz H → r [va, vb] H T) (q : Q (.d z) c) : VX K w r [.d a, .d b] c Q := by
  intro B G0 ρ0 H0 G ρ H vs T E X sx fx k
  obtain ⟨v, v', rfl, s, s'⟩ := v2 sx
  cases s with
  | d q1 => cases s' with
    | d q2 => rw [ha q1, hb q2]; exact hr (k.d E X hz q)
theorem w_lenS {s : Str} (h : s.length ≤ sizeLine) (q : Q (.d (.int (s.length : Int))) c) : VX K w (uLen K) [.d (.str s)] c Q := w_x1 dq_str (.int _) (fun q => u_lenS h q) q
theorem w_lenL {xs : List PyData} (h : Lv c x xs) (q : Q (.d (.int (xs.length : Int))) c) : VX K w (uLen K) [x] c Q := by
  intro B G0 ρ0 H0 G ρ H vs T E X sx fx k
  obtain ⟨v, rfl, s⟩ := v1 sx
  obtain ⟨p, vs, rfl, a1, a2⟩ := h.seq X s
  exact u_lenL a1 (by rw [dql_len a2]; exact k.d E X (.int _) q)
theorem w_lenT {xs : List PyData} (q : Q (.d (.int (xs.length : Int))) c) : VX K w (uLen K) [.d (.tuple xs)] c Q := by
  intro B G0 ρ0 H0 G ρ H vs T E X sx fx k
  obtain ⟨v, rfl, s⟩ := v1 sx
  cases s with
  | d q1 =>
    cases q1 with
    | tup n h r => exact u_lenT (SqT.of h) (by rw [dql_len r]; exact k.d E X (.int _) q)
inductive Tw (c : Cs) : W → String → Prop
  | non : Tw c (.d .none) "NoneType"
  | bl (b : Bool) : Tw c (.d (.bool b)) "bool"
  | int (i : Int) : Tw c (.d (.int i)) "int"
  | str (s : Str) : Tw c (.d (.str s)) "str"
  | tup (xs : List PyData) : Tw c (.d (.tuple xs)) "tuple"
  | lst {u : W} {xs : List PyData} (h : Lv c u xs) : Tw c u "list"
  | dct (xs : List (PyData × PyData)) : Tw c (.d (.dict xs)) "dict"
theorem Tw.n {t : String} (h : Tw c u t) (X : Hx B G ρ c H) (q : Sh K w B G ρ H v u) : TyN K H v t := by
  cases h with
  | non => cases q with | d q => cases q; exact .non
  | bl b => cases q with | d q => cases q; exact .bl _
  | int i => cases q with | d q => cases q; exact .int _
  | str s => cases q with | d q => cases q; exact .str _
  | tup xs =>
    cases q with
    | d q => cases q with
      | tup n h r => exact .tup h
  | lst l =>
    obtain ⟨p, vs, rfl, a1, a2⟩ := l.seq X q
    exact .lst a1
  | dct xs =>
    cases q with
    | d q => cases q with
      | d0 n h => exact .dct h
theorem w_isi {t C : String} (h : Tw c x t) (q : Q (.d (.bool (isi t C))) c) (hC : C ∈ ["bool", "int", "str", "list", "tuple", "dict"] := by decide) : VX K w (uIsi K) [x, .ty C] c Q := by
  intro B G0 ρ0 H0 G ρ H vs T E X sx fx k
  obtain ⟨v, v', rfl, s, s'⟩ := v2 sx
  cases s'
  exact u_isi (h.n X s) (k.d E X (.bl _) q) hC
theorem w_isi2 {t A B : String} (h : Tw c x t) (q : Q (.d (.bool (isi t A || isi t B))) c) (hA : A ∈ ["bool", "int", "str", "list", "tuple", "dict"] := by decide) (hB : B ∈ ["bool", "int", "str", "list", "tuple", "dict"] := by decide) : VX K w (uIsi2 K) [x, .tt A B] c Q := by
  intro B G0 ρ0 H0 G ρ H vs T E X sx fx k
  obtain ⟨v, v', rfl, s, s'⟩ := v2 sx
  cases s' with
  | tt h2 n => exact u_isi2 (h.n X s) h2 (k.d E X (.bl _) q) hA hB
theorem w_typ {t : String} (h : Tw c x t) (q : Q (.ty t) c) : VX K w (uTyp K) [x] c Q := by
  intro B G0 ρ0 H0 G ρ H vs T E X sx fx k
  obtain ⟨v, rfl, s⟩ := v1 sx
  exact rd_typ (h.n X s) (k _ _ _ _ _ _ E X .ty trivial q)
theorem w_eqT {s t : String} (q : Q (.d (.bool (decide (s = t)))) c) (hs : s ∈ ["NoneType", "bool", "int", "str", "list", "tuple", "dict"] := by decide) (ht : t ∈ ["NoneType", "bool", "int", "str", "list", "tuple", "dict"] := by decide) : V2 K w uEqT (.ty s) (.ty t) c Q := by
  intro B G0 ρ0 H0 G ρ H vx vy T E X sx sy fx fy k
  cases sx
  cases sy
  exact ⟨_, _, rfl, rfl, hs, ht, k.d E X (.bl _) q⟩
theorem w_set {ws : List Str} (h : Lv c x (ws.map .str)) (hz : ws.length < 4000) (q : Q (.set (dedT ws)) c) : VX K w (uSet K w) [x] c Q := by
  intro B G0 ρ0 H0 G ρ H vs T E X sx fx k
  obtain ⟨v, rfl, s⟩ := v1 sx
  obtain ⟨p, vs, rfl, a1, a2⟩ := h.seq X s
  rw [dql_strs a2] at a1
  exact u_set a1 hz fun p n => k _ _ _ _ _ _ ((E.trans (.new n)).data (E.was n)) ((X.new n).data (by rw [upd_same]; simp) fun z => X.trk z n) (.set upd_same (.inr rfl)) trivial q
theorem w_lenSet {ks : List Str} (q : Q (.d (.int (ks.length : Int))) c) : VX K w (uLenS w) [.set ks] c Q := by
  intro B G0 ρ0 H0 G ρ H vs T E X sx fx k
  obtain ⟨v, rfl, s⟩ := v1 sx
  cases s with
  | set h n => exact u_lenS' h (k.d E X (.int _) q)
theorem w_sortedS {ks : List Str} (q : ∀ ys : List Str, ys.Perm ks → sortedS ys = true → Q (.o (ys.map .str)) c) : VX K w (uSorted K w) [.set ks] c Q := by
  intro B G0 ρ0 H0 G ρ H vs T E X sx fx k
  obtain ⟨v, rfl, s⟩ := v1 sx
  cases s with
  | set h n => exact u_sortedS h fun p ys n pm so => k.l E X n (dqL_strs ys) (q ys pm so)
theorem w_sortedL {ws : List Str} (h : Lv c x (ws.map .str)) (hz : ws.length ≤ 100000) (q : ∀ ys : List Str, ys.Perm ws → sortedS ys = true → Q (.o (ys.map .str)) c) : VX K w (uSorted K w) [x] c Q := by
  intro B G0 ρ0 H0 G ρ H vs T E X sx fx k
  obtain ⟨v, rfl, s⟩ := v1 sx
  obtain ⟨p, vs, rfl, a1, a2⟩ := h.seq X s
  rw [dql_strs a2] at a1
  exact u_sortedL a1 hz fun p ys n pm so => k.l E X n (dqL_strs ys) (q ys pm so)
theorem w_list {xs : List PyData} (h : Lv c x xs) (q : Q (.o xs) c) : VX K w (uList K) [x] c Q := by
  intro B G0 ρ0 H0 G ρ H vs T E X sx fx k
  obtain ⟨v, rfl, s⟩ := v1 sx
  obtain ⟨p, vs, rfl, a1, a2⟩ := h.seq X s
  exact u_list a1 fun p n => k.l E X n a2 q
theorem w_all {bs : List Bool} (h : Lv c x (bs.map .bool)) (q : Q (.d (.bool (bs.all id))) c) : VX K w (rAll K) [x] c Q := by
  intro B G0 ρ0 H0 G ρ H vs T E X sx fx k
  obtain ⟨v, rfl, s⟩ := v1 sx
  obtain ⟨p, vs, rfl, a1, a2⟩ := h.seq X s
  rw [dql_bls a2] at a1
  exact ⟨p, bs, rfl, a1, k.d E X (.bl _) q⟩
theorem w_sum {ns : List Int} (h : Lv c x (ns.map .int)) (q : Q (.d (.int ns.sum)) c) : VX K w (rSum K) [x] c Q := by
  intro B G0 ρ0 H0 G ρ H vs T E X sx fx k
  obtain ⟨v, rfl, s⟩ := v1 sx
  obtain ⟨p, vs, rfl, a1, a2⟩ := h.seq X s
  rw [dql_ints a2] at a1
  exact ⟨p, ns, rfl, a1, k.d E X (.int _) q⟩
def VSl (K : PySem.W.Frag) (w : World) (r : V → Option Int → Option Int → Hp → VK → Prop) (x : W) (lo hi : Option Int) (c : Cs) (Q : W → Cs → Prop) : Prop := VU K w (fun v H T => r v lo hi H T) x c Q
theorem w_slS {z : Str} {lo hi : Option Int} (h : z.length ≤ sizeLine) (q : Q (.d (.str (cutS z lo hi))) c) : VSl K w (uSl K) (.d (.str z)) lo hi c Q := w_us dq_str (.str _) (fun q => u_slS h q) q
theorem w_slL {xs : List PyData} {lo hi : Option Int} (h : Lv c x xs) (q : Q (.o (cutD xs lo hi)) c) : VSl K w (uSl K) x lo hi c Q := by
  intro B G0 ρ0 H0 G ρ H vx T E X s fx k
  obtain ⟨p, vs, rfl, a1, a2⟩ := h.seq X s
  exact u_slL a1 fun p n => k.l E X n (a2.cut lo hi) q
variable {ta tb tc te : TE} {t : TA} {tt tt1 : TT} {i : Nat} {QO : Option Int → Cs → Prop} {to th : TO}
theorem v_sl {r : V → Option Int → Option Int → Hp → VK → Prop} (h : VE K w te e c fun x c1 => VO K w to e c1 fun lo c2 => VO K w th e c2 fun hi c3 => VSl K w r x lo hi c3 Q) : VE K w (tSl r te to th) e c Q := by
  intro B G ρ σ H T X S k
  refine h B G ρ σ H _ X S fun x vx c1 G1 ρ1 H1 E1 X1 s1 f1 q1 => ?_
  refine q1 B G1 ρ1 σ H1 _ X1 (E1.sl X S) fun lo c2 G2 ρ2 H2 E2 X2 q2 => ?_
  refine q2 B G2 ρ2 σ H2 _ X2 ((E1.trans E2).sl X S) fun hi c3 G3 ρ3 H3 E3 X3 q3 => ?_
  exact q3 B G ρ H G3 ρ3 H3 vx T ((E1.trans E2).trans E3) X3 ((E2.trans E3).sh X1 s1) f1 k
theorem v_part (h : VE K w te e c fun x c1 => ∃ i, x = .d (.int i) ∧ QO (some i) c1) : VO K w (tPart te) e c QO := by
  intro B G ρ σ H T X S k
  refine h B G ρ σ H _ X S fun x vx c1 G1 ρ1 H1 E1 X1 s1 f1 ⟨i, hi, q1⟩ => ?_
  subst hi
  cases s1 with
  | d q => cases q; exact ⟨i, rfl, k _ _ _ _ _ E1 X1 q1⟩
theorem v_nopart (q : QO none c) : VO K w tNoPart e c QO := fun B G ρ σ H T X S k => k _ _ _ _ _ .refl X q
theorem v_revL (h : VE K w te e c fun x c1 => ∃ xs, Lv c1 x xs ∧ Q (.o xs.reverse) c1) : VE K w (tRevL K te) e c Q := by
  intro B G ρ σ H T X S k
  refine h B G ρ σ H _ X S fun x vx c1 G1 ρ1 H1 E1 X1 s1 f1 ⟨xs, hx, q1⟩ => ?_
  obtain ⟨p, vs, rfl, a1, a2⟩ := hx.seq X1 s1
  exact ⟨p, vs, rfl, a1, fun p n => k.l E1 X1 n a2.rev q1⟩
variable {QA : List W → Cs → Prop}
inductive Tyw (c : Cs) : String → W → Prop
  | str (s : Str) : Tyw c "str" (.d (.str s))
  | lst {u : W} {xs : List PyData} (h : Lv c u xs) : Tyw c "list" u
  | dct {k : Nat} {kvs : List (Key × PyData)} (h : c[k]? = some (.m kvs)) : Tyw c "dict" (.c k)
theorem Tyw.ok {t : String} (h : Tyw c t u) (X : Hx B G ρ c H) (q : Sh K w B G ρ H v u) : tyV K t v H := by
  cases h with
  | str s => cases q with | d q => cases q; rfl
  | lst l =>
    obtain ⟨p, vs, rfl, a1, a2⟩ := l.seq X q
    exact .inl ⟨rfl, _, a1⟩
  | dct e =>
    cases q with
    | c h =>
      obtain ⟨p, hp, r⟩ := paired_get X.cells e
      rw [h] at hp
      cases hp
      cases r with
      | m h r => exact .inr (.inr (.inl ⟨rfl, .inl ⟨_, h⟩⟩))
theorem v_bm {S : String} {r : V → List V → Hp → VK → Prop} (h : VE K w te e c fun x c1 => Tyw c1 S x ∧ VA K w t e c1 fun us c2 => VM K w r x us c2 Q) : VE K w (tBM K S r te t) e c Q := by
  intro B G ρ σ H T X S k
  refine h B G ρ σ H _ X S fun x vx c1 G1 ρ1 H1 E1 X1 s1 f1 ⟨t1, q1⟩ => ⟨t1.ok X1 s1, ?_⟩
  refine q1 B G1 ρ1 σ H1 _ X1 (E1.sl X S) fun us vs c2 G2 ρ2 H2 E2 X2 s2 f2 d2 q2 => ?_
  exact q2 B G ρ H G2 ρ2 H2 vx vs T (E1.trans E2) X2 (E2.sh X1 s1) f1 s2 (Paired.mono (fun _ _ q => E1.fr q) f2) k
theorem v_m1 {r : V → List V → Hp → VK → Prop} (h : VE K w ta e c fun x c1 => (∃ a, x = .d (.str a)) ∧ VE K w tb e c1 fun y c2 => VM K w r x [y] c2 Q) : VE K w (tM1 r ta tb) e c Q := by
  intro B G ρ σ H T X S k
  refine h B G ρ σ H _ X S fun x vx c1 G1 ρ1 H1 E1 X1 s1 f1 ⟨⟨a, t1⟩, q1⟩ => ?_
  subst t1
  refine ⟨?_, ?_⟩
  · cases s1 with
    | d q => cases q; exact ⟨_, rfl⟩
  refine q1 B G1 ρ1 σ H1 _ X1 (E1.sl X S) fun y vy c2 G2 ρ2 H2 E2 X2 s2 f2 q2 => ?_
  exact q2 B G ρ H G2 ρ2 H2 vx [vy] T (E1.trans E2) X2 (E2.sh X1 s1) f1 (.cons s2 .nil) (.cons (E1.fr f2) .nil) k
theorem w_m1 {r : V → List V → Hp → VK → Prop} {a b z : PyData} {va vb vz : V} (ha : ∀ {G H v}, Dq G H v a → v = va) (hb : ∀ {G H v}, Dq G H v b → v = vb) (hz : ∀ {G H}, Dq G H vz z)
    (hr : ∀ {H : Hp} {T : VK}, T vz H → r va [vb] H T) (q : Q (.d z) c) : VM K w r (.d a) [.d b] c Q := by
  intro B G0 ρ0 H0 G ρ H vx vs T E X sx fx ss fs k
  obtain ⟨v, rfl, s⟩ := v1 ss
  cases s with
  | d q2 => cases sx with
    | d q1 => rw [ha q1, hb q2]; exact hr (k.d E X hz q)
theorem w_starts {a b : Str} (q : Q (.d (.bool (Txt.startswith a b))) c) : VM K w (fun x xs H Q => ∃ a b, x = .str a ∧ xs = [.str b] ∧ Q (.bl (Txt.startswith a b)) H) (.d (.str a)) [.d (.str b)] c Q := w_m1 dq_str dq_str (.bl _) (fun q => ⟨_, _, rfl, rfl, q⟩) q
theorem w_ends {a b : Str} (q : Q (.d (.bool (Txt.endswith a b))) c) : VM K w (fun x xs H Q => ∃ a b, x = .str a ∧ xs = [.str b] ∧ Q (.bl (Txt.endswith a b)) H) (.d (.str a)) [.d (.str b)] c Q := w_m1 dq_str dq_str (.bl _) (fun q => ⟨_, _, rfl, rfl, q⟩) q
theorem w_join {a : Str} {ws : List Str} (h : Lv c x (ws.map .str)) (hz : (ws.map (·.length)).sum + ws.length * a.length ≤ 16777216) (q : Q (.d (.str (Txt.join a ws))) c) : VM K w (rJoin K) (.d (.str a)) [x] c Q := by
  intro B G0 ρ0 H0 G ρ H vx vs T E X sx fx ss fs k
  obtain ⟨v, rfl, s⟩ := v1 ss
  obtain ⟨p, vs, rfl, a1, a2⟩ := h.seq X s
  rw [dql_strs a2] at a1
  cases sx with
  | d q1 => cases q1; exact ⟨a, p, ws, rfl, rfl, .inl a1, hz, k.d E X (.str _) q⟩
theorem cell_at {k : Nat} {xs : List PyData} (X : Hx B G ρ c H) (q : Sh K w B G ρ H v (.c k)) (h : c[k]? = some (.l xs)) : ∃ p vs, v = .ref p ∧ ρ[k]? = some p ∧ H p = some (.lst vs) ∧ DqL G H vs xs := by
  cases q with
  | c hp =>
    obtain ⟨p, hp', r⟩ := paired_get X.cells h
    rw [hp] at hp'
    cases hp'
    cases r with
    | l h r => exact ⟨_, _, rfl, hp, h, r⟩
theorem dql_upd {p : Addr} {o : HO} {vs : List V} {xs : List PyData} (X : Hx B G ρ c H) {k : Nat} (hp : ρ[k]? = some p) (h : DqL G H vs xs) : DqL G (upd H p o) vs xs := h.mut (fun g => X.av p (List.mem_of_getElem? hp) g)
/-- the cell at k made new -/
theorem Kt.mut {T : VK} (k : Kt K w B G0 ρ0 H0 Q T) (E : Ext G0 ρ0 H0 G ρ H) (X : Hx B G ρ c H) {j : Nat} {p : Addr} {vs : List V} {xs : List PyData} (hp : ρ[j]? = some p) (r : DqL G H vs xs) {u : V} {d : PyData} (hu : Dq G H u d) (q : Q (.d d) (c.set j (.l xs))) : T u (upd H p (.lst vs)) := by
  have m := List.mem_of_getElem? hp
  exact k _ _ _ _ _ _ (E.mut m) (X.mut hp (.l upd_same (dql_upd X hp r))) (.d (hu.mut fun g => X.av p m g)) trivial q
theorem w_app {k : Nat} {xs : List PyData} {y : W} {d : PyData} (h : c[k]? = some (.l xs)) (hy : dat1 y = some d) (hz : xs.length < sizeLine) (q : Q (.d .none) (c.set k (.l (xs ++ [d])))) : VM K w rAppend (.c k) [y] c Q := by
  intro B G0 ρ0 H0 G ρ H vx vs T E X sx fx ss fs kt
  obtain ⟨v, rfl, s⟩ := v1 ss
  obtain ⟨v', ev, f⟩ := v1 fs
  cases ev
  obtain ⟨p, us, rfl, hp, hl, r⟩ := cell_at X sx h
  obtain ⟨G1, E1, X1, g1, q1⟩ := (Dd.of s f hy).data E X
  exact u_app hl (by rw [dql_len r]; exact hz) (kt.mut E1 X1 hp ((r.imp g1).app (.cons q1 .nil)) .non q)
theorem w_popAt {k : Nat} {xs : List PyData} {i : Int} {j : Nat} {d : PyData} (h : c[k]? = some (.l xs)) (h0 : -(2 ^ 63) ≤ i) (h1 : i < 2 ^ 63) (hj : seqIndex? i xs.length = some j) (hd : xs[j]? = some d) (q : Q (.d d) (c.set k (.l (xs.eraseIdx j)))) : VM K w rPopAt (.c k) [.d (.int i)] c Q := by
  intro B G0 ρ0 H0 G ρ H vx vs T E X sx fx ss fs kt
  obtain ⟨v, rfl, s⟩ := v1 ss
  cases s with
  | d s =>
    cases s
    obtain ⟨p, us, rfl, hp, hl, r⟩ := cell_at X sx h
    have hlen := dql_len r
    have : ∃ v, us[j]? = some v := by
      have := (List.getElem?_eq_some_iff.mp hd).1
      exact ⟨us[j], List.getElem?_eq_getElem (by omega)⟩
    obtain ⟨v, hv⟩ := this
    obtain ⟨d', e1, e2⟩ := DqL.get r hv
    rw [hd] at e1
    cases e1
    exact ⟨p, us, i, j, v, rfl, rfl, hl, h0, h1, by rw [hlen]; exact hj, hv, kt.mut E X hp (r.erase j) e2 q⟩
theorem w_rem {k : Nat} {ws : List Str} {z : Str} (h : c[k]? = some (.l (ws.map .str))) (hz : z ∈ ws) (q : Q (.d .none) (c.set k (.l ((ws.erase z).map .str)))) : VM K w uRem (.c k) [.d (.str z)] c Q := by
  intro B G0 ρ0 H0 G ρ H vx vs T E X sx fx ss fs kt
  obtain ⟨v, rfl, s⟩ := v1 ss
  cases s with
  | d s =>
    cases s
    obtain ⟨p, us, rfl, hp, hl, r⟩ := cell_at X sx h
    rw [dql_strs r] at hl
    exact u_rem hl hz (kt.mut E X hp (dqL_strs _) .non q)
end
end Gd
namespace Gd
open PySem PySem.Spec PyProof.Rows L2
structure DV where
  nx : Ev → Cs → Prop
  rt : W → Cs → Prop
  bk : Ev → Cs → Prop := fun _ _ => False
  ct : Ev → Cs → Prop := fun _ _ => False
  /-- what leaves it as an exception of the class at C with the payload z; the wish of it that the text bears -/
  xx : Addr → Option (Str × PyData) → Ev → Cs → Prop := fun _ _ _ _ => False
  W : WX := fun _ _ _ _ => True
section
variable {K : PySem.W.Frag} {w : World} {B G G' G'' G0 : Addr → Prop} {ρ ρ' ρ'' ρ0 : List Addr} {H H' H'' H0 : Hp} {c c' : Cs} {σ : L2.St} {e e' : Ev} {v vx vy : V} {u x y : W}
variable {Q : W → Cs → Prop} {QA : List W → Cs → Prop} {QB : Bool → Cs → Prop} {QO : Option Int → Cs → Prop} {ta tb tc te to ti : TE} {t : TA} {tt tt1 : TT} {i j k : Nat} {P : Ev → Cs → Prop} {D : DV} {Dh : Ends} {g : TG} {ts us : TS}
def LfN (K : PySem.W.Frag) (w : World) (B G : Addr → Prop) (ρ : List Addr) (H : Hp) (P : Ev → Cs → Prop) (Ph : L2.St → Hp → Prop) : Prop :=
  ∀ e' c' σ' G' ρ' H', Ext G ρ H G' ρ' H' → Hx B G' ρ' c' H' → Sl K w B G' ρ' H' σ' e' → P e' c' → Ph σ' H'
/-- an exception's own dict -/
def Xd (G : Addr → Prop) (H : Hp) : Option Addr → Option (Str × PyData) → Prop
  | none, none => True
  | some dd, some (f, x) => ∃ v, H dd = some (.xd [(f, v)]) ∧ Dq G H v x
  | _, _ => False
def LfX (K : PySem.W.Frag) (w : World) (B G : Addr → Prop) (ρ : List Addr) (H : Hp) (X : Addr → Option (Str × PyData) → Ev → Cs → Prop) (Wh : WX) : Prop :=
  ∀ C d z e' c' σ' G' ρ' H', Ext G ρ H G' ρ' H' → Hx B G' ρ' c' H' → Sl K w B G' ρ' H' σ' e' → Xd G' H' d z → X C z e' c' → Wh (.ref C) d σ' H'
structure Lf (K : PySem.W.Frag) (w : World) (B G : Addr → Prop) (ρ : List Addr) (H : Hp) (D : DV) (Dh : Ends) : Prop where
  nx : LfN K w B G ρ H D.nx Dh.nx
  rt : Kt K w B G ρ H D.rt Dh.rt
  bk : LfN K w B G ρ H D.bk Dh.bk
  ct : LfN K w B G ρ H D.ct Dh.ct
  xx : LfX K w B G ρ H D.xx D.W
theorem LfN.re {Ph : L2.St → Hp → Prop} (h : LfN K w B G ρ H P Ph) (E : Ext G ρ H G' ρ' H') : LfN K w B G' ρ' H' P Ph := fun e' c' σ' G1 ρ1 H1 E1 => h e' c' σ' G1 ρ1 H1 (E.trans E1)
theorem LfX.re {R : Addr → Option (Str × PyData) → Ev → Cs → Prop} {Wh : WX} (h : LfX K w B G ρ H R Wh) (E : Ext G ρ H G' ρ' H') : LfX K w B G' ρ' H' R Wh := fun C d z e' c' σ' G1 ρ1 H1 E1 => h C d z e' c' σ' G1 ρ1 H1 (E.trans E1)
theorem Lf.re (h : Lf K w B G ρ H D Dh) (E : Ext G ρ H G' ρ' H') : Lf K w B G' ρ' H' D Dh := ⟨h.nx.re E, h.rt.re E, h.bk.re E, h.ct.re E, h.xx.re E⟩
def VS (K : PySem.W.Frag) (w : World) (ts : TS) (e : Ev) (c : Cs) (D : DV) : Prop :=
  ∀ B G ρ σ H Dh, Hx B G ρ c H → Sl K w B G ρ H σ e → Lf K w B G ρ H D Dh → ts Dh σ H
def LfG (K : PySem.W.Frag) (w : World) (B G0 : Addr → Prop) (ρ0 : List Addr) (H0 : Hp) (G : Addr → Prop) (ρ : List Addr) (H : Hp) (P : Ev → Cs → Prop) (Ph : L2.St → Hp → Prop) : Prop :=
  ∀ e' c' σ' G' ρ' H', Ext G0 ρ0 H0 G' ρ' H' → Stay B G ρ H G' ρ' H' → Hx B G' ρ' c' H' → Sl K w B G' ρ' H' σ' e' → P e' c' → Ph σ' H'
def VG (K : PySem.W.Frag) (w : World) (g : TG) (u : W) (e : Ev) (c : Cs) (P : Ev → Cs → Prop) : Prop :=
  ∀ B G0 ρ0 H0 G ρ σ H v Ph, Ext G0 ρ0 H0 G ρ H → Hx B G ρ c H → Sl K w B G ρ H σ e → Sh K w B G ρ H v u → Fr H0 v u → LfG K w B G0 ρ0 H0 G ρ H P Ph → g v σ H Ph
def VGs (K : PySem.W.Frag) (w : World) (g : TGs) (xs : List PyData) (e : Ev) (c : Cs) (P : Ev → Cs → Prop) : Prop :=
  ∀ B G0 ρ0 H0 G ρ σ H vs Ph, Ext G0 ρ0 H0 G ρ H → Hx B G ρ c H → Sl K w B G ρ H σ e → DqL G H vs xs → LfG K w B G0 ρ0 H0 G ρ H P Ph → g vs σ H Ph
theorem sl_set (S : Sl K w B G ρ H σ e) (s : Sh K w B G ρ H v u) (n : u.noO = true) (i : Nat) : Sl K w B G ρ H (σ.set i (some v)) (e.set i (some u)) := paired_set ⟨n, v, rfl, s⟩ i S
theorem v_gname (n : u.noO = true) (q : P (e.set i (some u)) c) : VG K w (gName i) u e c P := by
  intro B G0 ρ0 H0 G ρ σ H v Ph E X S s f k
  exact k _ _ _ _ _ _ E .refl X (sl_set S s n i) q
theorem v_gnameD {xs : List PyData} (q : P (e.set i (some (.d (.list xs)))) c) : VG K w (gName i) (.o xs) e c P := by
  intro B G0 ρ0 H0 G ρ σ H v Ph E X S s f k
  cases s with
  | @o p vs _ h r g b n =>
    obtain ⟨p', ep, hp⟩ := f
    cases ep
    have X1 := X.data (by rw [h]; simp) n
    have gr : ∀ q, G q → Gp G p q := fun q h => .inl h
    have st : Stay B G ρ H (Gp G p) ρ H := ⟨fun _ _ _ h => h, fun _ _ _ h => h, gr, [], by simp⟩
    exact k _ _ _ _ _ _ (E.data hp) st X1 (sl_set (st.sl S) (.d (.lst (.inr rfl) h (r.imp gr))) rfl i) q
theorem v_gnameC {xs : List PyData} (q : P (e.set i (some (.c c.length))) (c ++ [.l xs])) : VG K w (gName i) (.o xs) e c P := by
  intro B G0 ρ0 H0 G ρ σ H v Ph E X S s f k
  cases s with
  | @o p vs _ h r g b n =>
    obtain ⟨p', ep, hp⟩ := f
    cases ep
    have X1 := X.cell (.l h r) n g b
    have st : Stay B G ρ H G (ρ ++ [p]) H := ⟨fun _ _ _ h => h, fun _ _ _ h => h, fun _ h => h, [p], rfl⟩
    refine k _ _ _ _ _ _ (E.cell hp) st X1 (sl_set (st.sl S) (.c ?_) rfl i) q
    rw [← X.len]
    simp
theorem v_gtup {n : Nat} {tg : TGs} {xs : List PyData} (hn : xs.length = n) (h : VGs K w tg xs e c P) : VG K w (gTup K n tg) (.d (.tuple xs)) e c P := by
  intro B G0 ρ0 H0 G ρ σ H v Ph E X S s f k
  cases s with
  | d q =>
    cases q with
    | tup n h1 r => exact ⟨_, _, rfl, SqT.of h1, by rw [dql_len r]; exact hn, h B G0 ρ0 H0 G ρ σ H _ Ph E X S r k⟩
theorem v_gcons {tg : TGs} {d : PyData} {xs : List PyData} (h : VG K w g (.d d) e c fun e1 c1 => VGs K w tg xs e1 c1 P) : VGs K w (gCons g tg) (d :: xs) e c P := by
  intro B G0 ρ0 H0 G ρ σ H vs Ph E X S r k
  cases r with
  | cons q r =>
    refine ⟨_, _, rfl, h B G0 ρ0 H0 G ρ σ H _ _ E X S (.d q) trivial fun e1 c1 σ1 G1 ρ1 H1 E1 st1 X1 S1 q1 => ?_⟩
    exact q1 B G0 ρ0 H0 G1 ρ1 σ1 H1 _ Ph E1 X1 S1 (st1.dql r) fun e2 c2 σ2 G2 ρ2 H2 E2 st2 X2 S2 q2 => k _ _ _ _ _ _ E2 (st1.trans st2) X2 S2 q2
theorem v_gnil (q : P e c) : VGs K w gNil [] e c P := by
  intro B G0 ρ0 H0 G ρ σ H vs Ph E X S r k
  cases r
  exact ⟨rfl, k _ _ _ _ _ _ E .refl X S q⟩
theorem v_gset {d : PyData} (hd : dat1 u = some d) (h : VE K w to e c fun x c1 => VE K w ti e c1 fun y c2 => ∃ k i xs j, x = .c k ∧ y = .d (.int i) ∧ c2[k]? = some (.l xs) ∧ ixN xs.length i = some j ∧ P e (c2.set k (.l (xs.set j d)))) :
    VG K w (gSub to ti rSetL) u e c P := by
  intro B G0 ρ0 H0 G ρ σ H v Ph E X S s f k
  refine h B G ρ σ H _ X S fun x vx c1 G1 ρ1 H1 E1 X1 s1 f1 q1 => ?_
  refine q1 B G1 ρ1 σ H1 _ X1 (E1.sl X S) fun y vy c2 G2 ρ2 H2 E2 X2 s2 f2 ⟨kk, ii, xs, jj, ex, ey, hc, hj, q2⟩ => ?_
  subst ex ey
  cases s2 with
  | d s2 =>
    cases s2
    obtain ⟨p, vs, rfl, hp, hl, r⟩ := cell_at X2 (E2.sh X1 s1) hc
    have E12 := E1.trans E2
    obtain ⟨G3, E3, X3, g3, q3⟩ := (Dd.of (E12.sh X s) f hd).data (E.trans E12) X2
    have m := List.mem_of_getElem? hp
    refine ⟨p, vs, ii, jj, rfl, rfl, hl, by rw [dql_len r]; exact hj, ?_⟩
    have X4 := X3.mut hp (o := .lst (vs.set jj v)) (x := .l (xs.set jj d)) (.l upd_same (dql_upd X3 hp ((r.imp g3).set jj q3)))
    have st : Stay B G2 ρ2 H2 G3 ρ2 (upd H2 p (.lst (vs.set jj v))) := ⟨fun b o g e => by
      rw [upd_ne fun z => X2.av p m (by rw [← z]; exact g)]
      exact e, fun b o g e => by
      rw [upd_ne fun z => X2.avb p m (by rw [← z]; exact g)]
      exact e, g3, [], by simp⟩
    have st2 := (E12.stay X).trans st
    exact k _ _ _ _ _ _ (E3.mut m) st2 X4 (st2.sl S) q2
theorem v_seq (h : VS K w ts e c { D with nx := fun e' c' => VS K w us e' c' D }) : VS K w (tSeq ts us) e c D := by
  intro B G ρ σ H Dh X S L
  refine h B G ρ σ H _ X S ⟨fun e' c' σ' G' ρ' H' E X' S' q => ?_, L.rt, L.bk, L.ct, L.xx⟩
  exact q B G' ρ' σ' H' Dh X' S' (L.re E)
theorem v_next (q : D.nx e c) : VS K w tNext e c D := fun B G ρ σ H Dh X S L => L.nx _ _ _ _ _ _ .refl X S q
theorem v_brk (q : D.bk e c) : VS K w tBreak e c D := fun B G ρ σ H Dh X S L => L.bk _ _ _ _ _ _ .refl X S q
theorem v_asg (h : VE K w te e c fun u c1 => VG K w g u e c1 D.nx) : VS K w (tAsg te g) e c D := by
  intro B G ρ σ H Dh X S L
  refine h B G ρ σ H _ X S fun u v c1 G1 ρ1 H1 E1 X1 s1 f1 q1 => ?_
  exact q1 B G ρ H G1 ρ1 σ H1 v _ E1 X1 (E1.sl X S) s1 f1 fun e2 c2 σ2 G2 ρ2 H2 E2 _ X2 S2 q2 => L.nx _ _ _ _ _ _ E2 X2 S2 q2
theorem v_drop (h : VE K w te e c fun _ c1 => D.nx e c1) : VS K w (tDrop te) e c D := by
  intro B G ρ σ H Dh X S L
  exact h B G ρ σ H _ X S fun u v c1 G1 ρ1 H1 E1 X1 s1 f1 q1 => L.nx _ _ _ _ _ _ E1 X1 (E1.sl X S) q1
theorem v_ret (h : VE K w te e c D.rt) : VS K w (tRet te) e c D := fun B G ρ σ H Dh X S L => h B G ρ σ H _ X S L.rt
theorem v_ifs (h : VT K w tt e c fun b c1 => if b = true then VS K w ts e c1 D else VS K w us e c1 D) : VS K w (tIfS tt ts us) e c D := by
  intro B G ρ σ H Dh X S L
  refine h B G ρ σ H _ X S fun b c1 G1 ρ1 H1 E1 X1 q1 => ?_
  cases b with
  | true => rw [if_pos rfl] at q1; rw [if_pos rfl]; exact q1 _ _ _ _ _ _ X1 (E1.sl X S) (L.re E1)
  | false => rw [if_neg (by decide)] at q1; rw [if_neg (by decide)]; exact q1 _ _ _ _ _ _ X1 (E1.sl X S) (L.re E1)
theorem v_cut (M : Ev → Cs → Prop) (h1 : VS K w ts e c { D with nx := M }) (h2 : ∀ e' c', M e' c' → VS K w us e' c' D) : VS K w (C8.tCut ts us) e c D := by
  intro B G ρ σ H Dh X S L
  refine ⟨fun σ' H' => ∃ e' c' G' ρ', Ext G ρ H G' ρ' H' ∧ Hx B G' ρ' c' H' ∧ Sl K w B G' ρ' H' σ' e' ∧ M e' c', h1 B G ρ σ H _ X S ⟨fun e' c' σ' G' ρ' H' E X' S' q => ⟨e', c', G', ρ', E, X', S', q⟩, L.rt, L.bk, L.ct, L.xx⟩, ?_⟩
  rintro σ' H' ⟨e', c', G', ρ', E, X', S', q⟩
  exact h2 e' c' q B G' ρ' σ' H' Dh X' S' (L.re E)
/-- a name bound: a new list is data then, or a cell -/
def bind1 (cell : Bool) (i : Nat) (u : W) (z : Ev × Cs) : Ev × Cs := match u with
  | .o xs => if cell = true then (z.1.set i (some (.c z.2.length)), z.2 ++ [.l xs]) else (z.1.set i (some (.d (.list xs))), z.2)
  | .od xs => (z.1.set i (some (.c z.2.length)), z.2 ++ [.m xs])
  | u => (z.1.set i (some u), z.2)
theorem bind1_ok (b : Bool) (i : Nat) (E : Ext G0 ρ0 H0 G ρ H) (X : Hx B G ρ c H) (S : Sl K w B G ρ H σ e) (s : Sh K w B G ρ H v u) (f : Fr H0 v u) :
    ∃ G' ρ', Ext G0 ρ0 H0 G' ρ' H ∧ Stay B G ρ H G' ρ' H ∧ Hx B G' ρ' (bind1 b i u (e, c)).2 H ∧ Sl K w B G' ρ' H (σ.set i (some v)) (bind1 b i u (e, c)).1 ∧
      ∀ {v' : V} {u' : W}, Sh K w B G ρ H v' u' → (u.noO = false → u'.noO = false → v' ≠ v) → Sh K w B G' ρ' H v' u' := by
  by_cases n : u.noO = true
  · refine ⟨G, ρ, E, .refl, ?_, ?_, fun s _ => s⟩
    · cases u <;> first
        | exact X
        | cases n
    · have := sl_set S s n i
      cases u <;> first
        | exact this
        | cases n
  cases s with
  | @o p vs xs h r g bb m =>
    obtain ⟨p', ep, hp⟩ := f
    cases ep
    have gr : ∀ q, G q → Gp G p q := fun q h => .inl h
    cases b with
    | false =>
      have X1 := X.data (by rw [h]; simp) m
      have st : Stay B G ρ H (Gp G p) ρ H := ⟨fun _ _ _ h => h, fun _ _ _ h => h, gr, [], by simp⟩
      refine ⟨_, _, E.data hp, st, X1, sl_set (st.sl S) (.d (.lst (.inr rfl) h (r.imp gr))) rfl i, fun {v' u'} s ne => ?_⟩
      by_cases n' : u'.noO = true
      · exact st.sh s n'
      · cases s with
        | o h' r' g' b' m' =>
          refine .o h' (r'.imp gr) (fun z => z.elim g' fun z => ne rfl rfl (by rw [z])) b' m'
        | od h' r' g' b' m' =>
          refine .od h' (Paired.mono (fun _ _ q => ⟨q.1, q.2.imp gr⟩) r') (fun z => z.elim g' fun z => ne rfl rfl (by rw [z])) b' m'
        | _ => exact absurd rfl n'
    | true =>
      have X1 := X.cell (.l h r) m g bb
      have st : Stay B G ρ H G (ρ ++ [p]) H := ⟨fun _ _ _ h => h, fun _ _ _ h => h, fun _ h => h, [p], rfl⟩
      refine ⟨_, _, E.cell hp, st, X1, sl_set (st.sl S) (.c ?_) rfl i, fun {v' u'} s ne => ?_⟩
      · show (ρ ++ [p])[c.length]? = some p
        rw [← X.len]
        simp
      by_cases n' : u'.noO = true
      · exact st.sh s n'
      · cases s with
        | o h' r' g' b' m' =>
          refine .o h' r' g' b' fun z => ?_
          rcases List.mem_append.mp z with z | z
          · exact m' z
          · exact ne rfl rfl (by rw [List.mem_singleton.mp z])
        | od h' r' g' b' m' =>
          refine .od h' r' g' b' fun z => ?_
          rcases List.mem_append.mp z with z | z
          · exact m' z
          · exact ne rfl rfl (by rw [List.mem_singleton.mp z])
        | _ => exact absurd rfl n'
  | @od p vs xs h r g bb m =>
    obtain ⟨p', ep, hp⟩ := f
    cases ep
    have X1 := X.cell (.m h r) m g bb
    have st : Stay B G ρ H G (ρ ++ [p]) H := ⟨fun _ _ _ h => h, fun _ _ _ h => h, fun _ h => h, [p], rfl⟩
    refine ⟨_, _, E.cell hp, st, X1, sl_set (st.sl S) (.c ?_) rfl i, fun {v' u'} s ne => ?_⟩
    · show (ρ ++ [p])[c.length]? = some p
      rw [← X.len]
      simp
    by_cases n' : u'.noO = true
    · exact st.sh s n'
    · cases s with
      | o h' r' g' b' m' =>
        refine .o h' r' g' b' fun z => ?_
        rcases List.mem_append.mp z with z | z
        · exact m' z
        · exact ne rfl rfl (by rw [List.mem_singleton.mp z])
      | od h' r' g' b' m' =>
        refine .od h' r' g' b' fun z => ?_
        rcases List.mem_append.mp z with z | z
        · exact m' z
        · exact ne rfl rfl (by rw [List.mem_singleton.mp z])
      | _ => exact absurd rfl n'
  | _ => exact absurd rfl n
theorem v_par (b1 b2 : Bool) (h : VA K w t e c fun us c1 => ∃ x y, us = [x, y] ∧ D.nx (bind1 b2 j y (bind1 b1 i x (e, c1))).1 (bind1 b2 j y (bind1 b1 i x (e, c1))).2) : VS K w (tPar i j t) e c D := by
  intro B G ρ σ H Dh X S L
  refine h B G ρ σ H _ X S fun us vs c1 G1 ρ1 H1 E1 X1 s1 f1 d1 ⟨x, y, e1, q1⟩ => ?_
  subst e1
  obtain ⟨v, v', rfl, sx, sy⟩ := v2 s1
  cases f1 with
  | cons fx f1 => cases f1 with
    | cons fy f1 =>
      obtain ⟨G2, ρ2, E2, st2, X2, S2, m2⟩ := bind1_ok b1 i E1 X1 (E1.sl X S) sx fx
      obtain ⟨G3, ρ3, E3, st3, X3, S3, m3⟩ := bind1_ok b2 j E2 X2 S2 (m2 sy fun a b => d1.1 a (v', y) (by simp) b) fy
      exact ⟨_, _, rfl, L.nx _ _ _ _ _ _ E3 X3 S3 q1⟩
end
end Gd
namespace Gd
open PySem PySem.Spec PyProof.Rows L2
section
variable {K : PySem.W.Frag} {w : World} {B G G' G'' G0 : Addr → Prop} {ρ ρ' ρ'' ρ0 : List Addr} {H H' H'' H0 : Hp} {c c' : Cs} {σ : L2.St} {e e' : Ev} {v vx vy : V} {u x y : W}
variable {Q : W → Cs → Prop} {QA : List W → Cs → Prop} {QB : Bool → Cs → Prop} {QO : Option Int → Cs → Prop} {ta tb tc te to ti : TE} {t : TA} {tt tt1 : TT} {P : Ev → Cs → Prop} {D : DV} {Dh : Ends} {g : TG} {ts us tb : TS} {ws : List Nat}
/-- what an item is, from the heap at a turn on -/
def Yv (B G : Addr → Prop) (ρ : List Addr) (c : Cs) (H : Hp) (x : V) (H' : Hp) (d : PyData) : Prop := ∃ G', Ext G ρ H G' ρ H' ∧ Hx B G' ρ c H' ∧ Dq G' H' x d
abbrev inV' (D : DV) (N : Ev → Cs → Prop) : DV := { D with nx := N, ct := N, bk := D.nx }
/-- cells from n on are data now -/
def frz1 (n : Nat) (c : Cs) : Option W → Option W
  | some (.c k) => if k < n then some (.c k) else match c[k]? with
    | some (.l xs) => some (.d (.list xs))
    | _ => none
  | some (.lc ks) => if ks.all (fun j => decide (j < n)) = true then some (.lc ks) else none
  | a => a
def frz (n : Nat) (c : Cs) (e : Ev) : Ev := e.map (frz1 n c)
def Wk (n : Nat) (P : Ev → Cs → Prop) (e : Ev) (c : Cs) : Prop := P (frz n c e) (c.take n)
theorem ptake {α β : Type} {F : α → β → Prop} : ∀ {xs : List α} {ys : List β} (n : Nat), Paired F xs ys → Paired F (xs.take n) (ys.take n)
  | _, _, 0, _ => .nil
  | _, _, _ + 1, .nil => .nil
  | _, _, n + 1, .cons r t => .cons r (ptake n t)
theorem wk_ok {n : Nat} (E : Ext G0 ρ0 H0 G ρ H) (X : Hx B G ρ c H) (S : Sl K w B G ρ H σ e) (hn : ρ0.length ≤ n) :
    ∃ G' ρ', Ext G0 ρ0 H0 G' ρ' H ∧ Hx B G' ρ' (c.take n) H ∧ Sl K w B G' ρ' H σ (frz n c e) := by
  obtain ⟨ys, hy, hz⟩ := E.pre
  have nd := X.nd
  have nd2 : ∀ p, p ∈ ρ.take n → p ∈ ρ.drop n → False := fun p h1 h2 => by
    rw [← List.take_append_drop n ρ] at nd
    exact (List.nodup_append.mp nd).2.2 p h1 p h2 rfl
  have dr : ∀ p ∈ ρ.drop n, H0 p = none := fun p hp => by
    refine hz p ?_
    rw [hy, List.drop_append] at hp
    rcases List.mem_append.mp hp with h | h
    · rw [List.drop_of_length_le hn] at h
      cases h
    · exact List.mem_of_mem_drop h
  let G' : Addr → Prop := fun p => G p ∨ p ∈ ρ.drop n
  have gr : ∀ p, G p → G' p := fun _ h => .inl h
  have X' : Hx B G' (ρ.take n) (c.take n) H := by
    refine ⟨List.Nodup.sublist (List.take_sublist n ρ) nd, fun p hp g => ?_, fun p hp => X.avb p (List.mem_of_mem_take hp), fun p g => ?_, X.liveb, ?_⟩
    · rcases g with g | g
      · exact X.av p (List.mem_of_mem_take hp) g
      · exact nd2 p hp g
    · rcases g with g | g
      · exact X.live p g
      · exact X.trk (List.mem_of_mem_drop g)
    · exact ptake n (Paired.mono (fun p x r => r.mv rfl (fun _ _ _ h => h) gr) X.cells)
  refine ⟨G', ρ.take n, ⟨E.kp, E.tr, ⟨ys.take (n - ρ0.length), ?_, fun y h => hz y (List.mem_of_mem_take h)⟩, fun p h => .inl (E.gr p h), fun p h => ?_⟩, X', ?_⟩
  · rw [hy, List.take_append, List.take_of_length_le hn]
  · rcases h with h | h
    · exact E.nw p h
    · exact .inr (dr p h)
  · have one : ∀ a z, So K w B G ρ H a z → So K w B G' (ρ.take n) H a (frz1 n c z) := by
      intro a z s
      cases z with
      | none => trivial
      | some u =>
        obtain ⟨no, v, rfl, s⟩ := s
        have lcs : ∀ {ks : List Nat}, Sh K w B G ρ H v (.lc ks) → (∀ k ∈ ks, k < n) → Sh K w B G' (ρ.take n) H v (.lc ks) := by
          intro ks s hk
          cases s with
          | lc h g r => exact .lc h (gr _ g) (r.mono fun k hm q e => by rw [List.getElem?_take, if_pos (hk k hm)]; exact e)
        have oth : ∀ {u : W}, u.noO = true → (∀ k, u ≠ .c k) → (∀ ks, u ≠ .lc ks) → Sh K w B G ρ H v u → Sh K w B G' (ρ.take n) H v u := by
          intro u no nc nl s
          cases s with
          | d q => exact .d (q.imp gr)
          | o _ _ _ _ _ => cases no
          | od _ _ _ _ _ => cases no
          | b h r b => exact .b h (r.imp gr) b
          | s q => exact .s q
          | c _ => exact absurd rfl (nc _)
          | ty => exact .ty
          | tt h g => exact .tt h (gr _ g)
          | set h g => exact .set h (gr _ g)
          | x => exact .x
          | dm h r g => exact .dm h (Paired.mono (fun _ _ q => ⟨q.1, q.2.imp gr⟩) r) (gr _ g)
          | lc _ _ _ => exact absurd rfl (nl _)
        by_cases isc : ∃ k, u = .c k
        · obtain ⟨k, rfl⟩ := isc
          cases s with
          | @c p _ hp =>
            show So K w B G' (ρ.take n) H (some (.ref p)) (if k < n then some (.c k) else match c[k]? with | some (.l xs) => some (.d (.list xs)) | _ => none)
            by_cases hk : k < n
            · rw [if_pos hk]
              refine ⟨rfl, _, rfl, .c ?_⟩
              rw [List.getElem?_take, if_pos hk]
              exact hp
            · rw [if_neg hk]
              split
              · rename_i xs hc
                obtain ⟨p', hp', r⟩ := paired_get X.cells hc
                rw [hp] at hp'
                cases hp'
                cases r with
                | l h r =>
                  refine ⟨rfl, _, rfl, .d (.lst (.inr ?_) h (r.imp gr))⟩
                  refine List.mem_of_getElem? (i := k - n) ?_
                  rw [List.getElem?_drop, show n + (k - n) = k by omega]
                  exact hp
              · trivial
        · by_cases isl : ∃ ks, u = .lc ks
          · obtain ⟨ks, rfl⟩ := isl
            show So K w B G' (ρ.take n) H (some v) (if ks.all (fun j => decide (j < n)) = true then some (.lc ks) else none)
            by_cases ha : ks.all (fun j => decide (j < n)) = true
            · rw [if_pos ha]
              exact ⟨no, v, rfl, lcs s fun k hk => of_decide_eq_true (List.all_eq_true.mp ha k hk)⟩
            · rw [if_neg ha]
              trivial
          have e : frz1 n c (some u) = some u := by
            unfold frz1
            split
            · rename_i e
              cases e
              exact absurd ⟨_, rfl⟩ isc
            · rename_i e
              cases e
              exact absurd ⟨_, rfl⟩ isl
            · rfl
          rw [e]
          exact ⟨no, v, rfl, oth no (fun k e => isc ⟨k, e⟩) (fun ks e => isl ⟨ks, e⟩) s⟩
    have all : ∀ {σ : L2.St} {e : Ev}, Sl K w B G ρ H σ e → Sl K w B G' (ρ.take n) H σ (frz n c e) := by
      intro σ e S
      induction S with
      | nil => exact .nil
      | cons s _ ih => exact .cons (one _ _ s) ih
    exact all S
theorem rf_v {J : It} {n : Nat} {GG : Hp → Prop} {Y : Nat → Hp → V → Hp → Prop} (wk : Walk J n GG Y) (Pv : Nat → Ev → Cs → Prop) (item : Nat → PyData → Prop)
    (X : Hx B G ρ c H) (S : Sl K w B G ρ H σ e) (L : Lf K w B G ρ H D Dh) (h0 : Pv 0 e c)
    (hG : ∀ i e' c' G' ρ' H', Ext G ρ H G' ρ' H' → Hx B G' ρ' c' H' → Pv i e' c' → GG H')
    (hY : ∀ i x e' c' G' ρ' H' H'', Ext G ρ H G' ρ' H' → Hx B G' ρ' c' H' → Pv i e' c' → i < n → Y i H' x H'' → ∃ d, item i d ∧ Yv B G' ρ' c' H' x H'' d)
    (hs : ∀ i d e' c', i < n → item i d → Pv i e' c' → VG K w g (.d d) e' c' fun e2 c2 => VS K w tb e2 c2 (inV' D (Wk c.length (Pv (i + 1)))))
    (hd : ∀ e' c', Pv n e' c' → D.nx e' c') : Rf g tb Dh σ J H := by
  refine rf_it wk (fun i σ' H' => ∃ e' c' G' ρ', Ext G ρ H G' ρ' H' ∧ Hx B G' ρ' c' H' ∧ Sl K w B G' ρ' H' σ' e' ∧ Pv i e' c') ⟨e, c, G, ρ, .refl, X, S, h0⟩ ?_ ?_ ?_
  · rintro i σ' H' ⟨e', c', G', ρ', E', X', S', q⟩
    exact hG i e' c' G' ρ' H' E' X' q
  · rintro i x σ' H' H'' hi ⟨e', c', G', ρ', E', X', S', q⟩ y
    obtain ⟨d, hd', G2, E2, X2, q2⟩ := hY i x e' c' G' ρ' H' H'' E' X' q hi y
    refine hs i d e' c' hi hd' q B G' ρ' H' G2 ρ' σ' H'' x _ E2 X2 (E2.sl X' S') (.d q2) trivial fun e3 c3 σ3 G3 ρ3 H3 E3 _ X3 S3 q3 => ?_
    have EE := E'.trans E3
    have fin : LfN K w B G3 ρ3 H3 (Wk c.length (Pv (i + 1))) fun σ' H' => ∃ e' c' G' ρ', Ext G ρ H G' ρ' H' ∧ Hx B G' ρ' c' H' ∧ Sl K w B G' ρ' H' σ' e' ∧ Pv (i + 1) e' c' := fun e4 c4 σ4 G4 ρ4 H4 E4 X4 S4 q4 => by
      obtain ⟨G5, ρ5, E5, X5, S5⟩ := wk_ok (n := c.length) (EE.trans E4) X4 S4 (Nat.le_of_eq X.len)
      exact ⟨_, _, G5, ρ5, E5, X5, S5, q4⟩
    exact q3 B G3 ρ3 σ3 H3 _ X3 S3 ⟨fin, L.rt.re EE, L.nx.re EE, fin, L.xx.re EE⟩
  · rintro σ' H' ⟨e', c', G', ρ', E', X', S', q⟩
    exact L.nx _ _ _ _ _ _ E' X' S' (hd e' c' q)
/-- comprehension: what a target touches -/
def GOn (ws : List Nat) (g : TG) : Prop := ∀ (v : V) (σ : L2.St) (H : Hp) (T : L2.St → Hp → Prop), g v σ H T → g v σ H fun σ' H' => wipe σ' ws = wipe σ ws ∧ T σ' H'
def GOns (ws : List Nat) (g : TGs) : Prop := ∀ (v : List V) (σ : L2.St) (H : Hp) (T : L2.St → Hp → Prop), g v σ H T → g v σ H fun σ' H' => wipe σ' ws = wipe σ ws ∧ T σ' H'
theorem wipe_set {i : Nat} {a : Option V} : ∀ {ws : List Nat} {σ : L2.St}, i ∈ ws → wipe (σ.set i a) ws = wipe σ ws
  | v :: ws, σ, h => by
    unfold wipe
    by_cases e : i ∈ ws
    · rw [wipe_set e]
    · have e2 : i = v := by
        rcases List.mem_cons.mp h with h | h
        · exact h
        · exact absurd h e
      subst e2
      have key : ∀ {ws : List Nat}, i ∉ ws → wipe (σ.set i a) ws = (wipe σ ws).set i a := by
        intro ws
        induction ws with
        | nil => intro _; rfl
        | cons b ws ih =>
          intro n
          simp only [List.mem_cons, not_or] at n
          unfold wipe
          rw [ih n.2, List.set_comm _ _ n.1]
      rw [key e, List.set_set]
theorem on_name {i : Nat} (h : i ∈ ws) : GOn ws (gName i) := fun v σ H T q => ⟨wipe_set h, q⟩
theorem on_tup {n : Nat} {tg : TGs} (h : GOns ws tg) : GOn ws (gTup K n tg) := fun v σ H T ⟨a, xs, h1, h2, h3, q⟩ => ⟨a, xs, h1, h2, h3, h xs σ H T q⟩
theorem on_nil : GOns ws gNil := fun v σ H T ⟨h, q⟩ => ⟨h, rfl, q⟩
theorem on_cons {i : Nat} {tg : TGs} (h : i ∈ ws) (h2 : GOns ws tg) : GOns ws (gCons (gName i) tg) := fun v σ H T ⟨a, r, h1, q⟩ => ⟨a, r, h1, by
  have q2 : tg r (σ.set i (some a)) H T := q
  have z := h2 r _ H T q2
  rw [wipe_set h] at z
  exact z⟩
theorem on_consT {n : Nat} {tg tg2 : TGs} {i j : Nat} (hi : i ∈ ws) (hj : j ∈ ws) (h2 : GOns ws tg) : GOns ws (gCons (gTup K n (gCons (gName i) (gCons (gName j) gNil))) tg) := fun v σ H T ⟨a, r, h1, q⟩ => ⟨a, r, h1, by
  obtain ⟨b, xs, e1, e2, e3, x1, r1, e4, x2, r2, e5, e6, q⟩ := q
  refine ⟨b, xs, e1, e2, e3, x1, r1, e4, x2, r2, e5, e6, ?_⟩
  have z := h2 r _ H T q
  rw [wipe_set hj, wipe_set hi] at z
  exact z⟩
theorem wipe_wipe : ∀ (ws : List Nat) (σ : L2.St), wipe (wipe σ ws) ws = wipe σ ws
  | [], _ => rfl
  | v :: ws, σ => by
    have ih := wipe_wipe ws σ
    show (wipe ((wipe σ ws).set v none) ws).set v none = (wipe σ ws).set v none
    by_cases h : v ∈ ws
    · rw [wipe_set h, ih]
    · have key : ∀ {us : List Nat} {τ : L2.St}, v ∉ us → wipe (τ.set v none) us = (wipe τ us).set v none := by
        intro us
        induction us with
        | nil => intro _ _; rfl
        | cons b us ih =>
          intro τ n
          simp only [List.mem_cons, not_or] at n
          unfold wipe
          rw [ih n.2, List.set_comm _ _ n.1]
      rw [key h, ih, List.set_set]
def wipeE (e : Ev) : List Nat → Ev
  | [] => e
  | v :: vs => (wipeE e vs).set v none
theorem sl_wipe (S : Sl K w B G ρ H σ e) : ∀ ws : List Nat, Sl K w B G ρ H (wipe σ ws) (wipeE e ws)
  | [] => S
  | v :: ws => paired_set (show So K w B G ρ H none none from trivial) v (sl_wipe S ws)
/-- a turn of a comprehension -/
def VTurn (K : PySem.W.Frag) (w : World) (g : TG) (tt : TT) (te : TE) (ws : List Nat) (e : Ev) (c : Cs) (d : PyData) (yes : PyData → Cs → Prop) (no : Cs → Prop) : Prop :=
  VG K w g (.d d) (wipeE e ws) c fun e2 c2 => VT K w tt e2 c2 fun b c3 => if b = true then VE K w te e2 c3 fun y c4 => ∃ z, dat1 y = some z ∧ yes z c4 else no c3
theorem rl_v {J : It} {n : Nat} {GG : Hp → Prop} {Y : Nat → Hp → V → Hp → Prop} (wk : Walk J n GG Y) (Pv : Nat → List PyData → Cs → Prop) (item : Nat → PyData → Prop)
    {T : VK} (EB : Ext G0 ρ0 H0 G ρ H) (X : Hx B G ρ c H) (S : Sl K w B G ρ H σ e) (kt : Kt K w B G0 ρ0 H0 Q T) (on : GOn ws g) (hz : n < sizeLine) (h0 : Pv 0 [] c)
    (hG : ∀ i acc c' G' ρ' H', Ext G ρ H G' ρ' H' → Hx B G' ρ' c' H' → Pv i acc c' → GG H')
    (hY : ∀ i x acc c' G' ρ' H' H'', Ext G ρ H G' ρ' H' → Hx B G' ρ' c' H' → Pv i acc c' → i < n → Y i H' x H'' → ∃ d, item i d ∧ Yv B G' ρ' c' H' x H'' d)
    (hs : ∀ i d acc c', i < n → acc.length ≤ i → item i d → Pv i acc c' → VTurn K w g tt te ws e c' d (fun z c4 => Pv (i + 1) (acc ++ [z]) c4) (fun c3 => Pv (i + 1) acc c3))
    (hd : ∀ acc c', Pv n acc c' → Q (.o acc) c') : Rl g tt te ws σ T J H := by
  refine rl_it wk fun C hC => ⟨fun i H' => ∃ acc c' G' ρ' av, Ext G ρ H G' ρ' H' ∧ Hx B G' ρ' c' H' ∧ H' C = some (.lst av) ∧ DqL G' H' av acc ∧ ¬ G' C ∧ ¬ B C ∧ C ∉ ρ' ∧ acc.length ≤ i ∧ Pv i acc c', ?_, ?_, ?_, ?_⟩
  · exact ⟨[], c, G, ρ, [], .new hC, X.new hC, upd_same, .nil, fun g => X.live C g hC, fun g => X.liveb C g hC, fun z => X.trk z hC, Nat.zero_le _, h0⟩
  · rintro i H' ⟨acc, c', G', ρ', av, E', X', _, _, _, _, _, _, q⟩
    exact hG i acc c' G' ρ' H' E' X' q
  · rintro i x H' H'' hi ⟨acc, c', G', ρ', av, E', X', hc, ra, gC, bC, nC, al, q⟩ y
    obtain ⟨d, hd', G2, E2, X2, q2⟩ := hY i x acc c' G' ρ' H' H'' E' X' q hi y
    have hturn := hs i d acc c' hi al hd' q
    unfold lcT
    have S' := sl_wipe (E'.sl X S) ws
    have hsz : av.length < sizeLine := by rw [dql_len ra]; omega
    have main := on x (wipe σ ws) H'' _ (hturn B G' ρ' H' G2 ρ' (wipe σ ws) H'' x (fun σ2 H2 => tt σ2 H2 fun b H3 => if b = true then te σ2 H3 fun y H4 => ∃ acc, H4 C = some (.lst acc) ∧ acc.length < sizeLine ∧
        (∃ acc' c' G' ρ' av, Ext G ρ H G' ρ' (upd H4 C (.lst (acc ++ [y]))) ∧ Hx B G' ρ' c' (upd H4 C (.lst (acc ++ [y]))) ∧ (upd H4 C (.lst (acc ++ [y]))) C = some (.lst av) ∧ DqL G' (upd H4 C (.lst (acc ++ [y]))) av acc' ∧ ¬ G' C ∧ ¬ B C ∧ C ∉ ρ' ∧ acc'.length ≤ i + 1 ∧ Pv (i + 1) acc' c')
        else ∃ acc c' G' ρ' av, Ext G ρ H G' ρ' H3 ∧ Hx B G' ρ' c' H3 ∧ H3 C = some (.lst av) ∧ DqL G' H3 av acc ∧ ¬ G' C ∧ ¬ B C ∧ C ∉ ρ' ∧ acc.length ≤ i + 1 ∧ Pv (i + 1) acc c') E2 X2 (E2.sl X' S') (.d q2) trivial fun e3 c3 σ3 G3 ρ3 H3 E3 _ X3 S3 q3 => ?_)
    · rw [wipe_wipe] at main
      exact main
    refine q3 B G3 ρ3 σ3 H3 _ X3 S3 fun b c4 G4 ρ4 H4 E4 X4 q4 => ?_
    have offG : ∀ {G4 : Addr → Prop} {ρ4 : List Addr} {H4 : Hp}, Ext G' ρ' H' G4 ρ4 H4 → H4 C = some (.lst av) ∧ ¬ G4 C ∧ C ∉ ρ4 := fun E => ⟨E.kp _ _ hc nC, fun z => (E.nw _ z).elim gC fun z => (by rw [hc] at z; cases z), E.nin hc nC⟩
    cases b with
    | false =>
      rw [if_neg (by decide)] at q4
      rw [if_neg (by decide)]
      obtain ⟨a1, a2, a3⟩ := offG (E3.trans E4)
      exact ⟨acc, c4, G4, ρ4, av, E'.trans (E3.trans E4), X4, a1, (E3.trans E4).dql X' ra, a2, bC, a3, by omega, q4⟩
    | true =>
      rw [if_pos rfl] at q4
      rw [if_pos rfl]
      refine q4 B G4 ρ4 σ3 H4 _ X4 (E4.sl X3 S3) fun y vy c5 G5 ρ5 H5 E5 X5 s5 f5 ⟨z, hz5, q5⟩ => ?_
      have E35 := (E3.trans E4).trans E5
      obtain ⟨a1, a2, a3⟩ := offG E35
      have f5' : Fr H' vy y := (E3.trans E4).fr f5
      obtain ⟨G6, E6, X6, g6, q6⟩ := (Dd.of s5 f5' hz5).data E35 X5
      obtain ⟨_, a4, _⟩ := offG E6
      have ne : ∀ q, G6 q → q ≠ C := fun q g z => a4 (by rw [← z]; exact g)
      have kk : ∀ b o, G6 b → H5 b = some o → upd H5 C (.lst (av ++ [vy])) b = some o := fun b o g e => by rw [upd_ne (ne b g)]; exact e
      refine ⟨av, a1, hsz, acc ++ [z], c5, G6, ρ5, av ++ [vy], ?_, ?_, upd_same, ?_, a4, bC, a3, by simp; exact al, q5⟩
      · refine ⟨fun b o h n => ?_, fun b h => ?_, (E'.trans E6).pre, (E'.trans E6).gr, (E'.trans E6).nw⟩
        · rw [upd_ne (ne_of_none h hC)]
          exact (E'.trans E6).kp b o h n
        · by_cases z : b = C
          · rw [z, upd_same]; simp
          · rw [upd_ne z]; exact (E'.trans E6).tr b h
      · refine ⟨X6.nd, X6.av, X6.avb, fun q g => by rw [upd_ne (ne q g)]; exact X6.live q g, fun q g => ?_, cells_off ne X6.cells a3⟩
        rw [upd_ne fun z => bC (by rw [← z]; exact g)]
        exact X6.liveb q g
      · have r1 : DqL G6 H5 av acc := E6.dql X' ra
        have r2 : DqL G6 H5 (av ++ [vy]) (acc ++ [z]) := r1.app (.cons q6 .nil)
        exact DqL.mono kk (fun _ h => h) _ _ r2
  · rintro H' ⟨acc, c', G', ρ', av, E', X', hc, ra, gC, bC, nC, al, q⟩
    exact kt _ _ _ _ _ _ (EB.trans E') X' (.o hc ra gC bC nC) ⟨C, rfl, EB.was hC⟩ (hd acc c' q)
end
end Gd
namespace Gd
open PySem PySem.Spec PyProof.Rows L2
section
variable {K : PySem.W.Frag} {w : World} {B G G' G'' G0 : Addr → Prop} {ρ ρ' ρ'' ρ0 : List Addr} {H H' H'' H0 : Hp} {c c' : Cs} {σ : L2.St} {e e' : Ev} {v vx vy : V} {u u2 x y : W}
variable {Q : W → Cs → Prop} {QA : List W → Cs → Prop} {QB : Bool → Cs → Prop} {QO : Option Int → Cs → Prop} {ta tb tc te te1 to ti : TE} {t : TA} {tt tt1 : TT} {P : Ev → Cs → Prop} {D : DV} {Dh : Ends} {g : TG} {ts us tS : TS} {ws : List Nat}
def IsIt (wf : (It → Hp → Prop) → Hp → Prop) (B G : Addr → Prop) (ρ : List Addr) (H : Hp) (n : Nat) (item : Nat → PyData → Prop) (keep : Cs → Prop) : Prop :=
  ∃ (J : It) (GG : Hp → Prop) (Y : Nat → Hp → V → Hp → Prop), Walk J n GG Y ∧ (∀ R, R J H → wf R H) ∧ (∀ c' G' ρ' H', Ext G ρ H G' ρ' H' → Hx B G' ρ' c' H' → keep c' → GG H') ∧
    ∀ i x c' G' ρ' H' H'', Ext G ρ H G' ρ' H' → Hx B G' ρ' c' H' → keep c' → i < n → Y i H' x H'' → ∃ d, item i d ∧ Yv B G' ρ' c' H' x H'' d
def ItU (K : PySem.W.Frag) (w : World) (wf : (It → Hp → Prop) → V → Hp → Prop) (u : W) (c : Cs) (n : Nat) (item : Nat → PyData → Prop) (keep : Cs → Prop) : Prop :=
  ∀ B G ρ H v, Hx B G ρ c H → Sh K w B G ρ H v u → IsIt (fun R H => wf R v H) B G ρ H n item keep
def ItA (K : PySem.W.Frag) (w : World) (wf : (It → Hp → Prop) → List V → Hp → Prop) (us : List W) (c : Cs) (n : Nat) (item : Nat → PyData → Prop) (keep : Cs → Prop) : Prop :=
  ∀ B G ρ H vs, Hx B G ρ c H → Paired (Sh K w B G ρ H) vs us → IsIt (fun R H => wf R vs H) B G ρ H n item keep
theorem walkL {a : Addr} {n : Nat} : Walk (Itl K a) n (fun H => ∃ vs, SqL K H a vs ∧ vs.length = n) (fun i H x H' => H' = H ∧ ∀ vs, SqL K H a vs → vs[i]? = some x) :=
  ⟨fun i _ hi ⟨vs, q, e⟩ => ⟨vs, vs[i], q, by simp [e, hi]⟩, fun _ ⟨vs, q, e⟩ => ⟨vs, q, by omega⟩, fun _ _ _ _ _ _ y => y⟩
theorem yv_same (X : Hx B G ρ c H) {x : V} {d : PyData} (q : Dq G H x d) : Yv B G ρ c H x H d := ⟨G, .refl, X, q⟩
theorem it_l {xs : List PyData} (h : Lv c u xs) : ItU K w (wU K) u c xs.length (fun i d => xs[i]? = some d) (fun c' => Lv c' u xs) := by
  intro B G ρ H v X s
  obtain ⟨a, vs, rfl, h1, h2⟩ := h.seq X s
  refine ⟨Itl K a, _, _, walkL (n := xs.length), fun R r => .inl ⟨a, rfl, ⟨vs, h1⟩, r⟩, fun c' G' ρ' H' E X' kp => ?_, fun i x c' G' ρ' H' H'' E X' kp hi y => ?_⟩
  · obtain ⟨a', vs', e, h1', h2'⟩ := kp.seq X' (E.sh X s)
    cases e
    exact ⟨vs', h1', dql_len h2'⟩
  · obtain ⟨rfl, y⟩ := y
    obtain ⟨a', vs', e, h1', h2'⟩ := kp.seq X' (E.sh X s)
    cases e
    obtain ⟨d, e1, e2⟩ := DqL.get h2' (y vs' h1')
    exact ⟨d, e1, yv_same X' e2⟩
theorem it_s {z : Str} : ItU K w (wU K) (.d (.str z)) c z.cps.size (fun i d => ∃ a, (tl z)[i]? = some a ∧ d = .str ⟨#[a]⟩) (fun _ => True) := by
  intro B G ρ H v X s
  cases s with
  | d q =>
    cases q
    refine ⟨Its z, _, _, walk_str, fun R r => .inr (.inr ⟨z, rfl, r⟩), fun _ _ _ _ _ _ _ => trivial, fun i x c' G' ρ' H' H'' E X' _ hi y => ?_⟩
    obtain ⟨rfl, a, ha, rfl⟩ := y
    exact ⟨_, ⟨a, by rw [← ha]; simp [tl], rfl⟩, yv_same X' (.str _)⟩
theorem it_1 {j : Int} (b1 : -(2 ^ 62) ≤ j) (b2 : j < 2 ^ 62) : ItA K w wR1 [.d (.int j)] c j.toNat (fun i d => d = .int (i : Int)) (fun _ => True) := by
  intro B G ρ H vs X s0
  obtain ⟨v, rfl, s⟩ := v1 s0
  cases s with
  | d q =>
    cases q
    refine ⟨Itr 0 j.toNat, _, _, walk_range, fun R r => ⟨j, rfl, b1, b2, r⟩, fun _ _ _ _ _ _ _ => trivial, fun i x c' G' ρ' H' H'' E X' _ hi y => ?_⟩
    obtain ⟨rfl, rfl⟩ := y
    exact ⟨_, rfl, yv_same X' (by show Dq G' H'' (V.int (0 + (i : Int))) _; rw [Int.zero_add]; exact .int _)⟩
theorem yv_tup (X : Hx B G ρ c H) {T : Addr} (n : H T = none) {vs : List V} {xs : List PyData} (r : DqL G H vs xs) : Yv B G ρ c H (.ref T) (upd H T (.tup vs)) (.tuple xs) :=
  ⟨Gp G T, (Ext.new n).data n, (X.new n).data (by rw [upd_same]; simp) (fun z => X.trk z n), .tup (.inr rfl) upd_same ((r.new n).imp fun _ h => .inl h)⟩
theorem walkZ {a b : Addr} {n m : Nat} : Walk (Itz K a b) (min n m) (fun H => ∃ vs us, SqL K H a vs ∧ vs.length = n ∧ SqL K H b us ∧ us.length = m) (fun i H v H' => ∃ T x y, v = .ref T ∧ H T = none ∧ H' = upd H T (.tup [x, y]) ∧ (∀ xs, SqL K H a xs → xs[i]? = some x) ∧ ∀ ys, SqL K H b ys → ys[i]? = some y) :=
  ⟨fun i _ hi ⟨vs, us, q, e, q', e'⟩ => ⟨vs, us, vs[i], us[i], q, q', by simp, by simp⟩, fun _ ⟨vs, us, q, e, q', e'⟩ => ⟨vs, us, q, q', by omega⟩, fun _ _ _ _ _ _ y => y⟩
theorem it_z {xs ys : List PyData} (h : Lv c u xs) (h' : Lv c u2 ys) : ItA K w (wZ K) [u, u2] c (min xs.length ys.length) (fun i d => ∃ a b, xs[i]? = some a ∧ ys[i]? = some b ∧ d = .tuple [a, b]) (fun c' => Lv c' u xs ∧ Lv c' u2 ys) := by
  intro B G ρ H vs X s0
  obtain ⟨v, v', rfl, s, s'⟩ := v2 s0
  obtain ⟨a, vs, rfl, h1, h2⟩ := h.seq X s
  obtain ⟨b, us, rfl, g1, g2⟩ := h'.seq X s'
  refine ⟨Itz K a b, _, _, walkZ (n := xs.length) (m := ys.length), fun R r => ⟨a, b, vs, us, rfl, h1, g1, r⟩, fun c' G' ρ' H' E X' kp => ?_, fun i x c' G' ρ' H' H'' E X' kp hi y => ?_⟩
  · obtain ⟨a', vs', e, h1', h2'⟩ := kp.1.seq X' (E.sh X s)
    cases e
    obtain ⟨b', us', e, g1', g2'⟩ := kp.2.seq X' (E.sh X s')
    cases e
    exact ⟨vs', us', h1', dql_len h2', g1', dql_len g2'⟩
  · obtain ⟨T, x, z, rfl, hT, rfl, y, y'⟩ := y
    obtain ⟨a', vs', e, h1', h2'⟩ := kp.1.seq X' (E.sh X s)
    cases e
    obtain ⟨b', us', e, g1', g2'⟩ := kp.2.seq X' (E.sh X s')
    cases e
    obtain ⟨d, e1, e2⟩ := DqL.get h2' (y vs' h1')
    obtain ⟨d', e1', e2'⟩ := DqL.get g2' (y' us' g1')
    exact ⟨_, ⟨d, d', e1, e1', rfl⟩, yv_tup X' hT (.cons e2 (.cons e2' .nil))⟩
theorem walkV {a : Addr} {n : Nat} : Walk (Itv K a n) n (fun H => ∃ vs, SqL K H a vs ∧ vs.length = n) (fun i H x H' => H' = H ∧ ∀ vs, SqL K H a vs → vs[n - 1 - i]? = some x) :=
  ⟨fun i _ hi ⟨vs, q, e⟩ => ⟨hi, vs, vs[n - 1 - i]'(by omega), q, by simp [show n - 1 - i < vs.length by omega]⟩, fun _ _ => Nat.le_refl _, fun _ _ _ _ _ _ y => y⟩
theorem it_v {xs : List PyData} (h : Lv c u xs) : ItA K w (wV K) [u] c xs.length (fun i d => xs[xs.length - 1 - i]? = some d) (fun c' => Lv c' u xs) := by
  intro B G ρ H vs X s0
  obtain ⟨v, rfl, s⟩ := v1 s0
  obtain ⟨a, vs, rfl, h1, h2⟩ := h.seq X s
  have hl := dql_len h2
  refine ⟨Itv K a xs.length, _, _, walkV, fun R r => ⟨a, vs, rfl, h1, by rw [hl]; exact r⟩, fun c' G' ρ' H' E X' kp => ?_, fun i x c' G' ρ' H' H'' E X' kp hi y => ?_⟩
  · obtain ⟨a', vs', e, h1', h2'⟩ := kp.seq X' (E.sh X s)
    cases e
    exact ⟨vs', h1', dql_len h2'⟩
  · obtain ⟨rfl, y⟩ := y
    obtain ⟨a', vs', e, h1', h2'⟩ := kp.seq X' (E.sh X s)
    cases e
    obtain ⟨d, e1, e2⟩ := DqL.get h2' (y vs' h1')
    exact ⟨d, e1, yv_same X' e2⟩
def VFU (K : PySem.W.Frag) (w : World) (wf : (It → Hp → Prop) → V → Hp → Prop) (u : W) (e : Ev) (c : Cs) (g : TG) (ts : TS) (D : DV) : Prop :=
  ∀ B G ρ σ H v Dh, Hx B G ρ c H → Sl K w B G ρ H σ e → Sh K w B G ρ H v u → Lf K w B G ρ H D Dh → wf (Rf g ts Dh σ) v H
def VFA (K : PySem.W.Frag) (w : World) (wf : (It → Hp → Prop) → List V → Hp → Prop) (us : List W) (e : Ev) (c : Cs) (g : TG) (ts : TS) (D : DV) : Prop :=
  ∀ B G ρ σ H vs Dh, Hx B G ρ c H → Sl K w B G ρ H σ e → Paired (Sh K w B G ρ H) vs us → Lf K w B G ρ H D Dh → wf (Rf g ts Dh σ) vs H
theorem v_forU (h : VE K w te e c fun u c1 => VFU K w (wU K) u e c1 g ts D) : VS K w (tFor (iU K te) g ts) e c D := by
  intro B G ρ σ H Dh X S L
  exact rd_forU (h B G ρ σ H _ X S fun u v c1 G1 ρ1 H1 E1 X1 s1 f1 q1 => q1 B G1 ρ1 σ H1 v Dh X1 (E1.sl X S) s1 (L.re E1))
theorem v_for1 (h : VA K w t e c fun u c1 => VFA K w wR1 u e c1 g ts D) : VS K w (tFor (iRng1 t) g ts) e c D := by
  intro B G ρ σ H Dh X S L
  exact rd_for1 (h B G ρ σ H _ X S fun u v c1 G1 ρ1 H1 E1 X1 s1 f1 d1 q1 => q1 B G1 ρ1 σ H1 v Dh X1 (E1.sl X S) s1 (L.re E1))
theorem v_forZ (h : VA K w t e c fun u c1 => VFA K w (wZ K) u e c1 g ts D) : VS K w (tFor (iZip K t) g ts) e c D := by
  intro B G ρ σ H Dh X S L
  exact rd_forZ (h B G ρ σ H _ X S fun u v c1 G1 ρ1 H1 E1 X1 s1 f1 d1 q1 => q1 B G1 ρ1 σ H1 v Dh X1 (E1.sl X S) s1 (L.re E1))
theorem v_forV (h : VA K w t e c fun u c1 => VFA K w (wV K) u e c1 g ts D) : VS K w (tFor (iRev K t) g ts) e c D := by
  intro B G ρ σ H Dh X S L
  exact rd_forV (h B G ρ σ H _ X S fun u v c1 G1 ρ1 H1 E1 X1 s1 f1 d1 q1 => q1 B G1 ρ1 σ H1 v Dh X1 (E1.sl X S) s1 (L.re E1))
section
variable {wf : (It → Hp → Prop) → V → Hp → Prop} {wfA : (It → Hp → Prop) → List V → Hp → Prop} {n : Nat} {item : Nat → PyData → Prop} {keep : Cs → Prop} {ua : List W}
theorem vfor_core {wf' : (It → Hp → Prop) → Hp → Prop} (it : IsIt wf' B G ρ H n item keep) (X : Hx B G ρ c H) (S : Sl K w B G ρ H σ e) (L : Lf K w B G ρ H D Dh)
    (Pv : Nat → Ev → Cs → Prop) (h0 : Pv 0 e c) (hk : ∀ i e' c', Pv i e' c' → keep c')
    (hs : ∀ i d e' c', i < n → item i d → Pv i e' c' → VG K w g (.d d) e' c' fun e2 c2 => VS K w ts e2 c2 (inV' D (Wk c.length (Pv (i + 1)))))
    (hd : ∀ e' c', Pv n e' c' → D.nx e' c') : wf' (Rf g ts Dh σ) H := by
  obtain ⟨J, GG, Y, wk, r, hG, hY⟩ := it
  exact r _ (rf_v wk Pv item X S L h0 (fun i e' c' G' ρ' H' E X' p => hG c' G' ρ' H' E X' (hk i e' c' p)) (fun i x e' c' G' ρ' H' H'' E X' p hi y => hY i x c' G' ρ' H' H'' E X' (hk i e' c' p) hi y) hs hd)
theorem vfor (it : ItU K w wf u c n item keep) (Pv : Nat → Ev → Cs → Prop) (h0 : Pv 0 e c) (hk : ∀ i e' c', Pv i e' c' → keep c')
    (hs : ∀ i d e' c', i < n → item i d → Pv i e' c' → VG K w g (.d d) e' c' fun e2 c2 => VS K w ts e2 c2 (inV' D (Wk c.length (Pv (i + 1)))))
    (hd : ∀ e' c', Pv n e' c' → D.nx e' c') : VFU K w wf u e c g ts D :=
  fun B G ρ σ H v Dh X S s L => vfor_core (it B G ρ H v X s) X S L Pv h0 hk hs hd
theorem vforA (it : ItA K w wfA ua c n item keep) (Pv : Nat → Ev → Cs → Prop) (h0 : Pv 0 e c) (hk : ∀ i e' c', Pv i e' c' → keep c')
    (hs : ∀ i d e' c', i < n → item i d → Pv i e' c' → VG K w g (.d d) e' c' fun e2 c2 => VS K w ts e2 c2 (inV' D (Wk c.length (Pv (i + 1)))))
    (hd : ∀ e' c', Pv n e' c' → D.nx e' c') : VFA K w wfA ua e c g ts D :=
  fun B G ρ σ H v Dh X S s L => vfor_core (it B G ρ H v X s) X S L Pv h0 hk hs hd
def VLU (K : PySem.W.Frag) (w : World) (wf : (It → Hp → Prop) → V → Hp → Prop) (u : W) (e : Ev) (c : Cs) (g : TG) (tt : TT) (te : TE) (ws : List Nat) (Q : W → Cs → Prop) : Prop :=
  ∀ B G0 ρ0 H0 G ρ σ H v T, Ext G0 ρ0 H0 G ρ H → Hx B G ρ c H → Sl K w B G ρ H σ e → Sh K w B G ρ H v u → Kt K w B G0 ρ0 H0 Q T → wf (Rl g tt te ws σ T) v H
def VLA (K : PySem.W.Frag) (w : World) (wf : (It → Hp → Prop) → List V → Hp → Prop) (us : List W) (e : Ev) (c : Cs) (g : TG) (tt : TT) (te : TE) (ws : List Nat) (Q : W → Cs → Prop) : Prop :=
  ∀ B G0 ρ0 H0 G ρ σ H vs T, Ext G0 ρ0 H0 G ρ H → Hx B G ρ c H → Sl K w B G ρ H σ e → Paired (Sh K w B G ρ H) vs us → Kt K w B G0 ρ0 H0 Q T → wf (Rl g tt te ws σ T) vs H
theorem v_lcU (h : VE K w te1 e c fun u c1 => VLU K w (wU K) u e c1 g tt te ws Q) : VE K w (tLc (iU K te1) g tt te ws) e c Q := by
  intro B G ρ σ H T X S k
  exact rd_lcU (h B G ρ σ H _ X S fun u v c1 G1 ρ1 H1 E1 X1 s1 f1 q1 => q1 B G ρ H G1 ρ1 σ H1 v T E1 X1 (E1.sl X S) s1 k)
theorem v_lc1 (h : VA K w t e c fun u c1 => VLA K w wR1 u e c1 g tt te ws Q) : VE K w (tLc (iRng1 t) g tt te ws) e c Q := by
  intro B G ρ σ H T X S k
  exact rd_lc1 (h B G ρ σ H _ X S fun u v c1 G1 ρ1 H1 E1 X1 s1 f1 d1 q1 => q1 B G ρ H G1 ρ1 σ H1 v T E1 X1 (E1.sl X S) s1 k)
theorem v_lcZ (h : VA K w t e c fun u c1 => VLA K w (wZ K) u e c1 g tt te ws Q) : VE K w (tLc (iZip K t) g tt te ws) e c Q := by
  intro B G ρ σ H T X S k
  exact rd_lcZ (h B G ρ σ H _ X S fun u v c1 G1 ρ1 H1 E1 X1 s1 f1 d1 q1 => q1 B G ρ H G1 ρ1 σ H1 v T E1 X1 (E1.sl X S) s1 k)
theorem vco_core {T : VK} {wf' : (It → Hp → Prop) → Hp → Prop} (it : IsIt wf' B G ρ H n item keep) (EB : Ext G0 ρ0 H0 G ρ H) (X : Hx B G ρ c H) (S : Sl K w B G ρ H σ e) (kt : Kt K w B G0 ρ0 H0 Q T)
    (on : GOn ws g) (hz : n < sizeLine) (Pv : Nat → List PyData → Cs → Prop) (h0 : Pv 0 [] c) (hk : ∀ i acc c', Pv i acc c' → keep c')
    (hs : ∀ i d acc c', i < n → acc.length ≤ i → item i d → Pv i acc c' → VTurn K w g tt te ws e c' d (fun z c4 => Pv (i + 1) (acc ++ [z]) c4) (fun c3 => Pv (i + 1) acc c3))
    (hd : ∀ acc c', Pv n acc c' → Q (.o acc) c') : wf' (Rl g tt te ws σ T) H := by
  obtain ⟨J, GG, Y, wk, r, hG, hY⟩ := it
  exact r _ (rl_v wk Pv item EB X S kt on hz h0 (fun i e' c' G' ρ' H' E X' p => hG c' G' ρ' H' E X' (hk i e' c' p)) (fun i x e' c' G' ρ' H' H'' E X' p hi y => hY i x c' G' ρ' H' H'' E X' (hk i e' c' p) hi y) hs hd)
theorem vcoA (it : ItA K w wfA ua c n item keep) (on : GOn ws g) (hz : n < sizeLine) (Pv : Nat → List PyData → Cs → Prop) (h0 : Pv 0 [] c) (hk : ∀ i acc c', Pv i acc c' → keep c')
    (hs : ∀ i d acc c', i < n → acc.length ≤ i → item i d → Pv i acc c' → VTurn K w g tt te ws e c' d (fun z c4 => Pv (i + 1) (acc ++ [z]) c4) (fun c3 => Pv (i + 1) acc c3))
    (hd : ∀ acc c', Pv n acc c' → Q (.o acc) c') : VLA K w wfA ua e c g tt te ws Q :=
  fun B G0 ρ0 H0 G ρ σ H v T E X S s kt => vco_core (it B G ρ H v X s) E X S kt on hz Pv h0 hk hs hd
/-- the turn's outcome: kept with z, or left out -/
def PTurn (K : PySem.W.Frag) (w : World) (g : TG) (tt : TT) (te : TE) (ws : List Nat) (e : Ev) (c : Cs) (d : PyData) (r : Option PyData) : Prop :=
  VTurn K w g tt te ws e c d (fun z c4 => r = some z ∧ c4 = c) (fun c4 => r = none ∧ c4 = c)
theorem VTurn.mono {d : PyData} {yes yes' : PyData → Cs → Prop} {no no' : Cs → Prop} (h : VTurn K w g tt te ws e c d yes no) (hy : ∀ z c4, yes z c4 → yes' z c4) (hn : ∀ c4, no c4 → no' c4) : VTurn K w g tt te ws e c d yes' no' := by
  intro B G0 ρ0 H0 G ρ σ H v Ph E X S s f k
  refine h B G0 ρ0 H0 G ρ σ H v Ph E X S s f fun e' c' σ' G' ρ' H' E' st X' S' q => k e' c' σ' G' ρ' H' E' st X' S' ?_
  intro B G ρ σ H T X S k
  refine q B G ρ σ H T X S fun b c' G' ρ' H' E X q => k b c' G' ρ' H' E X ?_
  cases b with
  | false => rw [if_neg (by decide)] at *; exact hn _ q
  | true =>
    rw [if_pos rfl] at *
    intro B G ρ σ H T X S k
    exact q B G ρ σ H T X S fun u v c' G' ρ' H' E X s f ⟨z, h1, h2⟩ => k u v c' G' ρ' H' E X s f ⟨z, h1, hy _ _ h2⟩
theorem vcoF_core {T : VK} {wf' : (It → Hp → Prop) → Hp → Prop} {α : Type} (ys : List α) (m : α → PyData) (f : α → Option PyData) (it : IsIt wf' B G ρ H n item keep) (hn : n = ys.length) (hi : ∀ i d, i < n → item i d → ∃ y, ys[i]? = some y ∧ d = m y)
    (EB : Ext G0 ρ0 H0 G ρ H) (X : Hx B G ρ c H) (S : Sl K w B G ρ H σ e) (kt : Kt K w B G0 ρ0 H0 Q T) (hk : keep c)
    (on : GOn ws g) (hz : ys.length < sizeLine) (hs : ∀ y ∈ ys, PTurn K w g tt te ws e c (m y) (f y)) (q : Q (.o (ys.filterMap f)) c) : wf' (Rl g tt te ws σ T) H := by
  refine vco_core it EB X S kt on (by omega) (fun i acc c' => c' = c ∧ acc = (ys.take i).filterMap f) ⟨rfl, rfl⟩ (fun i acc c' h => by rw [h.1]; exact hk) ?_ ?_
  · rintro i d acc c' hin hl hd ⟨rfl, rfl⟩
    obtain ⟨y, hy, rfl⟩ := hi i d hin hd
    have st : (ys.take (i + 1)).filterMap f = (ys.take i).filterMap f ++ (f y).toList := by
      rw [List.take_add_one, hy, Option.toList_some, List.filterMap_append]
      congr 1
    refine (hs y (List.mem_of_getElem? hy)).mono (fun z c4 ⟨h1, h2⟩ => ⟨h2, ?_⟩) fun c4 ⟨h1, h2⟩ => ⟨h2, ?_⟩
    · rw [st, h1]
      rfl
    · rw [st, h1]
      simp
  · rintro acc c' ⟨rfl, rfl⟩
    rw [hn, List.take_length]
    exact q
theorem vcoF {α : Type} (ys : List α) (m : α → PyData) (f : α → Option PyData) (it : ItU K w wf u c n item keep) (hn : n = ys.length) (hi : ∀ i d, i < n → item i d → ∃ y, ys[i]? = some y ∧ d = m y) (hk : keep c)
    (on : GOn ws g) (hz : ys.length < sizeLine) (hs : ∀ y ∈ ys, PTurn K w g tt te ws e c (m y) (f y)) (q : Q (.o (ys.filterMap f)) c) : VLU K w wf u e c g tt te ws Q :=
  fun B G0 ρ0 H0 G ρ σ H v T E X S s kt => vcoF_core ys m f (it B G ρ H v X s) hn hi E X S kt hk on hz hs q
theorem vcoFA {α : Type} (ys : List α) (m : α → PyData) (f : α → Option PyData) (it : ItA K w wfA ua c n item keep) (hn : n = ys.length) (hi : ∀ i d, i < n → item i d → ∃ y, ys[i]? = some y ∧ d = m y) (hk : keep c)
    (on : GOn ws g) (hz : ys.length < sizeLine) (hs : ∀ y ∈ ys, PTurn K w g tt te ws e c (m y) (f y)) (q : Q (.o (ys.filterMap f)) c) : VLA K w wfA ua e c g tt te ws Q :=
  fun B G0 ρ0 H0 G ρ σ H v T E X S s kt => vcoF_core ys m f (it B G ρ H v X s) hn hi E X S kt hk on hz hs q
end
theorem itl_map {α : Type} {m : α → PyData} {ys : List α} {n : Nat} : ∀ i d, i < n → (ys.map m)[i]? = some d → ∃ y, ys[i]? = some y ∧ d = m y := fun i d _ h => by
  rw [List.getElem?_map] at h
  obtain ⟨y, h1, h2⟩ := Option.map_eq_some_iff.mp h
  exact ⟨y, h1, h2.symm⟩
/-- over a list -/
theorem vco_l {α : Type} {ys : List α} {m : α → PyData} (f : α → Option PyData) (h : Lv c u (ys.map m)) (on : GOn ws g) (hz : ys.length < sizeLine) (hs : ∀ y ∈ ys, PTurn K w g tt te ws e c (m y) (f y)) (q : Q (.o (ys.filterMap f)) c) : VLU K w (wU K) u e c g tt te ws Q :=
  vcoF ys m f (it_l h) (by simp) itl_map h on hz hs q
/-- over a text -/
theorem vco_s {z : Str} (f : Nat → Option PyData) (on : GOn ws g) (hz : z.length < sizeLine) (hs : ∀ a ∈ tl z, PTurn K w g tt te ws e c (.str ⟨#[a]⟩) (f a)) (q : Q (.o ((tl z).filterMap f)) c) : VLU K w (wU K) (.d (.str z)) e c g tt te ws Q :=
  vcoF (tl z) (fun a => .str ⟨#[a]⟩) f it_s (by simp [tl]) (fun i d _ h => h) trivial on (by rw [← TL.len_tl]; exact hz) hs q
/-- a while -/
theorem v_while (Pv : Nat → Ev → Cs → Prop) (h0 : ∃ m, Pv m e c)
    (hs : ∀ m e' c', Pv m e' c' → VT K w tt e' c' fun b c1 => if b = true then VS K w ts e' c1 (inV' D (Wk c.length fun e2 c2 => ∃ m', m' < m ∧ Pv m' e2 c2)) else D.nx e' c1) : VS K w (tWhile tt ts) e c D := by
  intro B G ρ σ H Dh X S L
  obtain ⟨m0, h0⟩ := h0
  refine ⟨fun m σ' H' => ∃ e' c' G' ρ', Ext G ρ H G' ρ' H' ∧ Hx B G' ρ' c' H' ∧ Sl K w B G' ρ' H' σ' e' ∧ Pv m e' c', ⟨m0, e, c, G, ρ, .refl, X, S, h0⟩, ?_⟩
  rintro m σ' H' ⟨e', c', G', ρ', E', X', S', q⟩
  refine hs m e' c' q B G' ρ' σ' H' _ X' S' fun b c1 G1 ρ1 H1 E1 X1 q1 => ?_
  cases b with
  | false =>
    rw [if_neg (by decide)] at q1
    rw [if_neg (by decide)]
    exact L.nx _ _ _ _ _ _ (E'.trans E1) X1 (E1.sl X' S') q1
  | true =>
    rw [if_pos rfl] at q1
    rw [if_pos rfl]
    have EE := E'.trans E1
    refine ⟨fun σ2 H2 => ∃ m', m' < m ∧ ∃ e' c' G' ρ', Ext G ρ H G' ρ' H2 ∧ Hx B G' ρ' c' H2 ∧ Sl K w B G' ρ' H2 σ2 e' ∧ Pv m' e' c', fun σ2 H2 h => h, ?_⟩
    have fin : LfN K w B G1 ρ1 H1 (Wk c.length fun e2 c2 => ∃ m', m' < m ∧ Pv m' e2 c2) fun σ2 H2 => ∃ m', m' < m ∧ ∃ e' c' G' ρ', Ext G ρ H G' ρ' H2 ∧ Hx B G' ρ' c' H2 ∧ Sl K w B G' ρ' H2 σ2 e' ∧ Pv m' e' c' := fun e4 c4 σ4 G4 ρ4 H4 E4 X4 S4 ⟨m', hm, q4⟩ => by
      obtain ⟨G5, ρ5, E5, X5, S5⟩ := wk_ok (n := c.length) (EE.trans E4) X4 S4 (Nat.le_of_eq X.len)
      exact ⟨m', hm, _, _, G5, ρ5, E5, X5, S5, q4⟩
    exact q1 B G1 ρ1 σ' H1 _ X1 (E1.sl X' S') ⟨fin, L.rt.re EE, L.nx.re EE, fin, L.xx.re EE⟩
end
end Gd
namespace Gd
open PySem PySem.Spec PyProof.Rows L2
abbrev SpV := List W → Cs → (W → Cs → Prop) → Prop
/-- a def's promise, of values -/
def lift (K : PySem.W.Frag) (w : World) (sp : SpV) : Sp := fun vs H T _ => ∃ B G ρ c us Q, Hx B G ρ c H ∧ Paired (Sh K w B G ρ H) vs us ∧ (∀ u ∈ us, u.noO = true) ∧
  sp us c Q ∧ ∀ u c', Q u c' → ∀ v G' H', Ext G ρ H G' ρ H' → Hx B G' ρ c' H' → Sh K w B G' ρ H' v u → Fr H v u → T v H'
section
variable {K : PySem.W.Frag} {w : World} {B G G' G'' G0 : Addr → Prop} {ρ ρ' ρ'' ρ0 : List Addr} {H H' H'' H0 : Hp} {c c' : Cs} {σ : L2.St} {e e' : Ev} {v vx vy : V} {u u2 x y : W}
variable {Q : W → Cs → Prop} {ta tb tc te te1 to ti : TE} {t tk : TA} {D : DV} {sp : SpV}
/-- a value passed on to be read -/
def tr0 (c : Cs) : W → Option W
  | .d (.list xs) => some (.b xs)
  | .d x => some (.d x)
  | .o xs => some (.b xs)
  | .b xs => some (.b xs)
  | .s xs => some (.s xs)
  | .c k => match c[k]? with
    | some (.l xs) => some (.b xs)
    | _ => none
  | .ty n => some (.ty n)
  | .x a => some (.x a)
  | .dm kvs => some (.dm kvs)
  | _ => none
def trs (c : Cs) : List W → Option (List W)
  | [] => some []
  | u :: us => (tr0 c u).bind fun d => (trs c us).map fun ds => d :: ds
/-- all that is there may be read by the one called, but its own cells -/
def Bc (H : Hp) (ρk : List Addr) : Addr → Prop := fun p => H p ≠ none ∧ p ∉ ρk
theorem tr0_sh {ρk : List Addr} {u' : W} (X : Hx B G ρ c H) (sub : ∀ p ∈ ρk, p ∈ ρ) (s : Sh K w B G ρ H v u) (h : tr0 c u = some u') (ok : ∀ k p, u = .c k → ρ[k]? = some p → p ∉ ρk) : Sh K w (Bc H ρk) G ρk H v u' ∧ u'.noO = true := by
  cases s with
  | @d _ x q =>
    cases x with
    | list xs =>
      cases h
      cases q with
      | lst n h r => exact ⟨.b h r ⟨by rw [h]; simp, fun z => X.av _ (sub _ z) n⟩, rfl⟩
    | none => cases h; exact ⟨.d q, rfl⟩
    | bool b => cases h; exact ⟨.d q, rfl⟩
    | int i => cases h; exact ⟨.d q, rfl⟩
    | str i => cases h; exact ⟨.d q, rfl⟩
    | tuple i => cases h; exact ⟨.d q, rfl⟩
    | dict i => cases h; exact ⟨.d q, rfl⟩
  | o a r g b n => cases h; exact ⟨.b a r ⟨by rw [a]; simp, fun z => n (sub _ z)⟩, rfl⟩
  | od _ _ _ _ _ => cases h
  | b a r n => cases h; exact ⟨.b a r ⟨by rw [a]; simp, fun z => X.avb _ (sub _ z) n⟩, rfl⟩
  | s q =>
    cases h
    refine ⟨.s ?_, rfl⟩
    rcases q with ⟨q, n⟩ | q
    · refine .inl ⟨q, ?_, fun z => X.avb _ (sub _ z) n⟩
      rcases q with q | ⟨o, q⟩ <;> rw [q] <;> simp
    · exact .inr q
  | @c p k a =>
    have h : (match c[k]? with | some (.l xs) => some (W.b xs) | _ => none) = some u' := h
    split at h
    · rename_i xs e
      · cases h
        obtain ⟨p', hp, r⟩ := paired_get X.cells e
        rw [a] at hp
        cases hp
        cases r with
        | l h r => exact ⟨.b h r ⟨by rw [h]; simp, ok k p rfl a⟩, rfl⟩
    · cases h
  | ty => cases h; exact ⟨.ty, rfl⟩
  | tt _ _ => cases h
  | set _ _ => cases h
  | x => cases h; exact ⟨.x, rfl⟩
  | dm a r g => cases h; exact ⟨.dm a r g, rfl⟩
  | lc _ _ _ => cases h
theorem trs_sh {ρk : List Addr} (X : Hx B G ρ c H) (sub : ∀ p ∈ ρk, p ∈ ρ) {vs : List V} {us us' : List W} (s : Paired (Sh K w B G ρ H) vs us) (h : trs c us = some us') (ok : ∀ u ∈ us, ∀ k p, u = .c k → ρ[k]? = some p → p ∉ ρk) :
    Paired (Sh K w (Bc H ρk) G ρk H) vs us' ∧ ∀ u ∈ us', u.noO = true := by
  induction s generalizing us' with
  | nil => cases h; exact ⟨.nil, by simp⟩
  | cons a t ih =>
    unfold trs at h
    obtain ⟨d, h1, h2⟩ := Option.bind_eq_some_iff.mp h
    obtain ⟨ds, h3, rfl⟩ := Option.map_eq_some_iff.mp h2
    obtain ⟨s1, n1⟩ := tr0_sh X sub a h1 (ok _ (by simp))
    obtain ⟨s2, n2⟩ := ih h3 fun u hu => ok u (by simp [hu])
    refine ⟨.cons s1 s2, fun u hu => ?_⟩
    rcases List.mem_cons.mp hu with e | hu
    · rw [e]; exact n1
    · exact n2 u hu
/-- back from a call that had the cells at ρk -/
theorem back {ρk : List Addr} {ck c1 : Cs} (X : Hx B G ρ c H) (sub : ∀ p ∈ ρk, p ∈ ρ) (E : Ext G ρk H G' ρk H') (Xk : Hx (Bc H ρk) G' ρk ck H')
    (cells : ∀ {R : Addr → Cell → Prop}, Paired R ρk ck → (∀ p x, p ∈ ρ → p ∉ ρk → CellOk G H p x → R p x) → Paired R ρ c1) : Ext G ρ H G' ρ H' ∧ Hx B G' ρ c1 H' := by
  have keep : ∀ b o, H b = some o → b ∉ ρk → H' b = some o := fun b o e n => E.kp b o e n
  refine ⟨⟨fun b o e n => keep b o e fun z => n (sub b z), E.tr, ⟨[], by simp, by simp⟩, E.gr, E.nw⟩, ⟨X.nd, fun p hp g => ?_, X.avb, Xk.live, fun p b => E.tr p (X.liveb p b), ?_⟩⟩
  · rcases E.nw p g with g | g
    · exact X.av p hp g
    · exact X.trk hp g
  · refine cells Xk.cells fun p x hp n h => ?_
    have e : H' p = H p := by
      cases q : H p with
      | none => exact absurd q h.trk
      | some o => exact keep p o q n
    exact h.mv e (fun b o g e => keep b o e fun z => X.av b (sub b z) g) E.gr
theorem cells0 {R : Addr → Cell → Prop} {ρ : List Addr} {c : Cs} (h : Paired (CellOk G H) ρ c) (f : ∀ p x, p ∈ ρ → CellOk G H p x → R p x) : Paired R ρ c := by
  induction h with
  | nil => exact .nil
  | cons a _ ih => exact .cons (f _ _ (by simp) a) (ih fun p x hp => f p x (by simp [hp]))
theorem cells1 {R : Addr → Cell → Prop} {x' : Cell} {p : Addr} : ∀ {ρ : List Addr} {c : Cs} {k : Nat}, ρ.Nodup → Paired (CellOk G H) ρ c → ρ[k]? = some p → R p x' → (∀ q x, q ∈ ρ → q ≠ p → CellOk G H q x → R q x) → Paired R ρ (c.set k x')
  | _, _, k, _, .nil, e, _, _ => by simp at e
  | _, _, 0, nd, .cons a t, e, r, f => by
    have e1 := Option.some.inj e
    have nd2 := List.nodup_cons.mp nd
    subst e1
    exact .cons r (cells0 t fun q x hq h => f q x (by simp [hq]) (fun z => nd2.1 (z ▸ hq)) h)
  | _, _, k + 1, nd, .cons a t, e, r, f => by
    have nd2 := List.nodup_cons.mp nd
    have e2 := by simpa using e
    exact .cons (f _ _ (by simp) (fun z => nd2.1 (z ▸ List.mem_of_getElem? e2)) a) (cells1 nd2.2 t e2 r fun q x hq => f q x (by simp [hq]))
theorem sh_back {ρk : List Addr} {ck c1 : Cs} (X : Hx B G ρ c H) (sub : ∀ p ∈ ρk, p ∈ ρ) (nc : ∀ k, u ≠ .c k) (nb : ∀ xs, u ≠ .b xs) (ns : ∀ xs, u ≠ .s xs) (nl : ∀ ks, u ≠ .lc ks) (s : Sh K w (Bc H ρk) G' ρk H' v u) (f : Fr H v u) : Sh K w B G' ρ H' v u := by
  cases s with
  | d q => exact .d q
  | o a r g b n =>
    obtain ⟨p, e, hp⟩ := f
    cases e
    exact .o a r g (fun z => X.liveb _ z hp) fun z => X.trk z hp
  | b _ _ _ => exact absurd rfl (nb _)
  | s _ => exact absurd rfl (ns _)
  | c _ => exact absurd rfl (nc _)
  | ty => exact .ty
  | tt a g => exact .tt a g
  | set a g => exact .set a g
  | x => exact .x
  | dm a r g => exact .dm a r g
  | od a r g b n =>
    obtain ⟨p, e, hp⟩ := f
    cases e
    exact .od a r g (fun z => X.liveb _ z hp) fun z => X.trk z hp
  | lc _ _ _ => exact absurd rfl (nl _)
/-- what a call may hand back -/
def W.res : W → Bool
  | .d _ | .o _ | .dm _ | .od _ => true
  | _ => false
theorem res_c (h : u.res = true) : (∀ k, u ≠ .c k) ∧ (∀ xs, u ≠ .b xs) ∧ (∀ xs, u ≠ .s xs) ∧ ∀ ks, u ≠ .lc ks :=
  ⟨fun k e => (by rw [e] at h; cases h), fun k e => (by rw [e] at h; cases h), fun k e => (by rw [e] at h; cases h), fun k e => (by rw [e] at h; cases h)⟩
/-- a call without cells -/
theorem lift0 {us us' : List W} {vs : List V} {c1 : Cs} {T : VK} {E0' : XK} (k : Kt K w B G0 ρ0 H0 Q T) (E1 : Ext G0 ρ0 H0 G ρ H) (X1 : Hx B G ρ c1 H) (s1 : Paired (Sh K w B G ρ H) vs us) (hu : trs c1 us = some us')
    (q1 : sp us' [] fun u _ => u.res = true ∧ Q u c1) : lift K w sp vs H T E0' := by
  obtain ⟨s2, n2⟩ := trs_sh (ρk := []) X1 (by simp) s1 hu (by simp)
  have X2 : Hx (Bc H []) G [] [] H := ⟨.nil, by simp, by simp, X1.live, fun p b => b.1, .nil⟩
  refine ⟨_, G, [], [], us', _, X2, s2, n2, q1, ?_⟩
  intro u c' ⟨hr, q⟩ v G' H' E X' s f
  obtain ⟨E2, X3⟩ := back (c1 := c1) X1 (by simp) E X' fun _ f => cells0 X1.cells fun p x hp h => f p x hp (by simp) h
  obtain ⟨r1, r2, r3, r4⟩ := res_c hr
  exact k _ _ _ _ _ _ (E1.trans E2) X3 (sh_back (ρk := []) (ck := c') (c1 := c1) X1 (by simp) r1 r2 r3 r4 s f) (E1.fr f) q
theorem v_call0 {E0' : XK} (h : VA K w t e c fun us c1 => ∃ us', trs c1 us = some us' ∧ sp us' [] fun u _ => u.res = true ∧ Q u c1) : VE K w (tCall (lift K w sp) [] E0' t) e c Q := by
  intro B G ρ σ H T X S k
  refine h B G ρ σ H _ X S fun us vs c1 G1 ρ1 H1 E1 X1 s1 f1 d1 ⟨us', hu, q1⟩ => ?_
  rw [List.append_nil]
  exact lift0 k E1 X1 s1 hu q1
/-- a call that has the cell at k -/
def fstC : List W → Option Nat
  | .c j :: _ => some j
  | _ :: us => fstC us
  | [] => none
def tr1 (c : Cs) (k : Nat) : W → Option W
  | .c j => if j = k then some (.c 0) else tr0 c (.c j)
  | u => tr0 c u
def trs1 (c : Cs) (k : Nat) : List W → Option (List W)
  | [] => some []
  | u :: us => (tr1 c k u).bind fun d => (trs1 c k us).map fun ds => d :: ds
theorem trs1_sh {k : Nat} {p : Addr} (X : Hx B G ρ c H) (hp : ρ[k]? = some p) {vs : List V} {us us' : List W} (s : Paired (Sh K w B G ρ H) vs us) (h : trs1 c k us = some us') :
    Paired (Sh K w (Bc H [p]) G [p] H) vs us' ∧ ∀ u ∈ us', u.noO = true := by
  have hm : p ∈ ρ := List.mem_of_getElem? hp
  have sub : ∀ q ∈ [p], q ∈ ρ := fun q h => by rw [List.mem_singleton.mp h]; exact hm
  have one : ∀ {v : V} {u u' : W}, Sh K w B G ρ H v u → tr1 c k u = some u' → Sh K w (Bc H [p]) G [p] H v u' ∧ u'.noO = true := by
    intro v u u' s h
    by_cases isc : ∃ j, u = .c j
    · obtain ⟨j, rfl⟩ := isc
      have hh : (if j = k then some (W.c 0) else tr0 c (.c j)) = some u' := h
      clear h
      by_cases e : j = k
      · rw [if_pos e] at hh
        have h2 := Option.some.inj hh
        subst e h2
        cases s with
        | c hq =>
          rw [hp] at hq
          cases hq
          exact ⟨.c rfl, rfl⟩
      · rw [if_neg e] at hh
        refine tr0_sh X sub s hh fun i q e' hq => ?_
        cases e'
        intro z
        rw [List.mem_singleton] at z
        subst z
        have l2 := (List.getElem?_eq_some_iff.mp hq).1
        exact e ((List.getElem?_inj l2 X.nd).mp (hq.trans hp.symm))
    · have h2 : tr0 c u = some u' := by
        unfold tr1 at h
        split at h
        · exact absurd ⟨_, rfl⟩ isc
        · exact h
      exact tr0_sh X sub s h2 fun i q e' _ => absurd ⟨i, e'⟩ isc
  induction s generalizing us' with
  | nil => cases h; exact ⟨.nil, by simp⟩
  | cons a t ih =>
    unfold trs1 at h
    obtain ⟨d, h1, h2⟩ := Option.bind_eq_some_iff.mp h
    obtain ⟨ds, h3, rfl⟩ := Option.map_eq_some_iff.mp h2
    obtain ⟨s1, n1⟩ := one a h1
    obtain ⟨s2, n2⟩ := ih h3
    refine ⟨.cons s1 s2, fun u hu => ?_⟩
    rcases List.mem_cons.mp hu with e | hu
    · rw [e]; exact n1
    · exact n2 u hu
theorem lift1 {k : Nat} {x' : Cell} {us us' : List W} {vs : List V} {c1 : Cs} {T : VK} {E0' : XK} (kt : Kt K w B G0 ρ0 H0 Q T) (E1 : Ext G0 ρ0 H0 G ρ H) (X1 : Hx B G ρ c1 H) (s1 : Paired (Sh K w B G ρ H) vs us) (hu : trs1 c1 k us = some us') (hx : c1[k]? = some x')
    (q1 : sp us' [x'] fun u c' => u.res = true ∧ ∀ y, c' = [y] → Q u (c1.set k y)) : lift K w sp vs H T E0' := by
  obtain ⟨p, hp, r⟩ := paired_get X1.cells hx
  have hm : p ∈ ρ := List.mem_of_getElem? hp
  have sub : ∀ q ∈ [p], q ∈ ρ := fun q h => by rw [List.mem_singleton.mp h]; exact hm
  obtain ⟨s2, n2⟩ := trs1_sh X1 hp s1 hu
  have X2 : Hx (Bc H [p]) G [p] [x'] H := ⟨by simp, fun q h => by rw [List.mem_singleton.mp h]; exact X1.av p hm, fun q h z => z.2 h, X1.live, fun q b => b.1, .cons r .nil⟩
  refine ⟨_, G, [p], [x'], _, _, X2, s2, n2, q1, ?_⟩
  intro u c' ⟨hr, q⟩ v G' H' E X' s f
  obtain ⟨y, rfl⟩ : ∃ y, c' = [y] := List.length_eq_one_iff.mp X'.len.symm
  obtain ⟨E2, X3⟩ := back (c1 := c1.set k y) X1 sub E X' fun {R} hR f => by
    cases hR with
    | cons hR _ => exact cells1 X1.nd X1.cells hp hR fun q x hq ne h => f q x hq (by simpa using ne) h
  obtain ⟨r1, r2, r3, r4⟩ := res_c hr
  exact kt _ _ _ _ _ _ (E1.trans E2) X3 (sh_back (ρk := [p]) (ck := [y]) (c1 := c1.set k y) X1 sub r1 r2 r3 r4 s f) (E1.fr f) (q y rfl)
def pickW (ix : List Nat) (us : List W) : List W := ix.map fun i => us.getD i (.d .none)
theorem pick_sh (ix : List Nat) {vs : List V} {us : List W} (s : Paired (Sh K w B G ρ H) vs us) : Paired (Sh K w B G ρ H) (pickV ix vs) (pickW ix us) := by
  induction ix with
  | nil => exact .nil
  | cons i ix ih =>
    refine .cons ?_ ih
    show Sh K w B G ρ H (vs.getD i .non) (us.getD i (.d .none))
    rw [List.getD_eq_getElem?_getD, List.getD_eq_getElem?_getD]
    cases e : us[i]? with
    | some u =>
      obtain ⟨v, h1, h2⟩ := paired_get s e
      rw [h1]
      exact h2
    | none =>
      have : vs[i]? = none := by
        have := Paired.length s
        rw [List.getElem?_eq_none_iff] at *
        omega
      rw [this]
      exact .d .non
theorem v_callK {n : Nat} {ix : List Nat} (h : VA K w tk e c fun us c1 => us.length = n ∧ ∃ us', trs c1 (pickW ix us) = some us' ∧ sp us' [] fun u _ => u.res = true ∧ Q u c1) : VE K w (tKw n ix (lift K w sp) tk) e c Q := by
  intro B G ρ σ H T X S k
  refine h B G ρ σ H _ X S fun us vs c1 G1 ρ1 H1 E1 X1 s1 f1 d1 ⟨hn, us', hu, q1⟩ => ?_
  exact ⟨by rw [Paired.length s1]; exact hn, lift0 k E1 X1 (pick_sh ix s1) hu q1⟩
def rtn (n : Nat) (Q : W → Cs → Prop) (u : W) (c' : Cs) : Prop := match u with
  | .c k => if k < n then Q (.c k) (c'.take n) else (∃ xs, c'[k]? = some (.l xs) ∧ Q (.o xs) (c'.take n)) ∨ ∃ kvs, (c'[k]? = some (.fz kvs) ∧ Q (.dm kvs) (c'.take n)) ∨ (c'[k]? = some (.m kvs) ∧ Q (.od kvs) (c'.take n))
  | .dm x => Q (.dm x) (c'.take n)
  | .od x => Q (.od x) (c'.take n)
  | .d x => Q (.d x) (c'.take n)
  | .o x => Q (.o x) (c'.take n)
  | _ => False
def startE (N : List Str) (us : List W) : Ev := us.map some ++ List.replicate (N.length - us.length) none
theorem paired_take {α β : Type} {F : α → β → Prop} : ∀ {xs : List α} {ys : List β} (n : Nat), Paired F xs ys → Paired F (xs.take n) (ys.take n)
  | _, _, 0, _ => .nil
  | _, _, _ + 1, .nil => .nil
  | _, _, n + 1, .cons r t => .cons r (paired_take n t)
theorem kt_rtn {T : VK} (n : Nat) (hn : ρ.length = n) (h : ∀ u c', Q u c' → ∀ v G' H', Ext G ρ H G' ρ H' → Hx B G' ρ c' H' → Sh K w B G' ρ H' v u → Fr H v u → T v H') : Kt K w B G ρ H (rtn n Q) T := by
  intro u v c' G' ρ' H' E X s f q
  obtain ⟨ys, rfl, hy⟩ := E.pre
  have E2 : Ext G ρ H G' ρ H' := ⟨E.kp, E.tr, ⟨[], by simp, by simp⟩, E.gr, E.nw⟩
  have tk : (ρ ++ ys).take n = ρ := by rw [← hn, List.take_left]
  have X2 : Hx B G' ρ (c'.take n) H' := by
    have pt := paired_take n X.cells
    rw [tk] at pt
    exact ⟨(List.nodup_append.mp X.nd).1, fun p hp => X.av p (by simp [hp]), fun p hp => X.avb p (by simp [hp]), X.live, X.liveb, pt⟩
  have nin : ∀ p, p ∉ ρ ++ ys → p ∉ ρ := fun p h z => h (by simp [z])
  cases s with
  | d s => exact h _ _ q _ _ _ E2 X2 (.d s) trivial
  | o a r g b m => exact h _ _ q _ _ _ E2 X2 (.o a r g b (nin _ m)) f
  | dm a r g => exact h _ _ q _ _ _ E2 X2 (.dm a r g) trivial
  | od a r g b m => exact h _ _ q _ _ _ E2 X2 (.od a r g b (nin _ m)) f
  | @c p k a =>
    by_cases hk : k < n
    · have q : (if k < n then Q (.c k) (c'.take n) else _) := q
      rw [if_pos hk] at q
      rw [List.getElem?_append_left (by omega)] at a
      exact h _ _ q _ _ _ E2 X2 (.c a) trivial
    · have q : (if k < n then Q (.c k) (c'.take n) else (∃ xs, c'[k]? = some (.l xs) ∧ Q (.o xs) (c'.take n)) ∨ ∃ kvs, (c'[k]? = some (.fz kvs) ∧ Q (.dm kvs) (c'.take n)) ∨ (c'[k]? = some (.m kvs) ∧ Q (.od kvs) (c'.take n))) := q
      rw [if_neg hk] at q
      rcases q with ⟨xs, hx, q⟩ | ⟨kvs, ⟨hx, q⟩ | ⟨hx, q⟩⟩
      rotate_left
      · obtain ⟨p', hp, r⟩ := paired_get X.cells hx
        rw [a] at hp
        cases hp
        have mys : p ∈ ys := by
          rw [List.getElem?_append_right (by omega)] at a
          exact List.mem_of_getElem? a
        cases r with
        | fz h1 r =>
          have np : p ∉ ρ := fun z => (List.nodup_append.mp X.nd).2.2 p z p mys rfl
          exact h _ _ q _ _ _ (E2.data (hy p mys)) (X2.data (by rw [h1]; simp) np) (.dm h1 (Paired.mono (fun _ _ q => ⟨q.1, q.2.imp fun _ g => .inl g⟩) r) (.inr rfl)) trivial
      · obtain ⟨p', hp, r⟩ := paired_get X.cells hx
        rw [a] at hp
        cases hp
        have m := List.mem_of_getElem? a
        have mys : p ∈ ys := by
          rw [List.getElem?_append_right (by omega)] at a
          exact List.mem_of_getElem? a
        cases r with
        | m h1 r => exact h _ _ q _ _ _ E2 X2 (.od h1 r (X.av _ m) (X.avb _ m) fun z => (List.nodup_append.mp X.nd).2.2 p z p mys rfl) ⟨p, rfl, hy p mys⟩
      obtain ⟨p', hp, r⟩ := paired_get X.cells hx
      rw [a] at hp
      cases hp
      have m := List.mem_of_getElem? a
      have mys : p ∈ ys := by
        rw [List.getElem?_append_right (by omega)] at a
        exact List.mem_of_getElem? a
      cases r with
      | l h1 r => exact h _ _ q _ _ _ E2 X2 (.o h1 r (X.av _ m) (X.avb _ m) fun z => (List.nodup_append.mp X.nd).2.2 p z p mys rfl) ⟨p, rfl, hy p mys⟩
  | _ => exact q.elim
theorem sl_start {N : List Str} {vs : List V} {us : List W} (s : Paired (Sh K w B G ρ H) vs us) (n : ∀ u ∈ us, u.noO = true) : Sl K w B G ρ H (L2.start N vs) (startE N us) := by
  unfold L2.start startE
  rw [Paired.length s]
  refine paired_app ?_ ?_
  · induction s with
    | nil => exact .nil
    | cons a t ih => exact .cons ⟨n _ (by simp), _, rfl, a⟩ (ih fun u hu => n u (by simp [hu]))
  · generalize N.length - us.length = m
    induction m with
    | zero => exact .nil
    | succ m ih => exact .cons trivial ih
end
section
variable {P : Program} {w : World} {K : PySem.W.Frag} {mg : Str → Option Value} {base : Heap} {k : Nat} {f : Addr} {fd : FuncData} {ps N : List Str} {sp : SpV}
theorem GFn.v {x qual : Str} {st : Stmt} (F : Fun K x qual st f fd) (S : FnScope N ps (defScope st))
    (len : ∀ us c Q, sp us c Q → us.length = ps.length)
    (body : ∀ (cdv : Value) (A : Around) (outer : List Env) (s : Shared) (H : Hp) (E : XK) (us : List W) (c : Cs) (Q : W → Cs → Prop),
      A.guards = some [] → Room k (A.deeper (envOfC qual (defScope st) s.heap.objs.size f cdv)) → sp us c Q →
      ∃ t, PSs (cxOf CX0 P w K mg base N qual (defScope st) f cdv A outer s H E).nox (defBody st) t ∧
        VS K w t (startE N us) c { nx := fun _ c' => rtn c.length Q (.d .none) c', rt := rtn c.length Q }) :
    GFn P w K mg base CX0 (k + 1) f fd ps (lift K w sp) := by
  refine GFn.mk' F S (fun vs H Q E h => ?_) (fun cdv A outer s H vs T E gd hr h => ?_)
  · obtain ⟨B, G, ρ, c, us, Q, X, sh, no, h, _⟩ := h
    rw [Paired.length sh]
    exact len us c Q h
  · obtain ⟨B, G, ρ, c, us, Q, X, sh, no, h, fin⟩ := h
    obtain ⟨t, h1, h2⟩ := body cdv A outer s H E us c Q gd hr h
    have kt := kt_rtn c.length X.len fin
    refine ⟨t, h1, h2 B G ρ (L2.start N vs) H _ X (sl_start sh no) ⟨fun e' c' σ' G' ρ' H' E' X' S' q => ?_, kt, fun _ _ _ _ _ _ _ _ _ q => q, fun _ _ _ _ _ _ _ _ _ q => q, fun _ _ _ _ _ _ _ _ _ _ _ _ _ q => q.elim⟩⟩
    exact kt _ _ _ _ _ _ E' X' (.d .non) trivial q
/-- what a law's def promises -/
def lawV : SpV := fun us c Q => ∃ ns : List Int, us = [.s (ns.map .int)] ∧ c = [] ∧ ns.length ≤ 63 ∧ (∀ z ∈ ns, Builtin.Int.intBits z ≤ 1048576) ∧ Q (.d (.bool true)) []
theorem law_start {H : Hp} {a : Addr} {ns : List Int} {E : XK} (hl : ns.length ≤ 63) (hb : ∀ z ∈ ns, Builtin.Int.intBits z ≤ 1048576) (hS : SqL K H a (ns.map V.int)) :
    lift K w lawV [.ref a] H (fun v _ => v = .bl true) E := by
  refine ⟨fun p => H p ≠ none, fun _ => False, [], [], [.s (ns.map .int)], fun u _ => u = .d (.bool true), ⟨.nil, by simp, by simp, fun _ h => h.elim, fun _ h => h, .nil⟩, .cons (.s ?_) .nil, by simp [W.noO], ⟨ns, rfl, rfl, hl, hb, rfl⟩, ?_⟩
  · rcases hS with h | h
    · refine .inl ⟨h, ?_⟩
      rcases h with h | ⟨o, h⟩ <;> rw [h] <;> simp
    · exact .inr h
  · intro u c' hu v G' H' _ _ s _
    subst hu
    cases s with
    | d q => exact dq_bl q
end
end Gd
namespace Gd
open PySem PySem.Spec PyProof.Rows L2
/-- a name that a new list comes to as a cell -/
def gNameC (i : Nat) : TG := gName i
def tParB (b1 b2 : Bool) (i j : Nat) (t : TA) : TS := tPar i j t
/-- a def that is passed its cells; one that is passed none -/
def liftC (K : PySem.W.Frag) (w : World) (sp : SpV) : Sp := lift K w sp
section
variable {X : Cx} {st : Stmt} {te : TE} {i j k : Nat} {t : TA} {tg : Expr} {b1 b2 b3 : Bool}
theorem PS.as_c (h : PS X st (tAsg te (gName i))) : PS X st (tAsg te (gNameC i)) := h
theorem PS.as_p (b1 b2 : Bool) (h : PS X st (tPar i j t)) : PS X st (tParB b1 b2 i j t) := h
end
section
variable {K : PySem.W.Frag} {w : World} {c c' : Cs} {e e' : Ev} {u x y : W}
variable {Q : W → Cs → Prop} {QB : Bool → Cs → Prop} {P : Ev → Cs → Prop} {ta tb tc te te1 to ti : TE} {t tk : TA} {D : DV} {sp : SpV} {i j k : Nat} {b1 b2 b3 : Bool}
theorem v_gC {xs : List PyData} (q : P (e.set i (some (.c c.length))) (c ++ [.l xs])) : VG K w (gNameC i) (.o xs) e c P := v_gnameC q
theorem v_gC' (n : u.noO = true) (q : P (e.set i (some u)) c) : VG K w (gNameC i) u e c P := v_gname n q
theorem v_parB (h : VA K w t e c fun us c1 => ∃ x y, us = [x, y] ∧ D.nx (bind1 b2 j y (bind1 b1 i x (e, c1))).1 (bind1 b2 j y (bind1 b1 i x (e, c1))).2) : VS K w (tParB b1 b2 i j t) e c D := v_par b1 b2 h
theorem tr_2 {P : W → W → Prop} {a b : W} (q : P a b) : ∃ x y, [a, b] = [x, y] ∧ P x y := ⟨a, b, rfl, q⟩
theorem v_nx {n : Ev → Cs → Prop} {r : W → Cs → Prop} {b k : Ev → Cs → Prop} {x : Addr → Option (Str × PyData) → Ev → Cs → Prop} {w : WX} (q : n e c) : DV.nx ⟨n, r, b, k, x, w⟩ e c := q
theorem v_rt {n : Ev → Cs → Prop} {r : W → Cs → Prop} {b k : Ev → Cs → Prop} {x : Addr → Option (Str × PyData) → Ev → Cs → Prop} {w : WX} (q : r u c) : DV.rt ⟨n, r, b, k, x, w⟩ u c := q
theorem v_bk {n : Ev → Cs → Prop} {r : W → Cs → Prop} {b k : Ev → Cs → Prop} {x : Addr → Option (Str × PyData) → Ev → Cs → Prop} {w : WX} (q : b e c) : DV.bk ⟨n, r, b, k, x, w⟩ e c := q
theorem rtn_d {n : Nat} {z : PyData} (q : Q (.d z) (c.take n)) : rtn n Q (.d z) c := q
theorem rtn_o {n : Nat} {z : List PyData} (q : Q (.o z) (c.take n)) : rtn n Q (.o z) c := q
theorem rtn_c {n k : Nat} {xs : List PyData} (h : n ≤ k) (hx : c[k]? = some (.l xs)) (q : Q (.o xs) (c.take n)) : rtn n Q (.c k) c := by
  show if k < n then _ else _
  rw [if_neg (by omega)]
  exact .inl ⟨xs, hx, q⟩
theorem rtn_fz {n k : Nat} {kvs : List (Key × PyData)} (h : n ≤ k) (hx : c[k]? = some (.fz kvs)) (q : Q (.dm kvs) (c.take n)) : rtn n Q (.c k) c := by
  show if k < n then _ else _
  rw [if_neg (by omega)]
  exact .inr ⟨kvs, .inl ⟨hx, q⟩⟩
theorem res_dm {z : List (Key × PyData)} {R : Prop} (q : R) : W.res (.dm z) = true ∧ R := ⟨rfl, q⟩
theorem res_d {z : PyData} {R : Prop} (q : R) : W.res (.d z) = true ∧ R := ⟨rfl, q⟩
theorem res_o {z : List PyData} {R : Prop} (q : R) : W.res (.o z) = true ∧ R := ⟨rfl, q⟩
theorem b_c {z : Bool} {P : Bool → Prop} (q : P z) : ∃ k, W.d (.bool z) = .d (.bool k) ∧ P k := ⟨z, rfl, q⟩
theorem i_c {z : Int} {P : Int → Prop} (q : P z) : ∃ k, W.d (.int z) = .d (.int k) ∧ P k := ⟨z, rfl, q⟩
theorem s_c {z : Str} {R : Prop} (q : R) : (∃ a, W.d (.str z) = .d (.str a)) ∧ R := ⟨⟨z, rfl⟩, q⟩
theorem t_bl {z : Bool} {P : Bool → Prop} (q : P z) : ∃ k, Tv c (.d (.bool z)) k ∧ P k := ⟨z, .bl z, q⟩
theorem l_c {us : List W} {xs : List PyData} {P : List PyData → Prop} (h : dats us = some xs) (hz : us.length ≤ sizeLine) (q : P xs) : ∃ xs, dats us = some xs ∧ us.length ≤ sizeLine ∧ P xs := ⟨xs, h, hz, q⟩
theorem z_d {x : PyData} {P : PyData → Prop} (q : P x) : ∃ z, dat1 (.d x) = some z ∧ P z := ⟨_, rfl, q⟩
theorem ty_lw {xs : List PyData} {R : Prop} (h : Lv c u xs) (q : R) : Tyw c "list" u ∧ R := ⟨.lst h, q⟩
theorem c0_c {us us' : List W} {P : List W → Prop} (h : trs c us = some us') (q : P us') : ∃ us', trs c us = some us' ∧ P us' := ⟨us', h, q⟩
theorem v_pturn {g : TG} {tt : TT} {ws : List Nat} {d : PyData} {r : Option PyData} (q : VTurn K w g tt te ws e c d (fun z c4 => r = some z ∧ c4 = c) (fun c4 => r = none ∧ c4 = c)) : PTurn K w g tt te ws e c d r := q
theorem v_turn {g : TG} {tt : TT} {ws : List Nat} {d : PyData} {yes : PyData → Cs → Prop} {no : Cs → Prop} (q : VG K w g (.d d) (wipeE e ws) c fun e2 c2 => VT K w tt e2 c2 fun b c3 => if b = true then VE K w te e2 c3 fun y c4 => ∃ z, dat1 y = some z ∧ yes z c4 else no c3) : VTurn K w g tt te ws e c d yes no := q
theorem set_c {a : Cell} {P : Cell → Prop} (q : P a) : ∀ y, [a] = [y] → P y := fun y h => by cases h; exact q
end
end Gd
namespace Gd
open PySem PySem.Spec PyProof.Rows L2
def low (c : Nat) : Bool := decide (97 ≤ c ∧ c ≤ 122)
def isT (s : Str) : Bool := decide (s.length ≤ 12) && (tl s).all low
def isW (s : Str) : Bool := isT s && decide (0 < s.length)
theorem tl_letters : tl ("abcdefghijklmnopqrstuvwxyz" : Str) = List.range' 97 26 := by decide +kernel
theorem in_letters (c : Nat) : decide (c ∈ tl ("abcdefghijklmnopqrstuvwxyz" : Str)) = low c := by
  rw [tl_letters]
  unfold low
  rw [decide_eq_decide]
  rw [List.mem_range'_1]
  omega
theorem sz100k {n : Nat} (h : n ≤ 100000) : n < sizeLine := by
  rw [sizeLine_eq]
  omega
theorem strOk_w {s : Str} (h : isW s = true) : PyData.strOk s = true := by
  simp only [isW, isT, Bool.and_eq_true, decide_eq_true_eq, List.all_eq_true] at h
  refine (strOk_iff s).mpr fun c hc => ?_
  have := h.1.2 c hc
  simp only [low, decide_eq_true_eq] at this
  omega
theorem sum_ones : ∀ cs : List Nat, (cs.map ((fun x : Str => x.length) ∘ fun c => (⟨#[c]⟩ : Str))).sum = cs.length
  | [] => rfl
  | c :: cs => by
    rw [List.map_cons, List.sum_cons, sum_ones cs]
    show 1 + cs.length = cs.length + 1
    omega
theorem joinL0 : ∀ ys : List (List Nat), TL.joinL [] ys = ys.flatten
  | [] => rfl
  | [p] => by simp [TL.joinL]
  | p :: q :: r => by
    rw [TL.joinL, List.nil_append, joinL0 (q :: r)]
    rfl
theorem tl_spell (cs : List Nat) : tl (Txt.join "" (cs.map fun c => (⟨#[c]⟩ : Str))) = cs := by
  rw [TL.join_eq]
  show TL.tl _ = _
  rw [TL.tl_join, List.map_map, show (TL.tl ∘ fun c => (⟨#[c]⟩ : Str)) = fun c => [c] from rfl]
  show TL.joinL [] _ = _
  rw [joinL0]
  induction cs with
  | nil => rfl
  | cons c cs ih => rw [List.map_cons, List.flatten_cons, ih]; rfl
theorem erase_perm {α : Type} : ∀ (ls : List α) (j : Nat) {v : α}, ls[j]? = some v → ([v] ++ ls.eraseIdx j).Perm ls
  | [], j, v, h => by simp at h
  | x :: ls, 0, v, h => by
    have e : x = v := by simpa using h
    rw [e]
    exact .refl _
  | x :: ls, j + 1, v, h => by
    have ih := erase_perm ls j (v := v) (by simpa using h)
    exact (List.Perm.swap x v (ls.eraseIdx j)).trans (ih.cons x)
def okW (s : Str) : Prop := 1 ≤ s.length ∧ s.length ≤ 12 ∧ ∀ c ∈ tl s, 97 ≤ c ∧ c ≤ 122
def fits (x o : Str) : Bool := !(Txt.startswith o x || Txt.startswith x o)
structure Bk (ws : List Str) (n : Nat) : Prop where
  len : ws.length ≤ n
  ok : ∀ w ∈ ws, okW w
  ap : ws.Pairwise fun o x => fits x o = true
theorem Bk.perm {ws us : List Str} {n : Nat} (B : Bk ws n) (p : us.Perm ws) : Bk us n :=
  ⟨by rw [p.length_eq]; exact B.len, fun w h => B.ok w (p.mem_iff.mp h), (List.Perm.pairwise_iff (fun {x y} h => by
    simp only [fits, Bool.not_eq_true', Bool.or_eq_false_iff] at h ⊢
    exact ⟨h.2, h.1⟩) p).mpr B.ap⟩
def sug (ws : List Str) (x : Str) : Option Str := ws.reverse.find? fun o => Txt.startswith o x
def cutT (x : Str) (l : Nat) : Str := cutS x none (some (l : Int))
def typ (ws : List Str) (x : Str) : Option Nat := (List.range x.length).find? fun l => sug ws (cutT x l) == some x
def typed (ws : List Str) (x : Str) : Str := match typ ws x with
  | some l => cutT x l
  | none => x
theorem find_drop {α : Type} (p : α → Bool) : ∀ (l : List α) (i : Nat), (l.take i).find? p = none → l.find? p = (l.drop i).find? p
  | [], i, _ => by simp
  | x :: l, 0, _ => rfl
  | x :: l, i + 1, h => by
    rw [List.take_succ_cons, List.find?_cons] at h
    rw [List.find?_cons]
    split at h
    · cases h
    · exact find_drop p l i h
theorem typed_len (ws : List Str) (x : Str) : (typed ws x).length ≤ x.length := by
  unfold typed
  split
  · exact cutS_length x none _
  · exact Nat.le_refl _
theorem isW_len {x : Str} (h : isW x = true) : x.length ≤ 12 := by
  simp only [isW, isT, Bool.and_eq_true, decide_eq_true_eq] at h
  exact h.1.1
theorem sw_take (o x : Str) : Txt.startswith o x = decide (cutT o x.length = x) := by
  have e : tl (cutT o x.length) = (tl o).take x.length := by
    unfold cutT
    rw [cut_to _ (by omega), Int.toNat_natCast]
  rw [Bool.eq_iff_iff, decide_eq_true_eq]
  unfold Txt.startswith
  rw [StrLaws.subAt_eq, List.drop_zero, Bool.and_eq_true, decide_eq_true_eq, beq_iff_eq]
  constructor
  · rintro ⟨_, h⟩
    exact TL.ext_tl (e.trans h)
  · intro h
    have h2 : (tl o).take x.length = tl x := by rw [← e, h]
    refine ⟨?_, h2⟩
    have := congrArg List.length h2
    rw [List.length_take, ← TL.len_tl, ← TL.len_tl] at this
    omega
theorem cutT_all (x : Str) : cutT x x.length = x := by
  refine TL.ext_tl ?_
  show tl _ = tl x
  unfold cutT
  rw [cut_to _ (by omega), Int.toNat_natCast, List.take_of_length_le (by rw [← TL.len_tl]; omega)]
theorem cutT_len {x : Str} {l : Nat} (h : l ≤ x.length) : (cutT x l).length = l := by
  rw [TL.len_tl]
  unfold cutT
  show (tl _).length = l
  rw [cut_to _ (by omega), List.length_take, ← TL.len_tl]
  omega
theorem typed_is {ws : List Str} {x : Str} {l : Nat} (hl : l ≤ x.length) (no : ∀ i, i < l → sug ws (cutT x i) ≠ some x) (yes : l < x.length → sug ws (cutT x l) = some x) : typed ws x = cutT x l := by
  unfold typed
  by_cases c : l < x.length
  · have e : typ ws x = some l := by
      unfold typ
      rw [List.find?_range_eq_some]
      refine ⟨by simpa using yes c, by simpa using c, fun i hi => ?_⟩
      have := no i hi
      simpa using this
    rw [e]
  · have e0 : l = x.length := by omega
    have e : typ ws x = none := by
      unfold typ
      rw [List.find?_eq_none]
      intro i hi
      have := no i (by rw [e0]; simpa using hi)
      simpa using this
    rw [e, e0, cutT_all]
theorem okW_isW {s : Str} (h : okW s) : isW s = true := by
  simp only [isW, isT, Bool.and_eq_true, decide_eq_true_eq, List.all_eq_true]
  exact ⟨⟨h.2.1, fun c hc => by simp only [low, decide_eq_true_eq]; exact h.2.2 c hc⟩, h.1⟩
theorem pw_all {α : Type} {R : α → α → Prop} (sy : ∀ x y, R x y → R y x) : ∀ {l : List α}, l.Pairwise R → ∀ x ∈ l, ∀ y ∈ l, x ≠ y → R x y
  | [], _, x, hx, _, _, _ => by cases hx
  | a :: l, p, x, hx, y, hy, n => by
    obtain ⟨h1, h2⟩ := List.pairwise_cons.mp p
    rcases List.mem_cons.mp hx with e1 | hx
    · rcases List.mem_cons.mp hy with e2 | hy
      · exact absurd (e1.trans e2.symm) n
      · rw [e1]
        exact h1 y hy
    · rcases List.mem_cons.mp hy with e2 | hy
      · rw [e2]
        exact sy _ _ (h1 x hx)
      · exact pw_all sy h2 x hx y hy n
theorem nc_fits {ws : List Str} (h : ws.Pairwise fun o x => fits x o = true) : NC ws := by
  have key := pw_all (R := fun x y => Txt.startswith y x = false ∧ Txt.startswith x y = false) (fun x y h => h.symm) (h.imp fun {o x} h => by
    simp only [fits, Bool.not_eq_true', Bool.or_eq_false_iff] at h
    exact ⟨h.2, h.1⟩)
  exact fun x hx y hy e => (key x hx y hy e).1
theorem eqv_strs : ∀ ws us : List Str, PyData.eqvAll (ws.map PyData.str) (us.map PyData.str) = decide (ws = us)
  | [], [] => by simp [PyData.eqvAll]
  | [], u :: us => by simp [PyData.eqvAll]
  | w :: ws, [] => by simp [PyData.eqvAll]
  | w :: ws, u :: us => by
    have ih := eqv_strs ws us
    by_cases e : w = u
    · simp [PyData.eqvAll, PyData.eqv, ih, e]
    · simp [PyData.eqvAll, PyData.eqv, ih, e]
theorem Bk.nodup {ws : List Str} {n : Nat} (B : Bk ws n) : ws.Nodup := by
  refine B.ap.imp fun {o x} h e => ?_
  subst e
  simp [fits, Txt.startswith, Builtin.Str.subAt, Str.length] at h
theorem strChars {s : Str} (h : isW s = true) : ∀ c ∈ tl s, c < 1114112 := fun c hc => by
  simp only [isW, isT, Bool.and_eq_true, decide_eq_true_eq, List.all_eq_true] at h
  have := h.1.2 c hc
  simp only [low, decide_eq_true_eq] at this
  omega
/-- sorted -/
def leT (a b : Str) : Bool := !decide (tl b < tl a)
def srt (xs : List Str) : List Str := xs.mergeSort leT
theorem leT_trans : ∀ a b c : Str, leT a b = true → leT b c = true → leT a c = true := fun a b c h1 h2 => by
  simp only [leT, Bool.not_eq_true', decide_eq_false_iff_not, List.not_lt] at *
  exact List.le_trans h1 h2
theorem leT_total : ∀ a b : Str, (leT a b || leT b a) = true := fun a b => by
  simp only [leT, Bool.or_eq_true, Bool.not_eq_true', decide_eq_false_iff_not, List.not_lt]
  exact List.le_total _ _
theorem srt_pw (xs : List Str) : (srt xs).Pairwise fun a b => ¬ (tl b < tl a) :=
  (List.pairwise_mergeSort leT_trans leT_total xs).imp fun {a b} h => by simpa [leT] using h
theorem srt_perm (xs : List Str) : (srt xs).Perm xs := List.mergeSort_perm xs leT
theorem srt_eq {ys xs : List Str} (p : ys.Perm xs) (h : sortedS ys = true) : ys = srt xs :=
  List.Perm.eq_of_pairwise (le := fun x y => ¬ (tl y < tl x)) (fun x y _ _ h1 h2 => TL.ext_tl (List.le_antisymm (List.not_lt.1 h1) (List.not_lt.1 h2))) (sortedS_pw h) (srt_pw xs) (p.trans (srt_perm xs).symm)
theorem srt_uniq {xs ys : List Str} (p : ys.Perm xs) (h : ys.Pairwise fun a b => ¬ (tl b < tl a)) : ys = srt xs :=
  List.Perm.eq_of_pairwise (le := fun x y => ¬ (tl y < tl x)) (fun x y _ _ h1 h2 => TL.ext_tl (List.le_antisymm (List.not_lt.1 h1) (List.not_lt.1 h2))) h (srt_pw xs) (p.trans (srt_perm xs).symm)
theorem srt_mem {xs : List Str} {x : Str} : x ∈ srt xs ↔ x ∈ xs := (srt_perm xs).mem_iff
theorem srt_len (xs : List Str) : (srt xs).length = xs.length := (srt_perm xs).length_eq
theorem srt_congr {xs ys : List Str} (p : xs.Perm ys) : srt xs = srt ys := srt_uniq ((srt_perm xs).trans p) (srt_pw xs)
/-- the least clash -/
def clash (ws : List Str) : Option (Str × Str) := adj (srt (dedT ws))
theorem NC.clash {ws : List Str} (h : NC ws) : clash ws = none := h.adj (srt_perm _)
/-- words of a book -/
structure Gb (ws : List Str) : Prop where
  ok : ∀ w ∈ ws, isW w = true
  nc : NC ws
  nd : ws.Nodup
theorem Gb.len {ws : List Str} (h : Gb ws) {x : Str} (m : x ∈ ws) : x.length ≤ 12 := isW_len (h.ok x m)
theorem Bk.gb {ws : List Str} {n : Nat} (h : Bk ws n) : Gb ws := ⟨fun w m => okW_isW (h.ok w m), nc_fits h.ap, h.nodup⟩
theorem Gb.perm {ws us : List Str} (h : Gb ws) (p : us.Perm ws) : Gb us :=
  ⟨fun w m => h.ok w (p.mem_iff.mp m), h.nc.sub fun u m => p.mem_iff.mp m, p.nodup_iff.mpr h.nd⟩
theorem Gb.hist {ws : List Str} (h : Gb ws) : (ws.all isW && (clash ws).isNone) = true := by
  rw [h.nc.clash, List.all_eq_true.mpr h.ok]; rfl
structure Gh (ws : List Str) : Prop where
  ok : ∀ w ∈ ws, isW w = true
  nc : NC ws
theorem Gh.hist {ws : List Str} (h : Gh ws) : (ws.all isW && (clash ws).isNone) = true := by
  rw [h.nc.clash, List.all_eq_true.mpr h.ok]; rfl
theorem typed_spec (ws : List Str) (x : Str) : ∃ l, l ≤ x.length ∧ typed ws x = cutT x l ∧ (typed ws x).length = l ∧ (∀ i, i < l → sug ws (cutT x i) ≠ some x) ∧ (l < x.length → sug ws (cutT x l) = some x) := by
  unfold typed
  cases h : typ ws x with
  | none =>
    refine ⟨x.length, Nat.le_refl _, (cutT_all x).symm, rfl, fun i hi e => ?_, fun z => absurd z (Nat.lt_irrefl _)⟩
    unfold typ at h
    rw [List.find?_eq_none] at h
    have := h i (List.mem_range.mpr hi)
    rw [e] at this
    simp at this
  | some l =>
    unfold typ at h
    rw [List.find?_range_eq_some] at h
    obtain ⟨h1, h2, h3⟩ := h
    have hl : l < x.length := by simpa using h2
    exact ⟨l, by omega, rfl, cutT_len (by omega), fun i hi e => by have := h3 i hi; rw [e] at this; simp at this, fun _ => by simpa using h1⟩
theorem cut_back (x : Str) {l : Nat} (h : l ≤ x.length) (h0 : 0 < l) : cutS (cutT x l) none (some (-1)) = cutT x (l - 1) := by
  have el := cutT_len h
  refine TL.ext_tl ?_
  show tl (cutS (cutT x l) none (some (-1))) = tl (cutT x (l - 1))
  unfold cutS tl
  have hn : HT.sIx (cutT x l).length (cutT x l).length (some (-1)) = l - 1 := by
    rw [el]
    unfold HT.sIx
    show (if (-1 : Int) < 0 then ((-1 : Int) + (l : Int)).toNat else min (-1 : Int).toNat l) = l - 1
    rw [if_pos (by decide)]
    omega
  have e0 : HT.sIx (cutT x l).length 0 none = 0 := HT.sIx_none _ _
  rw [hn, e0, List.drop_zero, Nat.sub_zero]
  show (tl (cutT x l)).take (l - 1) = tl (cutT x (l - 1))
  unfold cutT
  rw [cut_to _ (by omega), cut_to _ (by omega), Int.toNat_natCast, Int.toNat_natCast, List.take_take, Nat.min_eq_left (by omega)]
/-- what blocks a word -/
def blk (ws : List Str) (x : Str) : Option Str := if (typed ws x).length = 0 then none else sug ws (cutT x ((typed ws x).length - 1))
theorem sug_mem {ws : List Str} {x y : Str} (h : sug ws x = some y) : y ∈ ws := List.mem_reverse.mp (List.mem_of_find?_eq_some h)
/-- optional texts -/
def optD : Option Str → PyData
  | none => .none
  | some s => .str s
/-- an optional pair of texts -/
def optP : Option (Str × Str) → PyData
  | none => .none
  | some (a, b) => .tuple [.str a, .str b]
theorem Gb.nil : Gb [] := ⟨by simp, fun x hx => (by cases hx), List.Pairwise.nil⟩
theorem Gb.one {x : Str} (h : isW x = true) : Gb [x] :=
  ⟨fun w hw => by rw [List.mem_singleton.mp hw]; exact h, fun a ha b hb ne => absurd ((List.mem_singleton.mp ha).trans (List.mem_singleton.mp hb).symm) ne, by simp⟩
theorem Bk.sub {ws us : List Str} {n : Nat} (B : Bk ws n) (p : us.Sublist ws) : Bk us n :=
  ⟨Nat.le_trans p.length_le B.len, fun w h => B.ok w (p.subset h), B.ap.sublist p⟩
end Gd
namespace Gd
open PySem PySem.Spec PyProof.Rows L2
section
variable {K : PySem.W.Frag} {w : World} {c c' : Cs} {e e' : Ev} {u x y : W}
variable {Q : W → Cs → Prop} {QB : Bool → Cs → Prop} {P : Ev → Cs → Prop} {ta tb tc te te1 to ti : TE} {t tk : TA} {tt : TT} {D : DV} {sp : SpV} {i j k : Nat} {g : TG} {ws : List Nat} {α β : Type}
theorem w_isiT {C : String} (h : Tw c x C) (q : Q (.d (.bool true)) c) (hC : C ∈ ["bool", "int", "str", "list", "tuple", "dict"] := by decide) : VX K w (uIsi K) [x, .ty C] c Q :=
  w_isi h (by rw [show isi C C = true by simp [isi]]; exact q) hC
theorem w_isiF {C t : String} (h : Tw c x t) (n : isi t C = false) (q : Q (.d (.bool false)) c) (hC : C ∈ ["bool", "int", "str", "list", "tuple", "dict"] := by decide) : VX K w (uIsi K) [x, .ty C] c Q :=
  w_isi h (by rw [n]; exact q) hC
theorem fm_some (f : α → β) (ys : List α) : ys.filterMap (fun y => some (f y)) = ys.map f := by
  induction ys with
  | nil => rfl
  | cons y ys ih => simp [ih]
theorem fm_if (p : α → Bool) (f : α → β) (ys : List α) : ys.filterMap (fun y => if p y = true then some (f y) else none) = (ys.filter p).map f := by
  induction ys with
  | nil => rfl
  | cons y ys ih =>
    by_cases h : p y = true
    · simp [h, ih]
    · simp [h, ih]
/-- over a list: all items -/
theorem vco_lM {ys : List α} {m : α → PyData} (f : α → PyData) (h : Lv c u (ys.map m)) (on : GOn ws g) (hz : ys.length < sizeLine) (hs : ∀ y ∈ ys, PTurn K w g tt te ws e c (m y) (some (f y))) (q : Q (.o (ys.map f)) c) : VLU K w (wU K) u e c g tt te ws Q :=
  vco_l (fun y => some (f y)) h on hz hs (by rw [fm_some]; exact q)
/-- over a list: some items -/
theorem vco_lP {ys : List α} {m : α → PyData} (p : α → Bool) (f : α → PyData) (h : Lv c u (ys.map m)) (on : GOn ws g) (hz : ys.length < sizeLine) (hs : ∀ y ∈ ys, PTurn K w g tt te ws e c (m y) (if p y = true then some (f y) else none)) (q : Q (.o ((ys.filter p).map f)) c) : VLU K w (wU K) u e c g tt te ws Q :=
  vco_l (fun y => if p y = true then some (f y) else none) h on hz hs (by rw [fm_if]; exact q)
theorem vco_sM {z : Str} (f : Nat → PyData) (on : GOn ws g) (hz : z.length < sizeLine) (hs : ∀ a ∈ tl z, PTurn K w g tt te ws e c (.str ⟨#[a]⟩) (some (f a))) (q : Q (.o ((tl z).map f)) c) : VLU K w (wU K) (.d (.str z)) e c g tt te ws Q :=
  vco_s (fun y => some (f y)) on hz hs (by rw [fm_some]; exact q)
theorem w_allM {ys : List α} {p : α → Bool} (h : Lv c x (ys.map fun y => .bool (p y))) (q : Q (.d (.bool (ys.all p))) c) : VX K w (rAll K) [x] c Q :=
  w_all (bs := ys.map p) (by rw [List.map_map]; exact h) (by rw [List.all_map]; exact q)
theorem w_sumM {ys : List α} {p : α → Int} (h : Lv c x (ys.map fun y => .int (p y))) (q : Q (.d (.int (ys.map p).sum)) c) : VX K w (rSum K) [x] c Q :=
  w_sum (ns := ys.map p) (by rw [List.map_map]; exact h) q
theorem w_eqO {o : Option Str} {z : Str} (q : Q (.d (.bool (o == some z))) c) : V2 K w (uEq K) (.d (optD o)) (.d (.str z)) c Q := by
  cases o with
  | none =>
    intro B G0 ρ0 H0 G ρ H vx vy T E X sx sy fx fy k
    cases sx with
    | d q1 => cases sy with
      | d q2 =>
        rw [dq_non q1, dq_str q2]
        refine .inl ⟨rfl, ?_⟩
        rw [decide_eq_false (by simp)]
        exact k.d E X (.bl _) q
  | some y =>
    refine w_eqS ?_
    rw [show (some y == some z) = decide (y = z) by by_cases e : y = z <;> simp [e]] at q
    exact q
/-- texts compared -/
theorem eqv_strs' (ws us : List Str) : PyData.eqv (.list (ws.map .str)) (.list (us.map .str)) = decide (ws = us) := by
  rw [PyData.eqv]
  exact eqv_strs ws us
theorem w_neW {ws us : List Str} (h1 : Lv c x (ws.map .str)) (h2 : Lv c y (us.map .str)) (o1 : ∀ w ∈ ws, PyData.strOk w = true) (o2 : ∀ w ∈ us, PyData.strOk w = true) (q : Q (.d (.bool (!decide (ws = us)))) c) : V2 K w (uNe K) x y c Q :=
  w_neD (.l h1) (.l h2) (shaped_strs _ o1) (shaped_strs _ o2) (by rw [eqv_strs']; exact q)
/-- a list against the empty one -/
theorem eqv_nil (ds : List PyData) : PyData.eqv (.list ds) (.list []) = ds.isEmpty := by
  cases ds <;> simp [PyData.eqv, PyData.eqvAll]
theorem w_eq0 {xs : List PyData} (h1 : Lv c x xs) (s : SeqAt.shaped (.list xs) = true) (q : Q (.d (.bool xs.isEmpty)) c) : V2 K w (uEq K) x (.o []) c Q :=
  w_eqD (.l h1) (.l .o) s (by decide +kernel) (by rw [eqv_nil]; exact q)
end
theorem cutD_from (xs : List PyData) {d : Int} (h : 0 ≤ d) : cutD xs (some d) none = xs.drop d.toNat := by
  unfold cutD
  have e := HT.sIx_nat xs.length 0 d.toNat
  rw [Int.toNat_of_nonneg h] at e
  rw [e, HT.sIx_none]
  by_cases hd : d.toNat ≤ xs.length
  · rw [Nat.min_eq_left hd, List.take_of_length_le (by rw [List.length_drop]; omega)]
  · rw [Nat.min_eq_right (by omega), List.drop_of_length_le (Nat.le_refl _), List.drop_of_length_le (by omega), List.take_nil]
theorem map_at {α : Type} {m : α → PyData} {ys : List α} {i : Nat} {d : PyData} (h : (ys.map m)[i]? = some d) : ∃ y, ys[i]? = some y ∧ d = m y := by
  rw [List.getElem?_map] at h
  obtain ⟨y, h1, h2⟩ := Option.map_eq_some_iff.mp h
  exact ⟨y, h1, h2.symm⟩
section
variable {K : PySem.W.Frag} {w : World} {c : Cs} {Q : W → Cs → Prop}
theorem w_isP {o : Option (Str × Str)} (q : Q (.d (.bool o.isNone)) c) : V2 K w (fun x y H Q => y = .non ∧ Q (.bl (decide (x = .non))) H) (.d (optP o)) (.d .none) c Q := by
  match o, q with
  | none, q => exact w_isN q
  | some (a, b), q => exact w_isN q
end
section
variable {K : PySem.W.Frag} {w : World} {c : Cs} {Q : W → Cs → Prop}
theorem w_eqTt {t : String} (q : Q (.d (.bool true)) c) (ht : t ∈ ["NoneType", "bool", "int", "str", "list", "tuple", "dict"] := by decide) : V2 K w uEqT (.ty t) (.ty t) c Q :=
  w_eqT (by rw [decide_eq_true rfl]; exact q) ht ht
end
section
variable {X : Cx} {K : PySem.W.Frag} (h : X.K = K) {e : Expr} {t : TA}
include h
theorem kpi_rev {p pos : Pos} {tg : Expr} (hg : Gl X "reversed") (hm : X.mg "reversed" = none) (ha : PA X [e] t)
    (hs : starEach [e] X.env = [(false, eval e X.env)] := by rfl) :
    PI X tg (.Call (.Name "reversed" p) [e] [] pos) (iRev K t) := by
  subst h
  exact pi_reversed hg hm ha hs
end
theorem gs_c {c : Cs} {k : Nat} {i : Int} {xs : List PyData} {j : Nat} {P : Nat → Int → List PyData → Nat → Prop} (hx : c[k]? = some (.l xs)) (hj : ixN xs.length i = some j) (q : P k i xs j) :
    ∃ k' i' xs j, W.c k = .c k' ∧ W.d (.int i) = .d (.int i') ∧ c[k']? = some (.l xs) ∧ ixN xs.length i' = some j ∧ P k' i' xs j := ⟨k, i, xs, j, rfl, rfl, hx, hj, q⟩
theorem ite_f {A B : Prop} {b : Bool} (h : b = false) (q : B) : if b = true then A else B := by rw [h]; exact q
section
variable {K : PySem.W.Frag} {w : World} {c : Cs} {Q : W → Cs → Prop}
theorem w_max2 {i j : Int} (q : Q (.d (.int (if j > i then j else i))) c) : VX K w (fun xs H Q => ∃ i j, xs = [.int i, .int j] ∧ Q (.int (if j > i then j else i)) H) [.d (.int i), .d (.int j)] c Q := w_x2 dq_int dq_int (.int _) (fun q => ⟨_, _, rfl, q⟩) q
theorem w_min2 {i j : Int} (q : Q (.d (.int (if j < i then j else i))) c) : VX K w (fun xs H Q => ∃ i j, xs = [.int i, .int j] ∧ Q (.int (if j < i then j else i)) H) [.d (.int i), .d (.int j)] c Q := w_x2 dq_int dq_int (.int _) (fun q => ⟨_, _, rfl, q⟩) q
end
section
variable {K : PySem.W.Frag} {w : World} {e : Ev} {c : Cs} {Q Q' : W → Cs → Prop} {QB QB' : Bool → Cs → Prop} {ta tb te : TE} {tt : TT} {b : Bool}
theorem VE.mono (h : VE K w te e c Q') (f : ∀ u c1, Q' u c1 → Q u c1) : VE K w te e c Q :=
  fun B G ρ σ H T X S k => h B G ρ σ H T X S fun u v c' G' ρ' H' E X s fr q => k u v c' G' ρ' H' E X s fr (f u c' q)
theorem VT.mono (h : VT K w tt e c QB') (f : ∀ u c1, QB' u c1 → QB u c1) : VT K w tt e c QB :=
  fun B G ρ σ H T X S k => h B G ρ σ H T X S fun u c' G' ρ' H' E X q => k u c' G' ρ' H' E X (f u c' q)
end
theorem w_eqSs {K : PySem.W.Frag} {w : World} {c : Cs} {Q : W → Cs → Prop} {a : Str} (q : Q (.d (.bool true)) c) : V2 K w (uEq K) (.d (.str a)) (.d (.str a)) c Q := w_eqS (by rw [decide_eq_true rfl]; exact q)
end Gd
namespace Gd
open PySem PySem.Spec PyProof.Rows L2
section
variable {X : Cx} {κ : Type} [DecidableEq κ]
/-- sorted(d), all its keys texts -/
def uSortedD : List V → Hp → VK → Prop := fun xs H Q => ∃ (a : Addr) (kvs : List (Key × V)) (ks : List Str), xs = [.ref a] ∧ Rd H a (.dK kvs) ∧ kvs.map (·.1) = ks.map Sum.inr ∧
    ∀ ys p, ys.Perm ks → sortedS ys = true → H p = none → Q (.ref p) (upd H p (.lst (ys.map V.str)))
theorem cu_sortedD (hcalm : X.calm = true) : CallR X (.builtin "sorted") uSortedD := by
  intro pins s σ H xs us Q I r q
  obtain ⟨a, kvs, ks, ex, hd, hks, q⟩ := q
  subst ex
  obtain ⟨u, eu, rx⟩ := vals1 r
  subst eu
  cases rx
  obtain ⟨z, lo, vs, rel, dd⟩ := dk_rd I.hok hd
  obtain ⟨ep, hat⟩ := dd.dictAt
  have hkeys : vs.map (·.1) = ks.map Sum.inr := rel.keys.symm.trans hks
  have hl : vs.length = ks.length := by
    have e := congrArg List.length hkeys
    rw [List.length_map, List.length_map] at e
    exact e
  have h16 : vs.length ≤ sizeLine := by rw [← rel.length]; exact z
  refine Calls.call_function_entry PyProof.Rows.kind_sorted PyProof.Rows.plain_sorted PyProof.Rows.entry_sorted (PyProof.Rows.args_sorted1 _) ?_
  unfold Builtin.«sorted»
  refine wpAny_bind (m := checkCount "sorted" 1 1 _) (wpAny_pure ?_)
  refine wpAny_bind (PySem.W.kdu_collect (A := X.A.in1) (PySem.W.kdl_dict (knd := mixKind X.prog X.w) (kvs := vs) (ep := ep) lo) (I.ok.hd hcalm) hat h16 fun h' tk acc hk hacc => ?_)
  have hal : acc.toList.length = ks.length := by rw [Array.length_toList, hacc.1, hl]
  have hS : StrsAre acc.toList ks := strs_at hal fun j v e => by
    obtain ⟨k, x, e1, e2⟩ := hacc.2 j v (by rw [← Array.getElem?_toList]; exact e)
    have e3 : (vs.map (·.1))[j]? = some k := by rw [List.getElem?_map, e1]; all_goals rfl
    rw [hkeys, List.getElem?_map] at e3
    cases e4 : ks[j]? with
    | none => rw [e4] at e3; cases e3
    | some y =>
      rw [e4] at e3
      have e5 : Sum.inr y = k := Option.some.inj e3
      subst e5
      obtain ⟨t, ev⟩ := Value.isStrOf_shape (x := y) (v := v) e2
      exact ⟨y, t, rfl, ev⟩
  have hz : acc.toList.length ≤ sizeLine := by rw [hal, ← hl]; exact h16
  have I1 : Inv X pins σ H { s with heap := h', toks := tk } := I.kept hk
  refine wpAny_bind (wpAny_newList ?_ hz)
  have hoL : (h'.push (seqObj "list" acc.toList.toArray 0)).get? h'.objs.size = some (seqObj "list" acc.toList.toArray 0) := Heap.get?_push_size _ rfl
  show wpAny _ _ _ _ _ { s with heap := h'.push (seqObj "list" acc.toList.toArray 0), toks := tk }
  refine wpAny_bind (wpAny_holding (wpAny_call_entry PyProof.Rows.slot_list_sort ⟨_, hoL, rfl⟩ PyProof.Rows.entry_list_sort
    (list_sort_treeKAny strKind_oneLt (s := { s with heap := h'.push (seqObj "list" acc.toList.toArray 0), toks := tk }) hoL hS.keysOf (fun v₁ v₂ rest e => keyKind_strs (by rw [← e]; exact hS)) hz fun st' hp hs => ⟨_, rfl, ?_⟩)
    (PyProof.Rows.args_list_sort _)))
  obtain ⟨ys, g1, g2, g3⟩ := sorted_out_str hS hp hs
  obtain ⟨e', he'⟩ := PyProof.Rows.sortedHeap_at (vs := acc.toList) (out := (arrOf st').map (·.2)) hoL
  have hlen : (ys.map V.str).length ≤ sizeLine := by
    rw [List.length_map, g2.length_eq, ← hal]
    exact hz
  refine wpAny_pure ⟨_, rfl, .ref h'.objs.size, upd H h'.objs.size (.lst (ys.map V.str)), I1.laid (t' := tk) (fun b u e => ?_) (Nat.le_refl _)
    (show ObjOk X.prog X.w _ _ _ (.lst (ys.map V.str)) from ⟨hlen, ((arrOf st').map (·.2)).toList, e', vals_of_strs g1, by rw [Array.toArray_toList]; exact he'⟩), rfl, q ys _ g2 g3 (I1.hok.fresh (Nat.le_refl _))⟩
  have hb : b < h'.objs.size := Heap.lt_size e
  rw [PyProof.Rows.sortedHeap_old (Nat.ne_of_lt hb) (by rw [size_push']; exact Nat.lt_succ_of_lt hb)]
  exact Heap.get?_push_of_some _ e
/-- sorted of a text: its signs -/
def uSortedStr : List V → Hp → VK → Prop := fun xs H Q => ∃ z : Str, xs = [.str z] ∧ z.length ≤ 100000 ∧
    ∀ ys p, ys.Perm ((tl z).map fun a => (⟨#[a]⟩ : Str)) → sortedS ys = true → H p = none → Q (.ref p) (upd H p (.lst (ys.map V.str)))
theorem cu_sortedStr (hcalm : X.calm = true) : CallR X (.builtin "sorted") uSortedStr := by
  intro pins s σ H xs us Q I r q
  obtain ⟨z, ex, hz, q⟩ := q
  subst ex
  obtain ⟨u, eu, rx⟩ := vals1 r
  subst eu
  obtain ⟨t, rfl⟩ := rx
  have hz16 : z.cps.size ≤ sizeLine := by rw [sizeLine_eq]; exact Nat.le_trans hz (by decide)
  refine Calls.call_function_entry PyProof.Rows.kind_sorted PyProof.Rows.plain_sorted PyProof.Rows.entry_sorted (PyProof.Rows.args_sorted1 _) ?_
  unfold Builtin.«sorted»
  refine wpAny_bind (m := checkCount "sorted" 1 1 _) (wpAny_pure ?_)
  refine wpAny_bind (wpAny_collect_str (A := X.A.in1) (I.ok.hd hcalm) z t (fun s1 acc hk hg hdr hos hacc => ?_) hz16)
  obtain ⟨h', g', d', tk, o'⟩ := s1
  have hg' : g' = s.gens := hg
  have hd' : d' = s.drawn := hdr
  have ho' : o' = s.os := hos
  subst hg' hd' ho'
  have hal : acc.toList.length = ((tl z).map fun a => (⟨#[a]⟩ : Str)).length := by rw [Array.length_toList, hacc.1, List.length_map]; simp [tl]
  have hS : StrsAre acc.toList ((tl z).map fun a => (⟨#[a]⟩ : Str)) := strs_at hal fun j v e => by
    obtain ⟨c, t, e1, e2⟩ := hacc.2 j v (by rw [← Array.getElem?_toList]; exact e)
    refine ⟨⟨#[c]⟩, t, ?_, e2⟩
    rw [List.getElem?_map, tl, Array.getElem?_toList, e1]
    rfl
  have hz : acc.toList.length ≤ sizeLine := by rw [hal, List.length_map]; simpa [tl] using hz16
  have I1 : Inv X pins σ H { s with heap := h', toks := tk } := I.kept hk
  refine wpAny_bind (wpAny_newList ?_ hz)
  have hoL : (h'.push (seqObj "list" acc.toList.toArray 0)).get? h'.objs.size = some (seqObj "list" acc.toList.toArray 0) := Heap.get?_push_size _ rfl
  show wpAny _ _ _ _ _ { s with heap := h'.push (seqObj "list" acc.toList.toArray 0), toks := tk }
  refine wpAny_bind (wpAny_holding (wpAny_call_entry PyProof.Rows.slot_list_sort ⟨_, hoL, rfl⟩ PyProof.Rows.entry_list_sort
    (list_sort_treeKAny strKind_oneLt (s := { s with heap := h'.push (seqObj "list" acc.toList.toArray 0), toks := tk }) hoL hS.keysOf (fun v₁ v₂ rest e => keyKind_strs (by rw [← e]; exact hS)) hz fun st' hp hs => ⟨_, rfl, ?_⟩)
    (PyProof.Rows.args_list_sort _)))
  obtain ⟨ys, g1, g2, g3⟩ := sorted_out_str hS hp hs
  obtain ⟨e', he'⟩ := PyProof.Rows.sortedHeap_at (vs := acc.toList) (out := (arrOf st').map (·.2)) hoL
  have hlen : (ys.map V.str).length ≤ sizeLine := by
    rw [List.length_map, g2.length_eq, ← hal]
    exact hz
  refine wpAny_pure ⟨_, rfl, .ref h'.objs.size, upd H h'.objs.size (.lst (ys.map V.str)), I1.laid (t' := tk) (fun b u e => ?_) (Nat.le_refl _)
    (show ObjOk X.prog X.w _ _ _ (.lst (ys.map V.str)) from ⟨hlen, ((arrOf st').map (·.2)).toList, e', vals_of_strs g1, by rw [Array.toArray_toList]; exact he'⟩), rfl, q ys _ g2 g3 (I1.hok.fresh (Nat.le_refl _))⟩
  have hb : b < h'.objs.size := Heap.lt_size e
  rw [PyProof.Rows.sortedHeap_old (Nat.ne_of_lt hb) (by rw [size_push']; exact Nat.lt_succ_of_lt hb)]
  exact Heap.get?_push_of_some _ e
def uNiD : R2 := fun y x H Q => ∃ a o, x = .ref a ∧ DGet H a y o ∧ Q (.bl (!o.isSome)) H
theorem ou_niD (hu : X.A.units + 1 < cLine) : OpR X (compareOp .NotIn) uNiD := by
  rintro pins s σ H y x v u Q I ry rx ⟨a, o, rfl, g, q⟩
  obtain rfl : u = Value.ref a := rx
  exact d_notIn hu I g ry fun s3 I3 => ⟨.bl (!o.isSome), H, I3, rfl, q⟩
theorem hdict {k : Nat} {A : Around} (hr : Room k A) : A.units + 1 < cLine := by
  have := hr.un
  omega
end
section
variable {α β κ : Type} [DecidableEq κ]
def valG (kvs : List (κ × α)) (k : κ) : Option α := (kvs.find? fun kv => decide (kv.1 = k)).map (·.2)
def putG (kvs : List (κ × α)) (k : κ) (v : α) : List (κ × α) := if (kvs.any fun kv => decide (kv.1 = k)) = true then kvs.map fun kv => if kv.1 = k then (kv.1, v) else kv else kvs ++ [(k, v)]
end
section
variable {K : PySem.W.Frag} {w : World} {B G G' G'' G0 : Addr → Prop} {ρ ρ' ρ'' ρ0 : List Addr} {H H' H'' H0 : Hp} {c c' : Cs} {σ : L2.St} {e e' : Ev} {v vx vy : V} {u x y z : W}
variable {Q : W → Cs → Prop} {td ty tx tv : TE} {D : DV} {P : Ev → Cs → Prop}
abbrev KR (G : Addr → Prop) (H : Hp) : List (Key × V) → List (Key × PyData) → Prop := Paired fun a b => a.1 = b.1 ∧ Dq G H a.2 b.2
theorem KR.val {vs : List (Key × V)} {kvs : List (Key × PyData)} (r : KR G H vs kvs) (k : Key) : (valV vs k = none ∧ valG kvs k = none) ∨ ∃ a b, valV vs k = some a ∧ valG kvs k = some b ∧ Dq G H a b := by
  induction r with
  | nil => exact .inl ⟨rfl, rfl⟩
  | @cons a b l1 l2 h _ ih =>
    by_cases e : a.1 = k
    · refine .inr ⟨a.2, b.2, valV_pos e, ?_, h.2⟩
      unfold valG
      rw [List.find?_cons, show decide (b.1 = k) = true from decide_eq_true (h.1 ▸ e)]
      rfl
    · have e2 : ¬ b.1 = k := fun z => e (h.1.trans z)
      rw [valV_neg e]
      have : valG (b :: l2) k = valG l2 k := by
        unfold valG
        rw [List.find?_cons, show decide (b.1 = k) = false from decide_eq_false e2]
      rw [this]
      exact ih
theorem KR.put {vs : List (Key × V)} {kvs : List (Key × PyData)} (r : KR G H vs kvs) (k : Key) {v : V} {d : PyData} (q : Dq G H v d) : KR G H (putK vs k v) (putG kvs k d) := by
  have any_ : (vs.any fun kv => decide (kv.1 = k)) = (kvs.any fun kv => decide (kv.1 = k)) := by
    induction r with
    | nil => rfl
    | cons h _ ih => rw [List.any_cons, List.any_cons, ih, h.1]
  unfold putK putG
  rw [any_]
  split
  · clear any_
    rename_i hh
    clear hh
    induction r with
    | nil => exact .nil
    | @cons a b l1 l2 h _ ih =>
      refine .cons ?_ ih
      show (if a.1 = k then (a.1, v) else a).1 = (if b.1 = k then (b.1, d) else b).1 ∧ Dq G H (if a.1 = k then (a.1, v) else a).2 (if b.1 = k then (b.1, d) else b).2
      by_cases e : a.1 = k
      · rw [if_pos e, if_pos (h.1 ▸ e)]
        exact ⟨h.1, q⟩
      · rw [if_neg e, if_neg fun z => e (h.1.trans z)]
        exact h
  · exact paired_app r (.cons ⟨rfl, q⟩ .nil)
theorem KR.mv {vs : List (Key × V)} {kvs : List (Key × PyData)} (r : KR G H vs kvs) (k : ∀ b o, G b → H b = some o → H' b = some o) (m : ∀ b, G b → G' b) : KR G' H' vs kvs := Paired.mono (fun _ _ q => ⟨q.1, Dq.mono k m _ _ q.2⟩) r
theorem KR.keys {vs : List (Key × V)} {kvs : List (Key × PyData)} (r : KR G H vs kvs) : vs.map (·.1) = kvs.map (·.1) := by
  induction r with
  | nil => rfl
  | cons h _ ih => rw [List.map_cons, List.map_cons, ih, h.1]
theorem dcell_at {k : Nat} {kvs : List (Key × PyData)} (X : Hx B G ρ c H) (q : Sh K w B G ρ H v (.c k)) (h : c[k]? = some (.m kvs)) : ∃ p vs, v = .ref p ∧ ρ[k]? = some p ∧ H p = some (.dK vs) ∧ KR G H vs kvs := by
  cases q with
  | c hp =>
    obtain ⟨p, hp', r⟩ := paired_get X.cells h
    rw [hp] at hp'
    cases hp'
    cases r with
    | m h r => exact ⟨_, _, rfl, hp, h, r⟩
/-- a key as data -/
def kD : Key → PyData
  | .inl i => .int i
  | .inr s => .str s
theorem kD_v {k : Key} (q : Dq G H v (kD k)) : v = kV k := by
  cases k with
  | inl i => exact dq_int q
  | inr s => exact dq_str q
theorem Dget {k : Nat} {kvs : List (Key × PyData)} {key : Key} {vx vy : V} (X : Hx B G ρ c H) (q : Sh K w B G ρ H vx (.c k)) (h : c[k]? = some (.m kvs)) (s : Sh K w B G ρ H vy (.d (kD key))) :
    ∃ a, vx = .ref a ∧ IsD H a ∧ ((DGet H a vy none ∧ valG kvs key = none) ∨ ∃ v d, DGet H a vy (some v) ∧ valG kvs key = some d ∧ Dq G H v d) := by
  obtain ⟨p, vs, rfl, hp, hd, r⟩ := dcell_at X q h
  cases s with
  | d s =>
    rw [kD_v s]
    refine ⟨p, rfl, .inl ⟨vs, .inl hd⟩, ?_⟩
    have g := DGet.k (k := key) hd
    rcases r.val key with ⟨e1, e2⟩ | ⟨a, b, e1, e2, e3⟩
    · rw [e1] at g
      exact .inl ⟨g, e2⟩
    · rw [e1] at g
      exact .inr ⟨a, b, g, e2, e3⟩
theorem v_dget2 (h : VE K w td e c fun x c1 => ∃ k kvs0, x = .c k ∧ c1[k]? = some (.m kvs0) ∧ VE K w ty e c1 fun y c2 => VE K w tx e c2 fun z c3 => ∃ kvs key zd, c3[k]? = some (.m kvs) ∧ y = .d (kD key) ∧ z = .d zd ∧ Q (.d ((valG kvs key).getD zd)) c3) : VE K w (tDGet2 td ty tx) e c Q := by
  intro B G ρ σ H T X S kt
  refine h B G ρ σ H _ X S fun x vx c1 G1 ρ1 H1 E1 X1 s1 f1 ⟨k, kvs0, ex, hk, q1⟩ => ?_
  subst ex
  obtain ⟨p, vs, rfl, hp, hd, _⟩ := dcell_at X1 s1 hk
  refine ⟨p, rfl, .inl ⟨vs, .inl hd⟩, ?_⟩
  refine q1 B G1 ρ1 σ H1 _ X1 (E1.sl X S) fun y vy c2 G2 ρ2 H2 E2 X2 s2 f2 q2 => ?_
  have E12 := E1.trans E2
  refine q2 B G2 ρ2 σ H2 _ X2 (E12.sl X S) fun z vz c3 G3 ρ3 H3 E3 X3 s3 f3 ⟨kvs, key, zd, hk3, ey, ez, q3⟩ => ?_
  subst ey ez
  have E13 := E12.trans E3
  have sx := (E2.trans E3).sh X1 s1
  have sy := E3.sh X2 s2
  obtain ⟨a, ea, _, hg⟩ := Dget X3 sx hk3 sy
  cases ea
  cases s3 with
  | d s3 =>
    rcases hg with ⟨g, e0⟩ | ⟨v, d, g, e0, dq⟩
    · rw [e0] at q3
      exact ⟨none, g, kt.d E13 X3 s3 q3⟩
    · rw [e0] at q3
      exact ⟨some v, g, kt.d E13 X3 dq q3⟩
theorem v_dget (h : VE K w td e c fun x c1 => VE K w ty e c1 fun y c2 => ∃ k kvs key d, x = .c k ∧ c2[k]? = some (.m kvs) ∧ y = .d (kD key) ∧ valG kvs key = some d ∧ Q (.d d) c2) : VE K w (tDGet td ty) e c Q := by
  intro B G ρ σ H T X S kt
  refine h B G ρ σ H _ X S fun x vx c1 G1 ρ1 H1 E1 X1 s1 f1 q1 => ?_
  refine q1 B G1 ρ1 σ H1 _ X1 (E1.sl X S) fun y vy c2 G2 ρ2 H2 E2 X2 s2 f2 ⟨k, kvs, key, d, ex, hk, ey, hv, q2⟩ => ?_
  subst ex ey
  obtain ⟨a, ea, _, hg⟩ := Dget X2 (E2.sh X1 s1) hk s2
  rcases hg with ⟨_, e0⟩ | ⟨v, d', g, e0, dq⟩
  · rw [hv] at e0; cases e0
  · rw [hv] at e0
    cases e0
    exact ⟨a, v, ea, g, kt.d (E1.trans E2) X2 dq q2⟩
theorem w_niD {k : Nat} {kvs : List (Key × PyData)} {key : Key} (hk : c[k]? = some (.m kvs)) (q : Q (.d (.bool (!(valG kvs key).isSome))) c) : V2 K w uNiD (.d (kD key)) (.c k) c Q := by
  intro B G0 ρ0 H0 G ρ H vx vy T E X sx sy fx fy kt
  obtain ⟨a, ea, _, hg⟩ := Dget X sy hk sx
  rcases hg with ⟨g, e0⟩ | ⟨v, d', g, e0, dq⟩
  · rw [e0] at q; exact ⟨a, _, ea, g, kt.d E X (.bl _) q⟩
  · rw [e0] at q; exact ⟨a, _, ea, g, kt.d E X (.bl _) q⟩
/-- d[k] = v -/
theorem v_dput (h : VE K w tv e c fun u c1 => VE K w td e c1 fun x c2 => VE K w ty e c2 fun y c3 => ∃ k kvs key d, dat1 u = some d ∧ x = .c k ∧ c3[k]? = some (.m kvs) ∧ y = .d (kD key) ∧ kvs.length < sizeLine ∧ D.nx e (c3.set k (.m (putG kvs key d)))) : VS K w (sDPut td ty tv) e c D := by
  intro B G ρ σ H Dh X S L
  refine h B G ρ σ H _ X S fun u vu c1 G1 ρ1 H1 E1 X1 s1 f1 q1 => ?_
  refine q1 B G1 ρ1 σ H1 _ X1 (E1.sl X S) fun x vx c2 G2 ρ2 H2 E2 X2 s2 f2 q2 => ?_
  have E12 := E1.trans E2
  refine q2 B G2 ρ2 σ H2 _ X2 (E12.sl X S) fun y vy c3 G3 ρ3 H3 E3 X3 s3 f3 ⟨k, kvs, key, d, hd, ex, hk, ey, hl, q3⟩ => ?_
  subst ex ey
  have E13 := E12.trans E3
  obtain ⟨p, vs, rfl, hp, hdk, r⟩ := dcell_at X3 (E3.sh X2 s2) hk
  cases s3 with
  | d s3 =>
    have ekv := kD_v s3
    subst ekv
    have E23 := E2.trans E3
    obtain ⟨G4, E4, X4, g4, q4⟩ := (Dd.of (E23.sh X1 s1) f1 hd).data E13 X3
    have m := List.mem_of_getElem? hp
    refine ⟨p, _, rfl, DPut.k (k := key) hdk (by rw [Paired.length r]; exact hl), ?_⟩
    have kk : ∀ b o, G4 b → H3 b = some o → upd H3 p (.dK (putK vs key vu)) b = some o := fun b o g e => by rw [upd_ne fun z => X4.av p m (by rw [← z]; exact g)]; exact e
    have X5 := X4.mut hp (o := .dK (putK vs key vu)) (x := .m (putG kvs key d)) (.m upd_same (((r.mv (fun _ _ _ h => h) g4).put key q4).mv kk fun _ h => h))
    exact L.nx _ _ _ _ _ _ (E4.mut m) X5 ((E4.mut m).sl X S) q3
theorem w_sortedD {k : Nat} {kvs : List (Key × PyData)} {ks : List Str} (hk : c[k]? = some (.m kvs)) (e : kvs.map (·.1) = ks.map Sum.inr) (q : ∀ ys : List Str, ys.Perm ks → sortedS ys = true → Q (.o (ys.map .str)) c) : VX K w uSortedD [.c k] c Q := by
  intro B G0 ρ0 H0 G ρ H vs T E X sx fx kt
  obtain ⟨v, rfl, s⟩ := v1 sx
  obtain ⟨p, vs, rfl, hp, hd, r⟩ := dcell_at X s hk
  exact ⟨p, vs, ks, rfl, .inl hd, by rw [r.keys]; exact e, fun ys p pm so n => kt.l E X n (dqL_strs ys) (q ys pm so)⟩
end
end Gd
namespace Gd
open PySem PySem.Spec PyProof.Rows L2
def ofL (l : List Nat) : Str := ⟨l.toArray⟩
theorem tl_ofL (l : List Nat) : tl (ofL l) = l := rfl
theorem tl_inj {a b : Str} (h : tl a = tl b) : a = b := TL.ext_tl h
/-- a dict of texts -/
abbrev Dt := List (Str × Str)
def lookT (d : Dt) (t : Str) : Str := (valG d t).getD ""
def cellD (d : Dt) : List (Key × PyData) := d.map fun p => (.inr p.1, .str p.2)
theorem valG_cell (d : Dt) (t : Str) : valG (cellD d) (.inr t) = (valG d t).map .str := by
  unfold valG cellD
  induction d with
  | nil => rfl
  | cons p d ih =>
    rw [List.map_cons, List.find?_cons, List.find?_cons]
    by_cases e : p.1 = t
    · rw [show decide (p.1 = t) = true from decide_eq_true e, show decide ((Sum.inr p.1 : Key) = Sum.inr t) = true from decide_eq_true (by rw [e])]
      rfl
    · rw [show decide (p.1 = t) = false from decide_eq_false e, show decide ((Sum.inr p.1 : Key) = Sum.inr t) = false from decide_eq_false fun z => e (Sum.inr.inj z)]
      exact ih
theorem putG_cell (d : Dt) (t s : Str) : putG (cellD d) (.inr t) (.str s) = cellD (putG d t s) := by
  have a : ((cellD d).any fun kv => decide (kv.1 = Sum.inr t)) = d.any fun kv => decide (kv.1 = t) := by
    unfold cellD
    rw [List.any_map]
    congr 1
    funext p
    simp [Function.comp]
  unfold putG
  rw [a]
  split
  · unfold cellD
    rw [List.map_map, List.map_map]
    refine List.map_congr_left fun p _ => ?_
    show (if (Sum.inr p.1 : Key) = Sum.inr t then ((Sum.inr p.1 : Key), PyData.str s) else (Sum.inr p.1, .str p.2)) = (Sum.inr (if p.1 = t then (p.1, s) else p).1, .str (if p.1 = t then (p.1, s) else p).2)
    by_cases e : p.1 = t
    · rw [if_pos (by rw [e]), if_pos e]
    · rw [if_neg fun z => e (Sum.inr.inj z), if_neg e]
  · unfold cellD
    rw [List.map_append]
    rfl
section
variable {α κ : Type} [DecidableEq κ]
theorem valG_put (d : List (κ × α)) (k j : κ) (v : α) : valG (putG d k v) j = if j = k then some v else valG d j := by
  unfold putG
  by_cases h : (d.any fun kv => decide (kv.1 = k)) = true
  · rw [if_pos h]
    induction d with
    | nil => simp at h
    | cons p d ih =>
      unfold valG at *
      rw [List.map_cons, List.find?_cons, List.find?_cons]
      by_cases e : p.1 = k
      · rw [if_pos e]
        by_cases z : j = k
        · rw [show decide (((p.1, v) : κ × α).1 = j) = true from decide_eq_true (e.trans z.symm), if_pos z]
          rfl
        · rw [show decide (((p.1, v) : κ × α).1 = j) = false from decide_eq_false fun q => z (q.symm.trans e), if_neg z]
          rw [if_neg z] at ih
          have e3 : decide (p.1 = j) = false := decide_eq_false fun q => z (q.symm.trans e)
          simp only [e3]
          by_cases h2 : (d.any fun kv => decide (kv.1 = k)) = true
          · exact ih h2
          · have : (d.map fun kv => if kv.1 = k then (kv.1, v) else kv) = d := by
              rw [List.map_congr_left (g := id) fun q hq => ?_, List.map_id]
              rw [if_neg fun e => h2 (List.any_eq_true.mpr ⟨q, hq, decide_eq_true e⟩)]
              rfl
            rw [this]
      · rw [if_neg e]
        have h2 : (d.any fun kv => decide (kv.1 = k)) = true := by
          rw [List.any_cons, Bool.or_eq_true] at h
          exact h.resolve_left fun q => e (of_decide_eq_true q)
        by_cases z : p.1 = j
        · rw [show decide (p.1 = j) = true from decide_eq_true z, if_neg fun q => e (z.trans q)]
        · rw [show decide (p.1 = j) = false from decide_eq_false z]
          exact ih h2
  · rw [if_neg h]
    unfold valG
    rw [List.find?_append]
    by_cases z : j = k
    · have : d.find? (fun kv => decide (kv.1 = j)) = none := by
        rw [List.find?_eq_none]
        intro q hq e
        exact h (List.any_eq_true.mpr ⟨q, hq, by rw [← z]; exact e⟩)
      rw [this, if_pos z]
      simp [z]
    · rw [if_neg z]
      cases d.find? (fun kv => decide (kv.1 = j)) with
      | some q => rfl
      | none => simp [Ne.symm z]
theorem putG_keys (d : List (κ × α)) (k : κ) (v : α) : (putG d k v).map (·.1) = if (d.any fun kv => decide (kv.1 = k)) = true then d.map (·.1) else d.map (·.1) ++ [k] := by
  unfold putG
  split
  · rw [List.map_map]
    refine List.map_congr_left fun p _ => ?_
    show (if p.1 = k then (p.1, v) else p).1 = p.1
    split <;> rfl
  · simp
theorem any_key (d : List (κ × α)) (k : κ) : (d.any fun kv => decide (kv.1 = k)) = true ↔ k ∈ d.map (·.1) := by
  rw [List.any_eq_true, List.mem_map]
  constructor
  · rintro ⟨p, h, e⟩; exact ⟨p, h, of_decide_eq_true e⟩
  · rintro ⟨p, h, e⟩; exact ⟨p, h, decide_eq_true e⟩
theorem putG_nd {d : List (κ × α)} (h : (d.map (·.1)).Nodup) (k : κ) (v : α) : ((putG d k v).map (·.1)).Nodup := by
  rw [putG_keys]
  split
  · exact h
  · rename_i n
    rw [any_key] at n
    rw [List.nodup_append]
    exact ⟨h, by simp, fun a ha b hb e => n (by rw [List.mem_singleton.mp hb] at e; rw [← e]; exact ha)⟩
theorem putG_mem (d : List (κ × α)) (k j : κ) (v : α) : j ∈ (putG d k v).map (·.1) ↔ j ∈ d.map (·.1) ∨ j = k := by
  rw [putG_keys]
  split
  · rename_i n
    rw [any_key] at n
    constructor
    · exact .inl
    · rintro (h | h)
      · exact h
      · rw [h]; exact n
  · simp
theorem putG_len (d : List (κ × α)) (k : κ) (v : α) : (putG d k v).length ≤ d.length + 1 := by
  have := congrArg List.length (putG_keys d k v)
  rw [List.length_map] at this
  rw [this]
  split
  · rw [List.length_map]; omega
  · rw [List.length_append, List.length_map]; simp
theorem valG_mem {d : List (κ × α)} {k : κ} (h : k ∈ d.map (·.1)) : ∃ v, valG d k = some v := by
  unfold valG
  cases e : d.find? (fun kv => decide (kv.1 = k)) with
  | some q => exact ⟨_, rfl⟩
  | none =>
    rw [List.find?_eq_none] at e
    obtain ⟨p, hp, rfl⟩ := List.mem_map.mp h
    exact absurd (decide_eq_true rfl) (e p hp)
end
theorem lookT_put (d : Dt) (k j v : Str) : lookT (putG d k v) j = if j = k then v else lookT d j := by
  unfold lookT
  rw [valG_put]
  split <;> rfl
/-- the words' next letters behind a text, ascending -/
def lets (ws : List Str) (t : Str) : List Nat := (List.range' 97 26).filter fun a => ws.any fun w => (tl t ++ [a]).isPrefixOf (tl w)
/-- the texts ahead of a letter -/
def pfx (ws : List Str) : List Str := dedT (ws.flatMap fun w => (List.range w.length).map (cutT w))
def brs (ws : List Str) : List (Str × Str) := ((srt (pfx ws)).filter fun t => decide (1 < (lets ws t).length)).map fun t => (t, ofL (lets ws t))
/-- the letters as they come -/
def evs (ws : List Str) : List (Str × Nat) := ws.flatMap fun w => (List.range w.length).map fun l => (cutT w l, (tl w).getD l 0)
theorem tl_cutT (w : Str) (l : Nat) : tl (cutT w l) = (tl w).take l := by
  unfold cutT
  rw [cut_to _ (by omega), Int.toNat_natCast]
theorem evs_mem {ws : List Str} {t : Str} {a : Nat} : (t, a) ∈ evs ws ↔ ∃ w ∈ ws, (tl t ++ [a]).isPrefixOf (tl w) = true := by
  unfold evs
  rw [List.mem_flatMap]
  constructor
  · rintro ⟨w, hw, h⟩
    obtain ⟨l, hl, e⟩ := List.mem_map.mp h
    refine ⟨w, hw, ?_⟩
    have hl2 : l < (tl w).length := by rw [← TL.len_tl]; exact List.mem_range.mp hl
    obtain ⟨e1, e2⟩ := Prod.mk.inj e
    rw [← e1, ← e2, tl_cutT, List.isPrefixOf_iff_prefix, List.getD_eq_getElem?_getD, List.getElem?_eq_getElem hl2]
    refine ⟨(tl w).drop (l + 1), ?_⟩
    show (tl w).take l ++ [(tl w)[l]] ++ (tl w).drop (l + 1) = tl w
    rw [List.append_assoc, List.singleton_append, List.getElem_cons_drop, List.take_append_drop]
  · rintro ⟨w, hw, h⟩
    rw [List.isPrefixOf_iff_prefix] at h
    obtain ⟨r, hr⟩ := h
    have hlen : (tl t).length < w.length := by
      rw [TL.len_tl]
      show (tl t).length < (tl w).length
      rw [← hr]
      simp only [List.length_append, List.length_cons, List.length_nil]
      omega
    refine ⟨w, hw, List.mem_map.mpr ⟨(tl t).length, List.mem_range.mpr hlen, ?_⟩⟩
    refine Prod.ext (tl_inj ?_) ?_
    · show tl (cutT w (tl t).length) = tl t
      rw [tl_cutT, ← hr, List.append_assoc, List.take_left]
    · show (tl w).getD (tl t).length 0 = a
      rw [← hr, List.append_assoc, List.getD_eq_getElem?_getD, List.getElem?_append_right (Nat.le_refl _)]
      simp
theorem evs_keys (ws : List Str) : (evs ws).map (·.1) = ws.flatMap fun w => (List.range w.length).map (cutT w) := by
  unfold evs
  rw [List.map_flatMap]
  congr 1
  funext w
  rw [List.map_map]
  rfl
/-- words of small letters -/
def Low (ws : List Str) : Prop := ∀ w ∈ ws, ∀ a ∈ tl w, 97 ≤ a ∧ a ≤ 122
theorem lets_mem {ws : List Str} (hl : Low ws) {t : Str} {a : Nat} : a ∈ lets ws t ↔ (t, a) ∈ evs ws := by
  rw [evs_mem]
  unfold lets
  rw [List.mem_filter, List.any_eq_true]
  constructor
  · rintro ⟨_, h⟩; exact h
  · rintro ⟨w, hw, h⟩
    refine ⟨?_, w, hw, h⟩
    rw [List.isPrefixOf_iff_prefix] at h
    have := hl w hw a (h.subset (by simp))
    rw [List.mem_range'_1]
    omega
theorem lets_pw (ws : List Str) (t : Str) : (lets ws t).Pairwise (· < ·) := (List.pairwise_lt_range' (s := 97) (n := 26) (step := 1) (by omega)).filter _
theorem asc_eq {a b : List Nat} (ha : a.Pairwise (· < ·)) (hb : b.Pairwise (· < ·)) (h : ∀ x, x ∈ a ↔ x ∈ b) : a = b := by
  have na : a.Nodup := ha.imp fun h => Nat.ne_of_lt h
  have nb : b.Nodup := hb.imp fun h => Nat.ne_of_lt h
  have pm : a.Perm b := (List.perm_ext_iff_of_nodup na nb).mpr h
  exact List.Perm.eq_of_pairwise (le := (· < ·)) (fun x y _ _ h1 h2 => absurd h1 (Nat.lt_asymm h2)) ha hb pm
/-- a dict that holds what has come -/
structure Hold (d : Dt) (E : List (Str × Nat)) : Prop where
  nd : (d.map (·.1)).Nodup
  keys : ∀ t, t ∈ d.map (·.1) ↔ t ∈ E.map (·.1)
  lets : ∀ t a, a ∈ tl (lookT d t) ↔ (t, a) ∈ E
/-- the program's turn -/
def stepP (d : Dt) (x : Str × Nat) : Dt := if (tl (lookT d x.1)).getLast? = some x.2 then d else putG d x.1 (lookT d x.1 ++ ⟨#[x.2]⟩)
theorem hold_put {d : Dt} {E : List (Str × Nat)} (h : Hold d E) (t : Str) (a : Nat) {s : Str} (hs : ∀ b, b ∈ tl s ↔ b ∈ tl (lookT d t) ∨ b = a) : Hold (putG d t s) (E ++ [(t, a)]) := by
  refine ⟨putG_nd h.nd _ _, fun j => ?_, fun j b => ?_⟩
  · rw [putG_mem, h.keys, List.map_append, List.mem_append]
    simp
  · rw [lookT_put]
    by_cases e : j = t
    · rw [if_pos e, hs, e, h.lets, List.mem_append]
      simp
    · rw [if_neg e, h.lets, List.mem_append]
      simp [e]
theorem hold_same {d : Dt} {E : List (Str × Nat)} (h : Hold d E) {t : Str} {a : Nat} (hm : (t, a) ∈ E) : Hold d (E ++ [(t, a)]) := by
  refine ⟨h.nd, fun j => ?_, fun j b => ?_⟩
  · rw [h.keys, List.map_append, List.mem_append]
    constructor
    · exact .inl
    · rintro (q | q)
      · exact q
      · have : j = t := by simpa using q
        rw [this]
        exact List.mem_map.mpr ⟨_, hm, rfl⟩
  · rw [h.lets, List.mem_append]
    constructor
    · exact .inl
    · rintro (q | q)
      · exact q
      · rw [List.mem_singleton.mp q]; exact hm
/-- letters ascend behind each text -/
def Asc (E : List (Str × Nat)) : Prop := E.Pairwise fun x y => x.1 = y.1 → x.2 ≤ y.2
structure HoldA (d : Dt) (E : List (Str × Nat)) : Prop extends Hold d E where
  pw : ∀ t, (tl (lookT d t)).Pairwise (· < ·)
theorem stepP_ok {d : Dt} {E : List (Str × Nat)} (h : HoldA d E) {x : Str × Nat} (ha : ∀ y ∈ E, y.1 = x.1 → y.2 ≤ x.2) : HoldA (stepP d x) (E ++ [x]) := by
  obtain ⟨t, a⟩ := x
  unfold stepP
  by_cases c : (tl (lookT d t)).getLast? = some a
  · rw [if_pos c]
    have hm : (t, a) ∈ E := (h.lets t a).mp (List.mem_of_getLast? c)
    exact ⟨hold_same h.toHold hm, h.pw⟩
  · rw [if_neg c]
    have hmem : ∀ b, b ∈ tl (lookT d t ++ ⟨#[a]⟩) ↔ b ∈ tl (lookT d t) ∨ b = a := fun b => by rw [mem_app, mem_one]
    refine ⟨hold_put h.toHold t a hmem, fun j => ?_⟩
    rw [lookT_put]
    by_cases e : j = t
    · rw [if_pos e, show tl (lookT d t ++ ⟨#[a]⟩) = tl (lookT d t) ++ [a] from TL.tl_append _ _]
      rw [List.pairwise_append]
      refine ⟨h.pw t, by simp, fun b hb z hz => ?_⟩
      rw [List.mem_singleton.mp hz]
      have le := ha (t, b) ((h.lets t b).mp hb) rfl
      refine Nat.lt_of_le_of_ne le fun e2 => c ?_
      subst e2
      -- b is the last
      obtain ⟨l, r, hlr⟩ := List.append_of_mem hb
      have pw := h.pw t
      rw [hlr, List.pairwise_append] at pw
      have hr : r = [] := by
        cases r with
        | nil => rfl
        | cons y r =>
          have lt := (List.pairwise_cons.mp pw.2.1).1 y (by simp)
          have := ha (t, y) ((h.lets t y).mp (by rw [hlr]; simp)) rfl
          exact absurd lt (Nat.not_lt.mpr this)
      rw [hlr, hr]
      simp
    · rw [if_neg e]
      exact h.pw j
theorem fold_ok : ∀ (F E : List (Str × Nat)) (d : Dt), HoldA d E → Asc (E ++ F) → HoldA (F.foldl stepP d) (E ++ F)
  | [], E, d, h, _ => by simpa using h
  | x :: F, E, d, h, a => by
    rw [List.foldl_cons]
    have e : E ++ x :: F = (E ++ [x]) ++ F := by simp
    rw [e] at a ⊢
    refine fold_ok F (E ++ [x]) _ (stepP_ok h fun y hy e => ?_) a
    have := (List.pairwise_append.mp (List.pairwise_append.mp a).1).2.2 y hy x (by simp) e
    exact this
theorem lookT_nil (t : Str) : tl (lookT [] t) = [] := by
  show tl ("" : Str) = []
  decide +kernel
theorem hold_nil : HoldA [] [] := ⟨⟨by simp, by simp, fun t a => by rw [lookT_nil]; simp⟩, fun t => by rw [lookT_nil]; exact .nil⟩
theorem lex_at (p : List Nat) {a b : Nat} {r r' : List Nat} (h : a < b) : p ++ ([a] ++ r) < p ++ (b :: r') := by
  induction p with
  | nil => exact List.Lex.rel h
  | cons x p ih => exact List.Lex.cons ih
theorem asc_srt (ws : List Str) : Asc (evs (srt ws)) := by
  have key : ∀ l : List Str, (l.Pairwise fun a b => ¬ (tl b < tl a)) → Asc (evs l) := by
    intro l
    induction l with
    | nil => intro _; exact .nil
    | cons w l ih =>
      intro h
      obtain ⟨h1, h2⟩ := List.pairwise_cons.mp h
      show Asc (((List.range w.length).map fun i => (cutT w i, (tl w).getD i 0)) ++ evs l)
      unfold Asc
      rw [List.pairwise_append]
      refine ⟨?_, ih h2, fun x hx y hy e => ?_⟩
      · rw [List.pairwise_map]
        refine List.Pairwise.imp_of_mem (R := (· < ·)) (fun {i j} hi hj lt e => ?_) List.pairwise_lt_range
        exfalso
        have e2 := congrArg Str.length e
        rw [cutT_len (Nat.le_of_lt (List.mem_range.mp hi)), cutT_len (Nat.le_of_lt (List.mem_range.mp hj))] at e2
        omega
      · obtain ⟨i, hi, rfl⟩ := List.mem_map.mp hx
        obtain ⟨t, a⟩ := y
        obtain ⟨w', hw', hp⟩ := evs_mem.mp hy
        have hi2 : i < (tl w).length := by rw [← TL.len_tl]; exact List.mem_range.mp hi
        have et : tl t = (tl w).take i := by
          have : cutT w i = t := e
          rw [← this, tl_cutT]
        show (tl w).getD i 0 ≤ a
        rw [List.getD_eq_getElem?_getD, List.getElem?_eq_getElem hi2]
        show (tl w)[i] ≤ a
        refine Nat.not_lt.mp fun lt => h1 w' hw' ?_
        rw [List.isPrefixOf_iff_prefix] at hp
        obtain ⟨r, hr⟩ := hp
        have ew : tl w = (tl w).take i ++ ((tl w)[i] :: (tl w).drop (i + 1)) := by
          rw [← List.drop_eq_getElem_cons hi2, List.take_append_drop]
        rw [← hr, et, List.append_assoc]
        rw (config := { occs := .pos [2] }) [ew]
        exact lex_at _ lt
  exact key _ (srt_pw ws)
theorem evs_perm {ws us : List Str} (p : us.Perm ws) : ∀ x, x ∈ evs us ↔ x ∈ evs ws := fun x => (p.flatMap_right _).mem_iff
/-- what the program's dict is in the end -/
theorem folded (ws : List Str) (hl : Low ws) : let d := (evs (srt ws)).foldl stepP []
    (d.map (·.1)).Perm (pfx ws) ∧ ∀ t, lookT d t = ofL (lets ws t) := by
  intro d
  have h := fold_ok (evs (srt ws)) [] [] hold_nil (by simpa using asc_srt ws)
  rw [List.nil_append] at h
  refine ⟨(List.perm_ext_iff_of_nodup h.nd (dedT_nodup _)).mpr fun t => ?_, fun t => tl_inj (asc_eq (h.pw t) (lets_pw ws t) fun a => ?_)⟩
  · rw [h.keys]
    show t ∈ (evs (srt ws)).map (·.1) ↔ t ∈ dedT _
    rw [dedT_mem, evs_keys]
    exact (((srt_perm ws).flatMap_right _).mem_iff)
  · rw [h.lets, tl_ofL, lets_mem hl, evs_perm (srt_perm ws)]
end Gd
namespace Gd
open PySem PySem.Spec PyProof.Rows L2
theorem ends_one (s : Str) (a : Nat) : Txt.endswith s ⟨#[a]⟩ = decide ((tl s).getLast? = some a) := by
  rw [Bool.eq_iff_iff, decide_eq_true_eq]
  unfold Txt.endswith
  rw [StrLaws.subAt_eq, Bool.and_eq_true, decide_eq_true_eq, beq_iff_eq]
  show 0 + 1 ≤ s.length ∧ ((tl s).drop (s.length - 1)).take 1 = [a] ↔ _
  rw [show s.length = (tl s).length from TL.len_tl s]
  rcases List.eq_nil_or_concat (tl s) with e | ⟨ys, v, e⟩
  · rw [e]; simp
  · rw [e]; simp
/-- what the words' texts and letters are, as data -/
def brD (p : Str × Str) : PyData := .tuple [.str p.1, .str p.2]
theorem evs_app (ws us : List Str) : evs (ws ++ us) = evs ws ++ evs us := by
  unfold evs
  rw [List.flatMap_append]
theorem stepP_len (d : Dt) (x : Str × Nat) : (stepP d x).length ≤ d.length + 1 := by
  unfold stepP
  split
  · omega
  · exact putG_len _ _ _
theorem foldP_len : ∀ (E : List (Str × Nat)) (d : Dt), (E.foldl stepP d).length ≤ d.length + E.length
  | [], d => by simp
  | x :: E, d => by
    rw [List.foldl_cons, List.length_cons]
    have := foldP_len E (stepP d x)
    have := stepP_len d x
    omega
theorem lookP_len : ∀ (E : List (Str × Nat)) (d : Dt) (t : Str), (lookT (E.foldl stepP d) t).length ≤ (lookT d t).length + E.length
  | [], d, t => by simp
  | x :: E, d, t => by
    rw [List.foldl_cons, List.length_cons]
    have h1 := lookP_len E (stepP d x) t
    have h2 : (lookT (stepP d x) t).length ≤ (lookT d t).length + 1 := by
      unfold stepP
      split
      · omega
      · rw [lookT_put]
        split
        · rename_i e
          rw [len_app, len_one, e]
          omega
        · omega
    omega
theorem lets_len (ws : List Str) (t : Str) : (lets ws t).length ≤ 26 := by
  have := List.length_filter_le (fun a => ws.any fun w => (tl t ++ [a]).isPrefixOf (tl w)) (List.range' 97 26)
  rw [List.length_range'] at this
  exact this
theorem evs_len {ws : List Str} (h : ∀ w ∈ ws, w.length ≤ 12) : (evs ws).length ≤ 12 * ws.length := by
  unfold evs
  induction ws with
  | nil => simp
  | cons w ws ih =>
    rw [List.flatMap_cons, List.length_append, List.length_map, List.length_range, List.length_cons]
    have h1 := h w (by simp)
    have h2 := ih fun x hx => h x (by simp [hx])
    omega
theorem pfx_len {ws : List Str} (h : ∀ w ∈ ws, w.length ≤ 12) : (pfx ws).length ≤ 12 * ws.length := by
  refine Nat.le_trans (dedT_len _) ?_
  have := evs_len h
  rw [← evs_keys, List.length_map]
  exact this
section
variable {c : Cs} {e : Ev} {K : PySem.W.Frag} {w : World}
theorem dg2_c {k : Nat} {kvs : List (Key × PyData)} {P : Nat → List (Key × PyData) → Prop} (h : c[k]? = some (.m kvs)) (q : P k kvs) : ∃ k' kvs0, W.c k = .c k' ∧ c[k']? = some (.m kvs0) ∧ P k' kvs0 := ⟨k, kvs, rfl, h, q⟩
end
end Gd
namespace Gd
open PySem PySem.Spec PyProof.Rows L2
section
variable {X : Cx} {K : PySem.W.Frag} {w : World}
def uSort (K : PySem.W.Frag) (w : World) : List V → Hp → VK → Prop := fun xs H Q => uSorted K w xs H Q ∨ (uSortedD xs H Q ∨ (uSortedStr xs H Q ∨ rSortedI K xs H Q))
theorem cu_sort (hc : X.calm = true) : CallR X (.builtin "sorted") (uSort X.K X.w) := (cu_sorted hc).or ((cu_sortedD hc).or ((cu_sortedStr hc).or cr_sortedI))
theorem kcu_sort (hk : K = X.K) (hw : w = X.w) (hc : X.calm = true) : CallR X (.builtin "sorted") (uSort K w) := by
  subst hk hw
  exact cu_sort hc
end
section
variable {K : PySem.W.Frag} {w : World} {B G G' G'' G0 : Addr → Prop} {ρ ρ' ρ'' ρ0 : List Addr} {H H' H'' H0 : Hp} {c c' : Cs} {σ : L2.St} {e e' : Ev} {v vx vy : V} {u x y z : W} {us : List W}
variable {Q : W → Cs → Prop}
theorem VX.mono {r r' : List V → Hp → VK → Prop} (h : VX K w r us c Q) (m : ∀ vs H T, r vs H T → r' vs H T) : VX K w r' us c Q := by
  intro B G0 ρ0 H0 G ρ H vs T E X sx fx kt
  exact m _ _ _ (h B G0 ρ0 H0 G ρ H vs T E X sx fx kt)
theorem s_set {ks : List Str} (q : ∀ ys : List Str, ys.Perm ks → sortedS ys = true → Q (.o (ys.map .str)) c) : VX K w (uSort K w) [.set ks] c Q := (w_sortedS q).mono fun _ _ _ => .inl
theorem s_txt {ws : List Str} (h : Lv c x (ws.map .str)) (hz : ws.length ≤ 100000) (q : ∀ ys : List Str, ys.Perm ws → sortedS ys = true → Q (.o (ys.map .str)) c) : VX K w (uSort K w) [x] c Q := (w_sortedL h hz q).mono fun _ _ _ => .inl
theorem s_dict {k : Nat} {kvs : List (Key × PyData)} {ks : List Str} (hk : c[k]? = some (.m kvs)) (e : kvs.map (·.1) = ks.map Sum.inr) (q : ∀ ys : List Str, ys.Perm ks → sortedS ys = true → Q (.o (ys.map .str)) c) : VX K w (uSort K w) [.c k] c Q := (w_sortedD hk e q).mono fun _ _ _ h => .inr (.inl h)
end
def tParT (K : PySem.W.Frag) (b1 b2 : Bool) (i j : Nat) (t : TA) : TS := tAsg (tTup t) (gTup K 2 (gCons (gName i) (gCons (gName j) gNil)))
section
variable {X : Cx} {K : PySem.W.Frag} {w : World} {st : Stmt} {i j : Nat} {t : TA} {e : Ev} {c : Cs} {D : DV}
theorem PS.as_pT (b1 b2 : Bool) (h : PS X st (tAsg (tTup t) (gTup K 2 (gCons (gName i) (gCons (gName j) gNil))))) : PS X st (tParT K b1 b2 i j t) := h
theorem v_parT (b1 b2 : Bool) (h : VA K w t e c fun us c1 => ∃ x y, us = [x, y] ∧ D.nx (bind1 b2 j y (bind1 b1 i x (e, c1))).1 (bind1 b2 j y (bind1 b1 i x (e, c1))).2) : VS K w (tParT K b1 b2 i j t) e c D := by
  intro B G ρ σ H Dh X S L
  refine h B G ρ σ H _ X S fun us vs c1 G1 ρ1 H1 E1 X1 s1 f1 d1 ⟨x, y, e1, q1⟩ => ?_
  subst e1
  obtain ⟨v, v', rfl, sx, sy⟩ := v2 s1
  cases f1 with
  | cons fx f1 => cases f1 with
    | cons fy f1 =>
      obtain ⟨G2, ρ2, E2, st2, X2, S2, m2⟩ := bind1_ok b1 i E1 X1 (E1.sl X S) sx fx
      obtain ⟨G3, ρ3, E3, st3, X3, S3, m3⟩ := bind1_ok b2 j E2 X2 S2 (m2 sy fun a b => d1.1 a (v', y) (by simp) b) fy
      refine ⟨by show 2 ≤ sizeLine; rw [sizeLine_eq]; decide, fun p n => ⟨p, [v, v'], rfl, SqT.of upd_same, rfl, v, [v'], rfl, v', [], rfl, rfl, ?_⟩⟩
      exact L.nx _ _ _ _ _ _ (E3.trans (.new n)) (X3.new n) (Ext.sl X3 (.new n) S3) q1
/-- both ways of an expression joined by what they have in common -/
theorem ite_joinQ {te1 te2 : TE} {Q : W → Cs → Prop} {k : Bool} (J : W → Cs → Prop) (h1 : k = true → VE K w te1 e c J) (h2 : ¬ k = true → VE K w te2 e c J) (q : ∀ u c1, J u c1 → Q u c1) : if k = true then VE K w te1 e c Q else VE K w te2 e c Q := by
  split
  · exact (h1 ‹_›).mono q
  · exact (h2 ‹_›).mono q
end
end Gd
namespace Gd
open PySem PySem.Spec PyProof.Rows L2
end Gd
namespace Gd
open PySem PySem.Spec PyProof.Rows L2
def dfV : PyData → V
  | .int i => .int i
  | .bool b => .bl b
  | _ => .non
def okD : PyData → Bool
  | .int _ => true
  | .bool _ => true
  | .none => true
  | _ => false
structure GKM (P : Program) (w : World) (K : PySem.W.Frag) (mg : Str → Option Value) (base : Heap) (k : Nat) (x : Str) (n : Nat) (ks : List Str) (ix : List Nat) (dds : List PyData) (sp : Sp) : Prop where
  ex : ∃ (f : Addr) (fd : FuncData) (ps : List Str) (ds : List Value), mg x = some (.ref f) ∧ PySem.W.keepIn K (.ref f) = true ∧ Vals (dds.map dfV) ds ∧
    (∀ (s : Shared) (us ws : List Value), K.In s.heap → us.length = n → ws.length = ks.length → BindsTo s fd ⟨us, ks.zip ws⟩ (ps.zip (pickU ix (us ++ ws ++ ds)))) ∧ GFn P w K mg base CX0 k f fd ps sp
def tKM (n m : Nat) (ix : List Nat) (dds : List PyData) (sp : Sp) (t tk : TA) : TE := fun σ H Q => t σ H fun vs H1 => tk σ H1 fun zs H2 => vs.length = n ∧ zs.length = m ∧ sp (pickV ix (vs ++ zs ++ dds.map dfV)) H2 Q E0
section
variable {X : Cx} {j k n : Nat} {sp : Sp} {x : Str} {p pos : Pos} {kws : List Keyword} {ks : List Str} {ix : List Nat} {t tk : TA} {dds : List PyData} {e : Expr} {es : List Expr}
theorem run_gkm {pins : List (Addr × Obj)} {σ : L2.St} {H : Hp} {s : Shared} {Q : VK} {us ws : List Value} {vs zs : List V} {f : Addr} {fd : FuncData} {ps : List Str} {ds : List Value}
    (F : GFn X.prog X.w X.K X.mg X.base CX0 k f fd ps sp) (gd : X.A.guards = some []) (hr : Room j X.A) (hk : k ≤ j) (rd : Vals (dds.map dfV) ds)
    (hb : ∀ (s : Shared) (us ws : List Value), X.K.In s.heap → us.length = n → ws.length = ks.length → BindsTo s fd ⟨us, ks.zip ws⟩ (ps.zip (pickU ix (us ++ ws ++ ds))))
    (I : Inv X pins σ H s) (r : Vals vs us) (rz : Vals zs ws) (l1 : vs.length = n) (l2 : zs.length = ks.length) (q : sp (pickV ix (vs ++ zs ++ dds.map dfV)) H Q E0) :
    wpAny (model X.prog X.w) X.A (call (.ref f) us (ks.zip ws)) (EP X pins σ Q) X.xe s := by
  refine wpAny_call (codeAny_mono (F.go X.A X.stack s H ⟨us, ks.zip ws⟩ _ _ Q E0 gd (hr.mono hk) I.env0 (hb s us ws I.kIn (by rw [← r.length, l1]) (by rw [← rz.length, l2])) (pick_rel ix ((r.append rz).append rd)) q) fun c s' hq => ?_)
  match c, hq with
  | .ok (.ret u), hq => exact I.after hq
  | .ok .next, hq => exact hq.elim
  | .ok .brk, hq => exact hq.elim
  | .ok .cont, hq => exact hq.elim
  | .error e, hq => exact pass0 pins σ H s e s' I hq
theorem pe_gkmp (cc : GKM X.prog X.w X.K X.mg X.base k x n [] ix dds sp) (gd : X.A.guards = some []) (hr : Room j X.A) (hk : k ≤ j) (hg : Gl X x) (ha : PA X (e :: es) t)
    (hdb : (x == ("__debug__" : Str)) = false := by decide)
    (he : starEach (e :: es) X.env = (false, eval e X.env) :: starEach es X.env := by rfl)
    (hpl : (backTo pos (starEach es X.env)).any (·.1) = false := by rfl) :
    PE X (.Call (.Name x p) (e :: es) [] pos) (tKM n 0 ix dds sp t tNil) := by
  obtain ⟨f, fd, ps, ds, h1, h2, rd, hb, F⟩ := cc.ex
  refine ⟨fun pins s σ H Q I h => wpAny_Call_Name_kw (ld_glob I hg h1 ?_ hdb)⟩
  refine PySem.W.callWith_K (h₀ := X.base) I.ok.mod.kin h2 (thn (ha.run pos pins s σ H _ I h) ?_) he hpl
  rintro us s1 ⟨vs, H1, I1, r, l1, l2, q⟩
  exact ⟨I1.kIn, run_gkm F gd hr hk rd hb I1 r .nil l1 l2 q⟩
end
section
variable {K : PySem.W.Frag} {w : World} {B G G' G'' G0 : Addr → Prop} {ρ ρ' ρ'' ρ0 : List Addr} {H H' H'' H0 : Hp} {c c' : Cs} {σ : L2.St} {e e' : Ev} {v vx vy : V} {u u2 x y : W}
variable {Q : W → Cs → Prop} {t tk : TA} {sp : SpV} {n m : Nat} {ix : List Nat} {dds : List PyData}
theorem dfV_sh {d : PyData} (h : okD d = true) : Sh K w B G ρ H (dfV d) (.d d) := by
  cases d with
  | none => exact .d .non
  | bool b => exact .d (.bl b)
  | int i => exact .d (.int i)
  | _ => cases h
theorem dfV_shs : ∀ {dds : List PyData}, dds.all okD = true → Paired (Sh K w B G ρ H) (dds.map dfV) (dds.map W.d)
  | [], _ => .nil
  | d :: ds, h => by
    rw [List.all_cons, Bool.and_eq_true] at h
    exact .cons (dfV_sh h.1) (dfV_shs h.2)
theorem v_callM (h : VA K w t e c fun us c1 => VA K w tk e c1 fun zs c2 => us.length = n ∧ zs.length = m ∧ dds.all okD = true ∧ ∃ us', trs c2 (pickW ix (us ++ zs ++ dds.map W.d)) = some us' ∧ sp us' [] fun u _ => u.res = true ∧ Q u c2) : VE K w (tKM n m ix dds (lift K w sp) t tk) e c Q := by
  intro B G ρ σ H T X S k
  refine h B G ρ σ H _ X S fun us vs c1 G1 ρ1 H1 E1 X1 s1 f1 d1 q1 => ?_
  refine q1 B G1 ρ1 σ H1 _ X1 (E1.sl X S) fun zs vs2 c2 G2 ρ2 H2 E2 X2 s2 f2 d2 ⟨hn, hm, hd, us', hu, q⟩ => ?_
  refine ⟨by rw [Paired.length s1]; exact hn, by rw [Paired.length s2]; exact hm, ?_⟩
  exact lift0 k (E1.trans E2) X2 (pick_sh ix (paired_app (paired_app (E2.shs X1 s1) s2) (dfV_shs hd))) hu q
end
end Gd
namespace Gd
open PySem PySem.Spec PyProof.Rows L2
def wZA (K : PySem.W.Frag) (R : It → Hp → Prop) (vs : List V) (H1 : Hp) : Prop := ∃ a b xs ys, vs = [.ref a, .ref b] ∧ ((SqL K H1 a xs ∧ SqL K H1 b ys ∧ R (Itz K a b) H1) ∨ (SqT K H1 a xs ∧ SqT K H1 b ys ∧ R (RZ.ItzT K a b) H1))
section
variable {X : Cx} {K : PySem.W.Frag} (h : X.K = K) {e : Expr} {t : TA}
include h
theorem kpi_zipA {e2 : Expr} {p pos tpos : Pos} {elts : List Expr} {kk : Nat} (hg : Gl X "zip")
    (hm : X.mg "zip" = none) (ha : PA X [e, e2] t)
    (hs : starEach [e, e2] X.env = (false, eval e X.env) :: starEach [e2] X.env := by rfl)
    (hpl : (backTo pos (starEach [e2] X.env)).any (·.1) = false := by rfl) :
    PI X (.Tuple elts kk tpos) (.Call (.Name "zip" p) [e, e2] [] pos) (RZ.iZipA K t) := by
  subst h
  exact RZ.pi_zipA hg hm ha hs hpl
end
section
variable {K : PySem.W.Frag} {w : World} {B G G' G'' G0 : Addr → Prop} {ρ ρ' ρ'' ρ0 : List Addr} {H H' H'' H0 : Hp} {c c' : Cs} {σ : L2.St} {e e' : Ev} {v vx vy : V} {u u2 x y : W}
variable {Q : W → Cs → Prop} {te : TE} {t : TA} {tt tt1 : TT} {g : TG} {ws : List Nat} {xs : List PyData}
theorem v_lcZA (h : VA K w t e c fun u c1 => VLA K w (wZA K) u e c1 g tt te ws Q) : VE K w (tLc (RZ.iZipA K t) g tt te ws) e c Q := by
  intro B G ρ σ H T X S k
  exact h B G ρ σ H _ X S fun u v c1 G1 ρ1 H1 E1 X1 s1 f1 d1 q1 => q1 B G ρ H G1 ρ1 σ H1 v T E1 X1 (E1.sl X S) s1 k
theorem it_zA {xs ys : List PyData} (h : Lv c u xs) (h' : Lv c u2 ys) : ItA K w (wZA K) [u, u2] c (min xs.length ys.length) (fun i d => ∃ a b, xs[i]? = some a ∧ ys[i]? = some b ∧ d = .tuple [a, b]) (fun c' => Lv c' u xs ∧ Lv c' u2 ys) := by
  intro B G ρ H vs X s0
  obtain ⟨J, GG, Y, h1, h2, h3, h4⟩ := it_z (w := w) (K := K) h h' B G ρ H vs X s0
  obtain ⟨v, v', rfl, s, s'⟩ := v2 s0
  obtain ⟨a, vs, rfl, a1, a2⟩ := h.seq X s
  obtain ⟨b, us, rfl, b1, b2⟩ := h'.seq X s'
  refine ⟨Itz K a b, _, _, walkZ (n := xs.length) (m := ys.length), fun R r => ⟨a, b, vs, us, rfl, .inl ⟨a1, b1, r⟩⟩, fun c' G' ρ' H' E X' kp => ?_, fun i x c' G' ρ' H' H'' E X' kp hi y => ?_⟩
  · obtain ⟨a', vs', e, h1', h2'⟩ := kp.1.seq X' (E.sh X s)
    cases e
    obtain ⟨b', us', e, g1', g2'⟩ := kp.2.seq X' (E.sh X s')
    cases e
    exact ⟨vs', us', h1', dql_len h2', g1', dql_len g2'⟩
  · obtain ⟨T, x, z, rfl, hT, rfl, y, y'⟩ := y
    obtain ⟨a', vs', e, h1', h2'⟩ := kp.1.seq X' (E.sh X s)
    cases e
    obtain ⟨b', us', e, g1', g2'⟩ := kp.2.seq X' (E.sh X s')
    cases e
    obtain ⟨d, e1, e2⟩ := DqL.get h2' (y vs' h1')
    obtain ⟨d', e1', e2'⟩ := DqL.get g2' (y' us' g1')
    exact ⟨_, ⟨d, d', e1, e1', rfl⟩, yv_tup X' hT (.cons e2 (.cons e2' .nil))⟩
theorem walkZT {a b : Addr} {n m : Nat} : Walk (RZ.ItzT K a b) (min n m) (fun H => ∃ vs us, SqT K H a vs ∧ vs.length = n ∧ SqT K H b us ∧ us.length = m) (fun i H v H' => ∃ T x y, v = .ref T ∧ H T = none ∧ H' = upd H T (.tup [x, y]) ∧ (∀ xs, SqT K H a xs → xs[i]? = some x) ∧ ∀ ys, SqT K H b ys → ys[i]? = some y) :=
  ⟨fun i _ hi ⟨vs, us, q, e, q', e'⟩ => ⟨vs, us, vs[i], us[i], q, q', by simp, by simp⟩, fun _ ⟨vs, us, q, e, q', e'⟩ => ⟨vs, us, q, q', by omega⟩, fun _ _ _ _ _ _ y => y⟩
theorem tup_seq (q : Sh K w B G ρ H v (.d (.tuple xs))) : ∃ a vs, v = .ref a ∧ SqT K H a vs ∧ DqL G H vs xs := by
  cases q with
  | d q =>
    cases q with
    | tup n h r => exact ⟨_, _, rfl, SqT.of h, r⟩
theorem it_zT {xs ys : List PyData} : ItA K w (wZA K) [.d (.tuple xs), .d (.tuple ys)] c (min xs.length ys.length) (fun i d => ∃ a b, xs[i]? = some a ∧ ys[i]? = some b ∧ d = .tuple [a, b]) (fun c' => True) := by
  intro B G ρ H vs X s0
  obtain ⟨v, v', rfl, s, s'⟩ := v2 s0
  obtain ⟨a, vs, rfl, a1, a2⟩ := tup_seq s
  obtain ⟨b, us, rfl, b1, b2⟩ := tup_seq s'
  refine ⟨RZ.ItzT K a b, _, _, walkZT (n := xs.length) (m := ys.length), fun R r => ⟨a, b, vs, us, rfl, .inr ⟨a1, b1, r⟩⟩, fun c' G' ρ' H' E X' kp => ?_, fun i x c' G' ρ' H' H'' E X' kp hi y => ?_⟩
  · obtain ⟨a', vs', e, h1', h2'⟩ := tup_seq (E.sh X s)
    cases e
    obtain ⟨b', us', e, g1', g2'⟩ := tup_seq (E.sh X s')
    cases e
    exact ⟨vs', us', h1', dql_len h2', g1', dql_len g2'⟩
  · obtain ⟨T, x, z, rfl, hT, rfl, y, y'⟩ := y
    obtain ⟨a', vs', e, h1', h2'⟩ := tup_seq (E.sh X s)
    cases e
    obtain ⟨b', us', e, g1', g2'⟩ := tup_seq (E.sh X s')
    cases e
    obtain ⟨d, e1, e2⟩ := DqL.get h2' (y vs' h1')
    obtain ⟨d', e1', e2'⟩ := DqL.get g2' (y' us' g1')
    exact ⟨_, ⟨d, d', e1, e1', rfl⟩, yv_tup X' hT (.cons e2 (.cons e2' .nil))⟩
end
section
variable {K : PySem.W.Frag} {w : World} {c : Cs} {Q : W → Cs → Prop} {x y : W}
theorem w_isi2T {t A B : String} (h : Tw c x t) (n : (isi t A || isi t B) = true) (q : Q (.d (.bool true)) c) (hA : A ∈ ["bool", "int", "str", "list", "tuple", "dict"] := by decide) (hB : B ∈ ["bool", "int", "str", "list", "tuple", "dict"] := by decide) : VX K w (uIsi2 K) [x, .tt A B] c Q := w_isi2 h (by rw [n]; exact q) hA hB
theorem w_isi2F {t A B : String} (h : Tw c x t) (n : (isi t A || isi t B) = false) (q : Q (.d (.bool false)) c) (hA : A ∈ ["bool", "int", "str", "list", "tuple", "dict"] := by decide) (hB : B ∈ ["bool", "int", "str", "list", "tuple", "dict"] := by decide) : VX K w (uIsi2 K) [x, .tt A B] c Q := w_isi2 h (by rw [n]; exact q) hA hB
theorem w_eqIs {a : Int} (q : Q (.d (.bool true)) c) : V2 K w (uEq K) (.d (.int a)) (.d (.int a)) c Q := w_eqI (by rw [decide_eq_true rfl]; exact q)
theorem w_eqBs {a : Bool} (q : Q (.d (.bool true)) c) : V2 K w (uEq K) (.d (.bool a)) (.d (.bool a)) c Q := w_eqB (by rw [show (a == a) = true by cases a <;> rfl]; exact q)
theorem w_neBs {a : Bool} (q : Q (.d (.bool false)) c) : V2 K w (uNe K) (.d (.bool a)) (.d (.bool a)) c Q := w_neB (by rw [show (!(a == a)) = false by cases a <;> rfl]; exact q)
theorem v_tupTT {e : Ev} {a b : String} (q : Q (.tt a b) c) : VE K w (tTup (tCons (tC (.ty a)) (tCons (tC (.ty b)) tNil))) e c Q := v_tupT (v_cons (v_ty (v_cons (v_ty (v_nil ⟨a, b, rfl, q⟩)))))
/-- over a zip of equal sequences: all items, each with itself -/
theorem vco_zs {wfA : (It → Hp → Prop) → List V → Hp → Prop} {ua : List W} {xs : List PyData} {keep : Cs → Prop} {e : Ev} {g : TG} {tt : TT} {te : TE} {ws : List Nat} (f : PyData → PyData)
    (it : ItA K w wfA ua c (min xs.length xs.length) (fun i d => ∃ a b, xs[i]? = some a ∧ xs[i]? = some b ∧ d = .tuple [a, b]) keep) (hk : keep c) (on : GOn ws g) (hz : xs.length < sizeLine)
    (hs : ∀ y ∈ xs, PTurn K w g tt te ws e c (.tuple [y, y]) (some (f y))) (q : Q (.o (xs.map f)) c) : VLA K w wfA ua e c g tt te ws Q :=
  vcoFA xs (fun y => .tuple [y, y]) (fun y => some (f y)) it (by omega) (fun i d hi ⟨a, b, ha, hb, e⟩ => ⟨a, ha, by rw [e]; rw [ha] at hb; cases hb; rfl⟩) hk on hz hs (by rw [fm_some]; exact q)
end
/-- what two equal values may be -/
def bw : PyData → W
  | .list xs => .b xs
  | x => .d x
def eqOk : Nat → PyData → Bool
  | 0, _ => false
  | d + 1, .list xs => xs.all (eqOk d) && decide (xs.length ≤ 100000)
  | d + 1, .tuple xs => xs.all (eqOk d) && decide (xs.length ≤ 100000)
  | _ + 1, .none => true
  | _ + 1, .bool _ => true
  | _ + 1, .int _ => true
  | _ + 1, .str s => PyData.strOk s
  | _ + 1, _ => false
theorem eqOk_lst {d : Nat} {xs : List PyData} (h : xs.all (eqOk d) = true) (hl : xs.length ≤ 100000) : eqOk (d + 1) (.list xs) = true := by
  rw [eqOk, h]; simpa using hl
end Gd
namespace Gd
open PySem PySem.Spec PyProof.Rows L2
inductive DxA (c : Cs) : List W → List PyData → Prop
  | nil : DxA c [] []
  | cons {u : W} {x : PyData} {us : List W} {xs : List PyData} (h : Dx c u x) (t : DxA c us xs) : DxA c (u :: us) (x :: xs)
section
variable {K : PySem.W.Frag} {w : World} {B G G' G'' G0 : Addr → Prop} {ρ ρ' ρ'' ρ0 : List Addr} {H H' H'' H0 : Hp} {c c' : Cs} {σ : L2.St} {e e' : Ev} {v vx vy : V} {u u2 x y : W}
variable {Q : W → Cs → Prop} {te : TE} {t : TA}
theorem Dx.dq2 (X : Hx B G ρ c H) (q : Sh K w B G ρ H v u) {x : PyData} (l : Dx c u x) : Dq (fun _ => True) H v x := by
  cases l with
  | d => cases q with | d q => exact q.imp fun _ _ => trivial
  | l h =>
    obtain ⟨a, vs, rfl, h1, h2⟩ := h.at X q
    exact .lst trivial h1 (h2.imp fun _ _ => trivial)
theorem DxA.dq (X : Hx B G ρ c H) {vs : List V} {us : List W} {xs : List PyData} (q : Paired (Sh K w B G ρ H) vs us) (l : DxA c us xs) : DqL (fun _ => True) H vs xs := by
  induction q generalizing xs with
  | nil => cases l; exact .nil
  | cons a t ih => cases l with | cons h r => exact .cons (h.dq2 X a) (ih r)
end
end Gd
namespace Gd
open PySem PySem.Spec PyProof.Rows L2
def cmL : List Nat → List Nat → Nat
  | a :: as, b :: bs => if a = b then cmL as bs + 1 else 0
  | _, _ => 0
def cm (x y : Str) : Nat := cmL (tl x) (tl y)
theorem cmL_comm : ∀ a b : List Nat, cmL a b = cmL b a
  | [], [] => rfl
  | [], _ :: _ => rfl
  | _ :: _, [] => rfl
  | x :: a, y :: b => by
    simp only [cmL]
    by_cases e : x = y
    · rw [if_pos e, if_pos e.symm, cmL_comm a b]
    · rw [if_neg e, if_neg (Ne.symm e)]
theorem cm_comm (x y : Str) : cm x y = cm y x := cmL_comm _ _
theorem cmL_le : ∀ a b : List Nat, cmL a b ≤ a.length
  | [], _ => by simp [cmL]
  | _ :: _, [] => by simp [cmL]
  | x :: a, y :: b => by
    have := cmL_le a b
    simp only [cmL, List.length_cons]
    split <;> omega
theorem cm_le (x y : Str) : cm x y ≤ x.length := by rw [TL.len_tl x]; exact cmL_le _ _
theorem cm_le2 (x y : Str) : cm x y ≤ y.length := by rw [cm_comm]; exact cm_le _ _
theorem cmL_take : ∀ (a b : List Nat) (l : Nat), l ≤ a.length → l ≤ b.length → (a.take l = b.take l ↔ l ≤ cmL a b)
  | a, b, 0, _, _ => by simp
  | [], b, l + 1, h, _ => by simp at h
  | x :: a, [], l + 1, _, h => by simp at h
  | x :: a, y :: b, l + 1, h1, h2 => by
    have ih := cmL_take a b l (by simpa using h1) (by simpa using h2)
    simp only [List.take_succ_cons, List.cons.injEq, cmL]
    by_cases e : x = y
    · rw [if_pos e, ih]; simp [e]
    · rw [if_neg e]; simp [e]
theorem cut_cm {x o : Str} {l : Nat} (hl : l ≤ x.length) : (cutT o l = cutT x l) ↔ l ≤ cm x o := by
  have h1 : ∀ z : Str, tl (cutT z l) = (tl z).take l := fun z => by
    unfold cutT
    rw [cut_to _ (by omega), Int.toNat_natCast]
  have e1 : (cutT o l = cutT x l) ↔ (tl o).take l = (tl x).take l := by
    rw [← h1, ← h1]
    exact ⟨fun h => by rw [h], fun h => TL.ext_tl h⟩
  rw [e1]
  have lx : (tl x).length = x.length := (TL.len_tl x).symm
  have lo : (tl o).length = o.length := (TL.len_tl o).symm
  by_cases h : l ≤ o.length
  · rw [cm_comm]
    exact cmL_take _ _ _ (by omega) (by omega)
  · constructor
    · intro e
      have := congrArg List.length e
      rw [List.length_take, List.length_take] at this
      omega
    · intro e
      have := cm_le2 x o
      omega
theorem sw_cm {x o : Str} {l : Nat} (hl : l ≤ x.length) : Txt.startswith o (cutT x l) = decide (l ≤ cm x o) := by
  rw [sw_take, cutT_len hl, decide_eq_decide]
  exact cut_cm hl
theorem cm_lt {x o : Str} (h : Txt.startswith o x = false) : cm x o < x.length := by
  have h2 := sw_cm (x := x) (o := o) (Nat.le_refl _)
  rw [cutT_all, h] at h2
  have := of_decide_eq_false h2.symm
  omega
/-- what stands behind a word decides how much of it is typed -/
theorem sug_split (A S : List Str) (x t : Str) : sug (A ++ x :: S) t = (sug S t).or (if Txt.startswith x t = true then some x else sug A t) := by
  unfold sug
  rw [List.reverse_append, List.reverse_cons, List.append_assoc, List.find?_append, List.find?_append]
  congr 1
  simp only [List.find?_cons, List.find?_nil]
  cases Txt.startswith x t <;> simp
theorem sug_none {S : List Str} {x : Str} {l : Nat} (hl : l ≤ x.length) : sug S (cutT x l) = none ↔ ∀ o ∈ S, cm x o < l := by
  unfold sug
  rw [List.find?_eq_none]
  constructor
  · intro h o ho
    have := h o (List.mem_reverse.mpr ho)
    rw [sw_cm hl] at this
    simpa using this
  · intro h o ho
    rw [sw_cm hl]
    simpa using h o (List.mem_reverse.mp ho)
theorem typed_last (A : List Str) (x : Str) : (typed (A ++ [x]) x).length = 0 := by
  have h : typed (A ++ [x]) x = cutT x 0 := typed_is (Nat.zero_le _) (fun i hi => by omega) fun _ => by
    rw [sug_split, sw_cm (Nat.zero_le _)]
    rfl
  rw [h, cutT_len (Nat.zero_le _)]
theorem typed_max {A S : List Str} {x : Str} (hx : x ∉ S) (nc : ∀ o ∈ S, Txt.startswith o x = false) {m : Nat} (h1 : ∃ o ∈ S, cm x o = m) (h2 : ∀ o ∈ S, cm x o ≤ m) : (typed (A ++ x :: S) x).length = m + 1 := by
  obtain ⟨o, ho, eo⟩ := h1
  have hm : m + 1 ≤ x.length := by rw [← eo]; exact cm_lt (nc o ho)
  have h : typed (A ++ x :: S) x = cutT x (m + 1) := typed_is hm (fun i hi e => by
    rw [sug_split] at e
    cases es : sug S (cutT x i) with
    | none =>
      have := (sug_none (by omega)).mp es o ho
      omega
    | some z =>
      rw [es] at e
      have ez : z = x := Option.some.inj e
      exact hx (ez ▸ sug_mem es)) fun _ => by
    have e0 : sug S (cutT x (m + 1)) = none := (sug_none hm).mpr fun o ho => by have := h2 o ho; omega
    rw [sug_split, e0, sw_cm hm, show decide (m + 1 ≤ cm x x) = true from decide_eq_true (by
      have := (cut_cm (x := x) (o := x) hm).mp rfl
      exact this)]
    rfl
  rw [h, cutT_len hm]
theorem split_at {α : Type} {ws : List α} {j : Nat} {x : α} (h : ws[j]? = some x) : ws = ws.take j ++ x :: ws.drop (j + 1) := by
  obtain ⟨hj, e⟩ := List.getElem?_eq_some_iff.mp h
  rw [← e, ← List.drop_eq_getElem_cons hj, List.take_append_drop]
theorem GFn.no0 {P : Program} {w : World} {K : PySem.W.Frag} {mg : Str → Option Value} {base : Heap} {CX : CXT} {k : Nat} {f : Addr} {fd : FuncData} {ps : List Str} {sp : SpV} (h : ∀ us c Q, ¬ sp us c Q) : GFn P w K mg base CX k f fd ps (lift K w sp) :=
  ⟨fun vs H Q E q => (by obtain ⟨_, _, _, _, _, _, _, _, _, q, _⟩ := q; exact absurd q (h _ _ _)), fun A outer s H args us vs Q E _ _ _ _ _ q => (by obtain ⟨_, _, _, _, _, _, _, _, _, q, _⟩ := q; exact absurd q (h _ _ _))⟩
end Gd
namespace Gd
open PySem PySem.Spec PyProof.Rows L2
section
variable {K : PySem.W.Frag} {w : World} {c : Cs} {e : Ev} {Q : W → Cs → Prop} {t : TA} {sp : SpV} {n : Nat}
theorem shs_stay {B G G' : Addr → Prop} {ρ ρ' : List Addr} {H H' : Hp} (h : Stay B G ρ H G' ρ' H') : ∀ {vs : List V} {us : List W}, us.all W.noO = true → Paired (Sh K w B G ρ H) vs us → Paired (Sh K w B G' ρ' H') vs us
  | _, _, _, .nil => .nil
  | _, _, n, .cons a t => by
    rw [List.all_cons, Bool.and_eq_true] at n
    exact .cons (h.sh a n.1) (shs_stay h n.2 t)
end
end Gd
namespace Gd
open PySem PySem.Spec PyProof.Rows L2
end Gd
namespace Gd
open PySem PySem.Spec PyProof.Rows L2
theorem low_of {ws : List Str} (h : ∀ w ∈ ws, isW w = true) : Low ws := fun w hw a ha => by
  have := h w hw
  simp only [isW, isT, Bool.and_eq_true, List.all_eq_true, low, decide_eq_true_eq] at this
  exact this.1.2 a ha
theorem brs_len {ws : List Str} (h : ∀ w ∈ ws, isW w = true) : (brs ws).length ≤ 12 * ws.length := by
  unfold brs
  rw [List.length_map]
  refine Nat.le_trans (List.length_filter_le _ _) ?_
  rw [srt_len]
  exact pfx_len fun w m => isW_len (h w m)
/-- the latest branch -/
def lat (ws : List Str) (t : Str) : Str := match sug ws t with
  | some o => ⟨#[(tl o).getD t.length 0]⟩
  | none => ""
def stt (ws : List Str) : List (Str × Str) := (brs ws).map fun p => (p.1, lat ws p.1)
theorem brs_mem {ws : List Str} {p : Str × Str} (h : p ∈ brs ws) : p.1 ∈ pfx ws ∧ 1 < (lets ws p.1).length ∧ p.2 = ofL (lets ws p.1) := by
  unfold brs at h
  obtain ⟨t, ht, rfl⟩ := List.mem_map.mp h
  obtain ⟨h1, h2⟩ := List.mem_filter.mp ht
  exact ⟨srt_mem.mp h1, of_decide_eq_true h2, rfl⟩
theorem sw_pre (o t : Str) : Txt.startswith o t = (tl t).isPrefixOf (tl o) := by
  rw [sw_take, Bool.eq_iff_iff, decide_eq_true_eq, List.isPrefixOf_iff_prefix]
  have e : tl (cutT o t.length) = (tl o).take (tl t).length := by rw [tl_cutT, show t.length = (tl t).length from TL.len_tl t]
  constructor
  · intro h
    rw [← h, e]
    exact List.take_prefix _ _
  · rintro ⟨r, hr⟩
    refine tl_inj ?_
    rw [e, ← hr, List.take_left]
/-- of words that begin with a text, some last one does -/
theorem sug_some {ws : List Str} {t : Str} {o : Str} (h : o ∈ ws) (p : (tl t).isPrefixOf (tl o) = true) : ∃ z, sug ws t = some z := by
  unfold sug
  cases e : ws.reverse.find? (fun o => Txt.startswith o t) with
  | some z => exact ⟨z, rfl⟩
  | none =>
    rw [List.find?_eq_none] at e
    exact absurd (by rw [sw_pre]; exact p) (e o (List.mem_reverse.mpr h))
theorem sug_pre {ws : List Str} {t o : Str} (h : sug ws t = some o) : (tl t).isPrefixOf (tl o) = true := by
  have := List.find?_some h
  rw [← sw_pre]
  exact this
/-- behind a branching every word that begins with it goes on -/
theorem br_long {ws : List Str} (hb : Gb ws) {t : Str} (h2 : 1 < (lets ws t).length) {o : Str} (ho : o ∈ ws) (hp : (tl t).isPrefixOf (tl o) = true) : t.length < o.length := by
  rw [List.isPrefixOf_iff_prefix] at hp
  obtain ⟨r, hr⟩ := hp
  have hlt : t.length ≤ o.length := by
    rw [TL.len_tl t, TL.len_tl o]
    show (tl t).length ≤ (tl o).length
    rw [← hr, List.length_append]
    omega
  refine Nat.lt_of_le_of_ne hlt fun e => ?_
  have hr0 : r = [] := by
    rw [TL.len_tl t, TL.len_tl o] at e
    have e2 : (tl t).length = (tl o).length := e
    rw [← hr, List.length_append] at e2
    exact List.eq_nil_of_length_eq_zero (by omega)
  have eo : o = t := tl_inj (by rw [← hr, hr0, List.append_nil])
  subst eo
  -- a letter behind it: a word that clashes
  obtain ⟨a, ha⟩ : ∃ a, a ∈ lets ws o := by
    cases hh : lets ws o with
    | nil => rw [hh] at h2; simp at h2
    | cons a l => exact ⟨a, by simp⟩
  rw [lets_mem (low_of hb.ok), evs_mem] at ha
  obtain ⟨w, hw, hp⟩ := ha
  rw [List.isPrefixOf_iff_prefix] at hp
  obtain ⟨r2, hr2⟩ := hp
  have ne : o ≠ w := fun e => by
    rw [← e] at hr2
    have := congrArg List.length hr2
    simp only [List.length_append, List.length_cons, List.length_nil] at this
    omega
  have := hb.nc o ho w hw ne
  rw [sw_pre] at this
  have c : (tl o).isPrefixOf (tl w) = true := by
    rw [List.isPrefixOf_iff_prefix]
    exact ⟨[a] ++ r2, by rw [← List.append_assoc]; exact hr2⟩
  rw [c] at this
  cases this
theorem pfx_mem {ws : List Str} {t : Str} (h : t ∈ pfx ws) : ∃ w ∈ ws, (tl t).isPrefixOf (tl w) = true ∧ t.length < w.length := by
  have h : t ∈ dedT (ws.flatMap fun w => (List.range w.length).map (cutT w)) := h
  rw [dedT_mem, List.mem_flatMap] at h
  obtain ⟨w, hw, hm⟩ := h
  obtain ⟨l, hl, rfl⟩ := List.mem_map.mp hm
  have hl2 := List.mem_range.mp hl
  refine ⟨w, hw, ?_, by rw [cutT_len (Nat.le_of_lt hl2)]; exact hl2⟩
  rw [tl_cutT, List.isPrefixOf_iff_prefix]
  exact List.take_prefix _ _
theorem tl_app (a b : Str) : tl (a ++ b) = tl a ++ tl b := TL.tl_append a b
/-- the order of the words makes no difference -/
theorem lets_perm {us ws : List Str} (h : ∀ x, x ∈ us ↔ x ∈ ws) (t : Str) : lets us t = lets ws t := by
  unfold lets
  refine List.filter_congr fun a _ => ?_
  rw [Bool.eq_iff_iff, List.any_eq_true, List.any_eq_true]
  exact ⟨fun ⟨x, m, e⟩ => ⟨x, (h x).mp m, e⟩, fun ⟨x, m, e⟩ => ⟨x, (h x).mpr m, e⟩⟩
theorem pfx_perm {us ws : List Str} (h : ∀ x, x ∈ us ↔ x ∈ ws) : (pfx us).Perm (pfx ws) := by
  unfold pfx
  refine (List.perm_ext_iff_of_nodup (dedT_nodup _) (dedT_nodup _)).mpr fun t => ?_
  rw [dedT_mem, dedT_mem, List.mem_flatMap, List.mem_flatMap]
  exact ⟨fun ⟨x, m, e⟩ => ⟨x, (h x).mp m, e⟩, fun ⟨x, m, e⟩ => ⟨x, (h x).mpr m, e⟩⟩
theorem brs_perm {us ws : List Str} (h : ∀ x, x ∈ us ↔ x ∈ ws) : brs us = brs ws := by
  unfold brs
  rw [srt_congr (pfx_perm h)]
  simp only [lets_perm h]
def pre (o t : Str) : Bool := (tl t).isPrefixOf (tl o)
theorem pre_iff {o t : Str} : pre o t = true ↔ tl t <+: tl o := List.isPrefixOf_iff_prefix
theorem sug_pr (ws : List Str) (t : Str) : sug ws t = ws.reverse.find? fun o => pre o t := by
  unfold sug
  congr 1
  funext o
  exact sw_pre o t
/-- one sign chosen behind each branching -/
def Choice (ws : List Str) (n : Nat) (st : List (Str × Str)) : Prop := st.length = n ∧ ∀ (i : Nat) (p s : Str × Str), (brs ws)[i]? = some p → st[i]? = some s → s.1 = p.1 ∧ ∃ a ∈ tl p.2, s.2 = ⟨#[a]⟩
abbrev IsSt (ws : List Str) (st : List (Str × Str)) : Prop := Choice ws (brs ws).length st
theorem IsSt.mem {ws : List Str} {st : List (Str × Str)} (h : IsSt ws st) (lo : Low ws) {q : Str × Str} (hq : q ∈ st) : ∃ p ∈ brs ws, q.1 = p.1 ∧ ∃ a, a ∈ tl p.2 ∧ q.2 = ⟨#[a]⟩ ∧ ∃ w ∈ ws, pre w (q.1 ++ q.2) = true := by
  obtain ⟨i, hi, e⟩ := List.getElem_of_mem hq
  have e2 : st[i]? = some q := by rw [List.getElem?_eq_getElem hi, e]
  have e1 := List.getElem?_eq_getElem (show i < (brs ws).length by rw [← h.1]; exact hi)
  obtain ⟨f1, a, ha, f2⟩ := h.2 i _ _ e1 e2
  have hm := List.mem_of_getElem? e1
  refine ⟨_, hm, f1, a, ha, f2, ?_⟩
  obtain ⟨_, _, h3⟩ := brs_mem hm
  rw [h3, tl_ofL, lets_mem lo, evs_mem] at ha
  obtain ⟨w, hw, hp⟩ := ha
  exact ⟨w, hw, by rw [f1, f2]; unfold pre; rw [tl_app]; exact hp⟩
end Gd
namespace Gd
open PySem PySem.Spec PyProof.Rows L2
structure FunE (K : PySem.W.Frag) (x qual : Str) (st : Stmt) (f : Addr) (fd : FuncData) : Prop where
  ex : ∃ (oc : Value) (od : Option Addr) (dV kV doc pm : Value) (an : Option Addr) (cdv ct : Value) (osl : Array (Option Value)),
    fd = PySem.W.fnOf x qual (defArgs st) (defBody st) (defScope st) dV kV doc pm an cdv ct ∧ K.lookup f = some ⟨oc, od, .func fd, osl⟩ ∧ PySem.W.codeIn K cdv qual = true
  kp : PySem.W.keepIn K (.ref f) = true
theorem fune_mk {K : PySem.W.Frag} {x qual : Str} {st : Stmt} {f : Addr} {oc : Value} {od an : Option Addr} {osl : Array (Option Value)} {dV kV doc pm cdv ct : Value} (l : K.lookup f = some ⟨oc, od, .func (PySem.W.fnOf x qual (defArgs st) (defBody st) (defScope st) dV kV doc pm an cdv ct), osl⟩)
    (c : PySem.W.codeIn K cdv qual = true) (k : PySem.W.keepIn K (.ref f) = true) : FunE K x qual st f (PySem.W.fnOf x qual (defArgs st) (defBody st) (defScope st) dV kV doc pm an cdv ct) := ⟨⟨oc, od, dV, kV, doc, pm, an, cdv, ct, osl, rfl, l, c⟩, k⟩
theorem looks_dfl {K : PySem.W.Frag} {M : Model} {h : Heap} {T : Addr} {o : Obj} {its : Array Value} {n : Nat} {fd : FuncData} {args : Args} {k : Option (Array Value) → Sem (List (Str × Value))} {r : List (Str × Value)} (X : K.In h) (lT : K.lookup T = some o) (oT : o.data = .seq its n)
    (e1 : bindArgs fd args = seqItems? (.ref T) >>= k) (e2 : k (some its) = pure r) : PySem.W.Looks M h (bindArgs fd args) r := by
  rw [e1]
  exact looks_items X lT oT (.of_pure e2)
section
variable {P : Program} {w : World} {K : PySem.W.Frag} {mg : Str → Option Value} {base : Heap}
variable {CX : CXT} {k j : Nat} {f : Addr} {fd : FuncData} {ps N : List Str} {sp : Sp}
theorem GFn.mkE {x qual : Str} {st : Stmt} (F : FunE K x qual st f fd) (S : FnScope N ps (defScope st))
    (len : ∀ vs H Q E, sp vs H Q E → vs.length = ps.length)
    (body : ∀ (cdv : Value) (A : Around) (outer : List Env) (s : Shared) (H : Hp) (vs : List V) (Q : VK) (E : XK),
      A.guards = some [] → Room k (A.deeper (envOfC qual (defScope st) s.heap.objs.size f cdv)) → sp vs H Q E →
      ∃ t, PSs (cxOf CX0 P w K mg base N qual (defScope st) f cdv A outer s H E).nox (defBody st) t ∧
        t { nx := fun _ H' => Q .non H', rt := Q } (start N vs) H) :
    GFn P w K mg base CX0 (k + 1) f fd ps sp := by
  obtain ⟨oc, od, dV, kV, doc, pm, an, cdv, ct, osl, rfl, lk, hcd⟩ := F.ex
  refine ⟨len, fun A outer s H args us vs Q E gd hr e0 hb r hsp => ?_⟩
  have hl := len _ _ _ _ hsp
  have hK : K.In s.heap := e0.mod.kin.keeps fun b o e => (e0.bs b o e).1
  have hlim : s.heap.NoLimit := e0.mod.nolimit.keeps fun b o e => (e0.bs b o e).1
  have kinds : ∀ y ∈ ps.zip us, (defScope st).names.lookup y.1 = some .local ∨
      ((defScope st).names.lookup y.1 = some .cell ∧
        ((cellsFrom (s.heap.objs.size + 1) (defScope st).names []).lookup y.1).isSome = true) := by
    rintro ⟨n, v⟩ hy
    rcases S.par n (List.of_mem_zip hy).1 with q | q
    · exact .inl q
    · exact .inr ⟨q, PySem.W.cellsFrom_some _ _ _ (.inl q)⟩
  refine codeAny_call_function hr.depth (hK _ _ lk) rfl S.co S.gen rfl (PySem.W.codeRec_of hK hcd) (hb _ _ _ _ ?_)
  refine wpAny_newFunctionEnv_cells S.kind kinds fun env he s1 x => ?_
  subst he
  refine ⟨hlim.keeps x.toInCall.keep, codeAny_func ?_⟩
  obtain ⟨t, ht, hq⟩ := body cdv A outer s H vs Q E gd (hr.deeper _) hsp
  have I := inv_start (CX := CX0) (P := P) (mg := mg) (E := E) S hr.hd e0 hl r x
  refine wpAny_mono (ht.nox.run [] s1 (start N vs) H _ I hq) (fun fl s' hs => ?_) fun e s' hs => hs
  cases fl with
  | ret u =>
    obtain ⟨v, σ', H', J, rv, q⟩ := hs
    exact ⟨v, H', J.os, J.bare, J.base, J.hok, rv, q⟩
  | next =>
    obtain ⟨σ', H', J, q⟩ := hs
    exact ⟨V.non, H', J.os, J.bare, J.base, J.hok, rfl, q⟩
  | brk =>
    obtain ⟨_, _, _, q⟩ := hs
    exact False.elim q
  | cont =>
    obtain ⟨_, _, _, q⟩ := hs
    exact False.elim q
end
section
variable {P : Program} {w : World} {K : PySem.W.Frag} {mg : Str → Option Value} {base : Heap} {k : Nat} {f : Addr} {fd : FuncData} {ps N : List Str} {sp : SpV}
theorem GFn.vE {x qual : Str} {st : Stmt} (F : FunE K x qual st f fd) (S : FnScope N ps (defScope st))
    (len : ∀ us c Q, sp us c Q → us.length = ps.length)
    (body : ∀ (cdv : Value) (A : Around) (outer : List Env) (s : Shared) (H : Hp) (E : XK) (us : List W) (c : Cs) (Q : W → Cs → Prop),
      A.guards = some [] → Room k (A.deeper (envOfC qual (defScope st) s.heap.objs.size f cdv)) → sp us c Q →
      ∃ t, PSs (cxOf CX0 P w K mg base N qual (defScope st) f cdv A outer s H E).nox (defBody st) t ∧
        VS K w t (startE N us) c { nx := fun _ c' => rtn c.length Q (.d .none) c', rt := rtn c.length Q }) :
    GFn P w K mg base CX0 (k + 1) f fd ps (lift K w sp) := by
  refine GFn.mkE F S (fun vs H Q E h => ?_) (fun cdv A outer s H vs T E gd hr h => ?_)
  · obtain ⟨B, G, ρ, c, us, Q, X, sh, no, h, _⟩ := h
    rw [Paired.length sh]
    exact len us c Q h
  · obtain ⟨B, G, ρ, c, us, Q, X, sh, no, h, fin⟩ := h
    obtain ⟨t, h1, h2⟩ := body cdv A outer s H E us c Q gd hr h
    have kt := kt_rtn c.length X.len fin
    refine ⟨t, h1, h2 B G ρ (L2.start N vs) H _ X (sl_start sh no) ⟨fun e' c' σ' G' ρ' H' E' X' S' q => ?_, kt, fun _ _ _ _ _ _ _ _ _ q => q, fun _ _ _ _ _ _ _ _ _ q => q, fun _ _ _ _ _ _ _ _ _ _ _ _ _ q => q.elim⟩⟩
    exact kt _ _ _ _ _ _ E' X' (.d .non) trivial q
end
end Gd
namespace Gd
open PySem PySem.Spec PyProof.Rows L2
def fac (n : Nat) : Nat := Builtin.Math.factorialNat n
theorem fac_succ (n : Nat) : fac (n + 1) = fac n * (n + 1) := PySem.W.mc_fac_succ n
def rFact : List V → Hp → VK → Prop := fun vs H Q => ∃ a : Nat, vs = [.int (a : Int)] ∧ a ≤ 20000 ∧ Q (.int ((fac a : Nat) : Int)) H
theorem cr_fact {X : Cx} : CallR X (.builtin "math.factorial") rFact := by
  intro pins s σ H vs us Q I r h
  obtain ⟨a, rfl, ha, q⟩ := h
  obtain ⟨u, rfl, r1⟩ := Vals.one r
  obtain ⟨t, rfl⟩ := r1
  exact PySem.W.mc_factorial (by omega) (by omega) fun _ => ⟨.int _, H, I.tok _, ⟨_, rfl⟩, q⟩
section
variable {K : PySem.W.Frag} {w : World} {c : Cs} {Q : W → Cs → Prop}
theorem w_fact {a : Nat} (h : a ≤ 20000) (q : Q (.d (.int ((fac a : Nat) : Int))) c) : VX K w rFact [.d (.int (a : Int))] c Q := w_x1 dq_int (.int _) (fun q => ⟨a, rfl, h, q⟩) q
end
end Gd
namespace Gd
open PySem PySem.Spec PyProof.Rows L2
theorem pre_cut (x : Str) (l : Nat) : pre x (cutT x l) = true := by rw [pre_iff, tl_cutT]; exact List.take_prefix _ _
theorem nc_pre {ws : List Str} (h : NC ws) {o x : Str} (ho : o ∈ ws) (hx : x ∈ ws) (p : pre o x = true) : o = x := by
  by_cases e : x = o
  · exact e.symm
  · have := h x hx o ho e
    rw [sw_pre] at this
    rw [pre, this] at p
    cases p
theorem tl_cut_succ {x : Str} {l : Nat} (h : l < (tl x).length) : tl (cutT x (l + 1)) = tl (cutT x l) ++ [(tl x)[l]] := by
  rw [tl_cutT, tl_cutT, List.take_add_one, List.getElem?_eq_getElem h]
  rfl
/-- a branching on the way: some other word leaves it -/
theorem fork_iff {ws : List Str} (gb : Gb ws) {x : Str} (hx : x ∈ ws) {l : Nat} (hl : l < x.length) : cutT x l ∈ (brs ws).map (·.1) ↔ ∃ o ∈ ws, pre o (cutT x l) = true ∧ pre o (cutT x (l + 1)) = false := by
  have lo := low_of gb.ok
  have hl2 : l < (tl x).length := by rw [← TL.len_tl]; exact hl
  have ts := tl_cut_succ hl2
  have ha : (tl x)[l] ∈ lets ws (cutT x l) := by
    rw [lets_mem lo, evs_mem]
    exact ⟨x, hx, by rw [List.isPrefixOf_iff_prefix, ← ts, tl_cutT]; exact List.take_prefix _ _⟩
  constructor
  · intro h
    obtain ⟨p, hp, e⟩ := List.mem_map.mp h
    obtain ⟨_, h2, _⟩ := brs_mem hp
    rw [e] at h2
    obtain ⟨b, hb, nb⟩ : ∃ b ∈ lets ws (cutT x l), b ≠ (tl x)[l] := by
      have nd := (lets_pw ws (cutT x l)).imp fun {a b} (h : a < b) => Nat.ne_of_lt h
      match hL : lets ws (cutT x l), h2, nd with
      | [], h2, _ => simp at h2
      | [_], h2, _ => simp at h2
      | a :: b :: r, _, nd =>
        have ab := (List.pairwise_cons.mp nd).1 b (by simp)
        by_cases z : a = (tl x)[l]
        · exact ⟨b, by simp, fun e => ab (z.trans e.symm)⟩
        · exact ⟨a, by simp, z⟩
    rw [lets_mem lo, evs_mem] at hb
    obtain ⟨o, ho, hp⟩ := hb
    rw [List.isPrefixOf_iff_prefix] at hp
    refine ⟨o, ho, pre_iff.mpr ((List.prefix_append _ _).trans hp), ?_⟩
    rw [Bool.eq_false_iff]
    intro c
    rw [pre_iff, ts] at c
    have := List.prefix_of_prefix_length_le hp c (by simp)
    have e2 := this.eq_of_length (by simp)
    have := List.append_cancel_left e2
    exact nb (by simpa using this)
  · rintro ⟨o, ho, p1, p2⟩
    have p1' := pre_iff.mp p1
    obtain ⟨r, hr⟩ := p1'
    cases r with
    | nil =>
      exfalso
      have e : o = cutT x l := tl_inj (by rw [← hr, List.append_nil])
      have : x = o := nc_pre gb.nc hx ho (by rw [e]; exact pre_cut x l)
      have := congrArg Str.length (this.trans e)
      rw [cutT_len (by omega)] at this
      omega
    | cons b r =>
      have hb : b ∈ lets ws (cutT x l) := by
        rw [lets_mem lo, evs_mem]
        exact ⟨o, ho, by rw [List.isPrefixOf_iff_prefix, ← hr]; exact ⟨r, by simp⟩⟩
      have nb : b ≠ (tl x)[l] := fun e => by
        rw [Bool.eq_false_iff] at p2
        refine p2 (pre_iff.mpr ?_)
        rw [ts, ← hr, e]
        exact ⟨r, by simp⟩
      have l2 : 1 < (lets ws (cutT x l)).length := by
        match hL : lets ws (cutT x l), ha, hb with
        | [], h, _ => cases h
        | [c], h1, h2 =>
          rw [List.mem_singleton] at h1 h2
          exact absurd (h2.trans h1.symm) nb
        | _ :: _ :: _, _, _ => simp
      refine List.mem_map.mpr ⟨(cutT x l, ofL (lets ws (cutT x l))), ?_, rfl⟩
      unfold brs
      refine List.mem_map.mpr ⟨cutT x l, List.mem_filter.mpr ⟨srt_mem.mpr ?_, decide_eq_true l2⟩, rfl⟩
      unfold pfx
      rw [dedT_mem, List.mem_flatMap]
      exact ⟨x, hx, List.mem_map.mpr ⟨l, List.mem_range.mpr hl, rfl⟩⟩
/-- the numbers of keys -/
def pk (ws : List Str) (x : Str) : List Nat := (((brs ws).map (·.1)).filter fun t => pre x t).map fun t => t.length + 2
end Gd
namespace Gd
open PySem PySem.Spec PyProof.Rows L2
def repO (n : Nat) : List W → Option (List W × List PyData)
  | [] => none
  | u :: us => match u with
    | .o xs => some (.c n :: us, xs)
    | u => (repO n us).map fun r => (u :: r.1, r.2)
section
variable {K : PySem.W.Frag} {w : World} {B G G' G'' G0 : Addr → Prop} {ρ ρ' ρ'' ρ0 : List Addr} {H H' H'' H0 : Hp} {c c' c1 : Cs} {e e' : Ev} {v vx vy : V} {u u2 x y : W}
variable {Q : W → Cs → Prop} {t : TA} {sp : SpV}
theorem repO_sh (X : Hx B G ρ c H) : ∀ {vs : List V} {us us2 : List W} {xs : List PyData}, Paired (Sh K w B G ρ H) vs us → Paired (Fr H0) vs us → repO c.length us = some (us2, xs) → us2.all W.noO = true →
    ∃ p, H0 p = none ∧ CellOk G H p (.l xs) ∧ p ∉ ρ ∧ ¬ G p ∧ ¬ B p ∧ Paired (Sh K w B G (ρ ++ [p]) H) vs us2
  | _, _, us2, xs, .nil, _, h, _ => by cases h
  | v :: vs, u :: us, us2, xs, .cons s t, .cons f g, h, hn => by
    have st : ∀ p, Stay B G ρ H G (ρ ++ [p]) H := fun p => ⟨fun _ _ _ h => h, fun _ _ _ h => h, fun _ h => h, [p], rfl⟩
    by_cases isO : ∃ zs, u = .o zs
    · obtain ⟨zs, rfl⟩ := isO
      have h2 : some (W.c c.length :: us, zs) = some (us2, xs) := h
      cases h2
      cases s with
      | o a r gg b n =>
        obtain ⟨p', e1, e2⟩ := f
        cases e1
        refine ⟨_, e2, .l a r, n, gg, b, .cons (.c ?_) (shs_stay (st _) ?_ t)⟩
        · rw [← X.len]; simp
        · rw [List.all_cons, Bool.and_eq_true] at hn; exact hn.2
    · have h2 : (repO c.length us).map (fun r => (u :: r.1, r.2)) = some (us2, xs) := by
        unfold repO at h
        split at h
        · exact absurd ⟨_, rfl⟩ isO
        · exact h
      obtain ⟨⟨us3, zs⟩, h3, h4⟩ := Option.map_eq_some_iff.mp h2
      cases h4
      rw [List.all_cons, Bool.and_eq_true] at hn
      obtain ⟨p, p1, p2, p3, p4, p5, p6⟩ := repO_sh X t g h3 hn.2
      exact ⟨p, p1, p2, p3, p4, p5, .cons ((st p).sh s hn.1) p6⟩
theorem v_callO {E0' : XK} (h : VA K w t e c fun us c1 => (∃ k us' x', fstC us = some k ∧ trs1 c1 k us = some us' ∧ c1[k]? = some x' ∧ sp us' [x'] fun u c' => u.res = true ∧ ∀ y, c' = [y] → Q u (c1.set k y)) ∨
    (∃ us2 xs us', repO c1.length us = some (us2, xs) ∧ us2.all W.noO = true ∧ trs1 (c1 ++ [.l xs]) c1.length us2 = some us' ∧ sp us' [.l xs] fun u c' => u.res = true ∧ ∀ y, c' = [y] → ∃ y', (c1 ++ [Cell.l xs]).set c1.length y = c1 ++ [y'] ∧ u.res = true ∧ Q u c1)) : VE K w (tCall (liftC K w sp) [] E0' t) e c Q := by
  intro B G ρ σ H T X S kt
  refine h B G ρ σ H _ X S fun us vs c1 G1 ρ1 H1 E1 X1 s1 f1 d1 q => ?_
  rw [List.append_nil]
  rcases q with ⟨k, us', x', _, hu, hx, q1⟩ | ⟨us2, xs, us', hr, hn, hu, q1⟩
  · exact lift1 kt E1 X1 s1 hu hx q1
  · obtain ⟨p, p1, p2, p3, p4, p5, p6⟩ := repO_sh X1 s1 f1 hr hn
    have X2 := X1.cell p2 p3 p4 p5
    have E2 := Ext.cell E1 p1
    refine lift1 (k := c1.length) (x' := .l xs) (Q := fun u c' => ∃ y', c' = c1 ++ [y'] ∧ u.res = true ∧ Q u c1) (fun u v c' G' ρ' H' E X s f ⟨y', ec, hres, qq⟩ => ?_) E2 X2 p6 hu (by simp) q1
    subst ec
    obtain ⟨ys, rfl, hy⟩ := E.pre
    obtain ⟨zs, hz, _⟩ := E1.pre
    have l1 : ρ.length ≤ c1.length := by rw [← X1.len, hz, List.length_append]; omega
    have tk : (ρ ++ ys).take c1.length = ρ ++ ys.take (c1.length - ρ.length) := by rw [List.take_append, List.take_of_length_le l1]
    have pt := paired_take c1.length X.cells
    rw [List.take_left' rfl, tk] at pt
    have sub : ∀ q, q ∈ ρ ++ ys.take (c1.length - ρ.length) → q ∈ ρ ++ ys := fun q h => by rw [← tk] at h; exact List.mem_of_mem_take h
    have X3 : Hx B G' (ρ ++ ys.take (c1.length - ρ.length)) c1 H' := ⟨by rw [← tk]; exact X.nd.sublist (List.take_sublist _ _), fun q h => X.av q (sub q h), fun q h => X.avb q (sub q h), X.live, X.liveb, pt⟩
    have E3 : Ext G ρ H G' (ρ ++ ys.take (c1.length - ρ.length)) H' := ⟨E.kp, E.tr, ⟨_, rfl, fun y h => hy y (List.mem_of_mem_take h)⟩, E.gr, E.nw⟩
    refine kt u v c1 G' _ H' E3 X3 ?_ f qq
    cases s with
    | d s => exact .d s
    | o a r g b n => exact .o a r g b fun z => n (sub _ z)
    | dm a r g => exact .dm a r g
    | od a r g b n => exact .od a r g b fun z => n (sub _ z)
    | _ => cases hres
theorem c1_cL {us us' : List W} {k : Nat} {x : Cell} {P : Nat → List W → Cell → Prop} {R : Prop} (h0 : fstC us = some k) (h1 : trs1 c k us = some us') (hx : c[k]? = some x) (q : P k us' x) : (∃ k us' x', fstC us = some k ∧ trs1 c k us = some us' ∧ c[k]? = some x' ∧ P k us' x') ∨ R := .inl ⟨k, us', x, h0, h1, hx, q⟩
end
end Gd
namespace Gd
open PySem PySem.Spec PyProof.Rows L2
end Gd
namespace Gd
open PySem PySem.Spec PyProof.Rows L2
end Gd
namespace Gd
open PySem PySem.Spec PyProof.Rows L2
end Gd
namespace Gd
open PySem PySem.Spec PyProof.Rows L2
/-- a row of two texts that can be shown -/
def RowOk (s : Str × Str) : Prop := s.1.length ≤ 12 ∧ (∀ c ∈ tl s.1, c < 1114112) ∧ s.2.length ≤ 26 ∧ (∀ c ∈ tl s.2, c < 1114112)
theorem RowOk.str {s : Str × Str} (h : RowOk s) : PyData.strOk s.1 = true ∧ PyData.strOk s.2 = true := ⟨(strOk_iff _).mpr h.2.1, (strOk_iff _).mpr h.2.2.2⟩
theorem brD_lay {p : Str × Str} (h : RowOk p) : (brD p).canLay0 = true ∧ (brD p).depth ≤ 2 := by
  obtain ⟨h1, h2⟩ := h.str
  exact ⟨by simp [brD, PyData.canLay0, PyData.canLayAll0, h1, h2], by simp [brD, PyData.depth, PyData.depthAll]⟩
theorem shaped_rows {st : List (Str × Str)} (h : ∀ s ∈ st, RowOk s) : SeqAt.shaped (.list (st.map brD)) = true :=
  shaped_map _ _ fun p hp => ⟨(brD_lay (h p hp)).1, by have := (brD_lay (h p hp)).2; omega⟩
theorem eqv_brD (p q : Str × Str) : PyData.eqv (brD p) (brD q) = decide (p = q) := by
  obtain ⟨a, b⟩ := p
  obtain ⟨c, d⟩ := q
  by_cases h1 : a = c <;> by_cases h2 : b = d <;> simp [brD, PyData.eqv, PyData.eqvAll, h1, h2]
theorem eqv_rows : ∀ a b : List (Str × Str), PyData.eqvAll (a.map brD) (b.map brD) = decide (a = b)
  | [], [] => by simp [PyData.eqvAll]
  | [], u :: us => by simp [PyData.eqvAll]
  | w :: ws, [] => by simp [PyData.eqvAll]
  | w :: ws, u :: us => by
    rw [List.map_cons, List.map_cons, PyData.eqvAll, eqv_rows ws us, eqv_brD]
    by_cases e : w = u <;> by_cases e2 : ws = us <;> simp [e, e2]
theorem eqv_rowsL (a b : List (Str × Str)) : PyData.eqv (.list (a.map brD)) (.list (b.map brD)) = decide (a = b) := by
  rw [PyData.eqv]
  exact eqv_rows a b
section
variable {K : PySem.W.Frag} {w : World} {c : Cs} {Q : W → Cs → Prop} {x y : W}
theorem w_eqRows {a b : List (Str × Str)} (h1 : Lv c x (a.map brD)) (h2 : Lv c y (b.map brD)) (o1 : ∀ p ∈ a, RowOk p) (o2 : ∀ p ∈ b, RowOk p) (q : Q (.d (.bool (decide (a = b)))) c) : V2 K w (uEq K) x y c Q :=
  w_eqD (.l h1) (.l h2) (shaped_rows o1) (shaped_rows o2) (by rw [eqv_rowsL]; exact q)
end
theorem pfx_chars {ws : List Str} (h : ∀ w ∈ ws, isW w = true) {t : Str} (ht : t ∈ pfx ws) : t.length ≤ 12 ∧ ∀ c ∈ tl t, c < 1114112 := by
  obtain ⟨w, hw, hp, hl⟩ := pfx_mem ht
  have := isW_len (h w hw)
  refine ⟨by omega, fun c hc => ?_⟩
  rw [List.isPrefixOf_iff_prefix] at hp
  exact strChars (h w hw) c (hp.subset hc)
theorem brs_row {ws : List Str} (h : ∀ w ∈ ws, isW w = true) {p : Str × Str} (hp : p ∈ brs ws) : RowOk p := by
  obtain ⟨h1, h2, h3⟩ := brs_mem hp
  obtain ⟨a, b⟩ := pfx_chars h h1
  refine ⟨a, b, ?_, fun c hc => ?_⟩
  · rw [h3]
    have := lets_len ws p.1
    have e : (ofL (lets ws p.1)).length = (lets ws p.1).length := TL.len_tl _
    omega
  · rw [h3, tl_ofL, lets_mem (low_of h), evs_mem] at hc
    obtain ⟨w, hw, hp⟩ := hc
    rw [List.isPrefixOf_iff_prefix] at hp
    exact strChars (h w hw) c (hp.subset (by simp))
theorem stt_row {ws : List Str} (h : ∀ w ∈ ws, isW w = true) {p : Str × Str} (hp : p ∈ stt ws) : RowOk p := by
  unfold stt at hp
  obtain ⟨q, hq, rfl⟩ := List.mem_map.mp hp
  obtain ⟨h1, h2, _⟩ := brs_row h hq
  refine ⟨h1, h2, ?_, ?_⟩
  · show (lat ws q.1).length ≤ 26
    unfold lat
    split
    · rw [len_one]; omega
    · decide +kernel
  · show ∀ c ∈ tl (lat ws q.1), c < 1114112
    unfold lat
    split
    · rename_i o ho
      intro c hc
      rw [mem_one.mp hc, List.getD_eq_getElem?_getD]
      by_cases hl : q.1.length < (tl o).length
      · rw [List.getElem?_eq_getElem hl]
        exact strChars (h o (sug_mem ho)) _ (List.getElem_mem hl)
      · rw [List.getElem?_eq_none (by omega)]
        decide
    · decide +kernel
end Gd
namespace Gd
open PySem PySem.Spec PyProof.Rows L2
end Gd
namespace Gd
open PySem PySem.Spec PyProof.Rows L2
def mxS (x : Str) (m : Nat) (o : Str) : Nat := max m (cm x o + 2)
def mxK (x : Str) (S : List Str) : Nat := S.foldl (mxS x) 1
theorem mx_key (x : Str) : ∀ (S : List Str) (m : Nat), (S.foldl (mxS x) m = m ∨ ∃ o ∈ S, S.foldl (mxS x) m = cm x o + 2) ∧ m ≤ S.foldl (mxS x) m ∧ ∀ o ∈ S, cm x o + 2 ≤ S.foldl (mxS x) m
  | [], m => ⟨.inl rfl, Nat.le_refl _, by simp⟩
  | o :: S, m => by
    rw [List.foldl_cons]
    obtain ⟨h1, h2, h3⟩ := mx_key x S (mxS x m o)
    have l1 : m ≤ mxS x m o := Nat.le_max_left _ _
    have l2 : cm x o + 2 ≤ mxS x m o := Nat.le_max_right _ _
    refine ⟨?_, Nat.le_trans l1 h2, fun p hp => ?_⟩
    · rcases h1 with h1 | ⟨p, hp, h1⟩
      · rw [h1]
        have e : mxS x m o = m ∨ mxS x m o = cm x o + 2 := by unfold mxS; omega
        rcases e with e | e
        · exact .inl e
        · exact .inr ⟨o, by simp, e⟩
      · exact .inr ⟨p, by simp [hp], h1⟩
    · rcases List.mem_cons.mp hp with e | hp
      · rw [e]; exact Nat.le_trans l2 h2
      · exact h3 p hp
theorem typed_cnt {ws : List Str} (gb : Gb ws) {x : Str} {j : Nat} (h : ws[j]? = some x) : (typed ws x).length + 1 = mxK x (ws.drop (j + 1)) := by
  have es := split_at h
  have nd := gb.nd
  rw [es] at nd
  have hx : x ∉ ws.drop (j + 1) := (List.nodup_cons.mp (List.nodup_append.mp nd).2.1).1
  have xm : x ∈ ws := List.mem_of_getElem? h
  have nc : ∀ o ∈ ws.drop (j + 1), Txt.startswith o x = false := fun o ho => gb.nc x xm o (List.mem_of_mem_drop ho) fun e => hx (e ▸ ho)
  rw (config := { occs := .pos [1] }) [es]
  generalize ws.take j = A at *
  generalize ws.drop (j + 1) = S at *
  by_cases hS : S = []
  · rw [hS, typed_last]
    rfl
  · obtain ⟨h1, h2, h3⟩ := mx_key x S 1
    obtain ⟨o0, ho0⟩ := List.exists_mem_of_ne_nil S hS
    have h1 : ∃ o ∈ S, mxK x S = cm x o + 2 := by
      rcases h1 with h1 | h1
      · have := h3 o0 ho0
        omega
      · exact h1
    obtain ⟨o, ho, e⟩ := h1
    have h3 : ∀ o ∈ S, cm x o + 2 ≤ mxK x S := h3
    rw [typed_max hx nc ⟨o, ho, rfl⟩ fun p hp => by have := h3 p hp; omega, e]
theorem sug_mono {ws : List Str} {p t o : Str} (h : sug ws p = some o) (hp : tl p <+: tl t) (ht : tl t <+: tl o) : sug ws t = some o := by
  rw [sug_pr] at h ⊢
  obtain ⟨h1, as, bs, e, h2⟩ := List.find?_eq_some_iff_append.mp h
  refine List.find?_eq_some_iff_append.mpr ⟨pre_iff.mpr ht, as, bs, e, fun a ha => ?_⟩
  have := h2 a ha
  simp only [Bool.not_eq_true', Bool.eq_false_iff, ne_eq, pre_iff] at this ⊢
  exact fun z => this (hp.trans z)
theorem cutT_pre {o t : Str} (h : tl t <+: tl o) : cutT o t.length = t := tl_inj (by
  rw [tl_cutT, show t.length = (tl t).length from TL.len_tl t]
  obtain ⟨r, hr⟩ := h
  rw [← hr, List.take_left])
theorem stt_of_keys {ws vs : List Str} (gb : Gb ws) (pm : ws.Perm vs) (h : ∀ x ∈ ws, (typed ws x).length = (typed vs x).length) : stt ws = stt vs := by
  unfold stt
  rw [brs_perm (us := vs) (ws := ws) fun x => pm.symm.mem_iff]
  refine List.map_congr_left fun p hp => ?_
  obtain ⟨h1, h2, h3⟩ := brs_mem hp
  obtain ⟨w, hw, hpre, hlt⟩ := pfx_mem h1
  obtain ⟨o, ho⟩ := sug_some hw hpre
  have om := sug_mem ho
  have op := sug_pre ho
  have lt := br_long gb h2 om op
  rw [List.isPrefixOf_iff_prefix] at op
  have key : sug vs p.1 = some o := by
    obtain ⟨L, l0, l1, l2, l3, l4⟩ := typed_spec ws o
    obtain ⟨L', m0, m1, m2, m3, m4⟩ := typed_spec vs o
    have e := h o om
    rw [l2, m2] at e
    have hL : L ≤ p.1.length := by
      refine Nat.not_lt.mp fun z => ?_
      have := l3 _ z
      rw [cutT_pre op] at this
      exact this ho
    have hs := m4 (by omega)
    refine sug_mono hs ?_ op
    rw [tl_cutT]
    have e2 : tl p.1 = (tl o).take p.1.length := by rw [← tl_cutT, cutT_pre op]
    rw [e2]
    exact List.take_prefix_take_left (by omega)
  show (p.1, lat ws p.1) = (p.1, lat vs p.1)
  unfold lat
  rw [ho, key]
theorem sug_of_stt {ws vs : List Str} (gb : Gb ws) (gv : Gb vs) (pm : ws.Perm vs) (h : stt ws = stt vs) : ∀ (n : Nat) (t : Str), 13 ≤ t.length + n → sug ws t = sug vs t := by
  unfold stt at h
  rw [brs_perm (us := vs) (ws := ws) fun x => pm.symm.mem_iff] at h
  have h := List.map_inj_left.mp h
  have none_ : ∀ {us zs : List Str} {t : Str}, us.Perm zs → sug us t = none → sug zs t = none := fun {us zs t} p e => by
    cases e2 : sug zs t with
    | none => rfl
    | some o =>
      obtain ⟨z, hz⟩ := sug_some (p.mem_iff.mpr (sug_mem e2)) (sug_pre e2)
      rw [e] at hz
      cases hz
  intro n
  induction n with
  | zero =>
    intro t ht
    cases e : sug ws t with
    | none => exact (none_ pm e).symm
    | some o =>
      have := gb.len (sug_mem e)
      have op := List.isPrefixOf_iff_prefix.mp (sug_pre e)
      have := op.length_le
      have l1 : t.length = (tl t).length := TL.len_tl t
      have l2 : o.length = (tl o).length := TL.len_tl o
      omega
  | succ n ih =>
    intro t ht
    cases e : sug ws t with
    | none => exact (none_ pm e).symm
    | some o =>
      have om := sug_mem e
      have op := List.isPrefixOf_iff_prefix.mp (sug_pre e)
      obtain ⟨o', e'⟩ := sug_some (pm.mem_iff.mp om) (sug_pre e)
      rw [e']
      have om' : o' ∈ ws := pm.mem_iff.mpr (sug_mem e')
      have op' := List.isPrefixOf_iff_prefix.mp (sug_pre e')
      have lt : t.length = (tl t).length := TL.len_tl t
      have lo : o.length = (tl o).length := TL.len_tl o
      have lo' : o'.length = (tl o').length := TL.len_tl o'
      have g1 := op.length_le
      have g2 := op'.length_le
      have same : ∀ {a b : Str}, a ∈ ws → b ∈ ws → tl a <+: tl b → a = b := fun {a b} ha hb hp => by
        refine Classical.byContradiction fun ne => ?_
        have := gb.nc a ha b hb ne
        rw [sw_pre, Bool.eq_false_iff, ne_eq, List.isPrefixOf_iff_prefix] at this
        exact this hp
      by_cases c1 : t.length = o.length
      · have : t = o := tl_inj (op.eq_of_length (by omega))
        rw [this] at op'
        rw [same om om' op']
      by_cases c2 : t.length = o'.length
      · have : t = o' := tl_inj (op'.eq_of_length (by omega))
        rw [this] at op
        rw [same om' om op]
      have hl : (tl t).length < (tl o).length := by omega
      have hl' : (tl t).length < (tl o').length := by omega
      have ext : ∀ {z : Str} (hz : tl t <+: tl z) (hk : (tl t).length < (tl z).length), tl t ++ [(tl z)[(tl t).length]] <+: tl z := fun {z} hz hk => by
        obtain ⟨r, hr⟩ := hz
        have et : (tl z).take (tl t).length = tl t := by rw [← hr, List.take_left]
        have := List.take_prefix ((tl t).length + 1) (tl z)
        rw [List.take_succ_eq_append_getElem hk, et] at this
        exact this
      have p1 := ext op hl
      have p2 := ext op' hl'
      have mem : ∀ {z : Str} {a : Nat}, z ∈ ws → tl t ++ [a] <+: tl z → a ∈ lets ws t := fun {z a} hz hp => by
        rw [lets_mem (low_of gb.ok), evs_mem]
        exact ⟨z, hz, List.isPrefixOf_iff_prefix.mpr hp⟩
      have m1 := mem om p1
      have m2 := mem om' p2
      have ea : (tl o)[(tl t).length] = (tl o')[(tl t).length] := by
        by_cases cb : 1 < (lets ws t).length
        · have hb : (t, ofL (lets ws t)) ∈ brs ws := by
            unfold brs
            refine List.mem_map.mpr ⟨t, List.mem_filter.mpr ⟨srt_mem.mpr ?_, decide_eq_true cb⟩, rfl⟩
            show t ∈ dedT _
            rw [dedT_mem, List.mem_flatMap]
            exact ⟨o, om, List.mem_map.mpr ⟨t.length, List.mem_range.mpr (by omega), cutT_pre op⟩⟩
          have := h _ hb
          have el : lat ws t = lat vs t := (Prod.mk.inj this).2
          unfold lat at el
          rw [e, e'] at el
          have el2 : (⟨#[(tl o).getD t.length 0]⟩ : Str) = ⟨#[(tl o').getD t.length 0]⟩ := el
          rw [List.getD_eq_getElem?_getD, List.getD_eq_getElem?_getD, lt, List.getElem?_eq_getElem hl, List.getElem?_eq_getElem hl'] at el2
          simpa using el2
        · match hh : lets ws t, cb with
          | [], _ => rw [hh] at m1; cases m1
          | [a], _ => rw [hh] at m1 m2; rw [List.mem_singleton.mp m1, List.mem_singleton.mp m2]
          | a :: b :: l, cb => simp at cb
      have tA : tl (ofL (tl t ++ [(tl o)[(tl t).length]])) = tl t ++ [(tl o)[(tl t).length]] := tl_ofL _
      have s1 : sug ws (ofL (tl t ++ [(tl o)[(tl t).length]])) = some o := sug_mono e (by rw [tA]; exact List.prefix_append _ _) (by rw [tA]; exact p1)
      have s2 : sug vs (ofL (tl t ++ [(tl o)[(tl t).length]])) = some o' := sug_mono e' (by rw [tA]; exact List.prefix_append _ _) (by rw [tA, ea]; exact p2)
      have := ih (ofL (tl t ++ [(tl o)[(tl t).length]])) (by
        have : (ofL (tl t ++ [(tl o)[(tl t).length]])).length = (tl t).length + 1 := by rw [TL.len_tl]; show (tl t ++ [_]).length = _; simp
        omega)
      rw [s1, s2] at this
      exact this
theorem typed_of_stt {ws vs : List Str} (gb : Gb ws) (gv : Gb vs) (pm : ws.Perm vs) (h : stt ws = stt vs) (x : Str) : typed ws x = typed vs x := by
  have e : sug ws = sug vs := funext fun t => sug_of_stt gb gv pm h 13 t (by omega)
  unfold typed typ
  rw [e]
theorem stt_keys {ws vs : List Str} (gb : Gb ws) (gv : Gb vs) (pm : ws.Perm vs) : stt ws = stt vs ↔ ∀ x ∈ ws, (typed ws x).length = (typed vs x).length :=
  ⟨fun h x _ => by rw [typed_of_stt gb gv pm h x], stt_of_keys gb pm⟩
end Gd
namespace Gd
open PySem PySem.Spec PyProof.Rows L2
end Gd
namespace Gd
open PySem PySem.Spec PyProof.Rows L2
end Gd
namespace Gd
open PySem PySem.Spec PyProof.Rows L2
def tForL (K : PySem.W.Frag) (t : TA) (g : TG) (ts : TS) : TS := tFor (iU K (tLst t)) g ts
end Gd
namespace Gd
open PySem PySem.Spec PyProof.Rows L2
end Gd
namespace Gd
open PySem PySem.Spec PyProof.Rows L2
end Gd
namespace Gd
open PySem PySem.Spec PyProof.Rows L2
end Gd
namespace Gd
open PySem PySem.Spec PyProof.Rows L2
end Gd
namespace Gd
open PySem PySem.Spec PyProof.Rows L2
end Gd
namespace Gd
open PySem PySem.Spec PyProof.Rows L2
/-- a sign of each row, in their order -/
inductive ChL : List (Str × Str) → List (Str × Str) → Prop
  | nil : ChL [] []
  | cons {p s : Str × Str} {rs st : List (Str × Str)} {a : Nat} (h : s = (p.1, ⟨#[a]⟩)) (m : a ∈ tl p.2) (t : ChL rs st) : ChL (p :: rs) (s :: st)
theorem ChL.len {rs st : List (Str × Str)} (h : ChL rs st) : rs.length = st.length := by
  induction h with
  | nil => rfl
  | cons _ _ _ ih => simp [ih]
end Gd
namespace Gd
open PySem PySem.Spec PyProof.Rows L2
section
variable {K : PySem.W.Frag} {w : World} {c : Cs} {e : Ev} {D : DV} {te : TE}
theorem v_augI {i : Nat} {a : Int} {f : Int → Int → Int} (hs : e[i]? = some (some (.d (.int a)))) (h : VE K w te e c fun y c1 => ∃ b, y = .d (.int b) ∧ D.nx (e.set i (some (.d (.int (f a b))))) c1) : VS K w (tAug i te (ipI f)) e c D := by
  intro B G ρ σ H Dh X S L
  obtain ⟨a', h1, h2⟩ := paired_get S hs
  obtain ⟨n, v, rfl, h3⟩ := h2
  cases h3 with
  | d h3 =>
    cases h3
    refine ⟨_, h1, h B G ρ σ H _ X S fun y vy c1 G1 ρ1 H1 E1 X1 s1 f1 ⟨b, ey, q⟩ => ?_⟩
    subst ey
    cases s1 with
    | d s1 =>
      cases s1
      refine ⟨_, _, rfl, rfl, ?_⟩
      exact L.nx _ _ _ _ _ _ E1 X1 (sl_set (E1.sl X S) (.d (.int _)) rfl i) q
end
end Gd
namespace Gd
open PySem PySem.Spec PyProof.Rows L2
theorem pre_cutC {x o : Str} {l : Nat} (hl : l ≤ x.length) : pre o (cutT x l) = decide (l ≤ cm x o) := by
  rw [← sw_cm hl]
  exact (sw_pre _ _).symm
/-- where two words part -/
theorem fork_of {ws : List Str} (gb : Gb ws) {w o : Str} (hw : w ∈ ws) (ho : o ∈ ws) (ne : w ≠ o) : cm w o < w.length ∧ cutT w (cm w o) ∈ (brs ws).map (·.1) := by
  have l : cm w o < w.length := cm_lt (gb.nc w hw o ho ne)
  refine ⟨l, (fork_iff gb hw l).mpr ⟨o, ho, ?_, ?_⟩⟩
  · rw [pre_cutC (by omega)]; exact decide_eq_true (Nat.le_refl _)
  · rw [pre_cutC (by omega)]; exact decide_eq_false (by omega)
end Gd
namespace Gd
open PySem PySem.Spec PyProof.Rows L2
end Gd
namespace Gd
open PySem PySem.Spec PyProof.Rows L2
end Gd
namespace Gd
open PySem PySem.Spec PyProof.Rows L2
end Gd
namespace Gd
open PySem PySem.Spec PyProof.Rows L2
end Gd
namespace Gd
open PySem PySem.Spec PyProof.Rows L2
end Gd
namespace Gd
open PySem PySem.Spec PyProof.Rows L2
structure GF (P : Program) (w : World) (K : PySem.W.Frag) (mg : Str → Option Value) (base : Heap) (k : Nat) (x : Str) (sp : Sp) : Prop where
  ex : ∃ (f : Addr) (fd : FuncData) (ps : List Str), mg x = some (.ref f) ∧ PySem.W.keepIn K (.ref f) = true ∧ Binds K fd ps [] ∧ FnOk P w K mg base CX0 k f fd ps sp
section
variable {X : Cx} {k j : Nat} {sp : Sp} {x : Str} {p pos : Pos} {e : Expr} {es : List Expr} {t : TA}
theorem pe_fc (cc : GF X.prog X.w X.K X.mg X.base k x sp) (hr : Room j X.A) (hk : k ≤ j) (hg : Gl X x) (ha : PA X (e :: es) t)
    (hdb : (x == ("__debug__" : Str)) = false := by decide) (he : starEach (e :: es) X.env = (false, eval e X.env) :: starEach es X.env := by rfl)
    (hpl : (backTo pos (starEach es X.env)).any (·.1) = false := by rfl) : PE X (.Call (.Name x p) (e :: es) [] pos) (tCall sp [] E0 t) := by
  obtain ⟨f, fd, ps, h1, h2, h3, h4⟩ := cc.ex
  exact pe_call h4 (hr.mono hk) hg h1 h2 h3 .nil pass0 ha hdb he hpl
end
section
variable {P : Program} {w : World} {K : PySem.W.Frag} {mg : Str → Option Value} {base : Heap} {k : Nat} {f : Addr} {fd : FuncData} {ps N : List Str}
theorem FnOk.mk' {sp : Sp} {x qual : Str} {st : Stmt} (F : Fun K x qual st f fd) (S : FnScope N ps (defScope st))
    (len : ∀ vs H Q E, sp vs H Q E → vs.length = ps.length)
    (body : ∀ (cdv : Value) (A : Around) (outer : List Env) (s : Shared) (H : Hp) (vs : List V) (Q : VK) (E : XK),
      Room k (A.deeper (envOfC qual (defScope st) s.heap.objs.size f cdv)) → sp vs H Q E →
      ∃ t, PSs (cxOf CX0 P w K mg base N qual (defScope st) f cdv A outer s H E).nox (defBody st) t ∧
        t { nx := fun _ H' => Q .non H', rt := Q } (start N vs) H) :
    FnOk P w K mg base CX0 (k + 1) f fd ps sp := by
  obtain ⟨oc, od, kV, doc, pm, an, cdv, ct, osl, rfl, lk, hcd⟩ := F.ex
  refine ⟨len, fun A outer s H args us vs Q E hr e0 hb r hsp => ?_⟩
  have hl := len _ _ _ _ hsp
  have hK : K.In s.heap := e0.mod.kin.keeps fun b o e => (e0.bs b o e).1
  have hlim : s.heap.NoLimit := e0.mod.nolimit.keeps fun b o e => (e0.bs b o e).1
  have kinds : ∀ y ∈ ps.zip us, (defScope st).names.lookup y.1 = some .local ∨
      ((defScope st).names.lookup y.1 = some .cell ∧
        ((cellsFrom (s.heap.objs.size + 1) (defScope st).names []).lookup y.1).isSome = true) := by
    rintro ⟨n, v⟩ hy
    rcases S.par n (List.of_mem_zip hy).1 with q | q
    · exact .inl q
    · exact .inr ⟨q, PySem.W.cellsFrom_some _ _ _ (.inl q)⟩
  refine codeAny_call_function hr.depth (hK _ _ lk) rfl S.co S.gen rfl (PySem.W.codeRec_of hK hcd) (hb _ _ _ _ ?_)
  refine wpAny_newFunctionEnv_cells S.kind kinds fun env he s1 x => ?_
  subst he
  refine ⟨hlim.keeps x.toInCall.keep, codeAny_func ?_⟩
  obtain ⟨t, ht, hq⟩ := body cdv A outer s H vs Q E (hr.deeper _) hsp
  have I := inv_start (CX := CX0) (P := P) (mg := mg) (E := E) S hr.hd e0 hl r x
  refine wpAny_mono (ht.nox.run [] s1 (start N vs) H _ I hq) (fun fl s' hs => ?_) fun e s' hs => hs
  cases fl with
  | ret u =>
    obtain ⟨v, σ', H', J, rv, q⟩ := hs
    exact ⟨v, H', J.os, J.bare, J.base, J.hok, rv, q⟩
  | next =>
    obtain ⟨σ', H', J, q⟩ := hs
    exact ⟨V.non, H', J.os, J.bare, J.base, J.hok, rfl, q⟩
  | brk =>
    obtain ⟨_, _, _, q⟩ := hs
    exact False.elim q
  | cont =>
    obtain ⟨_, _, _, q⟩ := hs
    exact False.elim q
theorem FnOk.v {sp : SpV} {x qual : Str} {st : Stmt} (F : Fun K x qual st f fd) (S : FnScope N ps (defScope st))
    (len : ∀ us c Q, sp us c Q → us.length = ps.length)
    (body : ∀ (cdv : Value) (A : Around) (outer : List Env) (s : Shared) (H : Hp) (E : XK) (us : List W) (c : Cs) (Q : W → Cs → Prop),
      Room k (A.deeper (envOfC qual (defScope st) s.heap.objs.size f cdv)) → sp us c Q →
      ∃ t, PSs (cxOf CX0 P w K mg base N qual (defScope st) f cdv A outer s H E).nox (defBody st) t ∧
        VS K w t (startE N us) c { nx := fun _ c' => rtn c.length Q (.d .none) c', rt := rtn c.length Q }) :
    FnOk P w K mg base CX0 (k + 1) f fd ps (lift K w sp) := by
  refine FnOk.mk' F S (fun vs H Q E h => ?_) (fun cdv A outer s H vs T E hr h => ?_)
  · obtain ⟨B, G, ρ, c, us, Q, X, sh, no, h, _⟩ := h
    rw [Paired.length sh]
    exact len us c Q h
  · obtain ⟨B, G, ρ, c, us, Q, X, sh, no, h, fin⟩ := h
    obtain ⟨t, h1, h2⟩ := body cdv A outer s H E us c Q hr h
    have kt := kt_rtn c.length X.len fin
    refine ⟨t, h1, h2 B G ρ (L2.start N vs) H _ X (sl_start sh no) ⟨fun e' c' σ' G' ρ' H' E' X' S' q => ?_, kt, fun _ _ _ _ _ _ _ _ _ q => q, fun _ _ _ _ _ _ _ _ _ q => q, fun _ _ _ _ _ _ _ _ _ _ _ _ _ q => q.elim⟩⟩
    exact kt _ _ _ _ _ _ E' X' (.d .non) trivial q
end
end Gd
namespace Gd
open PySem PySem.Spec PyProof.Rows L2
section
variable {K : PySem.W.Frag} {w : World} {B G G' G'' G0 : Addr → Prop} {ρ ρ' ρ'' ρ0 : List Addr} {H H' H'' H0 : Hp} {c c' : Cs} {σ : L2.St} {e e' : Ev} {v vx vy : V} {u x y z : W}
variable {Q : W → Cs → Prop}
def uLenD : List V → Hp → VK → Prop := fun xs H Q => ∃ (a : Addr) (kvs : List (Key × V)), xs = [V.ref a] ∧ H a = some (.dK kvs) ∧ Q (.int kvs.length) H
theorem cu_lenD {X : Cx} : CallR X (.builtin "len") uLenD := call_lenD
theorem w_lenD {k : Nat} {kvs : List (Key × PyData)} (hk : c[k]? = some (.m kvs)) (q : Q (.d (.int (kvs.length : Int))) c) : VX K w uLenD [.c k] c Q := by
  intro B G0 ρ0 H0 G ρ H vs T E X sx fx kt
  obtain ⟨v, rfl, s⟩ := v1 sx
  obtain ⟨p, vs, rfl, hp, hd, r⟩ := dcell_at X s hk
  refine ⟨p, vs, rfl, hd, ?_⟩
  rw [show vs.length = kvs.length from Paired.length r]
  exact kt.d E X (.int _) q
end
end Gd
namespace Gd
open PySem PySem.Spec PyProof.Rows L2
theorem mxK_mem {x : Str} {S : List Str} {o : Str} (h : o ∈ S) : cm x o + 2 ≤ mxK x S := (mx_key x S 1).2.2 o h
structure Ty (ws : List Str) (x : Str) (L : Nat) : Prop where
  le : L ≤ x.length
  eq : typed ws x = cutT x L
  len : (typed ws x).length = L
  no : ∀ i, i < L → sug ws (cutT x i) ≠ some x
  yes : sug ws (cutT x L) = some x
theorem ty_of {ws : List Str} (gb : Gb ws) {x : Str} (h : x ∈ ws) : ∃ L, Ty ws x L := by
  obtain ⟨l, h1, h2, h3, h4, h5⟩ := typed_spec ws x
  refine ⟨l, h1, h2, h3, h4, ?_⟩
  by_cases z : l < x.length
  · exact h5 z
  · have e : l = x.length := by omega
    have ex : cutT x l = x := tl_inj (by rw [tl_cutT, e, TL.len_tl x, List.take_length])
    rw [ex]
    obtain ⟨o, ho⟩ := sug_some (ws := ws) (t := x) h (List.isPrefixOf_iff_prefix.mpr (List.prefix_refl _))
    have hp := sug_pre ho
    by_cases eo : o = x
    · rw [ho, eo]
    · have := gb.nc x h o (sug_mem ho) (Ne.symm eo)
      rw [sw_pre, hp] at this
      cases this
/-- the blocker -/
theorem blk_of {ws : List Str} (gb : Gb ws) {x : Str} {j L : Nat} (hj : ws[j]? = some x) (t : Ty ws x L) (hL : 0 < L) :
    ∃ m, blk ws x = some m ∧ m ∈ ws.drop (j + 1) ∧ cm x m = L - 1 ∧ ∀ o ∈ ws.drop (j + 1), cm x o ≤ L - 1 := by
  have hle := t.le
  have hs : Txt.startswith x (cutT x (L - 1)) = true := by
    rw [sw_pre, List.isPrefixOf_iff_prefix, tl_cutT]
    exact List.take_prefix _ _
  have sp := sug_split (ws.take j) (ws.drop (j + 1)) x (cutT x (L - 1))
  rw [← split_at hj, if_pos hs] at sp
  have tc := typed_cnt gb hj
  rw [t.len] at tc
  have mx : ∀ o ∈ ws.drop (j + 1), cm x o ≤ L - 1 := fun o ho => by
    have := mxK_mem (x := x) ho
    omega
  cases e : sug (ws.drop (j + 1)) (cutT x (L - 1)) with
  | none =>
    rw [e] at sp
    exact absurd sp (t.no (L - 1) (by omega))
  | some m =>
    rw [e] at sp
    have hm := sug_mem e
    refine ⟨m, ?_, hm, ?_, mx⟩
    · unfold blk
      rw [t.len, if_neg (by omega)]
      exact sp
    · have h1 := mx m hm
      have h2 : ¬ cm x m < L - 1 := fun z => by
        have q := (sug_none (S := [m]) (x := x) (l := L - 1) (by omega)).mpr fun o ho => by rw [List.mem_singleton.mp ho]; exact z
        have hp := sug_pre e
        rw [sug_pr] at q
        have hp2 : pre m (cutT x (L - 1)) = true := hp
        rw [List.reverse_singleton, List.find?_cons, hp2] at q
        cases q
      omega
end Gd
namespace Gd
open PySem PySem.Spec PyProof.Rows L2
def insL (x : Str) (r : List Str) : List (List Str) := (List.range (r.length + 1)).map fun s => r.take s ++ [x] ++ r.drop s
def orders (ws : List Str) : List (List Str) := ws.foldl (fun F x => F.flatMap (insL x)) [[]]
theorem orders_snoc (ws : List Str) (x : Str) : orders (ws ++ [x]) = (orders ws).flatMap (insL x) := by
  unfold orders
  rw [List.foldl_append]
  rfl
theorem insL_mem {x : Str} {q r : List Str} : r ∈ insL x q ↔ ∃ a b, q = a ++ b ∧ r = a ++ x :: b := by
  unfold insL
  rw [List.mem_map]
  constructor
  · rintro ⟨s, _, rfl⟩
    exact ⟨q.take s, q.drop s, (List.take_append_drop s q).symm, by simp⟩
  · rintro ⟨a, b, rfl, rfl⟩
    refine ⟨a.length, List.mem_range.mpr (by rw [List.length_append]; omega), by simp⟩
theorem snoc_ind {P : List Str → Prop} (h0 : P []) (h1 : ∀ ws x, P ws → P (ws ++ [x])) : ∀ ws, P ws := by
  intro ws
  have : ∀ n (ws : List Str), ws.length = n → P ws := by
    intro n
    induction n with
    | zero => intro ws e; rw [List.length_eq_zero_iff.mp e]; exact h0
    | succ n ih =>
      intro ws e
      rcases List.eq_nil_or_concat ws with z | ⟨ys, v, z⟩
      · rw [z] at e; cases e
      · rw [z, List.concat_eq_append]
        refine h1 _ _ (ih ys ?_)
        rw [z, List.concat_eq_append, List.length_append] at e
        simpa using e
  exact this _ ws rfl
theorem mem_orders (ws : List Str) : ∀ r, r ∈ orders ws ↔ r.Perm ws := by
  refine snoc_ind (P := fun ws => ∀ r, r ∈ orders ws ↔ r.Perm ws) ?_ ?_ ws
  · intro r
    show r ∈ [[]] ↔ _
    rw [List.mem_singleton, List.perm_nil]
  · intro ws x ih r
    rw [orders_snoc, List.mem_flatMap]
    constructor
    · rintro ⟨q, hq, hr⟩
      obtain ⟨a, b, rfl, rfl⟩ := insL_mem.mp hr
      exact (List.perm_middle.trans (List.Perm.cons x ((ih _).mp hq))).trans (List.perm_append_singleton x ws).symm
    · intro p
      have hx : x ∈ r := p.mem_iff.mpr (by simp)
      obtain ⟨a, b, rfl⟩ := List.append_of_mem hx
      refine ⟨a ++ b, (ih _).mpr ?_, insL_mem.mpr ⟨a, b, rfl, rfl⟩⟩
      have h := (List.perm_middle (l₁ := a) (l₂ := b) (a := x)).symm.trans (p.trans (List.perm_append_singleton x ws))
      exact (List.perm_cons x).mp h
theorem insL_nd {x : Str} {q : List Str} (h : x ∉ q) : (insL x q).Nodup := by
  unfold insL
  rw [List.Nodup, List.pairwise_map]
  refine List.Pairwise.imp_of_mem (fun {i j} hi hj ne e => ?_) (List.nodup_range (n := q.length + 1))
  have hi := List.mem_range.mp hi
  have hj := List.mem_range.mp hj
  have idx : ∀ s, s < q.length + 1 → (q.take s ++ [x] ++ q.drop s).idxOf x = s := fun s hs => by
    rw [List.append_assoc, List.idxOf_append, if_neg (fun m => h (List.mem_of_mem_take m))]
    simp [List.length_take]
    omega
  have := congrArg (List.idxOf x) e
  rw [idx i hi, idx j hj] at this
  exact ne this
theorem nd_orders {ws : List Str} : ws.Nodup → (orders ws).Nodup := by
  refine snoc_ind (P := fun ws => ws.Nodup → (orders ws).Nodup) ?_ ?_ ws
  · intro _
    show ([[]] : List (List Str)).Nodup
    simp
  · intro ws x ih nd
    have nd2 := List.nodup_append.mp nd
    have hx : x ∉ ws := fun m => nd2.2.2 x m x (by simp) rfl
    have no : ∀ q ∈ orders ws, x ∉ q := fun q hq m => hx (((mem_orders ws q).mp hq).mem_iff.mp m)
    rw [orders_snoc, List.Nodup, List.pairwise_flatMap]
    refine ⟨fun q hq => insL_nd (no q hq), ?_⟩
    refine List.Pairwise.imp_of_mem (fun {q p} hq hp ne r hr s hs e => ?_) (ih nd2.1)
    have er : ∀ {q r : List Str}, x ∉ q → r ∈ insL x q → r.erase x = q := fun {q r} n m => by
      obtain ⟨a, b, rfl, rfl⟩ := insL_mem.mp m
      rw [List.erase_append_right _ (fun z => n (List.mem_append_left _ z)), List.erase_cons_head]
    exact ne (by rw [← er (no q hq) hr, ← er (no p hp) hs, e])
theorem typed_le {r : List Str} (gb : Gb r) {x : Str} (hx : x ∈ r) (l : Nat) : ((typed r x).length ≤ l) ↔ sug r (cutT x l) = some x := by
  obtain ⟨L, t⟩ := ty_of gb hx
  rw [t.len]
  constructor
  · intro h
    refine sug_mono t.yes ?_ ?_
    · rw [tl_cutT, tl_cutT]
      exact List.take_prefix_take_left h
    · rw [tl_cutT]
      exact List.take_prefix _ _
  · intro h
    refine Nat.le_of_not_lt fun z => t.no l z h
end Gd
namespace Gd
open PySem PySem.Spec PyProof.Rows L2
def keyI (e : Int × Value) : Int := match e.2 with
  | .int x _ => x
  | _ => 0
def GoodI (w : World) (e : Int × Value) : Prop := ∃ x tk, e.2 = Value.int x tk ∧ e.1 = hashInt x
/-- the set of texts at a: ks its members, in some order, each once -/
def SetI (w : World) (h : Heap) (a : Addr) (ks : List Int) : Prop :=
  ∃ o es ep t, h.get? a = some o ∧ o.ExactSet ∧ o.data = .set es ep t ∧ (∀ e ∈ es.toList, GoodI w e) ∧
    (es.toList.map keyI).Perm ks ∧ ks.Nodup ∧ es.size < scanBound ∧ t.fits es.size = true ∧
    Ris t.place.toList ∧ (w.params.followText "set-order" = true ∨ t.led = true)
section
variable {P : Program} {w : World} {A : Around} {E : Value → Shared → Prop} {s : Shared} {h h' : Heap} {a : Addr} {ks : List Int}
theorem SetI.at (R : SetI w h a ks) (k : ∀ o, h.get? a = some o → h'.get? a = some o) : SetI w h' a ks := by
  obtain ⟨o, es, ep, t, ho, r⟩ := R
  exact ⟨o, es, ep, t, k o ho, r⟩
end
end Gd
namespace Gd
open PySem PySem.Spec PyProof.Rows L2
def Lay (par : Str → Option Str) (r : List Str) : Prop := r.Pairwise fun y x => par x ≠ some y
instance (par : Str → Option Str) (r : List Str) : Decidable (Lay par r) := inferInstanceAs (Decidable (List.Pairwise _ _))
/-- above or itself, within a list -/
inductive Anc (par : Str → Option Str) (ws : List Str) : Str → Str → Prop
  | refl {x : Str} : Anc par ws x x
  | step {x z y : Str} (h : par x = some z) (m : z ∈ ws) (t : Anc par ws z y) : Anc par ws x y
def Root (par : Str → Option Str) (ws : List Str) (z : Str) : Prop := ∀ y ∈ ws, par z ≠ some y
instance (par : Str → Option Str) (ws : List Str) (z : Str) : Decidable (Root par ws z) := inferInstanceAs (Decidable (∀ y ∈ ws, par z ≠ some y))
open Classical in
noncomputable def hook (par : Str → Option Str) (ws : List Str) (v : Str) : Nat := (ws.filter fun x => decide (Anc par ws x v)).length
def nLay (par : Str → Option Str) (ws : List Str) : Nat := ((orders ws).filter fun r => decide (Lay par r)).length
def prd (l : List Nat) : Nat := l.foldr (· * ·) 1
theorem prd_perm {l m : List Nat} (h : l.Perm m) : prd l = prd m := by
  induction h with
  | nil => rfl
  | cons x _ ih => show x * _ = x * _; rw [show List.foldr (· * ·) 1 _ = prd _ from rfl, ih]; rfl
  | swap x y l => show y * (x * _) = x * (y * _); rw [← Nat.mul_assoc, ← Nat.mul_assoc, Nat.mul_comm y x]
  | trans _ _ h1 h2 => rw [h1, h2]
theorem prd_cons (a : Nat) (l : List Nat) : prd (a :: l) = a * prd l := rfl
variable {par : Str → Option Str} {ws : List Str}
theorem anc_root {r v : Str} (R : Root par ws r) (h : Anc par ws r v) : v = r := by
  cases h with
  | refl => rfl
  | step h m t => exact absurd h (R _ m)
theorem anc_erase {r x v : Str} (R : Root par ws r) (nv : v ≠ r) : Anc par (ws.erase r) x v ↔ Anc par ws x v := by
  constructor
  · intro h
    induction h with
    | refl => exact .refl
    | step h m t ih => exact .step h (List.mem_of_mem_erase m) (ih nv)
  · intro h
    induction h with
    | refl => exact .refl
    | @step x z y h m t ih =>
      refine .step h ((List.mem_erase_of_ne ?_).mpr m) (ih nv)
      rintro rfl
      exact nv (anc_root R t)
theorem hook_erase {r v : Str} (R : Root par ws r) (hr : r ∈ ws) (nv : v ≠ r) : hook par (ws.erase r) v = hook par ws v := by
  unfold hook
  have p := (List.perm_cons_erase hr).filter (fun x => @decide (Anc par ws x v) (Classical.propDecidable _))
  rw [p.length_eq, List.filter_cons, if_neg (by
    simp only [decide_eq_true_eq]
    exact fun h => nv (anc_root R h))]
  congr 1
  refine List.filter_congr fun x _ => ?_
  exact decide_eq_decide.mpr (anc_erase R nv)
theorem root_one {x a b : Str} (h1 : Anc par ws x a) (h2 : Anc par ws x b) (ra : Root par ws a) (rb : Root par ws b) : a = b := by
  induction h1 with
  | refl => exact (anc_root ra h2).symm
  | step h m t ih =>
    refine ih ?_ ra
    cases h2 with
    | refl => exact absurd h (rb _ m)
    | step h' m' t' =>
      rw [h] at h'
      cases h'
      exact t'
theorem root_of (L : Lay par ws) (ir : ∀ x ∈ ws, par x ≠ some x) : ∀ (n : Nat) (a : List Str) (x : Str) (b : List Str), ws = a ++ x :: b → b.length = n → ∃ z ∈ ws, Root par ws z ∧ Anc par ws x z := by
  intro n
  induction n using Nat.strongRecOn with
  | ind n ih =>
    intro a x b e l
    have hx : x ∈ ws := by rw [e]; simp
    by_cases R : Root par ws x
    · exact ⟨x, hx, R, .refl⟩
    · have : ∃ y ∈ ws, par x = some y := by
        apply Classical.byContradiction
        intro h
        exact R fun y m z => h ⟨y, m, z⟩
      obtain ⟨y, hy, py⟩ := this
      have L2 := L
      rw [e, Lay, List.pairwise_append] at L2
      have hb : y ∈ b := by
        have hy2 := hy
        rw [e] at hy2
        rcases List.mem_append.mp hy2 with h | h
        · exact absurd py (L2.2.2 y h x (by simp))
        · rcases List.mem_cons.mp h with h | h
          · subst h; exact absurd py (ir y hy)
          · exact h
      obtain ⟨b1, b2, rfl⟩ := List.append_of_mem hb
      obtain ⟨z, hz, rz, az⟩ := ih b2.length (by rw [← l]; simp; omega) (a ++ x :: b1) y b2 (by rw [e]; simp) rfl
      exact ⟨z, hz, rz, .step py hy az⟩
theorem sum_rel {α β : Type} (p : β → α → Bool) {S : List α} (nd : S.Nodup) : ∀ L : List β, (∀ r ∈ L, ∃ z ∈ S, p r z = true ∧ ∀ y ∈ S, p r y = true → y = z) → (S.map fun y => (L.filter fun r => p r y).length).sum = L.length
  | [], _ => by
    have : ∀ T : List α, (T.map fun y => (([] : List β).filter fun r => p r y).length).sum = 0 := by
      intro T
      induction T with
      | nil => rfl
      | cons a T ih => rw [List.map_cons, List.sum_cons, ih]; rfl
    exact this S
  | r :: L, h => by
    have ih := sum_rel p nd L fun q hq => h q (by simp [hq])
    obtain ⟨z, hz, pz, uz⟩ := h r (by simp)
    have one : (S.map fun y => if p r y = true then 1 else 0).sum = 1 := by
      clear ih h
      induction S with
      | nil => cases hz
      | cons a S ih =>
        have nd2 := List.nodup_cons.mp nd
        rw [List.map_cons, List.sum_cons]
        by_cases q : z = a
        · subst q
          have z0 : (S.map fun y => if p r y = true then 1 else 0).sum = 0 := by
            have : ∀ T : List α, (∀ y ∈ T, p r y = false) → (T.map fun y => if p r y = true then 1 else 0).sum = 0 := by
              intro T
              induction T with
              | nil => intro _; rfl
              | cons b T ih => intro n; rw [List.map_cons, List.sum_cons, ih fun y hy => n y (by simp [hy]), n b (by simp)]; rfl
            refine this S fun y hy => ?_
            cases e : p r y with
            | false => rfl
            | true => exact absurd (uz y (by simp [hy]) e ▸ hy) nd2.1
          rw [z0, if_pos pz]
        · have hz2 : z ∈ S := by
            rcases List.mem_cons.mp hz with h | h
            · exact absurd h q
            · exact h
          have na : p r a = false := by
            cases e : p r a with
            | false => rfl
            | true => exact absurd (uz a (by simp) e).symm q
          rw [na, ih nd2.2 hz2 fun y hy => uz y (by simp [hy])]
          rfl
    have add : ∀ T : List α, (T.map fun y => ((r :: L).filter fun r => p r y).length).sum = (T.map fun y => if p r y = true then 1 else 0).sum + (T.map fun y => (L.filter fun r => p r y).length).sum := by
      intro T
      induction T with
      | nil => rfl
      | cons a T ihT =>
        simp only [List.map_cons, List.sum_cons]
        rw [ihT, List.filter_cons]
        split
        · rw [List.length_cons]; omega
        · omega
    rw [add, ih, one, List.length_cons]
    omega
def roots (par : Str → Option Str) (ws : List Str) : List Str := ws.filter fun z => decide (Root par ws z)
theorem mem_roots {z : Str} : z ∈ roots par ws ↔ z ∈ ws ∧ Root par ws z := by
  unfold roots
  rw [List.mem_filter, decide_eq_true_eq]
theorem sum_hooks (nd : ws.Nodup) (L : Lay par ws) (ir : ∀ x ∈ ws, par x ≠ some x) : ((roots par ws).map (hook par ws)).sum = ws.length := by
  refine sum_rel (fun x z => @decide (Anc par ws x z) (Classical.propDecidable _)) (S := roots par ws) (nd.sublist List.filter_sublist) ws fun x hx => ?_
  obtain ⟨a, b, e⟩ := List.append_of_mem hx
  obtain ⟨z, hz, rz, az⟩ := root_of L ir b.length a x b e rfl
  refine ⟨z, mem_roots.mpr ⟨hz, rz⟩, by simpa using az, fun y hy ey => ?_⟩
  simp only [decide_eq_true_eq] at ey
  exact root_one ey az (mem_roots.mp hy).2 rz
theorem nodup_same {α : Type} [DecidableEq α] {l m : List α} (nl : l.Nodup) (nm : m.Nodup) (h : ∀ x, x ∈ l ↔ x ∈ m) : l.Perm m := (List.perm_ext_iff_of_nodup nl nm).mpr (fun {x} => h x)
theorem nLay_last {z : Str} (nd : ws.Nodup) (hz : z ∈ ws) (R : Root par ws z) : (((orders ws).filter fun r => decide (Lay par r)).filter fun r => decide (r.getLast? = some z)).length = nLay par (ws.erase z) := by
  unfold nLay
  rw [← List.length_map (as := (orders (ws.erase z)).filter fun r => decide (Lay par r)) (f := fun q : List Str => q ++ [z])]
  refine (nodup_same (((nd_orders nd).sublist List.filter_sublist).sublist List.filter_sublist) ?_ fun r => ?_).length_eq
  · refine List.pairwise_map.mpr (((nd_orders (nd.erase z)).sublist List.filter_sublist).imp fun {a b} h e => h ?_)
    exact List.append_cancel_right e
  · simp only [List.mem_filter, List.mem_map, decide_eq_true_eq, mem_orders]
    constructor
    · rintro ⟨⟨pm, ly⟩, e⟩
      obtain ⟨q, rfl⟩ := List.getLast?_eq_some_iff.mp e
      refine ⟨q, ⟨?_, ly.sublist (List.sublist_append_left q [z])⟩, rfl⟩
      have : (z :: q).Perm ws := (List.perm_append_comm (l₁ := [z]) (l₂ := q)).trans pm
      exact (List.cons_perm_iff_perm_erase.mp this).2
    · rintro ⟨q, ⟨pm, ly⟩, rfl⟩
      refine ⟨⟨?_, ?_⟩, by simp⟩
      · exact (List.perm_append_comm (l₁ := q) (l₂ := [z])).trans (List.cons_perm_iff_perm_erase.mpr ⟨hz, pm⟩)
      · refine List.pairwise_append.mpr ⟨ly, List.pairwise_singleton _ _, fun y hy x hx => ?_⟩
        rw [List.mem_singleton.mp hx]
        exact R y (List.mem_of_mem_erase (pm.mem_iff.mp hy))
theorem nLay_sum (nd : ws.Nodup) (ne : ws ≠ []) (ir : ∀ x ∈ ws, par x ≠ some x) : ((roots par ws).map fun z => nLay par (ws.erase z)).sum = nLay par ws := by
  have h := sum_rel (fun (r : List Str) z => decide (r.getLast? = some z)) (S := roots par ws) (nd.sublist List.filter_sublist) ((orders ws).filter fun r => decide (Lay par r)) fun r hr => by
    obtain ⟨h1, h2⟩ := List.mem_filter.mp hr
    have pm := (mem_orders _ _).mp h1
    have ly := of_decide_eq_true h2
    cases e : r.getLast? with
    | none =>
      rw [List.getLast?_eq_none_iff] at e
      subst e
      exact absurd pm.symm.eq_nil ne
    | some z =>
      obtain ⟨q, rfl⟩ := List.getLast?_eq_some_iff.mp e
      refine ⟨z, mem_roots.mpr ⟨pm.mem_iff.mp (by simp), fun y hy => ?_⟩, by simp, fun y _ h => by have := of_decide_eq_true h; simp at this; exact this.symm⟩
      have hy2 := pm.mem_iff.mpr hy
      rcases List.mem_append.mp hy2 with m | m
      · exact (List.pairwise_append.mp ly).2.2 y m z (by simp)
      · rw [List.mem_singleton.mp m]
        exact ir z (pm.mem_iff.mp (by simp))
  rw [show nLay par ws = ((orders ws).filter fun r => decide (Lay par r)).length from rfl, ← h]
  congr 1
  refine List.map_congr_left fun z hz => ?_
  obtain ⟨hz1, hz2⟩ := mem_roots.mp hz
  exact (nLay_last nd hz1 hz2).symm
theorem lay_hooks : ∀ (n : Nat) (ws : List Str), ws.length = n → ws.Nodup → Lay par ws → (∀ x ∈ ws, par x ≠ some x) → nLay par ws * prd (ws.map (hook par ws)) = fac n := by
  intro n
  induction n with
  | zero =>
    intro ws l _ _ _
    rw [List.length_eq_zero_iff.mp l]
    rfl
  | succ n ih =>
    intro ws l nd L ir
    have ne : ws ≠ [] := by rintro rfl; cases l
    have each : ∀ z ∈ roots par ws, nLay par (ws.erase z) * prd (ws.map (hook par ws)) = fac n * hook par ws z := fun z hz => by
      obtain ⟨m, R⟩ := mem_roots.mp hz
      have h := ih (ws.erase z) (by rw [List.length_erase_of_mem m, l]; rfl) (nd.erase z) (L.sublist List.erase_sublist) fun x hx => ir x (List.mem_of_mem_erase hx)
      have e : (ws.erase z).map (hook par (ws.erase z)) = (ws.erase z).map (hook par ws) := List.map_congr_left fun v hv => hook_erase R m (by
        rintro rfl
        exact (List.Nodup.not_mem_erase nd) hv)
      rw [e] at h
      have p := prd_perm ((List.perm_cons_erase m).map (hook par ws))
      rw [p, List.map_cons, prd_cons, ← h]
      rw [Nat.mul_left_comm, Nat.mul_comm]
    rw [← nLay_sum nd ne ir]
    have key : ∀ S : List Str, (∀ z ∈ S, nLay par (ws.erase z) * prd (ws.map (hook par ws)) = fac n * hook par ws z) → (S.map fun z => nLay par (ws.erase z)).sum * prd (ws.map (hook par ws)) = fac n * (S.map (hook par ws)).sum := by
      intro S
      induction S with
      | nil => intro _; simp
      | cons a S ih2 =>
        intro h
        rw [List.map_cons, List.sum_cons, List.map_cons, List.sum_cons, Nat.add_mul, Nat.mul_add, h a (by simp), ih2 fun z hz => h z (by simp [hz])]
    rw [key _ each, sum_hooks nd L ir, l, fac_succ, Nat.mul_comm]
theorem idx_get {r : List Str} (nd : r.Nodup) {i : Nat} {x : Str} (h : r[i]? = some x) : r.idxOf x = i := by
  obtain ⟨hi, e⟩ := List.getElem?_eq_some_iff.mp h
  have hx : x ∈ r := List.mem_of_getElem? h
  have h1 : r.idxOf x < r.length := List.idxOf_lt_length_of_mem hx
  have h2 : r[r.idxOf x] = x := List.getElem_idxOf h1
  exact (List.getElem_inj nd).mp (h2.trans e.symm)
theorem idx_at {r : List Str} {x : Str} (h : x ∈ r) : r[r.idxOf x]? = some x := by
  have h1 : r.idxOf x < r.length := List.idxOf_lt_length_of_mem h
  rw [List.getElem?_eq_getElem h1, List.getElem_idxOf h1]
theorem sug_idx {r : List Str} (nd : r.Nodup) {t y z : Str} (h : sug r t = some y) (hz : z ∈ r) (pz : pre z t = true) : r.idxOf z ≤ r.idxOf y := by
  have hy := sug_mem h
  have sp := split_at (idx_at hy)
  have ss := sug_split (r.take (r.idxOf y)) (r.drop (r.idxOf y + 1)) y t
  rw [← sp, h] at ss
  have nd2 := nd
  rw [sp, List.nodup_append] at nd2
  have ny : y ∉ r.drop (r.idxOf y + 1) := (List.nodup_cons.mp nd2.2.1).1
  by_cases m : z ∈ r.drop (r.idxOf y + 1)
  · obtain ⟨o, ho⟩ := sug_some (ws := r.drop (r.idxOf y + 1)) (t := t) m pz
    rw [ho] at ss
    have e : y = o := Option.some.inj ss
    exact absurd (show y ∈ r.drop (r.idxOf y + 1) from by
      have q := sug_mem ho
      rwa [← e] at q) ny
  · obtain ⟨i, hi⟩ := List.mem_iff_getElem?.mp hz
    rw [idx_get nd hi]
    apply Classical.byContradiction
    intro c
    refine m (List.mem_iff_getElem?.mpr ⟨i - (r.idxOf y + 1), ?_⟩)
    rw [List.getElem?_drop, show r.idxOf y + 1 + (i - (r.idxOf y + 1)) = i by omega]
    exact hi
theorem lay_idx {r : List Str} (nd : r.Nodup) {par : Str → Option Str} : Lay par r ↔ ∀ x ∈ r, ∀ y ∈ r, r.idxOf y < r.idxOf x → par x ≠ some y := by
  unfold Lay
  rw [List.pairwise_iff_getElem]
  constructor
  · intro h x hx y hy l
    have hx1 : r.idxOf x < r.length := List.idxOf_lt_length_of_mem hx
    have hy1 : r.idxOf y < r.length := List.idxOf_lt_length_of_mem hy
    have := h _ _ hy1 hx1 l
    rwa [List.getElem_idxOf hx1, List.getElem_idxOf hy1] at this
  · intro h i j hi hj l
    refine h _ (List.getElem_mem hj) _ (List.getElem_mem hi) ?_
    rw [idx_get nd (List.getElem?_eq_getElem hi), idx_get nd (List.getElem?_eq_getElem hj)]
    exact l
theorem blk_sug {ws : List Str} {x y : Str} (h : blk ws x = some y) : 0 < (typed ws x).length ∧ sug ws (cutT x ((typed ws x).length - 1)) = some y := by
  unfold blk at h
  split at h
  · cases h
  · exact ⟨by omega, h⟩
theorem blk_ne {ws : List Str} (gb : Gb ws) {x : Str} (hx : x ∈ ws) : blk ws x ≠ some x := fun h => by
  obtain ⟨h1, h2⟩ := blk_sug h
  obtain ⟨L, t⟩ := ty_of gb hx
  rw [t.len] at h1 h2
  exact t.no (L - 1) (by omega) h2
theorem alike_lay {ws r : List Str} (gb : Gb ws) (pm : r.Perm ws) : stt r = stt ws ↔ Lay (blk ws) r := by
  have gr := gb.perm pm
  rw [lay_idx gr.nd]
  constructor
  · intro h x hx y hy l e
    have es : sug r = sug ws := funext fun t => sug_of_stt gr gb pm h 13 t (by omega)
    obtain ⟨_, h2⟩ := blk_sug e
    rw [← es] at h2
    have := sug_idx gr.nd h2 hx (pre_cut x _)
    omega
  · intro h
    have key : ∀ t : Str, sug r t = sug ws t := fun t => by
      cases e : sug ws t with
      | none =>
        cases e2 : sug r t with
        | none => rfl
        | some o =>
          obtain ⟨z, hz⟩ := sug_some (ws := ws) (t := t) (pm.mem_iff.mp (sug_mem e2)) (sug_pre e2)
          rw [e] at hz
          cases hz
      | some z =>
        have hz := sug_mem e
        have chain : ∀ (n : Nat) (x : Str) (j : Nat), ws[j]? = some x → ws.length - j = n → pre x t = true → x ≠ z → r.idxOf x < r.idxOf z := by
          intro n
          induction n using Nat.strongRecOn with
          | ind n ih =>
            intro x j hj hn px ne
            have hx := List.mem_of_getElem? hj
            have jl := (List.getElem?_eq_some_iff.mp hj).1
            obtain ⟨L, ty⟩ := ty_of gb hx
            have et : cutT x t.length = t := cutT_pre (List.isPrefixOf_iff_prefix.mp px)
            have tl_ : t.length < L := by
              apply Classical.byContradiction
              intro c
              have := (typed_le gb hx t.length).mp (by rw [ty.len]; omega)
              rw [et, e] at this
              exact ne (Option.some.inj this).symm
            obtain ⟨m, bm, mm, cmx, _⟩ := blk_of gb hj ty (by omega)
            have pm_ : pre m t = true := by
              have := sw_cm (x := x) (o := m) (l := t.length) (by have := ty.le; omega)
              rw [et, sw_pre, decide_eq_true (by omega)] at this
              exact this
            obtain ⟨i, hi⟩ := List.mem_iff_getElem?.mp mm
            rw [List.getElem?_drop] at hi
            have il := (List.getElem?_eq_some_iff.mp hi).1
            have hm := List.mem_of_getElem? hi
            have nxm : x ≠ m := by
              rintro rfl
              have a := idx_get gb.nd hj
              have b := idx_get gb.nd hi
              omega
            have bef : r.idxOf x < r.idxOf m := by
              have hxr := pm.mem_iff.mpr hx
              have hmr := pm.mem_iff.mpr hm
              rcases Nat.lt_trichotomy (r.idxOf x) (r.idxOf m) with l | l | l
              · exact l
              · have a := idx_at hxr
                rw [l, idx_at hmr] at a
                exact absurd (Option.some.inj a).symm nxm
              · exact absurd bm (h x hxr m hmr l)
            by_cases em : m = z
            · rw [← em]; exact bef
            · exact Nat.lt_trans bef (ih (ws.length - (j + 1 + i)) (by omega) m (j + 1 + i) hi rfl pm_ em)
        obtain ⟨o, ho⟩ := sug_some (ws := r) (t := t) (pm.mem_iff.mpr hz) (sug_pre e)
        rw [ho]
        by_cases q : o = z
        · rw [q]
        · obtain ⟨j, hj⟩ := List.mem_iff_getElem?.mp (pm.mem_iff.mp (sug_mem ho))
          have a := chain _ o j hj rfl (sug_pre ho) q
          have b := sug_idx gr.nd ho (pm.mem_iff.mpr hz) (sug_pre e)
          omega
    refine (stt_keys gr gb pm).mpr fun x _ => ?_
    have es : sug r = sug ws := funext key
    unfold typed typ
    rw [es]
theorem lay_self {ws : List Str} (gb : Gb ws) : Lay (blk ws) ws := (alike_lay gb (List.Perm.refl ws)).mp rfl
end Gd
namespace Gd
open PySem PySem.Spec PyProof.Rows L2
/-- from here on the dict changes no more -/
def tFrz (t : TE) : TE := fun σ H Q => t σ H fun v H1 => ∃ a kvs, v = .ref a ∧ H1 a = some (.dK kvs) ∧ ∀ od, Q v (upd H1 a (.frz od (.dK kvs)))
theorem PE.frz {X : Cx} {ex : Expr} {t : TE} (h : PE X ex t) : PE X ex (tFrz t) := by
  refine ⟨fun pins s σ H Q I q => ?_⟩
  refine thn (h.run pins s σ H _ I q) fun u s1 ⟨v, H1, I1, rv, a, kvs, ev, ha, q1⟩ => ?_
  subst ev
  obtain ⟨od, I2⟩ := I1.lock ha trivial
  exact ⟨_, _, I2, rv, q1 od⟩
section
variable {K : PySem.W.Frag} {w : World} {B G G' G'' G0 : Addr → Prop} {ρ ρ' ρ'' ρ0 : List Addr} {H H' H'' H0 : Hp} {c c' : Cs} {σ : L2.St} {e e' : Ev} {v vx vy : V} {u u2 x y : W}
variable {Q : W → Cs → Prop} {D : DV} {Dh : Ends} {g : TG} {t : TA} {te tk tv td ty : TE} {tt : TT} {ts : TS} {ws : List Nat}
theorem v_frz (h : VE K w te e c fun u c1 => ∃ k kvs, u = .c k ∧ c1[k]? = some (.m kvs) ∧ Q (.c k) (c1.set k (.fz kvs))) : VE K w (tFrz te) e c Q := by
  intro B G ρ σ H T X S kt
  refine h B G ρ σ H _ X S fun u v c1 G1 ρ1 H1 E1 X1 s1 f1 ⟨k, kvs, eu, hk, q⟩ => ?_
  subst eu
  obtain ⟨p, vs, rfl, hp, hd, r⟩ := dcell_at X1 s1 hk
  refine ⟨p, vs, rfl, hd, fun od => ?_⟩
  have m := List.mem_of_getElem? hp
  have kk : ∀ b o, G1 b → H1 b = some o → upd H1 p (.frz od (.dK vs)) b = some o := fun b o g e => by rw [upd_ne fun z => X1.av p m (by rw [← z]; exact g)]; exact e
  have X2 := X1.mut hp (o := .frz od (.dK vs)) (x := .fz kvs) (.fz upd_same (r.mv kk fun _ h => h))
  exact kt _ _ _ _ _ _ (E1.mut m) X2 (.c hp) trivial q
def wKeys (R : It → Hp → Prop) (v : V) (H : Hp) : Prop := ∃ d o, v = .ref d ∧ ((∃ kvs, H d = some (.frz o (.dK kvs)) ∧ R (Itk d o kvs) H) ∨ ∃ kvs, H d = some (.frz o (.dT kvs)) ∧ R (Itkt d o kvs) H)
theorem rd_forK {σ : L2.St} (q : te σ H fun v H1 => wKeys (Rf g ts Dh σ) v H1) : tFor (iKeys te) g ts Dh σ H := q
theorem v_forK (h : VE K w te e c fun u c1 => VFU K w wKeys u e c1 g ts D) : VS K w (tFor (iKeys te) g ts) e c D := by
  intro B G ρ σ H Dh X S L
  exact rd_forK (h B G ρ σ H _ X S fun u v c1 G1 ρ1 H1 E1 X1 s1 f1 q1 => q1 B G1 ρ1 σ H1 v Dh X1 (E1.sl X S) s1 (L.re E1))
theorem it_dm {kvs : List (Key × PyData)} : ItU K w wKeys (.dm kvs) c kvs.length (fun i d => ∃ k z, kvs[i]? = some (k, z) ∧ d = kD k) (fun _ => True) := by
  intro B G ρ H v X s
  cases s with
  | @dm p o vs _ h r g =>
    have hl := Paired.length r
    have wk := walk_keys (d := p) (o := o) (kvs := vs)
    rw [hl] at wk
    refine ⟨Itk p o vs, _, _, wk, fun R q => ⟨p, o, rfl, .inl ⟨vs, h, q⟩⟩, fun c' G' ρ' H' E X' _ => E.keep X _ _ g h, fun i x c' G' ρ' H' H'' E X' _ hi y => ?_⟩
    obtain ⟨rfl, k, z, e1, rfl⟩ := y
    obtain ⟨b, hb⟩ : ∃ b, kvs[i]? = some b := ⟨_, List.getElem?_eq_getElem hi⟩
    obtain ⟨a, ha, q⟩ := paired_get r hb
    rw [e1] at ha
    cases ha
    refine ⟨kD b.1, ⟨b.1, b.2, hb, rfl⟩, yv_same X' ?_⟩
    rw [← q.1]
    cases k with
    | inl i => exact .int i
    | inr s => exact .str s
theorem v_dgetM (h : VE K w td e c fun x c1 => VE K w ty e c1 fun y c2 => ∃ kvs key d, x = .dm kvs ∧ y = .d (kD key) ∧ valG kvs key = some d ∧ Q (.d d) c2) : VE K w (tDGet td ty) e c Q := by
  intro B G ρ σ H T X S kt
  refine h B G ρ σ H _ X S fun x vx c1 G1 ρ1 H1 E1 X1 s1 f1 q1 => ?_
  refine q1 B G1 ρ1 σ H1 _ X1 (E1.sl X S) fun y vy c2 G2 ρ2 H2 E2 X2 s2 f2 ⟨kvs, key, d, ex, ey, hv, q2⟩ => ?_
  subst ex ey
  cases E2.sh X1 s1 with
  | @dm p o vs _ hp r gp =>
    cases s2 with
    | d s2 =>
      rw [kD_v s2]
      rcases (show KR _ _ vs kvs from r).val key with ⟨_, e0⟩ | ⟨a, b, e1, e2, e3⟩
      · rw [hv] at e0; cases e0
      · rw [hv] at e2
        cases e2
        exact ⟨p, a, rfl, .inl ⟨vs, key, .inr ⟨o, hp⟩, rfl, e1.symm⟩, kt.d (E1.trans E2) X2 e3 q2⟩
def DTurn (K : PySem.W.Frag) (w : World) (g : TG) (tt : TT) (tk tv : TE) (ws : List Nat) (e : Ev) (c : Cs) (d : PyData) (r : Option (Key × PyData)) : Prop :=
  VG K w g (.d d) (wipeE e ws) c fun e2 c2 => VT K w tt e2 c2 fun b c3 => if b = true then VE K w tk e2 c3 fun y c4 => VE K w tv e2 c4 fun z c5 => ∃ key dz, y = .d (kD key) ∧ dat1 z = some dz ∧ r = some (key, dz) ∧ c5 = c else r = none ∧ c3 = c
def putAll (l : List (Key × PyData)) : List (Key × PyData) := l.foldl (fun d p => putG d p.1 p.2) []
theorem putAll_snoc (l : List (Key × PyData)) (p : Key × PyData) : putAll (l ++ [p]) = putG (putAll l) p.1 p.2 := by
  unfold putAll
  rw [List.foldl_append]
  rfl
theorem putAll_len (l : List (Key × PyData)) : (putAll l).length ≤ l.length := by
  have key : ∀ (l : List (Key × PyData)) (d : List (Key × PyData)), (l.foldl (fun d p => putG d p.1 p.2) d).length ≤ d.length + l.length := by
    intro l
    induction l with
    | nil => intro d; exact Nat.le_refl _
    | cons p l ih =>
      intro d
      have h1 := ih (putG d p.1 p.2)
      have h2 : (putG d p.1 p.2).length ≤ d.length + 1 := by
        unfold putG
        split
        · rw [List.length_map]; omega
        · rw [List.length_append]; exact Nat.le_refl _
      rw [List.foldl_cons, List.length_cons]
      omega
  have := key l []
  simpa [putAll] using this
def Rdc (g : TG) (tt : TT) (tk tv : TE) (vs : List Nat) (σ : L2.St) (Q : VK) (J : It) (H1 : Hp) : Prop := ∀ D, H1 D = none → ∃ W : Nat → Nat → Hp → Prop, (∃ m, W 0 m (upd H1 D (.dK []))) ∧ ∀ i m H, W i m H →
  (J.stop i H ∧ Q (.ref D) H) ∨ (J.go i H ∧ ∃ Nx : Hp → Prop, (∀ H', Nx H' → ∃ m', m' < m ∧ W (i + 1) m' H') ∧ ∀ x H', J.yld i H x H' → g x (wipe σ vs) H' fun σ2 H2 => wipe σ2 vs = wipe σ vs ∧ tt σ2 H2 fun b H3 =>
    if b = true then tk σ2 H3 fun y H4 => tv σ2 H4 fun z H5 => ∃ kvs k, y = kV k ∧ H5 D = some (.dK kvs) ∧ kvs.length < sizeLine ∧ Nx (upd H5 D (.dK (putK kvs k z))) else Nx H3)
theorem vdc_core {T : VK} {wf' : (It → Hp → Prop) → Hp → Prop} {n : Nat} {item : Nat → PyData → Prop} {keep : Cs → Prop} {α : Type} (ys : List α) (m : α → PyData) (f : α → Option (Key × PyData)) (it : IsIt wf' B G ρ H n item keep) (hn : n = ys.length)
    (hi : ∀ i d, i < n → item i d → ∃ y, ys[i]? = some y ∧ d = m y) (EB : Ext G0 ρ0 H0 G ρ H) (X : Hx B G ρ c H) (S : Sl K w B G ρ H σ e) (kt : Kt K w B G0 ρ0 H0 Q T) (hk : ∀ kvs, keep (c ++ [.m kvs]))
    (on : GOn ws g) (hz : ys.length < sizeLine) (hs : ∀ y ∈ ys, ∀ kvs, DTurn K w g tt tk tv ws e (c ++ [.m kvs]) (m y) (f y)) (q : Q (.c c.length) (c ++ [.m (putAll (ys.filterMap f))])) : wf' (Rdc g tt tk tv ws σ T) H := by
  obtain ⟨J, GG, Y, wk, r, hG, hY⟩ := it
  refine r _ fun D hD => ?_
  have ln := X.len
  let kv : Nat → List (Key × PyData) := fun i => putAll ((ys.take i).filterMap f)
  have hkv : ∀ i, (kv i).length ≤ i := fun i => by
    refine Nat.le_trans (putAll_len _) (Nat.le_trans (List.length_filterMap_le _ _) ?_)
    rw [List.length_take]
    exact Nat.min_le_left _ _
  let ok : Nat → Hp → Prop := fun i H' => ∃ G', Ext G ρ H G' (ρ ++ [D]) H' ∧ Hx B G' (ρ ++ [D]) (c ++ [.m (kv i)]) H'
  refine ⟨fun i mm H' => mm = n - i ∧ i ≤ n ∧ ok i H', ⟨n, by simp, Nat.zero_le _, G, (Ext.new hD).cell hD, (X.new hD).cell (.m upd_same .nil) (fun z => X.trk z hD) (fun g => X.live D g hD) fun g => X.liveb D g hD⟩, ?_⟩
  rintro i mm H' ⟨rfl, hin, G', E', X'⟩
  have hg := hG _ _ _ _ E' X' (hk (kv i))
  by_cases hlt : i < n
  · refine .inr ⟨wk.goes i H' hlt hg, ok (i + 1), fun H2 p => ⟨n - (i + 1), by omega, rfl, hlt, p⟩, fun x H'' yl => ?_⟩
    obtain ⟨d, hd', G2, E2, X2, q2⟩ := hY i x _ G' _ H' H'' E' X' (hk (kv i)) hlt (wk.yields i H' x H'' hlt hg yl)
    obtain ⟨y, hy, rfl⟩ := hi i d hlt hd'
    have st : (ys.take (i + 1)).filterMap f = (ys.take i).filterMap f ++ (f y).toList := by
      rw [List.take_add_one, hy, Option.toList_some, List.filterMap_append]
      congr 1
    have S' := sl_wipe (E'.sl X S) ws
    have hturn := hs y (List.mem_of_getElem? hy) (kv i)
    have main := on x (wipe σ ws) H'' _ (hturn B G' (ρ ++ [D]) H' G2 (ρ ++ [D]) (wipe σ ws) H'' x (fun σ2 H2 => tt σ2 H2 fun b H3 => if b = true then tk σ2 H3 fun y H4 => tv σ2 H4 fun z H5 => ∃ kvs k, y = kV k ∧ H5 D = some (.dK kvs) ∧ kvs.length < sizeLine ∧ ok (i + 1) (upd H5 D (.dK (putK kvs k z))) else ok (i + 1) H3) E2 X2 (E2.sl X' S') (.d q2) trivial fun e3 c3 σ3 G3 ρ3 H3 E3 _ X3 S3 q3 => ?_)
    · rw [wipe_wipe] at main
      exact main
    refine q3 B G3 ρ3 σ3 H3 _ X3 S3 fun b c4 G4 ρ4 H4 E4 X4 q4 => ?_
    have same : ∀ {G5 : Addr → Prop} {ρ5 : List Addr} {H5 : Hp}, Ext G' (ρ ++ [D]) H' G5 ρ5 H5 → Hx B G5 ρ5 (c ++ [.m (kv i)]) H5 → ρ5 = ρ ++ [D] := fun E5 X5 => by
      obtain ⟨zs, e5, _⟩ := E5.pre
      have l5 := X5.len
      rw [e5] at l5
      simp only [List.length_append, List.length_cons, List.length_nil] at l5
      have : zs = [] := List.eq_nil_of_length_eq_zero (by omega)
      rw [e5, this, List.append_nil]
    cases b with
    | false =>
      rw [if_neg (by decide)] at q4
      rw [if_neg (by decide)]
      obtain ⟨hf, ec⟩ := q4
      subst ec
      have e5 := same (E3.trans E4) X4
      subst e5
      refine ⟨G4, E'.trans (E3.trans E4), ?_⟩
      show Hx B G4 _ (c ++ [.m (putAll ((ys.take (i + 1)).filterMap f))]) H4
      rw [st, hf]
      simpa using X4
    | true =>
      rw [if_pos rfl] at q4
      rw [if_pos rfl]
      refine q4 B G4 ρ4 σ3 H4 _ X4 (E4.sl X3 S3) fun yk vk c5 G5 ρ5 H5 E5 X5 s5 f5 q5 => ?_
      have E35 := (E3.trans E4).trans E5
      refine q5 B G5 ρ5 σ3 H5 _ X5 ((E4.trans E5).sl X3 S3) fun zv vz c6 G6 ρ6 H6 E6 X6 s6 f6 ⟨key, dz, ek, hdz, hf, ec⟩ => ?_
      subst ek ec
      have E36 := E35.trans E6
      have e5 := same E36 X6
      subst e5
      cases s5 with
      | d s5 =>
        have ekv := kD_v s5
        subst ekv
        obtain ⟨G7, E7, X7, g7, q7⟩ := (Dd.of s6 ((E35).fr f6) hdz).data E36 X6
        have hp : (ρ ++ [D])[c.length]? = some D := by rw [← ln, List.getElem?_append_right (Nat.le_refl _)]; simp
        have hc : (c ++ [Cell.m (kv i)])[c.length]? = some (.m (kv i)) := by rw [List.getElem?_append_right (Nat.le_refl _)]; simp
        obtain ⟨p, vs, ev, hp2, hd, rr⟩ := dcell_at (K := K) (w := w) X7 (.c hp) hc
        cases ev
        have mD : D ∈ ρ ++ [D] := by simp
        refine ⟨vs, key, rfl, hd, by rw [Paired.length rr]; have := hkv i; omega, G7, E'.trans (E7.mut mD), ?_⟩
        have kk : ∀ b o, G7 b → H6 b = some o → upd H6 D (.dK (putK vs key vz)) b = some o := fun b o g e => by rw [upd_ne fun z => X7.av D mD (by rw [← z]; exact g)]; exact e
        have X8 := X7.mut hp (o := .dK (putK vs key vz)) (x := .m (putG (kv i) key dz)) (.m upd_same ((rr.put key q7).mv kk fun _ h => h))
        show Hx B G7 _ (c ++ [.m (putAll ((ys.take (i + 1)).filterMap f))]) _
        rw [st, hf, Option.toList_some, putAll_snoc]
        rw [List.set_append_right _ _ (Nat.le_refl _)] at X8
        simpa using X8
  · have e : i = n := by omega
    subst e
    refine .inl ⟨wk.stops H' hg, ?_⟩
    have hp : (ρ ++ [D])[c.length]? = some D := by rw [← ln, List.getElem?_append_right (Nat.le_refl _)]; simp
    refine kt _ _ _ _ _ _ (EB.trans E') X' (.c hp) trivial ?_
    show Q (.c c.length) (c ++ [.m (putAll ((ys.take i).filterMap f))])
    rw [hn, List.take_length]
    exact q
/-- over a list -/
theorem v_dcU {te1 : TE} {α : Type} (ys : List α) (m : α → PyData) (f : α → Option (Key × PyData)) (h : VE K w te1 e c fun u c1 => Lv c1 u (ys.map m) ∧ GOn ws g ∧ ys.length < sizeLine ∧ (∀ kvs, Lv (c1 ++ [.m kvs]) u (ys.map m)) ∧
    (∀ y ∈ ys, ∀ kvs, DTurn K w g tt tk tv ws e (c1 ++ [.m kvs]) (m y) (f y)) ∧ Q (.c c1.length) (c1 ++ [.m (putAll (ys.filterMap f))])) : VE K w (tDc (iU K te1) g tt tk tv ws) e c Q := by
  intro B G ρ σ H T X S k
  show te1 σ H fun v H1 => wU K (Rdc g tt tk tv ws σ T) v H1
  refine h B G ρ σ H _ X S fun u v c1 G1 ρ1 H1 E1 X1 s1 f1 ⟨hl, on, hz, hk, hs, q1⟩ => ?_
  exact vdc_core ys m f (it_l hl B G1 ρ1 H1 v X1 s1) (by simp) itl_map E1 X1 (E1.sl X S) k hk on hz hs q1
/-- over such a dict -/
theorem v_dcK {te1 : TE} {α : Type} (f : Key × PyData → Option (Key × PyData)) (h : VE K w te1 e c fun u c1 => ∃ kvs0, u = .dm kvs0 ∧ GOn ws g ∧ kvs0.length < sizeLine ∧
    (∀ y ∈ kvs0, ∀ kvs, DTurn K w g tt tk tv ws e (c1 ++ [.m kvs]) (kD y.1) (f y)) ∧ Q (.c c1.length) (c1 ++ [.m (putAll (kvs0.filterMap f))])) : VE K w (tDc (iKeys te1) g tt tk tv ws) e c Q := by
  intro B G ρ σ H T X S k
  show te1 σ H fun v H1 => wKeys (Rdc g tt tk tv ws σ T) v H1
  refine h B G ρ σ H _ X S fun u v c1 G1 ρ1 H1 E1 X1 s1 f1 ⟨kvs0, eu, on, hz, hs, q1⟩ => ?_
  subst eu
  exact vdc_core kvs0 (fun y => kD y.1) f (it_dm B G1 ρ1 H1 v X1 s1) rfl (fun i d _ ⟨k, z, h1, h2⟩ => ⟨(k, z), h1, h2⟩) E1 X1 (E1.sl X S) k (fun _ => trivial) on hz hs q1
def tDGetM (td ty : TE) : TE := tDGet td ty
theorem PE.as_dgm {X : Cx} {ex : Expr} (h : PE X ex (tDGet td ty)) : PE X ex (tDGetM td ty) := h
theorem v_dgetM' (h : VE K w td e c fun x c1 => VE K w ty e c1 fun y c2 => ∃ kvs key d, x = .dm kvs ∧ y = .d (kD key) ∧ valG kvs key = some d ∧ Q (.d d) c2) : VE K w (tDGetM td ty) e c Q := v_dgetM h
def uLenF : List V → Hp → VK → Prop := fun xs H Q => ∃ (a : Addr) (kvs : List (Key × V)), xs = [V.ref a] ∧ Rd H a (.dK kvs) ∧ Q (.int kvs.length) H
theorem cu_lenF {X : Cx} : CallR X (.builtin "len") uLenF := by
  intro pins s σ H xs us Q I r h
  obtain ⟨a, kvs, rfl, ha, q⟩ := h
  obtain ⟨u, rfl, ru⟩ := vals1 r
  cases ru
  exact d_len I ha fun t s' I' => ⟨.int kvs.length, H, I', ⟨t, rfl⟩, q⟩
theorem w_lenF {kvs : List (Key × PyData)} (q : Q (.d (.int (kvs.length : Int))) c) : VX K w uLenF [.dm kvs] c Q := by
  intro B G0 ρ0 H0 G ρ H vs T E X sx fx kt
  obtain ⟨v, rfl, s⟩ := v1 sx
  cases s with
  | @dm p o vs _ h r g =>
    refine ⟨p, vs, rfl, .inr ⟨o, h⟩, ?_⟩
    rw [show vs.length = kvs.length from Paired.length r]
    exact kt.d E X (.int _) q
/-- d[k] += n -/
theorem v_daug {f : Int → Int → Int} (h : VE K w td e c fun x c1 => VE K w ty e c1 fun y c2 => ∃ k kvs key a, x = .c k ∧ c2[k]? = some (.m kvs) ∧ y = .d (kD key) ∧ valG kvs key = some (.int a) ∧ kvs.length < sizeLine ∧
    VE K w tv e c2 fun u c3 => ∃ b, u = .d (.int b) ∧ c3 = c2 ∧ D.nx e (c2.set k (.m (putG kvs key (.int (f a b)))))) : VS K w (sDAug td ty tv (ipI f)) e c D := by
  intro B G ρ σ H Dh X S L
  refine h B G ρ σ H _ X S fun x vx c1 G1 ρ1 H1 E1 X1 s1 f1 q1 => ?_
  refine q1 B G1 ρ1 σ H1 _ X1 (E1.sl X S) fun y vy c2 G2 ρ2 H2 E2 X2 s2 f2 ⟨k, kvs, key, a, ex, hk, ey, hv, hl, q2⟩ => ?_
  subst ex ey
  have E12 := E1.trans E2
  obtain ⟨p, vs, rfl, hp, hd, r⟩ := dcell_at X2 (E2.sh X1 s1) hk
  cases s2 with
  | d s2 =>
    have ekv := kD_v s2
    subst ekv
    have g := DGet.k (k := key) hd
    rcases r.val key with ⟨_, e0⟩ | ⟨va, b, e1, e2, e3⟩
    · rw [hv] at e0; cases e0
    · rw [hv] at e2
      cases e2
      cases e3
      rw [e1] at g
      refine ⟨p, _, rfl, g, q2 B G2 ρ2 σ H2 _ X2 (E12.sl X S) fun u vu c3 G3 ρ3 H3 E3 X3 s3 f3 ⟨b, eu, ec, q3⟩ => ?_⟩
      subst eu ec
      cases s3 with
      | d s3 =>
        cases s3
        obtain ⟨p', vs', ev, hp', hd', r'⟩ := dcell_at (K := K) (w := w) X3 (E3.sh X2 (.c hp)) hk
        cases ev
        have m := List.mem_of_getElem? hp'
        refine ⟨_, _, rfl, rfl, _, DPut.k (k := key) hd' (by rw [Paired.length r']; exact hl), ?_⟩
        have kk : ∀ b o, G3 b → H3 b = some o → upd H3 p (.dK (putK vs' key (.int (f a b)))) b = some o := fun b o g e => by rw [upd_ne fun z => X3.av p m (by rw [← z]; exact g)]; exact e
        have X5 := X3.mut hp' (o := .dK (putK vs' key (.int (f a b)))) (x := .m (putG kvs key (.int (f a b)))) (.m upd_same ((r'.put key (.int _)).mv (fun b o g e => by rw [upd_ne fun z => X3.av p m (by rw [← z]; exact g)]; exact e) fun _ h => h))
        exact L.nx _ _ _ _ _ _ ((E12.trans E3).mut m) X5 (((E12.trans E3).mut m).sl X S) q3
end
end Gd
namespace Gd
open PySem PySem.Spec PyProof.Rows L2
inductive Ups (par : Str → Option Str) : Option Str → List Str → Prop
  | none : Ups par none []
  | some {y : Str} {l : List Str} (t : Ups par (par y) l) : Ups par (some y) (y :: l)
def upf (par : Str → Option Str) : Nat → Option Str → List Str
  | _, none => []
  | 0, some _ => []
  | n + 1, some y => y :: upf par n (par y)
theorem upf_eq {par : Str → Option Str} {o : Option Str} {l : List Str} (h : Ups par o l) : ∀ n, l.length ≤ n → upf par n o = l := by
  induction h with
  | none => intro n _; cases n <;> rfl
  | some t ih =>
    intro n hn
    cases n with
    | zero => simp at hn
    | succ n => rw [upf, ih n (by simpa using hn)]
theorem anc_ups {par : Str → Option Str} {ws : List Str} {v : Str} : ∀ (l : List Str) (x : Str), Ups par (par x) l → (∀ y ∈ l, y ∈ ws) → (Anc par ws x v ↔ v = x ∨ v ∈ l) := by
  intro l
  induction l with
  | nil =>
    intro x u _
    constructor
    · intro h
      cases h with
      | refl => exact .inl rfl
      | step h m t => rw [h] at u; cases u
    · rintro (rfl | h)
      · exact .refl
      · cases h
  | cons z l ih =>
    intro x u hm
    generalize e : par x = o at u
    cases u with
    | some t =>
      have ihz := ih z t fun y hy => hm y (by simp [hy])
      constructor
      · intro h
        cases h with
        | refl => exact .inl rfl
        | step h m t' =>
          rw [e] at h
          cases h
          rcases ihz.mp t' with rfl | h
          · exact .inr (by simp)
          · exact .inr (by simp [h])
      · rintro (rfl | h)
        · exact .refl
        · refine .step e (hm z (by simp)) (ihz.mpr ?_)
          rcases List.mem_cons.mp h with h | h
          · exact .inl h
          · exact .inr h
theorem prd_pos {l : List Nat} (h : ∀ a ∈ l, 1 ≤ a) : 1 ≤ prd l := by
  induction l with
  | nil => exact Nat.le_refl _
  | cons a l ih =>
    rw [prd_cons]
    have := Nat.mul_le_mul (h a (by simp)) (ih fun b hb => h b (by simp [hb]))
    simpa using this
theorem prd_app (a b : List Nat) : prd (a ++ b) = prd a * prd b := by
  induction a with
  | nil => rw [List.nil_append]; show _ = 1 * _; rw [Nat.one_mul]
  | cons x a ih => rw [List.cons_append, prd_cons, prd_cons, ih, Nat.mul_assoc]
theorem prd_take {l : List Nat} (h : ∀ a ∈ l, 1 ≤ a) (i : Nat) : prd (l.take i) ≤ prd l := by
  have e : prd l = prd (l.take i) * prd (l.drop i) := by rw [← prd_app, List.take_append_drop]
  have := prd_pos (l := l.drop i) fun a ha => h a (List.mem_of_mem_drop ha)
  rw [e]
  exact Nat.le_mul_of_pos_right _ this
def dW (ws : List Str) (g : Str → PyData) : List (Key × PyData) := ws.map fun v => (Sum.inr v, g v)
theorem dW_val {ws : List Str} {g : Str → PyData} {y : Str} (h : y ∈ ws) : valG (dW ws g) (Sum.inr y) = some (g y) := by
  unfold valG dW
  induction ws with
  | nil => cases h
  | cons a ws ih =>
    rw [List.map_cons, List.find?_cons]
    by_cases e : a = y
    · subst e; simp
    · rw [show decide ((Sum.inr a : Key) = Sum.inr y) = false from decide_eq_false fun z => e (Sum.inr.inj z)]
      exact ih (by
        rcases List.mem_cons.mp h with h | h
        · exact absurd h.symm e
        · exact h)
theorem dW_put {ws : List Str} {g : Str → PyData} {y : Str} {d : PyData} (h : y ∈ ws) : putG (dW ws g) (Sum.inr y) d = dW ws fun v => if v = y then d else g v := by
  unfold putG dW
  rw [if_pos (List.any_eq_true.mpr ⟨(Sum.inr y, g y), List.mem_map.mpr ⟨y, h, rfl⟩, by simp⟩), List.map_map]
  refine List.map_congr_left fun v _ => ?_
  show (if (Sum.inr v : Key) = Sum.inr y then ((Sum.inr v : Key), d) else (Sum.inr v, g v)) = _
  by_cases e : v = y
  · rw [if_pos (by rw [e])]
    show _ = ((Sum.inr v : Key), if v = y then d else g v)
    rw [if_pos e]
  · rw [if_neg fun z => e (Sum.inr.inj z)]
    show _ = ((Sum.inr v : Key), if v = y then d else g v)
    rw [if_neg e]
theorem putAll_nd {l : List (Key × PyData)} (nd : (l.map (·.1)).Nodup) : putAll l = l := by
  have key : ∀ (l a : List (Key × PyData)), ((a ++ l).map (·.1)).Nodup → l.foldl (fun d p => putG d p.1 p.2) a = a ++ l := by
    intro l
    induction l with
    | nil => intro a _; simp
    | cons p l ih =>
      intro a n
      have e : putG a p.1 p.2 = a ++ [p] := by
        unfold putG
        rw [if_neg]
        intro z
        obtain ⟨q, hq, eq⟩ := List.any_eq_true.mp z
        rw [List.map_append, List.nodup_append] at n
        exact n.2.2 q.1 (List.mem_map.mpr ⟨q, hq, rfl⟩) p.1 (by simp) (of_decide_eq_true eq)
      rw [List.foldl_cons, e, ih (a ++ [p]) (by simpa using n)]
      simp
  exact key l [] (by simpa using nd)
theorem dW_keys {ws : List Str} {g : Str → PyData} (nd : ws.Nodup) : ((dW ws g).map (·.1)).Nodup := by
  unfold dW
  rw [List.map_map]
  refine List.pairwise_map.mpr (nd.imp fun {a b} h e => h (Sum.inr.inj e))
end Gd
namespace Gd
open PySem PySem.Spec PyProof.Rows L2
variable {X : Cx}
theorem ps_setDc {i : Nat} {y : Str} {py : Pos} {kx vx tg iter : Expr} {ifs : List Expr} {scope : Scope} {own : List (Str × Nat)} {pos spos : Pos} {wi : TI} {g : TG} {tt : TT} {tk tv : TE} (hc : X.calm = true) (hN : X.N.Nodup) (hy : X.N[i]? = some y) (hyl : X.env.scope.names.lookup y = some .local)
    (hsw : swapsWith (.DictComp kx vx [⟨tg, iter, ifs, 0⟩] scope pos) (some (.Name y py)) spos.line X.env = pure true) (hi : PI X tg iter wi) (ok : BlkOk X.N X.env.scope scope own)
    (hg : ∀ (s : Shared) (H : Hp) (C : Addr) (cl : List (Str × Addr)) (fp : List Addr), PG (X.blk s H scope (compEnvC scope cl C X.env) fp) tg g) (ht : ∀ (s : Shared) (H : Hp) (C : Addr) (cl : List (Str × Addr)) (fp : List Addr), PTs (X.blk s H scope (compEnvC scope cl C X.env) fp) ifs tt)
    (hk : ∀ (s : Shared) (H : Hp) (C : Addr) (cl : List (Str × Addr)) (fp : List Addr), PE (X.blk s H scope (compEnvC scope cl C X.env) fp) kx tk)
    (he : ∀ (s : Shared) (H : Hp) (C : Addr) (cl : List (Str × Addr)) (fp : List Addr), PE (X.blk s H scope (compEnvC scope cl C X.env) fp) vx tv) (hs : ∀ x, foldedSetIterable iter X.env x = pure x := by intro _; rfl) :
    PS X (.Assign [.Name y py] (.DictComp kx vx [⟨tg, iter, ifs, 0⟩] scope pos) spos) (tAsg (tDc wi g tt tk tv (own.map (·.2))) (gName i)) := by
  refine ⟨fun pins s σ H D I h => ?_⟩
  rw [exec_Assign_Name_used _ _ _ _ hsw]
  refine wpAny_bind (wpAny_standAt (wpAny_bind ?_))
  show wpAny _ X.A (do let _ ← comprehension (.DictComp kx vx [⟨tg, iter, ifs, 0⟩] scope pos) scope X.env (firstIterPos [⟨tg, iter, ifs, 0⟩] pos) newDict false (eval iter X.env) (some (assign (.Name y py) X.env))) _ _ s
  have h : tDc wi g tt tk tv (own.map (·.2)) σ H (fun x H1 => gName i x σ H1 D.nx) := h
  refine wpAny_bind (thn (dc_core (Qf := fun _ s' => SP X pins D .next s') hc hN I hi ok hg ht hk he hs h fun L C s' m H' I' q hn f => ?_) fun _ s' hq => wpAny_pure (wpAny_pure hq))
  show wpAny _ _ (assign (.Name y py) X.env (.ref L)) _ _ _
  refine wpAny_assign_Name (store_ok2 (v := V.ref L) I' hN hy (.inl hyl) rfl (fun s2 I2 ⟨a, sb, ha⟩ => ?_) (.inr hyl))
  obtain ⟨f0, f1, f2, f3, f4, f5⟩ := f
  have haC : C ≠ a := by
    rcases ha with z | z
    · rw [z]; exact f1
    · exact fun e => f4 y a z e.symm
  refine ⟨m, hn.sameBut sb haC, fun h3 sb3 => ?_⟩
  exact ⟨_, H', I2.turned (t' := s2.toks) (fun b o hb e => (sb3.2 b hb).trans e) f0 f1 f3 f4 f5, q⟩
theorem sw_trueD {kx vx : Expr} {gs : List Comprehension} {scope : Scope} {pos py : Pos} {y : Str} {l : Nat} {env : Env} (hk : env.scope.kind = .function) (hy : env.scope.names.lookup y = some .local) (hl : (py.line == pos.line) = true)
    (ha : (scope.names.any fun (n, k) => n == y && (k == .local || k == .cell)) = false) : swapsWith (.DictComp kx vx gs scope pos) (some (.Name y py)) l env = pure true := by
  have ky : env.kindOf y = some .local := hy
  have hb : env.blockKind = .function := by unfold Env.blockKind; rw [hk]; rfl
  unfold swapsWith
  simp only [hb, ky, ha, Expr.pos, hl]
  rfl
end Gd
namespace Gd
open PySem PySem.Spec PyProof.Rows L2
structure Fo (par : Str → Option Str) (S : List Str) : Prop where
  nd : S.Nodup
  cl : ∀ x ∈ S, ∀ z, par x = some z → z ∈ S
  ex : ∃ o : List Str, o.Perm S ∧ Lay par o
  ir : ∀ x ∈ S, par x ≠ some x
variable {par : Str → Option Str} {S : List Str}
theorem fo_blk {ws : List Str} (gb : Gb ws) : Fo (blk ws) ws :=
  ⟨gb.nd, fun x _ z h => sug_mem (blk_sug h).2, ⟨ws, List.Perm.refl _, lay_self gb⟩, fun x hx => blk_ne gb hx⟩
def upsP (par : Str → Option Str) (S : List Str) (x : Str) : List Str := upf par S.length (par x)
theorem upsP_ex (F : Fo par S) {o : List Str} (p : o.Perm S) (L : Lay par o) : ∀ (n j : Nat) (x : Str), o[j]? = some x → o.length - j = n → ∃ l, Ups par (par x) l ∧ (∀ y ∈ l, ∃ i, j < i ∧ o[i]? = some y) ∧ l.Nodup ∧ l.length + j + 1 ≤ o.length := by
  have nd := p.nodup_iff.mpr F.nd
  rw [lay_idx nd] at L
  intro n
  induction n using Nat.strongRecOn with
  | ind n ih =>
    intro j x hj hn
    have hx := List.mem_of_getElem? hj
    have jl := (List.getElem?_eq_some_iff.mp hj).1
    cases e : par x with
    | none => exact ⟨[], .none, by simp, List.nodup_nil, by simp; omega⟩
    | some m =>
      have hm : m ∈ o := p.mem_iff.mpr (F.cl x (p.mem_iff.mp hx) m e)
      obtain ⟨i, hi⟩ := List.mem_iff_getElem?.mp hm
      have il := (List.getElem?_eq_some_iff.mp hi).1
      have a := idx_get nd hj
      have b := idx_get nd hi
      have ij : j < i := by
        rcases Nat.lt_trichotomy j i with h | h | h
        · exact h
        · subst h
          rw [hj] at hi
          cases hi
          exact absurd e (F.ir x (p.mem_iff.mp hx))
        · exact absurd e (L x hx m hm (by omega))
      obtain ⟨l, u, hl, nl, len⟩ := ih (o.length - i) (by omega) i m hi rfl
      refine ⟨m :: l, .some u, fun y hy => ?_, List.nodup_cons.mpr ⟨fun h => ?_, nl⟩, by simp; omega⟩
      · rcases List.mem_cons.mp hy with rfl | hy
        · exact ⟨i, ij, hi⟩
        · obtain ⟨k, k1, k2⟩ := hl y hy
          exact ⟨k, by omega, k2⟩
      · obtain ⟨k, k1, k2⟩ := hl m h
        have c := idx_get nd k2
        omega
structure UpsPOk (par : Str → Option Str) (S : List Str) (x : Str) : Prop where
  up : Ups par (par x) (upsP par S x)
  mem : ∀ y ∈ upsP par S x, y ∈ S
  nd : (upsP par S x).Nodup
  len : (upsP par S x).length ≤ S.length
  irr : x ∉ upsP par S x
theorem upsP_ok (F : Fo par S) {x : Str} (hx : x ∈ S) : UpsPOk par S x := by
  obtain ⟨o, p, L⟩ := F.ex
  have nd := p.nodup_iff.mpr F.nd
  obtain ⟨j, hj⟩ := List.mem_iff_getElem?.mp (p.mem_iff.mpr hx)
  obtain ⟨l, u, hl, nl, len⟩ := upsP_ex F p L _ j x hj rfl
  have e : upsP par S x = l := upf_eq u S.length (by rw [← p.length_eq]; omega)
  refine ⟨by rw [e]; exact u, fun y hy => ?_, by rw [e]; exact nl, by rw [e, ← p.length_eq]; omega, fun h => ?_⟩
  · rw [e] at hy
    obtain ⟨i, _, hi⟩ := hl y hy
    exact p.mem_iff.mp (List.mem_of_getElem? hi)
  · rw [e] at h
    obtain ⟨i, h1, h2⟩ := hl x h
    have a := idx_get nd hj
    have b := idx_get nd h2
    omega
def hkP (par : Str → Option Str) (S : List Str) (v : Str) : Nat := 1 + (S.filter fun x => decide (v ∈ upsP par S x)).length
theorem hkP_pos (par : Str → Option Str) (S : List Str) (v : Str) : 1 ≤ hkP par S v := by unfold hkP; omega
theorem hook_hkP (F : Fo par S) {v : Str} (hv : v ∈ S) : hook par S v = hkP par S v := by
  unfold hook hkP
  have p := List.perm_cons_erase hv
  rw [(p.filter _).length_eq, (p.filter fun x => decide (v ∈ upsP par S x)).length_eq, List.filter_cons, List.filter_cons, if_pos (by
    simp only [decide_eq_true_eq]
    exact .refl), if_neg (by
    simp only [decide_eq_true_eq]
    exact (upsP_ok F hv).irr), List.length_cons, Nat.add_comm]
  congr 2
  refine List.filter_congr fun x hx => decide_eq_decide.mpr ?_
  have hxw := List.mem_of_mem_erase hx
  have nv : v ≠ x := by
    rintro rfl
    exact (List.Nodup.not_mem_erase F.nd) hx
  have U := upsP_ok F hxw
  rw [anc_ups _ x U.up U.mem]
  exact ⟨fun h => h.resolve_left nv, .inr⟩
theorem anc_perm {o : List Str} (p : o.Perm S) {x v : Str} : Anc par o x v ↔ Anc par S x v := by
  constructor
  · intro h
    induction h with
    | refl => exact .refl
    | step h m t ih => exact .step h (p.mem_iff.mp m) ih
  · intro h
    induction h with
    | refl => exact .refl
    | step h m t ih => exact .step h (p.mem_iff.mpr m) ih
theorem fo_count (F : Fo par S) : nLay par S * prd (S.map (hkP par S)) = fac S.length := by
  obtain ⟨o, p, L⟩ := F.ex
  have nd := p.nodup_iff.mpr F.nd
  have h := lay_hooks o.length o rfl nd L fun x hx => F.ir x (p.mem_iff.mp hx)
  have e1 : nLay par o = nLay par S := by
    unfold nLay
    exact ((nodup_same (nd_orders nd) (nd_orders F.nd) fun r => by rw [mem_orders, mem_orders]; exact ⟨fun h => h.trans p, fun h => h.trans p.symm⟩).filter _).length_eq
  have e2 : prd (o.map (hook par o)) = prd (S.map (hkP par S)) := by
    rw [prd_perm (p.map (hook par o))]
    congr 1
    refine List.map_congr_left fun v hv => ?_
    rw [← hook_hkP F hv]
    unfold hook
    rw [(p.filter _).length_eq]
    congr 1
    exact List.filter_congr fun x _ => decide_eq_decide.mpr (anc_perm p)
  rw [e1, e2, p.length_eq] at h
  exact h
def Leaf (par : Str → Option Str) (S : List Str) (x : Str) : Prop := ∀ y ∈ S, par y ≠ some x
theorem fo_erase (F : Fo par S) {x : Str} (lf : Leaf par S x) : Fo par (S.erase x) := by
  obtain ⟨o, p, L⟩ := F.ex
  refine ⟨F.nd.erase x, fun y hy z hz => ?_, ⟨o.erase x, p.erase x, L.sublist List.erase_sublist⟩, fun y hy => F.ir y (List.mem_of_mem_erase hy)⟩
  have hyS := List.mem_of_mem_erase hy
  refine (List.mem_erase_of_ne ?_).mpr (F.cl y hyS z hz)
  rintro rfl
  exact lf y hyS hz
theorem ups_one {o : Option Str} {l m : List Str} (h : Ups par o l) (g : Ups par o m) : l = m := by
  induction h generalizing m with
  | none => cases g; rfl
  | some t ih =>
    cases g with
    | some t' => rw [ih t']
theorem upsP_erase (F : Fo par S) {x : Str} (lf : Leaf par S x) {y : Str} (hy : y ∈ S.erase x) : upsP par (S.erase x) y = upsP par S y :=
  ups_one (upsP_ok (fo_erase F lf) hy).up (upsP_ok F (List.mem_of_mem_erase hy)).up
theorem leaf_hk (F : Fo par S) {x : Str} (lf : Leaf par S x) : hkP par S x = 1 := by
  unfold hkP
  rw [List.filter_eq_nil_iff.mpr]
  · rfl
  · intro y hy
    simp only [decide_eq_true_eq]
    intro h
    have key : ∀ {o : Option Str} {l : List Str}, Ups par o l → x ∈ l → (o = some x ∨ ∃ z ∈ l, par z = some x) := by
      intro o l u
      induction u with
      | none => intro h; cases h
      | @some z l t ih =>
        intro h
        rcases List.mem_cons.mp h with rfl | h
        · exact .inl rfl
        · rcases ih h with e | ⟨q, hq, e⟩
          · exact .inr ⟨z, by simp, e⟩
          · exact .inr ⟨q, by simp [hq], e⟩
    have U := upsP_ok F hy
    rcases key U.up h with e | ⟨z, hz, e⟩
    · exact lf y hy e
    · exact lf z (U.mem z hz) e
theorem hk_erase (F : Fo par S) {x : Str} (hx : x ∈ S) (lf : Leaf par S x) {v : Str} : hkP par S v = hkP par (S.erase x) v + if v ∈ upsP par S x then 1 else 0 := by
  unfold hkP
  rw [((List.perm_cons_erase hx).filter fun y => decide (v ∈ upsP par S y)).length_eq, List.filter_cons]
  have e : ((S.erase x).filter fun y => decide (v ∈ upsP par (S.erase x) y)) = (S.erase x).filter fun y => decide (v ∈ upsP par S y) := List.filter_congr fun y hy => by rw [upsP_erase F lf hy]
  rw [e]
  by_cases m : v ∈ upsP par S x
  · rw [if_pos (by simpa using m), if_pos m, List.length_cons]; omega
  · rw [if_neg (by simpa using m), if_neg m]; omega
/-- the product, with the numbers of some words made smaller by one -/
theorem prd_less {f g : Str → Nat} {T A : List Str} (nT : T.Nodup) (nA : A.Nodup) (sub : ∀ a ∈ A, a ∈ T) (hA : ∀ v ∈ T, f v = g v + if v ∈ A then 1 else 0) :
    prd (T.map g) * prd (A.map f) = prd (T.map f) * prd (A.map fun v => f v - 1) := by
  induction A generalizing T with
  | nil =>
    have : T.map f = T.map g := List.map_congr_left fun v hv => by rw [hA v hv]; simp
    rw [this]
    rfl
  | cons a A ih =>
    have na := List.nodup_cons.mp nA
    have hT := sub a (by simp)
    have p := List.perm_cons_erase hT
    have ih2 := ih (T := T.erase a) (nT.erase a) na.2 (fun b hb => (List.mem_erase_of_ne (by rintro rfl; exact na.1 hb)).mpr (sub b (by simp [hb]))) fun v hv => by
      have ne : v ≠ a := by
        rintro rfl
        exact (List.Nodup.not_mem_erase nT) hv
      rw [hA v (List.mem_of_mem_erase hv)]
      simp [ne]
    have ea := hA a hT
    rw [if_pos (by simp)] at ea
    rw [prd_perm (p.map g), prd_perm (p.map f), List.map_cons, List.map_cons, List.map_cons, List.map_cons, prd_cons, prd_cons, prd_cons, prd_cons, ea, Nat.add_sub_cancel]
    calc g a * prd ((T.erase a).map g) * ((g a + 1) * prd (A.map f)) = g a * (g a + 1) * (prd ((T.erase a).map g) * prd (A.map f)) := by ac_rfl
      _ = g a * (g a + 1) * (prd ((T.erase a).map f) * prd (A.map fun v => f v - 1)) := by rw [ih2]
      _ = _ := by ac_rfl
/-- how many begin with such a word -/
theorem first_count (F : Fo par S) {x : Str} (hx : x ∈ S) (lf : Leaf par S x) :
    nLay par (S.erase x) * (S.length * prd ((upsP par S x).map fun v => hkP par S v - 1)) = nLay par S * prd ((upsP par S x).map (hkP par S)) := by
  have F' := fo_erase F lf
  have U := upsP_ok F hx
  have c1 := fo_count F
  have c2 := fo_count F'
  have len : S.length = (S.erase x).length + 1 := by rw [List.length_erase_of_mem hx]; have := List.length_pos_of_mem hx; omega
  have pl := prd_less (f := hkP par S) (g := hkP par (S.erase x)) (T := S.erase x) (A := upsP par S x) (F.nd.erase x) U.nd (fun a ha => (List.mem_erase_of_ne (by rintro rfl; exact U.irr ha)).mpr (U.mem a ha)) fun v _ => hk_erase F hx lf
  have ps : prd (S.map (hkP par S)) = prd ((S.erase x).map (hkP par S)) := by rw [prd_perm ((List.perm_cons_erase hx).map (hkP par S)), List.map_cons, prd_cons, leaf_hk F lf, Nat.one_mul]
  rw [ps] at c1
  have pos : 0 < prd ((S.erase x).map (hkP par (S.erase x))) := prd_pos fun a ha => by
    obtain ⟨v, _, rfl⟩ := List.mem_map.mp ha
    exact hkP_pos _ _ v
  refine Nat.eq_of_mul_eq_mul_right pos ?_
  have f1 : fac S.length = S.length * fac (S.erase x).length := by rw [len, fac_succ, Nat.mul_comm]
  generalize prd ((upsP par S x).map fun v => hkP par S v - 1) = L1 at *
  generalize prd ((upsP par S x).map (hkP par S)) = M1 at *
  generalize prd ((S.erase x).map (hkP par (S.erase x))) = P1 at *
  generalize prd ((S.erase x).map (hkP par S)) = P at *
  generalize nLay par (S.erase x) = a at *
  generalize nLay par S = t at *
  calc a * (S.length * L1) * P1 = S.length * (a * P1) * L1 := by ac_rfl
    _ = t * P * L1 := by rw [c2, ← f1, c1]
    _ = t * (P * L1) := Nat.mul_assoc _ _ _
    _ = t * (P1 * M1) := by rw [pl]
    _ = t * M1 * P1 := by ac_rfl
end Gd
namespace Gd
open PySem PySem.Spec PyProof.Rows L2
instance (par : Str → Option Str) (S : List Str) (x : Str) : Decidable (Leaf par S x) := inferInstanceAs (Decidable (∀ y ∈ S, par y ≠ some x))
def linesA : Nat → List Str → List (List Str)
  | 0, _ => [[]]
  | n + 1, S => S.flatMap fun x => (linesA n (S.erase x)).map (x :: ·)
def leaves (par : Str → Option Str) (S : List Str) : List Str := S.filter fun x => decide (Leaf par S x)
def linesP (par : Str → Option Str) : Nat → List Str → List (List Str)
  | 0, _ => [[]]
  | n + 1, S => (leaves par S).flatMap fun x => (linesP par n (S.erase x)).map (x :: ·)
variable {par : Str → Option Str} {S : List Str}
theorem linesA_mem : ∀ (n : Nat) (S : List Str), S.length = n → ∀ r, r ∈ linesA n S ↔ r.Perm S
  | 0, S, l, r => by
    rw [List.length_eq_zero_iff.mp l]
    show r ∈ [[]] ↔ _
    rw [List.mem_singleton]
    exact ⟨fun h => by rw [h], fun h => h.eq_nil⟩
  | n + 1, S, l, r => by
    show r ∈ S.flatMap _ ↔ _
    simp only [List.mem_flatMap, List.mem_map]
    constructor
    · rintro ⟨x, hx, q, hq, rfl⟩
      have := (linesA_mem n (S.erase x) (by rw [List.length_erase_of_mem hx, l]; rfl) q).mp hq
      exact List.cons_perm_iff_perm_erase.mpr ⟨hx, this⟩
    · intro p
      cases r with
      | nil => rw [p.symm.eq_nil] at l; cases l
      | cons x q =>
        obtain ⟨hx, pq⟩ := List.cons_perm_iff_perm_erase.mp p
        exact ⟨x, hx, q, (linesA_mem n (S.erase x) (by rw [List.length_erase_of_mem hx, l]; rfl) q).mpr pq, rfl⟩
theorem linesA_nd : ∀ (n : Nat) (S : List Str), S.Nodup → (linesA n S).Nodup
  | 0, _, _ => by simp [linesA]
  | n + 1, S, nd => by
    show (S.flatMap _).Nodup
    refine List.pairwise_flatMap.mpr ⟨fun x _ => ?_, nd.imp fun {a b} h => ?_⟩
    · exact List.pairwise_map.mpr ((linesA_nd n _ (nd.erase x)).imp fun h e => h (List.cons.inj e).2)
    · intro r hr r2 hr2 e
      obtain ⟨q, _, rfl⟩ := List.mem_map.mp hr
      obtain ⟨q', _, rfl⟩ := List.mem_map.mp hr2
      exact h (List.cons.inj e).1
theorem lay_cons {x : Str} {r : List Str} : Lay par (x :: r) ↔ (∀ y ∈ r, par y ≠ some x) ∧ Lay par r := List.pairwise_cons
/-- those that keep the order -/
theorem linesA_filter : ∀ (n : Nat) (S : List Str), S.length = n → (∀ x ∈ S, par x ≠ some x) → (linesA n S).filter (fun r => decide (Lay par r)) = linesP par n S
  | 0, S, _, _ => by
    show [[]].filter _ = [[]]
    rw [List.filter_cons, if_pos (by simp [Lay])]
    rfl
  | n + 1, S, l, ir => by
    have each : ∀ x ∈ S, ((linesA n (S.erase x)).map (x :: ·)).filter (fun r => decide (Lay par r)) = if Leaf par S x then (linesP par n (S.erase x)).map (x :: ·) else [] := fun x hx => by
      have le : (S.erase x).length = n := by rw [List.length_erase_of_mem hx, l]; rfl
      have ih := linesA_filter n (S.erase x) le fun y hy => ir y (List.mem_of_mem_erase hy)
      rw [List.filter_map]
      by_cases h : Leaf par S x
      · rw [if_pos h, ← ih]
        congr 1
        refine List.filter_congr fun r hr => ?_
        have p := (linesA_mem n _ le r).mp hr
        show decide (Lay par (x :: r)) = decide (Lay par r)
        rw [decide_eq_decide, lay_cons]
        exact ⟨fun z => z.2, fun z => ⟨fun y hy => h y (List.mem_of_mem_erase (p.mem_iff.mp hy)), z⟩⟩
      · rw [if_neg h, List.filter_eq_nil_iff.mpr, List.map_nil]
        intro r hr
        have p := (linesA_mem n _ le r).mp hr
        show ¬ decide (Lay par (x :: r)) = true
        rw [decide_eq_true_eq, lay_cons]
        intro z
        refine h fun y hy e => ?_
        have ne : y ≠ x := by
          rintro rfl
          exact ir y hy e
        exact z.1 y (p.mem_iff.mpr ((List.mem_erase_of_ne ne).mpr hy)) e
    show (S.flatMap _).filter _ = (S.filter _).flatMap _
    have key : ∀ T : List Str, (∀ x ∈ T, x ∈ S) → (T.flatMap fun x => (linesA n (S.erase x)).map (x :: ·)).filter (fun r => decide (Lay par r)) = (T.filter fun x => decide (Leaf par S x)).flatMap fun x => (linesP par n (S.erase x)).map (x :: ·) := by
      intro T
      induction T with
      | nil => intro _; rfl
      | cons a T ih =>
        intro h
        rw [List.flatMap_cons, List.filter_append, each a (h a (by simp)), ih fun x hx => h x (by simp [hx]), List.filter_cons]
        by_cases c : Leaf par S a
        · rw [if_pos c, if_pos (by simpa using c), List.flatMap_cons]
        · rw [if_neg c, if_neg (by simpa using c), List.nil_append]
    exact key S fun _ h => h
theorem linesP_len (F : Fo par S) : (linesP par S.length S).length = nLay par S := by
  rw [← linesA_filter S.length S rfl F.ir]
  unfold nLay
  refine ((nodup_same (linesA_nd _ _ F.nd) (nd_orders F.nd) fun r => ?_).filter _).length_eq
  rw [linesA_mem _ _ rfl, mem_orders]
theorem linesP_mem (F : Fo par S) {r : List Str} : r ∈ linesP par S.length S ↔ r.Perm S ∧ Lay par r := by
  rw [← linesA_filter S.length S rfl F.ir, List.mem_filter, linesA_mem _ _ rfl, decide_eq_true_eq]
end Gd
namespace Gd
open PySem PySem.Spec PyProof.Rows L2
variable {par : Str → Option Str} {S : List Str}
theorem nLay_pos (F : Fo par S) : 0 < nLay par S := by
  obtain ⟨o, p, L⟩ := F.ex
  unfold nLay
  exact List.length_pos_of_mem (a := o) (List.mem_filter.mpr ⟨(mem_orders _ _).mpr p, by simpa using L⟩)
theorem prdP_le (F : Fo par S) : prd (S.map (hkP par S)) ≤ fac S.length := by
  rw [← fo_count F]
  exact Nat.le_mul_of_pos_left _ (nLay_pos F)
theorem lay_div (F : Fo par S) : fac S.length / prd (S.map (hkP par S)) = nLay par S := by
  rw [← fo_count F, Nat.mul_div_cancel _ (prd_pos fun a ha => by
    obtain ⟨v, _, rfl⟩ := List.mem_map.mp ha
    exact hkP_pos _ _ v)]
theorem leaf_iff (F : Fo par S) {x : Str} : hkP par S x = 1 ↔ Leaf par S x := by
  constructor
  · intro h y hy e
    unfold hkP at h
    have : S.filter (fun y => decide (x ∈ upsP par S y)) = [] := List.eq_nil_of_length_eq_zero (by omega)
    have := List.filter_eq_nil_iff.mp this y hy
    refine this ?_
    have U := (upsP_ok F hy).up
    rw [e] at U
    generalize upsP par S y = l at U
    cases U with
    | some t => simp
  · exact leaf_hk F
theorem s_dm {K : PySem.W.Frag} {w : World} {c : Cs} {Q : W → Cs → Prop} {kvs : List (Key × PyData)} {ks : List Str} (e : kvs.map (·.1) = ks.map Sum.inr) (q : ∀ ys : List Str, ys.Perm ks → sortedS ys = true → Q (.o (ys.map .str)) c) : VX K w (uSort K w) [.dm kvs] c Q := by
  intro B G0 ρ0 H0 G ρ H vs T E X sx fx kt
  obtain ⟨v, rfl, s⟩ := v1 sx
  cases s with
  | @dm p o vs _ h r g =>
    exact .inr (.inl ⟨p, vs, ks, rfl, .inr ⟨o, h⟩, by rw [(show KR G H vs kvs from r).keys]; exact e, fun ys p pm so n => kt.l E X n (dqL_strs ys) (q ys pm so)⟩)
theorem erase_filter {S : List Str} (nd : S.Nodup) (x : Str) : S.filter (fun y => !decide (y = x)) = S.erase x := by
  rw [nd.erase_eq_filter]
  refine List.filter_congr fun y _ => ?_
  by_cases h : y = x <;> simp [h]
end Gd
namespace Gd
open PySem PySem.Spec PyProof.Rows L2
section
variable {X : Cx} {e : Expr} {te : TE} {p apos cpos pos : Pos}
def tListVals (te : TE) : TE := fun σ H Q => te σ H fun x H1 => ∃ (d : Addr) (kvs : List (Key × V)), x = .ref d ∧ H1 d = some (.dK kvs) ∧ ∀ p, H1 p = none → Q (.ref p) (upd H1 p (.lst (kvs.map (·.2))))
theorem kv_vals : ∀ {kvs : List (Key × V)} {vs : List (Key × Value)}, KV kvs vs → Vals (kvs.map (·.2)) (vs.map (·.2))
  | _, _, .nil => .nil
  | _, _, .cons h t => .cons h.2 (kv_vals t)
theorem pe_listVals (hc : X.calm = true) (hg : Gl X "list") (hm : X.mg "list" = none) (he : PE X e te) (hv : bootBuiltins "list" = some (.type "list") := by decide +kernel) (hbase : attributeBase e "values" X.env (eval e X.env) = eval e X.env := by rfl) (hline : (apos.endLine == cpos.line) = true := by rfl)
    (hs : starEach [.Call (.Attribute e "values" apos) [] [] cpos] X.env = (false, eval (.Call (.Attribute e "values" apos) [] [] cpos) X.env) :: starEach [] X.env := by rfl) :
    PE X (.Call (.Name "list" p) [.Call (.Attribute e "values" apos) [] [] cpos] [] pos) (tListVals te) := by
  refine ⟨fun pins s σ H Q I hq => ?_⟩
  refine wpAny_Call_Name_kw (ld_blt I hg hm hv ?_)
  refine PyProof.Rows.callWith_type1 ?_ hs rfl
  rw [hs]
  show wpAny _ _ (spliced ((false, eval (.Call (.Attribute e "values" apos) [] [] cpos) X.env) :: backTo pos (starEach [] X.env))) _ _ s
  refine Calls.spliced_cons ?_
  refine wpAny_Call_method (T := "dict") (id := "dict.values") hbase rfl hline F.plainAttrs_dict F.slot_dict_values F.type_dict_values (thn (he.run pins s σ H _ I hq) fun u s1 ⟨x, H1, I1, rx, d, kvs, ex, hd, q⟩ => ?_)
  subst ex
  obtain rfl : u = Value.ref d := rx
  obtain ⟨hz, hs0, vs, kv, hdo⟩ := I1.hok d _ hd
  obtain ⟨ep, hat⟩ := hdo.dictAt
  have lk : kvs.length = vs.length := Paired.length kv
  have I2 : Inv X pins σ H1 { s1 with heap := s1.heap.push { cls := .type "dict_values", data := .fields #[.ref d] } } := I1.kept (t' := s1.toks) fun b ob q => Heap.get?_push_of_some _ q
  refine ⟨hdo.typeIs, hdo.mapOf.noDict, ?_⟩
  show wpAny _ _ (callWith cpos (.builtin "dict.values") [.ref d] [] []) _ X.xe s1
  refine method_meetsIn F.slot_dict_values F.entry_dict_values rfl (PySem.evalArgs_none ⟨rfl, hdo.typeIs, F.args_dict_values_1 _, _, meets_dict_values (mixKind X.prog X.w) d hs0, ⟨vs, hdo⟩, ?_⟩)
  refine Calls.spliced_nil ?_
  refine PySem.W.kdl_call (PySem.W.kdl_values (knd := mixKind X.prog X.w) (kvs := vs) (ep := ep) (r := s1.heap.objs.size) (d := d)) (I1.ok.hd hc) ⟨⟨_, Heap.get?_push_size _ rfl, rfl, rfl⟩, hat.push _⟩ (by omega) fun h' tk acc c hk hS hacc => ?_
  have hl : acc.toList.length = vs.length := by rw [Array.length_toList]; exact hacc.1
  have ev : acc.toList = vs.map (·.2) := PySem.W.kdl_vals_eq acc.toList hl fun j v e => hacc.2 j v (by rw [← Array.getElem?_toList]; exact e)
  have hp := I2.hok.fresh (Nat.le_refl _)
  refine ⟨.ref _, upd H1 _ (.lst (kvs.map (·.2))), I2.laid (t' := tk) hk (Nat.le_refl _) (show ObjOk X.prog X.w _ _ _ (.lst (kvs.map (·.2))) from ⟨by rw [List.length_map]; exact hz, acc.toList, c, by rw [ev]; exact kv_vals kv, by rw [Array.toArray_toList]; exact hS⟩), rfl, q _ hp⟩
end
section
variable {K : PySem.W.Frag} {w : World} {B G G' G'' G0 : Addr → Prop} {ρ ρ' ρ'' ρ0 : List Addr} {H H' H'' H0 : Hp} {c c' : Cs} {σ : L2.St} {e e' : Ev} {v vx vy : V} {u u2 x y : W}
variable {Q : W → Cs → Prop} {te : TE} {t : TA} {tt tt1 : TT} {g : TG} {ws : List Nat} {xs : List PyData}
theorem KR.vals {vs : List (Key × V)} {kvs : List (Key × PyData)} (r : KR G H vs kvs) : DqL G H (vs.map (·.2)) (kvs.map (·.2)) := by
  induction r with
  | nil => exact .nil
  | cons h _ ih => exact .cons h.2 ih
theorem v_lvals (h : VE K w te e c fun x c1 => ∃ k kvs, x = .c k ∧ c1[k]? = some (.m kvs) ∧ Q (.o (kvs.map (·.2))) c1) : VE K w (tListVals te) e c Q := by
  intro B G ρ σ H T X S kt
  refine h B G ρ σ H _ X S fun x vx c1 G1 ρ1 H1 E1 X1 s1 f1 ⟨k, kvs, ex, hk, q1⟩ => ?_
  subst ex
  obtain ⟨p, vs, rfl, hp, hd, r⟩ := dcell_at X1 s1 hk
  exact ⟨p, vs, rfl, hd, fun p n => kt.l E1 X1 n r.vals q1⟩
variable {ts : TS} {D : DV}
end
end Gd
namespace Gd
open PySem PySem.Spec PyProof.Rows L2
end Gd
namespace Gd
open PySem PySem.Spec PyProof.Rows L2
def Fm (st : Int) (z : Nat) (hd n v : Str) : Prop := okW v ∧ ((st = 0 ∧ n.length = z ∧ v = n) ∨ (st = 1 ∧ n.length = z ∧ v = hd ++ n) ∨ (st = 2 ∧ v = n ∧ ∃ i c, tl n = List.replicate i 98 ++ [c] ∧ c ≠ 98) ∨ (st = 3 ∧ n.length = z ∧ ∃ t, v = n ++ t))
theorem pre_len {a b : Str} (h : tl a <+: tl b) (l : a.length = b.length) : a = b := tl_inj (h.eq_of_length (by rw [TL.len_tl, TL.len_tl] at l; exact l))
theorem comb_pre : ∀ (i j c d : Nat), c ≠ 98 → d ≠ 98 → List.replicate i 98 ++ [c] <+: List.replicate j 98 ++ [d] → i = j ∧ c = d
  | 0, 0, c, d, _, _, h => by
    have := h.eq_of_length rfl
    simpa using this
  | 0, j + 1, c, d, hc, _, h => by
    obtain ⟨r, hr⟩ := h
    rw [List.replicate_zero, List.nil_append, List.replicate_succ] at hr
    exact absurd (List.cons.inj hr).1 hc
  | i + 1, 0, c, d, _, hd, h => by
    obtain ⟨r, hr⟩ := h
    rw [List.replicate_zero, List.nil_append, List.replicate_succ] at hr
    exact absurd (List.cons.inj hr).1.symm hd
  | i + 1, j + 1, c, d, hc, hd, h => by
    rw [List.replicate_succ, List.replicate_succ, List.cons_append, List.cons_append, List.cons_prefix_cons] at h
    have := comb_pre i j c d hc hd h.2
    exact ⟨by omega, this.2⟩
theorem fm_pre {st : Int} {z : Nat} {hd n v n' v' : Str} (h : Fm st z hd n v) (h' : Fm st z hd n' v') (ne : n ≠ n') : ¬ tl v <+: tl v' := by
  intro p
  obtain ⟨_, h⟩ := h
  obtain ⟨_, h'⟩ := h'
  rcases h with ⟨e, l, rfl⟩ | ⟨e, l, rfl⟩ | ⟨e, rfl, i, c, t, hc⟩ | ⟨e, l, t, rfl⟩
  · rcases h' with ⟨e', l', rfl⟩ | ⟨e', _⟩ | ⟨e', _⟩ | ⟨e', _⟩
    · exact ne (pre_len p (l.trans l'.symm))
    all_goals omega
  · rcases h' with ⟨e', _⟩ | ⟨e', l', rfl⟩ | ⟨e', _⟩ | ⟨e', _⟩
    · omega
    · rw [tl_app, tl_app, List.prefix_append_right_inj] at p
      exact ne (pre_len p (l.trans l'.symm))
    all_goals omega
  · rcases h' with ⟨e', _⟩ | ⟨e', _⟩ | ⟨e', rfl, i', c', t', hc'⟩ | ⟨e', _⟩
    · omega
    · omega
    · rw [t, t'] at p
      obtain ⟨rfl, rfl⟩ := comb_pre _ _ _ _ hc hc' p
      exact ne (tl_inj (t.trans t'.symm))
    · omega
  · rcases h' with ⟨e', _⟩ | ⟨e', _⟩ | ⟨e', _⟩ | ⟨e', l', t', rfl⟩
    · omega
    · omega
    · omega
    · rw [tl_app, tl_app] at p
      have p1 := (List.prefix_append (tl n) (tl t)).trans p
      have ln : (tl n).length = (tl n').length := by
        have := l.trans l'.symm
        rw [TL.len_tl, TL.len_tl] at this
        exact this
      have p2 := List.prefix_of_prefix_length_le p1 (List.prefix_append (tl n') (tl t')) (by omega)
      exact ne (tl_inj (p2.eq_of_length ln))
theorem fm_fits {st : Int} {z : Nat} {hd n v n' v' : Str} (h : Fm st z hd n v) (h' : Fm st z hd n' v') (ne : n ≠ n') : fits v v' = true := by
  unfold fits
  rw [sw_pre, sw_pre, Bool.not_eq_true', Bool.or_eq_false_iff]
  refine ⟨Bool.eq_false_iff.mpr fun z => ?_, Bool.eq_false_iff.mpr fun z => ?_⟩
  · exact fm_pre h h' ne (List.isPrefixOf_iff_prefix.mp z)
  · exact fm_pre h' h (Ne.symm ne) (List.isPrefixOf_iff_prefix.mp z)
/-- the words found by names -/
theorem fm_bk {st : Int} {z m : Nat} {hd : Str} {d : Dt} (nd : (d.map (·.1)).Nodup) (h : ∀ p ∈ d, Fm st z hd p.1 p.2) (l : d.length ≤ m) : Bk (d.map (·.2)) m := by
  refine ⟨by rw [List.length_map]; exact l, fun w hw => ?_, ?_⟩
  · obtain ⟨p, hp, rfl⟩ := List.mem_map.mp hw
    exact (h p hp).1
  · rw [List.pairwise_map]
    have nd2 := List.pairwise_map.mp nd
    refine List.Pairwise.imp_of_mem (fun {p q} hp hq ne => ?_) nd2
    exact fm_fits (h q hq) (h p hp) (Ne.symm ne)
theorem putG_new {α β : Type} [DecidableEq α] {d : List (α × β)} {k : α} {v : β} (h : k ∉ d.map (·.1)) : putG d k v = d ++ [(k, v)] := by
  unfold putG
  rw [if_neg fun z => h ((any_key d k).mp z)]
end Gd
namespace Gd
open PySem PySem.Spec PyProof.Rows L2
section
variable {P : Program} {w : World} {A : Around} {E : Value → Shared → Prop} {s : Shared} {a : Addr} {ks : List Str}
theorem setT_type (R : SetT w s.heap a ks) : s.TypeIs (.ref a) "set" := by
  obtain ⟨o, es, ep, t, ho, hex, _⟩ := R
  exact ⟨o, ho, hex.1⟩
theorem more_txt {k : Str} {t : Tok} {Q : Value → Shared → Prop} (R : SetT w s.heap a ks) (room : ks.length + 1 < scanBound)
    (q : ∀ (b : Bool) (h1 : Heap), Heap.SameBut a s.heap h1 → SetT w h1 a (addT ks k) → Q .none { s with heap := h1, toks := s.toks + 1 }) : wpAny (model P w) A (call (.builtin "set.add") [.ref a, .str k t]) Q E s := by
  refine wpAny_call_entry F.slot_set_add (setT_type R) F.entry_set_add ?_ (F.args_set_add_2 _ _)
  unfold Builtin.«set.add» Builtin.Frozenset.oneOther Builtin.Frozenset.addrOf setAdd
  dsimp only
  simp only [List.isEmpty_nil, bind_assoc]
  refine wpAny_bind (wpAny_pure ?_)
  refine wpAny_bind (wpAny_pure ?_)
  refine wpAny_bind (wpAny_holding (wpAny_bind ((PySem.strKind P w).pyHash (k := k) (PySem.strKind_is _ _ _ _) ?_)))
  refine setT_add (s := { s with toks := s.toks + 1 }) R room fun b h1 sb r => ?_
  show wpAny _ _ (ret Value.none) _ _ _
  exact wpAny_pure ⟨_, rfl, q b h1 sb r⟩
end
section
variable {X : Cx} {pins : List (Addr × Obj)} {σ : L2.St} {H : Hp} {s : Shared} {D : Addr} {ks : List Str}
theorem more_inv {k : Str} {t : Tok} {E : Value → Shared → Prop} {Q : Value → Shared → Prop} (I : Inv X pins σ H s) (hD : H D = some (SetTO X.w D ks)) (room : ks.length + 1 < scanBound)
    (q : ∀ s1, Inv X pins σ (upd H D (SetTO X.w D (addT ks k))) s1 → Q .none s1) : wpAny (model X.prog X.w) X.A (call (.builtin "set.add") [.ref D, .str k t]) Q E s := by
  refine more_txt (setTO_get I hD) room fun b h1 sb r => q _ ?_
  refine I.write (e := D) (t' := s.toks + 1) (by rw [hD]; trivial) (.inl rfl) (fun c u hc hu => (sb.2 c hc).trans hu) ?_ (setTO_new r)
  obtain ⟨o, _, _, _, ho, _⟩ := r
  exact ⟨o, ho⟩
end
def clauseTurn (e : Expr) (k : Nat) (tgt iter : Expr) (ifs : List Expr) (body : Sem Unit) (it acc : Value) (env : Env) : Sem Fin := do
  standAt iter.pos
  match ← pyNext it with
  | none => pure (.done .next)
  | some v =>
    letOwnedTupleGo tgt it v
    assign tgt env v
    let mut ok := true
    for c in ifs do
      if ok then ok ← isTrue c env (eval c env)
    if ok then body
    again (.compLoop e k it acc env)
/-- slots that know at least this -/
def Wkr (σ σ' : L2.St) : Prop := σ.length = σ'.length ∧ ∀ (j : Nat) v, σ[j]? = some (some v) → σ'[j]? = some (some v)
theorem wkr_wipe (σ : L2.St) (vs : List Nat) : Wkr (wipe σ vs) σ := ⟨wipe_length _ _, fun _ _ e => (wipe_some e).1⟩
theorem wkr_eq {σ σ' : L2.St} {vs : List Nat} (e : wipe σ' vs = wipe σ vs) : Wkr (wipe σ vs) σ' := by rw [← e]; exact wkr_wipe _ _
theorem wkr_sub {σ σ' : L2.St} {vs vs1 : List Nat} (k : Wkr (wipe σ vs) σ') (h : ∀ i ∈ vs1, i ∈ vs) : Wkr (wipe σ vs) (wipe σ' vs1) :=
  ⟨k.1.trans (wipe_length _ _).symm, fun j v e => by
    rw [wipe_out fun z => (wipe_some e).2 (h j z)]
    exact k.2 j v e⟩
theorem clause_run {Y : Cx} (hc : Y.calm = true) (hx : Y.xe = fun _ _ => False) {pins : List (Addr × Obj)} {σ0 : L2.St} {elt : Expr} {gens : List Comprehension} {scope : Scope} {pos : Pos} {k : Nat} {tgt iter : Expr} {ifs : List Expr} {body : Sem Unit} {it : Addr} {acc : Value} {fp : List Addr} {tn : Nat → Heap → Prop} {J : It} {g : TG} {tt : TT} {R : Result → Shared → Prop}
    (T : Turn Y.prog Y.w Y.K tgt J fp it tn) (eq : compTurn (.SetComp elt gens scope pos) k (.ref it) acc Y.env = clauseTurn (.SetComp elt gens scope pos) k tgt iter ifs body (.ref it) acc Y.env) (pg : PG Y tgt g) (pt : PTs Y ifs tt) (W : Nat → Nat → Hp → Prop) (B : L2.St → Hp → (Hp → Prop) → Prop) (Kp : L2.St → Prop) (hK : ∀ σ, Kp σ → Wkr σ0 σ)
    (turn : ∀ i m H, W i m H → (J.stop i H ∧ ∀ s', Inv Y pins σ0 H s' → R (.ok .next) s') ∨ (J.go i H ∧ ∃ Nx : Hp → Prop, (∀ H', Nx H' → ∃ m', m' < m ∧ W (i + 1) m' H') ∧ ∀ x H', J.yld i H x H' → g x σ0 H' fun σ2 H2 => Kp σ2 ∧ tt σ2 H2 fun b H3 => if b = true then B σ2 H3 Nx else Nx H3))
    (hB : ∀ pins' s σ2 H Nx, Inv Y pins' σ2 H s → Wkr σ0 σ2 → B σ2 H Nx → wpAny (model Y.prog Y.w) Y.A body (fun _ s' => ∃ σ3 H', Inv Y pins' σ3 H' s' ∧ Wkr σ0 σ3 ∧ Nx H') (fun _ _ => False) s)
    {s : Shared} {H : Hp} {m : Nat} (I : Inv Y pins σ0 H s) (st : tn 0 s.heap) (fr : ∀ b ∈ fp, FpOk Y pins H b) (w0 : W 0 m H) : codeAny (model Y.prog Y.w) Y.A (.compLoop (.SetComp elt gens scope pos) k (.ref it) acc Y.env) R s := by
  have all : ∀ {H' : Hp}, (∀ b ∈ fp, H' b = none) → ∀ b ∈ fp, FpOk Y pins H' b := fun n b hb => ⟨n b hb, (fr b hb).2⟩
  refine codeAny_loop rfl (fun n s' => ∃ i H', Inv Y pins σ0 H' s' ∧ tn i s'.heap ∧ (∀ b ∈ fp, H' b = none) ∧ W i n H') (fun n s1 hI => ?_) m ⟨0, H, I, st, fun b hb => (fr b hb).1, w0⟩
  obtain ⟨i, H1, I1, t1, n1, w1⟩ := hI
  show wpAny (model Y.prog Y.w) Y.A ((compTurn (.SetComp elt gens scope pos) k (.ref it) acc Y.env).onRaise fun x => do noteFrame x Y.env; theTreesLotGoes x) _ _ s1
  refine wpAny_noted ?_
  rw [eq]
  unfold clauseTurn
  refine wpAny_bind (wpAny_standAt (wpAny_bind ?_))
  rcases turn i n H1 w1 with ⟨sp, dn⟩ | ⟨go, Nx, hN, stp⟩
  · refine thnF (T.done Y rfl rfl rfl hc i pins s1 σ0 H1 _ I1 (all n1) t1 sp) fun r s2 ⟨hr, I2⟩ => ?_
    subst hr
    exact wpAny_pure (dn s2 I2)
  · refine thnF (T.item Y rfl rfl rfl hc i pins s1 σ0 H1 _ I1 (all n1) t1 go) fun r s2 ⟨u, hr, h2⟩ => ?_
    subst hr
    refine wpAny_bind (thnF h2 fun _ s3 ⟨x, H3, I3, rx, y3, t3, n3⟩ => ?_)
    have I3' := I3.pinned (all n3) (T.obj _ _ t3)
    have run := pg.run _ s3 σ0 H3 x u _ I3' rx (stp x H3 y3)
    rw [hx] at run
    refine wpAny_bind (thnF run fun _ s4 ⟨σ4, H4, I4, k4', q4⟩ => ?_)
    have k4 := hK σ4 k4'
    have run := pt.run _ s4 σ4 H4 _ I4 q4
    rw [hx] at run
    refine wpAny_bind (thnF run fun b s5 ⟨H5, I5, q5⟩ => ?_)
    have fin : ∀ {σ6 : L2.St} {s6 : Shared} {H6 : Hp}, Inv Y (pins ++ pinsAt fp s3.heap) σ6 H6 s6 → Wkr σ0 σ6 → Nx H6 → ∃ m', m' < n ∧ ∃ i H', Inv Y pins σ0 H' s6 ∧ tn i s6.heap ∧ (∀ b ∈ fp, H' b = none) ∧ W i m' H' := fun {σ6 s6 H6} I6 k6 nx => by
      obtain ⟨m', lt, w'⟩ := hN H6 nx
      have pin : ∀ b ∈ fp, ∀ o, s3.heap.get? b = some o → s6.heap.get? b = some o ∧ H6 b = none := fun b hb o e =>
        have z := I6.pin (b, o) (List.mem_append_right _ (List.mem_append_right _ (mem_pinsAt hb e)))
        ⟨z.1, z.2.1⟩
      refine ⟨m', lt, i + 1, H6, I6.unpinned.weak k6.1 k6.2, T.keep _ _ _ t3 fun b hb o e => (pin b hb o e).1, fun b hb => ?_, w'⟩
      obtain ⟨o, e, _⟩ := T.obj _ _ t3 b hb
      exact (pin b hb o e).2
    cases b with
    | false => exact wpAny_pure ⟨rfl, fin I5 k4 q5⟩
    | true => exact wpAny_bind (thnF (hB _ s5 σ4 H5 Nx I5 k4 q5) fun _ s6 ⟨σ6, H6, I6, k6, nx⟩ => wpAny_pure ⟨rfl, fin I6 k6 nx⟩)
/-- a text more, then on -/
def bdIn (w : World) (D : Addr) (te : TE) : L2.St → Hp → (Hp → Prop) → Prop := fun σ H N => te σ H fun y H1 => ∃ k ks, y = .str k ∧ H1 D = some (SetTO w D ks) ∧ ks.length + 1 < scanBound ∧ N (upd H1 D (SetTO w D (addT ks k)))
/-- the second clause from its source on -/
def bdOut (wi1 : TI) (g1 : TG) (tt1 : TT) (vs1 : List Nat) (B : L2.St → Hp → (Hp → Prop) → Prop) : L2.St → Hp → (Hp → Prop) → Prop := fun σ H N => wi1 σ H fun J H1 => ∃ W : Nat → Nat → Hp → Prop, (∃ m, W 0 m H1) ∧ ∀ j k H, W j k H →
  (J.stop j H ∧ N H) ∨ (J.go j H ∧ ∃ N1 : Hp → Prop, (∀ H', N1 H' → ∃ k', k' < k ∧ W (j + 1) k' H') ∧ ∀ x H', J.yld j H x H' → g1 x (wipe σ vs1) H' fun σ3 H2 => wipe σ3 vs1 = wipe σ vs1 ∧ tt1 σ3 H2 fun b H3 => if b = true then B σ3 H3 N1 else N1 H3)
def Rsc2 (w : World) (g : TG) (tt : TT) (wi1 : TI) (g1 : TG) (tt1 : TT) (te : TE) (vs vs1 : List Nat) (σ : L2.St) (Q : VK) (J : It) (H1 : Hp) : Prop := ∀ D, H1 D = none → ∃ W : Nat → Nat → Hp → Prop, (∃ m, W 0 m (upd H1 D (SetTO w D []))) ∧ ∀ i m H, W i m H →
  (J.stop i H ∧ Q (.ref D) H) ∨ (J.go i H ∧ ∃ N : Hp → Prop, (∀ H', N H' → ∃ m', m' < m ∧ W (i + 1) m' H') ∧ ∀ x H', J.yld i H x H' → g x (wipe σ vs) H' fun σ2 H2 => wipe σ2 vs = wipe σ vs ∧ tt σ2 H2 fun b H3 => if b = true then bdOut wi1 g1 tt1 vs1 (bdIn w D te) σ2 H3 N else N H3)
def tSc2 (w : World) (wi : TI) (g : TG) (tt : TT) (wi1 : TI) (g1 : TG) (tt1 : TT) (te : TE) (vs vs1 : List Nat) : TE := fun σ H Q => wi σ H (Rsc2 w g tt wi1 g1 tt1 te vs vs1 σ Q)
section
variable {elt t0 i0 t1 i1 : Expr} {c0 c1 : List Expr} {scope : Scope} {pos : Pos} {it acc : Value} {env : Env}
def emIn (elt : Expr) (acc : Value) (env : Env) : Sem Unit := do
  let v ← eval elt env
  standAt elt.pos
  let _ ← call (.builtin "set.add") [acc, v]
def emOut (e i1 : Expr) (acc : Value) (env : Env) : Sem Unit := do
  let x ← eval i1 env
  standAt i1.pos
  let x ← foldedSetIterable i1 env x
  let _ ← runOwn (.compStart e 1 (← holding [x] (pyIter x)) acc env) env
theorem turn_in : compTurn (.SetComp elt [⟨t0, i0, c0, 0⟩, ⟨t1, i1, c1, 0⟩] scope pos) 1 it acc env = clauseTurn (.SetComp elt [⟨t0, i0, c0, 0⟩, ⟨t1, i1, c1, 0⟩] scope pos) 1 t1 i1 c1 (emIn elt acc env) it acc env := by rfl
theorem turn_out : compTurn (.SetComp elt [⟨t0, i0, c0, 0⟩, ⟨t1, i1, c1, 0⟩] scope pos) 0 it acc env = clauseTurn (.SetComp elt [⟨t0, i0, c0, 0⟩, ⟨t1, i1, c1, 0⟩] scope pos) 0 t0 i0 c0 (emOut (.SetComp elt [⟨t0, i0, c0, 0⟩, ⟨t1, i1, c1, 0⟩] scope pos) i1 acc env) it acc env := by
  unfold clauseTurn emOut
  simp only [bind_assoc]
  rfl
end
section
variable {P : Program} {w : World} {A : Around} {R : Result → Shared → Prop} {s : Shared} {elt t0 i0 t1 i1 : Expr} {c0 c1 : List Expr} {scope : Scope} {pos : Pos} {it acc : Value} {env : Env}
theorem start_in (h : codeAny (model P w) A (.compLoop (.SetComp elt [⟨t0, i0, c0, 0⟩, ⟨t1, i1, c1, 0⟩] scope pos) 1 it acc env) R s)
    (g : wpAny (model P w) A (pyIter it) (fun v s' => codeAny (model P w) A (.compLoop (.SetComp elt [⟨t0, i0, c0, 0⟩, ⟨t1, i1, c1, 0⟩] scope pos) 1 v acc env) R s') (notedBy (model P w) A env fun x s' => R (.error x) s') s) :
    codeAny (model P w) A (.compStart (.SetComp elt [⟨t0, i0, c0, 0⟩, ⟨t1, i1, c1, 0⟩] scope pos) 1 it acc env) R s := by
  refine codeAny_of_tree ?_
  show wpAny (model P w) A ((compStart (.SetComp elt [⟨t0, i0, c0, 0⟩, ⟨t1, i1, c1, 0⟩] scope pos) 1 it acc env).onRaise fun x => do noteFrame x env; standAt theWindowsPlace) _ _ s
  refine wpAny_notedAt ?_
  unfold compStart
  show wpAny _ _ (ask >>= _) _ _ s
  refine wpAny_bind (wpAny_askSetting (wpAny_ite ?_))
  split
  · first
      | exact wpAny_bind (wpAny_pure (wpAny_pure ⟨rfl, h⟩))
      | exact wpAny_pure ⟨rfl, h⟩
  · refine wpAny_bind (wpAny_rule ?_)
    show wpAny _ _ (standAt i1.pos >>= _) _ _ s
    exact wpAny_bind (wpAny_standAt (wpAny_bind (wpAny_mono g (fun _ _ z => wpAny_pure ⟨rfl, z⟩) fun _ _ z => z)))
end
section
variable {Y : Cx} {elt t0 i0 t1 i1 : Expr} {c0 c1 : List Expr} {scope : Scope} {pos : Pos} {wi1 : TI} {g1 : TG} {tt1 : TT} {te : TE} {D : Addr} {vs vs1 : List Nat}
theorem em_in (hx : Y.xe = fun _ _ => False) (pe : PE Y elt te) {σ0 : L2.St} (pins' : List (Addr × Obj)) (s : Shared) (σ2 : L2.St) (H : Hp) (N : Hp → Prop) (I : Inv Y pins' σ2 H s) (k : Wkr σ0 σ2) (b : bdIn Y.w D te σ2 H N) :
    wpAny (model Y.prog Y.w) Y.A (emIn elt (.ref D) Y.env) (fun _ s' => ∃ σ3 H', Inv Y pins' σ3 H' s' ∧ Wkr σ0 σ3 ∧ N H') (fun _ _ => False) s := by
  unfold emIn
  have run := pe.run _ s σ2 H _ I b
  rw [hx] at run
  refine wpAny_bind (thnF run fun v s1 ⟨y, H1, I1, r, z, ks, ey, hD, room, n⟩ => ?_)
  subst ey
  obtain ⟨t, rfl⟩ := r
  exact wpAny_bind (wpAny_standAt (wpAny_bind (more_inv I1 hD room fun s2 I2 => wpAny_pure ⟨σ2, _, I2, k, n⟩)))
theorem em_out (hc : Y.calm = true) (hx : Y.xe = fun _ _ => False) (pi : PI Y t1 i1 wi1) (pg : PG Y t1 g1) (pt : PTs Y c1 tt1) (pe : PE Y elt te) (hs : ∀ x, foldedSetIterable i1 Y.env x = pure x) (hv : ∀ i ∈ vs1, i ∈ vs) {σ : L2.St} (pins' : List (Addr × Obj)) (s : Shared) (σ2 : L2.St) (H : Hp) (N : Hp → Prop)
    (I : Inv Y pins' σ2 H s) (k : Wkr (wipe σ vs) σ2) (b : bdOut wi1 g1 tt1 vs1 (bdIn Y.w D te) σ2 H N) :
    wpAny (model Y.prog Y.w) Y.A (emOut (.SetComp elt [⟨t0, i0, c0, 0⟩, ⟨t1, i1, c1, 0⟩] scope pos) i1 (.ref D) Y.env) (fun _ s' => ∃ σ3 H', Inv Y pins' σ3 H' s' ∧ Wkr (wipe σ vs) σ3 ∧ N H') (fun _ _ => False) s := by
  unfold emOut
  have run := pi.run _ s σ2 H _ I b
  rw [hx] at run
  refine wpAny_bind (thnF run fun x s1 h1 => ?_)
  refine wpAny_bind (wpAny_standAt (wpAny_bind (wpAny_of_eq (hs x) (wpAny_bind (wpAny_holding (thnF h1 fun v s2 h2 => ?_))))))
  obtain ⟨it, fp, tn, J, H2, ev, I2, T, st, fr, W, ⟨m, w0⟩, turn⟩ := h2
  subst ev
  refine wpAny_bind (wpAny_runOwn ?_)
  rw [Around.mark_none]
  have loop : codeAny (model Y.prog Y.w) Y.A (.compLoop (.SetComp elt [⟨t0, i0, c0, 0⟩, ⟨t1, i1, c1, 0⟩] scope pos) 1 (.ref it) (.ref D) Y.env) (fun r s' => match r with
      | .ok _ => ∃ σ3 H', Inv Y pins' σ3 H' s' ∧ Wkr (wipe σ vs) σ3 ∧ N H'
      | .error _ => False) s2 := by
    refine clause_run hc hx (σ0 := wipe σ2 vs1) T turn_in pg pt W (bdIn Y.w D te) (fun σ3 => wipe σ3 vs1 = wipe σ2 vs1) (fun _ z => wkr_eq z) (fun i m H3 w3 => ?_) (em_in hx pe) (I2.weak (wipe_length _ _) fun j v e => (wipe_some e).1) st fr w0
    rcases turn i m H3 w3 with ⟨sp, n⟩ | ⟨go, N1, hN, stp⟩
    · exact .inl ⟨sp, fun s' I' => ⟨_, H3, I', wkr_sub k hv, n⟩⟩
    · exact .inr ⟨go, N1, hN, stp⟩
  refine codeAny_mono (start_in loop (T.self _ 0 _ _ _ st loop)) fun r s' hr => ?_
  cases r with
  | ok f =>
    first
      | exact wpAny_pure hr
      | exact wpAny_bind (wpAny_pure (wpAny_pure hr))
  | error e => exact hr.elim
end
section
variable {X : Cx}
theorem pe_sc2 {elt t0 i0 t1 i1 : Expr} {c0 c1 : List Expr} {scope : Scope} {own : List (Str × Nat)} {vs1 : List Nat} {pos : Pos} {wi wi1 : TI} {g g1 : TG} {tt tt1 : TT} {te : TE} (hc : X.calm = true) (hN : X.N.Nodup) (hi : PI X t0 i0 wi) (ok : BlkOk X.N X.env.scope scope own) (hv : ∀ i ∈ vs1, i ∈ own.map (·.2))
    (hg : ∀ (s : Shared) (H : Hp) (C : Addr) (cl : List (Str × Addr)) (fp : List Addr), PG (X.blk s H scope (compEnvC scope cl C X.env) fp) t0 g) (ht : ∀ (s : Shared) (H : Hp) (C : Addr) (cl : List (Str × Addr)) (fp : List Addr), PTs (X.blk s H scope (compEnvC scope cl C X.env) fp) c0 tt)
    (hi1 : ∀ (s : Shared) (H : Hp) (C : Addr) (cl : List (Str × Addr)) (fp : List Addr), PI (X.blk s H scope (compEnvC scope cl C X.env) fp) t1 i1 wi1)
    (hg1 : ∀ (s : Shared) (H : Hp) (C : Addr) (cl : List (Str × Addr)) (fp : List Addr), PG (X.blk s H scope (compEnvC scope cl C X.env) fp) t1 g1) (ht1 : ∀ (s : Shared) (H : Hp) (C : Addr) (cl : List (Str × Addr)) (fp : List Addr), PTs (X.blk s H scope (compEnvC scope cl C X.env) fp) c1 tt1)
    (he : ∀ (s : Shared) (H : Hp) (C : Addr) (cl : List (Str × Addr)) (fp : List Addr), PE (X.blk s H scope (compEnvC scope cl C X.env) fp) elt te) (hs : ∀ x, foldedSetIterable i0 X.env x = pure x := by intro _; rfl) (hs1 : ∀ env x, foldedSetIterable i1 env x = pure x := by intro _ _; rfl) :
    PE X (.SetComp elt [⟨t0, i0, c0, 0⟩, ⟨t1, i1, c1, 0⟩] scope pos) (tSc2 X.w wi g tt wi1 g1 tt1 te (own.map (·.2)) vs1) := by
  refine ⟨fun pins s σ H Q I h => ?_⟩
  show wpAny _ _ (comprehension (.SetComp elt [⟨t0, i0, c0, 0⟩, ⟨t1, i1, c1, 0⟩] scope pos) scope X.env _ (newSet (.type "set")) _ (eval i0 X.env)) _ _ s
  have free_ : ∀ z ∈ scope.names, z.2 = .free → ∃ c, X.env.cells.lookup z.1 = some c := fun z hz e => (ok.free z hz e).elim (fun k => I.ok.has _ (.inl k)) fun k => I.ok.has _ (.inr k)
  refine wpAny_comprehension_free (use := none) rfl hs (closure_ok free_) ok.kind (fun z hz e => by rw [ok.uniq z hz, e]) (thn (hi.run pins s σ H _ I h) fun _ s1 h1 => thn h1 fun _ s2 h2 => ?_)
  obtain ⟨it, fp, tn, J, H2, ei, I2, T, t2, fr, q⟩ := h2
  subst ei
  refine PpSet.newSet_ok (newEnv_comp ?_)
  have nD : H2 s2.heap.objs.size = none := I2.hok.fresh (Nat.le_refl _)
  obtain ⟨W, ⟨m0, w0⟩, turn⟩ := q _ nD
  generalize hD : s2.heap.objs.size = D at *
  have k3 : ∀ b o, s2.heap.get? b = some o → (s2.heap.push (bornS X.w)).get? b = some o := fun b o e => Heap.get?_push_of_some _ e
  have I3 : Inv X pins σ (upd H2 D (SetTO X.w D [])) { s2 with heap := s2.heap.push (bornS X.w) } := I2.laid (t' := s2.toks) k3 (Nat.le_of_eq hD) (setTO_new (by rw [← hD]; exact setT_born X.w))
  have lt : ∀ b ∈ fp, b < s2.heap.objs.size := fun b hb => by
    obtain ⟨o, e, _⟩ := T.obj _ _ t2 b hb
    exact Heap.lt_size e
  have fr3 : ∀ b ∈ fp, FpOk X pins (upd H2 D (SetTO X.w D [])) b ∧ b < (s2.heap.push (bornS X.w)).objs.size := fun b hb => by
    refine ⟨⟨?_, (fr b hb).2⟩, by rw [Heap.size_push]; exact Nat.lt_succ_of_lt (lt b hb)⟩
    rw [upd_ne (by rw [← hD]; exact Nat.ne_of_lt (lt b hb))]
    exact (fr b hb).1
  generalize upd H2 D (SetTO X.w D []) = H3 at *
  obtain ⟨s3, es3⟩ : ∃ s3 : Shared, s3 = { s2 with heap := s2.heap.push (bornS X.w) } := ⟨_, rfl⟩
  have eh3 : s3.heap = s2.heap.push (bornS X.w) := by rw [es3]
  rw [← es3] at I3
  rw [← eh3] at k3 fr3
  have I4 := block_start I3 ok hN fr3
  have t3 : tn 0 s3.heap := T.keep _ _ _ t2 fun b _ o e => k3 b o e
  have n3 : ∀ b ∈ fp, H3 b = none := fun b hb => (fr3 b hb).1.1
  rw [← es3]
  generalize hcl : cellsFrom (s3.heap.objs.size + 1) scope.names (cloFrom X.env.cells scope.names []) = cl at *
  show codeAny _ _ (.compStart _ 0 (.ref it) (.ref D) (compEnvC scope cl s3.heap.objs.size X.env)) (compPost _ _ _ none _ (.ref D) s3.heap.objs.size) _
  generalize hs4 : ({ s3 with heap := pushCells (s3.heap.push { cls := .type "dict", data := .dict #[] }) scope.names } : Shared) = s4 at *
  have t4 : tn 0 s4.heap := T.keep _ _ _ t3 fun b _ o e => by rw [← hs4]; exact pushCells_keeps _ _ _ _ (Heap.get?_push_of_some _ e)
  have fr4 : ∀ b ∈ fp, FpOk (X.blk s3 H3 scope (compEnvC scope cl s3.heap.objs.size X.env) fp) [] H3 b := fun b hb =>
    ⟨n3 b hb, (I4.ok.exf b hb).1, I4.ok.exfs b hb, .inl hb, fun x c e => (I4.ok.exf b hb).2 x c e, fun p hp => absurd (show p ∈ ([] : List (Addr × Obj)) ++ [] from hp) (by simp)⟩
  have loop := clause_run (Y := X.blk s3 H3 scope (compEnvC scope cl s3.heap.objs.size X.env) fp) hc rfl (σ0 := wipe σ (own.map (·.2))) (R := compPost (model X.prog X.w) X.A X.xe none (fun v s' => ∃ x H', Inv X pins σ H' s' ∧ RelV x v ∧ Q x H') (.ref D) s3.heap.objs.size) T
    (turn_out (elt := elt) (i0 := i0) (t1 := t1) (i1 := i1) (c1 := c1) (scope := scope) (pos := pos) (acc := .ref D)) (hg _ _ _ _ _) (ht _ _ _ _ _) W (bdOut wi1 g1 tt1 vs1 (bdIn X.w D te)) (fun σ2 => wipe σ2 (own.map (·.2)) = wipe σ (own.map (·.2))) (fun _ z => wkr_eq z) (fun i m H5 w5 => ?_)
    (em_out (Y := X.blk s3 H3 scope (compEnvC scope cl s3.heap.objs.size X.env) fp) hc rfl (hi1 _ _ _ _ _) (hg1 _ _ _ _ _) (ht1 _ _ _ _ _) (he _ _ _ _ _) (hs1 _) hv (σ := σ)) I4 t4 fr4 w0
  · exact PpSet.codeAny_compStart_set loop (T.self X.A 0 _ _ _ t4 loop)
  rcases turn i m H5 w5 with ⟨sp, qq⟩ | ⟨go, N, hN', stp⟩
  · refine .inl ⟨sp, fun s6 I6 => ?_⟩
    have I7 : Inv X pins σ H5 s6 := I3.call' (ch := fp) I6.os I6.base I6.hok I6.bare fun b hb =>
      have z := (fr3 b hb).1
      ⟨z.2.2.2.1, z.2.1, z.2.2.2.2.1, z.2.2.2.2.2⟩
    have nC : H5 s3.heap.objs.size = none := I6.free
    obtain ⟨mm, hn, _⟩ := I6.loc
    obtain ⟨f0, f1, _, f3, f4, f5⟩ := I3.fpOk (Nat.le_refl _) nC
    exact ⟨mm, hn, fun h6 sb => ⟨.ref D, H5, I7.turned (t' := s6.toks) (fun b o hb e => (sb.2 b hb).trans e) f0 f1 f3 f4 f5, rfl, qq⟩⟩
  · exact .inr ⟨go, N, hN', stp⟩
end
theorem dedT_app (L : List Str) (a : Str) : dedT (L ++ [a]) = addT (dedT L) a := by
  unfold dedT
  rw [List.foldl_append]
  rfl
theorem dedT_sub {L S : List Str} (h : ∀ x ∈ L, x ∈ S) : (dedT L).length ≤ S.length := by
  have p : (dedT L).Perm ((dedT S).filter fun x => decide (x ∈ L)) := nodup_same (dedT_nodup _) ((dedT_nodup _).filter _) fun x => by
    rw [dedT_mem, List.mem_filter, dedT_mem, decide_eq_true_eq]
    exact ⟨fun m => ⟨h x m, m⟩, fun m => m.2⟩
  rw [p.length_eq]
  exact Nat.le_trans (List.length_filter_le _ _) (dedT_len S)
section
variable {K : PySem.W.Frag} {w : World} {B G G' G'' G0 : Addr → Prop} {ρ ρ' ρ'' ρ0 : List Addr} {H H' H'' H0 : Hp} {c c' : Cs} {σ : L2.St} {e e' : Ev}
variable {Q : W → Cs → Prop} {te1 te : TE} {t : TA} {i j : Nat} {ws ws1 : List Nat}
theorem sl_txt (S : Sl K w B G ρ H σ e) (z : Str) (i : Nat) : Sl K w B G ρ H (σ.set i (some (.str z))) (e.set i (some (.d (.str z)))) := sl_set S (.d (.str z)) rfl i
theorem sl_num (S : Sl K w B G ρ H σ e) (z : Int) (i : Nat) : Sl K w B G ρ H (σ.set i (some (.int z))) (e.set i (some (.d (.int z)))) := sl_set S (.d (.int z)) rfl i
/-- D stands apart, a set -/
structure Apt (w : World) (B : Addr → Prop) (G1 : Addr → Prop) (ρ1 : List Addr) (H1 : Hp) (c1 : Cs) (D : Addr) (L : List Str) (G' : Addr → Prop) (ρ' : List Addr) (H' : Hp) : Prop where
  ext : Ext G1 ρ1 H1 G' ρ' H'
  hx : Hx B G' ρ' c1 H'
  at_ : H' D = some (SetTO w D (dedT L))
  ng : ¬ G' D
  nb : ¬ B D
  nr : D ∉ ρ'
theorem Apt.go {G1 : Addr → Prop} {ρ1 : List Addr} {H1 : Hp} {D : Addr} {L : List Str} (a : Apt w B G1 ρ1 H1 c D L G ρ H) (E : Ext G ρ H G' ρ' H') (X : Hx B G' ρ' c H') : Apt w B G1 ρ1 H1 c D L G' ρ' H' :=
  ⟨a.ext.trans E, X, E.kp _ _ a.at_ a.nr, fun z => (E.nw _ z).elim a.ng fun z => (by rw [a.at_] at z; cases z), a.nb, E.nin a.at_ a.nr⟩
theorem Apt.add {G1 : Addr → Prop} {ρ1 : List Addr} {H1 : Hp} {D : Addr} {L : List Str} (a : Apt w B G1 ρ1 H1 c D L G ρ H) (nD : H1 D = none) (z : Str) : Apt w B G1 ρ1 H1 c D (L ++ [z]) G ρ (upd H D (SetTO w D (addT (dedT L) z))) := by
  have ne : ∀ q, G q → q ≠ D := fun q g e => a.ng (by rw [← e]; exact g)
  refine ⟨⟨fun b o h n => ?_, fun b h => ?_, a.ext.pre, a.ext.gr, a.ext.nw⟩, ⟨a.hx.nd, a.hx.av, a.hx.avb, fun q g => by rw [upd_ne (ne q g)]; exact a.hx.live q g, fun q g => ?_, cells_off ne a.hx.cells a.nr⟩, by rw [upd_same, dedT_app], a.ng, a.nb, a.nr⟩
  · rw [upd_ne (ne_of_none h nD)]
    exact a.ext.kp b o h n
  · by_cases z : b = D
    · rw [z, upd_same]; simp
    · rw [upd_ne z]; exact a.ext.tr b h
  · rw [upd_ne fun z => a.nb (by rw [← z]; exact g)]
    exact a.hx.liveb q g
def evS (nx : Str → Nat) (f : Str → Nat → Str) (xs : List Str) : List Str := xs.flatMap fun x => (List.range (nx x)).map (f x)
theorem v_sc2 (h : VE K w te1 e c fun u c1 => ∃ (xs S : List Str) (nx : Str → Nat) (f : Str → Nat → Str), Lv c1 u (xs.map .str) ∧ i ∈ ws ∧ j ∈ ws1 ∧ S.length < 4000 ∧
    (∀ x ∈ xs, nx x < 2 ^ 60 ∧ VA K w t ((wipeE e ws).set i (some (.d (.str x)))) c1 (fun us c2 => c2 = c1 ∧ us = [.d (.int (nx x : Nat))]) ∧
      ∀ l, l < nx x → f x l ∈ S ∧ VE K w te ((wipeE ((wipeE e ws).set i (some (.d (.str x)))) ws1).set j (some (.d (.int (l : Nat))))) c1 fun y c2 => c2 = c1 ∧ y = .d (.str (f x l))) ∧
    Q (.set (dedT (evS nx f xs))) c1) : VE K w (tSc2 w (iU K te1) (gName i) tYes (iRng1 t) (gName j) tYes te ws ws1) e c Q := by
  intro B G ρ σ H T X S kt
  refine h B G ρ σ H _ X S fun u v c1 G1 ρ1 H1 E1 X1 s1 f1 ⟨xs, SS, nx, f, lv, hi, hj, hS, per, q1⟩ => ?_
  obtain ⟨J, GG, Y, wk, r, hG, hY⟩ := it_l lv B G1 ρ1 H1 v X1 s1
  refine r (Rsc2 w (gName i) tYes (iRng1 t) (gName j) tYes te ws ws1 σ T) ?_
  intro D nD
  have S1 := E1.sl X S
  have memL : ∀ i, ∀ x ∈ evS nx f (xs.take i), x ∈ SS := fun i x hx => by
    obtain ⟨a, ha, hx⟩ := List.mem_flatMap.mp hx
    obtain ⟨l, hl, rfl⟩ := List.mem_map.mp hx
    exact ((per a (List.mem_of_mem_take ha)).2.2 l (List.mem_range.mp hl)).1
  refine ⟨fun k m H' => m = xs.length - k ∧ k ≤ xs.length ∧ ∃ G' ρ', Apt w B G1 ρ1 H1 c1 D (evS nx f (xs.take k)) G' ρ' H', ⟨xs.length, by simp, Nat.zero_le _, G1, ρ1, .new nD, X1.new nD, upd_same, fun g => X1.live D g nD, fun g => X1.liveb D g nD, fun z => X1.trk z nD⟩, ?_⟩
  rintro k m H' ⟨rfl, hk, G', ρ', ap⟩
  by_cases hlt : k < xs.length
  · refine .inr ⟨wk.goes k H' (by rw [List.length_map]; exact hlt) (hG c1 G' ρ' H' ap.ext ap.hx lv), fun H'' => ∃ G' ρ', Apt w B G1 ρ1 H1 c1 D (evS nx f (xs.take (k + 1))) G' ρ' H'', fun H'' p => ⟨xs.length - (k + 1), by omega, rfl, hlt, p⟩, fun x H'' y => ?_⟩
    obtain ⟨d, hd, G2, E2, X2, q2⟩ := hY k x c1 G' ρ' H' H'' ap.ext ap.hx lv (by rw [List.length_map]; exact hlt) (wk.yields k H' x H'' (by rw [List.length_map]; exact hlt) (hG c1 G' ρ' H' ap.ext ap.hx lv) y)
    obtain ⟨z, ez, rfl⟩ := map_at hd
    cases dq_str q2
    have ap2 := ap.go E2 X2
    obtain ⟨b1, b2, b3⟩ := per z (List.mem_of_getElem? ez)
    have take1 : xs.take (k + 1) = xs.take k ++ [z] := by rw [List.take_add_one, ez]; rfl
    show wipe ((wipe σ ws).set i (some (.str z))) ws = wipe σ ws ∧ bdOut (iRng1 t) (gName j) tYes ws1 (bdIn w D te) ((wipe σ ws).set i (some (.str z))) H'' _
    refine ⟨by rw [wipe_set hi, wipe_wipe], ?_⟩
    have Sx : ∀ {G' ρ' H'}, Ext G1 ρ1 H1 G' ρ' H' → Sl K w B G' ρ' H' ((wipe σ ws).set i (some (.str z))) ((wipeE e ws).set i (some (.d (.str z)))) := fun E => sl_txt (sl_wipe (E.sl X1 S1) ws) z i
    generalize (wipe σ ws).set i (some (V.str z)) = σz at *
    generalize (wipeE e ws).set i (some (W.d (.str z))) = ez' at *
    refine b2 B G2 ρ' σz H'' _ X2 (Sx ap2.ext) fun us vs c2 G3 ρ3 H3 E3 X3 s3 f3 d3 ⟨e1, e2⟩ => ?_
    subst e1 e2
    have ap3 := ap2.go E3 X3
    obtain ⟨v1, rfl, s4⟩ := v1 s3
    cases s4 with
    | d s4 =>
      cases dq_int s4
      refine ⟨_, rfl, by omega, by omega, ?_⟩
      refine ⟨fun l m H' => m = nx z - l ∧ l ≤ nx z ∧ ∃ G' ρ', Apt w B G1 ρ1 H1 c2 D (evS nx f (xs.take k) ++ (List.range l).map (f z)) G' ρ' H', ⟨nx z, by simp, Nat.zero_le _, G3, ρ3, by simpa using ap3⟩, ?_⟩
      rintro l m H4 ⟨rfl, hl, G4, ρ4, ap4⟩
      by_cases hlt2 : l < nx z
      · refine .inr ⟨by rw [Int.toNat_natCast]; exact hlt2, fun H5 => ∃ G' ρ', Apt w B G1 ρ1 H1 c2 D (evS nx f (xs.take k) ++ (List.range (l + 1)).map (f z)) G' ρ' H5, fun H5 p => ⟨nx z - (l + 1), by omega, rfl, hlt2, p⟩, ?_⟩
        rintro x H5 ⟨rfl, rfl⟩
        rw [Int.zero_add]
        unfold gName tYes
        dsimp only
        rw [if_pos rfl]
        refine ⟨by rw [wipe_set hj, wipe_wipe], ?_⟩
        obtain ⟨m1, m2⟩ := b3 l hlt2
        refine m2 B G4 ρ4 _ H5 _ ap4.hx (sl_num (sl_wipe (Sx ap4.ext) ws1) _ j) fun y vy c5 G5 ρ5 H6 E6 X6 s6 f6 ⟨e1, e2⟩ => ?_
        subst e1 e2
        have ap6 := ap4.go E6 X6
        cases s6 with
        | d s6 =>
          cases dq_str s6
          refine ⟨f z l, _, rfl, ap6.at_, ?_, G5, ρ5, ?_⟩
          · have := dedT_sub (L := evS nx f (xs.take k) ++ (List.range l).map (f z)) (S := SS) fun x hx => (List.mem_append.mp hx).elim (memL k x) fun hx => by
              obtain ⟨l', hl', rfl⟩ := List.mem_map.mp hx
              exact (b3 l' (Nat.lt_of_lt_of_le (List.mem_range.mp hl') hl)).1
            show _ < 4096
            omega
          · have := ap6.add nD (f z l)
            rw [List.range_succ, List.map_append, ← List.append_assoc]
            exact this
      · have el : l = nx z := by omega
        subst el
        refine .inl ⟨by rw [Int.toNat_natCast]; exact Nat.le_refl _, G4, ρ4, ?_⟩
        have e3 : evS nx f (xs.take (k + 1)) = evS nx f (xs.take k) ++ (List.range (nx z)).map (f z) := by
          rw [take1]
          unfold evS
          rw [List.flatMap_append]
          simp
        rw [e3]
        exact ap4
  · have ek : k = xs.length := by omega
    subst ek
    rw [List.take_length] at ap
    have st := wk.stops H' (hG c1 G' ρ' H' ap.ext ap.hx lv)
    rw [List.length_map] at st
    refine .inl ⟨st, kt _ _ _ _ _ _ ((E1.trans ap.ext).data (E1.was nD)) (ap.hx.data (by rw [ap.at_]; simp) ap.nr) (.set ap.at_ (.inr rfl)) trivial q1⟩
end
end Gd
namespace Gd
open PySem PySem.Spec PyProof.Rows L2
variable {b g : List Str}
def chg (b g : List Str) : List Str := ((brs g).filter fun p => !decide (lat b p.1 = lat g p.1)).map (·.1)
def evN (b g : List Str) : List Str := evS (fun u => u.length + 1) (fun u l => (sug g (cutT u l)).getD "") (chg b g)
def needN (b g : List Str) : List Str := srt (dedT (evN b g))
theorem need_nd (b g : List Str) : (needN b g).Nodup := (srt_perm _).nodup_iff.mpr (dedT_nodup _)
theorem chg_mem {u : Str} : u ∈ chg b g ↔ u ∈ (brs g).map (·.1) ∧ lat b u ≠ lat g u := by
  unfold chg
  rw [List.mem_map, List.mem_map]
  constructor
  · rintro ⟨p, hp, rfl⟩
    obtain ⟨h1, h2⟩ := List.mem_filter.mp hp
    exact ⟨⟨p, h1, rfl⟩, by simpa using h2⟩
  · rintro ⟨⟨p, hp, rfl⟩, h⟩
    exact ⟨p, List.mem_filter.mpr ⟨hp, by simpa using h⟩, rfl⟩
theorem br_word {u : Str} (h : u ∈ (brs g).map (·.1)) : ∃ w ∈ g, pre w u = true := by
  obtain ⟨p, hp, rfl⟩ := List.mem_map.mp h
  obtain ⟨w, hw, h2, _⟩ := pfx_mem (brs_mem hp).1
  exact ⟨w, hw, h2⟩
theorem pre_trans {w u t : Str} (h : pre w u = true) (k : tl t <+: tl u) : pre w t = true := by
  rw [pre_iff] at *
  exact k.trans h
theorem cut_pre (u : Str) (l : Nat) : tl (cutT u l) <+: tl u := by
  rw [tl_cutT]
  exact List.take_prefix _ _
theorem sug_ex {ws : List Str} {w t : Str} (h : w ∈ ws) (p : pre w t = true) : ∃ z, sug ws t = some z := sug_some h p
theorem need_mem {w : Str} : w ∈ needN b g ↔ ∃ u ∈ chg b g, ∃ l, l ≤ u.length ∧ sug g (cutT u l) = some w := by
  unfold needN evN evS
  rw [srt_mem, dedT_mem, List.mem_flatMap]
  constructor
  · rintro ⟨u, hu, h⟩
    obtain ⟨l, hl, e⟩ := List.mem_map.mp h
    have hl : l < u.length + 1 := List.mem_range.mp hl
    have e : (sug g (cutT u l)).getD "" = w := e
    obtain ⟨x, hx, px⟩ := br_word (chg_mem.mp hu).1
    obtain ⟨z, hz⟩ := sug_ex hx (pre_trans px (cut_pre u l))
    rw [hz] at e
    exact ⟨u, hu, l, by omega, by rw [hz, ← e]; rfl⟩
  · rintro ⟨u, hu, l, hl, e⟩
    exact ⟨u, hu, List.mem_map.mpr ⟨l, List.mem_range.mpr (by show l < u.length + 1; omega), by show (sug g (cutT u l)).getD "" = w; rw [e]; rfl⟩⟩
theorem need_sub {w : Str} (h : w ∈ needN b g) : w ∈ g := by
  obtain ⟨u, _, l, _, e⟩ := need_mem.mp h
  exact sug_mem e
theorem cut_cut (x : Str) (l m : Nat) (h : l ≤ m) : cutT (cutT x m) l = cutT x l := tl_inj (by rw [tl_cutT, tl_cutT, tl_cutT, List.take_take, Nat.min_eq_left h])
/-- what blocks a needed word is needed -/
theorem need_up (gg : Gb g) {w z : Str} (h : w ∈ needN b g) (e : blk g w = some z) : z ∈ needN b g := by
  obtain ⟨u, hu, l, hl, hs⟩ := need_mem.mp h
  obtain ⟨p0, hz⟩ := blk_sug e
  have cu : cutT w l = cutT u l := by
    have h1 : cutT w (cutT u l).length = cutT u l := cutT_pre (List.isPrefixOf_iff_prefix.mp (sug_pre hs))
    rw [cutT_len hl] at h1
    exact h1
  have tl_ := (typed_le gg (sug_mem hs) l).mpr (by rw [cu]; exact hs)
  refine need_mem.mpr ⟨u, hu, (typed g w).length - 1, by omega, ?_⟩
  rw [← cut_cut u _ l (by omega), ← cu, cut_cut w _ l (by omega)]
  exact hz
/-- where the suggestions part, a branching must change -/
theorem part_at (gb : Gb b) (gg : Gb g) (pm : b.Perm g) {t x y : Str} (hx : sug b t = some x) (hy : sug g t = some y) (ne : x ≠ y) : ∃ u ∈ chg b g, tl t <+: tl u := by
  have xg := pm.mem_iff.mp (sug_mem hx)
  have yg := sug_mem hy
  obtain ⟨lt, hb⟩ := fork_of gg xg yg ne
  obtain ⟨lt', _⟩ := fork_of gg yg xg (Ne.symm ne)
  rw [cm_comm] at lt'
  have px := List.isPrefixOf_iff_prefix.mp (sug_pre hx)
  have py := List.isPrefixOf_iff_prefix.mp (sug_pre hy)
  have ex : cutT x t.length = t := cutT_pre px
  have ey : cutT y t.length = t := cutT_pre py
  have tx : t.length ≤ x.length := by
    have := px.length_le
    rw [TL.len_tl, TL.len_tl x]
    exact this
  have tc : t.length ≤ cm x y := (cut_cm tx).mp (by rw [ex, ey])
  have uy : cutT y (cm x y) = cutT x (cm x y) := (cut_cm (Nat.le_of_lt lt)).mpr (Nat.le_refl _)
  have tu : tl t <+: tl (cutT x (cm x y)) := by
    rw [← ex, tl_cutT, tl_cutT]
    exact List.take_prefix_take_left tc
  have s1 : sug b (cutT x (cm x y)) = some x := sug_mono hx tu (cut_pre _ _)
  have s2 : sug g (cutT x (cm x y)) = some y := sug_mono hy tu (by rw [← uy]; exact cut_pre _ _)
  refine ⟨_, chg_mem.mpr ⟨hb, fun e => ?_⟩, tu⟩
  unfold lat at e
  rw [s1, s2, cutT_len (Nat.le_of_lt lt)] at e
  have hx1 : cm x y < (tl x).length := by rw [← TL.len_tl]; exact lt
  have hy1 : cm x y < (tl y).length := by rw [← TL.len_tl]; exact lt'
  have e2 : (⟨#[(tl x).getD (cm x y) 0]⟩ : Str) = ⟨#[(tl y).getD (cm x y) 0]⟩ := e
  rw [List.getD_eq_getElem?_getD, List.getD_eq_getElem?_getD, List.getElem?_eq_getElem hx1, List.getElem?_eq_getElem hy1] at e2
  have e3 : (tl x)[cm x y] = (tl y)[cm x y] := by simpa using e2
  have bad := (cut_cm (x := x) (o := y) (l := cm x y + 1) (by omega)).mp (tl_inj (by
    rw [tl_cutT, tl_cutT, List.take_succ_eq_append_getElem hx1, List.take_succ_eq_append_getElem hy1, ← e3]
    have := congrArg tl uy
    rw [tl_cutT, tl_cutT] at this
    rw [this]))
  omega
theorem part_need (gb : Gb b) (gg : Gb g) (pm : b.Perm g) {t x y : Str} (hx : sug b t = some x) (hy : sug g t = some y) (ne : x ≠ y) : y ∈ needN b g := by
  obtain ⟨u, hu, tu⟩ := part_at gb gg pm hx hy ne
  have tl_ : t.length ≤ u.length := by
    have := tu.length_le
    rw [TL.len_tl, TL.len_tl u]
    exact this
  exact need_mem.mpr ⟨u, hu, t.length, tl_, by rw [cutT_pre tu]; exact hy⟩
theorem fo_need (gg : Gb g) : Fo (blk g) (needN b g) := by
  refine ⟨need_nd b g, fun x hx z e => need_up gg hx e, ⟨g.filter fun x => decide (x ∈ needN b g), nodup_same (gg.nd.filter _) (need_nd b g) fun x => ?_, (lay_self gg).filter _⟩, fun x hx => blk_ne gg (need_sub hx)⟩
  rw [List.mem_filter, decide_eq_true_eq]
  exact ⟨fun h => h.2, fun h => ⟨need_sub h, h⟩⟩
theorem play_perm (gb : Gb b) {r : List Str} (h : ∀ x ∈ r, x ∈ b) : (play b r).Perm b :=
  nodup_same (play_nodup r b gb.nd) gb.nd fun x => by
    rw [play_mem]
    exact ⟨fun z => z.elim id (h x), .inl⟩
/-- they are enough -/
theorem need_enough (gb : Gb b) (gg : Gb g) (pm : b.Perm g) {r : List Str} (p : r.Perm (needN b g)) (L : Lay (blk g) r) : stt (play b r) = stt g := by
  have hr : ∀ x ∈ r, x ∈ b := fun x hx => pm.mem_iff.mpr (need_sub (p.mem_iff.mp hx))
  have rn : r.Nodup := p.nodup_iff.mpr (need_nd b g)
  refine (alike_lay gg ((play_perm gb hr).trans pm)).mpr ?_
  rw [play_rest gb.nd r, play_self rn]
  refine List.pairwise_append.mpr ⟨?_, L, fun y hy x hx e => ?_⟩
  · rw [List.pairwise_filter, List.pairwise_iff_getElem]
    intro i j hi hj ij h1 h2 e
    have yn : b[i] ∉ needN b g := fun z => by simp [p.mem_iff.mpr z] at h1
    obtain ⟨_, hs⟩ := blk_sug e
    have px := pre_cut b[j] ((typed g b[j]).length - 1)
    obtain ⟨z, hz⟩ := sug_ex (ws := b) (List.getElem_mem hj) px
    by_cases ez : z = b[i]
    · have := sug_idx gb.nd hz (List.getElem_mem hj) px
      rw [ez, idx_get gb.nd (List.getElem?_eq_getElem hi), idx_get gb.nd (List.getElem?_eq_getElem hj)] at this
      omega
    · exact yn (part_need gb gg pm hz hs ez)
  · have := (List.mem_filter.mp hy).2
    have xn := need_up gg (p.mem_iff.mp hx) e
    simp [p.mem_iff.mpr xn] at this
theorem nd_le {L S : List Str} (nd : L.Nodup) (h : ∀ x ∈ L, x ∈ S) : L.length ≤ S.length := by
  have := dedT_sub h
  rw [dedT_id nd] at this
  exact this
end Gd
namespace Gd
open PySem PySem.Spec PyProof.Rows L2
variable {b g : List Str}
/-- a shortest list -/
structure Sho (b g r : List Str) : Prop where
  p : r.Perm (needN b g)
  L : Lay (blk g) r
theorem Sho.sub {r : List Str} (h : Sho b g r) (pm : b.Perm g) : ∀ x ∈ r, x ∈ b := fun x hx => pm.mem_iff.mpr (need_sub (h.p.mem_iff.mp hx))
theorem Sho.ends {r : List Str} (h : Sho b g r) (gb : Gb b) (gg : Gb g) (pm : b.Perm g) : stt (play b r) = stt g := need_enough gb gg pm h.p h.L
theorem srt_need (b g : List Str) : srt (needN b g) = needN b g := (srt_uniq (List.Perm.refl _) (srt_pw _)).symm
end Gd
namespace Gd
open PySem PySem.Spec PyProof.Rows L2
end Gd
namespace Gd
open PySem PySem.Spec PyProof.Rows L2
end Gd
namespace Gd
open PySem PySem.Spec PyProof.Rows L2
end Gd
namespace Gd
open PySem PySem.Spec PyProof.Rows L2
open Sem (wp)
open AutoSeq1 (wpAny_loadPart')
end Gd
namespace Gd
open PySem PySem.Spec PyProof.Rows L2
end Gd
namespace Gd
open PySem PySem.Spec PyProof.Rows L2
end Gd
namespace Gd
open PySem PySem.Spec PyProof.Rows L2
section
variable {K : PySem.W.Frag} {w : World} {B G G' G'' G0 : Addr → Prop} {ρ ρ' ρ'' ρ0 : List Addr} {H H' H'' H0 : Hp} {c c' : Cs} {σ : L2.St} {e e' : Ev} {v vx vy : V} {u u2 x y : W}
variable {Q : W → Cs → Prop} {D : DV} {Dh : Ends} {g : TG} {t : TA} {te tk tv td ty : TE} {tt : TT} {ts : TS} {ws : List Nat} {k : Nat} {o : Obj} {vs : List (Key × V)} {kvs : List (Key × PyData)}
def dropG (kvs : List (Key × PyData)) (k : Key) : List (Key × PyData) := kvs.filter fun kv => decide (kv.1 ≠ k)
theorem KR.drop {vs : List (Key × V)} {kvs : List (Key × PyData)} (r : KR G H vs kvs) (k : Key) : KR G H (dropK vs k) (dropG kvs k) := by
  unfold dropK dropG
  have r2 : Paired (fun (a : Key × V) (b : Key × PyData) => a.1 = b.1 ∧ Dq G H a.2 b.2) vs kvs := r
  clear r
  show Paired (fun (a : Key × V) (b : Key × PyData) => a.1 = b.1 ∧ Dq G H a.2 b.2) _ _
  induction r2 with
  | nil => exact .nil
  | @cons a b as bs q t ih =>
    rw [List.filter_cons, List.filter_cons, q.1]
    by_cases z : b.1 = k
    · rw [if_neg (by simp [z]), if_neg (by simp [z])]; exact ih
    · rw [if_pos (by simp [z]), if_pos (by simp [z])]; exact .cons q ih
end
end Gd
namespace Gd
open PySem PySem.Spec PyProof.Rows L2
end Gd
namespace Gd
open PySem PySem.Spec PyProof.Rows L2
end Gd
namespace Gd
open PySem PySem.Spec PyProof.Rows L2
def setAll (c : Cs) : List Nat → Cs → Cs
  | [], _ => c
  | _, [] => c
  | k :: ks, x :: xs => (setAll c ks xs).set k x
theorem setAll_len (c : Cs) : ∀ (ks : List Nat) (l : Cs), (setAll c ks l).length = c.length
  | [], l => by cases l <;> rfl
  | _ :: _, [] => rfl
  | k :: ks, x :: xs => by
    show ((setAll c ks xs).set k x).length = _
    rw [List.length_set]
    exact setAll_len c ks xs
/-- the cells of c at ks -/
def pickC (c : Cs) (ks : List Nat) : Cs := ks.filterMap fun k => c[k]?
end Gd
namespace Gd
open PySem PySem.Spec PyProof.Rows L2
end Gd
namespace Gd
open PySem PySem.Spec PyProof.Rows L2
end Gd
namespace Gd
open PySem PySem.Spec PyProof.Rows L2
end Gd
namespace Gd
open PySem PySem.Spec PyProof.Rows L2
/-- the cells of c at ks are cs -/
structure ObAt (c : Cs) (ks : List Nat) (cs : Cs) : Prop where
  nd : ks.Nodup
  bd : ∀ k ∈ ks, k < c.length
  at_ : pickC c ks = cs
theorem pickC_ext {c c' : Cs} : ∀ {ks : List Nat}, (∀ k ∈ ks, c'[k]? = c[k]?) → pickC c' ks = pickC c ks
  | [], _ => rfl
  | k :: ks, h => by
    unfold pickC
    rw [List.filterMap_cons, List.filterMap_cons, h k (by simp)]
    have := pickC_ext (c := c) (c' := c') (ks := ks) fun j hj => h j (by simp [hj])
    unfold pickC at this
    rw [this]
theorem pick_setAll {c : Cs} : ∀ {ks : List Nat} {cs : Cs}, ks.Nodup → (∀ k ∈ ks, k < c.length) → cs.length = ks.length → pickC (setAll c ks cs) ks = cs
  | [], [], _, _, _ => rfl
  | [], _ :: _, _, _, h => by cases h
  | _ :: _, [], _, _, h => by cases h
  | k :: ks, x :: cs, nd, bd, l => by
    have nd2 := List.nodup_cons.mp nd
    have ih := pick_setAll (c := c) nd2.2 (fun j hj => bd j (by simp [hj])) (Nat.succ.inj l)
    show pickC ((setAll c ks cs).set k x) (k :: ks) = x :: cs
    have hk : ((setAll c ks cs).set k x)[k]? = some x := List.getElem?_set_self (by rw [setAll_len]; exact bd k (by simp))
    have e : pickC ((setAll c ks cs).set k x) ks = pickC (setAll c ks cs) ks := pickC_ext fun j hj => List.getElem?_set_ne fun z => nd2.1 (by rw [z]; exact hj)
    unfold pickC at e ih ⊢
    rw [List.filterMap_cons, hk, e, ih]
section
variable {c cs cs' new : Cs} {ks : List Nat}
theorem ObAt.put (O : ObAt c ks cs) (l : cs'.length = ks.length) : ObAt (setAll c ks cs') ks cs' :=
  ⟨O.nd, fun k hk => by rw [setAll_len]; exact O.bd k hk, pick_setAll O.nd O.bd l⟩
theorem ObAt.app (O : ObAt c ks cs) (new : Cs) : ObAt (c ++ new) ks cs :=
  ⟨O.nd, fun k hk => by rw [List.length_append]; have := O.bd k hk; omega, by
    rw [← O.at_]
    exact pickC_ext fun k hk => List.getElem?_append_left (O.bd k hk)⟩
theorem ObAt.set (O : ObAt c ks cs) {j : Nat} (n : j ∉ ks) (x : Cell) : ObAt (c.set j x) ks cs :=
  ⟨O.nd, fun k hk => by rw [List.length_set]; exact O.bd k hk, by
    rw [← O.at_]
    exact pickC_ext fun k hk => List.getElem?_set_ne fun z => n (by rw [z]; exact hk)⟩
end
end Gd
namespace Gd
open PySem PySem.Spec PyProof.Rows L2
end Gd
namespace Gd
open PySem PySem.Spec PyProof.Rows L2
end Gd
namespace Gd
open PySem PySem.Spec PyProof.Rows L2
end Gd
theorem L2H.RoomH.units {k : Nat} {A : PySem.Around} (r : L2H.RoomH k A) : A.units + 64 < PySem.cLine := by have := r.un; omega
namespace Gd
open PySem PySem.Spec PyProof.Rows L2
end Gd
namespace Gd
open PySem PySem.Spec PyProof.Rows L2
end Gd
namespace Gd
open PySem PySem.Spec PyProof.Rows L2
def tNm (t1 t2 t3 r : TS) : TS := tSeq t1 (tSeq t2 (tSeq t3 r))
theorem PSs.as_nm {X : Cx} {st : List Stmt} {t1 t2 t3 r : TS} (h : PSs X st (tSeq t1 (tSeq t2 (tSeq t3 r)))) : PSs X st (tNm t1 t2 t3 r) := h
section
variable {K : PySem.W.Frag} {w : World} {c : Cs} {e : Ev} {D : DV} {sp spN : SpV} {E0 E1 : XK} {R : TS} {j i k1 k2 a1 a2 kx : Nat} {A1 A2 : List Str} {zs ys : List PyData}
theorem dql_ix {G : Addr → Prop} {H : Hp} {us : List V} {zs : List PyData} {s : Nat} {d : PyData} (h : DqL G H us zs) (e : zs[s]? = some d) : ∃ v, us[s]? = some v ∧ Dq G H v d := by
  have hl := dql_len h
  have hs : s < us.length := by rw [hl]; exact (List.getElem?_eq_some_iff.mp e).1
  obtain ⟨d', e', q⟩ := DqL.get h (List.getElem?_eq_getElem hs)
  rw [e] at e'
  cases e'
  exact ⟨_, List.getElem?_eq_getElem hs, q⟩
theorem v_nm (hj : j < e.length) (hi : i < e.length) (ne : j ≠ i)
    (e1 : e[k1]? = some (some (.c a1))) (c1 : c[a1]? = some (.l (A1.map .str))) (e2 : e[k2]? = some (some (.c a2))) (c2 : c[a2]? = some (.l (A2.map .str)))
    (ex : e[kx]? = some (some (.d (.list ys)))) (xj : j ≠ kx)
    (h1 : spN [.b (A1.map .str), .b (A2.map .str)] [] fun u c' => u = .o zs ∧ c' = [])
    (h2 : sp [.b zs, .b ys] [] fun u _ => u = .d (.bool true))
    (hz : ∀ s ∈ [2, 3, 5, 7], ∃ xs, zs[s]? = some (.list xs) ∧ xs.length < 200)
    (r : ∀ q, VS K w R ((e.set j (some (.x q))).set i (some (.d (.int 7)))) c D) :
    VS K w (tNm (tAsg (tCall (lift K w spN) [] E0 (tCons (tVar k1) (tCons (tVar k2) tNil))) (gName j))
      (tIfS (tNot (uTru K (tCall (lift K w sp) [] E1 (tCons (tVar j) (tCons (tVar kx) tNil))))) (tRet (tC (V.bl false))) tNext)
      (tForL K (tCons (tC (V.int 2)) (tCons (tC (V.int 3)) (tCons (tC (V.int 5)) (tCons (tC (V.int 7)) tNil)))) (gName i) (tDrop (tBM K "list" rAppend (tOp (rIx K) (tVar j) (tVar i)) (tCons (tC V.non) tNil)))) R) e c D := by
  intro B G ρ σ H Dh X S L
  have lσ : σ.length = e.length := Paired.length S
  obtain ⟨o1, g1, _, v1, rfl, s1⟩ := paired_get S e1
  obtain ⟨o2, g2, _, v2, rfl, s2⟩ := paired_get S e2
  obtain ⟨o3, g3, _, v3, rfl, s3⟩ := paired_get S ex
  obtain ⟨p1, us1, rfl, hp1, hu1⟩ := (Lx.c c1).at X s1
  obtain ⟨p2, us2, rfl, hp2, hu2⟩ := (Lx.c c2).at X s2
  cases dql_strs hu1
  cases dql_strs hu2
  refine ⟨_, g1, _, g2, ?_⟩
  refine ⟨fun q => H q ≠ none, fun _ => False, [], [], [.b (A1.map .str), .b (A2.map .str)], _, ⟨.nil, by simp, by simp, fun _ h => h.elim, fun _ h => h, .nil⟩,
    .cons (.b hp1 (dqL_strs _) (by rw [hp1]; simp)) (.cons (.b hp2 (dqL_strs _) (by rw [hp2]; simp)) .nil), fun u hu => ?_, h1, ?_⟩
  · simp only [List.mem_cons, List.not_mem_nil, or_false] at hu
    rcases hu with rfl | rfl <;> rfl
  rintro u c' ⟨rfl, rfl⟩ v G1 H1 F1 X1 sv fv
  cases sv with
  | @o q us0 _ hq rq gq bq nq =>
    obtain ⟨_, eq_, hn⟩ := fv
    cases eq_
    have fresh : ∀ p, G1 p → H p = none := fun p g => (F1.nw p g).elim (fun h => h.elim) fun h => h
    have gj : (σ.set j (some (V.ref q)))[j]? = some (some (.ref q)) := by rw [List.getElem?_set_self (by omega)]
    have gx : (σ.set j (some (V.ref q)))[kx]? = some (some v3) := by rw [List.getElem?_set_ne xj]; exact g3
    cases s3 with
    | d s3 =>
      cases s3 with
      | @lst b us3 _ n3 hb rb =>
        have hb1 : H1 b = some (.lst us3) := F1.kp b _ hb (by simp)
        refine ⟨_, gj, _, gx, ?_⟩
        refine ⟨fun q => H1 q ≠ none, fun q => H1 q ≠ none, [], [], [.b zs, .b ys], _, ⟨.nil, by simp, by simp, fun _ h => h, fun _ h => h, .nil⟩,
          .cons (.b hq (rq.imp X1.live) (by rw [hq]; simp)) (.cons (.b hb1 (DqL.mono (fun b o _ e => F1.kp b o e (by simp)) (fun p g => F1.tr p (X.live p g)) ys us3 rb) (by rw [hb1]; simp)) .nil), fun u hu => ?_, h2, ?_⟩
        · simp only [List.mem_cons, List.not_mem_nil, or_false] at hu
          rcases hu with rfl | rfl <;> rfl
        rintro u c' rfl v G2 H2 F2 X2 sw fw
        cases sw with
        | d sw =>
          cases dq_bl sw
          refine ⟨true, rfl, ?_⟩
          show tSeq (tForL K (tCons (tC (V.int 2)) (tCons (tC (V.int 3)) (tCons (tC (V.int 5)) (tCons (tC (V.int 7)) tNil)))) (gName i) (tDrop (tBM K "list" rAppend (tOp (rIx K) (tVar j) (tVar i)) (tCons (tC V.non) tNil)))) R Dh (σ.set j (some (V.ref q))) H2
          refine rd_forU ⟨by show 4 ≤ sizeLine; rw [sizeLine_eq]; decide, fun d nd => ?_⟩
          have k2_ : ∀ b o, H1 b = some o → upd H2 d (.lst [V.int 2, V.int 3, V.int 5, V.int 7]) b = some o := fun b o h => by
            have h2 := F2.kp b o h (by simp)
            rw [upd_ne (fun z => by rw [z, nd] at h2; cases h2)]
            exact h2
          generalize hH3 : upd H2 d (.lst [V.int 2, V.int 3, V.int 5, V.int 7]) = H3 at *
          have hd3 : H3 d = some (.lst [V.int 2, V.int 3, V.int 5, V.int 7]) := by rw [← hH3]; exact upd_same
          have ngd : ¬ G1 d := fun g => by
            have := F2.tr d (X1.live d g)
            exact this nd
          have hi1 : i < (σ.set j (some (V.ref q))).length := by rw [List.length_set]; omega
          refine fo_l (SqL.of hd3) (fun k σ' H' => (∃ y, σ' = (σ.set j (some (V.ref q))).set i y ∧ (0 < k → ∃ s : Nat, [2, 3, 5, 7][k - 1]? = some s ∧ y = some (V.int (s : Int)))) ∧
            (∀ b o, H3 b = some o → ¬ G1 b → H' b = some o) ∧ (∀ b, H3 b ≠ none → H' b ≠ none) ∧ ∀ s ∈ [2, 3, 5, 7], ∃ p xs, us0[s]? = some (V.ref p) ∧ G1 p ∧ H' p = some (.lst xs) ∧ xs.length < 200 + k)
            ⟨⟨(σ.set j (some (V.ref q)))[i], by rw [List.set_getElem_self], fun h => absurd h (by omega)⟩, fun _ _ h _ => h, fun _ h => h, fun s hs => ?_⟩ (fun k σ' H' ⟨_, kp, _, _⟩ => SqL.of (kp d _ hd3 ngd)) ?_ ?_
          · obtain ⟨xs, ez, lz⟩ := hz s hs
            obtain ⟨v, ev, qv⟩ := dql_ix rq ez
            cases qv with
            | @lst p ws _ n h r => exact ⟨p, ws, ev, n, k2_ p _ h, by rw [dql_len r]; omega⟩
          · rintro k x σ' H' hx ⟨⟨y, rfl, _⟩, kp, tr, inner⟩
            obtain ⟨s, es, rfl⟩ : ∃ s : Nat, [2, 3, 5, 7][k]? = some s ∧ x = V.int (s : Int) := by
              have : ([2, 3, 5, 7].map fun s : Nat => V.int (s : Int))[k]? = some x := hx
              rw [List.getElem?_map] at this
              obtain ⟨s, h1, h2⟩ := Option.map_eq_some_iff.mp this
              exact ⟨s, h1, h2.symm⟩
            obtain ⟨p, xs, ep, gp, hp, lp⟩ := inner s (List.mem_of_getElem? es)
            have hq' : H' q = some (.lst us0) := kp q _ (k2_ q _ hq) gq
            have kl : k < 4 := (List.getElem?_eq_some_iff.mp es).1
            have gj' : (((σ.set j (some (V.ref q))).set i y).set i (some (V.int (s : Int))))[j]? = some (some (.ref q)) := by
              rw [List.getElem?_set_ne (Ne.symm ne), List.getElem?_set_ne (Ne.symm ne)]; exact gj
            have gi' : (((σ.set j (some (V.ref q))).set i y).set i (some (V.int (s : Int))))[i]? = some (some (V.int (s : Int))) := by
              rw [List.getElem?_set_self (by rw [List.length_set]; exact hi1)]
            refine ⟨_, gj', _, gi', u_ixL (SqL.of hq') (show atI us0 (s : Int) = some (V.ref p) from atI_of (by omega) ep) ⟨.inl ⟨rfl, _, SqL.of hp⟩, p, xs, .non, rfl, rfl, hp, by rw [sizeLine_eq]; omega, ?_⟩⟩
            refine ⟨⟨some (V.int (s : Int)), by rw [List.set_set], fun _ => ⟨s, es, rfl⟩⟩, fun b o h n => ?_, fun b h => ?_, fun s2 hs2 => ?_⟩
            · rw [upd_ne (fun z => n (by rw [z]; exact gp))]
              exact kp b o h n
            · by_cases z : b = p
              · rw [z, upd_same]; simp
              · rw [upd_ne z]; exact tr b h
            · obtain ⟨p2, xs2, ep2, gp2, hp2, lp2⟩ := inner s2 hs2
              by_cases z : p2 = p
              · exact ⟨p2, xs ++ [.non], ep2, gp2, by rw [z, upd_same], by rw [List.length_append]; simp; omega⟩
              · exact ⟨p2, xs2, ep2, gp2, by rw [upd_ne z]; exact hp2, by omega⟩
          · rintro σ' H' ⟨⟨y, rfl, hy⟩, kp, tr, _⟩
            obtain ⟨s, es, rfl⟩ := hy (by decide)
            have : s = 7 := by simpa using es.symm
            subst this
            have kpH : ∀ b o, H b = some o → H' b = some o := fun b o h => kp b o (k2_ b o (F1.kp b o h (by simp))) fun g => by rw [fresh b g] at h; cases h
            have trH : ∀ b, H b ≠ none → H' b ≠ none := fun b h => by
              obtain ⟨o, ho⟩ := Option.ne_none_iff_exists'.mp h
              rw [kpH b o ho]; simp
            have Ef : Ext G ρ H G ρ H' := ⟨fun b o h _ => kpH b o h, trH, ⟨[], by simp, by simp⟩, fun _ h => h, fun _ h => .inl h⟩
            have Xf : Hx B G ρ c H' := X.pure (fun b o h _ => kpH b o h) (fun _ h => h) (fun _ h => .inl h) fun p g => trH p (X.live p g)
            exact r q B G ρ _ _ Dh Xf (sl_set (sl_set (Ef.sl X S) .x rfl j) (.d (.int 7)) rfl i) (L.re Ef)
end
end Gd
namespace Gd
open PySem PySem.Spec PyProof.Rows L2
section
variable {prog : Program} {w : World} {A : Around} {E : Value → Shared → Prop} {s : Shared}
/-- every part of a list is put anew from another list -/
theorem set_whole {l b sl : Addr} {old new : Array Value} {n n2 : Nat} {Q : Unit → Shared → Prop}
    (e : s.heap.get? l = some { cls := .type "list", data := .seq old n }) (e2 : s.heap.get? b = some { cls := .type "list", data := .seq new n2 }) (hne : l ≠ b)
    (hs : s.heap.IsSliceOf sl .none .none .none) (hsz : old.size + new.size ≤ sizeLine)
    (h : Q () { s with heap := s.heap.update l (Obj.mapSeq fun xs => xs.extract 0 0 ++ new ++ xs.extract old.size xs.size) }) :
    wpAny (model prog w) A (setItem (.ref l) (.ref sl) (.ref b)) Q E s := by
  have hl : s.heap.IsList l old := PySem.IsL.isList e
  have hb : s.heap.IsList b new := PySem.IsL.isList e2
  obtain ⟨os, hos, hcs, hds⟩ := id hs
  have hT : s.TypeIs (.ref sl) "slice" := ⟨os, hos, hcs⟩
  have hsame : Builtin.List.listSameRef (.ref l) (.ref b) = false := by
    unfold Builtin.List.listSameRef
    exact beq_eq_false_iff_ne.mpr hne
  have hz' : ((fun xs : Array Value => xs.extract 0 0 ++ new ++ xs.extract old.size xs.size) old).size ≤ sizeLine + 1 := by
    simp only [Array.size_append, Array.size_extract]
    omega
  unfold setItem
  try with_reducible refine wpAny_holding ?_
  first | refine wpAny_bind (wpAny_pure ?_) | skip
  refine wpAny_bind (wpAny_sequenceKey hl.typeIs (by decide) ?_)
  refine wpAny_bind (wpAny_callSpecial?_slot (name := Str.ofString "__setitem__") hl.typeIs slot_list_setitem
    (wpAny_call_entry slot_list_setitem hl.typeIs entry_list_setitem ?_ (args_list_setitem _ _ _)))
  show wpAny _ _ (Builtin.List.listSubscript? (.ref sl) >>= _) _ _ s
  refine wpAny_bind ?_
  unfold Builtin.List.listSubscript?
  refine wpAny_bind (wpAny_specialOf hT slice_no_index ?_)
  simp only [Option.isNone_none, if_true]
  refine wpAny_pure ?_
  show wpAny _ _ (typeOf (.ref sl) >>= _) _ _ s
  refine wpAny_bind (wpAny_typeOf hT ?_)
  first
    | rw [if_neg (by decide)]
    | refine PySem.W.KFB.if_not (by decide) ?_
  rw [listSliceParts_eq]
  refine wpAny_bind (wpAny_bind (wpAny_field hos hds (x := .none) rfl (wpAny_bind (wpAny_listPart .none ?_))))
  rw [if_neg (show ¬ ((rawPart none == rawInt 0) = true) from Bool.false_ne_true)]
  refine wpAny_bind (wpAny_field hos hds (x := .none) rfl (wpAny_bind (wpAny_listPart .none ?_)))
  refine wpAny_bind (wpAny_field hos hds (x := .none) rfl (wpAny_bind (wpAny_listPart .none (wpAny_pure ?_))))
  first
    | simp only [hsame, Bool.false_eq_true, if_false]
    | refine PySem.W.KFB.if_not hsame ?_
  refine wpAny_bind (m := Builtin.List.listAllItems (.ref b) "must assign iterable to extended slice") ?_
  unfold Builtin.List.listAllItems
  refine wpAny_bind (wpAny_typeOf hb.typeIs ?_)
  first
    | refine PySem.W.KFB.if_so (by decide) ?_
    | simp only [beq_self_eq_true, Bool.true_or, if_true]
  unfold Builtin.List.listItems
  refine wpAny_bind (wpAny_seqItems e2 rfl (wpAny_pure ?_))
  refine wpAny_bind (wpAny_bind (wpAny_seqItems e rfl (wpAny_pure ?_)))
  have hbd : sliceBounds none none none old.size = ((0 : Int), (old.size : Int), 1) := by simp [sliceBounds]
  refine wpAny_bind (wpAny_of_eq ((sliceIndices_raw none none none old.size (by simp)).trans (congrArg (pure : Int × Int × Int → Sem (Int × Int × Int)) hbd)) ?_)
  show wpAny _ _ (if ((1 : Int) == 1) = true then _ else _) _ _ s
  rw [if_pos (by decide)]
  refine wpAny_bind (wpAny_rule ?_)
  first
    | simp only [notLongL hsz, Bool.false_eq_true, if_false]
    | refine PySem.W.KFB.if_not (notLongL hsz) ?_
  first | refine wpAny_bind (wpAny_pure ?_) | skip
  show wpAny _ _ (updateSeq l (fun xs => xs.extract 0 ((0 : Int)).toNat ++ new ++ xs.extract (max (0 : Int) (old.size : Int)).toNat xs.size) >>= _) _ _ s
  rw [show (max (0 : Int) (old.size : Int)).toNat = old.size by omega, show ((0 : Int)).toNat = 0 from rfl]
  refine wpAny_bind (wpAny_updateSeq (hz := Nat.le_trans (Nat.le_add_right _ _) hsz) (_hz' := hz') e rfl ?_)
  refine wpAny_bind (wpAny_letGo ?_)
  first
    | exact wpAny_bind (wpAny_pure (wpAny_pure ⟨.none, rfl, wpAny_pure h⟩))
    | exact wpAny_pure ⟨.none, rfl, wpAny_pure h⟩
end
section
variable {X : Cx} {o : Expr} {to : TE} {pos p2 : Pos}
def gSl0 (to : TE) : TG := fun v σ H Q => to σ H fun o H1 => ∃ p q xs ys, o = .ref p ∧ v = .ref q ∧ H1 p = some (.lst xs) ∧ H1 q = some (.lst ys) ∧ p ≠ q ∧ xs.length + ys.length ≤ sizeLine ∧ Q σ (upd H1 p (.lst ys))
theorem pg_sl0 (ho : PE X o to) : PG X (.Subscript o (.Slice none none none p2) pos) (gSl0 to) := by
  refine ⟨fun pins s σ H v u Q I r h => ?_⟩
  rw [arm_assign_Subscript]
  refine wpAny_bind (wpAny_holding (thn (ho.run pins s σ H _ I h) fun ov s1 ⟨x, H1, I1, r1, q1⟩ => ?_))
  refine wpAny_bind (wpAny_holding (wpAny_Slice ?_))
  rw [evalPart_none]
  refine wpAny_pure (wpAny_pure ?_)
  refine wpAny_pure ?_
  obtain ⟨p, q, xs, ys, e1, e2, hp, hq, hne, hz, k⟩ := q1
  subst e1 e2
  cases r1
  cases r
  have I4 : Inv X pins σ H1 { s1 with heap := s1.heap.push { cls := .type "slice", data := .fields #[.none, .none, .none] } } := I1.kept (t' := s1.toks) fun b ob q => Heap.get?_push_of_some _ q
  refine wpAny_bind (wpAny_standAt (wpAny_bind (wpAny_holding ?_)))
  obtain ⟨z, its, n, r, hl, e⟩ := I4.lstM hp
  obtain ⟨z2, its2, n2, r2, hl2, e2⟩ := I4.lstM hq
  refine set_whole e e2 hne (Heap.IsSliceOf.new ..) (by rw [List.size_toArray, List.size_toArray]; omega) ?_
  refine wpAny_release ⟨σ, upd H1 p (.lst ys), ?_, k⟩
  refine I4.lset (its' := its2) (t' := s1.toks) hp e ?_ r2 (by omega)
  apply Array.toList_inj.mp
  simp
end
section
variable {K : PySem.W.Frag} {w : World} {c : Cs} {e : Ev} {P : Ev → Cs → Prop} {to : TE} {ys : List PyData}
/-- from a cell -/
theorem v_gsl0 {k2 : Nat} (h : VE K w to e c fun x c1 => ∃ (k : Nat) (xs : List PyData), x = .c k ∧ c1[k]? = some (.l xs) ∧ c1[k2]? = some (.l ys) ∧ k ≠ k2 ∧ xs.length + ys.length ≤ sizeLine ∧ P e (c1.set k (.l ys))) : VG K w (gSl0 to) (.c k2) e c P := by
  intro B G0 ρ0 H0 G ρ σ H v Ph E X S s f kk
  refine h B G ρ σ H _ X S fun x vx c1 G1 ρ1 H1 E1 X1 s1 f1 ⟨k, xs, ex, hc, hc2, nk, hz, q⟩ => ?_
  subst ex
  obtain ⟨p, vs, rfl, hp, hl, r⟩ := cell_at X1 s1 hc
  have s3 := E1.sh X s
  obtain ⟨p2, us, rfl, hp2, hl2, r2⟩ := cell_at X1 s3 hc2
  have m := List.mem_of_getElem? hp
  have hne : p ≠ p2 := fun z => nk (by
    subst z
    obtain ⟨h1, e1⟩ := List.getElem?_eq_some_iff.mp hp
    obtain ⟨h2, e2⟩ := List.getElem?_eq_some_iff.mp hp2
    have pw := List.pairwise_iff_getElem.mp X1.nd
    rcases Nat.lt_trichotomy k k2 with z | z | z
    · exact absurd (e1.trans e2.symm) (pw k k2 h1 h2 z)
    · exact z
    · exact absurd (e2.trans e1.symm) (pw k2 k h2 h1 z))
  refine ⟨p, p2, vs, us, rfl, rfl, hl, hl2, hne, by rw [dql_len r, dql_len r2]; exact hz, ?_⟩
  have X4 := X1.mut hp (o := .lst us) (x := .l ys) (.l upd_same (dql_upd X1 hp r2))
  have st : Stay B G1 ρ1 H1 G1 ρ1 (upd H1 p (.lst us)) := ⟨fun b o g e => by
    rw [upd_ne fun z => X1.av p m (by rw [← z]; exact g)]
    exact e, fun b o g e => by
    rw [upd_ne fun z => X1.avb p m (by rw [← z]; exact g)]
    exact e, fun _ h => h, [], by simp⟩
  exact kk _ _ _ _ _ _ ((E.trans E1).mut m) ((E1.stay X).trans st) X4 (((E1.stay X).trans st).sl S) q
/-- from data -/
theorem v_gsl0D (h : VE K w to e c fun x c1 => ∃ (k : Nat) (xs : List PyData), x = .c k ∧ c1[k]? = some (.l xs) ∧ xs.length + ys.length ≤ sizeLine ∧ P e (c1.set k (.l ys))) : VG K w (gSl0 to) (.d (.list ys)) e c P := by
  intro B G0 ρ0 H0 G ρ σ H v Ph E X S s f kk
  refine h B G ρ σ H _ X S fun x vx c1 G1 ρ1 H1 E1 X1 s1 f1 ⟨k, xs, ex, hc, hz, q⟩ => ?_
  subst ex
  obtain ⟨p, vs, rfl, hp, hl, r⟩ := cell_at X1 s1 hc
  have s3 := E1.sh X s
  have m := List.mem_of_getElem? hp
  cases s3 with
  | d s3 =>
    cases s3 with
    | @lst p2 us _ n hl2 r2 =>
      have hne : p ≠ p2 := fun z => X1.av p m (by rw [z]; exact n)
      refine ⟨p, p2, vs, us, rfl, rfl, hl, hl2, hne, by rw [dql_len r, dql_len r2]; exact hz, ?_⟩
      have X4 := X1.mut hp (o := .lst us) (x := .l ys) (.l upd_same (dql_upd X1 hp r2))
      have st : Stay B G1 ρ1 H1 G1 ρ1 (upd H1 p (.lst us)) := ⟨fun b o g e => by
        rw [upd_ne fun z => X1.av p m (by rw [← z]; exact g)]
        exact e, fun b o g e => by
        rw [upd_ne fun z => X1.avb p m (by rw [← z]; exact g)]
        exact e, fun _ h => h, [], by simp⟩
      exact kk _ _ _ _ _ _ ((E.trans E1).mut m) ((E1.stay X).trans st) X4 (((E1.stay X).trans st).sl S) q
end
end Gd
open PySem PySem.Spec PyProof.Rows L2 Gd
local macro_rules | `(tactic| walk_at "sz") => `(tactic| first
  | assumption
  | (rw [sizeLine_eq]; simp only [List.length_cons, List.length_nil, List.length_map, List.length_append]; omega)
  | (rw [sizeLine_eq]; omega)
  | (rw [sizeLine_eq]; decide +kernel))
local macro_rules | `(tactic| walk_at "lv") => `(tactic| first
  | assumption
  | exact .b
  | exact .d
  | exact .o
  | exact .s
  | exact .c rfl
  | exact .c (by assumption)
  | exact .ca rfl)
local macro_rules | `(tactic| walk_at "v1") => `(tactic| first
  | ((with_reducible refine' v_var ?k1 ?_); (case k1 => exact rfl))
  | with_reducible refine v_int ?_
  | with_reducible refine v_str ?_
  | with_reducible refine v_bl ?_
  | with_reducible refine v_non ?_
  | with_reducible refine v_ty ?_
  | with_reducible refine v_op ?_
  | with_reducible refine v_un ?_
  | with_reducible refine v_cb ?_
  | with_reducible refine v_cons ?_
  | with_reducible refine v_nil ?_
  | with_reducible refine v_call0 ?_
  | with_reducible refine v_callO ?_
  | with_reducible refine v_callK ?_
  | with_reducible refine v_callM ?_
  | with_reducible refine v_seq ?_
  | with_reducible refine v_asg ?_
  | with_reducible refine v_next ?_
  | with_reducible refine v_drop ?_
  | with_reducible refine v_ret ?_
  | with_reducible refine v_ifs ?_
  | with_reducible refine v_ife ?_
  | with_reducible refine v_test ?_
  | with_reducible refine v_tru ?_
  | with_reducible refine v_tand ?_
  | with_reducible refine v_tor ?_
  | with_reducible refine v_tnot ?_
  | with_reducible refine v_yes ?_
  | with_reducible refine v_andT ?_
  | with_reducible refine v_orT ?_
  | with_reducible refine v_lst ?_
  | with_reducible refine v_tupTT ?_
  | with_reducible refine v_tup ?_
  | with_reducible refine v_sl ?_
  | with_reducible refine v_part ?_
  | with_reducible refine v_nopart ?_
  | with_reducible refine v_revL ?_
  | with_reducible refine v_bm ?_
  | with_reducible refine v_m1 ?_
  | with_reducible refine v_dnew ?_
  | with_reducible refine v_dgetM' ?_
  | with_reducible refine v_frz ?_
  | with_reducible refine v_forK ?_
  | with_reducible refine v_daug ?_
  | with_reducible refine w_lenF ?_
  | ((with_reducible refine' rtn_fz ?k1 ?k2 ?_); (case k1 => exact Nat.le_of_ble_eq_true rfl); (case k2 => exact rfl))
  | with_reducible refine res_dm ?_
  | with_reducible refine v_dget2 ?_
  | with_reducible refine v_dget ?_
  | with_reducible refine v_dput ?_
  | ((with_reducible refine' dg2_c ?k1 ?_); (case k1 => exact rfl))
  | with_reducible refine v_forU ?_
  | with_reducible refine v_for1 ?_
  | with_reducible refine v_lvals ?_
  | with_reducible refine v_forZ ?_
  | with_reducible refine v_forV ?_
  | ((with_reducible refine' v_augI ?k1 ?_); (case k1 => exact rfl))
  | with_reducible refine v_lcU ?_
  | with_reducible refine v_lc1 ?_
  | with_reducible refine v_lcZ ?_
  | with_reducible refine v_lcZA ?_
  | with_reducible refine v_parB ?_
  | with_reducible refine v_parT _ _ ?_
  | with_reducible refine v_par false false ?_
  | with_reducible refine v_brk ?_
  | with_reducible refine v_nx ?_
  | with_reducible refine v_rt ?_
  | with_reducible refine v_bk ?_
  | with_reducible refine v_pturn ?_
  | with_reducible refine v_turn ?_
  | with_reducible refine v_gC ?_
  | ((with_reducible refine v_gC' ?_ ?_); · exact rfl)
  | with_reducible refine v_gnameD ?_
  | ((with_reducible refine' v_gname ?k1 ?_); (case k1 => exact rfl))
  | ((with_reducible refine' v_gtup ?k1 ?_); (case k1 => exact rfl))
  | with_reducible refine v_gcons ?_
  | with_reducible refine v_gnil ?_
  | ((with_reducible refine' v_gset ?k1 ?_); (case k1 => exact rfl))
  | with_reducible refine rtn_d ?_
  | with_reducible refine rtn_o ?_
  | ((with_reducible refine' rtn_c ?k1 ?k2 ?_); (case k1 => exact Nat.le_of_ble_eq_true rfl); (case k2 => exact rfl))
  | with_reducible refine res_d ?_
  | with_reducible refine res_o ?_
  | with_reducible refine b_c ?_
  | with_reducible refine i_c ?_
  | with_reducible refine s_c ?_
  | with_reducible refine t_bl ?_
  | ((with_reducible refine' l_c ?k1 ?k2 ?_); (case k1 => exact rfl); (case k2 => rw [sizeLine_eq]; exact Nat.le_of_ble_eq_true rfl))
  | with_reducible refine z_d ?_
  | ((with_reducible refine' ty_lw ?k1 ?_); (case k1 => walk_at "lv"))
  | ((with_reducible refine' c0_c ?k1 ?_); (case k1 => exact rfl))
  | ((with_reducible refine' c1_cL ?k1 ?k2 ?k3 ?_); (case k1 => exact rfl); (case k2 => exact rfl); (case k3 => exact rfl))
  | ((with_reducible refine' gs_c ?k1 ?k2 ?_); (case k1 => exact rfl); (case k2 => exact rfl))
  | with_reducible refine tr_2 ?_
  | with_reducible refine set_c ?_
  | with_reducible refine iteT ?_
  | with_reducible refine iteF ?_
  | with_reducible refine ite_nt ?_
  | with_reducible refine w_addI ?_
  | with_reducible refine w_subI ?_
  | with_reducible refine w_neg ?_
  | with_reducible refine w_eqIs ?_
  | with_reducible refine w_eqBs ?_
  | with_reducible refine w_neBs ?_
  | with_reducible refine w_eqI ?_
  | with_reducible refine w_eqSs ?_
  | with_reducible refine w_eqS ?_
  | with_reducible refine w_neS ?_
  | with_reducible refine w_eqB ?_
  | with_reducible refine w_neB ?_
  | with_reducible refine w_ltI ?_
  | with_reducible refine w_gtI ?_
  | with_reducible refine w_leI ?_
  | with_reducible refine w_geI ?_
  | with_reducible refine w_ltS ?_
  | with_reducible refine w_isP ?_
  | with_reducible refine w_isN ?_
  | with_reducible refine w_isNn ?_
  | with_reducible refine w_starts ?_
  | with_reducible refine w_ends ?_
  | with_reducible refine w_eqTt ?_
  | with_reducible refine w_max2 ?_
  | with_reducible refine w_min2 ?_
  | with_reducible refine w_inS ?_
  | ((with_reducible refine' w_mod ?k1 ?_); (case k1 => first | assumption | decide | omega))
  | ((with_reducible refine' w_div ?k1 ?k2 ?_); (case k1 => first | assumption | decide | omega); (case k2 => first | assumption | decide))
  | ((with_reducible refine' w_mulI ?k1 ?_); (case k1 => first | exact Or.inl (Or.inl ⟨by decide, by decide⟩) | exact Or.inl (Or.inr ⟨by decide, by decide⟩)))
  | ((with_reducible refine' w_pow ?k1 ?_); (case k1 => exact ⟨by decide, by decide⟩))
  | ((with_reducible refine' w_mulS ?k1 ?k2 ?k3 ?_); (case k1 => first | assumption | omega | decide); (case k2 => first | assumption | omega | decide); (case k3 => first | assumption | decide))
  | ((with_reducible refine' w_slS ?k1 ?_); (case k1 => walk_at "sz"))
  | ((with_reducible refine' w_slL ?k1 ?_); (case k1 => walk_at "lv"))
  | ((with_reducible refine' w_lenS ?k1 ?_); (case k1 => walk_at "sz"))
  | ((with_reducible refine' w_lenL ?k1 ?_); (case k1 => walk_at "lv"))
  | with_reducible refine w_lenT ?_
  | with_reducible refine w_lenSet ?_
  | ((with_reducible refine' w_addS ?k1 ?_); (case k1 => walk_at "sz"))
  | ((with_reducible refine' w_addL ?k1 ?k2 ?k3 ?_); (case k1 => walk_at "lv"); (case k2 => walk_at "lv"); (case k3 => walk_at "sz"))
  | ((with_reducible refine' w_ixL ?k1 ?k2 ?_); (case k1 => walk_at "lv"); (case k2 => exact rfl))
  | ((with_reducible refine' w_inW ?k1 ?_); (case k1 => walk_at "lv"))
  | ((with_reducible refine' w_list ?k1 ?_); (case k1 => walk_at "lv"))
  | ((with_reducible refine' w_all ?k1 ?_); (case k1 => walk_at "lv"))
  | ((with_reducible refine' w_sum ?k1 ?_); (case k1 => walk_at "lv"))
  | with_reducible refine w_eqO ?_
  | ((with_reducible refine' w_allM ?k1 ?_); (case k1 => walk_at "lv"))
  | ((with_reducible refine' w_sumM ?k1 ?_); (case k1 => walk_at "lv"))
  | with_reducible refine w_isiT (.str _) ?_
  | with_reducible refine w_isiT (.int _) ?_
  | with_reducible refine w_isiT (.bl _) ?_
  | with_reducible refine w_isiT (.tup _) ?_
  | ((with_reducible refine' w_isiT (.lst ?k1) ?_); (case k1 => walk_at "lv"))
  | ((with_reducible refine w_isiF (.str _) ?_ ?_); · decide)
  | ((with_reducible refine w_isiF (.int _) ?_ ?_); · decide)
  | ((with_reducible refine w_isiF (.bl _) ?_ ?_); · decide)
  | ((with_reducible refine w_isiF .non ?_ ?_); · decide)
  | ((with_reducible refine w_isiF (.tup _) ?_ ?_); · decide)
  | ((with_reducible refine' w_isiF (.lst ?k1) ?k2 ?_); (case k1 => walk_at "lv"); (case k2 => decide)))
local macro_rules | `(tactic| walk_at "go") => `(tactic| repeat (walk_at "v1"))
open PySem PySem.Spec PyProof.Rows L2 Gd
namespace My
open PySem PySem.Spec PyProof.Rows L2 Gd
def topS (i : Nat) : Stmt := PySem.Challenge.pw_ghosttext_k48_named_arguments_of_orders.main.body.getD i (.Pass ⟨0, 0, 0, 0⟩)
abbrev s_last_with : Stmt := topS 19
abbrev N_last_with : List Str := ["book", "text", "word"]
theorem sc_last_with : FnScope N_last_with ["book", "text"] (defScope s_last_with) := ⟨rfl, rfl, rfl, by decide +kernel, rfl, by decide +kernel, by decide +kernel⟩
abbrev s_typed_letters : Stmt := topS 20
abbrev N_typed_letters : List Str := ["book", "word", "length"]
theorem sc_typed_letters : FnScope N_typed_letters ["book", "word"] (defScope s_typed_letters) := ⟨rfl, rfl, rfl, by decide +kernel, rfl, by decide +kernel, by decide +kernel⟩
abbrev s_find_blocker : Stmt := topS 21
abbrev N_find_blocker : List Str := ["book", "word", "typed"]
theorem sc_find_blocker : FnScope N_find_blocker ["book", "word"] (defScope s_find_blocker) := ⟨rfl, rfl, rfl, by decide +kernel, rfl, by decide +kernel, by decide +kernel⟩
abbrev s_blockers_orders : Stmt := topS 55
abbrev N_blockers_orders : List Str := ["book", "word"]
theorem sc_blockers_orders : FnScope N_blockers_orders ["book"] (defScope s_blockers_orders) := ⟨rfl, rfl, rfl, by decide +kernel, rfl, by decide +kernel, by decide +kernel⟩
abbrev s_is_text : Stmt := topS 10
abbrev N_is_text : List Str := ["value", "letter"]
theorem sc_is_text : FnScope N_is_text ["value"] (defScope s_is_text) := ⟨rfl, rfl, rfl, by decide +kernel, rfl, by decide +kernel, by decide +kernel⟩
abbrev s_is_word : Stmt := topS 11
abbrev N_is_word : List Str := ["value"]
theorem sc_is_word : FnScope N_is_word ["value"] (defScope s_is_word) := ⟨rfl, rfl, rfl, by decide +kernel, rfl, by decide +kernel, by decide +kernel⟩
abbrev s__is_word_list : Stmt := topS 16
abbrev N__is_word_list : List Str := ["value", "item"]
theorem sc__is_word_list : FnScope N__is_word_list ["value"] (defScope s__is_word_list) := ⟨rfl, rfl, rfl, by decide +kernel, rfl, by decide +kernel, by decide +kernel⟩
abbrev s__least_clash : Stmt := topS 17
abbrev N__least_clash : List Str := ["words", "ordered", "word", "other"]
theorem sc__least_clash : FnScope N__least_clash ["words"] (defScope s__least_clash) := ⟨rfl, rfl, rfl, by decide +kernel, rfl, by decide +kernel, by decide +kernel⟩
abbrev s_is_history : Stmt := topS 13
abbrev N_is_history : List Str := ["value"]
theorem sc_is_history : FnScope N_is_history ["value"] (defScope s_is_history) := ⟨rfl, rfl, rfl, by decide +kernel, rfl, by decide +kernel, by decide +kernel⟩
abbrev s_is_book : Stmt := topS 12
abbrev N_is_book : List Str := ["value"]
theorem sc_is_book : FnScope N_is_book ["value"] (defScope s_is_book) := ⟨rfl, rfl, rfl, by decide +kernel, rfl, by decide +kernel, by decide +kernel⟩
abbrev s_check_book : Stmt := topS 15
abbrev N_check_book : List Str := ["value"]
theorem sc_check_book : FnScope N_check_book ["value"] (defScope s_check_book) := ⟨rfl, rfl, rfl, by decide +kernel, rfl, by decide +kernel, by decide +kernel⟩
abbrev s__count_of_sizes : Stmt := topS 35
abbrev N__count_of_sizes : List Str := ["sizes", "divisor", "word"]
theorem sc__count_of_sizes : FnScope N__count_of_sizes ["sizes"] (defScope s__count_of_sizes) := ⟨rfl, rfl, rfl, by decide +kernel, rfl, by decide +kernel, by decide +kernel⟩
abbrev s__words_above : Stmt := topS 37
abbrev N__words_above : List Str := ["above", "word", "found", "higher"]
theorem sc__words_above : FnScope N__words_above ["above", "word"] (defScope s__words_above) := ⟨rfl, rfl, rfl, by decide +kernel, rfl, by decide +kernel, by decide +kernel⟩
abbrev s__sizes : Stmt := topS 36
abbrev N__sizes : List Str := ["above", "word", "sizes", "higher"]
theorem sc__sizes : FnScope N__sizes ["above"] (defScope s__sizes) := ⟨rfl, rfl, rfl, by decide +kernel, rfl, by decide +kernel, by decide +kernel⟩
abbrev s__counts_by_first : Stmt := topS 34
abbrev N__counts_by_first : List Str := ["above", "sizes", "total", "rows", "word", "more", "less", "higher"]
theorem sc__counts_by_first : FnScope N__counts_by_first ["above"] (defScope s__counts_by_first) := ⟨rfl, rfl, rfl, by decide +kernel, rfl, by decide +kernel, by decide +kernel⟩
abbrev s__without : Stmt := topS 38
abbrev N__without : List Str := ["above", "word", "other"]
theorem sc__without : FnScope N__without ["above", "word"] (defScope s__without) := ⟨rfl, rfl, rfl, by decide +kernel, rfl, by decide +kernel, by decide +kernel⟩
abbrev s_placement_rank : Stmt := topS 33
abbrev N_placement_rank : List Str := ["above", "placed", "rank", "rest", "word", "other", "many"]
theorem sc_placement_rank : FnScope N_placement_rank ["above", "placed"] (defScope s_placement_rank) := ⟨rfl, rfl, rfl, by decide +kernel, rfl, by decide +kernel, by decide +kernel⟩
abbrev s_alike_rank : Stmt := topS 54
abbrev N_alike_rank : List Str := ["book"]
theorem sc_alike_rank : FnScope N_alike_rank ["book"] (defScope s_alike_rank) := ⟨rfl, rfl, rfl, by decide +kernel, rfl, by decide +kernel, by decide +kernel⟩
abbrev s_count_placements : Stmt := topS 31
abbrev N_count_placements : List Str := ["above"]
theorem sc_count_placements : FnScope N_count_placements ["above"] (defScope s_count_placements) := ⟨rfl, rfl, rfl, by decide +kernel, rfl, by decide +kernel, by decide +kernel⟩
abbrev s_count_alike : Stmt := topS 52
abbrev N_count_alike : List Str := ["book"]
theorem sc_count_alike : FnScope N_count_alike ["book"] (defScope s_count_alike) := ⟨rfl, rfl, rfl, by decide +kernel, rfl, by decide +kernel, by decide +kernel⟩
abbrev s_check_same_words : Stmt := topS 23
abbrev N_check_same_words : List Str := ["book", "other"]
theorem sc_check_same_words : FnScope N_check_same_words ["book", "other"] (defScope s_check_same_words) := ⟨rfl, rfl, rfl, by decide +kernel, rfl, by decide +kernel, by decide +kernel⟩
abbrev s__check_books : Stmt := topS 46
abbrev N__check_books : List Str := ["book", "goal"]
theorem sc__check_books : FnScope N__check_books ["book", "goal"] (defScope s__check_books) := ⟨rfl, rfl, rfl, by decide +kernel, rfl, by decide +kernel, by decide +kernel⟩
abbrev s_find_branchings : Stmt := topS 24
abbrev N_find_branchings : List Str := ["words", "following", "word", "length", "letters", "text"]
theorem sc_find_branchings : FnScope N_find_branchings ["words"] (defScope s_find_branchings) := ⟨rfl, rfl, rfl, by decide +kernel, rfl, by decide +kernel, by decide +kernel⟩
abbrev s_find_state : Stmt := topS 25
abbrev N_find_state : List Str := ["book", "text", "_"]
theorem sc_find_state : FnScope N_find_state ["book"] (defScope s_find_state) := ⟨rfl, rfl, rfl, by decide +kernel, rfl, by decide +kernel, by decide +kernel⟩
abbrev s__needed_words : Stmt := topS 48
abbrev N__needed_words : List Str := ["book", "goal", "changing", "text", "letter", "_", "wanted", "length"]
theorem sc__needed_words : FnScope N__needed_words ["book", "goal"] (defScope s__needed_words) := ⟨rfl, rfl, rfl, by decide +kernel, rfl, by decide +kernel, by decide +kernel⟩
abbrev s_blockers_moves : Stmt := topS 49
abbrev N_blockers_moves : List Str := ["book", "goal", "word"]
theorem sc_blockers_moves : FnScope N_blockers_moves ["book", "goal"] (defScope s_blockers_moves) := ⟨rfl, rfl, rfl, by decide +kernel, rfl, by decide +kernel, by decide +kernel⟩
abbrev s_count_shortest : Stmt := topS 42
abbrev N_count_shortest : List Str := ["book", "goal"]
theorem sc_count_shortest : FnScope N_count_shortest ["book", "goal"] (defScope s_count_shortest) := ⟨rfl, rfl, rfl, by decide +kernel, rfl, by decide +kernel, by decide +kernel⟩
abbrev s_fewest_uses : Stmt := topS 40
abbrev N_fewest_uses : List Str := ["book", "goal"]
theorem sc_fewest_uses : FnScope N_fewest_uses ["book", "goal"] (defScope s_fewest_uses) := ⟨rfl, rfl, rfl, by decide +kernel, rfl, by decide +kernel, by decide +kernel⟩
abbrev s_play_uses : Stmt := topS 14
abbrev N_play_uses : List Str := ["book", "uses", "played", "word"]
theorem sc_play_uses : FnScope N_play_uses ["book", "uses"] (defScope s_play_uses) := ⟨rfl, rfl, rfl, by decide +kernel, rfl, by decide +kernel, by decide +kernel⟩
abbrev s__is_shortest : Stmt := topS 47
abbrev N__is_shortest : List Str := ["book", "goal", "value"]
theorem sc__is_shortest : FnScope N__is_shortest ["book", "goal", "value"] (defScope s__is_shortest) := ⟨rfl, rfl, rfl, by decide +kernel, rfl, by decide +kernel, by decide +kernel⟩
abbrev s_is_shortest : Stmt := topS 45
abbrev N_is_shortest : List Str := ["book", "goal", "value"]
theorem sc_is_shortest : FnScope N_is_shortest ["book", "goal", "value"] (defScope s_is_shortest) := ⟨rfl, rfl, rfl, by decide +kernel, rfl, by decide +kernel, by decide +kernel⟩
abbrev s_needed_words : Stmt := topS 41
abbrev N_needed_words : List Str := ["book", "goal"]
theorem sc_needed_words : FnScope N_needed_words ["book", "goal"] (defScope s_needed_words) := ⟨rfl, rfl, rfl, by decide +kernel, rfl, by decide +kernel, by decide +kernel⟩
abbrev s_is_integer_from : Stmt := topS 27
abbrev N_is_integer_from : List Str := ["value", "least", "most"]
theorem sc_is_integer_from : FnScope N_is_integer_from ["value", "least", "most"] (defScope s_is_integer_from) := ⟨rfl, rfl, rfl, by decide +kernel, rfl, by decide +kernel, by decide +kernel⟩
abbrev s_check_integer : Stmt := topS 28
abbrev N_check_integer : List Str := ["value", "least", "most"]
theorem sc_check_integer : FnScope N_check_integer ["value", "least", "most"] (defScope s_check_integer) := ⟨rfl, rfl, rfl, by decide +kernel, rfl, by decide +kernel, by decide +kernel⟩
abbrev s_check_index : Stmt := topS 29
abbrev N_check_index : List Str := ["value", "many"]
theorem sc_check_index : FnScope N_check_index ["value", "many"] (defScope s_check_index) := ⟨rfl, rfl, rfl, by decide +kernel, rfl, by decide +kernel, by decide +kernel⟩
abbrev s_nth_placement : Stmt := topS 32
abbrev N_nth_placement : List Str := ["above", "index", "placed", "rest", "word", "many"]
theorem sc_nth_placement : FnScope N_nth_placement ["above", "index"] (defScope s_nth_placement) := ⟨rfl, rfl, rfl, by decide +kernel, rfl, by decide +kernel, by decide +kernel⟩
abbrev s_nth_alike : Stmt := topS 53
abbrev N_nth_alike : List Str := ["book", "index", "above"]
theorem sc_nth_alike : FnScope N_nth_alike ["book", "index"] (defScope s_nth_alike) := ⟨rfl, rfl, rfl, by decide +kernel, rfl, by decide +kernel, by decide +kernel⟩
abbrev s_nth_shortest : Stmt := topS 43
abbrev N_nth_shortest : List Str := ["book", "goal", "index", "above"]
theorem sc_nth_shortest : FnScope N_nth_shortest ["book", "goal", "index"] (defScope s_nth_shortest) := ⟨rfl, rfl, rfl, by decide +kernel, rfl, by decide +kernel, by decide +kernel⟩
abbrev s_shortest_rank : Stmt := topS 44
abbrev N_shortest_rank : List Str := ["book", "goal", "value"]
theorem sc_shortest_rank : FnScope N_shortest_rank ["book", "goal", "value"] (defScope s_shortest_rank) := ⟨rfl, rfl, rfl, by decide +kernel, rfl, by decide +kernel, by decide +kernel⟩
abbrev s__law_asked : Stmt := topS 63
abbrev N__law_asked : List Str := ["one", "two", "at", "found", "uses"]
theorem sc__law_asked : FnScope N__law_asked ["one", "two"] (defScope s__law_asked) := ⟨rfl, rfl, rfl, by decide +kernel, rfl, by decide +kernel, by decide +kernel⟩
abbrev s__law_draw : Stmt := topS 59
abbrev N__law_draw : List Str := ["source", "limit", "digit", "mixed"]
theorem sc__law_draw : FnScope N__law_draw ["source", "limit"] (defScope s__law_draw) := ⟨rfl, rfl, rfl, by decide +kernel, rfl, by decide +kernel, by decide +kernel⟩
abbrev s__law_mixed : Stmt := topS 62
abbrev N__law_mixed : List Str := ["source", "words", "left", "style", "k"]
theorem sc__law_mixed : FnScope N__law_mixed ["source", "words"] (defScope s__law_mixed) := ⟨rfl, rfl, rfl, by decide +kernel, rfl, by decide +kernel, by decide +kernel⟩
abbrev s__law_named : Stmt := topS 64
abbrev N__law_named : List Str := ["one", "two", "at", "found", "uses"]
theorem sc__law_named : FnScope N__law_named ["one", "two"] (defScope s__law_named) := ⟨rfl, rfl, rfl, by decide +kernel, rfl, by decide +kernel, by decide +kernel⟩
abbrev s__law_open_source : Stmt := topS 58
abbrev N__law_open_source : List Str := ["script", "k", "cell"]
theorem sc__law_open_source : FnScope N__law_open_source ["script", "k"] (defScope s__law_open_source) := ⟨rfl, rfl, rfl, by decide +kernel, rfl, by decide +kernel, by decide +kernel⟩
abbrev s__law_same : Stmt := topS 60
abbrev N__law_same : List Str := ["result", "expected", "one", "two"]
theorem sc__law_same : FnScope N__law_same ["result", "expected"] (defScope s__law_same) := ⟨rfl, rfl, rfl, by decide +kernel, rfl, by decide +kernel, by decide +kernel⟩
abbrev s__law_words : Stmt := topS 61
abbrev N__law_words : List Str := ["source", "script", "most", "many", "style", "size", "letters", "head", "found", "turn", "body", "tail", "comb", "name", "k"]
theorem sc__law_words : FnScope N__law_words ["source", "script", "most"] (defScope s__law_words) := ⟨rfl, rfl, rfl, by decide +kernel, rfl, by decide +kernel, by decide +kernel⟩
abbrev s_law : Stmt := topS 65
abbrev N_law : List Str := ["script", "k", "source", "words", "one", "two", "expected", "other", "found", "spot", "kept"]
theorem sc_law : FnScope N_law ["script"] (defScope s_law) := ⟨rfl, rfl, rfl, by decide +kernel, rfl, by decide +kernel, by decide +kernel⟩
structure Nm (mg : Str → Option Value) : Prop where
  all_ : mg "all" = none
  bool_ : mg "bool" = none
  int_ : mg "int" = none
  isinstance_ : mg "isinstance" = none
  len_ : mg "len" = none
  list_ : mg "list" = none
  max_ : mg "max" = none
  min_ : mg "min" = none
  range_ : mg "range" = none
  reversed_ : mg "reversed" = none
  set_ : mg "set" = none
  sorted_ : mg "sorted" = none
  str_ : mg "str" = none
  sum_ : mg "sum" = none
  tuple_ : mg "tuple" = none
  type_ : mg "type" = none
  zip_ : mg "zip" = none
  factorial_ : mg "factorial" = some (.builtin "math.factorial")
  LETTERS_ : ∃ t, mg "LETTERS" = some (.str "abcdefghijklmnopqrstuvwxyz" t)
  MOST_LETTERS_ : ∃ t, mg "MOST_LETTERS" = some (.int 12 t)
section
variable {P : Program} {w : World} {K : PySem.W.Frag} {mg : Str → Option Value} {base : Heap}
def sp_is_text : SpV := fun us c Q => ∃ s : Str, us = [.d (.str s)] ∧ c = [] ∧ s.length ≤ 100000 ∧ Q (.d (.bool (isT s))) []
theorem ok_is_text (n : Nm mg)  {f : Addr} {fd : FuncData} (F : Fun K "is_text" "is_text" s_is_text f fd) :
    FnOk P w K mg base CX0 1 f fd ["value"] (lift K w sp_is_text) := by
  obtain ⟨_, g_LETTERS⟩ := n.LETTERS_
  obtain ⟨_, g_MOST_LETTERS⟩ := n.MOST_LETTERS_
  have n_all := n.all_
  have n_isinstance := n.isinstance_
  have n_len := n.len_
  have n_str := n.str_
  refine FnOk.v F sc_is_text (fun us c Q h => ?_) (fun cdv A outer s H E us c Q hr h => ?_)
  · obtain ⟨s, rfl, _⟩ := h; rfl
  obtain ⟨z, rfl, rfl, hz, q⟩ := h
  refine ⟨_, (pss_cons (ps_if (PW.pt (pw_or (pt_not (kpt_u (K := K) rfl (pe_callB (kcu_isi (K := K) rfl) (by rfl) n_isinstance (by decide +kernel) (pa_cons (pv 0) (pa_cons (pe_bltn (v := .ty "str") (by rfl) n_str (by decide +kernel) rfl) pa_nil))) (by intro _; rfl))) (pw_or1 (pt_cmpR ou_gt (pe_callB (kcu_len (K := K) rfl) (by rfl) n_len (by decide +kernel) (pa_cons (pv 0) pa_nil)) (pe_glob (v := .int 12) rfl g_MOST_LETTERS ⟨_, rfl⟩) (nomark _)))))
      (pss_one (ps_ret pe_bl))
      pss_nil)
      (pss_one (ps_ret (pe_callB (kcr_all (K := K) rfl rfl) (by rfl) n_all (by decide +kernel) (pa_cons (pe_lc (own := [("letter", 1)]) rfl sc_is_text.nd (kpi_u (K := K) rfl (pv 0)) (blkOk_by (own := [("letter", 1)]) (N := N_is_text) (sc := defScope s_is_text) (by decide +kernel)) (fun _ _ _ _ _ => (pg_name (i := 1) sc_is_text.nd rfl (.inl rfl))) (fun _ _ _ _ _ => pts_nil) (fun _ _ _ _ _ => (pe_cmpR (kou_in (K := K) rfl) (pv 1) (pe_glob (v := .str "abcdefghijklmnopqrstuvwxyz") rfl g_LETTERS ⟨_, rfl⟩) rfl))) pa_nil))))), ?_⟩
  have hz2 := sz100k hz
  walk_at "go"
  refine ite2 (fun c => ?_) (fun c => ?_)
  · walk_at "go"
    rw [show isT z = false by simp [isT]; simp at c; omega] at q
    exact q
  · walk_at "go"
    refine vco_sM (fun a => .bool (low a)) (on_name (by decide)) hz2 (fun a ha => ?_) ?_
    · walk_at "go"
      exact ⟨by rw [in_letters], rfl⟩
    · walk_at "go"
      rw [show isT z = (tl z).all low by simp [isT]; simp at c; omega] at q
      exact q
def sp_is_word : SpV := fun us c Q => ∃ s : Str, us = [.d (.str s)] ∧ c = [] ∧ s.length ≤ 100000 ∧ Q (.d (.bool (isW s))) []
theorem ok_is_word (n : Nm mg) (c_is_text : GF P w K mg base 1 "is_text" (lift K w sp_is_text)) {f : Addr} {fd : FuncData} (F : Fun K "is_word" "is_word" s_is_word f fd) :
    FnOk P w K mg base CX0 2 f fd ["value"] (lift K w sp_is_word) := by
  have n_len := n.len_
  refine FnOk.v F sc_is_word (fun us c Q h => ?_) (fun cdv A outer s H E us c Q hr h => ?_)
  · obtain ⟨s, rfl, _⟩ := h; rfl
  obtain ⟨z, rfl, rfl, hz, q⟩ := h
  refine ⟨_, (pss_one (ps_ret (kpe_andT (K := K) rfl (pe_fc c_is_text hr (by decide) (by rfl) (pa_cons (pv 0) pa_nil)) (pe_one (pe_cmpR ou_gt (pe_callB (kcu_len (K := K) rfl) (by rfl) n_len (by decide +kernel) (pa_cons (pv 0) pa_nil)) pe_int (nomark _)))))), ?_⟩
  have hz2 := sz100k hz
  walk_at "go"
  refine ⟨z, rfl, rfl, hz, ?_⟩
  walk_at "go"
  refine ite2 (fun c => ?_) (fun c => ?_)
  · walk_at "go"
    rw [show isW z = decide ((0 : Int) < z.length) by simp [isW, c]] at q
    exact q
  · walk_at "go"
    rw [show isT z = isW z by simp [isW, c]]
    exact q
def sp__is_word_list : SpV := fun us c Q => ∃ ws : List Str, us = [.b (ws.map .str)] ∧ c = [] ∧ ws.length < 4000 ∧ (∀ w ∈ ws, w.length ≤ 100000) ∧ Q (.d (.bool (ws.all isW))) []
theorem ok__is_word_list (n : Nm mg) (c_is_word : GF P w K mg base 2 "is_word" (lift K w sp_is_word)) {f : Addr} {fd : FuncData} (F : Fun K "_is_word_list" "_is_word_list" s__is_word_list f fd) :
    FnOk P w K mg base CX0 3 f fd ["value"] (lift K w sp__is_word_list) := by
  have n_all := n.all_
  have n_list := n.list_
  have n_type := n.type_
  refine FnOk.v F sc__is_word_list (fun us c Q h => ?_) (fun cdv A outer s H E us c Q hr h => ?_)
  · obtain ⟨s, rfl, _⟩ := h; rfl
  obtain ⟨ws, rfl, rfl, hl, hz, q⟩ := h
  refine ⟨_, (pss_one (ps_ret (kpe_andT (K := K) rfl (pe_cmpR ou_eqT (pe_callTy (kcu_typ (K := K) rfl) (by rfl) n_type (by decide +kernel) (pa_cons (pv 0) pa_nil)) (pe_bltn (v := .ty "list") (by rfl) n_list (by decide +kernel) rfl) (nomark _)) (pe_one (pe_callB (kcr_all (K := K) rfl rfl) (by rfl) n_all (by decide +kernel) (pa_cons (pe_lc (own := [("item", 1)]) rfl sc__is_word_list.nd (kpi_u (K := K) rfl (pv 0)) (blkOk_by (own := [("item", 1)]) (N := N__is_word_list) (sc := defScope s__is_word_list) (by decide +kernel)) (fun _ _ _ _ _ => (pg_name (i := 1) sc__is_word_list.nd rfl (.inl rfl))) (fun _ _ _ _ _ => pts_nil) (fun _ _ _ _ _ => (pe_fc c_is_word hr (by decide) (by rfl) (pa_cons (pv 1) pa_nil)))) pa_nil)))))), ?_⟩
  walk_at "go"
  refine w_typ (.lst .b) ?_
  walk_at "go"
  refine vco_lM (fun z => .bool (isW z)) .b (on_name (by decide)) (sz100k (by omega)) (fun z hz' => ?_) ?_
  · walk_at "go"
    refine ⟨z, rfl, rfl, hz z hz', ?_⟩
    walk_at "go"
    exact ⟨rfl, rfl⟩
  · walk_at "go"
    exact q
def sp__least_clash : SpV := fun us c Q => ∃ ws : List Str, us = [.b (ws.map .str)] ∧ c = [] ∧ ws.length < 4000 ∧ Q (.d (optP (clash ws))) []
theorem ok__least_clash (n : Nm mg)  {f : Addr} {fd : FuncData} (F : Fun K "_least_clash" "_least_clash" s__least_clash f fd) :
    FnOk P w K mg base CX0 1 f fd ["words"] (lift K w sp__least_clash) := by
  have n_set := n.set_
  have n_sorted := n.sorted_
  have n_zip := n.zip_
  refine FnOk.v F sc__least_clash (fun us c Q h => ?_) (fun cdv A outer s H E us c Q hr h => ?_)
  · obtain ⟨s, rfl, _⟩ := h; rfl
  obtain ⟨ws, rfl, rfl, hl, q⟩ := h
  refine ⟨_, (pss_cons (ps_set (i := 1) sc__least_clash.nd rfl (.inl rfl) (pe_callB (kcu_sort (K := K) (w := w) rfl rfl rfl) (by rfl) n_sorted (by decide +kernel) (pa_cons (pe_callTy (kcu_set (K := K) (w := w) rfl rfl rfl) (by rfl) n_set (by decide +kernel) (pa_cons (pv 0) pa_nil)) pa_nil)))
      (pss_cons (ps_for PassesOwn.never rfl (kpi_zip (K := K) rfl (by rfl) n_zip (pa_cons (pv 1) (pa_cons (pe_slice (ksl_u (K := K) rfl) (pv 1) (po_some pe_int) po_none) pa_nil))) (kpg_tup (K := K) (n := 2) rfl rfl (pgs_cons (pg_name (i := 2) sc__least_clash.nd rfl (.inl rfl)) (pgs_cons (pg_name (i := 3) sc__least_clash.nd rfl (.inl rfl)) pgs_nil)))
      (pss_one (ps_if (kpt_u (K := K) rfl (pe_m1 PySem.F.slot_str_startswith PySem.F.type_str_startswith mt_startswith (pv 3) (pv 2)) (by intro _; rfl))
      (pss_one (ps_ret (pe_tup (pa_cons (pv 2) (pa_cons (pv 3) pa_nil)))))
      pss_nil)))
      (pss_one (ps_ret pe_non)))), ?_⟩
  walk_at "go"
  refine w_set .b hl ?_
  walk_at "go"
  refine s_set fun ys pm so => ?_
  have ey := srt_eq pm so
  walk_at "go"
  rw [cutD_from _ (by decide), ← List.map_drop]
  refine vforA (it_z .d .o) (fun i e c => ∃ y2 y3, e = [some (.b (ws.map .str)), some (.d (.list (ys.map .str))), y2, y3] ∧ c = [] ∧ adj (ys.drop i) = adj ys) ⟨_, _, rfl, rfl, rfl⟩ (fun _ _ _ _ => ⟨.d, .o⟩) ?_ ?_
  · rintro i d e' c' hi ⟨a, b, ha, hb, rfl⟩ ⟨y2, y3, rfl, rfl, hd⟩
    obtain ⟨u, eu, rfl⟩ := map_at ha
    obtain ⟨v, ev, rfl⟩ := map_at hb
    rw [List.getElem?_drop, Nat.add_comm] at ev
    have hd1 : ys.drop i = u :: v :: ys.drop (i + 2) := by
      rw [List.drop_eq_getElem?_toList_append, eu, List.drop_eq_getElem?_toList_append, show i + 1 = i + Int.toNat 1 from rfl, ev]
      rfl
    have hd2 : ys.drop (i + 1) = v :: ys.drop (i + 2) := by
      rw [List.drop_eq_getElem?_toList_append, show i + 1 = i + Int.toNat 1 from rfl, ev]
      rfl
    walk_at "go"
    refine ite2 (fun c => ?_) (fun c => ?_)
    · walk_at "go"
      have hs : clash ws = some (u, v) := by
        unfold clash
        rw [← ey, ← hd, hd1, adj, if_pos c]
      rw [hs] at q
      exact q
    · walk_at "go"
      refine ⟨_, _, rfl, rfl, ?_⟩
      rw [← hd, hd1, adj, if_neg c, hd2]
  · rintro e' c' ⟨y2, y3, rfl, rfl, hd⟩
    walk_at "go"
    have : clash ws = none := by
      unfold clash
      rw [← ey, ← hd]
      rw [List.length_map, List.length_map, List.length_drop, Nat.min_eq_right (by omega)]
      have hl : (ys.drop (ys.length - Int.toNat 1)).length ≤ 1 := by
        rw [List.length_drop, show Int.toNat 1 = 1 from rfl]
        omega
      match ys.drop (ys.length - Int.toNat 1), hl with
      | [], _ => rfl
      | [_], _ => rfl
    rw [this] at q
    exact q
def sp_is_history : SpV := fun us c Q => ∃ ws : List Str, us = [.b (ws.map .str)] ∧ c = [] ∧ ws.length < 4000 ∧ (∀ w ∈ ws, w.length ≤ 100000) ∧ Q (.d (.bool (ws.all isW && (clash ws).isNone))) []
theorem ok_is_history (n : Nm mg) (c__is_word_list : GF P w K mg base 3 "_is_word_list" (lift K w sp__is_word_list)) (c__least_clash : GF P w K mg base 1 "_least_clash" (lift K w sp__least_clash)) {f : Addr} {fd : FuncData} (F : Fun K "is_history" "is_history" s_is_history f fd) :
    FnOk P w K mg base CX0 4 f fd ["value"] (lift K w sp_is_history) := by
  refine FnOk.v F sc_is_history (fun us c Q h => ?_) (fun cdv A outer s H E us c Q hr h => ?_)
  · obtain ⟨s, rfl, _⟩ := h; rfl
  obtain ⟨ws, rfl, rfl, hl, hz, q⟩ := h
  refine ⟨_, (pss_one (ps_ret (kpe_andT (K := K) rfl (pe_fc c__is_word_list hr (by decide) (by rfl) (pa_cons (pv 0) pa_nil)) (pe_one (pe_cmpR op_isN (pe_fc c__least_clash hr (by decide) (by rfl) (pa_cons (pv 0) pa_nil)) pe_non (nomark _)))))), ?_⟩
  walk_at "go"
  refine ⟨ws, rfl, rfl, hl, hz, ?_⟩
  walk_at "go"
  refine ite2 (fun c => ?_) (fun c => ?_)
  · walk_at "go"
    refine ⟨ws, rfl, rfl, hl, ?_⟩
    walk_at "go"
    rw [c] at q
    exact q
  · walk_at "go"
    have c2 : ws.all isW = false := Bool.eq_false_iff.mpr c
    rw [c2, Bool.false_and] at q
    rw [c2]
    exact q
def sp_is_book : SpV := fun us c Q => ∃ ws : List Str, us = [.b (ws.map .str)] ∧ c = [] ∧ ws.length < 4000 ∧ (∀ w ∈ ws, w.length ≤ 100000) ∧ Q (.d (.bool (ws.all isW && (clash ws).isNone && decide ((dedT ws).length = ws.length)))) []
theorem ok_is_book (n : Nm mg) (c_is_history : GF P w K mg base 4 "is_history" (lift K w sp_is_history)) {f : Addr} {fd : FuncData} (F : Fun K "is_book" "is_book" s_is_book f fd) :
    FnOk P w K mg base CX0 5 f fd ["value"] (lift K w sp_is_book) := by
  have n_len := n.len_
  have n_set := n.set_
  refine FnOk.v F sc_is_book (fun us c Q h => ?_) (fun cdv A outer s H E us c Q hr h => ?_)
  · obtain ⟨s, rfl, _⟩ := h; rfl
  obtain ⟨ws, rfl, rfl, hl, hz, q⟩ := h
  refine ⟨_, (pss_one (ps_ret (kpe_andT (K := K) rfl (pe_fc c_is_history hr (by decide) (by rfl) (pa_cons (pv 0) pa_nil)) (pe_one (pe_cmpR (kou_eq (K := K) rfl hr.units) (pe_callB (kcu_lenS (w := w) rfl) (by rfl) n_len (by decide +kernel) (pa_cons (pe_callTy (kcu_set (K := K) (w := w) rfl rfl rfl) (by rfl) n_set (by decide +kernel) (pa_cons (pv 0) pa_nil)) pa_nil)) (pe_callB (kcu_len (K := K) rfl) (by rfl) n_len (by decide +kernel) (pa_cons (pv 0) pa_nil)) (nomark _)))))), ?_⟩
  walk_at "go"
  refine ⟨ws, rfl, rfl, hl, hz, ?_⟩
  walk_at "go"
  refine ite2 (fun c => ?_) (fun c => ?_)
  · walk_at "go"
    refine w_set .b hl ?_
    walk_at "go"
    rw [c, Bool.true_and] at q
    rw [List.length_map, show decide (((dedT ws).length : Int) = ws.length) = decide ((dedT ws).length = ws.length) from decide_eq_decide.mpr (by omega)]
    exact q
  · walk_at "go"
    have c2 : (ws.all isW && (clash ws).isNone) = false := Bool.eq_false_iff.mpr c
    rw [c2, Bool.false_and] at q
    rw [c2]
    exact q
def sp_check_book : SpV := fun us c Q => ∃ ws : List Str, us = [.b (ws.map .str)] ∧ c = [] ∧ ws.length < 4000 ∧ Gb ws ∧ Q (.d .none) []
theorem ok_check_book (n : Nm mg) (c_is_book : GF P w K mg base 5 "is_book" (lift K w sp_is_book)) {f : Addr} {fd : FuncData} (F : Fun K "check_book" "check_book" s_check_book f fd) :
    FnOk P w K mg base CX0 6 f fd ["value"] (lift K w sp_check_book) := by
  refine FnOk.v F sc_check_book (fun us c Q h => ?_) (fun cdv A outer s H E us c Q hr h => ?_)
  · obtain ⟨s, rfl, _⟩ := h; rfl
  obtain ⟨ws, rfl, rfl, hl, hb, q⟩ := h
  refine ⟨_, (pss_one (ps_if (pt_not (kpt_u (K := K) rfl (pe_fc c_is_book hr (by decide) (by rfl) (pa_cons (pv 0) pa_nil)) (by intro _; rfl)))
      (pss_one ps_never)
      pss_nil)), ?_⟩
  walk_at "go"
  refine ⟨ws, rfl, rfl, hl, fun w m => by have := hb.len m; omega, ?_⟩
  rw [hb.hist, dedT_id hb.nd, decide_eq_true rfl, Bool.and_self]
  walk_at "go"
  exact q
def sp_last_with : SpV := fun us c Q => ∃ (ws : List Str) (x : Str), us = [.b (ws.map .str), .d (.str x)] ∧ c = [] ∧ Q (.d (optD (sug ws x))) []
theorem ok_last_with (n : Nm mg)  {f : Addr} {fd : FuncData} (F : Fun K "last_with" "last_with" s_last_with f fd) :
    FnOk P w K mg base CX0 1 f fd ["book", "text"] (lift K w sp_last_with) := by
  have n_reversed := n.reversed_
  refine FnOk.v F sc_last_with (fun us c Q h => ?_) (fun cdv A outer s H E us c Q hr h => ?_)
  · obtain ⟨ws, s, rfl, _⟩ := h; rfl
  obtain ⟨ws, x, rfl, rfl, q⟩ := h
  refine ⟨_, (pss_cons (ps_for PassesOwn.never rfl (kpi_rev (K := K) rfl (by rfl) n_reversed (pa_cons (pv 0) pa_nil)) (pg_name (i := 2) sc_last_with.nd rfl (.inl rfl))
      (pss_one (ps_if (kpt_u (K := K) rfl (pe_m1 PySem.F.slot_str_startswith PySem.F.type_str_startswith mt_startswith (pv 2) (pv 1)) (by intro _; rfl))
      (pss_one (ps_ret (pv 2)))
      pss_nil)))
      (pss_one (ps_ret pe_non))), ?_⟩
  walk_at "go"
  refine vforA (it_v .b) (fun i e c => ∃ y2, e = [some (.b (ws.map .str)), some (.d (.str x)), y2] ∧ c = [] ∧ (ws.reverse.take i).find? (fun o => Txt.startswith o x) = none) ⟨_, rfl, rfl, by simp⟩ (fun _ _ _ _ => .b) ?_ ?_
  · rintro i d e' c' hi hd ⟨y2, rfl, rfl, hf⟩
    obtain ⟨o, eo, rfl⟩ := map_at hd
    rw [List.length_map] at hi eo
    have er : ws.reverse[i]? = some o := by rw [List.getElem?_reverse hi]; exact eo
    walk_at "go"
    refine ite2 (fun c => ?_) (fun c => ?_)
    · walk_at "go"
      have e : sug ws x = some o := by
        unfold sug
        rw [find_drop _ _ i hf, List.drop_eq_getElem?_toList_append, er]
        simp [c]
      rw [e] at q
      exact q
    · walk_at "go"
      refine ⟨_, rfl, rfl, ?_⟩
      rw [List.take_add_one, er, List.find?_append, hf]
      simp [c]
  · rintro e' c' ⟨y2, rfl, rfl, hf⟩
    walk_at "go"
    have e : sug ws x = none := by
      rw [List.length_map, ← List.length_reverse, List.take_length] at hf
      exact hf
    rw [e] at q
    exact q
def sp_typed_letters : SpV := fun us c Q => ∃ (ws : List Str) (x : Str), us = [.b (ws.map .str), .d (.str x)] ∧ c = [] ∧ x.length ≤ 1000 ∧ Q (.d (.str (typed ws x))) []
theorem ok_typed_letters (n : Nm mg) (c_last_with : GF P w K mg base 1 "last_with" (lift K w sp_last_with)) {f : Addr} {fd : FuncData} (F : Fun K "typed_letters" "typed_letters" s_typed_letters f fd) :
    FnOk P w K mg base CX0 2 f fd ["book", "word"] (lift K w sp_typed_letters) := by
  have n_len := n.len_
  have n_range := n.range_
  refine FnOk.v F sc_typed_letters (fun us c Q h => ?_) (fun cdv A outer s H E us c Q hr h => ?_)
  · obtain ⟨ws, s, rfl, _⟩ := h; rfl
  obtain ⟨ws, x, rfl, rfl, hx, q⟩ := h
  refine ⟨_, (pss_cons (ps_for PassesOwn.never rfl (pi_range1 (by rfl) n_range (pa_cons (pe_callB (kcu_len (K := K) rfl) (by rfl) n_len (by decide +kernel) (pa_cons (pv 1) pa_nil)) pa_nil)) (pg_name (i := 2) sc_typed_letters.nd rfl (.inl rfl))
      (pss_one (ps_if (pt_cmpR (kou_eq (K := K) rfl hr.units) (pe_fc c_last_with hr (by decide) (by rfl) (pa_cons (pv 0) (pa_cons (pe_slice (ksl_u (K := K) rfl) (pv 1) po_none (po_some (pv 2))) pa_nil))) (pv 1) (nomark _))
      (pss_one (ps_ret (pe_slice (ksl_u (K := K) rfl) (pv 1) po_none (po_some (pv 2)))))
      pss_nil)))
      (pss_one (ps_ret (pv 1)))), ?_⟩
  walk_at "go"
  refine vforA (it_1 (by omega) (by omega)) (fun i e c => ∃ y2, e = [some (.b (ws.map .str)), some (.d (.str x)), y2] ∧ c = [] ∧ ((List.range x.length).take i).find? (fun l => sug ws (cutT x l) == some x) = none) ⟨_, rfl, rfl, by simp⟩ (fun _ _ _ _ => trivial) ?_ ?_
  · rintro i d e' c' hi rfl ⟨y2, rfl, rfl, hf⟩
    have hi2 : i < x.length := by omega
    have er : (List.range x.length)[i]? = some i := by simp [hi2]
    walk_at "go"
    refine ⟨ws, _, rfl, rfl, ?_⟩
    walk_at "go"
    refine ite2 (fun c => ?_) (fun c => ?_)
    · have e : typ ws x = some i := by
        unfold typ
        rw [find_drop _ _ i hf, List.drop_eq_getElem?_toList_append, er]
        simp only [Option.toList_some, List.cons_append, List.find?_cons]
        rw [show (sug ws (cutT x i) == some x) = true from c]
      walk_at "go"
      rw [typed, e] at q
      exact q
    · walk_at "go"
      refine ⟨_, rfl, rfl, ?_⟩
      rw [List.take_add_one, er, List.find?_append, hf]
      simp only [Option.toList_some, Option.none_or, List.find?_cons, List.find?_nil]
      rw [show (sug ws (cutT x i) == some x) = false from by simpa [cutT] using c]
  · rintro e' c' ⟨y2, rfl, rfl, hf⟩
    walk_at "go"
    have e : typ ws x = none := by
      unfold typ
      rw [List.take_of_length_le (by simp)] at hf
      exact hf
    rw [typed, e] at q
    exact q
theorem len_nil {s : Str} : (s = "") ↔ s.length = 0 := by
  constructor
  · intro h; rw [h]; decide +kernel
  · intro h
    refine TL.ext_tl ?_
    have : (tl s).length = 0 := by rw [← TL.len_tl]; exact h
    have h2 : tl s = [] := List.eq_nil_of_length_eq_zero this
    show tl s = _
    rw [h2]
    decide +kernel
def sp_find_blocker : SpV := fun us c Q => ∃ (ws : List Str) (x : Str), us = [.b (ws.map .str), .d (.str x)] ∧ c = [] ∧ x.length ≤ 1000 ∧ Q (.d (optD (blk ws x))) []
theorem ok_find_blocker (n : Nm mg) (c_last_with : GF P w K mg base 1 "last_with" (lift K w sp_last_with)) (c_typed_letters : GF P w K mg base 2 "typed_letters" (lift K w sp_typed_letters)) {f : Addr} {fd : FuncData} (F : Fun K "find_blocker" "find_blocker" s_find_blocker f fd) :
    FnOk P w K mg base CX0 3 f fd ["book", "word"] (lift K w sp_find_blocker) := by
  refine FnOk.v F sc_find_blocker (fun us c Q h => ?_) (fun cdv A outer s H E us c Q hr h => ?_)
  · obtain ⟨ws, s, rfl, _⟩ := h; rfl
  obtain ⟨ws, x, rfl, rfl, hx, q⟩ := h
  refine ⟨_, (pss_cons (ps_set (i := 2) sc_find_blocker.nd rfl (.inl rfl) (pe_fc c_typed_letters hr (by decide) (by rfl) (pa_cons (pv 0) (pa_cons (pv 1) pa_nil))))
      (pss_cons (ps_if (pt_cmpR (kou_eq (K := K) rfl hr.units) (pv 2) pe_str (nomark _))
      (pss_one (ps_ret pe_non))
      pss_nil)
      (pss_one (ps_ret (pe_fc c_last_with hr (by decide) (by rfl) (pa_cons (pv 0) (pa_cons (pe_slice (ksl_u (K := K) rfl) (pv 2) po_none (po_some (pe_un un_neg pe_int))) pa_nil))))))), ?_⟩
  walk_at "go"
  refine ⟨ws, x, rfl, rfl, by omega, ?_⟩
  have h2 := typed_len ws x
  walk_at "go"
  refine ite2 (fun c => ?_) (fun c => ?_)
  · walk_at "go"
    rw [blk, if_pos (len_nil.mp (of_decide_eq_true c))] at q
    exact q
  · walk_at "go"
    refine ⟨ws, _, rfl, rfl, ?_⟩
    walk_at "go"
    have n0 : (typed ws x).length ≠ 0 := fun z => c (decide_eq_true (len_nil.mpr z))
    rw [blk, if_neg n0] at q
    obtain ⟨l, l1, l2, l3, _⟩ := typed_spec ws x
    rw [l2, cut_back x l1 (by omega)]
    rw [l3] at q
    exact q
end
end My
open PySem PySem.Spec PyProof.Rows L2 Gd
namespace My
section
variable {P : Program} {w : World} {K : PySem.W.Frag} {mg : Str → Option Value} {base : Heap}
def sp_find_branchings : SpV := fun us c Q => ∃ ws : List Str, us = [.b (ws.map .str)] ∧ c = [] ∧ ws.length ≤ 3000 ∧ (∀ w ∈ ws, isW w = true) ∧ Q (.o ((brs ws).map brD)) []
theorem ok_find_branchings (n : Nm mg)  {f : Addr} {fd : FuncData} (F : Fun K "find_branchings" "find_branchings" s_find_branchings f fd) :
    FnOk P w K mg base CX0 1 f fd ["words"] (lift K w sp_find_branchings) := by
  have n_len := n.len_
  have n_range := n.range_
  have n_sorted := n.sorted_
  refine FnOk.v F sc_find_branchings (fun us c Q h => ?_) (fun cdv A outer s H E us c Q hr h => ?_)
  · obtain ⟨ws, rfl, _⟩ := h; rfl
  obtain ⟨ws, rfl, rfl, hl, hw, q⟩ := h
  refine ⟨_, (pss_cons (PS.as_c (ps_set (i := 1) sc_find_branchings.nd rfl (.inr rfl) pe_dnewK))
      (pss_cons (ps_for PassesOwn.never rfl (kpi_u (K := K) rfl (pe_callB (kcu_sort (K := K) (w := w) rfl rfl rfl) (by rfl) n_sorted (by decide +kernel) (pa_cons (pv 0) pa_nil))) (pg_name (i := 2) sc_find_branchings.nd rfl (.inl rfl))
      (pss_one (ps_for PassesOwn.never rfl (pi_range1 (by rfl) n_range (pa_cons (pe_callB (kcu_len (K := K) rfl) (by rfl) n_len (by decide +kernel) (pa_cons (pv 2) pa_nil)) pa_nil)) (pg_name (i := 3) sc_find_branchings.nd rfl (.inl rfl))
      (pss_cons (ps_set (i := 4) sc_find_branchings.nd rfl (.inl rfl) (pe_dget2 (hdict hr) (pv 1) (pe_slice (ksl_u (K := K) rfl) (pv 2) po_none (po_some (pv 3))) pe_str ⟨rfl, rfl, rfl, rfl⟩))
        (pss_one (ps_if (pt_not (kpt_u (K := K) rfl (pe_m1 PySem.F.slot_str_endswith PySem.F.type_str_endswith mt_endswith (pv 4) (pe_ix (kix_seq (K := K) rfl) (pv 2) (pv 3) (fun _ _ => rfl))) (by intro _; rfl)))
      (pss_one (ps_dput (hdict hr) (pv 1) (pe_slice (ksl_u (K := K) rfl) (pv 2) po_none (po_some (pv 3))) (pe_op (kou_add (K := K) rfl) (pv 4) (pe_ix (kix_seq (K := K) rfl) (pv 2) (pv 3) (fun _ _ => rfl))) (by rfl)))
      pss_nil))))))
      (pss_one (ps_ret (pe_lc (own := [("text", 5)]) rfl sc_find_branchings.nd (kpi_u (K := K) rfl (pe_callB (kcu_sort (K := K) (w := w) rfl rfl rfl) (by rfl) n_sorted (by decide +kernel) (pa_cons (pv 1) pa_nil))) (blkOk_by (own := [("text", 5)]) (N := N_find_branchings) (sc := defScope s_find_branchings) (by decide +kernel)) (fun _ _ _ _ _ => (pg_name (i := 5) sc_find_branchings.nd rfl (.inl rfl))) (fun _ _ _ _ _ => (pts_one (pt_cmpR ou_gt (pe_callB (kcu_len (K := K) rfl) (by rfl) n_len (by decide +kernel) (pa_cons (pe_dget (hdict hr) (pv 1) (pv 5) (fun _ _ => rfl)) pa_nil)) pe_int (nomark _)))) (fun _ _ _ _ _ => (pe_tup (pa_cons (pv 5) (pa_cons (pe_dget (hdict hr) (pv 1) (pv 5) (fun _ _ => rfl)) pa_nil))))))))), ?_⟩
  have hw12 : ∀ w ∈ srt ws, w.length ≤ 12 := fun w h => isW_len (hw w (srt_mem.mp h))
  have el := evs_len hw12
  rw [srt_len] at el
  walk_at "go"
  refine s_txt .b (by omega) fun ys pm so => ?_
  rw [srt_eq pm so]
  walk_at "go"
  refine vfor (it_l .o) (fun i e c => ∃ y2 y3 y4 y5, e = [some (.b (ws.map .str)), some (.c 0), y2, y3, y4, y5] ∧ c = [.m (cellD ((evs ((srt ws).take i)).foldl stepP []))]) ⟨_, _, _, _, rfl, rfl⟩ (fun _ _ _ _ => .o) ?_ ?_
  · rintro i d e' c' hi hd ⟨y2, y3, y4, y5, rfl, rfl⟩
    obtain ⟨x, ex, rfl⟩ := map_at hd
    have hx := hw12 x (List.mem_of_getElem? ex)
    have st : evs ((srt ws).take (i + 1)) = evs ((srt ws).take i) ++ (List.range x.length).map fun l => (cutT x l, (tl x).getD l 0) := by
      rw [List.take_add_one, ex, evs_app]
      simp [evs]
    have ln : (evs ((srt ws).take i)).length ≤ 12 * 3000 := by
      refine Nat.le_trans (evs_len fun w h => hw12 w (List.mem_of_mem_take h)) ?_
      rw [List.length_take, srt_len]
      omega
    generalize evs ((srt ws).take i) = E at *
    walk_at "go"
    refine vforA (it_1 (by omega) (by omega)) (fun l e c => ∃ y3 y4 y5, e = [some (.b (ws.map .str)), some (.c 0), some (.d (.str x)), y3, y4, y5] ∧ c = [.m (cellD ((E ++ (List.range l).map fun l => (cutT x l, (tl x).getD l 0)).foldl stepP []))]) ⟨_, _, _, rfl, by simp⟩ (fun _ _ _ _ => trivial) ?_ ?_
    · rintro l d e' c' hi rfl ⟨y3, y4, y5, rfl, rfl⟩
      have hl2 : l < (tl x).length := by rw [← TL.len_tl]; omega
      have at_ : atI (tl x) (l : Int) = some (tl x)[l] := atI_of (by omega) (by rw [Int.toNat_natCast]; exact List.getElem?_eq_getElem hl2)
      have st2 : (E ++ (List.range (l + 1)).map fun l => (cutT x l, (tl x).getD l 0)).foldl stepP [] = stepP ((E ++ (List.range l).map fun l => (cutT x l, (tl x).getD l 0)).foldl stepP []) (cutT x l, (tl x)[l]) := by
        rw [List.range_succ, List.map_append, ← List.append_assoc, List.foldl_append]
        rw [List.map_cons, List.map_nil, List.foldl_cons, List.foldl_nil, List.getD_eq_getElem?_getD, List.getElem?_eq_getElem hl2]
        rfl
      have ln2 := foldP_len (E ++ (List.range l).map fun l => (cutT x l, (tl x).getD l 0)) []
      have ln3 := lookP_len (E ++ (List.range l).map fun l => (cutT x l, (tl x).getD l 0)) [] (cutT x l)
      have ln4 : (lookT [] (cutT x l)).length = 0 := by rw [show lookT [] (cutT x l) = "" from rfl]; decide +kernel
      rw [List.length_append, List.length_map, List.length_range] at ln2 ln3
      have d0 : ([] : Dt).length = 0 := rfl
      have lx : x.length = (tl x).length := TL.len_tl x
      generalize (E ++ (List.range l).map fun l => (cutT x l, (tl x).getD l 0)).foldl stepP [] = dd at *
      walk_at "go"
      refine ⟨_, .inr (cutT x l), _, rfl, rfl, rfl, ?_⟩
      rw [valG_cell, show ((valG dd (cutT x l)).map PyData.str).getD (.str "") = .str (lookT dd (cutT x l)) by unfold lookT; cases valG dd (cutT x l) <;> rfl]
      walk_at "go"
      refine w_ixS (by rw [sizeLine_eq]; omega) at_ ?_
      walk_at "go"
      rw [ends_one]
      have l1 : (⟨#[(tl x)[l]]⟩ : Str).length = 1 := len_one _
      have z1 : (lookT dd (cutT x l)).length + (⟨#[(tl x)[l]]⟩ : Str).length ≤ sizeLine := by rw [l1, sizeLine_eq]; omega
      refine ite2 (fun c => ?_) (fun c => ?_)
      · have c2 : ¬ (tl (lookT dd (cutT x l))).getLast? = some (tl x)[l] := by simpa using c
        walk_at "go"
        refine w_ixS (by rw [sizeLine_eq]; omega) at_ ?_
        refine w_addS z1 ?_
        walk_at "go"
        refine ⟨_, _, .inr (cutT x l), _, rfl, rfl, rfl, rfl, by rw [cellD, List.length_map, sizeLine_eq]; omega, ?_⟩
        walk_at "go"
        refine ⟨_, _, _, rfl, ?_⟩
        show [Cell.m _] = [Cell.m _]
        rw [st2, putG_cell, stepP, if_neg c2]
      · have c2 : (tl (lookT dd (cutT x l))).getLast? = some (tl x)[l] := by simpa using c
        walk_at "go"
        refine ⟨_, _, _, rfl, ?_⟩
        show [Cell.m _] = [Cell.m _]
        rw [st2, stepP, if_pos c2]
    · rintro e' c' ⟨y3, y4, y5, rfl, rfl⟩
      walk_at "go"
      refine ⟨_, _, _, _, rfl, ?_⟩
      rw [st]
      rfl
  · rintro e' c' ⟨y2, y3, y4, y5, rfl, rfl⟩
    rw [List.length_map, List.take_length]
    walk_at "go"
    obtain ⟨pm, lk⟩ := folded ws (low_of hw)
    have ln := evs_len hw12
    have hd := foldP_len (evs (srt ws)) []
    generalize (evs (srt ws)).foldl stepP [] = D at *
    refine s_dict (kvs := cellD D) (ks := D.map (·.1)) rfl (by unfold cellD; rw [List.map_map, List.map_map]; rfl) fun ys pm2 so => ?_
    have ey : ys = srt (pfx ws) := srt_eq (pm2.trans pm) so
    subst ey
    walk_at "go"
    refine vco_lP (fun t => decide (1 < (lets ws t).length)) (fun t => brD (t, ofL (lets ws t))) .o (on_name (by decide)) (by rw [srt_len, sizeLine_eq]; have := pfx_len (ws := ws) (fun w h => isW_len (hw w h)); omega) (fun t ht => ?_) ?_
    · have hk : t ∈ D.map (·.1) := pm2.mem_iff.mp ht
      obtain ⟨s, hs⟩ := valG_mem hk
      have es : s = ofL (lets ws t) := by
        rw [← lk t, lookT, hs]
        rfl
      subst es
      have vv : valG (cellD D) (.inr t) = some (.str (ofL (lets ws t))) := by rw [valG_cell, hs]; rfl
      have ll := lets_len ws t
      have l2 : (ofL (lets ws t)).length = (lets ws t).length := TL.len_tl _
      walk_at "go"
      refine ⟨_, _, .inr t, _, rfl, rfl, rfl, vv, ?_⟩
      walk_at "go"
      rw [show decide ((1 : Int) < (ofL (lets ws t)).length) = decide (1 < (lets ws t).length) from decide_eq_decide.mpr (by rw [l2]; omega)]
      refine ite2 (fun c => ?_) (fun c => ?_)
      · walk_at "go"
        refine ⟨_, _, .inr t, _, rfl, rfl, rfl, vv, ?_⟩
        walk_at "go"
        exact ⟨if_pos c, rfl⟩
      · exact ⟨if_neg c, rfl⟩
    · walk_at "go"
      rw [brs, List.map_map] at q
      exact q
def sp_find_state : SpV := fun us c Q => ∃ ws : List Str, us = [.b (ws.map .str)] ∧ c = [] ∧ ws.length ≤ 3000 ∧ Gb ws ∧ Q (.o ((stt ws).map brD)) []
theorem ok_find_state (n : Nm mg) (c_find_branchings : GF P w K mg base 1 "find_branchings" (lift K w sp_find_branchings)) (c_last_with : GF P w K mg base 1 "last_with" (lift K w sp_last_with)) {f : Addr} {fd : FuncData} (F : Fun K "find_state" "find_state" s_find_state f fd) :
    FnOk P w K mg base CX0 2 f fd ["book"] (lift K w sp_find_state) := by
  have n_len := n.len_
  refine FnOk.v F sc_find_state (fun us c Q h => ?_) (fun cdv A outer s H E us c Q hr h => ?_)
  · obtain ⟨ws, rfl, _⟩ := h; rfl
  obtain ⟨ws, rfl, rfl, hl, hb, q⟩ := h
  refine ⟨_, (pss_one (ps_ret (pe_lc (own := [("text", 1), ("_", 2)]) rfl sc_find_state.nd (kpi_u (K := K) rfl (pe_fc c_find_branchings hr (by decide) (by rfl) (pa_cons (pv 0) pa_nil))) (blkOk_by (own := [("text", 1), ("_", 2)]) (N := N_find_state) (sc := defScope s_find_state) (by decide +kernel)) (fun _ _ _ _ _ => (kpg_tup (K := K) (n := 2) rfl rfl (pgs_cons (pg_name (i := 1) sc_find_state.nd rfl (.inl rfl)) (pgs_cons (pg_name (i := 2) sc_find_state.nd rfl (.inl rfl)) pgs_nil)))) (fun _ _ _ _ _ => pts_nil) (fun _ _ _ _ _ => (pe_tup (pa_cons (pv 1) (pa_cons (pe_ix (kix_seq (K := K) rfl) (pe_fc c_last_with hr (by decide) (by rfl) (pa_cons (pv 0) (pa_cons (pv 1) pa_nil))) (pe_callB (kcu_len (K := K) rfl) (by rfl) n_len (by decide +kernel) (pa_cons (pv 1) pa_nil)) (fun _ _ => rfl)) pa_nil))))))), ?_⟩
  walk_at "go"
  refine ⟨ws, rfl, rfl, hl, hb.ok, ?_⟩
  walk_at "go"
  refine vco_lM (fun p => brD (p.1, lat ws p.1)) .o (on_tup (on_cons (by decide) (on_cons (by decide) on_nil))) (by have := brs_len hb.ok; rw [sizeLine_eq]; omega) (fun p hp => ?_) ?_
  · obtain ⟨h1, h2, h3⟩ := brs_mem hp
    obtain ⟨w, hw, hpre, hlt⟩ := pfx_mem h1
    obtain ⟨o, ho⟩ := sug_some hw hpre
    have om := sug_mem ho
    have ol := hb.len om
    have lt := br_long hb h2 om (sug_pre ho)
    have lt2 : p.1.length < (tl o).length := by rw [TL.len_tl o] at lt; exact lt
    unfold brD
    walk_at "go"
    refine ⟨ws, _, rfl, rfl, ?_⟩
    rw [ho]
    walk_at "go"
    refine w_ixS (a := (tl o)[p.1.length]) (by rw [sizeLine_eq]; omega) (atI_of (by omega) (by rw [Int.toNat_natCast]; exact List.getElem?_eq_getElem lt2)) ?_
    walk_at "go"
    refine ⟨?_, rfl⟩
    simp [lat, ho, List.getD_eq_getElem?_getD, List.getElem?_eq_getElem lt2]
  · walk_at "go"
    rw [stt, List.map_map] at q
    exact q
def conF (p : Str × Str) : List Int := List.replicate (p.2.length - 1) (p.1.length + 2 : Int)
def cons (ws : List Str) : List Int := (if 0 < ws.length then [1] else []) ++ (brs ws).flatMap conF
end
end My
open PySem PySem.Spec PyProof.Rows L2 Gd
namespace My
section
variable {P : Program} {w : World} {K : PySem.W.Frag} {mg : Str → Option Value} {base : Heap}
/-- an int, or no limit -/
def oI : Option Int → PyData
  | none => .none
  | some m => .int m
def inR (v l : Int) (o : Option Int) : Bool := decide (l ≤ v) && (match o with | none => true | some m => decide (v ≤ m))
def sp_is_integer_from : SpV := fun us c Q => ∃ (v l : Int) (o : Option Int), us = [.d (.int v), .d (.int l), .d (oI o)] ∧ c = [] ∧ Q (.d (.bool (inR v l o))) []
theorem ok_is_integer_from (n : Nm mg)  {f : Addr} {fd : FuncData} (F : FunE K "is_integer_from" "is_integer_from" s_is_integer_from f fd) :
    GFn P w K mg base CX0 1 f fd ["value", "least", "most"] (lift K w sp_is_integer_from) := by
  have n_bool := n.bool_
  have n_int := n.int_
  have n_isinstance := n.isinstance_
  refine GFn.vE F sc_is_integer_from (fun us c Q h => ?_) (fun cdv A outer s H E us c Q gd hr h => ?_)
  · obtain ⟨v, l, o, rfl, _⟩ := h; rfl
  obtain ⟨v, l, o, rfl, rfl, q⟩ := h
  refine ⟨_, (pss_cons (ps_if (PW.pt (pw_or (pt_not (kpt_u (K := K) rfl (pe_callB (kcu_isi (K := K) rfl) (by rfl) n_isinstance (by decide +kernel) (pa_cons (pv 0) (pa_cons (pe_bltn (v := .ty "int") (by rfl) n_int (by decide +kernel) rfl) pa_nil))) (by intro _; rfl))) (pw_or1 (kpt_u (K := K) rfl (pe_callB (kcu_isi (K := K) rfl) (by rfl) n_isinstance (by decide +kernel) (pa_cons (pv 0) (pa_cons (pe_bltn (v := .ty "bool") (by rfl) n_bool (by decide +kernel) rfl) pa_nil))) (by intro _; rfl)))))
      (pss_one (ps_ret pe_bl))
      pss_nil)
      (pss_one (ps_ret (kpe_andT (K := K) rfl (pe_cmpR ou_ge (pv 0) (pv 1) (nomark _)) (pe_one (kpe_orT (K := K) rfl (pe_cmpR op_isN (pv 2) pe_non (nomark _)) (pe_one (pe_cmpR ou_le (pv 0) (pv 2) (nomark _))))))))), ?_⟩
  cases o with
  | none =>
    show VS K w _ (startE _ [.d (.int v), .d (.int l), .d .none]) _ _
    walk_at "go"
    by_cases c : l ≤ v
    · rw [show decide (l ≤ v) = true from decide_eq_true c]
      walk_at "go"
      rw [inR, decide_eq_true c] at q
      exact q
    · rw [show decide (l ≤ v) = false from decide_eq_false c]
      walk_at "go"
      rw [inR, decide_eq_false c] at q
      exact q
  | some m =>
    show VS K w _ (startE _ [.d (.int v), .d (.int l), .d (.int m)]) _ _
    walk_at "go"
    by_cases c : l ≤ v
    · rw [show decide (l ≤ v) = true from decide_eq_true c]
      walk_at "go"
      rw [inR, decide_eq_true c] at q
      exact q
    · rw [show decide (l ≤ v) = false from decide_eq_false c]
      walk_at "go"
      rw [inR, decide_eq_false c] at q
      exact q
def sp_check_integer : SpV := fun us c Q => ∃ (v l : Int) (o : Option Int), us = [.d (.int v), .d (.int l), .d (oI o)] ∧ c = [] ∧ inR v l o = true ∧ Q (.d .none) []
theorem ok_check_integer (n : Nm mg)  (kwm_is_integer_from_3_ : GKM P w K mg base 1 "is_integer_from" 3 [] [0, 1, 2] [] (lift K w sp_is_integer_from)) {f : Addr} {fd : FuncData} (F : FunE K "check_integer" "check_integer" s_check_integer f fd) :
    GFn P w K mg base CX0 2 f fd ["value", "least", "most"] (lift K w sp_check_integer) := by
  refine GFn.vE F sc_check_integer (fun us c Q h => ?_) (fun cdv A outer s H E us c Q gd hr h => ?_)
  · obtain ⟨v, l, o, rfl, _⟩ := h; rfl
  obtain ⟨v, l, o, rfl, rfl, hin, q⟩ := h
  refine ⟨_, (pss_one (ps_if (pt_not (kpt_u (K := K) rfl (pe_gkmp kwm_is_integer_from_3_ gd hr (by decide) (by rfl) (pa_cons (pv 0) (pa_cons (pv 1) (pa_cons (pv 2) pa_nil)))) (by intro _; rfl)))
      (pss_one ps_never)
      pss_nil)), ?_⟩
  cases o with
  | none =>
    show VS K w _ (startE _ [.d (.int v), .d (.int l), .d .none]) _ _
    walk_at "go"
    refine ⟨rfl, rfl, rfl, _, rfl, ?_⟩
    refine ⟨v, l, none, rfl, rfl, ?_⟩
    rw [hin]
    walk_at "go"
    exact q
  | some m =>
    show VS K w _ (startE _ [.d (.int v), .d (.int l), .d (.int m)]) _ _
    walk_at "go"
    refine ⟨rfl, rfl, rfl, _, rfl, ?_⟩
    refine ⟨v, l, some m, rfl, rfl, ?_⟩
    rw [hin]
    walk_at "go"
    exact q
def sp_check_index : SpV := fun us c Q => ∃ (v n : Int), us = [.d (.int v), .d (.int n)] ∧ c = [] ∧ 0 ≤ v ∧ v < n ∧ Q (.d .none) []
theorem ok_check_index (n : Nm mg)  (kwm_check_integer_3_ : GKM P w K mg base 2 "check_integer" 3 [] [0, 1, 2] [] (lift K w sp_check_integer)) {f : Addr} {fd : FuncData} (F : Fun K "check_index" "check_index" s_check_index f fd) :
    GFn P w K mg base CX0 3 f fd ["value", "many"] (lift K w sp_check_index) := by
  refine GFn.v F sc_check_index (fun us c Q h => ?_) (fun cdv A outer s H E us c Q gd hr h => ?_)
  · obtain ⟨v, n, rfl, _⟩ := h; rfl
  obtain ⟨v, n, rfl, rfl, h0, h1, q⟩ := h
  refine ⟨_, (pss_one (ps_expr (pe_gkmp kwm_check_integer_3_ gd hr (by decide) (by rfl) (pa_cons (pv 0) (pa_cons pe_int (pa_cons (pe_op ou_sub (pv 1) pe_int) pa_nil)))))), ?_⟩
  walk_at "go"
  refine ⟨rfl, rfl, rfl, _, rfl, ?_⟩
  refine ⟨v, 0, some (n - 1), rfl, rfl, by simp [inR]; omega, ?_⟩
  walk_at "go"
  exact q
end
end My
open PySem PySem.Spec PyProof.Rows L2 Gd
namespace My
section
variable {P : Program} {w : World} {K : PySem.W.Frag} {mg : Str → Option Value} {base : Heap}
def sp_play_uses : SpV := fun us c Q => ∃ (ws vs : List Str), us = [.b (ws.map .str), .b (vs.map .str)] ∧ c = [] ∧ ws.length + vs.length ≤ 3000 ∧ Q (.o ((play ws vs).map .str)) []
theorem ok_play_uses (n : Nm mg)  {f : Addr} {fd : FuncData} (F : Fun K "play_uses" "play_uses" s_play_uses f fd) :
    FnOk P w K mg base CX0 1 f fd ["book", "uses"] (lift K w sp_play_uses) := by
  have n_list := n.list_
  refine FnOk.v F sc_play_uses (fun us c Q h => ?_) (fun cdv A outer s H E us c Q hr h => ?_)
  · obtain ⟨ws, vs, rfl, _⟩ := h; rfl
  obtain ⟨ws, vs, rfl, rfl, hl, q⟩ := h
  refine ⟨_, (pss_cons (PS.as_c (ps_set (i := 2) sc_play_uses.nd rfl (.inl rfl) (pe_callTy (kcall_list (K := K) rfl) (by rfl) n_list (by decide +kernel) (pa_cons (pv 0) pa_nil))))
      (pss_cons (ps_for PassesOwn.never rfl (kpi_u (K := K) rfl (pv 1)) (pg_name (i := 3) sc_play_uses.nd rfl (.inl rfl))
      (pss_cut (ps_if (pt_cmpR (kou_in (K := K) rfl) (pv 3) (pv 2) rfl)
      (pss_one (ps_expr (kpe_bm (K := K) rfl PySem.F.plainAttrs_list PySem.F.slot_list_remove PySem.F.type_list_remove mu_remT (pv 2) (pa_cons (pv 3) pa_nil))))
      pss_nil)
        (pss_one (ps_expr (kpe_bm (K := K) rfl PySem.F.plainAttrs_list PySem.F.slot_list_append PySem.F.type_list_append mt_append (pv 2) (pa_cons (pv 3) pa_nil))))))
      (pss_one (ps_ret (pv 2))))), ?_⟩
  walk_at "go"
  refine vfor (it_l .b) (fun i e c => ∃ y3, e = [some (.b (ws.map .str)), some (.b (vs.map .str)), some (.c 0), y3] ∧ c = [.l ((play ws (vs.take i)).map .str)]) ⟨_, rfl, rfl⟩ (fun _ _ _ _ => .b) ?_ ?_
  · rintro i d e' c' hi hd ⟨y3, rfl, rfl⟩
    obtain ⟨x, ex, rfl⟩ := map_at hd
    have pl := play_len (vs.take i) ws
    have st : play ws (vs.take (i + 1)) = (play ws (vs.take i)).erase x ++ [x] := by rw [List.take_add_one, ex]; exact play_snoc ws _ x
    rw [List.length_take] at pl
    walk_at "go"
    refine v_cut (fun e c => e = [some (.b (ws.map .str)), some (.b (vs.map .str)), some (.c 0), some (.d (.str x))] ∧ c = [.l (((play ws (vs.take i)).erase x).map .str)]) ?_ ?_
    · walk_at "go"
      refine ite2 (fun c => ?_) (fun c => ?_)
      · walk_at "go"
        refine w_rem rfl (of_decide_eq_true c) ?_
        walk_at "go"
        exact ⟨rfl, rfl⟩
      · walk_at "go"
        rw [List.erase_of_not_mem (by simpa using c)]
        exact ⟨rfl, rfl⟩
    · rintro e' c' ⟨rfl, rfl⟩
      walk_at "go"
      refine w_app rfl rfl (by rw [sizeLine_eq, List.length_map]; have := List.length_erase_le (a := x) (l := play ws (vs.take i)); omega) ?_
      walk_at "go"
      refine ⟨_, rfl, ?_⟩
      show [Cell.l _] = [Cell.l _]
      rw [st, List.map_append]
      rfl
  · rintro e' c' ⟨y3, rfl, rfl⟩
    walk_at "go"
    rw [List.length_map, List.take_length]
    exact q
end
end My
open PySem PySem.Spec PyProof.Rows L2 Gd
namespace My
section
variable {P : Program} {w : World} {K : PySem.W.Frag} {mg : Str → Option Value} {base : Heap}
def sp_check_same_words : SpV := fun us c Q => ∃ ws vs : List Str, us = [.b (ws.map .str), .b (vs.map .str)] ∧ c = [] ∧ ws.length < 3000 ∧ vs.length < 3000 ∧ Gb ws ∧ Gb vs ∧ ws.Perm vs ∧ Q (.d .none) []
theorem ok_check_same_words (n : Nm mg)  {f : Addr} {fd : FuncData} (F : Fun K "check_same_words" "check_same_words" s_check_same_words f fd) :
    FnOk P w K mg base CX0 1 f fd ["book", "other"] (lift K w sp_check_same_words) := by
  have n_sorted := n.sorted_
  refine FnOk.v F sc_check_same_words (fun us c Q h => ?_) (fun cdv A outer s H E us c Q hr h => ?_)
  · obtain ⟨ws, vs, rfl, _⟩ := h; rfl
  obtain ⟨ws, vs, rfl, rfl, hl, hl2, hb, hb2, pm0, q⟩ := h
  refine ⟨_, (pss_one (ps_if (pt_cmpR (kou_ne (K := K) rfl hr.units) (pe_callB (kcu_sort (K := K) (w := w) rfl rfl rfl) (by rfl) n_sorted (by decide +kernel) (pa_cons (pv 0) pa_nil)) (pe_callB (kcu_sort (K := K) (w := w) rfl rfl rfl) (by rfl) n_sorted (by decide +kernel) (pa_cons (pv 1) pa_nil)) (nomark _))
      (pss_one ps_never)
      pss_nil)), ?_⟩
  have o1 : ∀ w ∈ srt ws, PyData.strOk w = true := fun w h => strOk_w (hb.ok w (srt_mem.mp h))
  walk_at "go"
  refine s_txt .b (by omega) fun ys pm so => ?_
  rw [srt_eq pm so]
  walk_at "go"
  refine s_txt .b (by omega) fun zs pm2 so2 => ?_
  rw [srt_eq pm2 so2, ← srt_congr pm0]
  walk_at "go"
  refine w_neW .o .o o1 o1 ?_
  rw [decide_eq_true rfl]
  walk_at "go"
  exact q
end
end My
open PySem PySem.Spec PyProof.Rows L2 Gd
namespace My
section
variable {P : Program} {w : World} {K : PySem.W.Frag} {mg : Str → Option Value} {base : Heap}
abbrev abP (par : Str → Option Str) (ws : List Str) : List (Key × PyData) := dW ws fun v => optD (par v)
abbrev intD (ws : List Str) (h : Str → Nat) : List (Key × PyData) := dW ws fun v => .int ((h v : Nat) : Int)
theorem dW_len (ws : List Str) (g : Str → PyData) : (dW ws g).length = ws.length := List.length_map ..
theorem dW_at {ws : List Str} {g : Str → PyData} {i : Nat} {k : Key} {z : PyData} (h : (dW ws g)[i]? = some (k, z)) : ∃ x, ws[i]? = some x ∧ k = Sum.inr x := by
  unfold dW at h
  rw [List.getElem?_map] at h
  obtain ⟨x, h1, h2⟩ := Option.map_eq_some_iff.mp h
  cases h2
  exact ⟨x, h1, rfl⟩
def sp__words_above : SpV := fun us c Q => ∃ (par : Str → Option Str) (ws : List Str) (x : Str), us = [.dm (abP par ws), .d (.str x)] ∧ c = [] ∧ ws.length ≤ 120 ∧ Fo par ws ∧ x ∈ ws ∧ Q (.o ((upsP par ws x).map .str)) []
theorem ok__words_above (n : Nm mg)  {f : Addr} {fd : FuncData} (F : Fun K "_words_above" "_words_above" s__words_above f fd) :
    FnOk P w K mg base CX0 1 f fd ["above", "word"] (lift K w sp__words_above) := by
  refine FnOk.v F sc__words_above (fun us c Q h => ?_) (fun cdv A outer s H E us c Q hr h => ?_)
  · obtain ⟨par, ws, x, rfl, _⟩ := h; rfl
  obtain ⟨par, ws, x, rfl, rfl, hl, Fp, hx, q⟩ := h
  refine ⟨_, (pss_cons (PS.as_c (ps_set (i := 2) sc__words_above.nd rfl (.inl rfl) (pe_lst pa_nil)))
      (pss_cons (ps_set (i := 3) sc__words_above.nd rfl (.inl rfl) (PE.as_dgm (pe_dget (hdict hr) (pv 0) (pv 1) (fun _ _ => rfl))))
      (pss_cons (ps_while PassesOwn.never (pt_cmpR op_notN (pv 3) pe_non (nomark _))
      (pss_cons (ps_expr (kpe_bm (K := K) rfl PySem.F.plainAttrs_list PySem.F.slot_list_append PySem.F.type_list_append mt_append (pv 2) (pa_cons (pv 3) pa_nil)))
        (pss_one (ps_set (i := 3) sc__words_above.nd rfl (.inl rfl) (PE.as_dgm (pe_dget (hdict hr) (pv 0) (pv 3) (fun _ _ => rfl)))))))
      (pss_one (ps_ret (pv 2)))))), ?_⟩
  have U := upsP_ok Fp hx
  have ul := U.len
  walk_at "go"
  refine ⟨_, Sum.inr x, _, rfl, rfl, dW_val hx, ?_⟩
  walk_at "go"
  refine v_while (fun m e c => ∃ (done rest : List Str) (o : Option Str), m = rest.length ∧ e = [some (.dm (abP par ws)), some (.d (.str x)), some (.c 0), some (.d (optD o))] ∧ c = [.l (done.map .str)] ∧ Ups par o rest ∧ done ++ rest = upsP par ws x) ⟨_, [], upsP par ws x, par x, rfl, rfl, rfl, U.up, rfl⟩ ?_
  rintro m e' c' ⟨done, rest, o, rfl, rfl, rfl, u, hd⟩
  have dl : done.length + rest.length ≤ 120 := by
    have := congrArg List.length hd
    rw [List.length_append] at this
    omega
  cases u with
  | none =>
    show VT K w _ [some (.dm (abP par ws)), some (.d (.str x)), some (.c 0), some (.d .none)] _ _
    walk_at "go"
    rw [List.append_nil] at hd
    rw [hd]
    exact q
  | @some y l t =>
    show VT K w _ [some (.dm (abP par ws)), some (.d (.str x)), some (.c 0), some (.d (.str y))] _ _
    have hy : y ∈ ws := U.mem y (by rw [← hd]; simp)
    walk_at "go"
    refine w_app rfl rfl (by rw [sizeLine_eq, List.length_map]; omega) ?_
    walk_at "go"
    refine ⟨_, Sum.inr y, _, rfl, rfl, dW_val hy, ?_⟩
    walk_at "go"
    refine ⟨l.length, by simp, done ++ [y], l, par y, rfl, rfl, ?_, t, by rw [← hd]; simp⟩
    show [Cell.l _] = _
    rw [List.map_append]
    rfl
def sp__sizes : SpV := fun us c Q => ∃ (par : Str → Option Str) (ws : List Str), us = [.dm (abP par ws)] ∧ c = [] ∧ ws.length ≤ 120 ∧ Fo par ws ∧ Q (.dm (intD ws (hkP par ws))) []
def part (par : Str → Option Str) (ws : List Str) (i : Nat) (v : Str) : Nat := 1 + ((ws.take i).filter fun x => decide (v ∈ upsP par ws x)).length
def partJ (par : Str → Option Str) (ws : List Str) (i : Nat) (x : Str) (j : Nat) (v : Str) : Nat := part par ws i v + if v ∈ (upsP par ws x).take j then 1 else 0
theorem part_succ {par : Str → Option Str} {ws : List Str} {i : Nat} {x : Str} (h : ws[i]? = some x) (v : Str) : part par ws (i + 1) v = part par ws i v + if v ∈ upsP par ws x then 1 else 0 := by
  unfold part
  rw [List.take_add_one, h, Option.toList_some, List.filter_append, List.length_append]
  by_cases m : v ∈ upsP par ws x
  · rw [if_pos m, List.filter_cons, if_pos (by simpa using m)]
    show 1 + (_ + 1) = _
    omega
  · rw [if_neg m, List.filter_cons, if_neg (by simpa using m)]
    show 1 + (_ + 0) = _
    omega
theorem ok__sizes (n : Nm mg) (c__words_above : GF P w K mg base 1 "_words_above" (lift K w sp__words_above)) {f : Addr} {fd : FuncData} (F : Fun K "_sizes" "_sizes" s__sizes f fd) :
    FnOk P w K mg base CX0 2 f fd ["above"] (lift K w sp__sizes) := by
  refine FnOk.v F sc__sizes (fun us c Q h => ?_) (fun cdv A outer s H E us c Q hr h => ?_)
  · obtain ⟨par, ws, rfl, _⟩ := h; rfl
  obtain ⟨par, ws, rfl, rfl, hl, Fp, q⟩ := h
  refine ⟨_, (pss_cons (PS.as_c (ps_setDc (i := 2) (own := [("word", 1)]) rfl sc__sizes.nd rfl rfl (sw_trueD rfl rfl rfl (by decide +kernel)) (pi_keys (pv 0)) (blkOk_by (own := [("word", 1)]) (N := N__sizes) (sc := defScope s__sizes) (by decide +kernel)) (fun _ _ _ _ _ => (pg_name (i := 1) sc__sizes.nd rfl (.inl rfl))) (fun _ _ _ _ _ => pts_nil) (fun _ _ _ _ _ => (pv 1)) (fun _ _ _ _ _ => pe_int)))
      (pss_cons (ps_for PassesOwn.never rfl (pi_keys (pv 0)) (pg_name (i := 1) sc__sizes.nd rfl (.inl rfl))
      (pss_one (ps_for PassesOwn.never rfl (kpi_u (K := K) rfl (pe_fc c__words_above hr (by decide) (by rfl) (pa_cons (pv 0) (pa_cons (pv 1) pa_nil)))) (pg_name (i := 3) sc__sizes.nd rfl (.inl rfl))
      (pss_one (ps_daug (hdict hr) (pv 2) (pv 3) pe_int ip_add (by intros; rfl))))))
      (pss_one (ps_ret (PE.frz (pv 2)))))), ?_⟩
  walk_at "go"
  refine v_dcK (α := Unit) (fun y => some (y.1, .int 1)) ?_
  walk_at "go"
  refine ⟨abP par ws, rfl, on_name (by decide), by rw [sizeLine_eq, dW_len]; omega, fun y hy kvs => ?_, ?_⟩
  · unfold DTurn
    walk_at "go"
    exact ⟨y.1, _, rfl, rfl, rfl, rfl⟩
  rw [fm_some, show ((abP par ws).map fun y => (y.1, PyData.int 1)) = intD ws (part par ws 0) by unfold abP intD dW; rw [List.map_map]; rfl, putAll_nd (dW_keys Fp.nd)]
  walk_at "go"
  refine vfor it_dm (fun i e c => ∃ y1 y3, e = [some (.dm (abP par ws)), y1, some (.c 0), y3] ∧ c = [.m (intD ws (part par ws i))]) ⟨_, _, rfl, rfl⟩ (fun _ _ _ _ => trivial) ?_ ?_
  · rintro i d e' c' hi ⟨k, z, hk, rfl⟩ ⟨y1, y3, rfl, rfl⟩
    obtain ⟨x, ex, rfl⟩ := dW_at hk
    have hx := List.mem_of_getElem? ex
    have U := upsP_ok Fp hx
    show VG K w _ (.d (.str x)) _ _ _
    walk_at "go"
    refine ⟨par, ws, x, rfl, rfl, hl, Fp, hx, ?_⟩
    walk_at "go"
    refine vfor (it_l .o) (fun j e c => ∃ y3, e = [some (.dm (abP par ws)), some (.d (.str x)), some (.c 0), y3] ∧ c = [.m (intD ws (partJ par ws i x j))]) ⟨_, rfl, ?_⟩ (fun _ _ _ _ => .o) ?_ ?_
    · unfold partJ
      simp
    · rintro j d e' c' hj hd ⟨y3, rfl, rfl⟩
      obtain ⟨y, ey, rfl⟩ := map_at hd
      have hy := U.mem y (List.mem_of_getElem? ey)
      walk_at "go"
      refine ⟨0, _, Sum.inr y, _, rfl, rfl, rfl, dW_val hy, by rw [sizeLine_eq, dW_len]; omega, ?_⟩
      refine v_int ?_
      refine ⟨_, rfl, rfl, ?_⟩
      have e1 : putG (intD ws (partJ par ws i x j)) (Sum.inr y) (.int (((partJ par ws i x j y : Nat) : Int) + 1)) = intD ws (partJ par ws i x (j + 1)) := by
        unfold intD
        rw [dW_put hy]
        unfold dW
        refine List.map_congr_left fun v _ => ?_
        have ts : (upsP par ws x).take (j + 1) = (upsP par ws x).take j ++ [y] := by rw [List.take_add_one, ey]; rfl
        have ny : y ∉ (upsP par ws x).take j := fun m => by
          have n := U.nd
          rw [← List.take_append_drop (j + 1) (upsP par ws x), ts, List.append_assoc, List.nodup_append] at n
          exact n.2.2 y m y (by simp) rfl
        by_cases ev : v = y
        · subst ev
          show (Sum.inr v, if v = v then _ else _) = _
          rw [if_pos rfl]
          show _ = (Sum.inr v, PyData.int ((partJ par ws i x (j + 1) v : Nat) : Int))
          unfold partJ
          rw [if_neg ny, ts, if_pos (by simp)]
          congr 2
        · show (Sum.inr v, if v = y then _ else _) = _
          rw [if_neg ev]
          show _ = (Sum.inr v, PyData.int ((partJ par ws i x (j + 1) v : Nat) : Int))
          unfold partJ
          rw [ts]
          simp [ev]
      walk_at "go"
      refine ⟨_, rfl, ?_⟩
      show [Cell.m _] = _
      rw [← e1]
    · rintro e' c' ⟨y3, rfl, rfl⟩
      walk_at "go"
      refine ⟨_, _, rfl, ?_⟩
      show [Cell.m _] = _
      have e2 : partJ par ws i x ((upsP par ws x).map PyData.str).length = part par ws (i + 1) := funext fun v => by
        rw [List.length_map]
        unfold partJ
        rw [List.take_length, part_succ ex]
      rw [e2]
  · rintro e' c' ⟨y1, y3, rfl, rfl⟩
    have e3 : part par ws (abP par ws).length = hkP par ws := funext fun v => by
      rw [dW_len]
      unfold part hkP
      rw [List.take_length]
    rw [e3]
    walk_at "go"
    exact q
theorem fac_mono {n m : Nat} (h : n ≤ m) : fac n ≤ fac m := by
  induction m with
  | zero => rw [show n = 0 by omega]; exact Nat.le_refl _
  | succ m ih =>
    by_cases e : n = m + 1
    · rw [e]; exact Nat.le_refl _
    · rw [fac_succ]
      exact Nat.le_trans (ih (by omega)) (Nat.le_mul_of_pos_right _ (by omega))
theorem fac_120 : fac 120 < 2 ^ 700 := by decide +kernel
theorem log700 {n : Nat} (h : n < 2 ^ 700) : ((n : Nat) : Int).natAbs.log2 < 700 := PySem.Flt.log2_lt_of (show 0 < 700 by decide) (by rw [Int.natAbs_natCast]; exact h)
def sp__count_of_sizes : SpV := fun us c Q => ∃ (par : Str → Option Str) (ws : List Str), us = [.dm (intD ws (hkP par ws))] ∧ c = [] ∧ ws.length ≤ 120 ∧ Fo par ws ∧ Q (.d (.int ((nLay par ws : Nat) : Int))) []
theorem ok__count_of_sizes (n : Nm mg)  {f : Addr} {fd : FuncData} (F : Fun K "_count_of_sizes" "_count_of_sizes" s__count_of_sizes f fd) :
    FnOk P w K mg base CX0 1 f fd ["sizes"] (lift K w sp__count_of_sizes) := by
  have n_factorial := n.factorial_
  have n_len := n.len_
  refine FnOk.v F sc__count_of_sizes (fun us c Q h => ?_) (fun cdv A outer s H E us c Q hr h => ?_)
  · obtain ⟨par, ws, rfl, _⟩ := h; rfl
  obtain ⟨par, ws, rfl, rfl, hl, Fp, q⟩ := h
  refine ⟨_, (pss_cons (ps_set (i := 1) sc__count_of_sizes.nd rfl (.inl rfl) pe_int)
      (pss_cons (ps_for PassesOwn.never rfl (pi_keys (pv 0)) (pg_name (i := 2) sc__count_of_sizes.nd rfl (.inl rfl))
      (pss_one (ps_set (i := 1) sc__count_of_sizes.nd rfl (.inl rfl) (pe_op ou_mul (pv 1) (PE.as_dgm (pe_dget (hdict hr) (pv 0) (pv 2) (fun _ _ => rfl)))))))
      (pss_one (ps_ret (pe_op ou_div (pe_callBfun cr_fact (by rfl) n_factorial (pa_cons (pe_callB cu_lenF (by rfl) n_len (by decide +kernel) (pa_cons (pv 0) pa_nil)) pa_nil)) (pv 1)))))), ?_⟩
  have f7 : fac ws.length < 2 ^ 700 := Nat.lt_of_le_of_lt (fac_mono hl) fac_120
  have hp : ∀ a ∈ ws.map (hkP par ws), 1 ≤ a := fun a ha => by
    obtain ⟨v, _, rfl⟩ := List.mem_map.mp ha
    exact hkP_pos par ws v
  have pl := prdP_le Fp
  walk_at "go"
  refine vfor it_dm (fun i e c => ∃ y2, e = [some (.dm (intD ws (hkP par ws))), some (.d (.int ((prd ((ws.map (hkP par ws)).take i) : Nat) : Int))), y2] ∧ c = []) ⟨_, rfl, rfl⟩ (fun _ _ _ _ => trivial) ?_ ?_
  · rintro i d e' c' hi ⟨k, z, hk, rfl⟩ ⟨y2, rfl, rfl⟩
    obtain ⟨x, ex, rfl⟩ := dW_at hk
    have hx := List.mem_of_getElem? ex
    have st : (ws.map (hkP par ws)).take (i + 1) = (ws.map (hkP par ws)).take i ++ [hkP par ws x] := by rw [List.take_add_one, List.getElem?_map, ex]; rfl
    have p1 := prd_take hp i
    have p2 := prd_take hp (i + 1)
    have q1 := prd_pos (l := (ws.map (hkP par ws)).take i) fun a ha => hp a (List.mem_of_mem_take ha)
    have e1 : prd ((ws.map (hkP par ws)).take (i + 1)) = prd ((ws.map (hkP par ws)).take i) * hkP par ws x := by rw [st, prd_app, prd_cons]; show _ = _ * hkP par ws x; congr 1; exact Nat.mul_one _
    have hb : hkP par ws x ≤ prd ((ws.map (hkP par ws)).take (i + 1)) := by rw [e1]; exact Nat.le_mul_of_pos_left _ q1
    show VG K w _ (.d (.str x)) _ _ _
    walk_at "go"
    refine ⟨_, Sum.inr x, _, rfl, rfl, dW_val hx, ?_⟩
    refine w_mulI (.inr ?_) ?_
    · have a1 := log700 (n := prd ((ws.map (hkP par ws)).take i)) (by omega)
      have a2 := log700 (n := hkP par ws x) (by omega)
      unfold CMulW
      omega
    rw [← Int.natCast_mul, ← e1]
    walk_at "go"
    exact ⟨_, rfl, rfl⟩
  · rintro e' c' ⟨y2, rfl, rfl⟩
    rw [dW_len, List.take_of_length_le (by rw [List.length_map]; exact Nat.le_refl _)]
    walk_at "go"
    rw [dW_len]
    refine w_fact (by omega) ?_
    have pp := prd_pos hp
    walk_at "go"
    refine w_div (by omega) (by have := log700 (n := prd (ws.map (hkP par ws))) (by omega); omega) ?_
    rw [← Int.natCast_ediv, lay_div Fp]
    walk_at "go"
    exact q
def sp_count_placements : SpV := fun us c Q => ∃ (par : Str → Option Str) (ws : List Str), us = [.dm (abP par ws)] ∧ c = [] ∧ ws.length ≤ 120 ∧ Fo par ws ∧ Q (.d (.int ((nLay par ws : Nat) : Int))) []
theorem ok_count_placements (n : Nm mg) (c__count_of_sizes : GF P w K mg base 1 "_count_of_sizes" (lift K w sp__count_of_sizes)) (c__sizes : GF P w K mg base 2 "_sizes" (lift K w sp__sizes)) {f : Addr} {fd : FuncData} (F : Fun K "count_placements" "count_placements" s_count_placements f fd) :
    FnOk P w K mg base CX0 3 f fd ["above"] (lift K w sp_count_placements) := by
  refine FnOk.v F sc_count_placements (fun us c Q h => ?_) (fun cdv A outer s H E us c Q hr h => ?_)
  · obtain ⟨par, ws, rfl, _⟩ := h; rfl
  obtain ⟨par, ws, rfl, rfl, hl, Fp, q⟩ := h
  refine ⟨_, (pss_one (ps_ret (pe_fc c__count_of_sizes hr (by decide) (by rfl) (pa_cons (pe_fc c__sizes hr (by decide) (by rfl) (pa_cons (pv 0) pa_nil)) pa_nil)))), ?_⟩
  walk_at "go"
  refine ⟨par, ws, rfl, rfl, hl, Fp, ?_⟩
  walk_at "go"
  refine ⟨par, ws, rfl, rfl, hl, Fp, ?_⟩
  walk_at "go"
  exact q
def sp__without : SpV := fun us c Q => ∃ (par : Str → Option Str) (ws : List Str) (x : Str), us = [.dm (abP par ws), .d (.str x)] ∧ c = [] ∧ ws.length ≤ 120 ∧ ws.Nodup ∧ Q (.dm (abP par (ws.erase x))) []
theorem ok__without (n : Nm mg)  {f : Addr} {fd : FuncData} (F : Fun K "_without" "_without" s__without f fd) :
    FnOk P w K mg base CX0 1 f fd ["above", "word"] (lift K w sp__without) := by
  refine FnOk.v F sc__without (fun us c Q h => ?_) (fun cdv A outer s H E us c Q hr h => ?_)
  · obtain ⟨par, ws, x, rfl, _⟩ := h; rfl
  obtain ⟨par, ws, x, rfl, rfl, hl, nd, q⟩ := h
  refine ⟨_, (pss_one (ps_ret (PE.frz (pe_dc (own := [("other", 2)]) rfl sc__without.nd (pi_keys (pv 0)) (blkOk_by (own := [("other", 2)]) (N := N__without) (sc := defScope s__without) (by decide +kernel)) (fun _ _ _ _ _ => (pg_name (i := 2) sc__without.nd rfl (.inl rfl))) (fun _ _ _ _ _ => (pts_one (pt_cmpR (kou_ne (K := K) rfl hr.units) (pv 2) (pv 1) (nomark _)))) (fun _ _ _ _ _ => (pv 2)) (fun _ _ _ _ _ => (PE.as_dgm (pe_dget (hdict hr) (pv 0) (pv 2) (fun _ _ => rfl)))))))), ?_⟩
  walk_at "go"
  refine v_dcK (α := Unit) (fun y => if (!decide (y.1 = Sum.inr x)) = true then some y else none) ?_
  walk_at "go"
  refine ⟨abP par ws, rfl, on_name (by decide), by rw [sizeLine_eq, dW_len]; omega, fun y hy kvs => ?_, ?_⟩
  · obtain ⟨v, hv, rfl⟩ := List.mem_map.mp hy
    show DTurn K w _ _ _ _ _ _ _ (.str v) _
    unfold DTurn
    walk_at "go"
    have eb : (!decide ((Sum.inr v : Key) = Sum.inr x)) = !decide (v = x) := by congr 1; exact decide_eq_decide.mpr ⟨fun z => Sum.inr.inj z, fun z => by rw [z]⟩
    refine ite2 (fun c => ?_) (fun c => ?_)
    · walk_at "go"
      refine ⟨_, Sum.inr v, _, rfl, rfl, dW_val hv, ?_⟩
      refine ⟨Sum.inr v, _, rfl, rfl, ?_, rfl⟩
      rw [if_pos (by show (!decide ((Sum.inr v : Key) = Sum.inr x)) = true; rw [eb]; exact c)]
    · exact ⟨if_neg (by show ¬ (!decide ((Sum.inr v : Key) = Sum.inr x)) = true; rw [eb]; exact c), rfl⟩
  · have e1 : (abP par ws).filterMap (fun y => if (!decide (y.1 = Sum.inr x)) = true then some y else none) = abP par (ws.erase x) := by
      rw [← erase_filter nd x]
      unfold abP dW
      clear q hl nd
      induction ws with
      | nil => rfl
      | cons a ws ih =>
        rw [List.map_cons, List.filterMap_cons, List.filter_cons, ih]
        by_cases h : a = x
        · subst h
          simp
        · have h2 : ¬ (Sum.inr a : Key) = Sum.inr x := fun z => h (Sum.inr.inj z)
          simp [h, h2]
    rw [e1, putAll_nd (dW_keys (nd.erase x))]
    refine ⟨_, _, rfl, rfl, ?_⟩
    walk_at "go"
    exact q
theorem logN {n k : Nat} (h0 : 0 < k) (h : n < 2 ^ k) : ((n : Nat) : Int).natAbs.log2 < k := PySem.Flt.log2_lt_of h0 (by rw [Int.natAbs_natCast]; exact h)
theorem prd_sub {f : Str → Nat} (hf : ∀ v, 1 ≤ f v) : ∀ (A T : List Str), A.Nodup → (∀ a ∈ A, a ∈ T) → prd (A.map f) ≤ prd (T.map f)
  | [], T, _, _ => prd_pos fun a ha => by obtain ⟨v, _, rfl⟩ := List.mem_map.mp ha; exact hf v
  | a :: A, T, nd, sub => by
    have na := List.nodup_cons.mp nd
    have p := List.perm_cons_erase (sub a (by simp))
    rw [prd_perm (p.map f), List.map_cons, List.map_cons, prd_cons, prd_cons]
    exact Nat.mul_le_mul_left _ (prd_sub hf A (T.erase a) na.2 fun b hb => (List.mem_erase_of_ne (by rintro rfl; exact na.1 hb)).mpr (sub b (by simp [hb])))
theorem prd_mono {f g : Str → Nat} (h : ∀ v, g v ≤ f v) : ∀ A : List Str, prd (A.map g) ≤ prd (A.map f)
  | [] => Nat.le_refl _
  | a :: A => by rw [List.map_cons, List.map_cons, prd_cons, prd_cons]; exact Nat.mul_le_mul (h a) (prd_mono h A)
theorem up_two {par : Str → Option Str} {ws : List Str} {x v : Str} (hx : x ∈ ws) (hv : v ∈ upsP par ws x) : 2 ≤ hkP par ws v := by
  unfold hkP
  have : 0 < (ws.filter fun y => decide (v ∈ upsP par ws y)).length := List.length_pos_of_mem (a := x) (List.mem_filter.mpr ⟨hx, by simpa using hv⟩)
  omega
def rowF (par : Str → Option Str) (ws : List Str) (x : Str) : PyData := .tuple [.str x, .int ((nLay par (ws.erase x) : Nat) : Int)]
def firsts (par : Str → Option Str) (ws : List Str) : List Str := (srt ws).filter fun x => decide (Leaf par ws x)
def sp__counts_by_first : SpV := fun us c Q => ∃ (par : Str → Option Str) (ws : List Str), us = [.dm (abP par ws)] ∧ c = [] ∧ ws.length ≤ 120 ∧ Fo par ws ∧ Q (.o ((firsts par ws).map (rowF par ws))) []
theorem ok__counts_by_first (n : Nm mg) (c__count_of_sizes : GF P w K mg base 1 "_count_of_sizes" (lift K w sp__count_of_sizes)) (c__sizes : GF P w K mg base 2 "_sizes" (lift K w sp__sizes)) (c__words_above : GF P w K mg base 1 "_words_above" (lift K w sp__words_above)) {f : Addr} {fd : FuncData} (F : Fun K "_counts_by_first" "_counts_by_first" s__counts_by_first f fd) :
    FnOk P w K mg base CX0 3 f fd ["above"] (lift K w sp__counts_by_first) := by
  have n_len := n.len_
  have n_sorted := n.sorted_
  refine FnOk.v F sc__counts_by_first (fun us c Q h => ?_) (fun cdv A outer s H E us c Q hr h => ?_)
  · obtain ⟨par, ws, rfl, _⟩ := h; rfl
  obtain ⟨par, ws, rfl, rfl, hl, Fp, q⟩ := h
  refine ⟨_, (pss_cons (ps_set (i := 1) sc__counts_by_first.nd rfl (.inl rfl) (pe_fc c__sizes hr (by decide) (by rfl) (pa_cons (pv 0) pa_nil)))
      (pss_cons (ps_set (i := 2) sc__counts_by_first.nd rfl (.inl rfl) (pe_fc c__count_of_sizes hr (by decide) (by rfl) (pa_cons (pv 1) pa_nil)))
      (pss_cons (PS.as_c (ps_set (i := 3) sc__counts_by_first.nd rfl (.inl rfl) (pe_lst pa_nil)))
      (pss_cons (ps_for PassesOwn.never rfl (kpi_u (K := K) rfl (pe_callB (kcu_sort (K := K) (w := w) rfl rfl rfl) (by rfl) n_sorted (by decide +kernel) (pa_cons (pv 0) pa_nil))) (pg_name (i := 4) sc__counts_by_first.nd rfl (.inl rfl))
      (pss_one (ps_if (pt_cmpR (kou_eq (K := K) rfl hr.units) (PE.as_dgm (pe_dget (hdict hr) (pv 1) (pv 4) (fun _ _ => rfl))) pe_int (nomark _))
      (pss_cons (PS.as_p false false (ps_par (i := 5) (j := 6) rfl sc__counts_by_first.nd rfl rfl (by decide) rfl rfl (pa_cons pe_int (pa_cons (pe_callB cu_lenF (by rfl) n_len (by decide +kernel) (pa_cons (pv 0) pa_nil)) pa_nil)) (by rfl)))
        (pss_cons (ps_for PassesOwn.never rfl (kpi_u (K := K) rfl (pe_fc c__words_above hr (by decide) (by rfl) (pa_cons (pv 0) (pa_cons (pv 4) pa_nil)))) (pg_name (i := 7) sc__counts_by_first.nd rfl (.inl rfl))
      (pss_cons (ps_set (i := 5) sc__counts_by_first.nd rfl (.inl rfl) (pe_op ou_mul (pv 5) (PE.as_dgm (pe_dget (hdict hr) (pv 1) (pv 7) (fun _ _ => rfl)))))
        (pss_one (ps_set (i := 6) sc__counts_by_first.nd rfl (.inl rfl) (pe_op ou_mul (pv 6) (pe_op ou_sub (PE.as_dgm (pe_dget (hdict hr) (pv 1) (pv 7) (fun _ _ => rfl))) pe_int))))))
        (pss_one (ps_expr (kpe_bm (K := K) rfl PySem.F.plainAttrs_list PySem.F.slot_list_append PySem.F.type_list_append mt_append (pv 3) (pa_cons (pe_tup (pa_cons (pv 4) (pa_cons (pe_op ou_div (pe_op ou_mul (pv 2) (pv 5)) (pv 6)) pa_nil))) pa_nil))))))
      pss_nil)))
      (pss_one (ps_ret (pv 3))))))), ?_⟩
  have f7 : fac ws.length < 2 ^ 700 := Nat.lt_of_le_of_lt (fac_mono hl) fac_120
  have pw := prdP_le Fp
  have tl7 : nLay par ws ≤ fac ws.length := by
    rw [← fo_count Fp]
    exact Nat.le_mul_of_pos_right _ (prd_pos fun a ha => by obtain ⟨v, _, rfl⟩ := List.mem_map.mp ha; exact hkP_pos _ _ v)
  walk_at "go"
  refine ⟨par, ws, rfl, rfl, hl, Fp, ?_⟩
  walk_at "go"
  refine ⟨par, ws, rfl, rfl, hl, Fp, ?_⟩
  walk_at "go"
  refine s_dm (ks := ws) (by unfold abP dW; rw [List.map_map]; rfl) fun ys pm so => ?_
  have ey := srt_eq pm so
  subst ey
  refine vfor (it_l .o) (fun i e c => ∃ y4 y5 y6 y7, e = [some (.dm (abP par ws)), some (.dm (intD ws (hkP par ws))), some (.d (.int ((nLay par ws : Nat) : Int))), some (.c 0), y4, y5, y6, y7] ∧ c = [.l ((((srt ws).take i).filter fun x => decide (Leaf par ws x)).map (rowF par ws))]) ⟨_, _, _, _, rfl, rfl⟩ (fun _ _ _ _ => .o) ?_ ?_
  · rintro i d e' c' hi hd ⟨y4, y5, y6, y7, rfl, rfl⟩
    obtain ⟨x, ex, rfl⟩ := map_at hd
    have hx : x ∈ ws := pm.mem_iff.mp (List.mem_of_getElem? ex)
    have st : (srt ws).take (i + 1) = (srt ws).take i ++ [x] := by rw [List.take_add_one, ex]; rfl
    have rl : (((srt ws).take i).filter fun x => decide (Leaf par ws x)).length ≤ 120 := by
      refine Nat.le_trans (List.length_filter_le _ _) ?_
      rw [List.length_take, pm.length_eq]
      omega
    rw [st, List.filter_append, List.map_append]
    generalize ((srt ws).take i).filter (fun x => decide (Leaf par ws x)) = R at *
    walk_at "go"
    refine ⟨_, Sum.inr x, _, rfl, rfl, dW_val hx, ?_⟩
    walk_at "go"
    refine ite2 (fun c => ?_) (fun c => ?_)
    · have lf : Leaf par ws x := (leaf_iff Fp).mp (by have := of_decide_eq_true c; omega)
      rw [List.filter_cons, if_pos (by simpa using lf)]
      have U := upsP_ok Fp hx
      have fc := first_count Fp hx lf
      have two : ∀ v ∈ upsP par ws x, 2 ≤ hkP par ws v := fun v hv => up_two hx hv
      have b1 := prd_sub (f := hkP par ws) (fun v => hkP_pos par ws v) (upsP par ws x) ws U.nd U.mem
      have b2 := prd_mono (f := hkP par ws) (g := fun v => hkP par ws v - 1) (fun v => Nat.sub_le _ _) (upsP par ws x)
      have p1 : ∀ a ∈ (upsP par ws x).map (hkP par ws), 1 ≤ a := fun a ha => by obtain ⟨v, _, rfl⟩ := List.mem_map.mp ha; exact hkP_pos _ _ v
      have p2 : ∀ a ∈ (upsP par ws x).map (fun v => hkP par ws v - 1), 1 ≤ a := fun a ha => by obtain ⟨v, hv, rfl⟩ := List.mem_map.mp ha; have := two v hv; omega
      have hle : ∀ v ∈ ws, hkP par ws v ≤ fac ws.length := fun v hv => by
        have := prd_sub (f := hkP par ws) (fun v => hkP_pos par ws v) [v] ws (by simp) (by simpa using hv)
        rw [List.map_cons, prd_cons] at this
        have e : prd (([] : List Str).map (hkP par ws)) = 1 := rfl
        rw [e, Nat.mul_one] at this
        omega
      walk_at "go"
      refine ⟨par, ws, x, rfl, rfl, hl, Fp, hx, ?_⟩
      rw [dW_len]
      have w0 : ((ws.length * prd (((upsP par ws x).map fun v => hkP par ws v - 1).take 0) : Nat) : Int) = (ws.length : Int) := by
        rw [List.take_zero]
        show ((ws.length * 1 : Nat) : Int) = _
        rw [Nat.mul_one]
      walk_at "go"
      refine vfor (it_l .o) (fun j e c => ∃ y7, e = [some (.dm (abP par ws)), some (.dm (intD ws (hkP par ws))), some (.d (.int ((nLay par ws : Nat) : Int))), some (.c 0), some (.d (.str x)), some (.d (.int ((prd (((upsP par ws x).map (hkP par ws)).take j) : Nat) : Int))), some (.d (.int ((ws.length * prd (((upsP par ws x).map fun v => hkP par ws v - 1).take j) : Nat) : Int))), y7] ∧ c = [.l (R.map (rowF par ws))]) ⟨y7, by rw [w0]; rfl, rfl⟩ (fun _ _ _ _ => .o) ?_ ?_
      · rintro j d e' c' hj hd ⟨y7, rfl, rfl⟩
        obtain ⟨y, ey, rfl⟩ := map_at hd
        have hyA := List.mem_of_getElem? ey
        have hy := U.mem y hyA
        have t2 := two y hyA
        have t3 := hle y hy
        have m1 := prd_take p1 j
        have m2 := prd_take p2 j
        have s1 : ((upsP par ws x).map (hkP par ws)).take (j + 1) = ((upsP par ws x).map (hkP par ws)).take j ++ [hkP par ws y] := by rw [List.take_add_one, List.getElem?_map, ey]; rfl
        have s2 : ((upsP par ws x).map fun v => hkP par ws v - 1).take (j + 1) = ((upsP par ws x).map fun v => hkP par ws v - 1).take j ++ [hkP par ws y - 1] := by rw [List.take_add_one, List.getElem?_map, ey]; rfl
        have e1 : prd (((upsP par ws x).map (hkP par ws)).take (j + 1)) = prd (((upsP par ws x).map (hkP par ws)).take j) * hkP par ws y := by rw [s1, prd_app]; show _ * (_ * 1) = _; rw [Nat.mul_one]
        have e2 : ws.length * prd (((upsP par ws x).map fun v => hkP par ws v - 1).take (j + 1)) = ws.length * prd (((upsP par ws x).map fun v => hkP par ws v - 1).take j) * (hkP par ws y - 1) := by rw [s2, prd_app]; show _ * (_ * (_ * 1)) = _; rw [Nat.mul_one, Nat.mul_assoc]
        rw [e1, e2]
        have z2 : ws.length * prd (((upsP par ws x).map fun v => hkP par ws v - 1).take j) < 2 ^ 710 := by
          have : ws.length * prd (((upsP par ws x).map fun v => hkP par ws v - 1).take j) ≤ 120 * 2 ^ 700 := Nat.mul_le_mul hl (by omega)
          exact Nat.lt_of_le_of_lt this (by decide +kernel)
        generalize ws.length * prd (((upsP par ws x).map fun v => hkP par ws v - 1).take j) = Z at *
        generalize prd (((upsP par ws x).map (hkP par ws)).take j) = M at *
        walk_at "go"
        refine ⟨_, Sum.inr y, _, rfl, rfl, dW_val hy, ?_⟩
        refine w_mulI (.inr ?_) ?_
        · have a1 := logN (n := M) (k := 700) (by decide) (by omega)
          have a2 := logN (n := hkP par ws y) (k := 700) (by decide) (by omega)
          unfold CMulW
          omega
        rw [← Int.natCast_mul]
        walk_at "go"
        refine ⟨_, Sum.inr y, _, rfl, rfl, dW_val hy, ?_⟩
        walk_at "go"
        rw [show ((hkP par ws y : Nat) : Int) - 1 = ((hkP par ws y - 1 : Nat) : Int) by omega]
        refine w_mulI (.inr ?_) ?_
        · have a1 := logN (n := Z) (k := 710) (by decide) z2
          have a2 := logN (n := hkP par ws y - 1) (k := 700) (by decide) (by omega)
          unfold CMulW
          omega
        rw [← Int.natCast_mul]
        walk_at "go"
        exact ⟨_, rfl, rfl⟩
      · rintro e' c' ⟨y7, rfl, rfl⟩
        rw [List.take_of_length_le (by rw [List.length_map, List.length_map]; exact Nat.le_refl _), List.take_of_length_le (by rw [List.length_map, List.length_map]; exact Nat.le_refl _)]
        have lp : 0 < ws.length * prd ((upsP par ws x).map fun v => hkP par ws v - 1) := Nat.mul_pos (List.length_pos_of_mem hx) (prd_pos p2)
        have lz : ws.length * prd ((upsP par ws x).map fun v => hkP par ws v - 1) < 2 ^ 710 := by
          have : ws.length * prd ((upsP par ws x).map fun v => hkP par ws v - 1) ≤ 120 * 2 ^ 700 := Nat.mul_le_mul hl (by omega)
          exact Nat.lt_of_le_of_lt this (by decide +kernel)
        generalize ws.length * prd ((upsP par ws x).map fun v => hkP par ws v - 1) = Z at *
        walk_at "go"
        refine w_mulI (.inr ?_) ?_
        · have a1 := logN (n := nLay par ws) (k := 700) (by decide) (by omega)
          have a2 := logN (n := prd ((upsP par ws x).map (hkP par ws))) (k := 700) (by decide) (by omega)
          unfold CMulW
          omega
        rw [← Int.natCast_mul, ← fc]
        walk_at "go"
        refine w_div (by omega) (by have := logN (n := Z) (k := 710) (by decide) lz; omega) ?_
        rw [← Int.natCast_ediv, Nat.mul_div_cancel _ lp]
        walk_at "go"
        refine w_app rfl rfl (by rw [sizeLine_eq, List.length_map]; omega) ?_
        walk_at "go"
        exact ⟨_, _, _, _, rfl, rfl⟩
    · have lf : ¬ Leaf par ws x := fun lf => c (by rw [(leaf_iff Fp).mpr lf]; rfl)
      rw [List.filter_cons, if_neg (by simpa using lf)]
      walk_at "go"
      refine ⟨_, _, _, _, rfl, ?_⟩
      simp
  · rintro e' c' ⟨y4, y5, y6, y7, rfl, rfl⟩
    rw [List.length_map, List.take_length]
    walk_at "go"
    exact q
theorem vfu_nx {wf : (It → Hp → Prop) → V → Hp → Prop} {u : W} {e : Ev} {c : Cs} {g : TG} {ts : TS} {D : DV} (N : Ev → Cs → Prop) (h : VFU K w wf u e c g ts { D with nx := N }) (hN : ∀ e c, N e c → D.nx e c) : VFU K w wf u e c g ts D :=
  fun B G ρ σ H v Dh X S s L => h B G ρ σ H v Dh X S s ⟨fun e4 c4 σ4 G4 ρ4 H4 E4 X4 S4 q4 => L.nx _ _ _ _ _ _ E4 X4 S4 (hN _ _ q4), L.rt, L.bk, L.ct, L.xx⟩
theorem srt_erase (S : List Str) (x : Str) : (srt S).erase x = srt (S.erase x) :=
  srt_uniq ((srt_perm S).erase x) ((srt_pw S).sublist List.erase_sublist)
theorem fo_srt {par : Str → Option Str} {S : List Str} (F : Fo par S) : Fo par (srt S) := by
  have p := srt_perm S
  obtain ⟨o, po, L⟩ := F.ex
  exact ⟨p.nodup_iff.mpr F.nd, fun x hx z hz => p.mem_iff.mpr (F.cl x (p.mem_iff.mp hx) z hz), ⟨o, po.trans p.symm, L⟩, fun x hx => F.ir x (p.mem_iff.mp hx)⟩
theorem nLay_srt {par : Str → Option Str} {S : List Str} (F : Fo par S) : nLay par (srt S) = nLay par S := by
  have p := srt_perm S
  unfold nLay
  exact ((nodup_same (nd_orders (p.nodup_iff.mpr F.nd)) (nd_orders F.nd) fun r => by rw [mem_orders, mem_orders]; exact ⟨fun h => h.trans p, fun h => h.trans p.symm⟩).filter _).length_eq
/-- all of them, ascending -/
def asc (par : Str → Option Str) (S : List Str) : List (List Str) := linesP par S.length (srt S)
theorem asc_len {par : Str → Option Str} {S : List Str} (F : Fo par S) : (asc par S).length = nLay par S := by
  have h := linesP_len (fo_srt F)
  rw [(srt_perm S).length_eq] at h
  unfold asc
  rw [h, nLay_srt F]
theorem leaf_srt {par : Str → Option Str} {S : List Str} {x : Str} : Leaf par (srt S) x ↔ Leaf par S x :=
  ⟨fun h y hy => h y ((srt_perm S).mem_iff.mpr hy), fun h y hy => h y ((srt_perm S).mem_iff.mp hy)⟩
theorem asc_cons {par : Str → Option Str} {S : List Str} (ne : S ≠ []) : asc par S = (firsts par S).flatMap fun x => (asc par (S.erase x)).map (x :: ·) := by
  have hl : 0 < S.length := List.length_pos_iff.mpr ne
  unfold asc
  rw [show S.length = (S.length - 1) + 1 by omega]
  show (leaves par (srt S)).flatMap _ = _
  have e : leaves par (srt S) = firsts par S := by
    unfold leaves firsts
    exact List.filter_congr fun x _ => decide_eq_decide.mpr leaf_srt
  rw [e]
  have key : ∀ T : List Str, (∀ x ∈ T, x ∈ S) → (T.flatMap fun x => (linesP par (S.length - 1) ((srt S).erase x)).map (x :: ·)) = T.flatMap fun x => (linesP par (S.erase x).length (srt (S.erase x))).map (x :: ·) := by
    intro T
    induction T with
    | nil => intro _; rfl
    | cons a T ih =>
      intro h
      rw [List.flatMap_cons, List.flatMap_cons, ih fun x hx => h x (by simp [hx]), srt_erase, List.length_erase_of_mem (h a (by simp))]
  exact key _ fun x hx => (srt_perm S).mem_iff.mp (List.mem_filter.mp hx).1
theorem firsts_mem {par : Str → Option Str} {S : List Str} {x : Str} (h : x ∈ firsts par S) : x ∈ S ∧ Leaf par S x := by
  obtain ⟨h1, h2⟩ := List.mem_filter.mp h
  exact ⟨(srt_perm S).mem_iff.mp h1, of_decide_eq_true h2⟩
def sp_nth_placement : SpV := fun us c Q => ∃ (par : Str → Option Str) (ws : List Str) (i : Nat) (r : List Str), us = [.dm (abP par ws), .d (.int (i : Int))] ∧ c = [] ∧ ws.length ≤ 120 ∧ Fo par ws ∧ (asc par ws)[i]? = some r ∧ Q (.o (r.map .str)) []
theorem ok_nth_placement (n : Nm mg) (c__counts_by_first : GF P w K mg base 3 "_counts_by_first" (lift K w sp__counts_by_first)) (c__without : GF P w K mg base 1 "_without" (lift K w sp__without)) {f : Addr} {fd : FuncData} (F : Fun K "nth_placement" "nth_placement" s_nth_placement f fd) :
    FnOk P w K mg base CX0 4 f fd ["above", "index"] (lift K w sp_nth_placement) := by
  have n_len := n.len_
  refine FnOk.v F sc_nth_placement (fun us c Q h => ?_) (fun cdv A outer s H E us c Q hr h => ?_)
  · obtain ⟨par, ws, i, r, rfl, _⟩ := h; rfl
  obtain ⟨par, ws, i, r, rfl, rfl, hl, Fp, har, q⟩ := h
  refine ⟨_, (pss_cons (PS.as_c (ps_set (i := 2) sc_nth_placement.nd rfl (.inl rfl) (pe_lst pa_nil)))
      (pss_cons (ps_set (i := 3) sc_nth_placement.nd rfl (.inl rfl) (pv 0))
      (pss_cons (ps_while PassesOwn.never (pt_cmpR ou_gt (pe_callB cu_lenF (by rfl) n_len (by decide +kernel) (pa_cons (pv 3) pa_nil)) pe_int (nomark _))
      (pss_cons (ps_for PassesOwn.never rfl (kpi_u (K := K) rfl (pe_fc c__counts_by_first hr (by decide) (by rfl) (pa_cons (pv 3) pa_nil))) (kpg_tup (K := K) (n := 2) rfl rfl (pgs_cons (pg_name (i := 4) sc_nth_placement.nd rfl (.inl rfl)) (pgs_cons (pg_name (i := 5) sc_nth_placement.nd rfl (.inl rfl)) pgs_nil)))
      (pss_cons (ps_if (pt_cmpR ou_lt (pv 1) (pv 5) (nomark _))
      (pss_one ps_break)
      pss_nil)
        (pss_one (ps_aug (i := 1) sc_nth_placement.nd rfl (.inl rfl) (pv 5) ip_sub))))
        (pss_cons (ps_expr (kpe_bm (K := K) rfl PySem.F.plainAttrs_list PySem.F.slot_list_append PySem.F.type_list_append mt_append (pv 2) (pa_cons (pv 4) pa_nil)))
        (pss_one (ps_set (i := 3) sc_nth_placement.nd rfl (.inl rfl) (pe_fc c__without hr (by decide) (by rfl) (pa_cons (pv 3) (pa_cons (pv 4) pa_nil))))))))
      (pss_one (ps_ret (pv 2)))))), ?_⟩
  walk_at "go"
  refine v_while (fun m e c => ∃ (S done t : List Str) (i : Nat) (y4 y5 : Option W), m = S.length ∧ e = [some (.dm (abP par ws)), some (.d (.int (i : Int))), some (.c 0), some (.dm (abP par S)), y4, y5] ∧ c = [.l (done.map .str)] ∧ Fo par S ∧ done.length + S.length ≤ 120 ∧ (asc par S)[i]? = some t ∧ done ++ t = r) ⟨_, ws, [], r, i, _, _, rfl, rfl, rfl, Fp, by simpa using hl, har, rfl⟩ ?_
  rintro m e' c' ⟨S, done, t, i, y4, y5, rfl, rfl, rfl, F2, sl, ht, ed⟩
  walk_at "go"
  rw [dW_len]
  refine ite2 (fun c => ?_) (fun c => ?_)
  · have ne : S ≠ [] := by rintro rfl; simp at c
    walk_at "go"
    refine ⟨par, S, rfl, rfl, by omega, F2, ?_⟩
    walk_at "go"
    rw [asc_cons ne] at ht
    refine vfu_nx (fun e c => ∃ (x : Str) (i : Nat) (t2 : List Str) (y5 : Option W), x ∈ firsts par S ∧ e = [some (.dm (abP par ws)), some (.d (.int (i : Int))), some (.c 0), some (.dm (abP par S)), some (.d (.str x)), y5] ∧ c = [.l (done.map .str)] ∧ (asc par (S.erase x))[i]? = some t2 ∧ done ++ x :: t2 = r) (vfor (it_l .o) (fun k e c => ∃ (i : Nat) (y4 y5 : Option W), e = [some (.dm (abP par ws)), some (.d (.int (i : Int))), some (.c 0), some (.dm (abP par S)), y4, y5] ∧ c = [.l (done.map .str)] ∧ (((firsts par S).drop k).flatMap fun x => (asc par (S.erase x)).map (x :: ·))[i]? = some t) ⟨i, _, _, rfl, rfl, ht⟩ (fun _ _ _ _ => .o) ?_ ?_) ?_
    · rintro k d e' c' hk hd ⟨i, y4, y5, rfl, rfl, ht⟩
      obtain ⟨x, ex, rfl⟩ := map_at hd
      have hxf := List.mem_of_getElem? ex
      obtain ⟨hx, lf⟩ := firsts_mem hxf
      have hd1 : (firsts par S).drop k = x :: (firsts par S).drop (k + 1) := by
        rw [List.drop_eq_getElem?_toList_append, ex]
        rfl
      rw [hd1, List.flatMap_cons] at ht
      have al := asc_len (fo_erase F2 lf)
      unfold rowF
      walk_at "go"
      refine ite2 (fun c => ?_) (fun c => ?_)
      · have c2 := of_decide_eq_true c
        rw [List.getElem?_append_left (by rw [List.length_map, al]; omega), List.getElem?_map] at ht
        obtain ⟨t2, h1, h2⟩ := Option.map_eq_some_iff.mp ht
        walk_at "go"
        exact ⟨x, i, t2, _, hxf, rfl, rfl, h1, by rw [← ed, ← h2]⟩
      · have c2 := of_decide_eq_false (Bool.eq_false_iff.mpr c)
        rw [List.getElem?_append_right (by rw [List.length_map, al]; omega), List.length_map, al] at ht
        walk_at "go"
        rw [show (i : Int) - ((nLay par (S.erase x) : Nat) : Int) = ((i - nLay par (S.erase x) : Nat) : Int) by omega]
        exact ⟨_, _, _, rfl, rfl, ht⟩
    · rintro e' c' ⟨i, y4, y5, rfl, rfl, ht⟩
      rw [List.length_map, List.drop_length] at ht
      simp at ht
    · rintro e' c' ⟨x, i, t2, y5, hxf, rfl, rfl, ht2, ed2⟩
      obtain ⟨hx, lf⟩ := firsts_mem hxf
      have el : (S.erase x).length = S.length - 1 := List.length_erase_of_mem hx
      have hS := List.length_pos_of_mem hx
      walk_at "go"
      refine w_app rfl rfl (by rw [sizeLine_eq, List.length_map]; omega) ?_
      walk_at "go"
      refine ⟨par, S, x, rfl, rfl, by omega, F2.nd, ?_⟩
      walk_at "go"
      refine ⟨(S.erase x).length, by omega, S.erase x, done ++ [x], t2, i, _, _, rfl, rfl, ?_, fo_erase F2 lf, by rw [List.length_append]; show _ + 1 + _ ≤ _; omega, ht2, by rw [← ed2]; simp⟩
      show [Cell.l _] = _
      rw [List.map_append]
      rfl
  · have e0 : S = [] := by
      have := of_decide_eq_false (Bool.eq_false_iff.mpr c)
      exact List.eq_nil_of_length_eq_zero (by omega)
    subst e0
    have et : t = [] := by
      have : (asc par [])[i]? = some t := ht
      have e1 : asc par [] = [[]] := rfl
      rw [e1] at this
      cases i with
      | zero => simpa using this.symm
      | succ i => simp at this
    rw [et, List.append_nil] at ed
    walk_at "go"
    rw [ed]
    exact q
def rk (par : Str → Option Str) : List Str → List Str → Nat
  | _, [] => 0
  | S, x :: t => ((((firsts par S).filter fun z => decide (tl z < tl x)).map fun z => nLay par (S.erase z)).sum) + rk par (S.erase x) t
theorem firsts_asc {par : Str → Option Str} {S : List Str} (nd : S.Nodup) : (firsts par S).Pairwise fun a b => tl a < tl b := by
  have h1 : (firsts par S).Pairwise fun a b => ¬ (tl b < tl a) := (srt_pw S).sublist List.filter_sublist
  have h2 : (firsts par S).Nodup := ((srt_perm S).nodup_iff.mpr nd).sublist List.filter_sublist
  refine (h1.and h2).imp fun {a b} h => ?_
  by_cases l : tl a < tl b
  · exact l
  · exact absurd (TL.ext_tl (List.le_antisymm (List.not_lt.mp h.1) (List.not_lt.mp l))) h.2
theorem castSum {α : Type} (f : α → Nat) (l : List α) : (l.map fun z => ((f z : Nat) : Int)).sum = (((l.map f).sum : Nat) : Int) := by
  induction l with
  | nil => rfl
  | cons a l ih => rw [List.map_cons, List.sum_cons, List.map_cons, List.sum_cons, ih, Int.natCast_add]
theorem rk_at {par : Str → Option Str} : ∀ (r S : List Str), Fo par S → r.Perm S → Lay par r → (asc par S)[rk par S r]? = some r
  | [], S, F, p, _ => by
    have e : S = [] := p.symm.eq_nil
    subst e
    rfl
  | x :: t, S, F, p, L => by
    obtain ⟨hx, pt⟩ := List.cons_perm_iff_perm_erase.mp p
    obtain ⟨l1, l2⟩ := lay_cons.mp L
    have lf : Leaf par S x := fun y hy e => by
      by_cases h : y = x
      · subst h; exact F.ir y hy e
      · exact l1 y (pt.mem_iff.mpr ((List.mem_erase_of_ne h).mpr hy)) e
    have hxf : x ∈ firsts par S := List.mem_filter.mpr ⟨(srt_perm S).mem_iff.mpr hx, by simpa using lf⟩
    obtain ⟨A, B, e⟩ := List.append_of_mem hxf
    have as := firsts_asc (par := par) F.nd
    have hA : ∀ z ∈ A, tl z < tl x := fun z hz => by
      rw [e, List.pairwise_append] at as
      exact as.2.2 z hz x (by simp)
    have hB : ∀ z ∈ B, ¬ tl z < tl x := fun z hz l => by
      rw [e, List.pairwise_append] at as
      have := (List.pairwise_cons.mp as.2.1).1 z hz
      exact List.lt_irrefl _ (List.lt_trans l this)
    have ef : (firsts par S).filter (fun z => decide (tl z < tl x)) = A := by
      rw [e, List.filter_append, List.filter_cons, if_neg (by simpa using List.lt_irrefl (tl x)), List.filter_eq_self.mpr fun z hz => by simpa using hA z hz, List.filter_eq_nil_iff.mpr fun z hz => by simpa using hB z hz, List.append_nil]
    have ih := rk_at t (S.erase x) (fo_erase F lf) pt l2
    have ne : S ≠ [] := List.ne_nil_of_mem hx
    rw [asc_cons ne, rk, ef, e, List.flatMap_append, List.flatMap_cons]
    have lA : (A.flatMap fun x => (asc par (S.erase x)).map (x :: ·)).length = (A.map fun z => nLay par (S.erase z)).sum := by
      have key : ∀ T : List Str, (∀ z ∈ T, z ∈ firsts par S) → (T.flatMap fun x => (asc par (S.erase x)).map (x :: ·)).length = (T.map fun z => nLay par (S.erase z)).sum := by
        intro T
        induction T with
        | nil => intro _; rfl
        | cons a T ih =>
          intro h
          obtain ⟨_, la⟩ := firsts_mem (h a (by simp))
          rw [List.flatMap_cons, List.length_append, List.length_map, asc_len (fo_erase F la), ih fun z hz => h z (by simp [hz]), List.map_cons, List.sum_cons]
      exact key A fun z hz => by rw [e]; simp [hz]
    have bi := (List.getElem?_eq_some_iff.mp ih).1
    rw [List.getElem?_append_right (by rw [lA]; omega), lA, Nat.add_sub_cancel_left, List.getElem?_append_left (by rw [List.length_map]; exact bi), List.getElem?_map, ih]
    rfl
def sp_placement_rank : SpV := fun us c Q => ∃ (par : Str → Option Str) (ws r : List Str), us = [.dm (abP par ws), .b (r.map .str)] ∧ c = [] ∧ ws.length ≤ 120 ∧ Fo par ws ∧ r.Perm ws ∧ Lay par r ∧ Q (.d (.int ((rk par ws r : Nat) : Int))) []
theorem ok_placement_rank (n : Nm mg) (c__counts_by_first : GF P w K mg base 3 "_counts_by_first" (lift K w sp__counts_by_first)) (c__without : GF P w K mg base 1 "_without" (lift K w sp__without)) {f : Addr} {fd : FuncData} (F : Fun K "placement_rank" "placement_rank" s_placement_rank f fd) :
    FnOk P w K mg base CX0 4 f fd ["above", "placed"] (lift K w sp_placement_rank) := by
  have n_sum := n.sum_
  refine FnOk.v F sc_placement_rank (fun us c Q h => ?_) (fun cdv A outer s H E us c Q hr h => ?_)
  · obtain ⟨par, ws, r, rfl, _⟩ := h; rfl
  obtain ⟨par, ws, r, rfl, rfl, hl, Fp, pr, lr, q⟩ := h
  refine ⟨_, (pss_cons (ps_set (i := 2) sc_placement_rank.nd rfl (.inl rfl) pe_int)
      (pss_cons (ps_set (i := 3) sc_placement_rank.nd rfl (.inl rfl) (pv 0))
      (pss_cons (ps_for PassesOwn.never rfl (kpi_u (K := K) rfl (pv 1)) (pg_name (i := 4) sc_placement_rank.nd rfl (.inr rfl))
      (pss_cons (ps_aug (i := 2) sc_placement_rank.nd rfl (.inl rfl) (pe_callB (kcr_sum (K := K) rfl rfl) (by rfl) n_sum (by decide +kernel) (pa_cons (pe_lc (own := [("other", 5), ("many", 6)]) rfl sc_placement_rank.nd (kpi_u (K := K) rfl (pe_fc c__counts_by_first hr (by decide) (by rfl) (pa_cons (pv 3) pa_nil))) (blkOk_by (own := [("other", 5), ("many", 6)]) (N := N_placement_rank) (sc := defScope s_placement_rank) (by decide +kernel)) (fun _ _ _ _ _ => (kpg_tup (K := K) (n := 2) rfl rfl (pgs_cons (pg_name (i := 5) sc_placement_rank.nd rfl (.inl rfl)) (pgs_cons (pg_name (i := 6) sc_placement_rank.nd rfl (.inl rfl)) pgs_nil)))) (fun _ _ _ _ _ => (pts_one (pt_cmpR ou_lt (pv 5) (pv 4) (nomark _)))) (fun _ _ _ _ _ => (pv 6))) pa_nil)) ip_add)
        (pss_one (ps_set (i := 3) sc_placement_rank.nd rfl (.inl rfl) (pe_fc c__without hr (by decide) (by rfl) (pa_cons (pv 3) (pa_cons (pv 4) pa_nil)))))))
      (pss_one (ps_ret (pv 2)))))), ?_⟩
  walk_at "go"
  refine vfor (it_l .b) (fun k e c => ∃ (S : List Str) (m : Nat) (y4 y5 y6 : Option W), e = [some (.dm (abP par ws)), some (.b (r.map .str)), some (.d (.int (m : Int))), some (.dm (abP par S)), y4, y5, y6] ∧ c = [] ∧ Fo par S ∧ S.length ≤ 120 ∧ (r.drop k).Perm S ∧ Lay par (r.drop k) ∧ m + rk par S (r.drop k) = rk par ws r) ⟨ws, 0, _, _, _, rfl, rfl, Fp, hl, pr, lr, by simp⟩ (fun _ _ _ _ => .b) ?_ ?_
  · rintro k d e' c' hk hd ⟨S, m, y4, y5, y6, rfl, rfl, F2, sl, p2, L2, em⟩
    obtain ⟨x, ex, rfl⟩ := map_at hd
    have hd1 : r.drop k = x :: r.drop (k + 1) := by
      rw [List.drop_eq_getElem?_toList_append, ex]
      rfl
    rw [hd1] at p2 L2 em
    obtain ⟨hx, pt⟩ := List.cons_perm_iff_perm_erase.mp p2
    obtain ⟨l1, l2⟩ := lay_cons.mp L2
    have lf : Leaf par S x := fun y hy e => by
      by_cases h : y = x
      · subst h; exact F2.ir y hy e
      · exact l1 y (pt.mem_iff.mpr ((List.mem_erase_of_ne h).mpr hy)) e
    have fl : (firsts par S).length ≤ 120 := Nat.le_trans (List.length_filter_le _ _) (by rw [(srt_perm S).length_eq]; exact sl)
    walk_at "go"
    refine ⟨par, S, rfl, rfl, sl, F2, ?_⟩
    walk_at "go"
    refine vco_lP (fun z => decide (tl z < tl x)) (fun z => .int ((nLay par (S.erase z) : Nat) : Int)) .o (on_tup (on_cons (by decide) (on_cons (by decide) on_nil))) (by rw [sizeLine_eq]; omega) (fun z hz => ?_) ?_
    · unfold rowF
      walk_at "go"
      refine ite2 (fun c => ?_) (fun c => ?_)
      · walk_at "go"
        exact ⟨if_pos c, rfl⟩
      · exact ⟨if_neg c, rfl⟩
    walk_at "go"
    refine ⟨par, S, x, rfl, rfl, sl, F2.nd, ?_⟩
    rw [castSum (fun z => nLay par (S.erase z)), ← Int.natCast_add]
    walk_at "go"
    refine ⟨S.erase x, _, _, _, _, rfl, rfl, fo_erase F2 lf, Nat.le_trans (List.length_erase_le ..) sl, pt, l2, ?_⟩
    rw [← em, rk, Nat.add_assoc]
  · rintro e' c' ⟨S, m, y4, y5, y6, rfl, rfl, F2, sl, p2, L2, em⟩
    rw [List.length_map, List.drop_length] at em
    have e0 : rk par S [] = 0 := by cases S <;> rfl
    rw [e0, Nat.add_zero] at em
    walk_at "go"
    rw [em]
    exact q
end
end My
open PySem PySem.Spec PyProof.Rows L2 Gd
namespace My
section
variable {P : Program} {w : World} {K : PySem.W.Frag} {mg : Str → Option Value} {base : Heap}
theorem need_len (gg : Gb g) (hl : g.length ≤ 120) (b : List Str) : (needN b g).length ≤ 120 := Nat.le_trans (nd_le (need_nd b g) fun _ h => need_sub h) hl
theorem need_str {b g : List Str} (gg : Gb g) : ∀ w ∈ needN b g, PyData.strOk w = true := fun w h => strOk_w (gg.ok w (need_sub h))
/-- two books of the same words -/
structure Two (b g : List Str) : Prop where
  gb : Gb b
  gg : Gb g
  pm : b.Perm g
  len : g.length ≤ 120
theorem Two.lb {b g : List Str} (T : Two b g) : b.length ≤ 120 := by rw [T.pm.length_eq]; exact T.len
def sp__check_books : SpV := fun us c Q => ∃ b g : List Str, us = [.b (b.map .str), .b (g.map .str)] ∧ c = [] ∧ Two b g ∧ Q (.d .none) []
theorem ok__check_books (n : Nm mg) (c_check_book : GF P w K mg base 6 "check_book" (lift K w sp_check_book)) (c_check_same_words : GF P w K mg base 1 "check_same_words" (lift K w sp_check_same_words)) {f : Addr} {fd : FuncData} (F : Fun K "_check_books" "_check_books" s__check_books f fd) :
    FnOk P w K mg base CX0 7 f fd ["book", "goal"] (lift K w sp__check_books) := by
  refine FnOk.v F sc__check_books (fun us c Q h => ?_) (fun cdv A outer s H E us c Q hr h => ?_)
  · obtain ⟨b, g, rfl, _⟩ := h; rfl
  obtain ⟨b, g, rfl, rfl, T, q⟩ := h
  refine ⟨_, (pss_cons (ps_expr (pe_fc c_check_book hr (by decide) (by rfl) (pa_cons (pv 0) pa_nil)))
      (pss_cons (ps_expr (pe_fc c_check_book hr (by decide) (by rfl) (pa_cons (pv 1) pa_nil)))
      (pss_one (ps_expr (pe_fc c_check_same_words hr (by decide) (by rfl) (pa_cons (pv 0) (pa_cons (pv 1) pa_nil))))))), ?_⟩
  have h1 := T.lb
  have h2 := T.len
  walk_at "go"
  refine ⟨b, rfl, rfl, by omega, T.gb, ?_⟩
  walk_at "go"
  refine ⟨g, rfl, rfl, by omega, T.gg, ?_⟩
  walk_at "go"
  refine ⟨b, g, rfl, rfl, by omega, by omega, T.gb, T.gg, T.pm, ?_⟩
  walk_at "go"
  exact q
def sp__needed_words : SpV := fun us c Q => ∃ b g : List Str, us = [.b (b.map .str), .b (g.map .str)] ∧ c = [] ∧ Two b g ∧ Q (.o ((needN b g).map .str)) []
theorem ok__needed_words (n : Nm mg) (c_find_state : GF P w K mg base 2 "find_state" (lift K w sp_find_state)) (c_last_with : GF P w K mg base 1 "last_with" (lift K w sp_last_with)) {f : Addr} {fd : FuncData} (F : Fun K "_needed_words" "_needed_words" s__needed_words f fd) :
    FnOk P w K mg base CX0 3 f fd ["book", "goal"] (lift K w sp__needed_words) := by
  have n_len := n.len_
  have n_range := n.range_
  have n_sorted := n.sorted_
  have n_zip := n.zip_
  refine FnOk.v F sc__needed_words (fun us c Q h => ?_) (fun cdv A outer s H E us c Q hr h => ?_)
  · obtain ⟨b, g, rfl, _⟩ := h; rfl
  obtain ⟨b, g, rfl, rfl, T, q⟩ := h
  refine ⟨_, (pss_cons (ps_setLc (i := 2) (own := [("text", 3), ("letter", 4), ("_", 5), ("wanted", 6)]) rfl sc__needed_words.nd rfl rfl (sw_true rfl rfl rfl (by decide +kernel)) (kpi_zip (K := K) rfl (by rfl) n_zip (pa_cons (pe_fc c_find_state hr (by decide) (by rfl) (pa_cons (pv 0) pa_nil)) (pa_cons (pe_fc c_find_state hr (by decide) (by rfl) (pa_cons (pv 1) pa_nil)) pa_nil))) (blkOk_by (own := [("text", 3), ("letter", 4), ("_", 5), ("wanted", 6)]) (N := N__needed_words) (sc := defScope s__needed_words) (by decide +kernel)) (fun _ _ _ _ _ => (kpg_tup (K := K) (n := 2) rfl rfl (pgs_cons (kpg_tup (K := K) (n := 2) rfl rfl (pgs_cons (pg_name (i := 3) sc__needed_words.nd rfl (.inl rfl)) (pgs_cons (pg_name (i := 4) sc__needed_words.nd rfl (.inl rfl)) pgs_nil))) (pgs_cons (kpg_tup (K := K) (n := 2) rfl rfl (pgs_cons (pg_name (i := 5) sc__needed_words.nd rfl (.inl rfl)) (pgs_cons (pg_name (i := 6) sc__needed_words.nd rfl (.inl rfl)) pgs_nil))) pgs_nil)))) (fun _ _ _ _ _ => (pts_one (pt_cmpR (kou_ne (K := K) rfl hr.units) (pv 4) (pv 6) (nomark _)))) (fun _ _ _ _ _ => (pv 3)))
      (pss_one (ps_ret (pe_callB (kcu_sort (K := K) (w := w) rfl rfl rfl) (by rfl) n_sorted (by decide +kernel) (pa_cons (pe_sc2 (own := [("text", 3), ("length", 7)]) (vs1 := [7]) rfl sc__needed_words.nd (kpi_u (K := K) rfl (pv 2)) (blkOk_by (own := [("text", 3), ("length", 7)]) (N := N__needed_words) (sc := defScope s__needed_words) (by decide +kernel)) (by decide) (fun _ _ _ _ _ => (pg_name (i := 3) sc__needed_words.nd rfl (.inl rfl))) (fun _ _ _ _ _ => pts_nil) (fun _ _ _ _ _ => (pi_range1 (by rfl) n_range (pa_cons (pe_op (kou_add (K := K) rfl) (pe_callB (kcu_len (K := K) rfl) (by rfl) n_len (by decide +kernel) (pa_cons (pv 3) pa_nil)) pe_int) pa_nil))) (fun _ _ _ _ _ => (pg_name (i := 7) sc__needed_words.nd rfl (.inl rfl))) (fun _ _ _ _ _ => pts_nil) (fun _ _ _ _ _ => (pe_fc c_last_with hr (by decide) (by rfl) (pa_cons (pv 1) (pa_cons (pe_slice (ksl_u (K := K) rfl) (pv 3) po_none (po_some (pv 7))) pa_nil))))) pa_nil))))), ?_⟩
  have h1 := T.lb
  have h2 := T.len
  have bl := brs_len T.gg.ok
  have eb : brs b = brs g := brs_perm fun x => T.pm.mem_iff
  walk_at "go"
  refine ⟨b, rfl, rfl, by omega, T.gb, ?_⟩
  walk_at "go"
  refine ⟨g, rfl, rfl, by omega, T.gg, ?_⟩
  walk_at "go"
  refine vcoFA (brs g) (fun p => .tuple [brD (p.1, lat b p.1), brD (p.1, lat g p.1)]) (fun p => if (!decide (lat b p.1 = lat g p.1)) = true then some (.str p.1) else none) (it_z .o .o) (by simp [stt, eb]) (fun i d hi ⟨x, y, hx, hy, e⟩ => ?_) ⟨.o, .o⟩ (on_tup (on_consT (tg2 := gNil) (by decide) (by decide) (on_consT (tg2 := gNil) (by decide) (by decide) on_nil))) (by rw [sizeLine_eq]; omega) (fun p hp => ?_) ?_
  · unfold stt at hx hy
    rw [eb, List.map_map] at hx
    rw [List.map_map] at hy
    obtain ⟨p, ep, rfl⟩ := map_at hx
    obtain ⟨p', ep', rfl⟩ := map_at hy
    rw [ep] at ep'
    cases ep'
    exact ⟨p, ep, e⟩
  · unfold brD
    walk_at "go"
    refine ite2 (fun c => ?_) (fun c => ?_)
    · walk_at "go"
      exact ⟨by rw [if_pos c], rfl⟩
    · exact ⟨by rw [if_neg c], rfl⟩
  rw [fm_if (fun p : Str × Str => !decide (lat b p.1 = lat g p.1)) (fun p => PyData.str p.1), show (((brs g).filter fun p => !decide (lat b p.1 = lat g p.1)).map fun p => PyData.str p.1) = (chg b g).map .str by unfold chg; rw [List.map_map]; rfl]
  have cw : ∀ u ∈ chg b g, u.length ≤ 12 ∧ ∀ l, l ≤ u.length → ∃ z, sug g (cutT u l) = some z := fun u hu => by
    obtain ⟨x, hx, px⟩ := br_word (chg_mem.mp hu).1
    have := (List.isPrefixOf_iff_prefix.mp px).length_le
    have xl := T.gg.len hx
    refine ⟨by rw [TL.len_tl]; rw [TL.len_tl] at xl; exact Nat.le_trans this xl, fun l _ => sug_ex hx (pre_trans px (cut_pre u l))⟩
  walk_at "go"
  refine v_sc2 ?_
  walk_at "go"
  refine ⟨chg b g, g, fun u => u.length + 1, fun u l => (sug g (cutT u l)).getD "", .d, by decide, by decide, by omega, fun u hu => ?_, ?_⟩
  · obtain ⟨ul, us_⟩ := cw u hu
    refine ⟨by show u.length + 1 < _; omega, ?_, fun l hl => ?_⟩
    · walk_at "go"
      exact ⟨rfl, rfl⟩
    · have hl : l < u.length + 1 := hl
      obtain ⟨z, hz⟩ := us_ l (by omega)
      have e1 : (sug g (cutT u l)).getD "" = z := by rw [hz]; rfl
      show (sug g (cutT u l)).getD "" ∈ g ∧ _
      refine ⟨by rw [e1]; exact sug_mem hz, ?_⟩
      walk_at "go"
      refine ⟨g, cutT u l, rfl, rfl, ?_⟩
      walk_at "go"
      rw [hz]
      exact ⟨rfl, by show W.d (.str z) = W.d (.str ((sug g (cutT u l)).getD "")); rw [e1]⟩
  walk_at "go"
  refine s_set fun ys pm so => ?_
  rw [srt_eq pm so]
  walk_at "go"
  exact q
def sp_needed_words : SpV := fun us c Q => ∃ b g : List Str, us = [.b (b.map .str), .b (g.map .str)] ∧ c = [] ∧ Two b g ∧ Q (.o ((needN b g).map .str)) []
theorem ok_needed_words (n : Nm mg) (c__check_books : GF P w K mg base 7 "_check_books" (lift K w sp__check_books)) (c__needed_words : GF P w K mg base 3 "_needed_words" (lift K w sp__needed_words)) {f : Addr} {fd : FuncData} (F : Fun K "needed_words" "needed_words" s_needed_words f fd) :
    FnOk P w K mg base CX0 8 f fd ["book", "goal"] (lift K w sp_needed_words) := by
  refine FnOk.v F sc_needed_words (fun us c Q h => ?_) (fun cdv A outer s H E us c Q hr h => ?_)
  · obtain ⟨b, g, rfl, _⟩ := h; rfl
  obtain ⟨b, g, rfl, rfl, T, q⟩ := h
  refine ⟨_, (pss_cons (ps_expr (pe_fc c__check_books hr (by decide) (by rfl) (pa_cons (pv 0) (pa_cons (pv 1) pa_nil))))
      (pss_one (ps_ret (pe_fc c__needed_words hr (by decide) (by rfl) (pa_cons (pv 0) (pa_cons (pv 1) pa_nil)))))), ?_⟩
  walk_at "go"
  refine ⟨b, g, rfl, rfl, T, ?_⟩
  walk_at "go"
  refine ⟨b, g, rfl, rfl, T, ?_⟩
  walk_at "go"
  exact q
def sp_fewest_uses : SpV := fun us c Q => ∃ b g : List Str, us = [.b (b.map .str), .b (g.map .str)] ∧ c = [] ∧ Two b g ∧ Q (.d (.int ((needN b g).length : Nat))) []
theorem ok_fewest_uses (n : Nm mg) (c__check_books : GF P w K mg base 7 "_check_books" (lift K w sp__check_books)) (c__needed_words : GF P w K mg base 3 "_needed_words" (lift K w sp__needed_words)) {f : Addr} {fd : FuncData} (F : Fun K "fewest_uses" "fewest_uses" s_fewest_uses f fd) :
    FnOk P w K mg base CX0 8 f fd ["book", "goal"] (lift K w sp_fewest_uses) := by
  have n_len := n.len_
  refine FnOk.v F sc_fewest_uses (fun us c Q h => ?_) (fun cdv A outer s H E us c Q hr h => ?_)
  · obtain ⟨b, g, rfl, _⟩ := h; rfl
  obtain ⟨b, g, rfl, rfl, T, q⟩ := h
  refine ⟨_, (pss_cons (ps_expr (pe_fc c__check_books hr (by decide) (by rfl) (pa_cons (pv 0) (pa_cons (pv 1) pa_nil))))
      (pss_one (ps_ret (pe_callB (kcu_len (K := K) rfl) (by rfl) n_len (by decide +kernel) (pa_cons (pe_fc c__needed_words hr (by decide) (by rfl) (pa_cons (pv 0) (pa_cons (pv 1) pa_nil))) pa_nil))))), ?_⟩
  walk_at "go"
  refine ⟨b, g, rfl, rfl, T, ?_⟩
  walk_at "go"
  refine ⟨b, g, rfl, rfl, T, ?_⟩
  walk_at "go"
  rw [List.length_map]
  exact q
def sp_blockers_moves : SpV := fun us c Q => ∃ b g : List Str, us = [.b (b.map .str), .b (g.map .str)] ∧ c = [] ∧ Two b g ∧ Q (.dm (abP (blk g) (needN b g))) []
theorem ok_blockers_moves (n : Nm mg) (c__needed_words : GF P w K mg base 3 "_needed_words" (lift K w sp__needed_words)) (c_find_blocker : GF P w K mg base 3 "find_blocker" (lift K w sp_find_blocker)) {f : Addr} {fd : FuncData} (F : Fun K "_blockers" "_blockers" s_blockers_moves f fd) :
    FnOk P w K mg base CX0 4 f fd ["book", "goal"] (lift K w sp_blockers_moves) := by
  refine FnOk.v F sc_blockers_moves (fun us c Q h => ?_) (fun cdv A outer s H E us c Q hr h => ?_)
  · obtain ⟨b, g, rfl, _⟩ := h; rfl
  obtain ⟨b, g, rfl, rfl, T, q⟩ := h
  refine ⟨_, (pss_one (ps_ret (PE.frz (pe_dc (own := [("word", 2)]) rfl sc_blockers_moves.nd (kpi_u (K := K) rfl (pe_fc c__needed_words hr (by decide) (by rfl) (pa_cons (pv 0) (pa_cons (pv 1) pa_nil)))) (blkOk_by (own := [("word", 2)]) (N := N_blockers_moves) (sc := defScope s_blockers_moves) (by decide +kernel)) (fun _ _ _ _ _ => (pg_name (i := 2) sc_blockers_moves.nd rfl (.inl rfl))) (fun _ _ _ _ _ => pts_nil) (fun _ _ _ _ _ => (pv 2)) (fun _ _ _ _ _ => (pe_fc c_find_blocker hr (by decide) (by rfl) (pa_cons (pv 1) (pa_cons (pv 2) pa_nil)))))))), ?_⟩
  have nl := need_len T.gg T.len b
  walk_at "go"
  refine v_dcU (needN b g) PyData.str (fun x => some (Sum.inr x, optD (blk g x))) ?_
  walk_at "go"
  refine ⟨b, g, rfl, rfl, T, ?_⟩
  walk_at "go"
  refine ⟨.o, on_name (by decide), by rw [sizeLine_eq]; omega, fun _ => .o, fun x hx kvs => ?_, ?_⟩
  · have xl := T.gg.len (need_sub hx)
    unfold DTurn
    walk_at "go"
    refine ⟨g, x, rfl, rfl, by omega, ?_⟩
    walk_at "go"
    exact ⟨Sum.inr x, _, rfl, rfl, rfl, rfl⟩
  · rw [fm_some, show ((needN b g).map fun x => ((Sum.inr x : Key), optD (blk g x))) = abP (blk g) (needN b g) from rfl, putAll_nd (dW_keys (need_nd b g))]
    refine ⟨_, _, rfl, rfl, ?_⟩
    walk_at "go"
    exact q
def sp_count_shortest : SpV := fun us c Q => ∃ b g : List Str, us = [.b (b.map .str), .b (g.map .str)] ∧ c = [] ∧ Two b g ∧ Q (.d (.int (nLay (blk g) (needN b g) : Nat))) []
theorem ok_count_shortest (n : Nm mg) (c__check_books : GF P w K mg base 7 "_check_books" (lift K w sp__check_books)) (c_blockers_moves : GF P w K mg base 4 "blockers_moves" (lift K w sp_blockers_moves)) (c_count_placements : GF P w K mg base 3 "count_placements" (lift K w sp_count_placements)) {f : Addr} {fd : FuncData} (F : Fun K "count_shortest" "count_shortest" s_count_shortest f fd) :
    FnOk P w K mg base CX0 8 f fd ["book", "goal"] (lift K w sp_count_shortest) := by
  refine FnOk.v F sc_count_shortest (fun us c Q h => ?_) (fun cdv A outer s H E us c Q hr h => ?_)
  · obtain ⟨b, g, rfl, _⟩ := h; rfl
  obtain ⟨b, g, rfl, rfl, T, q⟩ := h
  refine ⟨_, (pss_cons (ps_expr (pe_fc c__check_books hr (by decide) (by rfl) (pa_cons (pv 0) (pa_cons (pv 1) pa_nil))))
      (pss_one (ps_ret (pe_fc c_count_placements hr (by decide) (by rfl) (pa_cons (pe_fc c_blockers_moves hr (by decide) (by rfl) (pa_cons (pv 0) (pa_cons (pv 1) pa_nil))) pa_nil))))), ?_⟩
  walk_at "go"
  refine ⟨b, g, rfl, rfl, T, ?_⟩
  walk_at "go"
  refine ⟨b, g, rfl, rfl, T, ?_⟩
  walk_at "go"
  refine ⟨blk g, needN b g, rfl, rfl, need_len T.gg T.len b, fo_need T.gg, ?_⟩
  walk_at "go"
  exact q
def sp_nth_shortest : SpV := fun us c Q => ∃ (b g : List Str) (i : Nat) (r : List Str), us = [.b (b.map .str), .b (g.map .str), .d (.int (i : Int))] ∧ c = [] ∧ Two b g ∧ (asc (blk g) (needN b g))[i]? = some r ∧ Q (.o (r.map .str)) []
theorem ok_nth_shortest (n : Nm mg) (c__check_books : GF P w K mg base 7 "_check_books" (lift K w sp__check_books)) (c_blockers_moves : GF P w K mg base 4 "blockers_moves" (lift K w sp_blockers_moves)) (c_check_index : GC P w K mg base 3 "check_index" (lift K w sp_check_index)) (c_count_placements : GF P w K mg base 3 "count_placements" (lift K w sp_count_placements)) (c_nth_placement : GF P w K mg base 4 "nth_placement" (lift K w sp_nth_placement)) {f : Addr} {fd : FuncData} (F : Fun K "nth_shortest" "nth_shortest" s_nth_shortest f fd) :
    GFn P w K mg base CX0 8 f fd ["book", "goal", "index"] (lift K w sp_nth_shortest) := by
  refine GFn.v F sc_nth_shortest (fun us c Q h => ?_) (fun cdv A outer s H E us c Q gd hr h => ?_)
  · obtain ⟨b, g, i, r, rfl, _⟩ := h; rfl
  obtain ⟨b, g, i, r, rfl, rfl, T, har, q⟩ := h
  refine ⟨_, (pss_cons (ps_expr (pe_fc c__check_books hr (by decide) (by rfl) (pa_cons (pv 0) (pa_cons (pv 1) pa_nil))))
      (pss_cons (ps_set (i := 3) sc_nth_shortest.nd rfl (.inl rfl) (pe_fc c_blockers_moves hr (by decide) (by rfl) (pa_cons (pv 0) (pa_cons (pv 1) pa_nil))))
      (pss_cons (ps_expr (pe_gc c_check_index gd hr (by decide) (by rfl) (pa_cons (pv 2) (pa_cons (pe_fc c_count_placements hr (by decide) (by rfl) (pa_cons (pv 3) pa_nil)) pa_nil))))
      (pss_one (ps_ret (pe_fc c_nth_placement hr (by decide) (by rfl) (pa_cons (pv 3) (pa_cons (pv 2) pa_nil)))))))), ?_⟩
  have il := (List.getElem?_eq_some_iff.mp har).1
  rw [asc_len (fo_need T.gg)] at il
  have nl := need_len T.gg T.len b
  walk_at "go"
  refine ⟨b, g, rfl, rfl, T, ?_⟩
  walk_at "go"
  refine ⟨b, g, rfl, rfl, T, ?_⟩
  walk_at "go"
  refine ⟨blk g, needN b g, rfl, rfl, nl, fo_need T.gg, ?_⟩
  walk_at "go"
  refine ⟨_, _, rfl, rfl, by omega, by omega, ?_⟩
  walk_at "go"
  refine ⟨blk g, needN b g, i, r, rfl, rfl, nl, fo_need T.gg, har, ?_⟩
  walk_at "go"
  exact q
def sp__is_shortest : SpV := fun us c Q => ∃ b g r : List Str, us = [.b (b.map .str), .b (g.map .str), .b (r.map .str)] ∧ c = [] ∧ Two b g ∧ r.length ≤ 500 ∧ Gh r ∧ Q (.d (.bool (decide (srt r = needN b g) && decide (stt (play b r) = stt g)))) []
theorem ok__is_shortest (n : Nm mg) (c__needed_words : GF P w K mg base 3 "_needed_words" (lift K w sp__needed_words)) (c_find_state : GF P w K mg base 2 "find_state" (lift K w sp_find_state)) (c_is_history : GF P w K mg base 4 "is_history" (lift K w sp_is_history)) (c_play_uses : GF P w K mg base 1 "play_uses" (lift K w sp_play_uses)) {f : Addr} {fd : FuncData} (F : Fun K "_is_shortest" "_is_shortest" s__is_shortest f fd) :
    FnOk P w K mg base CX0 5 f fd ["book", "goal", "value"] (lift K w sp__is_shortest) := by
  have n_sorted := n.sorted_
  refine FnOk.v F sc__is_shortest (fun us c Q h => ?_) (fun cdv A outer s H E us c Q hr h => ?_)
  · obtain ⟨b, g, r, rfl, _⟩ := h; rfl
  obtain ⟨b, g, r, rfl, rfl, T, rl, gr, q⟩ := h
  refine ⟨_, (pss_cons (ps_if (PW.pt (pw_or (pt_not (kpt_u (K := K) rfl (pe_fc c_is_history hr (by decide) (by rfl) (pa_cons (pv 2) pa_nil)) (by intro _; rfl))) (pw_or1 (pt_cmpR (kou_ne (K := K) rfl hr.units) (pe_callB (kcu_sort (K := K) (w := w) rfl rfl rfl) (by rfl) n_sorted (by decide +kernel) (pa_cons (pv 2) pa_nil)) (pe_fc c__needed_words hr (by decide) (by rfl) (pa_cons (pv 0) (pa_cons (pv 1) pa_nil))) (nomark _)))))
      (pss_one (ps_ret pe_bl))
      pss_nil)
      (pss_one (ps_ret (pe_cmpR (kou_eq (K := K) rfl hr.units) (pe_fc c_find_state hr (by decide) (by rfl) (pa_cons (pe_fc c_play_uses hr (by decide) (by rfl) (pa_cons (pv 0) (pa_cons (pv 2) pa_nil))) pa_nil)) (pe_fc c_find_state hr (by decide) (by rfl) (pa_cons (pv 1) pa_nil)) (nomark _))))), ?_⟩
  have h1 := T.lb
  have h2 := T.len
  have o1 : ∀ w ∈ srt r, PyData.strOk w = true := fun w hw => strOk_w (gr.ok w (srt_mem.mp hw))
  walk_at "go"
  refine ⟨r, rfl, rfl, by omega, fun w hw => by have := isW_len (gr.ok w hw); omega, ?_⟩
  rw [gr.hist]
  walk_at "go"
  refine s_txt .b (by omega) fun ys pm so => ?_
  rw [srt_eq pm so]
  walk_at "go"
  refine ⟨b, g, rfl, rfl, T, ?_⟩
  walk_at "go"
  refine w_neW .o .o o1 (need_str T.gg) ?_
  walk_at "go"
  refine ite2 (fun c => ?_) (fun c => ?_)
  · have c2 : decide (srt r = needN b g) = false := by simpa using c
    rw [c2, Bool.false_and] at q
    walk_at "go"
    exact q
  · have c2 : decide (srt r = needN b g) = true := by simpa using c
    rw [c2, Bool.true_and] at q
    have hrb : ∀ x ∈ r, x ∈ b := fun x hx => T.pm.mem_iff.mpr (need_sub (b := b) (by rw [← of_decide_eq_true c2]; exact srt_mem.mpr hx))
    have pp := play_perm T.gb hrb
    have gp := T.gb.perm pp
    have pl := pp.length_eq
    walk_at "go"
    refine ⟨b, r, rfl, rfl, by omega, ?_⟩
    walk_at "go"
    refine ⟨play b r, rfl, rfl, by omega, gp, ?_⟩
    walk_at "go"
    refine ⟨g, rfl, rfl, by omega, T.gg, ?_⟩
    walk_at "go"
    refine w_eqRows .o .o (fun p hp => stt_row gp.ok hp) (fun p hp => stt_row T.gg.ok hp) ?_
    walk_at "go"
    exact q
def sp_is_shortest : SpV := fun us c Q => ∃ b g r : List Str, us = [.b (b.map .str), .b (g.map .str), .b (r.map .str)] ∧ c = [] ∧ Two b g ∧ r.length ≤ 500 ∧ Gh r ∧ Q (.d (.bool (decide (srt r = needN b g) && decide (stt (play b r) = stt g)))) []
theorem ok_is_shortest (n : Nm mg) (c__check_books : GF P w K mg base 7 "_check_books" (lift K w sp__check_books)) (c__is_shortest : GF P w K mg base 5 "_is_shortest" (lift K w sp__is_shortest)) {f : Addr} {fd : FuncData} (F : Fun K "is_shortest" "is_shortest" s_is_shortest f fd) :
    FnOk P w K mg base CX0 8 f fd ["book", "goal", "value"] (lift K w sp_is_shortest) := by
  refine FnOk.v F sc_is_shortest (fun us c Q h => ?_) (fun cdv A outer s H E us c Q hr h => ?_)
  · obtain ⟨b, g, r, rfl, _⟩ := h; rfl
  obtain ⟨b, g, r, rfl, rfl, T, rl, gr, q⟩ := h
  refine ⟨_, (pss_cons (ps_expr (pe_fc c__check_books hr (by decide) (by rfl) (pa_cons (pv 0) (pa_cons (pv 1) pa_nil))))
      (pss_one (ps_ret (pe_fc c__is_shortest hr (by decide) (by rfl) (pa_cons (pv 0) (pa_cons (pv 1) (pa_cons (pv 2) pa_nil))))))), ?_⟩
  walk_at "go"
  refine ⟨b, g, rfl, rfl, T, ?_⟩
  walk_at "go"
  refine ⟨b, g, r, rfl, rfl, T, rl, gr, ?_⟩
  walk_at "go"
  exact q
theorem gh_of {b r : List Str} (gb : Gb b) (h : ∀ x ∈ r, x ∈ b) : Gh r := ⟨fun x hx => gb.ok x (h x hx), gb.nc.sub h⟩
def sp_shortest_rank : SpV := fun us c Q => ∃ b g r : List Str, us = [.b (b.map .str), .b (g.map .str), .b (r.map .str)] ∧ c = [] ∧ Two b g ∧ Sho b g r ∧ Q (.d (.int ((rk (blk g) (needN b g) r : Nat) : Int))) []
theorem ok_shortest_rank (n : Nm mg) (c__check_books : GF P w K mg base 7 "_check_books" (lift K w sp__check_books)) (c__is_shortest : GF P w K mg base 5 "_is_shortest" (lift K w sp__is_shortest)) (c_blockers_moves : GF P w K mg base 4 "blockers_moves" (lift K w sp_blockers_moves)) (c_placement_rank : GF P w K mg base 4 "placement_rank" (lift K w sp_placement_rank)) {f : Addr} {fd : FuncData} (F : Fun K "shortest_rank" "shortest_rank" s_shortest_rank f fd) :
    FnOk P w K mg base CX0 8 f fd ["book", "goal", "value"] (lift K w sp_shortest_rank) := by
  refine FnOk.v F sc_shortest_rank (fun us c Q h => ?_) (fun cdv A outer s H E us c Q hr h => ?_)
  · obtain ⟨b, g, r, rfl, _⟩ := h; rfl
  obtain ⟨b, g, r, rfl, rfl, T, sh, q⟩ := h
  refine ⟨_, (pss_cons (ps_expr (pe_fc c__check_books hr (by decide) (by rfl) (pa_cons (pv 0) (pa_cons (pv 1) pa_nil))))
      (pss_cons (ps_if (pt_not (kpt_u (K := K) rfl (pe_fc c__is_shortest hr (by decide) (by rfl) (pa_cons (pv 0) (pa_cons (pv 1) (pa_cons (pv 2) pa_nil)))) (by intro _; rfl)))
      (pss_one ps_never)
      pss_nil)
      (pss_one (ps_ret (pe_fc c_placement_rank hr (by decide) (by rfl) (pa_cons (pe_fc c_blockers_moves hr (by decide) (by rfl) (pa_cons (pv 0) (pa_cons (pv 1) pa_nil))) (pa_cons (pv 2) pa_nil))))))), ?_⟩
  have nl := need_len T.gg T.len b
  have rl := sh.p.length_eq
  walk_at "go"
  refine ⟨b, g, rfl, rfl, T, ?_⟩
  walk_at "go"
  refine ⟨b, g, r, rfl, rfl, T, by omega, gh_of T.gb (sh.sub T.pm), ?_⟩
  rw [decide_eq_true (by rw [srt_congr sh.p, srt_need] : srt r = needN b g), decide_eq_true (sh.ends T.gb T.gg T.pm)]
  walk_at "go"
  try (refine ite_f rfl ?_)
  walk_at "go"
  refine ⟨b, g, rfl, rfl, T, ?_⟩
  walk_at "go"
  refine ⟨blk g, needN b g, r, rfl, rfl, nl, fo_need T.gg, sh.p, sh.L, ?_⟩
  walk_at "go"
  exact q
end
end My
open PySem PySem.Spec PyProof.Rows L2 Gd
namespace My
section
variable {P : Program} {w : World} {K : PySem.W.Frag} {mg : Str → Option Value} {base : Heap}
def sp_blockers_orders : SpV := fun us c Q => ∃ ws : List Str, us = [.b (ws.map .str)] ∧ c = [] ∧ ws.length ≤ 120 ∧ Gb ws ∧ Q (.dm (abP (blk ws) ws)) []
theorem ok_blockers_orders (n : Nm mg) (c_find_blocker : GF P w K mg base 3 "find_blocker" (lift K w sp_find_blocker)) {f : Addr} {fd : FuncData} (F : Fun K "_blockers" "_blockers" s_blockers_orders f fd) :
    FnOk P w K mg base CX0 4 f fd ["book"] (lift K w sp_blockers_orders) := by
  refine FnOk.v F sc_blockers_orders (fun us c Q h => ?_) (fun cdv A outer s H E us c Q hr h => ?_)
  · obtain ⟨ws, rfl, _⟩ := h; rfl
  obtain ⟨ws, rfl, rfl, hl, gb, q⟩ := h
  refine ⟨_, (pss_one (ps_ret (PE.frz (pe_dc (own := [("word", 1)]) rfl sc_blockers_orders.nd (kpi_u (K := K) rfl (pv 0)) (blkOk_by (own := [("word", 1)]) (N := N_blockers_orders) (sc := defScope s_blockers_orders) (by decide +kernel)) (fun _ _ _ _ _ => (pg_name (i := 1) sc_blockers_orders.nd rfl (.inl rfl))) (fun _ _ _ _ _ => pts_nil) (fun _ _ _ _ _ => (pv 1)) (fun _ _ _ _ _ => (pe_fc c_find_blocker hr (by decide) (by rfl) (pa_cons (pv 0) (pa_cons (pv 1) pa_nil)))))))), ?_⟩
  walk_at "go"
  refine v_dcU ws PyData.str (fun x => some (Sum.inr x, optD (blk ws x))) ?_
  walk_at "go"
  refine ⟨.b, on_name (by decide), by rw [sizeLine_eq]; omega, fun _ => .b, fun x hx kvs => ?_, ?_⟩
  · have xl := isW_len (gb.ok x hx)
    unfold DTurn
    walk_at "go"
    refine ⟨ws, x, rfl, rfl, by omega, ?_⟩
    walk_at "go"
    exact ⟨Sum.inr x, _, rfl, rfl, rfl, rfl⟩
  · rw [fm_some, show (ws.map fun x => ((Sum.inr x : Key), optD (blk ws x))) = abP (blk ws) ws from rfl, putAll_nd (dW_keys gb.nd)]
    refine ⟨_, _, rfl, rfl, ?_⟩
    walk_at "go"
    exact q
def sp_count_alike : SpV := fun us c Q => ∃ (ws : List Str), us = [.b (ws.map .str)] ∧ c = [] ∧ ws.length ≤ 120 ∧ Gb ws ∧ Q (.d (.int ((nLay (blk ws) ws : Nat) : Int))) []
theorem ok_count_alike (n : Nm mg) (c_blockers_orders : GF P w K mg base 4 "blockers_orders" (lift K w sp_blockers_orders)) (c_check_book : GF P w K mg base 6 "check_book" (lift K w sp_check_book)) (c_count_placements : GF P w K mg base 3 "count_placements" (lift K w sp_count_placements)) {f : Addr} {fd : FuncData} (F : Fun K "count_alike" "count_alike" s_count_alike f fd) :
    FnOk P w K mg base CX0 7 f fd ["book"] (lift K w sp_count_alike) := by
  refine FnOk.v F sc_count_alike (fun us c Q h => ?_) (fun cdv A outer s H E us c Q hr h => ?_)
  · obtain ⟨ws, rfl, _⟩ := h; rfl
  obtain ⟨ws, rfl, rfl, hl, gb, q⟩ := h
  refine ⟨_, (pss_cons (ps_expr (pe_fc c_check_book hr (by decide) (by rfl) (pa_cons (pv 0) pa_nil)))
      (pss_one (ps_ret (pe_fc c_count_placements hr (by decide) (by rfl) (pa_cons (pe_fc c_blockers_orders hr (by decide) (by rfl) (pa_cons (pv 0) pa_nil)) pa_nil))))), ?_⟩
  walk_at "go"
  refine ⟨ws, rfl, rfl, by omega, gb, ?_⟩
  walk_at "go"
  refine ⟨ws, rfl, rfl, hl, gb, ?_⟩
  walk_at "go"
  refine ⟨blk ws, ws, rfl, rfl, hl, fo_blk gb, ?_⟩
  walk_at "go"
  exact q
def sp_nth_alike : SpV := fun us c Q => ∃ (ws : List Str) (i : Nat) (r : List Str), us = [.b (ws.map .str), .d (.int (i : Int))] ∧ c = [] ∧ ws.length ≤ 120 ∧ Gb ws ∧ (asc (blk ws) ws)[i]? = some r ∧ Q (.o (r.map .str)) []
theorem ok_nth_alike (n : Nm mg) (c_blockers_orders : GF P w K mg base 4 "blockers_orders" (lift K w sp_blockers_orders)) (c_check_book : GF P w K mg base 6 "check_book" (lift K w sp_check_book)) (c_check_index : GC P w K mg base 3 "check_index" (lift K w sp_check_index)) (c_count_placements : GF P w K mg base 3 "count_placements" (lift K w sp_count_placements)) (c_nth_placement : GF P w K mg base 4 "nth_placement" (lift K w sp_nth_placement)) {f : Addr} {fd : FuncData} (F : Fun K "nth_alike" "nth_alike" s_nth_alike f fd) :
    GFn P w K mg base CX0 7 f fd ["book", "index"] (lift K w sp_nth_alike) := by
  refine GFn.v F sc_nth_alike (fun us c Q h => ?_) (fun cdv A outer s H E us c Q gd hr h => ?_)
  · obtain ⟨ws, i, r, rfl, _⟩ := h; rfl
  obtain ⟨ws, i, r, rfl, rfl, hl, gb, har, q⟩ := h
  refine ⟨_, (pss_cons (ps_expr (pe_fc c_check_book hr (by decide) (by rfl) (pa_cons (pv 0) pa_nil)))
      (pss_cons (ps_set (i := 2) sc_nth_alike.nd rfl (.inl rfl) (pe_fc c_blockers_orders hr (by decide) (by rfl) (pa_cons (pv 0) pa_nil)))
      (pss_cons (ps_expr (pe_gc c_check_index gd hr (by decide) (by rfl) (pa_cons (pv 1) (pa_cons (pe_fc c_count_placements hr (by decide) (by rfl) (pa_cons (pv 2) pa_nil)) pa_nil))))
      (pss_one (ps_ret (pe_fc c_nth_placement hr (by decide) (by rfl) (pa_cons (pv 2) (pa_cons (pv 1) pa_nil)))))))), ?_⟩
  have il := (List.getElem?_eq_some_iff.mp har).1
  rw [asc_len (fo_blk gb)] at il
  walk_at "go"
  refine ⟨ws, rfl, rfl, by omega, gb, ?_⟩
  walk_at "go"
  refine ⟨ws, rfl, rfl, hl, gb, ?_⟩
  walk_at "go"
  refine ⟨blk ws, ws, rfl, rfl, hl, fo_blk gb, ?_⟩
  walk_at "go"
  refine ⟨_, _, rfl, rfl, by omega, by omega, ?_⟩
  walk_at "go"
  refine ⟨blk ws, ws, i, r, rfl, rfl, hl, fo_blk gb, har, ?_⟩
  walk_at "go"
  exact q
def sp_alike_rank : SpV := fun us c Q => ∃ (ws : List Str), us = [.b (ws.map .str)] ∧ c = [] ∧ ws.length ≤ 120 ∧ Gb ws ∧ Q (.d (.int ((rk (blk ws) ws ws : Nat) : Int))) []
theorem ok_alike_rank (n : Nm mg) (c_blockers_orders : GF P w K mg base 4 "blockers_orders" (lift K w sp_blockers_orders)) (c_check_book : GF P w K mg base 6 "check_book" (lift K w sp_check_book)) (c_placement_rank : GF P w K mg base 4 "placement_rank" (lift K w sp_placement_rank)) {f : Addr} {fd : FuncData} (F : Fun K "alike_rank" "alike_rank" s_alike_rank f fd) :
    FnOk P w K mg base CX0 7 f fd ["book"] (lift K w sp_alike_rank) := by
  refine FnOk.v F sc_alike_rank (fun us c Q h => ?_) (fun cdv A outer s H E us c Q hr h => ?_)
  · obtain ⟨ws, rfl, _⟩ := h; rfl
  obtain ⟨ws, rfl, rfl, hl, gb, q⟩ := h
  refine ⟨_, (pss_cons (ps_expr (pe_fc c_check_book hr (by decide) (by rfl) (pa_cons (pv 0) pa_nil)))
      (pss_one (ps_ret (pe_fc c_placement_rank hr (by decide) (by rfl) (pa_cons (pe_fc c_blockers_orders hr (by decide) (by rfl) (pa_cons (pv 0) pa_nil)) (pa_cons (pv 0) pa_nil)))))), ?_⟩
  walk_at "go"
  refine ⟨ws, rfl, rfl, by omega, gb, ?_⟩
  walk_at "go"
  refine ⟨ws, rfl, rfl, hl, gb, ?_⟩
  walk_at "go"
  refine ⟨blk ws, ws, ws, rfl, rfl, hl, fo_blk gb, List.Perm.refl _, lay_self gb, ?_⟩
  walk_at "go"
  exact q
end
end My
open PySem PySem.Spec PyProof.Rows L2 Gd
namespace My
section
variable {P : Program} {w : World} {K : PySem.W.Frag} {mg : Str → Option Value} {base : Heap}
structure Sb (xs : List PyData) (n : Nat) : Prop where
  ex : ∃ i j k : Int, xs = [.int i, .int j, .int k] ∧ 0 ≤ i ∧ 0 ≤ j ∧ j < 10 ^ 62 ∧ 0 ≤ k ∧ k ≤ n
theorem Sb.mono {xs : List PyData} {n m : Nat} (h : Sb xs n) (l : n ≤ m) : Sb xs m := by
  obtain ⟨i, j, k, h1, h2, h3, h4, h5, h6⟩ := h
  exact ⟨i, j, k, h1, h2, h3, h4, h5, by omega⟩
def sp__law_open_source : SpV := fun us c Q => ∃ (ns : List Int) (k : Nat), us = [.s (ns.map .int), .d (.int (k : Int))] ∧ c = [] ∧ k < 100 ∧ ∀ xs, Sb xs 0 → Q (.o xs) []
theorem ok__law_open_source (n : Nm mg)  {f : Addr} {fd : FuncData} (F : Fun K "_law_open_source" "_law_open_source" s__law_open_source f fd) :
    FnOk P w K mg base CX0 1 f fd ["script", "k"] (lift K w sp__law_open_source) := by
  have n_len := n.len_
  have n_max := n.max_
  refine FnOk.v F sc__law_open_source (fun us c Q h => ?_) (fun cdv A outer s H E us c Q hr h => ?_)
  · obtain ⟨ns, k, rfl, _⟩ := h; rfl
  obtain ⟨ns, k, rfl, rfl, hk, q⟩ := h
  refine ⟨_, (pss_cons (ps_set (i := 2) sc__law_open_source.nd rfl (.inl rfl) pe_int)
      (pss_cut (ps_if (pt_cmpR ou_lt (pv 1) (pe_callB (kcu_len (K := K) rfl) (by rfl) n_len (by decide +kernel) (pa_cons (pv 0) pa_nil)) (nomark _))
      (pss_one (ps_set (i := 2) sc__law_open_source.nd rfl (.inl rfl) (pe_ix (kix_seq (K := K) rfl) (pv 0) (pv 1) (fun _ _ => rfl))))
      pss_nil)
      (pss_one (ps_ret (pe_lst (pa_cons (pe_callB (call_max2 rfl) (by rfl) n_max (by decide +kernel) (pa_cons pe_int (pa_cons (pe_op ou_sub (pv 2) (pe_op ou_pow pe_int pe_int)) pa_nil))) (pa_cons (pe_op (kou_add (K := K) rfl) (pe_op ou_mul (pe_op ou_mod (pv 2) (pe_op (kou_add (K := K) rfl) (pe_op ou_pow pe_int pe_int) pe_int)) pe_int) (pe_op ou_mod (pv 1) pe_int)) (pa_cons pe_int pa_nil)))))))), ?_⟩
  walk_at "go"
  refine v_cut (fun e c => ∃ v : Int, e = [some (.s (ns.map .int)), some (.d (.int (k : Int))), some (.d (.int v))] ∧ c = []) ?_ ?_
  · walk_at "go"
    rw [List.length_map]
    refine ite2 (fun c2 => ?_) (fun c2 => ?_)
    · have hlt : k < ns.length := by have := of_decide_eq_true c2; omega
      walk_at "go"
      refine w_ixL (d := PyData.int ns[k]) .s (atI_of (Int.natCast_nonneg k) (by rw [Int.toNat_natCast, List.getElem?_map, List.getElem?_eq_getElem hlt]; rfl)) ?_
      walk_at "go"
      exact ⟨_, rfl, rfl⟩
    · walk_at "go"
      exact ⟨_, rfl, rfl⟩
  rintro e c ⟨v, rfl, rfl⟩
  walk_at "go"
  have m0 : 0 ≤ v % (10 ^ Int.toNat 60 + 7) := Int.emod_nonneg _ (by decide)
  have m1 : v % (10 ^ Int.toNat 60 + 7) < 10 ^ 60 + 7 := Int.emod_lt_of_pos _ (by decide)
  have k0 : 0 ≤ (k : Int) % 64 := Int.emod_nonneg _ (by decide)
  have k1 : (k : Int) % 64 < 64 := Int.emod_lt_of_pos _ (by decide)
  exact q _ ⟨_, _, _, rfl, by split <;> omega, by omega, by omega, by decide, by decide⟩
def sp__law_draw : SpV := fun us c Q => ∃ (xs : List PyData) (n : Nat) (m : Int), us = [.c 0, .d (.int m)] ∧ c = [.l xs] ∧ Sb xs n ∧ n < 2 ^ 60 ∧ 0 < m ∧ m.natAbs.log2 < 9000 ∧
  ∀ d ys, Sb ys (n + 1) → 0 ≤ d → d < m → Q (.d (.int d)) [.l ys]
theorem ok__law_draw (n : Nm mg)  {f : Addr} {fd : FuncData} (F : Fun K "_law_draw" "_law_draw" s__law_draw f fd) :
    FnOk P w K mg base CX0 1 f fd ["source", "limit"] (liftC K w sp__law_draw) := by
  refine FnOk.v F sc__law_draw (fun us c Q h => ?_) (fun cdv A outer s H E us c Q hr h => ?_)
  · obtain ⟨xs, n, m, rfl, _⟩ := h; rfl
  obtain ⟨xs, c, m, rfl, rfl, ⟨i, j, k, rfl, hi0, hj0, hj1, hk0, hk1⟩, hn, hm, hm2, q⟩ := h
  refine ⟨_, (pss_cons (ps_if (pt_cmpR ou_gt (pe_ix (kix_seq (K := K) rfl) (pv 0) pe_int (fun _ _ => rfl)) pe_int (nomark _))
      (pss_cons (ps_set (i := 2) sc__law_draw.nd rfl (.inl rfl) (pe_op ou_mod (pe_ix (kix_seq (K := K) rfl) (pv 0) pe_int (fun _ _ => rfl)) (pv 1)))
        (pss_cons (ps_asg (pe_op ou_div (pe_ix (kix_seq (K := K) rfl) (pv 0) pe_int (fun _ _ => rfl)) (pv 1)) (pg_sub (pv 0) pe_int set_list))
        (pss_one (ps_ret (pv 2)))))
      pss_nil)
      (pss_cons (ps_asg (pe_op (kou_add (K := K) rfl) (pe_ix (kix_seq (K := K) rfl) (pv 0) pe_int (fun _ _ => rfl)) pe_int) (pg_sub (pv 0) pe_int set_list))
      (pss_cons (ps_set (i := 3) sc__law_draw.nd rfl (.inl rfl) (pe_op ou_mod (pe_op ou_pow (pe_op (kou_add (K := K) rfl) (pe_op (kou_add (K := K) rfl) (pe_ix (kix_seq (K := K) rfl) (pv 0) pe_int (fun _ _ => rfl)) (pe_op ou_mul (pe_op ou_mul pe_int (pe_ix (kix_seq (K := K) rfl) (pv 0) pe_int (fun _ _ => rfl))) (pe_ix (kix_seq (K := K) rfl) (pv 0) pe_int (fun _ _ => rfl)))) pe_int) pe_int) pe_int))
      (pss_cons (ps_set (i := 3) sc__law_draw.nd rfl (.inl rfl) (pe_op ou_mod (pe_op ou_pow (pe_op (kou_add (K := K) rfl) (pv 3) (pe_op ou_mul pe_int (pe_ix (kix_seq (K := K) rfl) (pv 0) pe_int (fun _ _ => rfl)))) pe_int) pe_int))
      (pss_one (ps_ret (pe_op ou_mod (pe_op ou_div (pv 3) pe_int) (pv 1)))))))), ?_⟩
  walk_at "go"
  refine ite2 (fun c2 => ?_) (fun c2 => ?_)
  · walk_at "go"
    exact q _ _ ⟨_, _, _, rfl, Int.ediv_nonneg hi0 (by omega), hj0, hj1, hk0, by omega⟩ (Int.emod_nonneg _ (by omega)) (Int.emod_lt_of_pos _ hm)
  · walk_at "go"
    refine w_mulI (.inl (.inr ⟨by omega, by omega⟩)) ?_
    walk_at "go"
    have c0 : 0 ≤ 40503 * (k + 1) * (k + 1) := Int.mul_nonneg (by omega) (by omega)
    have c1 : 40503 * (k + 1) * (k + 1) ≤ 40503 * 2 ^ 60 * 2 ^ 60 := Int.mul_le_mul (by omega) (by omega) (by omega) (by omega)
    generalize 40503 * (k + 1) * (k + 1) = x at *
    refine w_pow (powW (n := 210) (by decide) (by omega) (by decide) (by decide)) ?_
    walk_at "go"
    have s0 : 0 ≤ (j + x + 11) ^ Int.toNat 3 % 2305843009213693951 := Int.emod_nonneg _ (by decide)
    have s1 : (j + x + 11) ^ Int.toNat 3 % 2305843009213693951 < 2305843009213693951 := Int.emod_lt_of_pos _ (by decide)
    generalize (j + x + 11) ^ Int.toNat 3 % 2305843009213693951 = s at *
    refine w_pow (powW (n := 141) (by decide) (by omega) (by decide) (by decide)) ?_
    walk_at "go"
    exact q _ _ ⟨_, _, _, rfl, hi0, hj0, hj1, by omega, by omega⟩ (Int.emod_nonneg _ (by omega)) (Int.emod_lt_of_pos _ hm)
def sp__law_words : SpV := fun us c Q => ∃ (pl : List PyData) (n : Nat) (ns : List Int) (m : Int), us = [.c 0, .s (ns.map .int), .d (.int m)] ∧ c = [.l pl] ∧ Sb pl n ∧ n < 2 ^ 40 ∧ 1 ≤ m ∧ m ≤ 120 ∧
  ∀ (ws : List Str) (pl' : List PyData), Bk ws 120 → (ws.length : Int) ≤ max m 6 → Sb pl' (n + 20000) → Q (.o (ws.map .str)) [.l pl']
theorem cellD_vals (d : Dt) : (cellD d).map (·.2) = (d.map (·.2)).map PyData.str := by
  unfold cellD
  rw [List.map_map, List.map_map]
  rfl
theorem lenB : ("b" : Str).length = 1 := by decide +kernel
theorem lenA : (tl ("acdefghijklmnopqrstuvwxyz" : Str)).length = 25 := by decide +kernel
theorem lowA : ∀ a ∈ tl ("acdefghijklmnopqrstuvwxyz" : Str), 97 ≤ a ∧ a ≤ 122 ∧ a ≠ 98 := by decide +kernel
theorem repB (n : Nat) : tl (strRep "b" n) = List.replicate n 98 := by
  rw [tl_rep, show tl ("b" : Str) = [98] by decide +kernel]
  induction n with
  | zero => rfl
  | succ n ih => rw [List.replicate_succ, List.flatten_cons, ih, List.replicate_succ]; rfl
theorem repB_len (n : Nat) : (strRep "b" n).length = n := by
  rw [TL.len_tl]
  show (tl (strRep "b" n)).length = n
  rw [repB, List.length_replicate]
theorem ok__law_words (n : Nm mg) (c__law_draw : GF P w K mg base 1 "_law_draw" (liftC K w sp__law_draw)) {f : Addr} {fd : FuncData} (F : Fun K "_law_words" "_law_words" s__law_words f fd) :
    FnOk P w K mg base CX0 2 f fd ["source", "script", "most"] (liftC K w sp__law_words) := by
  have n_len := n.len_
  have n_list := n.list_
  have n_min := n.min_
  have n_range := n.range_
  refine FnOk.v F sc__law_words (fun us c Q h => ?_) (fun cdv A outer s H E us c Q hr h => ?_)
  · obtain ⟨pl, n, ns, m, rfl, _⟩ := h; rfl
  obtain ⟨pl, n', ns, m, rfl, rfl, hp, hn, m0, m1, q⟩ := h
  refine ⟨_, (pss_cons (ps_set (i := 3) sc__law_words.nd rfl (.inl rfl) (pe_ix (kix_seq (K := K) rfl) (pe_lst (pa_cons (pe_op (kou_add (K := K) rfl) pe_int (pe_fc c__law_draw hr (by decide) (by rfl) (pa_cons (pv 0) (pa_cons pe_int pa_nil)))) (pa_cons (pe_op (kou_add (K := K) rfl) pe_int (pe_fc c__law_draw hr (by decide) (by rfl) (pa_cons (pv 0) (pa_cons (pv 2) pa_nil)))) (pa_cons (pv 2) pa_nil)))) (pe_fc c__law_draw hr (by decide) (by rfl) (pa_cons (pv 0) (pa_cons pe_int pa_nil))) (fun _ _ => rfl)))
      (pss_cons (PS.as_p false false (ps_par (i := 4) (j := 5) rfl sc__law_words.nd rfl rfl (by decide) rfl rfl (pa_cons (pe_fc c__law_draw hr (by decide) (by rfl) (pa_cons (pv 0) (pa_cons pe_int pa_nil))) (pa_cons (pe_op (kou_add (K := K) rfl) pe_int (pe_fc c__law_draw hr (by decide) (by rfl) (pa_cons (pv 0) (pa_cons pe_int pa_nil)))) pa_nil)) (by rfl)))
      (pss_cons (ps_set (i := 6) sc__law_words.nd rfl (.inr rfl) (pe_ix (kix_seq (K := K) rfl) (pe_lst (pa_cons pe_str (pa_cons pe_str (pa_cons pe_str pa_nil)))) (pe_fc c__law_draw hr (by decide) (by rfl) (pa_cons (pv 0) (pa_cons pe_int pa_nil))) (fun _ _ => rfl)))
      (pss_cons (ps_set (i := 7) sc__law_words.nd rfl (.inl rfl) (kpe_join (K := K) rfl pe_str (pe_lc (own := [("k", 14)]) rfl sc__law_words.nd (pi_range1 (by rfl) n_range (pa_cons (pe_fc c__law_draw hr (by decide) (by rfl) (pa_cons (pv 0) (pa_cons pe_int pa_nil))) pa_nil)) (blkOk_by (own := [("k", 14)]) (N := N__law_words) (sc := defScope s__law_words) (by decide +kernel)) (fun _ _ _ _ _ => (pg_name (i := 14) sc__law_words.nd rfl (.inl rfl))) (fun _ _ _ _ _ => pts_nil) (fun _ _ _ _ _ => (pe_ix (kix_seq (K := K) rfl) (pv 6) (pe_fc c__law_draw hr (by decide) (by rfl) (pa_cons (pv 0) (pa_cons (pe_callB (kcu_len (K := K) rfl) (by rfl) n_len (by decide +kernel) (pa_cons (pv 6) pa_nil)) pa_nil))) (fun _ _ => rfl))))))
      (pss_cons (PS.as_c (ps_set (i := 8) sc__law_words.nd rfl (.inl rfl) pe_dnewK))
      (pss_cons (ps_for PassesOwn.never rfl (pi_range1 (by rfl) n_range (pa_cons (pe_op ou_mul pe_int (pv 3)) pa_nil)) (pg_name (i := 9) sc__law_words.nd rfl (.inl rfl))
      (pss_cons (ps_set (i := 10) sc__law_words.nd rfl (.inl rfl) (kpe_join (K := K) rfl pe_str (pe_lc (own := [("k", 14)]) rfl sc__law_words.nd (pi_range1 (by rfl) n_range (pa_cons (pv 5) pa_nil)) (blkOk_by (own := [("k", 14)]) (N := N__law_words) (sc := defScope s__law_words) (by decide +kernel)) (fun _ _ _ _ _ => (pg_name (i := 14) sc__law_words.nd rfl (.inl rfl))) (fun _ _ _ _ _ => pts_nil) (fun _ _ _ _ _ => (pe_ix (kix_seq (K := K) rfl) (pv 6) (pe_fc c__law_draw hr (by decide) (by rfl) (pa_cons (pv 0) (pa_cons (pe_callB (kcu_len (K := K) rfl) (by rfl) n_len (by decide +kernel) (pa_cons (pv 6) pa_nil)) pa_nil))) (fun _ _ => rfl))))))
        (pss_cons (ps_set (i := 11) sc__law_words.nd rfl (.inl rfl) (kpe_join (K := K) rfl pe_str (pe_lc (own := [("k", 14)]) rfl sc__law_words.nd (pi_range1 (by rfl) n_range (pa_cons (pe_fc c__law_draw hr (by decide) (by rfl) (pa_cons (pv 0) (pa_cons pe_int pa_nil))) pa_nil)) (blkOk_by (own := [("k", 14)]) (N := N__law_words) (sc := defScope s__law_words) (by decide +kernel)) (fun _ _ _ _ _ => (pg_name (i := 14) sc__law_words.nd rfl (.inl rfl))) (fun _ _ _ _ _ => pts_nil) (fun _ _ _ _ _ => (pe_ix (kix_seq (K := K) rfl) (pv 6) (pe_fc c__law_draw hr (by decide) (by rfl) (pa_cons (pv 0) (pa_cons (pe_callB (kcu_len (K := K) rfl) (by rfl) n_len (by decide +kernel) (pa_cons (pv 6) pa_nil)) pa_nil))) (fun _ _ => rfl))))))
        (pss_cons (ps_set (i := 12) sc__law_words.nd rfl (.inl rfl) (pe_op (kou_add (K := K) rfl) (pe_op ou_mul pe_str (pe_fc c__law_draw hr (by decide) (by rfl) (pa_cons (pv 0) (pa_cons pe_int pa_nil)))) (pe_ix (kix_seq (K := K) rfl) pe_str (pe_fc c__law_draw hr (by decide) (by rfl) (pa_cons (pv 0) (pa_cons pe_int pa_nil))) (fun _ _ => rfl))))
        (pss_cons (ps_set (i := 13) sc__law_words.nd rfl (.inl rfl) (pe_ifExp (pt_cmpR (kou_eq (K := K) rfl hr.units) (pv 4) pe_int (nomark _)) (pv 12) (pv 10)))
        (pss_one (ps_if (PW.pt (pw_and (pt_cmpR (ou_niD (hdict hr)) (pv 13) (pv 8) rfl) (pw_and1 (pt_cmpR ou_lt (pe_callB cu_lenD (by rfl) n_len (by decide +kernel) (pa_cons (pv 8) pa_nil)) (pe_ifExp (pt_cmpR (kou_eq (K := K) rfl hr.units) (pv 1) (pe_lst pa_nil) (nomark _)) (pe_callB (call_min2 rfl) (by rfl) n_min (by decide +kernel) (pa_cons (pv 3) (pa_cons pe_int pa_nil))) (pv 3)) (nomark _)))))
      (pss_one (ps_dput (hdict hr) (pv 8) (pv 13) (pe_ix (kix_seq (K := K) rfl) (pe_lst (pa_cons (pv 10) (pa_cons (pe_op (kou_add (K := K) rfl) (pv 7) (pv 10)) (pa_cons (pv 12) (pa_cons (pe_op (kou_add (K := K) rfl) (pv 10) (pv 11)) pa_nil))))) (pv 4) (fun _ _ => rfl)) (by rfl)))
      pss_nil)))))))
      (pss_one (ps_ret (pe_listVals rfl (by rfl) n_list (pv 8)))))))))), ?_⟩
  walk_at "go"
  refine ⟨pl, n', 6, rfl, rfl, hp, by omega, by decide, by decide, fun a1 p1 hp1 a10 a11 => ?_⟩
  walk_at "go"
  refine ⟨p1, _, m, rfl, rfl, hp1, by omega, by omega, log_small (by omega), fun a2 p2 hp2 a20 a21 => ?_⟩
  walk_at "go"
  refine ⟨p2, _, 3, rfl, rfl, hp2, by omega, by decide, by decide, fun a3 p3 hp3 a30 a31 => ?_⟩
  walk_at "go"
  obtain ⟨v, ev, mv⟩ := atI_lt (xs := [PyData.int (1 + a1), .int (1 + a2), .int m]) a30 a31
  obtain ⟨M, rfl, M0, M1⟩ : ∃ M : Int, v = .int M ∧ 1 ≤ M ∧ M ≤ max m 6 := by
    simp only [List.mem_cons, List.not_mem_nil, or_false] at mv
    rcases mv with rfl | rfl | rfl
    · exact ⟨_, rfl, by omega, by omega⟩
    · exact ⟨_, rfl, by omega, by omega⟩
    · exact ⟨_, rfl, by omega, by omega⟩
  refine w_ixL .o ev ?_
  walk_at "go"
  refine ⟨p3, _, 4, rfl, rfl, hp3, by omega, by decide, by decide, fun st p4 hp4 st0 st1 => ?_⟩
  walk_at "go"
  refine ⟨p4, _, 6, rfl, rfl, hp4, by omega, by decide, by decide, fun a5 p5 hp5 a50 a51 => ?_⟩
  walk_at "go"
  refine ⟨p5, _, 3, rfl, rfl, hp5, by omega, by decide, by decide, fun d3 p6 hp6 d30 d31 => ?_⟩
  clear hp hp1 hp2 hp3 hp4 hp5 ev mv
  walk_at "go"
  obtain ⟨v, ev, mv⟩ := atI_lt (xs := [PyData.str "ab", .str "abc", .str "abcdefghijklmnopqrstuvwxyz"]) d30 d31
  obtain ⟨L, rfl, hL0, hL1, hLc⟩ : ∃ L : Str, v = .str L ∧ 1 ≤ L.length ∧ L.length ≤ 1000 ∧ ∀ c ∈ tl L, 97 ≤ c ∧ c ≤ 122 := by
    have h3 : ∀ L ∈ (["ab", "abc", "abcdefghijklmnopqrstuvwxyz"] : List Str), 1 ≤ L.length ∧ L.length ≤ 1000 ∧ ∀ c ∈ tl L, 97 ≤ c ∧ c ≤ 122 := by decide +kernel
    simp only [List.mem_cons, List.not_mem_nil, or_false] at mv
    rcases mv with rfl | rfl | rfl
    · exact ⟨_, rfl, h3 _ (by simp)⟩
    · exact ⟨_, rfl, h3 _ (by simp)⟩
    · exact ⟨_, rfl, h3 _ (by simp)⟩
  refine w_ixL .o ev ?_
  walk_at "go"
  refine ⟨p6, _, 6, rfl, rfl, hp6, by omega, by decide, by decide, fun d7 p7 hp7 d70 d71 => ?_⟩
  clear hp6 ev mv
  walk_at "go"
  refine vcoA (it_1 (by omega) (by omega)) (on_name (by decide)) (by rw [sizeLine_eq]; omega) (fun k acc c' => ∃ (pl' : List PyData) (zs : List Nat), c' = .l pl' :: [] ∧ Sb pl' (n' + 7 + k) ∧ acc = (zs.map fun a => (⟨#[a]⟩ : Str)).map .str ∧ zs.length = k ∧ ∀ a ∈ zs, 97 ≤ a ∧ a ≤ 122) ⟨_, [], rfl, hp7.mono (by omega), rfl, rfl, by simp⟩ (fun _ _ _ _ => trivial) ?_ ?_
  · clear hp7
    rintro k d acc c' hk hal rfl ⟨pl', zs, rfl, hp', rfl, zl, zm⟩
    have hk2 : k < 6 := by omega
    walk_at "go"
    refine ⟨_, _, _, rfl, rfl, hp', by omega, by omega, log_small (by omega), fun d8 p8 hp8 d80 d81 => ?_⟩
    walk_at "go"
    obtain ⟨a, ea, ma⟩ := atI_lt (xs := tl L) d80 (by rw [← TL.len_tl]; exact d81)
    refine w_ixS (by rw [sizeLine_eq]; omega) ea ?_
    walk_at "go"
    refine ⟨_, zs ++ [a], rfl, hp8, by simp, by simp [zl], fun x hx => ?_⟩
    rcases List.mem_append.mp hx with h | h
    · exact zm x h
    · rw [List.mem_singleton.mp h]
      exact hLc a ma
  clear hp7
  rintro acc c' ⟨pl', zs, rfl, hp7, rfl, zl, zm⟩
  have e : ((zs.map fun a => (⟨#[a]⟩ : Str)).map (·.length)).sum = zs.length := by
    rw [List.map_map]
    exact sum_ones zs
  walk_at "go"
  refine w_join .o (by rw [e, List.length_map]; show zs.length + zs.length * 0 ≤ _; omega) ?_
  have et := tl_spell zs
  have hdc : ∀ c ∈ tl (Txt.join "" (zs.map fun c => (⟨#[c]⟩ : Str))), 97 ≤ c ∧ c ≤ 122 := by
    rw [et]
    exact zm
  have hdl : (Txt.join "" (zs.map fun c => (⟨#[c]⟩ : Str))).length = zs.length := by rw [TL.len_tl]; exact congrArg _ et
  generalize Txt.join "" (zs.map fun c => (⟨#[c]⟩ : Str)) = hd at *
  rw [zl] at hdl
  clear et e zm zl
  walk_at "go"
  refine vforA (it_1 (by omega) (by omega)) (fun i e c => ∃ (y9 y10 y11 y12 y13 y14 : Option W) (D : Dt) (pl : List PyData), e = [some (.c 0), some (.s (ns.map .int)), some (.d (.int m)), some (.d (.int M)), some (.d (.int st)), some (.d (.int (1 + a5))), some (.d (.str L)), some (.d (.str hd)), some (.c 1), y9, y10, y11, y12, y13, y14] ∧ c = [.l pl, .m (cellD D)] ∧ Sb pl (n' + 13 + 40 * i) ∧ (D.length : Int) ≤ M ∧ (D.map (·.1)).Nodup ∧ ∀ p ∈ D, Fm st (1 + a5).toNat hd p.1 p.2) ⟨_, _, _, _, _, _, [], _, rfl, rfl, hp7.mono (by omega), by simp; omega, by simp, by simp⟩ (fun _ _ _ _ => trivial) ?_ ?_
  · clear hp7
    rintro i d e' c' hi rfl ⟨y9, y10, y11, y12, y13, y14, D, pl, rfl, rfl, hp, dl, dn, df⟩
    have hi2 : i < 240 := by omega
    walk_at "go"
    refine vcoA (it_1 (by omega) (by omega)) (on_name (by decide)) (by rw [sizeLine_eq]; omega) (fun k acc c' => ∃ (pl' : List PyData) (zs : List Nat), c' = .l pl' :: [.m (cellD D)] ∧ Sb pl' (n' + 13 + 40 * i + k) ∧ acc = (zs.map fun a => (⟨#[a]⟩ : Str)).map .str ∧ zs.length = k ∧ ∀ a ∈ zs, 97 ≤ a ∧ a ≤ 122) ⟨_, [], rfl, hp.mono (by omega), rfl, rfl, by simp⟩ (fun _ _ _ _ => trivial) ?_ ?_
    · clear hp
      rintro k d acc c' hk hal rfl ⟨pl', zs, rfl, hp', rfl, zl, zm⟩
      have hk2 : k < 6 := by omega
      walk_at "go"
      refine ⟨_, _, _, rfl, rfl, hp', by omega, by omega, log_small (by omega), fun d8 p8 hp8 d80 d81 => ?_⟩
      walk_at "go"
      obtain ⟨a, ea, ma⟩ := atI_lt (xs := tl L) d80 (by rw [← TL.len_tl]; exact d81)
      refine w_ixS (by rw [sizeLine_eq]; omega) ea ?_
      walk_at "go"
      refine ⟨_, zs ++ [a], rfl, hp8, by simp, by simp [zl], fun x hx => ?_⟩
      rcases List.mem_append.mp hx with h | h
      · exact zm x h
      · rw [List.mem_singleton.mp h]
        exact hLc a ma
    clear hp
    rintro acc c' ⟨pl', zs, rfl, hp, rfl, zl, zm⟩
    have e : ((zs.map fun a => (⟨#[a]⟩ : Str)).map (·.length)).sum = zs.length := by
      rw [List.map_map]
      exact sum_ones zs
    walk_at "go"
    refine w_join .o (by rw [e, List.length_map]; show zs.length + zs.length * 0 ≤ _; omega) ?_
    have et := tl_spell zs
    have bodyc : ∀ c ∈ tl (Txt.join "" (zs.map fun c => (⟨#[c]⟩ : Str))), 97 ≤ c ∧ c ≤ 122 := by
      rw [et]
      exact zm
    have bodyl : (Txt.join "" (zs.map fun c => (⟨#[c]⟩ : Str))).length = zs.length := by rw [TL.len_tl]; exact congrArg _ et
    generalize Txt.join "" (zs.map fun c => (⟨#[c]⟩ : Str)) = body at *
    rw [zl] at bodyl
    clear et e zm zl
    walk_at "go"
    refine ⟨_, _, 7, rfl, rfl, hp, by omega, by decide, by decide, fun d7 p7 hp7 d70 d71 => ?_⟩
    clear hp
    walk_at "go"
    refine vcoA (it_1 (by omega) (by omega)) (on_name (by decide)) (by rw [sizeLine_eq]; omega) (fun k acc c' => ∃ (pl' : List PyData) (zs : List Nat), c' = .l pl' :: [.m (cellD D)] ∧ Sb pl' (n' + 13 + 40 * i + 7 + k) ∧ acc = (zs.map fun a => (⟨#[a]⟩ : Str)).map .str ∧ zs.length = k ∧ ∀ a ∈ zs, 97 ≤ a ∧ a ≤ 122) ⟨_, [], rfl, hp7.mono (by omega), rfl, rfl, by simp⟩ (fun _ _ _ _ => trivial) ?_ ?_
    · clear hp7
      rintro k d acc c' hk hal rfl ⟨pl', zs, rfl, hp', rfl, zl, zm⟩
      have hk2 : k < 7 := by omega
      walk_at "go"
      refine ⟨_, _, _, rfl, rfl, hp', by omega, by omega, log_small (by omega), fun d8 p8 hp8 d80 d81 => ?_⟩
      walk_at "go"
      obtain ⟨a, ea, ma⟩ := atI_lt (xs := tl L) d80 (by rw [← TL.len_tl]; exact d81)
      refine w_ixS (by rw [sizeLine_eq]; omega) ea ?_
      walk_at "go"
      refine ⟨_, zs ++ [a], rfl, hp8, by simp, by simp [zl], fun x hx => ?_⟩
      rcases List.mem_append.mp hx with h | h
      · exact zm x h
      · rw [List.mem_singleton.mp h]
        exact hLc a ma
    clear hp7
    rintro acc c' ⟨pl', zs, rfl, hp7, rfl, zl, zm⟩
    have e : ((zs.map fun a => (⟨#[a]⟩ : Str)).map (·.length)).sum = zs.length := by
      rw [List.map_map]
      exact sum_ones zs
    walk_at "go"
    refine w_join .o (by rw [e, List.length_map]; show zs.length + zs.length * 0 ≤ _; omega) ?_
    have et := tl_spell zs
    have tailc : ∀ c ∈ tl (Txt.join "" (zs.map fun c => (⟨#[c]⟩ : Str))), 97 ≤ c ∧ c ≤ 122 := by
      rw [et]
      exact zm
    have taill : (Txt.join "" (zs.map fun c => (⟨#[c]⟩ : Str))).length = zs.length := by rw [TL.len_tl]; exact congrArg _ et
    generalize Txt.join "" (zs.map fun c => (⟨#[c]⟩ : Str)) = tail at *
    rw [zl] at taill
    clear et e zm zl
    walk_at "go"
    refine ⟨_, _, 12, rfl, rfl, hp7, by omega, by decide, by decide, fun d8 p8 hp8 d80 d81 => ?_⟩
    clear hp7
    walk_at "go"
    refine w_mulS (by omega) (by omega) (by rw [lenB, sizeLine_eq]; omega) ?_
    walk_at "go"
    refine ⟨p8, _, 25, rfl, rfl, hp8, by omega, by decide, by decide, fun d9 p9 hp9 d90 d91 => ?_⟩
    clear hp8
    walk_at "go"
    obtain ⟨a, ea, ma⟩ := atI_lt (xs := tl ("acdefghijklmnopqrstuvwxyz" : Str)) d90 (by rw [lenA]; exact d91)
    obtain ⟨a0, a1, a2⟩ := lowA a ma
    refine w_ixS (by rw [sizeLine_eq]; exact Nat.le_of_ble_eq_true rfl) ea ?_
    walk_at "go"
    have cl : (strRep "b" d8.toNat).length + (⟨#[a]⟩ : Str).length ≤ sizeLine := by rw [repB_len, sizeLine_eq, len_one]; omega
    try (refine w_addS cl ?_)
    walk_at "go"
    obtain ⟨comb, hc, lc⟩ : ∃ comb : Str, strRep "b" d8.toNat ++ ⟨#[a]⟩ = comb ∧ tl comb = List.replicate d8.toNat 98 ++ [a] := ⟨_, rfl, by rw [tl_app, repB]⟩
    rw [hc]
    walk_at "go"
    refine ite_joinQ (fun u c => ∃ nm : Str, u = .d (.str nm) ∧ c = [.l p9, .m (cellD D)] ∧ (st = 2 ∧ nm = comb ∨ st ≠ 2 ∧ nm = body)) (fun c => ?_) (fun c => ?_) ?_
    · walk_at "go"
      exact ⟨_, rfl, rfl, .inl ⟨of_decide_eq_true c, rfl⟩⟩
    · walk_at "go"
      exact ⟨_, rfl, rfl, .inr ⟨fun z => c (decide_eq_true z), rfl⟩⟩
    rintro u c1 ⟨nm, rfl, rfl, hnm⟩
    walk_at "go"
    refine w_niD (key := .inr nm) rfl ?_
    walk_at "go"
    have keep : ∀ x1 x2 x3 x4 x5 x6 : Option W, ∃ (y9 y10 y11 y12 y13 y14 : Option W) (D' : Dt) (pl : List PyData), [some (.c 0), some (.s (ns.map .int)), some (.d (.int m)), some (.d (.int M)), some (.d (.int st)), some (.d (.int (1 + a5))), some (.d (.str L)), some (.d (.str hd)), some (W.c 1), x1, x2, x3, x4, x5, x6] = [some (.c 0), some (.s (ns.map .int)), some (.d (.int m)), some (.d (.int M)), some (.d (.int st)), some (.d (.int (1 + a5))), some (.d (.str L)), some (.d (.str hd)), some (.c 1), y9, y10, y11, y12, y13, y14] ∧ [Cell.l p9, .m (cellD D)] = [.l pl, .m (cellD D')] ∧ Sb pl (n' + 13 + 40 * (i + 1)) ∧ (D'.length : Int) ≤ M ∧ (D'.map (·.1)).Nodup ∧ ∀ p ∈ D', Fm st (1 + a5).toNat hd p.1 p.2 :=
      fun _ _ _ _ _ _ => ⟨_, _, _, _, _, _, D, p9, rfl, rfl, hp9.mono (by omega), dl, dn, df⟩
    refine ite2 (fun c => ?_) (fun c => ?_)
    · have nin : nm ∉ D.map (·.1) := fun h => by
        obtain ⟨z, hz⟩ := valG_mem h
        rw [valG_cell, hz] at c
        cases c
      walk_at "go"
      refine w_lenD rfl ?_
      walk_at "go"
      refine w_eq0 .s (shaped_ints ns) ?_
      walk_at "go"
      refine ite_joinQ (fun u c => ∃ lim : Int, u = .d (.int lim) ∧ c = [.l p9, .m (cellD D)] ∧ lim ≤ M) (fun c => ?_) (fun c => ?_) ?_
      · walk_at "go"
        exact ⟨rfl, by split <;> omega⟩
      · walk_at "go"
        exact ⟨rfl, Int.le_refl _⟩
      rintro u c1 ⟨lim, rfl, rfl, hlim⟩
      walk_at "go"
      refine ite2 (fun c => ?_) (fun c => ?_)
      · have dl2 : (D.length : Int) < lim := by
          have := of_decide_eq_true c
          rw [cellD, List.length_map] at this
          exact this
        walk_at "go"
        have z1 : hd.length + body.length ≤ sizeLine := by rw [sizeLine_eq]; omega
        have z2 : body.length + tail.length ≤ sizeLine := by rw [sizeLine_eq]; omega
        try (refine w_addS z1 ?_)
        walk_at "go"
        try (refine w_addS z2 ?_)
        walk_at "go"
        obtain ⟨v, ev, hv⟩ : ∃ v : Str, atI [PyData.str body, .str (hd ++ body), .str comb, .str (body ++ tail)] st = some (.str v) ∧ Fm st (1 + a5).toNat hd nm v := by
          have okB : okW body := ⟨by omega, by omega, bodyc⟩
          have okH : okW (hd ++ body) := ⟨by rw [len_app]; omega, by rw [len_app]; omega, fun c hc => (mem_app.mp hc).elim (hdc c) (bodyc c)⟩
          have okT : okW (body ++ tail) := ⟨by rw [len_app]; omega, by rw [len_app]; omega, fun c hc => (mem_app.mp hc).elim (bodyc c) (tailc c)⟩
          have okC : okW comb := by
            have : comb.length = d8.toNat + 1 := by
              rw [TL.len_tl]
              show (tl comb).length = _
              rw [lc]
              simp
            refine ⟨by omega, by omega, fun c hc => ?_⟩
            rw [lc] at hc
            rcases List.mem_append.mp hc with h | h
            · have := List.eq_of_mem_replicate h
              omega
            · rw [List.mem_singleton.mp h]
              exact ⟨a0, a1⟩
          have s4 : st = 0 ∨ st = 1 ∨ st = 2 ∨ st = 3 := by omega
          rcases s4 with rfl | rfl | rfl | rfl
          · obtain ⟨h, _⟩ | ⟨_, rfl⟩ := hnm
            · omega
            · exact ⟨_, rfl, okB, .inl ⟨rfl, by omega, rfl⟩⟩
          · obtain ⟨h, _⟩ | ⟨_, rfl⟩ := hnm
            · omega
            · exact ⟨_, rfl, okH, .inr (.inl ⟨rfl, by omega, rfl⟩)⟩
          · obtain ⟨_, rfl⟩ | ⟨h, _⟩ := hnm
            · exact ⟨_, rfl, okC, .inr (.inr (.inl ⟨rfl, rfl, _, _, lc, a2⟩))⟩
            · omega
          · obtain ⟨h, _⟩ | ⟨_, rfl⟩ := hnm
            · omega
            · exact ⟨_, rfl, okT, .inr (.inr (.inr ⟨rfl, by omega, _, rfl⟩))⟩
        refine w_ixL .o ev ?_
        walk_at "go"
        refine ⟨_, _, .inr nm, _, rfl, rfl, rfl, rfl, by rw [cellD, List.length_map, sizeLine_eq]; omega, ?_⟩
        walk_at "go"
        refine ⟨_, _, _, _, _, _, D ++ [(nm, v)], p9, rfl, ?_, hp9.mono (by omega), by rw [List.length_append, List.length_singleton]; omega, ?_, fun p hp => ?_⟩
        · show [Cell.l p9, Cell.m (putG (cellD D) (Sum.inr nm) (.str v))] = _
          rw [putG_cell, putG_new nin]
        · rw [List.map_append, List.nodup_append]
          exact ⟨dn, by simp, fun x hx y hy e => nin (by have := List.mem_singleton.mp hy; rw [this] at e; rw [e] at hx; exact hx)⟩
        · rcases List.mem_append.mp hp with h | h
          · exact df p h
          · rw [List.mem_singleton.mp h]
            exact hv
      · walk_at "go"
        exact keep _ _ _ _ _ _
    · walk_at "go"
      exact keep _ _ _ _ _ _
  · rintro e' c' ⟨y9, y10, y11, y12, y13, y14, D, pl, rfl, rfl, hp, dl, dn, df⟩
    walk_at "go"
    rw [cellD_vals]
    exact q _ _ (fm_bk dn df (by omega)) (by rw [List.length_map]; omega) (hp.mono (by omega))
end
end My
open PySem PySem.Spec PyProof.Rows L2 Gd
namespace My
section
variable {P : Program} {w : World} {K : PySem.W.Frag} {mg : Str → Option Value} {base : Heap}
def sp__law_same : Nat → SpV := fun d us c Q => ∃ x, us = [bw x, bw x] ∧ c = [] ∧ eqOk d x = true ∧ Q (.d (.bool true)) []
theorem no__law_same : ∀ us c Q, ¬ sp__law_same 0 us c Q := fun us c Q h => by obtain ⟨x, _, _, h, _⟩ := h; cases x <;> cases h
theorem ok__law_same (n : Nm mg) (d : Nat)  (c__law_same : GC P w K mg base (0 + d) "_law_same" (lift K w (sp__law_same d))) {f : Addr} {fd : FuncData} (F : Fun K "_law_same" "_law_same" s__law_same f fd) :
    GFn P w K mg base CX0 (0 + d + 1) f fd ["result", "expected"] (lift K w (sp__law_same (d + 1))) := by
  have n_all := n.all_
  have n_bool := n.bool_
  have n_isinstance := n.isinstance_
  have n_len := n.len_
  have n_list := n.list_
  have n_str := n.str_
  have n_tuple := n.tuple_
  have n_zip := n.zip_
  refine GFn.v F sc__law_same (fun us c Q h => ?_) (fun cdv A outer s H E us c Q gd hr h => ?_)
  · obtain ⟨x, rfl, _⟩ := h; rfl
  obtain ⟨x, rfl, rfl, ok, q⟩ := h
  refine ⟨_, (pss_cons (ps_if (kpt_u (K := K) rfl (pe_callB (kcu_isi2 (K := K) rfl) (by rfl) n_isinstance (by decide +kernel) (pa_cons (pv 1) (pa_cons (pe_tup (pa_cons (pe_bltn (v := .ty "list") (by rfl) n_list (by decide +kernel) rfl) (pa_cons (pe_bltn (v := .ty "tuple") (by rfl) n_tuple (by decide +kernel) rfl) pa_nil))) pa_nil))) (by intro _; rfl))
      (pss_cons (ps_if (PW.pt (pw_or (pt_cmpR (kou_ne (K := K) rfl hr.units) (pe_callB (kcu_isi (K := K) rfl) (by rfl) n_isinstance (by decide +kernel) (pa_cons (pv 0) (pa_cons (pe_bltn (v := .ty "list") (by rfl) n_list (by decide +kernel) rfl) pa_nil))) (pe_callB (kcu_isi (K := K) rfl) (by rfl) n_isinstance (by decide +kernel) (pa_cons (pv 1) (pa_cons (pe_bltn (v := .ty "list") (by rfl) n_list (by decide +kernel) rfl) pa_nil))) (nomark _)) (pw_or1 (pt_not (kpt_u (K := K) rfl (pe_callB (kcu_isi2 (K := K) rfl) (by rfl) n_isinstance (by decide +kernel) (pa_cons (pv 0) (pa_cons (pe_tup (pa_cons (pe_bltn (v := .ty "list") (by rfl) n_list (by decide +kernel) rfl) (pa_cons (pe_bltn (v := .ty "tuple") (by rfl) n_tuple (by decide +kernel) rfl) pa_nil))) pa_nil))) (by intro _; rfl))))))
      (pss_one (ps_ret pe_bl))
      pss_nil)
        (pss_one (ps_ret (kpe_andT (K := K) rfl (pe_cmpR (kou_eq (K := K) rfl hr.units) (pe_callB (kcu_len (K := K) rfl) (by rfl) n_len (by decide +kernel) (pa_cons (pv 0) pa_nil)) (pe_callB (kcu_len (K := K) rfl) (by rfl) n_len (by decide +kernel) (pa_cons (pv 1) pa_nil)) (nomark _)) (pe_one (pe_callB (kcr_all (K := K) rfl rfl) (by rfl) n_all (by decide +kernel) (pa_cons (pe_lc (own := [("one", 2), ("two", 3)]) rfl sc__law_same.nd (kpi_zipA (K := K) rfl (by rfl) n_zip (pa_cons (pv 0) (pa_cons (pv 1) pa_nil))) (blkOk_by (own := [("one", 2), ("two", 3)]) (N := N__law_same) (sc := defScope s__law_same) (by decide +kernel)) (fun _ _ _ _ _ => (kpg_tup (K := K) (n := 2) rfl rfl (pgs_cons (pg_name (i := 2) sc__law_same.nd rfl (.inl rfl)) (pgs_cons (pg_name (i := 3) sc__law_same.nd rfl (.inl rfl)) pgs_nil)))) (fun _ _ _ _ _ => pts_nil) (fun _ _ _ _ _ => (pe_gc c__law_same gd hr (by omega) (by rfl) (pa_cons (pv 2) (pa_cons (pv 3) pa_nil))))) pa_nil)))))))
      pss_nil)
      (pss_cons (ps_if (PW.pt (pw_or (pt_cmpR op_isN (pv 1) pe_non (nomark _)) (pw_or1 (pt_cmpR op_isN (pv 0) pe_non (nomark _)))))
      (pss_one (ps_ret (kpe_andT (K := K) rfl (pe_cmpR op_isN (pv 1) pe_non (nomark _)) (pe_one (pe_cmpR op_isN (pv 0) pe_non (nomark _))))))
      pss_nil)
      (pss_cons (ps_if (PW.pt (pw_or (kpt_u (K := K) rfl (pe_callB (kcu_isi (K := K) rfl) (by rfl) n_isinstance (by decide +kernel) (pa_cons (pv 1) (pa_cons (pe_bltn (v := .ty "bool") (by rfl) n_bool (by decide +kernel) rfl) pa_nil))) (by intro _; rfl)) (pw_or1 (kpt_u (K := K) rfl (pe_callB (kcu_isi (K := K) rfl) (by rfl) n_isinstance (by decide +kernel) (pa_cons (pv 0) (pa_cons (pe_bltn (v := .ty "bool") (by rfl) n_bool (by decide +kernel) rfl) pa_nil))) (by intro _; rfl)))))
      (pss_one (ps_ret (kpe_andT (K := K) rfl (pe_callB (kcu_isi (K := K) rfl) (by rfl) n_isinstance (by decide +kernel) (pa_cons (pv 1) (pa_cons (pe_bltn (v := .ty "bool") (by rfl) n_bool (by decide +kernel) rfl) pa_nil))) (kpe_andT (K := K) rfl (pe_callB (kcu_isi (K := K) rfl) (by rfl) n_isinstance (by decide +kernel) (pa_cons (pv 0) (pa_cons (pe_bltn (v := .ty "bool") (by rfl) n_bool (by decide +kernel) rfl) pa_nil))) (pe_one (pe_cmpR (kou_eq (K := K) rfl hr.units) (pv 0) (pv 1) (nomark _)))))))
      pss_nil)
      (pss_one (ps_ret (kpe_andT (K := K) rfl (pe_cmpR (kou_eq (K := K) rfl hr.units) (pe_callB (kcu_isi (K := K) rfl) (by rfl) n_isinstance (by decide +kernel) (pa_cons (pv 0) (pa_cons (pe_bltn (v := .ty "str") (by rfl) n_str (by decide +kernel) rfl) pa_nil))) (pe_callB (kcu_isi (K := K) rfl) (by rfl) n_isinstance (by decide +kernel) (pa_cons (pv 1) (pa_cons (pe_bltn (v := .ty "str") (by rfl) n_str (by decide +kernel) rfl) pa_nil))) (nomark _)) (pe_one (pe_cmpR (kou_eq (K := K) rfl hr.units) (pv 0) (pv 1) (nomark _))))))))), ?_⟩
  cases x with
  | none =>
    show VS K w _ (startE _ [.d .none, .d .none]) _ _
    walk_at "go"
    refine w_isi2F .non rfl ?_
    walk_at "go"
    exact q
  | bool b =>
    show VS K w _ (startE _ [.d (.bool b), .d (.bool b)]) _ _
    walk_at "go"
    refine w_isi2F (.bl b) rfl ?_
    walk_at "go"
    exact q
  | int i =>
    show VS K w _ (startE _ [.d (.int i), .d (.int i)]) _ _
    walk_at "go"
    refine w_isi2F (.int i) rfl ?_
    walk_at "go"
    exact q
  | str s =>
    show VS K w _ (startE _ [.d (.str s), .d (.str s)]) _ _
    walk_at "go"
    refine w_isi2F (.str s) rfl ?_
    walk_at "go"
    exact q
  | list xs =>
    show VS K w _ (startE _ [.b xs, .b xs]) _ _
    simp only [eqOk, Bool.and_eq_true, decide_eq_true_eq, List.all_eq_true] at ok
    walk_at "go"
    refine w_isi2T (.lst .b) rfl ?_
    walk_at "go"
    refine w_isi2T (.lst .b) rfl ?_
    walk_at "go"
    refine vco_zs (fun _ => .bool true) (it_zA .b .b) ⟨.b, .b⟩ (on_tup (on_cons (by decide) (on_cons (by decide) on_nil))) (by rw [sizeLine_eq]; omega) (fun y hy => ?_) ?_
    · walk_at "go"
      refine ⟨[bw y, bw y], by cases y <;> rfl, y, rfl, rfl, ok.1 y hy, ?_⟩
      walk_at "go"
      exact ⟨rfl, rfl⟩
    · walk_at "go"
      rw [show (xs.all fun _ => true) = true by simp]
      exact q
  | tuple xs =>
    show VS K w _ (startE _ [.d (.tuple xs), .d (.tuple xs)]) _ _
    simp only [eqOk, Bool.and_eq_true, decide_eq_true_eq, List.all_eq_true] at ok
    walk_at "go"
    refine w_isi2T (.tup xs) rfl ?_
    walk_at "go"
    refine w_isi2T (.tup xs) rfl ?_
    walk_at "go"
    refine vco_zs (fun _ => .bool true) it_zT trivial (on_tup (on_cons (by decide) (on_cons (by decide) on_nil))) (by rw [sizeLine_eq]; omega) (fun y hy => ?_) ?_
    · walk_at "go"
      refine ⟨[bw y, bw y], by cases y <;> rfl, y, rfl, rfl, ok.1 y hy, ?_⟩
      walk_at "go"
      exact ⟨rfl, rfl⟩
    · walk_at "go"
      rw [show (xs.all fun _ => true) = true by simp]
      exact q
  | dict xs => cases ok
theorem mapErase {α β : Type} (f : α → β) : ∀ (l : List α) (j : Nat), (l.map f).eraseIdx j = (l.eraseIdx j).map f
  | [], _ => rfl
  | _ :: _, 0 => rfl
  | a :: l, j + 1 => by
    rw [List.map_cons, List.eraseIdx_cons_succ, List.eraseIdx_cons_succ, List.map_cons, mapErase f l j]
def sp__law_mixed : SpV := fun us c Q => ∃ (pl : List PyData) (ws : List Str) (n : Nat), us = [.c 0, .b (ws.map .str)] ∧ c = [.l pl] ∧ Sb pl n ∧ n < 2 ^ 50 ∧ ws.length ≤ 1000 ∧
  ∀ (vs : List Str) (pl' : List PyData), vs.Perm ws → Sb pl' (n + 1 + ws.length) → Q (.o (vs.map .str)) [.l pl']
theorem ok__law_mixed (n : Nm mg) (c__law_draw : GF P w K mg base 1 "_law_draw" (liftC K w sp__law_draw)) {f : Addr} {fd : FuncData} (F : Fun K "_law_mixed" "_law_mixed" s__law_mixed f fd) :
    FnOk P w K mg base CX0 2 f fd ["source", "words"] (liftC K w sp__law_mixed) := by
  have n_len := n.len_
  have n_range := n.range_
  have n_sorted := n.sorted_
  refine FnOk.v F sc__law_mixed (fun us c Q h => ?_) (fun cdv A outer s H E us c Q hr h => ?_)
  · obtain ⟨pl, ws, n, rfl, _⟩ := h; rfl
  obtain ⟨pl, ws, n', rfl, rfl, hp, hn, hl, q⟩ := h
  refine ⟨_, (pss_cons (PS.as_pT true false (ps_asg (pe_tup (pa_cons (pe_callB (kcu_sort (K := K) (w := w) rfl rfl rfl) (by rfl) n_sorted (by decide +kernel) (pa_cons (pv 1) pa_nil)) (pa_cons (pe_fc c__law_draw hr (by decide) (by rfl) (pa_cons (pv 0) (pa_cons pe_int pa_nil))) pa_nil))) (kpg_tup (K := K) (n := 2) rfl rfl (pgs_cons (id (pg_name (i := 2) sc__law_mixed.nd rfl (.inr rfl))) (pgs_cons (pg_name (i := 3) sc__law_mixed.nd rfl (.inl rfl)) pgs_nil)))))
      (pss_cons (ps_if (pt_cmpR ou_gt (pv 3) pe_int (nomark _))
      (pss_one (ps_ret (pe_ifExp (pt_cmpR (kou_eq (K := K) rfl hr.units) (pv 3) pe_int (nomark _)) (pv 2) (kpe_revL (K := K) rfl (pv 2)))))
      pss_nil)
      (pss_one (ps_ret (pe_lc (own := [("k", 4)]) rfl sc__law_mixed.nd (pi_range1 (by rfl) n_range (pa_cons (pe_callB (kcu_len (K := K) rfl) (by rfl) n_len (by decide +kernel) (pa_cons (pv 1) pa_nil)) pa_nil)) (blkOk_by (own := [("k", 4)]) (N := N__law_mixed) (sc := defScope s__law_mixed) (by decide +kernel)) (fun _ _ _ _ _ => (pg_name (i := 4) sc__law_mixed.nd rfl (.inl rfl))) (fun _ _ _ _ _ => pts_nil) (fun _ _ _ _ _ => (kpe_bm (K := K) rfl PySem.F.plainAttrs_list PySem.F.slot_list_pop PySem.F.type_list_pop mt_popAt (pv 2) (pa_cons (pe_fc c__law_draw hr (by decide) (by rfl) (pa_cons (pv 0) (pa_cons (pe_callB (kcu_len (K := K) rfl) (by rfl) n_len (by decide +kernel) (pa_cons (pv 2) pa_nil)) pa_nil))) pa_nil)))))))), ?_⟩
  walk_at "go"
  refine s_txt .b (by omega) fun ys pm so => ?_
  have es := srt_eq pm so
  subst es
  have sl := srt_len ws
  walk_at "go"
  refine ⟨pl, _, 4, rfl, rfl, hp, by omega, by decide, by decide, fun st p1 hp1 st0 st1 => ?_⟩
  clear hp
  walk_at "go"
  refine ite2 (fun c => ?_) (fun c => ?_)
  · walk_at "go"
    refine ite2 (fun c => ?_) (fun c => ?_)
    · walk_at "go"
      exact q _ _ (srt_perm ws) (hp1.mono (by omega))
    · walk_at "go"
      refine ⟨_, .c rfl, ?_⟩
      rw [← List.map_reverse]
      exact q _ _ ((List.reverse_perm _).trans (srt_perm ws)) (hp1.mono (by omega))
  walk_at "go"
  rw [List.length_map]
  refine vcoA (it_1 (by omega) (by omega)) (on_name (by decide)) (by rw [sizeLine_eq]; omega) (fun i acc c' => ∃ (pl' : List PyData) (ls as : List Str), c' = [.l pl', .l (ls.map .str)] ∧ Sb pl' (n' + 1 + i) ∧ ls.length = ws.length - i ∧ acc = as.map .str ∧ as.length = i ∧ (as ++ ls).Perm ws) ⟨_, _, [], rfl, hp1, by rw [sl, Nat.sub_zero], rfl, rfl, srt_perm ws⟩ (fun _ _ _ _ => trivial) ?_ ?_
  · clear hp1
    rintro i d acc c' hi hal rfl ⟨pl', ls, as, rfl, hp', ll, rfl, al, pm⟩
    have hi2 : i < ws.length := by omega
    walk_at "go"
    refine ⟨_, _, _, rfl, rfl, hp', by omega, by rw [List.length_map]; omega, log_small (by rw [List.length_map]; omega), fun d ys hy d0 d1 => ?_⟩
    walk_at "go"
    rw [List.length_map] at d1
    obtain ⟨v, ev, mv⟩ := atI_lt (xs := ls) d0 d1
    obtain ⟨j, ej, evj, hj, hj2, hj3⟩ := atI_get ev
    refine w_popAt (d := .str v) rfl (by omega) (by omega) (by rw [List.length_map]; exact ej) (by rw [List.getElem?_map, evj]; rfl) ?_
    refine ⟨_, rfl, _, ls.eraseIdx j, as ++ [v], ?_, hy, ?_, by simp, by simp [al], ?_⟩
    · show [Cell.l ys, Cell.l ((ls.map PyData.str).eraseIdx j)] = _
      rw [mapErase]
    · rw [List.length_eraseIdx_of_lt hj, ll]
      omega
    · rw [List.append_assoc]
      exact (List.Perm.append_left as (erase_perm ls j evj)).trans pm
  · rintro acc c' ⟨pl', ls, as, rfl, hp, ll, rfl, al, pm⟩
    walk_at "go"
    have e0 : ls = [] := List.eq_nil_of_length_eq_zero (by omega)
    rw [e0, List.append_nil] at pm
    exact q _ _ pm (hp.mono (by omega))
end
end My
open PySem PySem.Spec PyProof.Rows L2 Gd
namespace My
section
variable {P : Program} {w : World} {K : PySem.W.Frag} {mg : Str → Option Value} {base : Heap}
theorem asc_is {par : Str → Option Str} {S r : List Str} (F : Fo par S) (h : r ∈ asc par S) : r.Perm S ∧ Lay par r := by
  unfold asc at h
  rw [← (srt_perm S).length_eq] at h
  obtain ⟨p, L⟩ := (linesP_mem (fo_srt F)).mp h
  exact ⟨p.trans (srt_perm S), L⟩
theorem asc_0 {par : Str → Option Str} {S : List Str} (F : Fo par S) : (asc par S)[0]? = some ((asc par S)[0]?.getD []) := by
  have h0 : 0 < (asc par S).length := by rw [asc_len F]; exact nLay_pos F
  rw [List.getElem?_eq_getElem h0]
  rfl
def one0 (b : List Str) : List Str := (asc (blk b) b)[0]?.getD []
def use0 (b g : List Str) : List Str := (asc (blk g) (needN b g))[0]?.getD []
theorem one0_at {b : List Str} (gb : Gb b) : (asc (blk b) b)[0]? = some (one0 b) := asc_0 (fo_blk gb)
theorem use0_at {g : List Str} (gg : Gb g) (b : List Str) : (asc (blk g) (needN b g))[0]? = some (use0 b g) := asc_0 (fo_need gg)
theorem one0_pm {b : List Str} (gb : Gb b) : (one0 b).Perm b := (asc_is (fo_blk gb) (List.mem_of_getElem? (one0_at gb))).1
theorem use0_sho {g : List Str} (gg : Gb g) (b : List Str) : Sho b g (use0 b g) := by
  obtain ⟨p, L⟩ := asc_is (fo_need gg) (List.mem_of_getElem? (use0_at gg b))
  exact ⟨p, L⟩
theorem self_at {b : List Str} (gb : Gb b) : (asc (blk b) b)[rk (blk b) b b]? = some b := rk_at b b (fo_blk gb) (List.Perm.refl _) (lay_self gb)
/-- the ten answers -/
def asked (b g : List Str) : List PyData := [.int ((nLay (blk b) b : Nat) : Int), .int ((rk (blk b) b b : Nat) : Int), .list (b.map .str), .list ((one0 b).map .str), .int ((needN b g).length : Nat), .list ((needN b g).map .str),
  .int (nLay (blk g) (needN b g) : Nat), .list ((use0 b g).map .str), .int ((rk (blk g) (needN b g) (use0 b g) : Nat) : Int), .bool true]
theorem eqS {ws : List Str} (h : ∀ x ∈ ws, isW x = true) (hl : ws.length ≤ 3000) (d : Nat) : eqOk (d + 2) (.list (ws.map .str)) = true :=
  eqOk_lst (by rw [List.all_map, List.all_eq_true]; exact fun s hs => strOk_w (h s hs)) (by rw [List.length_map]; omega)
theorem eq_asked {b g : List Str} (T : Two b g) : eqOk 3 (.list (asked b g)) = true := by
  have h1 := T.lb
  have h2 := T.len
  have sh := use0_sho T.gg b
  have n1 := need_len T.gg T.len b
  have l1 := (one0_pm T.gb).length_eq
  have l2 := sh.p.length_eq
  refine eqOk_lst ?_ (by simp [asked])
  unfold asked
  simp only [List.all_cons, List.all_nil, Bool.and_true]
  rw [eqS T.gb.ok (by omega) 0, eqS (fun x hx => T.gb.ok x ((one0_pm T.gb).mem_iff.mp hx)) (by omega) 0, eqS (fun x hx => T.gg.ok x (need_sub hx)) (by omega) 0, eqS (fun x hx => T.gg.ok x (need_sub (sh.p.mem_iff.mp hx))) (by omega) 0]
  rfl
theorem is0 {b g : List Str} (T : Two b g) : (decide (srt (use0 b g) = needN b g) && decide (stt (play b (use0 b g)) = stt g)) = true := by
  have sh := use0_sho T.gg b
  rw [decide_eq_true (by rw [srt_congr sh.p, srt_need] : srt (use0 b g) = needN b g), decide_eq_true (sh.ends T.gb T.gg T.pm)]
  rfl
def sp__law_asked : SpV := fun us c Q => ∃ b g : List Str, us = [.b (b.map .str), .b (g.map .str)] ∧ c = [] ∧ Two b g ∧ Q (.o (asked b g)) []
theorem ok__law_asked (n : Nm mg) (c_alike_rank : GF P w K mg base 7 "alike_rank" (lift K w sp_alike_rank)) (c_count_alike : GF P w K mg base 7 "count_alike" (lift K w sp_count_alike)) (c_count_shortest : GF P w K mg base 8 "count_shortest" (lift K w sp_count_shortest)) (c_fewest_uses : GF P w K mg base 8 "fewest_uses" (lift K w sp_fewest_uses)) (c_is_shortest : GF P w K mg base 8 "is_shortest" (lift K w sp_is_shortest)) (c_needed_words : GF P w K mg base 8 "needed_words" (lift K w sp_needed_words)) (c_nth_alike : GC P w K mg base 7 "nth_alike" (lift K w sp_nth_alike)) (c_nth_shortest : GC P w K mg base 8 "nth_shortest" (lift K w sp_nth_shortest)) (c_shortest_rank : GF P w K mg base 8 "shortest_rank" (lift K w sp_shortest_rank)) {f : Addr} {fd : FuncData} (F : Fun K "_law_asked" "_law_asked" s__law_asked f fd) :
    GFn P w K mg base CX0 9 f fd ["one", "two"] (lift K w sp__law_asked) := by
  refine GFn.v F sc__law_asked (fun us c Q h => ?_) (fun cdv A outer s H E us c Q gd hr h => ?_)
  · obtain ⟨b, g, rfl, _⟩ := h; rfl
  obtain ⟨b, g, rfl, rfl, T, q⟩ := h
  refine ⟨_, (pss_cons (ps_set (i := 2) sc__law_asked.nd rfl (.inl rfl) (pe_fc c_alike_rank hr (by decide) (by rfl) (pa_cons (pv 0) pa_nil)))
      (pss_cons (ps_set (i := 3) sc__law_asked.nd rfl (.inl rfl) (pe_lst (pa_cons (pe_fc c_count_alike hr (by decide) (by rfl) (pa_cons (pv 0) pa_nil)) (pa_cons (pv 2) (pa_cons (pe_gc c_nth_alike gd hr (by decide) (by rfl) (pa_cons (pv 0) (pa_cons (pv 2) pa_nil))) (pa_cons (pe_gc c_nth_alike gd hr (by decide) (by rfl) (pa_cons (pv 0) (pa_cons pe_int pa_nil))) (pa_cons (pe_fc c_fewest_uses hr (by decide) (by rfl) (pa_cons (pv 0) (pa_cons (pv 1) pa_nil))) pa_nil)))))))
      (pss_cons (ps_set (i := 4) sc__law_asked.nd rfl (.inl rfl) (pe_gc c_nth_shortest gd hr (by decide) (by rfl) (pa_cons (pv 0) (pa_cons (pv 1) (pa_cons pe_int pa_nil)))))
      (pss_cons (ps_set (i := 3) sc__law_asked.nd rfl (.inl rfl) (pe_op (kou_add (K := K) rfl) (pv 3) (pe_lst (pa_cons (pe_fc c_needed_words hr (by decide) (by rfl) (pa_cons (pv 0) (pa_cons (pv 1) pa_nil))) (pa_cons (pe_fc c_count_shortest hr (by decide) (by rfl) (pa_cons (pv 0) (pa_cons (pv 1) pa_nil))) (pa_cons (pv 4) pa_nil))))))
      (pss_one (ps_ret (pe_op (kou_add (K := K) rfl) (pv 3) (pe_lst (pa_cons (pe_fc c_shortest_rank hr (by decide) (by rfl) (pa_cons (pv 0) (pa_cons (pv 1) (pa_cons (pv 4) pa_nil)))) (pa_cons (pe_fc c_is_shortest hr (by decide) (by rfl) (pa_cons (pv 0) (pa_cons (pv 1) (pa_cons (pv 4) pa_nil)))) pa_nil)))))))))), ?_⟩
  have h1 := T.lb
  have h2 := T.len
  have sh := use0_sho T.gg b
  have n1 := need_len T.gg T.len b
  have l2 := sh.p.length_eq
  walk_at "go"
  refine ⟨b, rfl, rfl, h1, T.gb, ?_⟩
  walk_at "go"
  refine ⟨b, rfl, rfl, h1, T.gb, ?_⟩
  walk_at "go"
  refine ⟨b, _, b, rfl, rfl, h1, T.gb, self_at T.gb, ?_⟩
  walk_at "go"
  refine ⟨b, 0, _, rfl, rfl, h1, T.gb, one0_at T.gb, ?_⟩
  walk_at "go"
  refine ⟨b, g, rfl, rfl, T, ?_⟩
  walk_at "go"
  refine ⟨b, g, 0, _, rfl, rfl, T, use0_at T.gg b, ?_⟩
  walk_at "go"
  refine ⟨b, g, rfl, rfl, T, ?_⟩
  walk_at "go"
  refine ⟨b, g, rfl, rfl, T, ?_⟩
  walk_at "go"
  refine ⟨b, g, _, rfl, rfl, T, sh, ?_⟩
  walk_at "go"
  refine ⟨b, g, _, rfl, rfl, T, by omega, gh_of T.gb (sh.sub T.pm), ?_⟩
  rw [is0 T]
  walk_at "go"
  exact q
def sp__law_named : SpV := fun us c Q => ∃ b g : List Str, us = [.b (b.map .str), .b (g.map .str)] ∧ c = [] ∧ Two b g ∧ Q (.o (asked b g)) []
theorem ok__law_named (n : Nm mg) (c_alike_rank : GF P w K mg base 7 "alike_rank" (lift K w sp_alike_rank)) (c_count_alike : GF P w K mg base 7 "count_alike" (lift K w sp_count_alike)) (c_count_shortest : GF P w K mg base 8 "count_shortest" (lift K w sp_count_shortest)) (c_fewest_uses : GF P w K mg base 8 "fewest_uses" (lift K w sp_fewest_uses)) (c_is_shortest : GF P w K mg base 8 "is_shortest" (lift K w sp_is_shortest)) (c_needed_words : GF P w K mg base 8 "needed_words" (lift K w sp_needed_words)) (c_nth_alike : GC P w K mg base 7 "nth_alike" (lift K w sp_nth_alike)) (c_nth_shortest : GC P w K mg base 8 "nth_shortest" (lift K w sp_nth_shortest)) (c_shortest_rank : GF P w K mg base 8 "shortest_rank" (lift K w sp_shortest_rank)) (kw_alike_rank_book : GK P w K mg base 7 "alike_rank" ["book"] [0] (lift K w sp_alike_rank)) (kw_count_alike_book : GK P w K mg base 7 "count_alike" ["book"] [0] (lift K w sp_count_alike)) (kw_count_shortest_goal_book : GK P w K mg base 8 "count_shortest" ["goal", "book"] [1, 0] (lift K w sp_count_shortest)) (kw_fewest_uses_goal_book : GK P w K mg base 8 "fewest_uses" ["goal", "book"] [1, 0] (lift K w sp_fewest_uses)) (kw_is_shortest_goal_value_book : GK P w K mg base 8 "is_shortest" ["goal", "value", "book"] [2, 0, 1] (lift K w sp_is_shortest)) (kw_needed_words_goal_book : GK P w K mg base 8 "needed_words" ["goal", "book"] [1, 0] (lift K w sp_needed_words)) (kw_nth_alike_book_index : GK P w K mg base 7 "nth_alike" ["book", "index"] [0, 1] (lift K w sp_nth_alike)) (kw_nth_alike_index_book : GK P w K mg base 7 "nth_alike" ["index", "book"] [1, 0] (lift K w sp_nth_alike)) (kw_nth_shortest_index_goal_book : GK P w K mg base 8 "nth_shortest" ["index", "goal", "book"] [2, 1, 0] (lift K w sp_nth_shortest)) (kw_shortest_rank_value_goal_book : GK P w K mg base 8 "shortest_rank" ["value", "goal", "book"] [2, 1, 0] (lift K w sp_shortest_rank)) {f : Addr} {fd : FuncData} (F : Fun K "_law_named" "_law_named" s__law_named f fd) :
    GFn P w K mg base CX0 9 f fd ["one", "two"] (lift K w sp__law_named) := by
  refine GFn.v F sc__law_named (fun us c Q h => ?_) (fun cdv A outer s H E us c Q gd hr h => ?_)
  · obtain ⟨b, g, rfl, _⟩ := h; rfl
  obtain ⟨b, g, rfl, rfl, T, q⟩ := h
  refine ⟨_, (pss_cons (ps_set (i := 2) sc__law_named.nd rfl (.inl rfl) (pe_gck kw_alike_rank_book gd hr (by decide) (by rfl) (by rfl) (pk_cons (pv 0) pk_nil)))
      (pss_cons (ps_set (i := 3) sc__law_named.nd rfl (.inl rfl) (pe_lst (pa_cons (pe_gck kw_count_alike_book gd hr (by decide) (by rfl) (by rfl) (pk_cons (pv 0) pk_nil)) (pa_cons (pv 2) (pa_cons (pe_gck kw_nth_alike_index_book gd hr (by decide) (by rfl) (by rfl) (pk_cons (pv 2) (pk_cons (pv 0) pk_nil))) (pa_cons (pe_gck kw_nth_alike_book_index gd hr (by decide) (by rfl) (by rfl) (pk_cons (pv 0) (pk_cons pe_int pk_nil))) pa_nil))))))
      (pss_cons (ps_set (i := 4) sc__law_named.nd rfl (.inl rfl) (pe_gck kw_nth_shortest_index_goal_book gd hr (by decide) (by rfl) (by rfl) (pk_cons pe_int (pk_cons (pv 1) (pk_cons (pv 0) pk_nil)))))
      (pss_cons (ps_set (i := 3) sc__law_named.nd rfl (.inl rfl) (pe_op (kou_add (K := K) rfl) (pv 3) (pe_lst (pa_cons (pe_gck kw_fewest_uses_goal_book gd hr (by decide) (by rfl) (by rfl) (pk_cons (pv 1) (pk_cons (pv 0) pk_nil))) (pa_cons (pe_gck kw_needed_words_goal_book gd hr (by decide) (by rfl) (by rfl) (pk_cons (pv 1) (pk_cons (pv 0) pk_nil))) pa_nil)))))
      (pss_cons (ps_set (i := 3) sc__law_named.nd rfl (.inl rfl) (pe_op (kou_add (K := K) rfl) (pv 3) (pe_lst (pa_cons (pe_gck kw_count_shortest_goal_book gd hr (by decide) (by rfl) (by rfl) (pk_cons (pv 1) (pk_cons (pv 0) pk_nil))) (pa_cons (pv 4) pa_nil)))))
      (pss_one (ps_ret (pe_op (kou_add (K := K) rfl) (pv 3) (pe_lst (pa_cons (pe_gck kw_shortest_rank_value_goal_book gd hr (by decide) (by rfl) (by rfl) (pk_cons (pv 4) (pk_cons (pv 1) (pk_cons (pv 0) pk_nil)))) (pa_cons (pe_gck kw_is_shortest_goal_value_book gd hr (by decide) (by rfl) (by rfl) (pk_cons (pv 1) (pk_cons (pv 4) (pk_cons (pv 0) pk_nil)))) pa_nil))))))))))), ?_⟩
  have h1 := T.lb
  have h2 := T.len
  have sh := use0_sho T.gg b
  have n1 := need_len T.gg T.len b
  have l2 := sh.p.length_eq
  walk_at "go"
  refine ⟨rfl, _, rfl, b, rfl, rfl, h1, T.gb, ?_⟩
  walk_at "go"
  refine ⟨rfl, _, rfl, b, rfl, rfl, h1, T.gb, ?_⟩
  walk_at "go"
  refine ⟨rfl, _, rfl, b, _, b, rfl, rfl, h1, T.gb, self_at T.gb, ?_⟩
  walk_at "go"
  refine ⟨rfl, _, rfl, b, 0, _, rfl, rfl, h1, T.gb, one0_at T.gb, ?_⟩
  walk_at "go"
  refine ⟨rfl, _, rfl, b, g, 0, _, rfl, rfl, T, use0_at T.gg b, ?_⟩
  walk_at "go"
  refine ⟨rfl, _, rfl, b, g, rfl, rfl, T, ?_⟩
  walk_at "go"
  refine ⟨rfl, _, rfl, b, g, rfl, rfl, T, ?_⟩
  walk_at "go"
  refine ⟨rfl, _, rfl, b, g, rfl, rfl, T, ?_⟩
  walk_at "go"
  refine ⟨rfl, _, rfl, b, g, _, rfl, rfl, T, sh, ?_⟩
  walk_at "go"
  refine ⟨rfl, _, rfl, b, g, _, rfl, rfl, T, by omega, gh_of T.gb (sh.sub T.pm), ?_⟩
  rw [is0 T]
  walk_at "go"
  exact q
theorem ok_law (n : Nm mg) (c__law_asked : GC P w K mg base 9 "_law_asked" (lift K w sp__law_asked)) (c__law_mixed : GF P w K mg base 2 "_law_mixed" (liftC K w sp__law_mixed)) (c__law_named : GC P w K mg base 9 "_law_named" (lift K w sp__law_named)) (c__law_open_source : GF P w K mg base 1 "_law_open_source" (lift K w sp__law_open_source)) (c__law_same : GC P w K mg base 3 "_law_same" (lift K w (sp__law_same 3))) (c__law_words : GF P w K mg base 2 "_law_words" (liftC K w sp__law_words)) {f : Addr} {fd : FuncData} (F : Fun K "law" "law" s_law f fd) :
    GFn P w K mg base CX0 10 f fd ["script"] (lift K w lawV) := by
  have n_len := n.len_
  have n_list := n.list_
  have n_max := n.max_
  have n_min := n.min_
  have n_range := n.range_
  refine GFn.v F sc_law (fun us c Q h => ?_) (fun cdv A outer s H E us c Q gd hr h => ?_)
  · obtain ⟨ns, rfl, _⟩ := h; rfl
  obtain ⟨ns, rfl, rfl, hl, _, q⟩ := h
  refine ⟨_, (pss_cons (ps_for PassesOwn.never rfl (pi_range1 (by rfl) n_range (pa_cons (pe_callB (call_max2 rfl) (by rfl) n_max (by decide +kernel) (pa_cons pe_int (pa_cons (pe_callB (call_min2 rfl) (by rfl) n_min (by decide +kernel) (pa_cons pe_int (pa_cons (pe_callB (kcu_len (K := K) rfl) (by rfl) n_len (by decide +kernel) (pa_cons (pv 0) pa_nil)) pa_nil))) pa_nil))) pa_nil)) (pg_name (i := 1) sc_law.nd rfl (.inl rfl))
      (pss_cons (PS.as_c (ps_set (i := 2) sc_law.nd rfl (.inl rfl) (pe_fc c__law_open_source hr (by decide) (by rfl) (pa_cons (pv 0) (pa_cons (pv 1) pa_nil)))))
        (pss_cons (ps_set (i := 3) sc_law.nd rfl (.inl rfl) (pe_fc c__law_words hr (by decide) (by rfl) (pa_cons (pv 2) (pa_cons (pv 0) (pa_cons pe_int pa_nil)))))
        (pss_cons (PS.as_p true true (ps_par (i := 4) (j := 5) rfl sc_law.nd rfl rfl (by decide) rfl rfl (pa_cons (pe_fc c__law_mixed hr (by decide) (by rfl) (pa_cons (pv 2) (pa_cons (pv 3) pa_nil))) (pa_cons (pe_fc c__law_mixed hr (by decide) (by rfl) (pa_cons (pv 2) (pa_cons (pv 3) pa_nil))) pa_nil)) (by rfl)))
        (pss_cons (PS.as_p false false (ps_par (i := 6) (j := 7) rfl sc_law.nd rfl rfl (by decide) rfl rfl (pa_cons (pe_gc c__law_asked gd hr (by decide) (by rfl) (pa_cons (pv 4) (pa_cons (pv 5) pa_nil))) (pa_cons (pe_gc c__law_asked gd hr (by decide) (by rfl) (pa_cons (pv 5) (pa_cons (pv 4) pa_nil))) pa_nil)) (by rfl)))
        (PSs.as_nm (pss_cons (ps_set (i := 8) sc_law.nd rfl (.inl rfl) (pe_gc c__law_named gd hr (by decide) (by rfl) (pa_cons (pv 4) (pa_cons (pv 5) pa_nil))))
        (pss_cons (ps_if (pt_not (kpt_u (K := K) rfl (pe_gc c__law_same gd hr (by decide) (by rfl) (pa_cons (pv 8) (pa_cons (pv 6) pa_nil))) (by intro _; rfl)))
      (pss_one (ps_ret pe_bl))
      pss_nil)
        (pss_cons (ps_for PassesOwn.never rfl (kpi_u (K := K) rfl (pe_lst (pa_cons pe_int (pa_cons pe_int (pa_cons pe_int (pa_cons pe_int pa_nil)))))) (pg_name (i := 9) sc_law.nd rfl (.inl rfl))
      (pss_one (ps_expr (kpe_bm (K := K) rfl PySem.F.plainAttrs_list PySem.F.slot_list_append PySem.F.type_list_append mt_append (pe_ix (kix_seq (K := K) rfl) (pv 8) (pv 9) (fun _ _ => rfl)) (pa_cons pe_non pa_nil)))))
        (pss_cons (ps_if (pt_not (kpt_u (K := K) rfl (pe_gc c__law_same gd hr (by decide) (by rfl) (pa_cons (pe_gc c__law_asked gd hr (by decide) (by rfl) (pa_cons (pv 4) (pa_cons (pv 5) pa_nil))) (pa_cons (pv 6) pa_nil))) (by intro _; rfl)))
      (pss_one (ps_ret pe_bl))
      pss_nil)
        (pss_cons (ps_set (i := 10) sc_law.nd rfl (.inl rfl) (pe_callTy (kcall_list (K := K) rfl) (by rfl) n_list (by decide +kernel) (pa_cons (pv 4) pa_nil)))
        (pss_cons (ps_asg (pv 5) (pg_sl0 (pv 4)))
        (pss_cons (ps_asg (pv 10) (pg_sl0 (pv 5)))
        (pss_one (ps_if (pt_not (kpt_u (K := K) rfl (pe_gc c__law_same gd hr (by decide) (by rfl) (pa_cons (pe_gc c__law_asked gd hr (by decide) (by rfl) (pa_cons (pv 4) (pa_cons (pv 5) pa_nil))) (pa_cons (pv 7) pa_nil))) (by intro _; rfl)))
      (pss_one (ps_ret pe_bl))
      pss_nil)))))))))))))))
      (pss_one (ps_ret pe_bl))), ?_⟩
  walk_at "go"
  rw [List.length_map]
  refine vforA (it_1 (by omega) (by omega)) (fun i e c => ∃ y1 y2 y3 y4 y5 y6 y7 y8 y9 y10, e = [some (.s (ns.map .int)), y1, y2, y3, y4, y5, y6, y7, y8, y9, y10] ∧ c = []) ⟨_, _, _, _, _, _, _, _, _, _, rfl, rfl⟩ (fun _ _ _ _ => trivial) ?_ ?_
  · rintro i d e' c' hi rfl ⟨y1, y2, y3, y4, y5, y6, y7, y8, y9, y10, rfl, rfl⟩
    have hi2 : i < 5 := by omega
    walk_at "go"
    refine ⟨ns, i, rfl, rfl, by omega, fun xs hp => ?_⟩
    walk_at "go"
    refine ⟨xs, 0, ns, 20, rfl, rfl, hp, by omega, by decide, by decide, fun ws p1 B wl hp1 => ?_⟩
    clear hp
    have wl2 : ws.length ≤ 20 := by omega
    have hp1 := hp1.mono (show 0 + 20000 ≤ 20000 by omega)
    walk_at "go"
    refine ⟨p1, ws, _, rfl, rfl, hp1, by omega, by omega, fun one p2 pb hp2 => ?_⟩
    walk_at "go"
    refine ⟨p2, ws, _, rfl, rfl, hp2, by omega, by omega, fun two p3 pc hp3 => ?_⟩
    have la : one.length ≤ 20 := by rw [pb.length_eq]; exact wl2
    have lb : two.length ≤ 20 := by rw [pc.length_eq]; exact wl2
    have T : Two one two := ⟨B.gb.perm pb, B.gb.perm pc, pb.trans pc.symm, by omega⟩
    have T2 : Two two one := ⟨T.gg, T.gb, T.pm.symm, by omega⟩
    walk_at "go"
    refine ⟨one, two, rfl, rfl, T, ?_⟩
    walk_at "go"
    refine ⟨two, one, rfl, rfl, T2, ?_⟩
    walk_at "go"
    refine v_nm (Nat.le_of_ble_eq_true rfl) (Nat.le_of_ble_eq_true rfl) (by decide) rfl rfl rfl rfl rfl (by decide) ⟨one, two, rfl, rfl, T, rfl, rfl⟩ ⟨.list (asked one two), rfl, rfl, eq_asked T, rfl⟩ (fun s hs => ?_) (fun q => ?_)
    · have l1 := (one0_pm T.gb).length_eq
      have l2 := (use0_sho T.gg one).p.length_eq
      have l3 := need_len T.gg T.len one
      simp only [List.mem_cons, List.not_mem_nil, or_false] at hs
      rcases hs with rfl | rfl | rfl | rfl
      · exact ⟨one.map .str, rfl, by rw [List.length_map]; omega⟩
      · exact ⟨(one0 one).map .str, rfl, by rw [List.length_map]; omega⟩
      · exact ⟨(needN one two).map .str, rfl, by rw [List.length_map]; omega⟩
      · exact ⟨(use0 one two).map .str, rfl, by rw [List.length_map]; omega⟩
    walk_at "go"
    refine ⟨one, two, rfl, rfl, T, ?_⟩
    walk_at "go"
    refine ⟨.list (asked one two), rfl, rfl, eq_asked T, ?_⟩
    walk_at "go"
    refine v_gsl0 (ys := two.map .str) ?_
    walk_at "go"
    refine ⟨1, _, rfl, rfl, rfl, Nat.ne_of_lt (Nat.le_of_ble_eq_true rfl), by rw [sizeLine_eq, List.length_map, List.length_map]; omega, ?_⟩
    walk_at "go"
    refine v_gsl0D ?_
    walk_at "go"
    refine ⟨2, _, rfl, rfl, by rw [sizeLine_eq, List.length_map, List.length_map]; omega, ?_⟩
    walk_at "go"
    refine ⟨two, one, rfl, rfl, T2, ?_⟩
    walk_at "go"
    refine ⟨.list (asked two one), rfl, rfl, eq_asked T2, ?_⟩
    walk_at "go"
    exact ⟨_, _, _, _, _, _, _, _, _, _, rfl, rfl⟩
  · rintro e' c' ⟨y1, y2, y3, y4, y5, y6, y7, y8, y9, y10, rfl, rfl⟩
    walk_at "go"
    exact q
end
end My
open PySem PySem.Spec PyProof.Rows L2 Gd
namespace My
theorem all_mk {l : PySem.W.OpenLaw} {w : World} {K : PySem.W.Frag} {h : Heap} {mg : Str → Option Value} {fa f0 f1 f2 f3 f4 f5 f6 f7 f8 f9 f10 f11 f12 f13 f14 f15 f16 f17 f18 f19 f20 f21 f22 f23 f24 f25 f26 f27 f28 f29 f30 f31 f32 f33 f34 f35 f36 f37 f38 f39 f40 f41 f42 f43 f44 f45 f46 : Addr} (X : K.In h) (G : h.Ns mainGlobals mg) (hfa : mg "law" = some (.ref fa))
    {od0 an0 od1 an1 od2 an2 od3 an3 od4 an4 od5 an5 od6 an6 od7 an7 od8 an8 od9 an9 od10 an10 od11 an11 od12 an12 od13 an13 od14 an14 od15 an15 od16 an16 od17 an17 od18 an18 od19 an19 od20 an20 od21 an21 od22 an22 od23 an23 od24 an24 od25 an25 od26 an26 od27 an27 od28 an28 od29 an29 od30 an30 od31 an31 od32 an32 od33 an33 od34 an34 od35 an35 od36 an36 od37 an37 od38 an38 od39 an39 od40 an40 od41 an41 od42 an42 od43 an43 od44 an44 od45 an45 od46 an46 : Option Addr} {sl0 sl1 sl2 sl3 sl4 sl5 sl6 sl7 sl8 sl9 sl10 sl11 sl12 sl13 sl14 sl15 sl16 sl17 sl18 sl19 sl20 sl21 sl22 sl23 sl24 sl25 sl26 sl27 sl28 sl29 sl30 sl31 sl32 sl33 sl34 sl35 sl36 sl37 sl38 sl39 sl40 sl41 sl42 sl43 sl44 sl45 sl46 : Array (Option Value)}
    {oc0 kV0 dc0 pm0 cd0 ct0 oc1 kV1 dc1 pm1 cd1 ct1 oc2 kV2 dc2 pm2 cd2 ct2 oc3 kV3 dc3 pm3 cd3 ct3 oc4 kV4 dc4 pm4 cd4 ct4 oc5 kV5 dc5 pm5 cd5 ct5 oc6 kV6 dc6 pm6 cd6 ct6 oc7 kV7 dc7 pm7 cd7 ct7 oc8 kV8 dc8 pm8 cd8 ct8 oc9 kV9 dc9 pm9 cd9 ct9 oc10 kV10 dc10 pm10 cd10 ct10 oc11 kV11 dc11 pm11 cd11 ct11 oc12 kV12 dc12 pm12 cd12 ct12 oc13 kV13 dc13 pm13 cd13 ct13 oc14 kV14 dc14 pm14 cd14 ct14 oc15 kV15 dc15 pm15 cd15 ct15 oc16 kV16 dc16 pm16 cd16 ct16 oc17 kV17 dc17 pm17 cd17 ct17 oc18 kV18 dc18 pm18 cd18 ct18 oc19 kV19 dc19 pm19 cd19 ct19 oc20 kV20 dc20 pm20 cd20 ct20 oc21 kV21 dc21 pm21 cd21 ct21 oc22 kV22 dc22 pm22 cd22 ct22 oc23 kV23 dc23 pm23 cd23 ct23 oc24 kV24 dc24 pm24 cd24 ct24 oc25 kV25 dc25 pm25 cd25 ct25 oc26 kV26 dc26 pm26 cd26 ct26 oc27 kV27 dc27 pm27 cd27 ct27 oc28 kV28 dc28 pm28 cd28 ct28 oc29 kV29 dc29 pm29 cd29 ct29 oc30 kV30 dc30 pm30 cd30 ct30 oc31 kV31 dc31 pm31 cd31 ct31 oc32 kV32 dc32 pm32 cd32 ct32 oc33 kV33 dc33 pm33 cd33 ct33 oc34 kV34 dc34 pm34 cd34 ct34 oc35 kV35 dc35 pm35 cd35 ct35 oc36 kV36 dc36 pm36 cd36 ct36 oc37 kV37 dc37 pm37 cd37 ct37 oc38 kV38 dc38 pm38 cd38 ct38 oc39 kV39 dc39 pm39 cd39 ct39 oc40 kV40 dc40 pm40 cd40 ct40 oc41 kV41 dc41 pm41 cd41 ct41 oc42 kV42 dc42 pm42 cd42 ct42 oc43 kV43 dc43 pm43 cd43 ct43 oc44 kV44 dc44 pm44 cd44 ct44 oc45 kV45 dc45 pm45 cd45 ct45 oc46 kV46 dc46 pm46 cd46 ct46 : Value} {t_LETTERS t_MOST_LETTERS : Tok}
    (a0 : PySem.W.nsIn K mainGlobals "last_with" = some (some (.ref f0)))
    (l0 : K.lookup f0 = some ⟨oc0, od0, .func (PySem.W.fnOf "last_with" "last_with" (defArgs s_last_with) (defBody s_last_with) (defScope s_last_with) .none kV0 dc0 pm0 an0 cd0 ct0), sl0⟩)
    (c0 : PySem.W.codeIn K cd0 "last_with" = true) (k0 : PySem.W.keepIn K (.ref f0) = true)
    (a1 : PySem.W.nsIn K mainGlobals "typed_letters" = some (some (.ref f1)))
    (l1 : K.lookup f1 = some ⟨oc1, od1, .func (PySem.W.fnOf "typed_letters" "typed_letters" (defArgs s_typed_letters) (defBody s_typed_letters) (defScope s_typed_letters) .none kV1 dc1 pm1 an1 cd1 ct1), sl1⟩)
    (c1 : PySem.W.codeIn K cd1 "typed_letters" = true) (k1 : PySem.W.keepIn K (.ref f1) = true)
    (a2 : PySem.W.nsIn K mainGlobals "find_blocker" = some (some (.ref f2)))
    (l2 : K.lookup f2 = some ⟨oc2, od2, .func (PySem.W.fnOf "find_blocker" "find_blocker" (defArgs s_find_blocker) (defBody s_find_blocker) (defScope s_find_blocker) .none kV2 dc2 pm2 an2 cd2 ct2), sl2⟩)
    (c2 : PySem.W.codeIn K cd2 "find_blocker" = true) (k2 : PySem.W.keepIn K (.ref f2) = true)
    (a3 : PySem.W.nsIn K mainGlobals "blockers_orders" = some (some (.ref f3)))
    (l3 : K.lookup f3 = some ⟨oc3, od3, .func (PySem.W.fnOf "_blockers" "_blockers" (defArgs s_blockers_orders) (defBody s_blockers_orders) (defScope s_blockers_orders) .none kV3 dc3 pm3 an3 cd3 ct3), sl3⟩)
    (c3 : PySem.W.codeIn K cd3 "_blockers" = true) (k3 : PySem.W.keepIn K (.ref f3) = true)
    (a4 : PySem.W.nsIn K mainGlobals "is_text" = some (some (.ref f4)))
    (l4 : K.lookup f4 = some ⟨oc4, od4, .func (PySem.W.fnOf "is_text" "is_text" (defArgs s_is_text) (defBody s_is_text) (defScope s_is_text) .none kV4 dc4 pm4 an4 cd4 ct4), sl4⟩)
    (c4 : PySem.W.codeIn K cd4 "is_text" = true) (k4 : PySem.W.keepIn K (.ref f4) = true)
    (a5 : PySem.W.nsIn K mainGlobals "is_word" = some (some (.ref f5)))
    (l5 : K.lookup f5 = some ⟨oc5, od5, .func (PySem.W.fnOf "is_word" "is_word" (defArgs s_is_word) (defBody s_is_word) (defScope s_is_word) .none kV5 dc5 pm5 an5 cd5 ct5), sl5⟩)
    (c5 : PySem.W.codeIn K cd5 "is_word" = true) (k5 : PySem.W.keepIn K (.ref f5) = true)
    (a6 : PySem.W.nsIn K mainGlobals "_is_word_list" = some (some (.ref f6)))
    (l6 : K.lookup f6 = some ⟨oc6, od6, .func (PySem.W.fnOf "_is_word_list" "_is_word_list" (defArgs s__is_word_list) (defBody s__is_word_list) (defScope s__is_word_list) .none kV6 dc6 pm6 an6 cd6 ct6), sl6⟩)
    (c6 : PySem.W.codeIn K cd6 "_is_word_list" = true) (k6 : PySem.W.keepIn K (.ref f6) = true)
    (a7 : PySem.W.nsIn K mainGlobals "_least_clash" = some (some (.ref f7)))
    (l7 : K.lookup f7 = some ⟨oc7, od7, .func (PySem.W.fnOf "_least_clash" "_least_clash" (defArgs s__least_clash) (defBody s__least_clash) (defScope s__least_clash) .none kV7 dc7 pm7 an7 cd7 ct7), sl7⟩)
    (c7 : PySem.W.codeIn K cd7 "_least_clash" = true) (k7 : PySem.W.keepIn K (.ref f7) = true)
    (a8 : PySem.W.nsIn K mainGlobals "is_history" = some (some (.ref f8)))
    (l8 : K.lookup f8 = some ⟨oc8, od8, .func (PySem.W.fnOf "is_history" "is_history" (defArgs s_is_history) (defBody s_is_history) (defScope s_is_history) .none kV8 dc8 pm8 an8 cd8 ct8), sl8⟩)
    (c8 : PySem.W.codeIn K cd8 "is_history" = true) (k8 : PySem.W.keepIn K (.ref f8) = true)
    (a9 : PySem.W.nsIn K mainGlobals "is_book" = some (some (.ref f9)))
    (l9 : K.lookup f9 = some ⟨oc9, od9, .func (PySem.W.fnOf "is_book" "is_book" (defArgs s_is_book) (defBody s_is_book) (defScope s_is_book) .none kV9 dc9 pm9 an9 cd9 ct9), sl9⟩)
    (c9 : PySem.W.codeIn K cd9 "is_book" = true) (k9 : PySem.W.keepIn K (.ref f9) = true)
    (a10 : PySem.W.nsIn K mainGlobals "check_book" = some (some (.ref f10)))
    (l10 : K.lookup f10 = some ⟨oc10, od10, .func (PySem.W.fnOf "check_book" "check_book" (defArgs s_check_book) (defBody s_check_book) (defScope s_check_book) .none kV10 dc10 pm10 an10 cd10 ct10), sl10⟩)
    (c10 : PySem.W.codeIn K cd10 "check_book" = true) (k10 : PySem.W.keepIn K (.ref f10) = true)
    (a11 : PySem.W.nsIn K mainGlobals "_count_of_sizes" = some (some (.ref f11)))
    (l11 : K.lookup f11 = some ⟨oc11, od11, .func (PySem.W.fnOf "_count_of_sizes" "_count_of_sizes" (defArgs s__count_of_sizes) (defBody s__count_of_sizes) (defScope s__count_of_sizes) .none kV11 dc11 pm11 an11 cd11 ct11), sl11⟩)
    (c11 : PySem.W.codeIn K cd11 "_count_of_sizes" = true) (k11 : PySem.W.keepIn K (.ref f11) = true)
    (a12 : PySem.W.nsIn K mainGlobals "_words_above" = some (some (.ref f12)))
    (l12 : K.lookup f12 = some ⟨oc12, od12, .func (PySem.W.fnOf "_words_above" "_words_above" (defArgs s__words_above) (defBody s__words_above) (defScope s__words_above) .none kV12 dc12 pm12 an12 cd12 ct12), sl12⟩)
    (c12 : PySem.W.codeIn K cd12 "_words_above" = true) (k12 : PySem.W.keepIn K (.ref f12) = true)
    (a13 : PySem.W.nsIn K mainGlobals "_sizes" = some (some (.ref f13)))
    (l13 : K.lookup f13 = some ⟨oc13, od13, .func (PySem.W.fnOf "_sizes" "_sizes" (defArgs s__sizes) (defBody s__sizes) (defScope s__sizes) .none kV13 dc13 pm13 an13 cd13 ct13), sl13⟩)
    (c13 : PySem.W.codeIn K cd13 "_sizes" = true) (k13 : PySem.W.keepIn K (.ref f13) = true)
    (a14 : PySem.W.nsIn K mainGlobals "_counts_by_first" = some (some (.ref f14)))
    (l14 : K.lookup f14 = some ⟨oc14, od14, .func (PySem.W.fnOf "_counts_by_first" "_counts_by_first" (defArgs s__counts_by_first) (defBody s__counts_by_first) (defScope s__counts_by_first) .none kV14 dc14 pm14 an14 cd14 ct14), sl14⟩)
    (c14 : PySem.W.codeIn K cd14 "_counts_by_first" = true) (k14 : PySem.W.keepIn K (.ref f14) = true)
    (a15 : PySem.W.nsIn K mainGlobals "_without" = some (some (.ref f15)))
    (l15 : K.lookup f15 = some ⟨oc15, od15, .func (PySem.W.fnOf "_without" "_without" (defArgs s__without) (defBody s__without) (defScope s__without) .none kV15 dc15 pm15 an15 cd15 ct15), sl15⟩)
    (c15 : PySem.W.codeIn K cd15 "_without" = true) (k15 : PySem.W.keepIn K (.ref f15) = true)
    (a16 : PySem.W.nsIn K mainGlobals "placement_rank" = some (some (.ref f16)))
    (l16 : K.lookup f16 = some ⟨oc16, od16, .func (PySem.W.fnOf "placement_rank" "placement_rank" (defArgs s_placement_rank) (defBody s_placement_rank) (defScope s_placement_rank) .none kV16 dc16 pm16 an16 cd16 ct16), sl16⟩)
    (c16 : PySem.W.codeIn K cd16 "placement_rank" = true) (k16 : PySem.W.keepIn K (.ref f16) = true)
    (a17 : PySem.W.nsIn K mainGlobals "alike_rank" = some (some (.ref f17)))
    (l17 : K.lookup f17 = some ⟨oc17, od17, .func (PySem.W.fnOf "alike_rank" "alike_rank" (defArgs s_alike_rank) (defBody s_alike_rank) (defScope s_alike_rank) .none kV17 dc17 pm17 an17 cd17 ct17), sl17⟩)
    (c17 : PySem.W.codeIn K cd17 "alike_rank" = true) (k17 : PySem.W.keepIn K (.ref f17) = true)
    (a18 : PySem.W.nsIn K mainGlobals "count_placements" = some (some (.ref f18)))
    (l18 : K.lookup f18 = some ⟨oc18, od18, .func (PySem.W.fnOf "count_placements" "count_placements" (defArgs s_count_placements) (defBody s_count_placements) (defScope s_count_placements) .none kV18 dc18 pm18 an18 cd18 ct18), sl18⟩)
    (c18 : PySem.W.codeIn K cd18 "count_placements" = true) (k18 : PySem.W.keepIn K (.ref f18) = true)
    (a19 : PySem.W.nsIn K mainGlobals "count_alike" = some (some (.ref f19)))
    (l19 : K.lookup f19 = some ⟨oc19, od19, .func (PySem.W.fnOf "count_alike" "count_alike" (defArgs s_count_alike) (defBody s_count_alike) (defScope s_count_alike) .none kV19 dc19 pm19 an19 cd19 ct19), sl19⟩)
    (c19 : PySem.W.codeIn K cd19 "count_alike" = true) (k19 : PySem.W.keepIn K (.ref f19) = true)
    (a20 : PySem.W.nsIn K mainGlobals "check_same_words" = some (some (.ref f20)))
    (l20 : K.lookup f20 = some ⟨oc20, od20, .func (PySem.W.fnOf "check_same_words" "check_same_words" (defArgs s_check_same_words) (defBody s_check_same_words) (defScope s_check_same_words) .none kV20 dc20 pm20 an20 cd20 ct20), sl20⟩)
    (c20 : PySem.W.codeIn K cd20 "check_same_words" = true) (k20 : PySem.W.keepIn K (.ref f20) = true)
    (a21 : PySem.W.nsIn K mainGlobals "_check_books" = some (some (.ref f21)))
    (l21 : K.lookup f21 = some ⟨oc21, od21, .func (PySem.W.fnOf "_check_books" "_check_books" (defArgs s__check_books) (defBody s__check_books) (defScope s__check_books) .none kV21 dc21 pm21 an21 cd21 ct21), sl21⟩)
    (c21 : PySem.W.codeIn K cd21 "_check_books" = true) (k21 : PySem.W.keepIn K (.ref f21) = true)
    (a22 : PySem.W.nsIn K mainGlobals "find_branchings" = some (some (.ref f22)))
    (l22 : K.lookup f22 = some ⟨oc22, od22, .func (PySem.W.fnOf "find_branchings" "find_branchings" (defArgs s_find_branchings) (defBody s_find_branchings) (defScope s_find_branchings) .none kV22 dc22 pm22 an22 cd22 ct22), sl22⟩)
    (c22 : PySem.W.codeIn K cd22 "find_branchings" = true) (k22 : PySem.W.keepIn K (.ref f22) = true)
    (a23 : PySem.W.nsIn K mainGlobals "find_state" = some (some (.ref f23)))
    (l23 : K.lookup f23 = some ⟨oc23, od23, .func (PySem.W.fnOf "find_state" "find_state" (defArgs s_find_state) (defBody s_find_state) (defScope s_find_state) .none kV23 dc23 pm23 an23 cd23 ct23), sl23⟩)
    (c23 : PySem.W.codeIn K cd23 "find_state" = true) (k23 : PySem.W.keepIn K (.ref f23) = true)
    (a24 : PySem.W.nsIn K mainGlobals "_needed_words" = some (some (.ref f24)))
    (l24 : K.lookup f24 = some ⟨oc24, od24, .func (PySem.W.fnOf "_needed_words" "_needed_words" (defArgs s__needed_words) (defBody s__needed_words) (defScope s__needed_words) .none kV24 dc24 pm24 an24 cd24 ct24), sl24⟩)
    (c24 : PySem.W.codeIn K cd24 "_needed_words" = true) (k24 : PySem.W.keepIn K (.ref f24) = true)
    (a25 : PySem.W.nsIn K mainGlobals "blockers_moves" = some (some (.ref f25)))
    (l25 : K.lookup f25 = some ⟨oc25, od25, .func (PySem.W.fnOf "_blockers" "_blockers" (defArgs s_blockers_moves) (defBody s_blockers_moves) (defScope s_blockers_moves) .none kV25 dc25 pm25 an25 cd25 ct25), sl25⟩)
    (c25 : PySem.W.codeIn K cd25 "_blockers" = true) (k25 : PySem.W.keepIn K (.ref f25) = true)
    (a26 : PySem.W.nsIn K mainGlobals "count_shortest" = some (some (.ref f26)))
    (l26 : K.lookup f26 = some ⟨oc26, od26, .func (PySem.W.fnOf "count_shortest" "count_shortest" (defArgs s_count_shortest) (defBody s_count_shortest) (defScope s_count_shortest) .none kV26 dc26 pm26 an26 cd26 ct26), sl26⟩)
    (c26 : PySem.W.codeIn K cd26 "count_shortest" = true) (k26 : PySem.W.keepIn K (.ref f26) = true)
    (a27 : PySem.W.nsIn K mainGlobals "fewest_uses" = some (some (.ref f27)))
    (l27 : K.lookup f27 = some ⟨oc27, od27, .func (PySem.W.fnOf "fewest_uses" "fewest_uses" (defArgs s_fewest_uses) (defBody s_fewest_uses) (defScope s_fewest_uses) .none kV27 dc27 pm27 an27 cd27 ct27), sl27⟩)
    (c27 : PySem.W.codeIn K cd27 "fewest_uses" = true) (k27 : PySem.W.keepIn K (.ref f27) = true)
    (a28 : PySem.W.nsIn K mainGlobals "play_uses" = some (some (.ref f28)))
    (l28 : K.lookup f28 = some ⟨oc28, od28, .func (PySem.W.fnOf "play_uses" "play_uses" (defArgs s_play_uses) (defBody s_play_uses) (defScope s_play_uses) .none kV28 dc28 pm28 an28 cd28 ct28), sl28⟩)
    (c28 : PySem.W.codeIn K cd28 "play_uses" = true) (k28 : PySem.W.keepIn K (.ref f28) = true)
    (a29 : PySem.W.nsIn K mainGlobals "_is_shortest" = some (some (.ref f29)))
    (l29 : K.lookup f29 = some ⟨oc29, od29, .func (PySem.W.fnOf "_is_shortest" "_is_shortest" (defArgs s__is_shortest) (defBody s__is_shortest) (defScope s__is_shortest) .none kV29 dc29 pm29 an29 cd29 ct29), sl29⟩)
    (c29 : PySem.W.codeIn K cd29 "_is_shortest" = true) (k29 : PySem.W.keepIn K (.ref f29) = true)
    (a30 : PySem.W.nsIn K mainGlobals "is_shortest" = some (some (.ref f30)))
    (l30 : K.lookup f30 = some ⟨oc30, od30, .func (PySem.W.fnOf "is_shortest" "is_shortest" (defArgs s_is_shortest) (defBody s_is_shortest) (defScope s_is_shortest) .none kV30 dc30 pm30 an30 cd30 ct30), sl30⟩)
    (c30 : PySem.W.codeIn K cd30 "is_shortest" = true) (k30 : PySem.W.keepIn K (.ref f30) = true)
    (a31 : PySem.W.nsIn K mainGlobals "needed_words" = some (some (.ref f31)))
    (l31 : K.lookup f31 = some ⟨oc31, od31, .func (PySem.W.fnOf "needed_words" "needed_words" (defArgs s_needed_words) (defBody s_needed_words) (defScope s_needed_words) .none kV31 dc31 pm31 an31 cd31 ct31), sl31⟩)
    (c31 : PySem.W.codeIn K cd31 "needed_words" = true) (k31 : PySem.W.keepIn K (.ref f31) = true)
    (a32 : PySem.W.nsIn K mainGlobals "is_integer_from" = some (some (.ref f32)))
    {Dt32 : Addr} {to32 : Value} {td32 : Option Addr} {tn32 : Nat} {ts32 : Array (Option Value)}
    (l32 : K.lookup f32 = some ⟨oc32, od32, .func (PySem.W.fnOf "is_integer_from" "is_integer_from" (defArgs s_is_integer_from) (defBody s_is_integer_from) (defScope s_is_integer_from) (.ref Dt32) kV32 dc32 pm32 an32 cd32 ct32), sl32⟩)
    (t32 : K.lookup Dt32 = some ⟨to32, td32, .seq #[.none] tn32, ts32⟩)
    (c32 : PySem.W.codeIn K cd32 "is_integer_from" = true) (k32 : PySem.W.keepIn K (.ref f32) = true)
    (a33 : PySem.W.nsIn K mainGlobals "check_integer" = some (some (.ref f33)))
    {Dt33 : Addr} {to33 : Value} {td33 : Option Addr} {tn33 : Nat} {ts33 : Array (Option Value)}
    (l33 : K.lookup f33 = some ⟨oc33, od33, .func (PySem.W.fnOf "check_integer" "check_integer" (defArgs s_check_integer) (defBody s_check_integer) (defScope s_check_integer) (.ref Dt33) kV33 dc33 pm33 an33 cd33 ct33), sl33⟩)
    (t33 : K.lookup Dt33 = some ⟨to33, td33, .seq #[.none] tn33, ts33⟩)
    (c33 : PySem.W.codeIn K cd33 "check_integer" = true) (k33 : PySem.W.keepIn K (.ref f33) = true)
    (a34 : PySem.W.nsIn K mainGlobals "check_index" = some (some (.ref f34)))
    (l34 : K.lookup f34 = some ⟨oc34, od34, .func (PySem.W.fnOf "check_index" "check_index" (defArgs s_check_index) (defBody s_check_index) (defScope s_check_index) .none kV34 dc34 pm34 an34 cd34 ct34), sl34⟩)
    (c34 : PySem.W.codeIn K cd34 "check_index" = true) (k34 : PySem.W.keepIn K (.ref f34) = true)
    (a35 : PySem.W.nsIn K mainGlobals "nth_placement" = some (some (.ref f35)))
    (l35 : K.lookup f35 = some ⟨oc35, od35, .func (PySem.W.fnOf "nth_placement" "nth_placement" (defArgs s_nth_placement) (defBody s_nth_placement) (defScope s_nth_placement) .none kV35 dc35 pm35 an35 cd35 ct35), sl35⟩)
    (c35 : PySem.W.codeIn K cd35 "nth_placement" = true) (k35 : PySem.W.keepIn K (.ref f35) = true)
    (a36 : PySem.W.nsIn K mainGlobals "nth_alike" = some (some (.ref f36)))
    (l36 : K.lookup f36 = some ⟨oc36, od36, .func (PySem.W.fnOf "nth_alike" "nth_alike" (defArgs s_nth_alike) (defBody s_nth_alike) (defScope s_nth_alike) .none kV36 dc36 pm36 an36 cd36 ct36), sl36⟩)
    (c36 : PySem.W.codeIn K cd36 "nth_alike" = true) (k36 : PySem.W.keepIn K (.ref f36) = true)
    (a37 : PySem.W.nsIn K mainGlobals "nth_shortest" = some (some (.ref f37)))
    (l37 : K.lookup f37 = some ⟨oc37, od37, .func (PySem.W.fnOf "nth_shortest" "nth_shortest" (defArgs s_nth_shortest) (defBody s_nth_shortest) (defScope s_nth_shortest) .none kV37 dc37 pm37 an37 cd37 ct37), sl37⟩)
    (c37 : PySem.W.codeIn K cd37 "nth_shortest" = true) (k37 : PySem.W.keepIn K (.ref f37) = true)
    (a38 : PySem.W.nsIn K mainGlobals "shortest_rank" = some (some (.ref f38)))
    (l38 : K.lookup f38 = some ⟨oc38, od38, .func (PySem.W.fnOf "shortest_rank" "shortest_rank" (defArgs s_shortest_rank) (defBody s_shortest_rank) (defScope s_shortest_rank) .none kV38 dc38 pm38 an38 cd38 ct38), sl38⟩)
    (c38 : PySem.W.codeIn K cd38 "shortest_rank" = true) (k38 : PySem.W.keepIn K (.ref f38) = true)
    (a39 : PySem.W.nsIn K mainGlobals "_law_asked" = some (some (.ref f39)))
    (l39 : K.lookup f39 = some ⟨oc39, od39, .func (PySem.W.fnOf "_law_asked" "_law_asked" (defArgs s__law_asked) (defBody s__law_asked) (defScope s__law_asked) .none kV39 dc39 pm39 an39 cd39 ct39), sl39⟩)
    (c39 : PySem.W.codeIn K cd39 "_law_asked" = true) (k39 : PySem.W.keepIn K (.ref f39) = true)
    (a40 : PySem.W.nsIn K mainGlobals "_law_draw" = some (some (.ref f40)))
    (l40 : K.lookup f40 = some ⟨oc40, od40, .func (PySem.W.fnOf "_law_draw" "_law_draw" (defArgs s__law_draw) (defBody s__law_draw) (defScope s__law_draw) .none kV40 dc40 pm40 an40 cd40 ct40), sl40⟩)
    (c40 : PySem.W.codeIn K cd40 "_law_draw" = true) (k40 : PySem.W.keepIn K (.ref f40) = true)
    (a41 : PySem.W.nsIn K mainGlobals "_law_mixed" = some (some (.ref f41)))
    (l41 : K.lookup f41 = some ⟨oc41, od41, .func (PySem.W.fnOf "_law_mixed" "_law_mixed" (defArgs s__law_mixed) (defBody s__law_mixed) (defScope s__law_mixed) .none kV41 dc41 pm41 an41 cd41 ct41), sl41⟩)
    (c41 : PySem.W.codeIn K cd41 "_law_mixed" = true) (k41 : PySem.W.keepIn K (.ref f41) = true)
    (a42 : PySem.W.nsIn K mainGlobals "_law_named" = some (some (.ref f42)))
    (l42 : K.lookup f42 = some ⟨oc42, od42, .func (PySem.W.fnOf "_law_named" "_law_named" (defArgs s__law_named) (defBody s__law_named) (defScope s__law_named) .none kV42 dc42 pm42 an42 cd42 ct42), sl42⟩)
    (c42 : PySem.W.codeIn K cd42 "_law_named" = true) (k42 : PySem.W.keepIn K (.ref f42) = true)
    (a43 : PySem.W.nsIn K mainGlobals "_law_open_source" = some (some (.ref f43)))
    (l43 : K.lookup f43 = some ⟨oc43, od43, .func (PySem.W.fnOf "_law_open_source" "_law_open_source" (defArgs s__law_open_source) (defBody s__law_open_source) (defScope s__law_open_source) .none kV43 dc43 pm43 an43 cd43 ct43), sl43⟩)
    (c43 : PySem.W.codeIn K cd43 "_law_open_source" = true) (k43 : PySem.W.keepIn K (.ref f43) = true)
    (a44 : PySem.W.nsIn K mainGlobals "_law_same" = some (some (.ref f44)))
    (l44 : K.lookup f44 = some ⟨oc44, od44, .func (PySem.W.fnOf "_law_same" "_law_same" (defArgs s__law_same) (defBody s__law_same) (defScope s__law_same) .none kV44 dc44 pm44 an44 cd44 ct44), sl44⟩)
    (c44 : PySem.W.codeIn K cd44 "_law_same" = true) (k44 : PySem.W.keepIn K (.ref f44) = true)
    (a45 : PySem.W.nsIn K mainGlobals "_law_words" = some (some (.ref f45)))
    (l45 : K.lookup f45 = some ⟨oc45, od45, .func (PySem.W.fnOf "_law_words" "_law_words" (defArgs s__law_words) (defBody s__law_words) (defScope s__law_words) .none kV45 dc45 pm45 an45 cd45 ct45), sl45⟩)
    (c45 : PySem.W.codeIn K cd45 "_law_words" = true) (k45 : PySem.W.keepIn K (.ref f45) = true)
    (a46 : PySem.W.nsIn K mainGlobals "law" = some (some (.ref f46)))
    (l46 : K.lookup f46 = some ⟨oc46, od46, .func (PySem.W.fnOf "law" "law" (defArgs s_law) (defBody s_law) (defScope s_law) .none kV46 dc46 pm46 an46 cd46 ct46), sl46⟩)
    (c46 : PySem.W.codeIn K cd46 "law" = true) (k46 : PySem.W.keepIn K (.ref f46) = true)
    (z_all : PySem.W.nsIn K mainGlobals "all" = some none)
    (z_bool : PySem.W.nsIn K mainGlobals "bool" = some none)
    (z_int : PySem.W.nsIn K mainGlobals "int" = some none)
    (z_isinstance : PySem.W.nsIn K mainGlobals "isinstance" = some none)
    (z_len : PySem.W.nsIn K mainGlobals "len" = some none)
    (z_list : PySem.W.nsIn K mainGlobals "list" = some none)
    (z_max : PySem.W.nsIn K mainGlobals "max" = some none)
    (z_min : PySem.W.nsIn K mainGlobals "min" = some none)
    (z_range : PySem.W.nsIn K mainGlobals "range" = some none)
    (z_reversed : PySem.W.nsIn K mainGlobals "reversed" = some none)
    (z_set : PySem.W.nsIn K mainGlobals "set" = some none)
    (z_sorted : PySem.W.nsIn K mainGlobals "sorted" = some none)
    (z_str : PySem.W.nsIn K mainGlobals "str" = some none)
    (z_sum : PySem.W.nsIn K mainGlobals "sum" = some none)
    (z_tuple : PySem.W.nsIn K mainGlobals "tuple" = some none)
    (z_type : PySem.W.nsIn K mainGlobals "type" = some none)
    (z_zip : PySem.W.nsIn K mainGlobals "zip" = some none)
    (b_factorial : PySem.W.nsIn K mainGlobals "factorial" = some (some (.builtin "math.factorial")))
    (y_LETTERS : PySem.W.nsIn K mainGlobals "LETTERS" = some (some (.str "abcdefghijklmnopqrstuvwxyz" t_LETTERS)))
    (y_MOST_LETTERS : PySem.W.nsIn K mainGlobals "MOST_LETTERS" = some (some (.int 12 t_MOST_LETTERS)))
    : ∃ fd : FuncData, (∀ (s : Shared) (v : Value), BindsTo s fd ⟨[v], []⟩ [("script", v)]) ∧ ∀ base : Heap, K.In base → base.Ns mainGlobals mg → GFn l.prog w K mg base CX0 10 fa fd ["script"] (lift K w lawV) := by
  have e := hfa.symm.trans (PySem.W.mg_of X G a46)
  cases e
  have n : Nm mg := ⟨PySem.W.mg_none_of X G z_all, PySem.W.mg_none_of X G z_bool, PySem.W.mg_none_of X G z_int, PySem.W.mg_none_of X G z_isinstance, PySem.W.mg_none_of X G z_len, PySem.W.mg_none_of X G z_list, PySem.W.mg_none_of X G z_max, PySem.W.mg_none_of X G z_min, PySem.W.mg_none_of X G z_range, PySem.W.mg_none_of X G z_reversed, PySem.W.mg_none_of X G z_set, PySem.W.mg_none_of X G z_sorted, PySem.W.mg_none_of X G z_str, PySem.W.mg_none_of X G z_sum, PySem.W.mg_none_of X G z_tuple, PySem.W.mg_none_of X G z_type, PySem.W.mg_none_of X G z_zip, PySem.W.mg_of X G b_factorial, ⟨_, PySem.W.mg_of X G y_LETTERS⟩, ⟨_, PySem.W.mg_of X G y_MOST_LETTERS⟩⟩
  have F0 := fun_mk (st := s_last_with) l0 c0 k0
  have F1 := fun_mk (st := s_typed_letters) l1 c1 k1
  have F2 := fun_mk (st := s_find_blocker) l2 c2 k2
  have F3 := fun_mk (st := s_blockers_orders) l3 c3 k3
  have F4 := fun_mk (st := s_is_text) l4 c4 k4
  have F5 := fun_mk (st := s_is_word) l5 c5 k5
  have F6 := fun_mk (st := s__is_word_list) l6 c6 k6
  have F7 := fun_mk (st := s__least_clash) l7 c7 k7
  have F8 := fun_mk (st := s_is_history) l8 c8 k8
  have F9 := fun_mk (st := s_is_book) l9 c9 k9
  have F10 := fun_mk (st := s_check_book) l10 c10 k10
  have F11 := fun_mk (st := s__count_of_sizes) l11 c11 k11
  have F12 := fun_mk (st := s__words_above) l12 c12 k12
  have F13 := fun_mk (st := s__sizes) l13 c13 k13
  have F14 := fun_mk (st := s__counts_by_first) l14 c14 k14
  have F15 := fun_mk (st := s__without) l15 c15 k15
  have F16 := fun_mk (st := s_placement_rank) l16 c16 k16
  have F17 := fun_mk (st := s_alike_rank) l17 c17 k17
  have F18 := fun_mk (st := s_count_placements) l18 c18 k18
  have F19 := fun_mk (st := s_count_alike) l19 c19 k19
  have F20 := fun_mk (st := s_check_same_words) l20 c20 k20
  have F21 := fun_mk (st := s__check_books) l21 c21 k21
  have F22 := fun_mk (st := s_find_branchings) l22 c22 k22
  have F23 := fun_mk (st := s_find_state) l23 c23 k23
  have F24 := fun_mk (st := s__needed_words) l24 c24 k24
  have F25 := fun_mk (st := s_blockers_moves) l25 c25 k25
  have F26 := fun_mk (st := s_count_shortest) l26 c26 k26
  have F27 := fun_mk (st := s_fewest_uses) l27 c27 k27
  have F28 := fun_mk (st := s_play_uses) l28 c28 k28
  have F29 := fun_mk (st := s__is_shortest) l29 c29 k29
  have F30 := fun_mk (st := s_is_shortest) l30 c30 k30
  have F31 := fun_mk (st := s_needed_words) l31 c31 k31
  have F32 := fune_mk (st := s_is_integer_from) l32 c32 k32
  have F33 := fune_mk (st := s_check_integer) l33 c33 k33
  have F34 := fun_mk (st := s_check_index) l34 c34 k34
  have F35 := fun_mk (st := s_nth_placement) l35 c35 k35
  have F36 := fun_mk (st := s_nth_alike) l36 c36 k36
  have F37 := fun_mk (st := s_nth_shortest) l37 c37 k37
  have F38 := fun_mk (st := s_shortest_rank) l38 c38 k38
  have F39 := fun_mk (st := s__law_asked) l39 c39 k39
  have F40 := fun_mk (st := s__law_draw) l40 c40 k40
  have F41 := fun_mk (st := s__law_mixed) l41 c41 k41
  have F42 := fun_mk (st := s__law_named) l42 c42 k42
  have F43 := fun_mk (st := s__law_open_source) l43 c43 k43
  have F44 := fun_mk (st := s__law_same) l44 c44 k44
  have F45 := fun_mk (st := s__law_words) l45 c45 k45
  have F46 := fun_mk (st := s_law) l46 c46 k46
  refine ⟨PySem.W.fnOf "law" "law" (defArgs s_law) (defBody s_law) (defScope s_law) .none kV46 dc46 pm46 an46 cd46 ct46, fun s v => .of_eq rfl, fun base _ _ => ?_⟩
  have D0 := ok_last_with (P := l.prog) (w := w) (base := base) n  F0
  have C0 : GF l.prog w K mg base 1 "last_with" (lift K w sp_last_with) := ⟨_, _, _, PySem.W.mg_of X G a0, k0, (F0.binds (ps := ["book", "text"]) fun _ _ _ _ _ _ us hl => match us, hl with | [_, _], _ => rfl), D0⟩
  have D1 := ok_typed_letters (P := l.prog) (w := w) (base := base) n C0 F1
  have C1 : GF l.prog w K mg base 2 "typed_letters" (lift K w sp_typed_letters) := ⟨_, _, _, PySem.W.mg_of X G a1, k1, (F1.binds (ps := ["book", "word"]) fun _ _ _ _ _ _ us hl => match us, hl with | [_, _], _ => rfl), D1⟩
  have D2 := ok_find_blocker (P := l.prog) (w := w) (base := base) n C0 C1 F2
  have C2 : GF l.prog w K mg base 3 "find_blocker" (lift K w sp_find_blocker) := ⟨_, _, _, PySem.W.mg_of X G a2, k2, (F2.binds (ps := ["book", "word"]) fun _ _ _ _ _ _ us hl => match us, hl with | [_, _], _ => rfl), D2⟩
  have D3 := ok_blockers_orders (P := l.prog) (w := w) (base := base) n C2 F3
  have C3 : GF l.prog w K mg base 4 "blockers_orders" (lift K w sp_blockers_orders) := ⟨_, _, _, PySem.W.mg_of X G a3, k3, (F3.binds (ps := ["book"]) fun _ _ _ _ _ _ us hl => match us, hl with | [_], _ => rfl), D3⟩
  have D4 := ok_is_text (P := l.prog) (w := w) (base := base) n  F4
  have C4 : GF l.prog w K mg base 1 "is_text" (lift K w sp_is_text) := ⟨_, _, _, PySem.W.mg_of X G a4, k4, (F4.binds (ps := ["value"]) fun _ _ _ _ _ _ us hl => match us, hl with | [_], _ => rfl), D4⟩
  have D5 := ok_is_word (P := l.prog) (w := w) (base := base) n C4 F5
  have C5 : GF l.prog w K mg base 2 "is_word" (lift K w sp_is_word) := ⟨_, _, _, PySem.W.mg_of X G a5, k5, (F5.binds (ps := ["value"]) fun _ _ _ _ _ _ us hl => match us, hl with | [_], _ => rfl), D5⟩
  have D6 := ok__is_word_list (P := l.prog) (w := w) (base := base) n C5 F6
  have C6 : GF l.prog w K mg base 3 "_is_word_list" (lift K w sp__is_word_list) := ⟨_, _, _, PySem.W.mg_of X G a6, k6, (F6.binds (ps := ["value"]) fun _ _ _ _ _ _ us hl => match us, hl with | [_], _ => rfl), D6⟩
  have D7 := ok__least_clash (P := l.prog) (w := w) (base := base) n  F7
  have C7 : GF l.prog w K mg base 1 "_least_clash" (lift K w sp__least_clash) := ⟨_, _, _, PySem.W.mg_of X G a7, k7, (F7.binds (ps := ["words"]) fun _ _ _ _ _ _ us hl => match us, hl with | [_], _ => rfl), D7⟩
  have D8 := ok_is_history (P := l.prog) (w := w) (base := base) n C6 C7 F8
  have C8 : GF l.prog w K mg base 4 "is_history" (lift K w sp_is_history) := ⟨_, _, _, PySem.W.mg_of X G a8, k8, (F8.binds (ps := ["value"]) fun _ _ _ _ _ _ us hl => match us, hl with | [_], _ => rfl), D8⟩
  have D9 := ok_is_book (P := l.prog) (w := w) (base := base) n C8 F9
  have C9 : GF l.prog w K mg base 5 "is_book" (lift K w sp_is_book) := ⟨_, _, _, PySem.W.mg_of X G a9, k9, (F9.binds (ps := ["value"]) fun _ _ _ _ _ _ us hl => match us, hl with | [_], _ => rfl), D9⟩
  have D10 := ok_check_book (P := l.prog) (w := w) (base := base) n C9 F10
  have C10 : GF l.prog w K mg base 6 "check_book" (lift K w sp_check_book) := ⟨_, _, _, PySem.W.mg_of X G a10, k10, (F10.binds (ps := ["value"]) fun _ _ _ _ _ _ us hl => match us, hl with | [_], _ => rfl), D10⟩
  have D11 := ok__count_of_sizes (P := l.prog) (w := w) (base := base) n  F11
  have C11 : GF l.prog w K mg base 1 "_count_of_sizes" (lift K w sp__count_of_sizes) := ⟨_, _, _, PySem.W.mg_of X G a11, k11, (F11.binds (ps := ["sizes"]) fun _ _ _ _ _ _ us hl => match us, hl with | [_], _ => rfl), D11⟩
  have D12 := ok__words_above (P := l.prog) (w := w) (base := base) n  F12
  have C12 : GF l.prog w K mg base 1 "_words_above" (lift K w sp__words_above) := ⟨_, _, _, PySem.W.mg_of X G a12, k12, (F12.binds (ps := ["above", "word"]) fun _ _ _ _ _ _ us hl => match us, hl with | [_, _], _ => rfl), D12⟩
  have D13 := ok__sizes (P := l.prog) (w := w) (base := base) n C12 F13
  have C13 : GF l.prog w K mg base 2 "_sizes" (lift K w sp__sizes) := ⟨_, _, _, PySem.W.mg_of X G a13, k13, (F13.binds (ps := ["above"]) fun _ _ _ _ _ _ us hl => match us, hl with | [_], _ => rfl), D13⟩
  have D14 := ok__counts_by_first (P := l.prog) (w := w) (base := base) n C11 C13 C12 F14
  have C14 : GF l.prog w K mg base 3 "_counts_by_first" (lift K w sp__counts_by_first) := ⟨_, _, _, PySem.W.mg_of X G a14, k14, (F14.binds (ps := ["above"]) fun _ _ _ _ _ _ us hl => match us, hl with | [_], _ => rfl), D14⟩
  have D15 := ok__without (P := l.prog) (w := w) (base := base) n  F15
  have C15 : GF l.prog w K mg base 1 "_without" (lift K w sp__without) := ⟨_, _, _, PySem.W.mg_of X G a15, k15, (F15.binds (ps := ["above", "word"]) fun _ _ _ _ _ _ us hl => match us, hl with | [_, _], _ => rfl), D15⟩
  have D16 := ok_placement_rank (P := l.prog) (w := w) (base := base) n C14 C15 F16
  have C16 : GF l.prog w K mg base 4 "placement_rank" (lift K w sp_placement_rank) := ⟨_, _, _, PySem.W.mg_of X G a16, k16, (F16.binds (ps := ["above", "placed"]) fun _ _ _ _ _ _ us hl => match us, hl with | [_, _], _ => rfl), D16⟩
  have D17 := ok_alike_rank (P := l.prog) (w := w) (base := base) n C3 C10 C16 F17
  have C17 : GF l.prog w K mg base 7 "alike_rank" (lift K w sp_alike_rank) := ⟨_, _, _, PySem.W.mg_of X G a17, k17, (F17.binds (ps := ["book"]) fun _ _ _ _ _ _ us hl => match us, hl with | [_], _ => rfl), D17⟩
  have C17_book : GK l.prog w K mg base 7 "alike_rank" ["book"] [0] (lift K w sp_alike_rank) := ⟨_, _, ["book"], PySem.W.mg_of X G a17, k17, (fun us hl => match us, hl with | [_], _ => rfl), GFn.of D17⟩
  have D18 := ok_count_placements (P := l.prog) (w := w) (base := base) n C11 C13 F18
  have C18 : GF l.prog w K mg base 3 "count_placements" (lift K w sp_count_placements) := ⟨_, _, _, PySem.W.mg_of X G a18, k18, (F18.binds (ps := ["above"]) fun _ _ _ _ _ _ us hl => match us, hl with | [_], _ => rfl), D18⟩
  have D19 := ok_count_alike (P := l.prog) (w := w) (base := base) n C3 C10 C18 F19
  have C19 : GF l.prog w K mg base 7 "count_alike" (lift K w sp_count_alike) := ⟨_, _, _, PySem.W.mg_of X G a19, k19, (F19.binds (ps := ["book"]) fun _ _ _ _ _ _ us hl => match us, hl with | [_], _ => rfl), D19⟩
  have C19_book : GK l.prog w K mg base 7 "count_alike" ["book"] [0] (lift K w sp_count_alike) := ⟨_, _, ["book"], PySem.W.mg_of X G a19, k19, (fun us hl => match us, hl with | [_], _ => rfl), GFn.of D19⟩
  have D20 := ok_check_same_words (P := l.prog) (w := w) (base := base) n  F20
  have C20 : GF l.prog w K mg base 1 "check_same_words" (lift K w sp_check_same_words) := ⟨_, _, _, PySem.W.mg_of X G a20, k20, (F20.binds (ps := ["book", "other"]) fun _ _ _ _ _ _ us hl => match us, hl with | [_, _], _ => rfl), D20⟩
  have D21 := ok__check_books (P := l.prog) (w := w) (base := base) n C10 C20 F21
  have C21 : GF l.prog w K mg base 7 "_check_books" (lift K w sp__check_books) := ⟨_, _, _, PySem.W.mg_of X G a21, k21, (F21.binds (ps := ["book", "goal"]) fun _ _ _ _ _ _ us hl => match us, hl with | [_, _], _ => rfl), D21⟩
  have D22 := ok_find_branchings (P := l.prog) (w := w) (base := base) n  F22
  have C22 : GF l.prog w K mg base 1 "find_branchings" (lift K w sp_find_branchings) := ⟨_, _, _, PySem.W.mg_of X G a22, k22, (F22.binds (ps := ["words"]) fun _ _ _ _ _ _ us hl => match us, hl with | [_], _ => rfl), D22⟩
  have D23 := ok_find_state (P := l.prog) (w := w) (base := base) n C22 C0 F23
  have C23 : GF l.prog w K mg base 2 "find_state" (lift K w sp_find_state) := ⟨_, _, _, PySem.W.mg_of X G a23, k23, (F23.binds (ps := ["book"]) fun _ _ _ _ _ _ us hl => match us, hl with | [_], _ => rfl), D23⟩
  have D24 := ok__needed_words (P := l.prog) (w := w) (base := base) n C23 C0 F24
  have C24 : GF l.prog w K mg base 3 "_needed_words" (lift K w sp__needed_words) := ⟨_, _, _, PySem.W.mg_of X G a24, k24, (F24.binds (ps := ["book", "goal"]) fun _ _ _ _ _ _ us hl => match us, hl with | [_, _], _ => rfl), D24⟩
  have D25 := ok_blockers_moves (P := l.prog) (w := w) (base := base) n C24 C2 F25
  have C25 : GF l.prog w K mg base 4 "blockers_moves" (lift K w sp_blockers_moves) := ⟨_, _, _, PySem.W.mg_of X G a25, k25, (F25.binds (ps := ["book", "goal"]) fun _ _ _ _ _ _ us hl => match us, hl with | [_, _], _ => rfl), D25⟩
  have D26 := ok_count_shortest (P := l.prog) (w := w) (base := base) n C21 C25 C18 F26
  have C26 : GF l.prog w K mg base 8 "count_shortest" (lift K w sp_count_shortest) := ⟨_, _, _, PySem.W.mg_of X G a26, k26, (F26.binds (ps := ["book", "goal"]) fun _ _ _ _ _ _ us hl => match us, hl with | [_, _], _ => rfl), D26⟩
  have C26_goal_book : GK l.prog w K mg base 8 "count_shortest" ["goal", "book"] [1, 0] (lift K w sp_count_shortest) := ⟨_, _, ["book", "goal"], PySem.W.mg_of X G a26, k26, (fun us hl => match us, hl with | [_, _], _ => rfl), GFn.of D26⟩
  have D27 := ok_fewest_uses (P := l.prog) (w := w) (base := base) n C21 C24 F27
  have C27 : GF l.prog w K mg base 8 "fewest_uses" (lift K w sp_fewest_uses) := ⟨_, _, _, PySem.W.mg_of X G a27, k27, (F27.binds (ps := ["book", "goal"]) fun _ _ _ _ _ _ us hl => match us, hl with | [_, _], _ => rfl), D27⟩
  have C27_goal_book : GK l.prog w K mg base 8 "fewest_uses" ["goal", "book"] [1, 0] (lift K w sp_fewest_uses) := ⟨_, _, ["book", "goal"], PySem.W.mg_of X G a27, k27, (fun us hl => match us, hl with | [_, _], _ => rfl), GFn.of D27⟩
  have D28 := ok_play_uses (P := l.prog) (w := w) (base := base) n  F28
  have C28 : GF l.prog w K mg base 1 "play_uses" (lift K w sp_play_uses) := ⟨_, _, _, PySem.W.mg_of X G a28, k28, (F28.binds (ps := ["book", "uses"]) fun _ _ _ _ _ _ us hl => match us, hl with | [_, _], _ => rfl), D28⟩
  have D29 := ok__is_shortest (P := l.prog) (w := w) (base := base) n C24 C23 C8 C28 F29
  have C29 : GF l.prog w K mg base 5 "_is_shortest" (lift K w sp__is_shortest) := ⟨_, _, _, PySem.W.mg_of X G a29, k29, (F29.binds (ps := ["book", "goal", "value"]) fun _ _ _ _ _ _ us hl => match us, hl with | [_, _, _], _ => rfl), D29⟩
  have D30 := ok_is_shortest (P := l.prog) (w := w) (base := base) n C21 C29 F30
  have C30 : GF l.prog w K mg base 8 "is_shortest" (lift K w sp_is_shortest) := ⟨_, _, _, PySem.W.mg_of X G a30, k30, (F30.binds (ps := ["book", "goal", "value"]) fun _ _ _ _ _ _ us hl => match us, hl with | [_, _, _], _ => rfl), D30⟩
  have C30_goal_value_book : GK l.prog w K mg base 8 "is_shortest" ["goal", "value", "book"] [2, 0, 1] (lift K w sp_is_shortest) := ⟨_, _, ["book", "goal", "value"], PySem.W.mg_of X G a30, k30, (fun us hl => match us, hl with | [_, _, _], _ => rfl), GFn.of D30⟩
  have D31 := ok_needed_words (P := l.prog) (w := w) (base := base) n C21 C24 F31
  have C31 : GF l.prog w K mg base 8 "needed_words" (lift K w sp_needed_words) := ⟨_, _, _, PySem.W.mg_of X G a31, k31, (F31.binds (ps := ["book", "goal"]) fun _ _ _ _ _ _ us hl => match us, hl with | [_, _], _ => rfl), D31⟩
  have C31_goal_book : GK l.prog w K mg base 8 "needed_words" ["goal", "book"] [1, 0] (lift K w sp_needed_words) := ⟨_, _, ["book", "goal"], PySem.W.mg_of X G a31, k31, (fun us hl => match us, hl with | [_, _], _ => rfl), GFn.of D31⟩
  have Z32 := ok_is_integer_from (P := l.prog) (w := w) (base := base) n  F32
  have M32_3_ : GKM l.prog w K mg base 1 "is_integer_from" 3 [] [0, 1, 2] [] (lift K w sp_is_integer_from) := ⟨_, _, ["value", "least", "most"], [], PySem.W.mg_of X G a32, k32, .nil, fun s us ws hX hl hl2 => L2.BindsTo.of_looks fun M => match us, ws, hl, hl2 with | [_, _, _], [], _, _ => looks_dfl hX t32 rfl rfl (by rfl), Z32⟩
  have Z33 := ok_check_integer (P := l.prog) (w := w) (base := base) n M32_3_ F33
  have M33_3_ : GKM l.prog w K mg base 2 "check_integer" 3 [] [0, 1, 2] [] (lift K w sp_check_integer) := ⟨_, _, ["value", "least", "most"], [], PySem.W.mg_of X G a33, k33, .nil, fun s us ws hX hl hl2 => L2.BindsTo.of_looks fun M => match us, ws, hl, hl2 with | [_, _, _], [], _, _ => looks_dfl hX t33 rfl rfl (by rfl), Z33⟩
  have C34 : GC l.prog w K mg base 3 "check_index" (lift K w sp_check_index) := ⟨_, _, _, PySem.W.mg_of X G a34, k34, (F34.binds (ps := ["value", "many"]) fun _ _ _ _ _ _ us hl => match us, hl with | [_, _], _ => rfl), ok_check_index (P := l.prog) (w := w) (base := base) n M33_3_ F34⟩
  have D35 := ok_nth_placement (P := l.prog) (w := w) (base := base) n C14 C15 F35
  have C35 : GF l.prog w K mg base 4 "nth_placement" (lift K w sp_nth_placement) := ⟨_, _, _, PySem.W.mg_of X G a35, k35, (F35.binds (ps := ["above", "index"]) fun _ _ _ _ _ _ us hl => match us, hl with | [_, _], _ => rfl), D35⟩
  have C36 : GC l.prog w K mg base 7 "nth_alike" (lift K w sp_nth_alike) := ⟨_, _, _, PySem.W.mg_of X G a36, k36, (F36.binds (ps := ["book", "index"]) fun _ _ _ _ _ _ us hl => match us, hl with | [_, _], _ => rfl), ok_nth_alike (P := l.prog) (w := w) (base := base) n C3 C10 C34 C18 C35 F36⟩
  have C36_book_index : GK l.prog w K mg base 7 "nth_alike" ["book", "index"] [0, 1] (lift K w sp_nth_alike) := ⟨_, _, ["book", "index"], PySem.W.mg_of X G a36, k36, (fun us hl => match us, hl with | [_, _], _ => rfl), ok_nth_alike (P := l.prog) (w := w) (base := base) n C3 C10 C34 C18 C35 F36⟩
  have C36_index_book : GK l.prog w K mg base 7 "nth_alike" ["index", "book"] [1, 0] (lift K w sp_nth_alike) := ⟨_, _, ["book", "index"], PySem.W.mg_of X G a36, k36, (fun us hl => match us, hl with | [_, _], _ => rfl), ok_nth_alike (P := l.prog) (w := w) (base := base) n C3 C10 C34 C18 C35 F36⟩
  have C37 : GC l.prog w K mg base 8 "nth_shortest" (lift K w sp_nth_shortest) := ⟨_, _, _, PySem.W.mg_of X G a37, k37, (F37.binds (ps := ["book", "goal", "index"]) fun _ _ _ _ _ _ us hl => match us, hl with | [_, _, _], _ => rfl), ok_nth_shortest (P := l.prog) (w := w) (base := base) n C21 C25 C34 C18 C35 F37⟩
  have C37_index_goal_book : GK l.prog w K mg base 8 "nth_shortest" ["index", "goal", "book"] [2, 1, 0] (lift K w sp_nth_shortest) := ⟨_, _, ["book", "goal", "index"], PySem.W.mg_of X G a37, k37, (fun us hl => match us, hl with | [_, _, _], _ => rfl), ok_nth_shortest (P := l.prog) (w := w) (base := base) n C21 C25 C34 C18 C35 F37⟩
  have D38 := ok_shortest_rank (P := l.prog) (w := w) (base := base) n C21 C29 C25 C16 F38
  have C38 : GF l.prog w K mg base 8 "shortest_rank" (lift K w sp_shortest_rank) := ⟨_, _, _, PySem.W.mg_of X G a38, k38, (F38.binds (ps := ["book", "goal", "value"]) fun _ _ _ _ _ _ us hl => match us, hl with | [_, _, _], _ => rfl), D38⟩
  have C38_value_goal_book : GK l.prog w K mg base 8 "shortest_rank" ["value", "goal", "book"] [2, 1, 0] (lift K w sp_shortest_rank) := ⟨_, _, ["book", "goal", "value"], PySem.W.mg_of X G a38, k38, (fun us hl => match us, hl with | [_, _, _], _ => rfl), GFn.of D38⟩
  have C39 : GC l.prog w K mg base 9 "_law_asked" (lift K w sp__law_asked) := ⟨_, _, _, PySem.W.mg_of X G a39, k39, (F39.binds (ps := ["one", "two"]) fun _ _ _ _ _ _ us hl => match us, hl with | [_, _], _ => rfl), ok__law_asked (P := l.prog) (w := w) (base := base) n C17 C19 C26 C27 C30 C31 C36 C37 C38 F39⟩
  have D40 := ok__law_draw (P := l.prog) (w := w) (base := base) n  F40
  have C40 : GF l.prog w K mg base 1 "_law_draw" (liftC K w sp__law_draw) := ⟨_, _, _, PySem.W.mg_of X G a40, k40, (F40.binds (ps := ["source", "limit"]) fun _ _ _ _ _ _ us hl => match us, hl with | [_, _], _ => rfl), D40⟩
  have D41 := ok__law_mixed (P := l.prog) (w := w) (base := base) n C40 F41
  have C41 : GF l.prog w K mg base 2 "_law_mixed" (liftC K w sp__law_mixed) := ⟨_, _, _, PySem.W.mg_of X G a41, k41, (F41.binds (ps := ["source", "words"]) fun _ _ _ _ _ _ us hl => match us, hl with | [_, _], _ => rfl), D41⟩
  have C42 : GC l.prog w K mg base 9 "_law_named" (lift K w sp__law_named) := ⟨_, _, _, PySem.W.mg_of X G a42, k42, (F42.binds (ps := ["one", "two"]) fun _ _ _ _ _ _ us hl => match us, hl with | [_, _], _ => rfl), ok__law_named (P := l.prog) (w := w) (base := base) n C17 C19 C26 C27 C30 C31 C36 C37 C38 C17_book C19_book C26_goal_book C27_goal_book C30_goal_value_book C31_goal_book C36_book_index C36_index_book C37_index_goal_book C38_value_goal_book F42⟩
  have D43 := ok__law_open_source (P := l.prog) (w := w) (base := base) n  F43
  have C43 : GF l.prog w K mg base 1 "_law_open_source" (lift K w sp__law_open_source) := ⟨_, _, _, PySem.W.mg_of X G a43, k43, (F43.binds (ps := ["script", "k"]) fun _ _ _ _ _ _ us hl => match us, hl with | [_, _], _ => rfl), D43⟩
  have C44_0 : GC l.prog w K mg base 0 "_law_same" (lift K w (sp__law_same 0)) := ⟨_, _, _, PySem.W.mg_of X G a44, k44, (F44.binds (ps := ["result", "expected"]) fun _ _ _ _ _ _ us hl => match us, hl with | [_, _], _ => rfl), GFn.no0 no__law_same⟩
  have C44_1 : GC l.prog w K mg base 1 "_law_same" (lift K w (sp__law_same 1)) := ⟨_, _, _, PySem.W.mg_of X G a44, k44, (F44.binds (ps := ["result", "expected"]) fun _ _ _ _ _ _ us hl => match us, hl with | [_, _], _ => rfl), ok__law_same (P := l.prog) (w := w) (base := base) n 0  C44_0 F44⟩
  have C44_2 : GC l.prog w K mg base 2 "_law_same" (lift K w (sp__law_same 2)) := ⟨_, _, _, PySem.W.mg_of X G a44, k44, (F44.binds (ps := ["result", "expected"]) fun _ _ _ _ _ _ us hl => match us, hl with | [_, _], _ => rfl), ok__law_same (P := l.prog) (w := w) (base := base) n 1  C44_1 F44⟩
  have C44 : GC l.prog w K mg base 3 "_law_same" (lift K w (sp__law_same 3)) := ⟨_, _, _, PySem.W.mg_of X G a44, k44, (F44.binds (ps := ["result", "expected"]) fun _ _ _ _ _ _ us hl => match us, hl with | [_, _], _ => rfl), ok__law_same (P := l.prog) (w := w) (base := base) n 2  C44_2 F44⟩
  have D45 := ok__law_words (P := l.prog) (w := w) (base := base) n C40 F45
  have C45 : GF l.prog w K mg base 2 "_law_words" (liftC K w sp__law_words) := ⟨_, _, _, PySem.W.mg_of X G a45, k45, (F45.binds (ps := ["source", "script", "most"]) fun _ _ _ _ _ _ us hl => match us, hl with | [_, _, _], _ => rfl), D45⟩
  exact ok_law (P := l.prog) (w := w) (base := base) n C39 C41 C42 C43 C44 C45 F46
end My
open PySem PySem.W PyProof.Rows
set_option maxHeartbeats 0 in
theorem PySem.Challenge.cw_ghosttext_k48_named_arguments_of_orders_holds : PySem.Challenge.rw_ghosttext_k48_named_arguments_of_orders.Holds := by
  w_on; o_law; k_head; (case hw => w_witness2)
  k_fill
  refine Gd.walk_ofG (l := PySem.Challenge.rw_ghosttext_k48_named_arguments_of_orders) (n := 63) (k := 10) (x := "script") (sp := fun w => Gd.lift _ w Gd.lawV) rfl (by decide) rfl ⟨rfl, by decide, by decide⟩ (fun w h Y => PySem.W.kIn_of Y) ?F (fun _ _ a ns hl hb _ hS => Gd.law_start hl hb hS)
  case F =>
    intro w mg fa h KX G hmg
    refine' My.all_mk KX G hmg ?a0 ?l0 ?c0 ?k0 ?a1 ?l1 ?c1 ?k1 ?a2 ?l2 ?c2 ?k2 ?a3 ?l3 ?c3 ?k3 ?a4 ?l4 ?c4 ?k4 ?a5 ?l5 ?c5 ?k5 ?a6 ?l6 ?c6 ?k6 ?a7 ?l7 ?c7 ?k7 ?a8 ?l8 ?c8 ?k8 ?a9 ?l9 ?c9 ?k9 ?a10 ?l10 ?c10 ?k10 ?a11 ?l11 ?c11 ?k11 ?a12 ?l12 ?c12 ?k12 ?a13 ?l13 ?c13 ?k13 ?a14 ?l14 ?c14 ?k14 ?a15 ?l15 ?c15 ?k15 ?a16 ?l16 ?c16 ?k16 ?a17 ?l17 ?c17 ?k17 ?a18 ?l18 ?c18 ?k18 ?a19 ?l19 ?c19 ?k19 ?a20 ?l20 ?c20 ?k20 ?a21 ?l21 ?c21 ?k21 ?a22 ?l22 ?c22 ?k22 ?a23 ?l23 ?c23 ?k23 ?a24 ?l24 ?c24 ?k24 ?a25 ?l25 ?c25 ?k25 ?a26 ?l26 ?c26 ?k26 ?a27 ?l27 ?c27 ?k27 ?a28 ?l28 ?c28 ?k28 ?a29 ?l29 ?c29 ?k29 ?a30 ?l30 ?c30 ?k30 ?a31 ?l31 ?c31 ?k31 ?a32 ?l32 ?t32 ?c32 ?k32 ?a33 ?l33 ?t33 ?c33 ?k33 ?a34 ?l34 ?c34 ?k34 ?a35 ?l35 ?c35 ?k35 ?a36 ?l36 ?c36 ?k36 ?a37 ?l37 ?c37 ?k37 ?a38 ?l38 ?c38 ?k38 ?a39 ?l39 ?c39 ?k39 ?a40 ?l40 ?c40 ?k40 ?a41 ?l41 ?c41 ?k41 ?a42 ?l42 ?c42 ?k42 ?a43 ?l43 ?c43 ?k43 ?a44 ?l44 ?c44 ?k44 ?a45 ?l45 ?c45 ?k45 ?a46 ?l46 ?c46 ?k46 ?z_all ?z_bool ?z_int ?z_isinstance ?z_len ?z_list ?z_max ?z_min ?z_range ?z_reversed ?z_set ?z_sorted ?z_str ?z_sum ?z_tuple ?z_type ?z_zip ?b_factorial ?y_LETTERS ?y_MOST_LETTERS
    (case a0 => k_is); (case l0 => k_is); (case c0 => k_is); (case k0 => k_is); (case a1 => k_is); (case l1 => k_is); (case c1 => k_is); (case k1 => k_is)
    (case a2 => k_is); (case l2 => k_is); (case c2 => k_is); (case k2 => k_is); (case a3 => k_is); (case l3 => k_is); (case c3 => k_is); (case k3 => k_is)
    (case a4 => k_is); (case l4 => k_is); (case c4 => k_is); (case k4 => k_is); (case a5 => k_is); (case l5 => k_is); (case c5 => k_is); (case k5 => k_is)
    (case a6 => k_is); (case l6 => k_is); (case c6 => k_is); (case k6 => k_is); (case a7 => k_is); (case l7 => k_is); (case c7 => k_is); (case k7 => k_is)
    (case a8 => k_is); (case l8 => k_is); (case c8 => k_is); (case k8 => k_is); (case a9 => k_is); (case l9 => k_is); (case c9 => k_is); (case k9 => k_is)
    (case a10 => k_is); (case l10 => k_is); (case c10 => k_is); (case k10 => k_is); (case a11 => k_is); (case l11 => k_is); (case c11 => k_is); (case k11 => k_is)
    (case a12 => k_is); (case l12 => k_is); (case c12 => k_is); (case k12 => k_is); (case a13 => k_is); (case l13 => k_is); (case c13 => k_is); (case k13 => k_is)
    (case a14 => k_is); (case l14 => k_is); (case c14 => k_is); (case k14 => k_is); (case a15 => k_is); (case l15 => k_is); (case c15 => k_is); (case k15 => k_is)
    (case a16 => k_is); (case l16 => k_is); (case c16 => k_is); (case k16 => k_is); (case a17 => k_is); (case l17 => k_is); (case c17 => k_is); (case k17 => k_is)
    (case a18 => k_is); (case l18 => k_is); (case c18 => k_is); (case k18 => k_is); (case a19 => k_is); (case l19 => k_is); (case c19 => k_is); (case k19 => k_is)
    (case a20 => k_is); (case l20 => k_is); (case c20 => k_is); (case k20 => k_is); (case a21 => k_is); (case l21 => k_is); (case c21 => k_is); (case k21 => k_is)
    (case a22 => k_is); (case l22 => k_is); (case c22 => k_is); (case k22 => k_is); (case a23 => k_is); (case l23 => k_is); (case c23 => k_is); (case k23 => k_is)
    (case a24 => k_is); (case l24 => k_is); (case c24 => k_is); (case k24 => k_is); (case a25 => k_is); (case l25 => k_is); (case c25 => k_is); (case k25 => k_is)
    (case a26 => k_is); (case l26 => k_is); (case c26 => k_is); (case k26 => k_is); (case a27 => k_is); (case l27 => k_is); (case c27 => k_is); (case k27 => k_is)
    (case a28 => k_is); (case l28 => k_is); (case c28 => k_is); (case k28 => k_is); (case a29 => k_is); (case l29 => k_is); (case c29 => k_is); (case k29 => k_is)
    (case a30 => k_is); (case l30 => k_is); (case c30 => k_is); (case k30 => k_is); (case a31 => k_is); (case l31 => k_is); (case c31 => k_is); (case k31 => k_is)
    (case a32 => k_is); (case l32 => k_is); (case t32 => k_is); (case c32 => k_is); (case k32 => k_is); (case a33 => k_is); (case l33 => k_is); (case t33 => k_is)
    (case c33 => k_is); (case k33 => k_is); (case a34 => k_is); (case l34 => k_is); (case c34 => k_is); (case k34 => k_is); (case a35 => k_is); (case l35 => k_is)
    (case c35 => k_is); (case k35 => k_is); (case a36 => k_is); (case l36 => k_is); (case c36 => k_is); (case k36 => k_is); (case a37 => k_is); (case l37 => k_is)
    (case c37 => k_is); (case k37 => k_is); (case a38 => k_is); (case l38 => k_is); (case c38 => k_is); (case k38 => k_is); (case a39 => k_is); (case l39 => k_is)
    (case c39 => k_is); (case k39 => k_is); (case a40 => k_is); (case l40 => k_is); (case c40 => k_is); (case k40 => k_is); (case a41 => k_is); (case l41 => k_is)
    (case c41 => k_is); (case k41 => k_is); (case a42 => k_is); (case l42 => k_is); (case c42 => k_is); (case k42 => k_is); (case a43 => k_is); (case l43 => k_is)
    (case c43 => k_is); (case k43 => k_is); (case a44 => k_is); (case l44 => k_is); (case c44 => k_is); (case k44 => k_is); (case a45 => k_is); (case l45 => k_is)
    (case c45 => k_is); (case k45 => k_is); (case a46 => k_is); (case l46 => k_is); (case c46 => k_is); (case k46 => k_is); (case z_all => k_is); (case z_bool => k_is)
    (case z_int => k_is); (case z_isinstance => k_is); (case z_len => k_is); (case z_list => k_is); (case z_max => k_is); (case z_min => k_is); (case z_range => k_is); (case z_reversed => k_is)
    (case z_set => k_is); (case z_sorted => k_is); (case z_str => k_is); (case z_sum => k_is); (case z_tuple => k_is); (case z_type => k_is); (case z_zip => k_is); (case b_factorial => k_is)
    (case y_LETTERS => k_is); (case y_MOST_LETTERS => k_is)
