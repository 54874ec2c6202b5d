import PyProof.Rows.All
import Wide.All
import OpenK.AllK
import Wide.FinOn
import HandS.ForMost
import HandS.Wide
import HandS.IsInst
import HandS.EndBits
import HandS.Flow
import PyProof.ReprRoads
import HandS.Style
import HandS.Strs
import HandS.Zip
import PyProof.StrOps2
import PyProof.StrLawsRepr
import PyProof.ReprLen
import HandS.Walk
import HandS.Codes
import PySem.Challenge.RW_ghosttext_k01_words_recognized
set_option Elab.async false
set_option linter.all false
set_option maxRecDepth 100000
set_option maxHeartbeats 4000000
/-! Defs whose promise also leans on "nothing is being shown": what repr asks. -/
namespace Gd
open PySem PySem.Spec PyProof.Rows L2

structure GFn (P : Program) (w : World) (K : PySem.W.Frag) (mg : Str → Option Value)
    (base : Heap) (CX : CXT) (k : Nat) (f : Addr) (fd : FuncData) (ps : List Str) (sp : Sp) : Prop where
  many : ∀ vs H Q E, sp vs H Q E → vs.length = ps.length
  go : ∀ (A : Around) (outer : List Env) (s : Shared) (H : Hp) (args : Args) (us : List Value) (vs : List V) (Q : VK) (E : XK),
    A.guards = some [] → Room k A → Env0 P w K mg base A outer s H → BindsTo s fd args (ps.zip us) →
    Vals vs us → sp vs H Q E → codeAny (model P w) A (.call (.ref f) args) (CR CX outer P w H s Q E) s

section
variable {P : Program} {w : World} {K : PySem.W.Frag} {mg : Str → Option Value} {base : Heap}
variable {CX : CXT} {k j : Nat} {f : Addr} {fd : FuncData} {ps N : List Str} {sp : Sp}

theorem GFn.of (F : FnOk P w K mg base CX k f fd ps sp) : GFn P w K mg base CX k f fd ps sp :=
  ⟨F.len, fun A outer s H args us vs Q E _ hr => F.run A outer s H args us vs Q E hr⟩
theorem GFn.up (F : GFn P w K mg base CX j f fd ps sp) (h : j ≤ k) : GFn P w K mg base CX k f fd ps sp :=
  ⟨F.many, fun A outer s H args us vs Q E g hr => F.go A outer s H args us vs Q E g (hr.mono h)⟩

/-- a def's body, where nothing is being shown -/
theorem GFn.mk' {x qual : Str} {st : Stmt} (F : Fun K x qual st f fd) (S : FnScope N ps (defScope st))
    (len : ∀ vs H Q E, sp vs H Q E → vs.length = ps.length)
    (body : ∀ (cdv : Value) (A : Around) (outer : List Env) (s : Shared) (H : Hp) (vs : List V) (Q : VK) (E : XK),
      A.guards = some [] → Room k (A.deeper (envOfC qual (defScope st) s.heap.objs.size f cdv)) → sp vs H Q E →
      ∃ t, PSs (cxOf CX0 P w K mg base N qual (defScope st) f cdv A outer s H E).nox (defBody st) t ∧
        t { nx := fun _ H' => Q .non H', rt := Q } (start N vs) H) :
    GFn P w K mg base CX0 (k + 1) f fd ps sp := by
  obtain ⟨oc, od, kV, doc, pm, an, cdv, ct, osl, rfl, lk, hcd⟩ := F.ex
  refine ⟨len, fun A outer s H args us vs Q E gd hr e0 hb r hsp => ?_⟩
  have hl := len _ _ _ _ hsp
  have hK : K.In s.heap := e0.mod.kin.keeps fun b o e => (e0.bs b o e).1
  have hlim : s.heap.NoLimit := e0.mod.nolimit.keeps fun b o e => (e0.bs b o e).1
  have kinds : ∀ y ∈ ps.zip us, (defScope st).names.lookup y.1 = some .local ∨
      ((defScope st).names.lookup y.1 = some .cell ∧
        ((cellsFrom (s.heap.objs.size + 1) (defScope st).names []).lookup y.1).isSome = true) := by
    rintro ⟨n, v⟩ hy
    rcases S.par n (List.of_mem_zip hy).1 with q | q
    · exact .inl q
    · exact .inr ⟨q, PySem.W.cellsFrom_some _ _ _ (.inl q)⟩
  refine codeAny_call_function hr.depth (hK _ _ lk) rfl S.co S.gen rfl (PySem.W.codeRec_of hK hcd) (hb _ _ _ _ ?_)
  refine wpAny_newFunctionEnv_cells S.kind kinds fun env he s1 x => ?_
  subst he
  refine ⟨hlim.keeps x.toInCall.keep, codeAny_func ?_⟩
  obtain ⟨t, ht, hq⟩ := body cdv A outer s H vs Q E gd (hr.deeper _) hsp
  have I := inv_start (CX := CX0) (P := P) (mg := mg) (E := E) S hr.hd e0 hl r x
  refine wpAny_mono (ht.nox.run [] s1 (start N vs) H _ I hq) (fun fl s' hs => ?_) fun e s' hs => hs
  cases fl with
  | ret u =>
    obtain ⟨v, σ', H', J, rv, q⟩ := hs
    exact ⟨v, H', J.os, J.bare, J.base, J.hok, rv, q⟩
  | next =>
    obtain ⟨σ', H', J, q⟩ := hs
    exact ⟨V.non, H', J.os, J.bare, J.base, J.hok, rfl, q⟩
  | brk =>
    obtain ⟨_, _, _, q⟩ := hs
    exact False.elim q
  | cont =>
    obtain ⟨_, _, _, q⟩ := hs
    exact False.elim q
end

section
variable {X : Cx} {CX : CXT} {k : Nat} {f : Addr} {fd : FuncData} {ps : List Str} {sp : Sp}
variable {dvs : List V} {ds : List Value} {E : XK}
theorem run_g {pins : List (Addr × Obj)} {σ : L2.St} {H : Hp} {s : Shared} {Q : VK} {us : List Value} {vs : List V}
    (F : GFn X.prog X.w X.K X.mg X.base CX k f fd ps sp) (hg : X.A.guards = some []) (hr : Room k X.A)
    (hb : Binds X.K fd ps ds) (hd : Vals dvs ds) (hx : Passes CX X E) (I : Inv X pins σ H s) (r : Vals vs us)
    (h : sp (vs ++ dvs) H Q E) : wpAny (model X.prog X.w) X.A (call (.ref f) us) (EP X pins σ Q) X.xe s := by
  have r2 := r.append hd
  have hl : (us ++ ds).length = ps.length := by
    rw [← r2.length]
    exact F.many _ _ _ _ h
  refine wpAny_call (codeAny_mono (F.go X.A X.stack s H ⟨us, []⟩ _ _ Q E hg hr I.env0 (hb s us I.kIn hl) r2 h) ?_)
  intro r s' hq
  cases r with
  | error e => exact hx pins σ H s e s' I hq
  | ok fl =>
    cases fl with
    | ret u => exact I.after hq
    | next => exact hq.elim
    | brk => exact hq.elim
    | cont => exact hq.elim
theorem pe_callG {x : Str} {p pos : Pos} {e : Expr} {es : List Expr} {t : TA}
    (F : GFn X.prog X.w X.K X.mg X.base CX k f fd ps sp) (gd : X.A.guards = some []) (hr : Room k X.A) (hg : Gl X x)
    (hm : X.mg x = some (.ref f)) (hk : PySem.W.keepIn X.K (.ref f) = true) (hb : Binds X.K fd ps ds) (hd : Vals dvs ds)
    (hx : Passes CX X E) (ha : PA X (e :: es) t) (hdb : (x == ("__debug__" : Str)) = false := by decide)
    (he : starEach (e :: es) X.env = (false, eval e X.env) :: starEach es X.env := by rfl)
    (hpl : (backTo pos (starEach es X.env)).any (·.1) = false := by rfl) :
    PE X (.Call (.Name x p) (e :: es) [] pos) (tCall sp dvs E t) := by
  refine ⟨fun pins s σ H Q I h => wpAny_Call_Name_kw (ld_glob I hg hm ?_ hdb)⟩
  refine PySem.W.callWith_K (h₀ := X.base) I.ok.mod.kin hk (thn (ha.run pos pins s σ H _ I h) ?_) he hpl
  exact fun us s1 ⟨vs, H1, I1, r, q⟩ => ⟨I1.kIn, run_g F gd hr hb hd hx I1 r q⟩
end

/-! ### the law's own call -/
theorem law_callG {P : Program} {w : World} {K : PySem.W.Frag} {mg mb : Str → Option Value} {k : Nat} {fa a : Addr}
    {fd : FuncData} {x : Str} {sp : Sp} {s1 : Shared} {vs : List Value} {ns : List Int} (KX : K.In s1.heap)
    (hns : s1.heap.Ns mainGlobals mg) (hb : s1.heap.Ns builtinsNs mb) (hbb : ∀ x : Str, x ≠ "__name__" → mb x = bootBuiltins x)
    (hlim : s1.heap.NoLimit) (hg : s1.gens = #[]) (ha : s1.heap.get? a = some { cls := .type "list", data := .seq vs.toArray })
    (hi : IntsAre vs ns) (hl : ns.length ≤ sizeLine) (hr : Room k callerA)
    (F : ∀ base : Heap, K.In base → base.Ns mainGlobals mg → GFn P w K mg base CX0 k fa fd [x] sp)
    (hbind : ∀ (s : Shared) (u : Value), BindsTo s fd ⟨[u], []⟩ [(x, u)])
    (hsp : ∀ H : Hp, Only H → SqL K H a (ns.map V.int) → sp [.ref a] H (fun v _ => v = .bl true) fun _ _ _ => False) :
    codeAny (model P w) callerA (.call (.ref fa) ⟨[.ref a], []⟩)
      (fun r s' => r = .ok (.ret (.bool true)) ∧ OldK s1.heap s'.heap ∧ s'.os = s1.os ∧ AllBare s'.gens) s1 := by
  have rv := vals_ints hi
  have lenV := hi.length
  have core : ∀ H : Hp, Only H → SqL K H a (ns.map V.int) → HOk P w H s1.heap → (∀ b, H b ≠ none → b = a) →
      (H a ≠ none → K.lookup a = none) → codeAny (model P w) callerA (.call (.ref fa) ⟨[.ref a], []⟩)
        (fun r s' => r = .ok (.ret (.bool true)) ∧ OldK s1.heap s'.heap ∧ s'.os = s1.os ∧ AllBare s'.gens) s1 := by
    intro H hO hS hok hA hK
    have one : ∀ {b : Addr}, H b ≠ none → b = a := fun {b} z => hA b z
    have noA : ∀ {b : Addr} {o : Obj} {es : Array DictEntry} {ep : Nat}, s1.heap.get? b = some o → o.data = .dict es ep → H b = none := by
      intro b o es ep e d
      cases q : H b with
      | none => rfl
      | some u =>
        have e' : b = a := one (by rw [q]; simp)
        subst e'
        rw [ha] at e; cases e
        exact absurd d (by intro z; cases z)
    have nsK : ∀ {b : Addr} {m : Str → Option Value}, s1.heap.Ns b m → (hidT s1.heap H).Ns b m := by
      rintro b m ⟨o, es, ep, e, d, r⟩
      exact ⟨o, es, ep, hidT_get e (noA e d), d, r⟩
    have hKb : K.In (hidT s1.heap H) := by
      intro b o e
      refine hidT_get (KX b o e) ?_
      cases q : H b with
      | none => rfl
      | some u =>
        have e' : b = a := one (by rw [q]; simp)
        subst e'
        rw [hK (by rw [q]; simp)] at e; cases e
    have hM : Mod K mg (hidT s1.heap H) :=
      ⟨hKb, nsK hns, ⟨mb, nsK hb, hbb⟩, let ⟨mc, h1, h2⟩ := hlim; ⟨mc, nsK h1, h2⟩⟩
    have e0 : Env0 P w K mg (hidT s1.heap H) callerA [] s1 H :=
      ⟨rfl, hM, fun b o e => of_hidT e, Nat.le_of_eq (hidT_size _ _), trivial,
        fun b hb => absurd (show b ∈ ([] : List Addr) from hb) (by simp), hok, .of_eq hg⟩
    have G := F _ hKb (nsK hns)
    refine codeAny_mono (G.go callerA [] s1 H ⟨[.ref a], []⟩ [.ref a] [.ref a] _ _ rfl hr e0 (hbind s1 (.ref a)) (.cons rfl .nil) (hsp H hO hS)) ?_
    intro r s' h
    cases r with
    | error e => exact False.elim h
    | ok fl =>
      cases fl with
      | next => exact h.elim
      | brk => exact h.elim
      | cont => exact h.elim
      | ret u =>
        obtain ⟨v, H', os, bare, un, hok', r', q⟩ := h
        obtain rfl : v = .bl true := q
        obtain rfl : u = Value.bool true := r'
        refine ⟨rfl, OldK.of_keep fun b o e => ?_, os, bare⟩
        cases q : H b with
        | none =>
          refine un.keep b o e q ?_ (by simp)
          intro z
          exact absurd (show b ∈ ([] : List Addr) from z) (by simp)
        | some u =>
          rcases hO b with z | ⟨ob, xs, z⟩
          · rw [q] at z; cases z
          · obtain ⟨e1, _⟩ := hok b _ z
            obtain ⟨e2, _⟩ := hok' b _ (un.frzs b ob _ z)
            rw [e] at e1; cases e1
            exact e2
  cases hk : K.lookup a with
  | some o =>
    have e := KX a o hk
    rw [ha] at e
    cases e
    refine core (fun _ => none) (fun _ => .inl rfl) (.inr ⟨_, vs.toArray, _, hk, rfl, rfl, rfl, ?_, by simpa using rv⟩) ?_ (fun b z => absurd rfl z) fun z => absurd rfl z
    · rw [List.size_toArray, lenV]
      exact hl
    · intro b u z
      have z' : (none : Option HO) = some u := z
      cases z'
  | none =>
    let Hs : Hp := fun b => if b = a then some (.frz { cls := .type "list", data := .seq vs.toArray } (.lst (ns.map V.int))) else none
    have hin : ∀ {b}, b = a → Hs b = some (.frz { cls := .type "list", data := .seq vs.toArray } (.lst (ns.map V.int))) := fun e => if_pos e
    have hout : ∀ {b}, b ≠ a → Hs b = none := fun e => if_neg e
    refine core Hs (fun b => ?_) (.inl (.inr ⟨_, hin rfl⟩)) (fun b u z => ?_) (fun b z => ?_) fun _ => hk
    · by_cases e : b = a
      · exact .inr ⟨_, _, hin e⟩
      · exact .inl (hout e)
    · by_cases e : b = a
      · rw [hin e] at z
        cases z
        subst e
        exact ⟨ha, by rw [List.length_map]; exact hl, vs, _, rv, ha⟩
      · rw [hout e] at z
        cases z
    · by_cases e : b = a
      · exact e
      · exact absurd (hout e) z

/-- the head's goal, from the law's promise -/
theorem walk_ofG {l : PySem.W.OpenLaw} {n k : Nat} {q : Program} {loose : List Str} {XP : (Str → Option Value) → Heap → Prop}
    {YP : World → Heap → Prop} {d : DefRec} {K : Params → PySem.W.Frag} {sp : World → Sp} {x : Str}
    (hn : l.most = some n) (hn2 : n ≤ sizeLine) (hdf : d.params.defaults = []) (hr : Room k callerA)
    (hY : ∀ (w : World) (h : Heap), YP w h → (K w.params).In h)
    (F : ∀ (w : World) (mg : Str → Option Value) (fa : Addr) (h : Heap), (K w.params).In h → h.Ns mainGlobals mg →
      mg d.name = some (.ref fa) → ∃ fd : FuncData, (∀ (s : Shared) (u : Value), BindsTo s fd ⟨[u], []⟩ [(x, u)]) ∧
        ∀ base : Heap, (K w.params).In base → base.Ns mainGlobals mg → GFn l.prog w (K w.params) mg base CX0 k fa fd [x] (sp w))
    (hsp : ∀ (w : World) (H : Hp) (a : Addr) (ns : List Int), ns.length ≤ n → (∀ z ∈ ns, Builtin.Int.intBits z ≤ 1048576) →
      Only H → SqL (K w.params) H a (ns.map V.int) → sp w [.ref a] H (fun v _ => v = .bl true) fun _ _ _ => False) :
    PySem.W.WalkO q loose XP YP l.row.toRowW d [] (fun f vs => PySem.call f vs) := by
  refine Att.attach_callB hn hdf fun w s₀ s₁ mg mb fa o pm cd doc a vs ns G Y ho hd hcd hmg hobj hints hlen hbits hg => ?_
  have KX := hY w _ Y
  obtain ⟨fd, hb, hF⟩ := F w mg fa _ KX G.T.g hmg
  exact law_callG KX G.T.g G.T.b G.T.builtins G.T.nolimit hg hobj hints (Nat.le_trans hlen hn2) hr hF hb
    fun H hO hS => hsp w H a ns hlen hbits hO hS
end Gd
/-! Operators told by the values' kinds: one reading for each sign. -/
namespace Gd
open PySem PySem.Spec PyProof.Rows L2

abbrev tl (x : Str) : List Nat := x.cps.toList

/-! ### the readings -/
def uAdd (K : PySem.W.Frag) : R2 := fun x y H Q => match x, y with
  | .int i, .int j => Q (.int (i + j)) H
  | .str a, .str b => a.length + b.length ≤ sizeLine ∧ Q (.str (a ++ b)) H
  | .ref a, .ref b => (∃ xs zs, SqL K H a xs ∧ SqL K H b zs ∧ xs.length + zs.length ≤ sizeLine ∧
      ∀ p, H p = none → Q (.ref p) (upd H p (.lst (xs ++ zs)))) ∨ rCatT K (.ref a) (.ref b) H Q
  | _, _ => False
def uSub : R2 := fun x y H Q => match x, y with
  | .int i, .int j => Q (.int (i - j)) H
  | _, _ => False
def strRep (a : Str) (n : Nat) : Str := ⟨(List.replicate n (tl a)).flatten.toArray⟩
def uMul : R2 := fun x y H Q => match x, y with
  | .int i, .int j => (CMul i j ∨ CMulW i j) ∧ Q (.int (i * j)) H
  | .str a, .int k => (k < 16777217 ∧ -16777217 < k ∧ a.length * k.toNat ≤ sizeLine) ∧ Q (.str (strRep a k.toNat)) H
  | .ref a, .int k => ∃ xs, H a = some (.lst xs) ∧ -(2 ^ 63) ≤ k ∧ k < 2 ^ 63 ∧ xs.length * k.toNat ≤ sizeLine ∧
      ∀ p, H p = none → Q (.ref p) (upd H p (.lst (List.replicate k.toNat xs).flatten))
  | _, _ => False
def uMod : R2 := fun x y H Q => match x, y with
  | .int i, .int j => 0 < j ∧ Q (.int (i % j)) H
  | _, _ => False
def uDiv : R2 := fun x y H Q => match x, y with
  | .int i, .int j => CDivW i j ∧ Q (.int (i / j)) H
  | _, _ => False
def CPowW (i j : Int) : Prop := 0 ≤ j ∧ (Builtin.Int.intBits i : Int) * j ≤ 2 ^ 27
def uPow : R2 := fun x y H Q => match x, y with
  | .int i, .int j => CPowW i j ∧ Q (.int (i ^ j.toNat)) H
  | _, _ => False
def isRef : V → Bool
  | .ref _ => true
  | _ => false
def uEq (K : PySem.W.Frag) : R2 := fun x y H Q => (scal x y = true ∧ Q (.bl (decide (x = y))) H) ∨ rEqD K x y H Q
def uNe (K : PySem.W.Frag) : R2 := fun x y H Q => (scal x y = true ∧ Q (.bl (!decide (x = y))) H) ∨ rNeD K x y H Q
def uLt : R2 := fun x y H Q => match x, y with
  | .int i, .int j => Q (.bl (decide (i < j))) H
  | .str a, .str b => Q (.bl (decide (tl a < tl b))) H
  | _, _ => False
def uGt : R2 := fun x y H Q => match x, y with
  | .int i, .int j => Q (.bl (decide (j < i))) H
  | .str a, .str b => Q (.bl (decide (tl b < tl a))) H
  | _, _ => False
def uLe : R2 := fun x y H Q => match x, y with
  | .int i, .int j => Q (.bl (decide (i ≤ j))) H
  | .str a, .str b => Q (.bl (!decide (tl b < tl a))) H
  | _, _ => False
def uGe : R2 := fun x y H Q => match x, y with
  | .int i, .int j => Q (.bl (decide (j ≤ i))) H
  | .str a, .str b => Q (.bl (!decide (tl a < tl b))) H
  | _, _ => False
def uIn (K : PySem.W.Frag) : R2 := fun x y H Q => match y with
  | .str z => ∃ c, x = .str ⟨#[c]⟩ ∧ Q (.bl (decide (c ∈ tl z))) H
  | .ref p => ∃ xs, (SqL K H p xs ∨ SqT K H p xs) ∧ flatV x = true ∧ xs.all flatV = true ∧ Q (.bl (inV x xs)) H
  | _ => False
def uNi (K : PySem.W.Frag) : R2 := fun x y H Q => match y with
  | .str z => ∃ c, x = .str ⟨#[c]⟩ ∧ Q (.bl (!decide (c ∈ tl z))) H
  | .ref p => ∃ xs, (SqL K H p xs ∨ SqT K H p xs) ∧ flatV x = true ∧ xs.all flatV = true ∧ Q (.bl (!inV x xs)) H
  | _ => False

section
variable {X : Cx}
theorem OpR.or {f : Value → Value → Sem Value} {r r' : R2} (h : OpR X f r) (h' : OpR X f r') :
    OpR X f (fun x y H Q => r x y H Q ∨ r' x y H Q) := by
  intro pins s σ H x y v u Q I rx ry q
  rcases q with q | q
  · exact h pins s σ H x y v u Q I rx ry q
  · exact h' pins s σ H x y v u Q I rx ry q

theorem OpR.imp {f : Value → Value → Sem Value} {r r' : R2} (h : OpR X f r) (g : ∀ x y H Q, r' x y H Q → r x y H Q) : OpR X f r' :=
  fun pins s σ H x y v u Q I rx ry q => h pins s σ H x y v u Q I rx ry (g x y H Q q)
/-! a list that is only read, and another one -/
theorem op_catQ : OpR X (binaryOp .Add) (fun x y H Q => ∃ a b xs zs, x = .ref a ∧ y = .ref b ∧ SqL X.K H a xs ∧ SqL X.K H b zs ∧ xs.length + zs.length ≤ sizeLine ∧
    ∀ p, H p = none → Q (.ref p) (upd H p (.lst (xs ++ zs)))) := by
  intro pins s σ H x y v u Q I rx ry h
  obtain ⟨l, b, xs, zs, rfl, rfl, hH, hH2, hz, q⟩ := h
  cases rx
  cases ry
  obtain ⟨its, r, ⟨⟨cls, dd, data, sl⟩, n, ho, hc, hd, hs⟩, z1⟩ := I.list hH
  obtain ⟨its2, r2, ⟨⟨cls2, dd2, data2, sl2⟩, n2, ho2, hc2, hd2, hs2⟩, z2⟩ := I.list hH2
  simp only at hc hd hs hc2 hd2 hs2
  subst hc hd hs hc2 hd2 hs2
  have e1 := r.length
  have e2 := r2.length
  have ea : its.toArray ++ its2.toArray = (its ++ its2).toArray := by simp
  refine concat_meets ⟨_, ho, rfl⟩ ⟨_, ho2, rfl⟩ noFill_list_add seq_list_add PySem.F.slot_list_add PySem.F.entry_list_add (PySem.F.args_list_add_2 _ _)
    (list_addW l b its.toArray its2.toArray n n2 none none sl sl2 (by rw [List.size_toArray, List.size_toArray]; omega)) ⟨ho, ho2, ?_⟩
  rw [ea]
  exact ⟨.ref _, _, I.lnew (t' := s.toks) (r.append r2) (by rw [List.length_append]; omega), rfl, q _ I.fresh⟩
theorem ou_add : OpR X (binaryOp .Add) (uAdd X.K) :=
  OpR.imp (OpR.or op_add (OpR.or op_add_str (OpR.or op_catQ op_catT))) fun x y H Q h => by
    cases x <;> cases y <;> first
      | exact False.elim h
      | exact .inl ⟨_, _, rfl, rfl, h⟩
      | exact .inr (.inl ⟨_, _, rfl, rfl, h.1, h.2⟩)
      | skip
    rcases h with ⟨xs, zs, h1, h2, h3, h4⟩ | h
    · exact .inr (.inr (.inl ⟨_, _, xs, zs, rfl, rfl, h1, h2, h3, h4⟩))
    · exact .inr (.inr (.inr h))
theorem ou_sub : OpR X (binaryOp .Sub) uSub := OpR.imp op_sub fun x y H Q h => by
  cases x <;> cases y <;> first
    | exact False.elim h
    | exact ⟨_, _, rfl, rfl, h⟩
theorem foldl_app (z : Array Nat) : ∀ (n : Nat) (acc : Array Nat), ((List.replicate n z).foldl (· ++ ·) acc).toList = acc.toList ++ (List.replicate n z.toList).flatten
  | 0, acc => by simp
  | n + 1, acc => by
    rw [List.replicate_succ, List.foldl_cons, foldl_app z n, List.replicate_succ, List.flatten_cons, Array.toList_append, List.append_assoc]
theorem strRep_len (a : Str) (n : Nat) : (strRep a n).length = a.length * n := by
  show (List.replicate n (tl a)).flatten.toArray.size = a.cps.size * n
  rw [List.size_toArray, List.length_flatten]
  simp [Nat.mul_comm]
theorem tl_rep (a : Str) (n : Nat) : tl (strRep a n) = (List.replicate n (tl a)).flatten := rfl
theorem ou_mulS {a : Str} {k : Int} {t u : Tok} {pins : List (Addr × Obj)} {s : Shared} {σ : L2.St} {H : Hp} {Q : VK} (I : Inv X pins σ H s)
    (hc : k < 16777217 ∧ -16777217 < k ∧ a.length * k.toNat ≤ sizeLine) (q : Q (.str (strRep a k.toNat)) H) :
    wpAny (model X.prog X.w) X.A (binaryOp .Mult (.str a t) (.int k u)) (EP X pins σ Q) X.xe s := by
  obtain ⟨h1, h2, h3⟩ := hc
  have hz := h3
  rw [sizeLine_eq] at h3
  have two : (2 : Int) ^ 63 = 9223372036854775808 := by decide
  refine PySem.P.mul_str ?_ (fun h0 h z => ?_) (fun h0 h => ?_) ?_
  · rw [two, decide_eq_false (by omega), decide_eq_false (by omega)]
    rfl
  · have hk : 0 < k := by omega
    have e1 : (a.length : Int) * k ≤ 16777216 := by
      have e : ((a.length * k.toNat : Nat) : Int) ≤ ((16777216 : Nat) : Int) := Int.ofNat_le.mpr h3
      rw [Int.natCast_mul, Int.toNat_of_nonneg (by omega)] at e
      exact e
    rw [two] at z
    have e2 := Int.mul_ediv_add_emod (9223372036854775808 - 1) k
    have e3 := Int.emod_lt_of_pos (9223372036854775808 - 1) hk
    have e4 : k * ((9223372036854775808 - 1) / k) ≤ k * (a.length : Int) := Int.mul_le_mul_of_nonneg_left (by omega) (by omega)
    rw [Int.mul_comm k (a.length : Int)] at e4
    generalize k * ((9223372036854775808 - 1) / k) = p at *
    generalize (a.length : Int) * k = r at *
    omega
  · unfold PySem.Builtin.Str.tooLong
    exact decide_eq_false (by omega)
  · by_cases h0 : k < 1
    · rw [if_pos h0]
      have e : strRep a k.toNat = Str.empty := by
        rw [show k.toNat = 0 by omega]
        rfl
      exact ⟨Nat.zero_le _, .str _, H, I.tok _, ⟨_, by rw [e]⟩, q⟩
    · rw [if_neg h0]
      by_cases h1' : (k == 1 || a.length == 0) = true
      · rw [if_pos h1']
        have e : strRep a k.toNat = a := by
          rw [Bool.or_eq_true, beq_iff_eq, beq_iff_eq] at h1'
          apply TL.ext_tl
          show tl (strRep a k.toNat) = tl a
          rw [tl_rep]
          rcases h1' with h1' | h1'
          · rw [h1']
            simp
          · have z : tl a = [] := by
              apply List.eq_nil_of_length_eq_zero
              simpa [tl, Str.length] using h1'
            rw [z]
            simp
        exact ⟨.str _, H, I, ⟨t, by rw [e]⟩, q⟩
      · rw [if_neg h1']
        have e : (⟨(List.replicate k.toNat a.cps).foldl (· ++ ·) #[]⟩ : Str) = strRep a k.toNat := by
          apply TL.ext_tl
          show ((List.replicate k.toNat a.cps).foldl (· ++ ·) #[]).toList = (List.replicate k.toNat (tl a)).flatten
          rw [foldl_app]
          simp [tl]
        refine ⟨?_, .str _, H, I.tok _, ⟨_, by rw [e]⟩, q⟩
        rw [e, strRep_len]
        exact hz
def rMulS : R2 := fun x y H Q => ∃ a k, x = .str a ∧ y = .int k ∧ (k < 16777217 ∧ -16777217 < k ∧ a.length * k.toNat ≤ sizeLine) ∧ Q (.str (strRep a k.toNat)) H
theorem op_mulS : OpR X (binaryOp .Mult) rMulS := by
  rintro pins s σ H x y v u Q I rx ry ⟨a, k, rfl, rfl, h, q⟩
  obtain ⟨t, rfl⟩ := rx
  obtain ⟨t', rfl⟩ := ry
  exact ou_mulS I h q
theorem ou_mul : OpR X (binaryOp .Mult) uMul :=
  OpR.imp (OpR.or op_mul (OpR.or op_mulW (OpR.or op_mulS op_rep))) fun x y H Q h => by
    cases x <;> cases y <;> first
      | exact False.elim h
      | exact .inr (.inr (.inl ⟨_, _, rfl, rfl, h.1, h.2⟩))
      | skip
    · rcases h.1 with c | c
      · exact .inl ⟨_, _, rfl, rfl, c, h.2⟩
      · exact .inr (.inl ⟨_, _, rfl, rfl, c, h.2⟩)
    · obtain ⟨xs, h1, h2, h3, h4, h5⟩ := h
      exact .inr (.inr (.inr ⟨_, _, xs, rfl, rfl, h1, h2, h3, h4, h5⟩))
theorem ou_mod : OpR X (binaryOp .Mod) uMod := OpR.imp op_mod fun x y H Q h => by
  cases x <;> cases y <;> first
    | exact False.elim h
    | exact ⟨_, _, rfl, rfl, h.1, h.2⟩
theorem ou_div : OpR X (binaryOp .FloorDiv) uDiv := OpR.imp op_fdivW fun x y H Q h => by
  cases x <;> cases y <;> first
    | exact False.elim h
    | exact ⟨_, _, rfl, rfl, h.1, h.2⟩
theorem op_powW : OpR X (binaryOp .Pow) (rI CPowW fun i j => .int (i ^ j.toNat)) := opI fun _ _ _ _ _ _ _ hc q => pow_int hc.1 hc.2 q
theorem ou_pow : OpR X (binaryOp .Pow) uPow := OpR.imp op_powW fun x y H Q h => by
  cases x <;> cases y <;> first
    | exact False.elim h
    | exact ⟨_, _, rfl, rfl, h.1, h.2⟩
theorem ou_eq (hu : X.A.units + 64 < cLine) : OpR X (compareOp .Eq) (uEq X.K) := OpR.or op_eq (op_eqD hu)
theorem ou_ne (hu : X.A.units + 64 < cLine) : OpR X (compareOp .NotEq) (uNe X.K) := OpR.or op_ne (op_neD hu)
theorem ou_lt : OpR X (compareOp .Lt) uLt := OpR.imp (OpR.or op_lt op_lt_str) fun x y H Q h => by
  cases x <;> cases y <;> first
    | exact False.elim h
    | exact .inl ⟨_, _, rfl, rfl, h⟩
    | exact .inr ⟨_, _, rfl, rfl, h⟩
theorem ou_gt : OpR X (compareOp .Gt) uGt := OpR.imp (OpR.or op_gt op_gt_str) fun x y H Q h => by
  cases x <;> cases y <;> first
    | exact False.elim h
    | exact .inl ⟨_, _, rfl, rfl, h⟩
    | exact .inr ⟨_, _, rfl, rfl, h⟩
theorem ou_le : OpR X (compareOp .LtE) uLe := OpR.imp (OpR.or op_le op_le_str) fun x y H Q h => by
  cases x <;> cases y <;> first
    | exact False.elim h
    | exact .inl ⟨_, _, rfl, rfl, h⟩
    | exact .inr ⟨_, _, rfl, rfl, h⟩
theorem ou_ge : OpR X (compareOp .GtE) uGe := OpR.imp (OpR.or op_ge op_ge_str) fun x y H Q h => by
  cases x <;> cases y <;> first
    | exact False.elim h
    | exact .inl ⟨_, _, rfl, rfl, h⟩
    | exact .inr ⟨_, _, rfl, rfl, h⟩
theorem ou_in : OpR X (compareOp .In) (uIn X.K) := OpR.imp (OpR.or op_in_sign op_in_seq) fun x y H Q h => by
  cases y <;> first
    | exact False.elim h
    | (obtain ⟨c, e, q⟩ := h
       exact .inl ⟨c, _, e, rfl, q⟩)
    | (obtain ⟨xs, h1, h2, h3, q⟩ := h
       exact .inr ⟨_, xs, rfl, h1, h2, h3, q⟩)
theorem ou_ni : OpR X (compareOp .NotIn) (uNi X.K) := OpR.imp (OpR.or op_notIn_sign op_notIn_seq) fun x y H Q h => by
  cases y <;> first
    | exact False.elim h
    | (obtain ⟨c, e, q⟩ := h
       exact .inl ⟨c, _, e, rfl, q⟩)
    | (obtain ⟨xs, h1, h2, h3, q⟩ := h
       exact .inr ⟨_, xs, rfl, h1, h2, h3, q⟩)
theorem ou_is : OpR X (compareOp .Is) (fun x y H Q => y = .non ∧ Q (.bl (decide (x = .non))) H) := op_isN
end
end Gd
/-! Readings step by step; what stays of a heap; data of any depth. -/
namespace Gd
open PySem PySem.Spec PyProof.Rows L2

/-! ### what stays -/
/-- all that is tracked stays, but at S -/
def Kp (S : List Addr) (H H' : Hp) : Prop := ∀ b o, H b = some o → b ∉ S → H' b = some o
section
variable {S T : List Addr} {H H1 H2 H' : Hp} {a b p : Addr} {o u : HO}
theorem Kp.refl : Kp S H H := fun _ _ h _ => h
theorem Kp.get (k : Kp S H H') (h : H b = some o) (n : b ∉ S) : H' b = some o := k b o h n
theorem Kp.get0 (k : Kp [] H H') (h : H b = some o) : H' b = some o := k b o h (by simp)
theorem Kp.get1 (k : Kp [a] H H') (h : H b = some o) (n : b ≠ a) : H' b = some o := k b o h (by simp [n])
theorem Kp.get2 {c : Addr} (k : Kp [a, c] H H') (h : H b = some o) (n : b ≠ a) (m : b ≠ c) : H' b = some o := k b o h (by simp [n, m])
theorem nn1 (h : H b = none) (h' : H a = some o) : a ≠ b := ne_of_none h' h
theorem nn2 (h : H a = none) (h' : H b = some o) : a ≠ b := (ne_of_none h' h).symm
theorem Kp.new (k : Kp S H H') (h : H' p = none) : Kp S H (upd H' p o) := fun b u e n => by
  have e2 := k b u e n
  rw [upd_ne (ne_of_none e2 h)]
  exact e2
theorem Kp.mutS (k : Kp S H H') (h : p ∈ S) : Kp S H (upd H' p o) := fun b u e n => by
  rw [upd_ne (fun z => n (by rw [z]; exact h))]
  exact k b u e n
theorem Kp.mutN (k : Kp S H H') (h : H p = none) : Kp S H (upd H' p o) := fun b u e n => by
  rw [upd_ne (ne_of_none e h)]
  exact k b u e n
theorem Kp.call (k : Kp S H H1) (l : Kp T H1 H2) (h : ∀ t ∈ T, t ∈ S ∨ H t = none) : Kp S H H2 := fun b u e n =>
  l b u (k b u e n) fun z => (h b z).elim n fun w => by rw [e] at w; cases w
theorem Kp.call0 (k : Kp S H H1) (l : Kp [] H1 H2) : Kp S H H2 := k.call l (by simp)
theorem Kp.call1 (k : Kp S H H1) (l : Kp [a] H1 H2) (h : a ∈ S) : Kp S H H2 := k.call l (by simp [h])
theorem Kp.callN (k : Kp S H H1) (l : Kp [a] H1 H2) (h : H a = none) : Kp S H H2 := k.call l (by simp [h])
theorem Kp.wide (k : Kp [] H H') : Kp S H H' := fun b u e _ => k b u e (by simp)
theorem Kp.mem (k : Kp S H H') (h : ∀ t ∈ S, t ∈ T) : Kp T H H' := fun b u e n => k b u e fun z => n (h b z)
/-- what is new is new from the start -/
theorem Kp.free0 (k : Kp [] H H') (h : H' p = none) : H p = none := by
  cases q : H p with
  | none => rfl
  | some u => rw [k.get0 q] at h; cases h
theorem Kp.free1 (k : Kp [a] H H') (ha : H' a = some u) (h : H' p = none) : H p = none := by
  cases q : H p with
  | none => rfl
  | some v =>
    have n : p ≠ a := fun z => by rw [z, ha] at h; cases h
    rw [k.get1 q n] at h; cases h
theorem Same.kp (s : Same H H') : Kp S H H' := fun b u e _ => s b u e
theorem Kp.same (k : Kp [] H H') : Same H H' := fun b u e => k b u e (by simp)
end

/-! ### the readings, one sign at a time -/
section
variable {X : Cx} {K : PySem.W.Frag} {σ : L2.St} {H : Hp} {Q : VK} {D : Ends} {v x y : V} {ta tb te tc : TE} {r : R2} {t u : TS} {i : Nat}
theorem rd_var (h : σ[i]? = some (some v)) (q : Q v H) : tVar i σ H Q := ⟨v, h, q⟩
theorem rd_c (q : Q v H) : tC v σ H Q := q
theorem rd_op (q : ta σ H fun x H1 => tb σ H1 fun y H2 => r x y H2 Q) : tOp r ta tb σ H Q := q
theorem rd_un {r : V → Hp → VK → Prop} (q : ta σ H fun x H1 => r x H1 Q) : tUn r ta σ H Q := q
theorem rd_cb {r : List V → Hp → VK → Prop} {t : TA} (q : t σ H fun vs H1 => r vs H1 Q) : tCB r t σ H Q := q
theorem rd_nil {Q : List V → Hp → Prop} (q : Q [] H) : tNil σ H Q := q
theorem rd_cons {t : TA} {Q : List V → Hp → Prop} (q : ta σ H fun x H1 => t σ H1 fun xs H2 => Q (x :: xs) H2) : tCons ta t σ H Q := q
theorem rd_lst {t : TA} (q : t σ H fun xs H1 => xs.length ≤ sizeLine ∧ ∀ p, H1 p = none → Q (.ref p) (upd H1 p (.lst xs))) : tLst t σ H Q := q
theorem rd_tup {t : TA} (q : t σ H fun xs H1 => xs.length ≤ sizeLine ∧ ∀ p, H1 p = none → Q (.ref p) (upd H1 p (.tup xs))) : tTup t σ H Q := q
theorem rd_call {sp : Sp} {dvs : List V} {E : XK} {t : TA} (q : t σ H fun vs H1 => sp (vs ++ dvs) H1 Q E) : tCall sp dvs E t σ H Q := q
theorem rd_callK {sp : Sp} {gV : List V → List V → List V} {E : XK} {t tk : TA} (q : t σ H fun vs H1 => tk σ H1 fun zs H2 => sp (gV vs zs) H2 Q E) : tCallK sp gV E t tk σ H Q := q
theorem rd_seq (q : t { D with nx := u D } σ H) : tSeq t u D σ H := q
theorem rd_next (q : D.nx σ H) : tNext D σ H := q
theorem rd_nx {u' : L2.St → Hp → Prop} {r1 : VK} {r2 r3 : L2.St → Hp → Prop} (q : u' σ H) : Ends.nx ⟨u', r1, r2, r3⟩ σ H := q
theorem rd_rt {u' : L2.St → Hp → Prop} {r1 : VK} {r2 r3 : L2.St → Hp → Prop} (q : r1 v H) : Ends.rt ⟨u', r1, r2, r3⟩ v H := q
theorem rd_bk {u' : L2.St → Hp → Prop} {r1 : VK} {r2 r3 : L2.St → Hp → Prop} (q : r2 σ H) : Ends.bk ⟨u', r1, r2, r3⟩ σ H := q
theorem rd_cn {u' : L2.St → Hp → Prop} {r1 : VK} {r2 r3 : L2.St → Hp → Prop} (q : r3 σ H) : Ends.ct ⟨u', r1, r2, r3⟩ σ H := q
theorem rd_brk (q : D.bk σ H) : tBreak D σ H := q
theorem rd_ct (q : D.ct σ H) : tCont D σ H := q
theorem rd_asg {g : TG} (q : te σ H fun x H1 => g x σ H1 D.nx) : tAsg te g D σ H := q
theorem rd_gname {Q : L2.St → Hp → Prop} (q : Q (σ.set i (some v)) H) : gName i v σ H Q := q
theorem rd_gsub {to ti : TE} {s : TSet} {Q : L2.St → Hp → Prop} (q : to σ H fun o H1 => ti σ H1 fun j H2 => s o j v H2 fun H3 => Q σ H3) : gSub to ti s v σ H Q := q
theorem rd_drop (q : te σ H fun _ H1 => D.nx σ H1) : tDrop te D σ H := q
theorem rd_ret (q : te σ H D.rt) : tRet te D σ H := q
theorem rd_retN (q : D.rt .non H) : tRetN D σ H := q
theorem rd_ifs {c : TT} (q : c σ H fun b H1 => if b = true then t D σ H1 else u D σ H1) : tIfS c t u D σ H := q
theorem rd_ife {c : TT} (q : c σ H fun b H1 => if b = true then ta σ H1 Q else tb σ H1 Q) : tIf c ta tb σ H Q := q
theorem rd_test {Q : Bool → Hp → Prop} (q : te σ H fun x H' => ∃ k, x = .bl k ∧ Q k H') : tTest te σ H Q := q
theorem rd_tand {s t : TT} {Q : Bool → Hp → Prop} (q : s σ H fun c H1 => if c = true then t σ H1 Q else Q false H1) : tAnd s t σ H Q := q
theorem rd_tor {s t : TT} {Q : Bool → Hp → Prop} (q : s σ H fun c H1 => if c = true then Q true H1 else t σ H1 Q) : tOr s t σ H Q := q
theorem rd_tnot {t : TT} {Q : Bool → Hp → Prop} (q : t σ H fun c H1 => Q (!c) H1) : tNot t σ H Q := q
theorem rd_par {j : Nat} {t : TA} (q : t σ H fun vs H1 => ∃ v w, vs = [v, w] ∧ D.nx ((σ.set i (some v)).set j (some w)) H1) : tPar i j t D σ H := q
/-- a test by truth -/
def uTru (K : PySem.W.Frag) (ta : TE) : TT := fun σ H Q => ta σ H fun x H' => ∃ k, TruV K x H' k ∧ Q k H'
theorem rd_tru {Q : Bool → Hp → Prop} (q : te σ H fun x H' => ∃ k, TruV K x H' k ∧ Q k H') : uTru K te σ H Q := q
theorem tr_bl {P : Bool → Prop} {b : Bool} (q : P b) : ∃ k, TruV K (.bl b) H k ∧ P k := ⟨b, rfl, q⟩
theorem tr_k {P : Bool → Prop} {b : Bool} (q : P b) : ∃ k, V.bl b = .bl k ∧ P k := ⟨b, rfl, q⟩
theorem rd_andT (q : ta σ H fun x H1 => ∃ k, TruV K x H1 k ∧ if k = true then tb σ H1 Q else Q x H1) : tAndT K ta tb σ H Q := q
theorem rd_orT (q : ta σ H fun x H1 => ∃ k, TruV K x H1 k ∧ if k = true then Q x H1 else tb σ H1 Q) : tOrT K ta tb σ H Q := q
theorem rd_notT (q : ta σ H fun x H1 => ∃ k, TruV K x H1 k ∧ Q (.bl (!k)) H1) : tNotT K ta σ H Q := q
theorem rd_tsl {r : V → Option Int → Option Int → Hp → VK → Prop} {tl th : TO} (q : te σ H fun x H1 => tl σ H1 fun l H2 => th σ H2 fun u H3 => r x l u H3 Q) : tSl r te tl th σ H Q := q
theorem rd_part {Q : Option Int → Hp → Prop} (q : te σ H fun x H1 => ∃ i, x = .int i ∧ Q (some i) H1) : tPart te σ H Q := q
theorem rd_nopart {Q : Option Int → Hp → Prop} (q : Q none H) : tNoPart σ H Q := q
theorem tr_int {P : Int → Prop} {i : Int} (q : P i) : ∃ j, V.int i = .int j ∧ P j := ⟨i, rfl, q⟩
theorem rd_bm {T : String} {r : V → List V → Hp → VK → Prop} {t : TA} (q : te σ H fun x H1 => tyV K T x H1 ∧ t σ H1 fun xs H2 => r x xs H2 Q) : tBM K T r te t σ H Q := q
theorem rd_bm0 {T : String} {r : V → List V → Hp → VK → Prop} (q : te σ H fun x H1 => tyV K T x H1 ∧ r x [] H1 Q) : tBM0 K T r te σ H Q := q
theorem rd_m1 {r : V → List V → Hp → VK → Prop} (q : ta σ H fun x H1 => (∃ a, x = .str a) ∧ tb σ H1 fun y H2 => r x [y] H2 Q) : tM1 r ta tb σ H Q := q
theorem rd_m0 {r : V → List V → Hp → VK → Prop} (q : ta σ H fun x H1 => (∃ a, x = .str a) ∧ r x [] H1 Q) : tM0 r ta σ H Q := q
/-! values -/
theorem u_addI {a b : Int} (q : Q (.int (a + b)) H) : uAdd K (.int a) (.int b) H Q := q
theorem u_addS {a b : Str} (h : a.length + b.length ≤ sizeLine) (q : Q (.str (a ++ b)) H) : uAdd K (.str a) (.str b) H Q := ⟨h, q⟩
theorem u_addL {a b : Addr} {xs zs : List V} (h1 : SqL K H a xs) (h2 : SqL K H b zs) (h3 : xs.length + zs.length ≤ sizeLine)
    (q : ∀ p, H p = none → Q (.ref p) (upd H p (.lst (xs ++ zs)))) : uAdd K (.ref a) (.ref b) H Q := .inl ⟨xs, zs, h1, h2, h3, q⟩
theorem u_subI {a b : Int} (q : Q (.int (a - b)) H) : uSub (.int a) (.int b) H Q := q
theorem u_mulI {a b : Int} (h : CMul a b ∨ CMulW a b) (q : Q (.int (a * b)) H) : uMul (.int a) (.int b) H Q := ⟨h, q⟩
theorem u_mulS {a : Str} {k : Int} (h1 : k < 16777217) (h2 : -16777217 < k) (h3 : a.length * k.toNat ≤ sizeLine) (q : Q (.str (strRep a k.toNat)) H) : uMul (.str a) (.int k) H Q := ⟨⟨h1, h2, h3⟩, q⟩
theorem u_mod {a b : Int} (h : 0 < b) (q : Q (.int (a % b)) H) : uMod (.int a) (.int b) H Q := ⟨h, q⟩
theorem u_div {a b : Int} (h : 0 < b) (h2 : b.natAbs.log2 < 9000) (q : Q (.int (a / b)) H) : uDiv (.int a) (.int b) H Q := ⟨⟨h, h2⟩, q⟩
theorem u_pow {a b : Int} (h : CPowW a b) (q : Q (.int (a ^ b.toNat)) H) : uPow (.int a) (.int b) H Q := ⟨h, q⟩
theorem u_eqI {a b : Int} (q : Q (.bl (decide (a = b))) H) : uEq K (.int a) (.int b) H Q := .inl ⟨rfl, by
  rw [show decide (V.int a = V.int b) = decide (a = b) by simp]
  exact q⟩
theorem u_neI {a b : Int} (q : Q (.bl (!decide (a = b))) H) : uNe K (.int a) (.int b) H Q := .inl ⟨rfl, by
  rw [show decide (V.int a = V.int b) = decide (a = b) by simp]
  exact q⟩
theorem u_eqS {a b : Str} (q : Q (.bl (decide (a = b))) H) : uEq K (.str a) (.str b) H Q := .inl ⟨rfl, by
  rw [show decide (V.str a = V.str b) = decide (a = b) by simp]
  exact q⟩
theorem u_neS {a b : Str} (q : Q (.bl (!decide (a = b))) H) : uNe K (.str a) (.str b) H Q := .inl ⟨rfl, by
  rw [show decide (V.str a = V.str b) = decide (a = b) by simp]
  exact q⟩
theorem u_eqB {a b : Bool} (q : Q (.bl (a == b)) H) : uEq K (.bl a) (.bl b) H Q := .inl ⟨rfl, by
  rw [show decide (V.bl a = V.bl b) = (a == b) by cases a <;> cases b <;> rfl]
  exact q⟩
theorem u_neB {a b : Bool} (q : Q (.bl (!(a == b))) H) : uNe K (.bl a) (.bl b) H Q := .inl ⟨rfl, by
  rw [show decide (V.bl a = V.bl b) = (a == b) by cases a <;> cases b <;> rfl]
  exact q⟩
theorem u_eqD {d e : PyData} (h1 : Dp K H x d) (h2 : Dp K H y e) (h3 : SeqAt.shaped d = true) (h4 : SeqAt.shaped e = true) (q : Q (.bl (PyData.eqv d e)) H) : uEq K x y H Q := .inr ⟨d, e, h1, h2, h3, h4, q⟩
theorem u_neD {d e : PyData} (h1 : Dp K H x d) (h2 : Dp K H y e) (h3 : SeqAt.shaped d = true) (h4 : SeqAt.shaped e = true) (q : Q (.bl (!PyData.eqv d e)) H) : uNe K x y H Q := .inr ⟨d, e, h1, h2, h3, h4, q⟩
theorem u_ltI {a b : Int} (q : Q (.bl (decide (a < b))) H) : uLt (.int a) (.int b) H Q := q
theorem u_gtI {a b : Int} (q : Q (.bl (decide (b < a))) H) : uGt (.int a) (.int b) H Q := q
theorem u_leI {a b : Int} (q : Q (.bl (decide (a ≤ b))) H) : uLe (.int a) (.int b) H Q := q
theorem u_geI {a b : Int} (q : Q (.bl (decide (b ≤ a))) H) : uGe (.int a) (.int b) H Q := q
theorem u_ltS {a b : Str} (q : Q (.bl (decide (tl a < tl b))) H) : uLt (.str a) (.str b) H Q := q
theorem u_gtS {a b : Str} (q : Q (.bl (decide (tl b < tl a))) H) : uGt (.str a) (.str b) H Q := q
theorem u_inS {c : Nat} {z : Str} (q : Q (.bl (decide (c ∈ tl z))) H) : uIn K (.str ⟨#[c]⟩) (.str z) H Q := ⟨c, rfl, q⟩
end

/-! ### len, isinstance, by the values' kinds -/
def uLen (K : PySem.W.Frag) : List V → Hp → VK → Prop := fun xs H Q => ∃ x n, xs = [x] ∧ LenV K x H n ∧ Q (.int n) H
theorem cu_len {X : Cx} : CallR X (.builtin "len") (uLen X.K) := call_len
section
variable {K : PySem.W.Frag} {H : Hp} {Q : VK} {a : Addr} {xs : List V}
theorem u_lenS {s : Str} (h : s.length ≤ sizeLine) (q : Q (.int (s.length : Int)) H) : uLen K [.str s] H Q := ⟨_, s.length, rfl, ⟨h, rfl⟩, q⟩
theorem u_lenL (h : SqL K H a xs) (q : Q (.int (xs.length : Int)) H) : uLen K [.ref a] H Q := ⟨_, xs.length, rfl, .inl ⟨xs, h, rfl⟩, q⟩
theorem u_lenT (h : SqT K H a xs) (q : Q (.int (xs.length : Int)) H) : uLen K [.ref a] H Q := ⟨_, xs.length, rfl, .inr ⟨xs, h, rfl⟩, q⟩
end

/-- isinstance by the type's name -/
def kinds : List String := ["NoneType", "bool", "int", "str", "list", "tuple", "dict"]
def isi (T C : String) : Bool := T == C || (T == "bool" && C == "int")
theorem isi_ok : ∀ T ∈ kinds, ∀ C ∈ ["bool", "int", "str", "list", "tuple", "dict"], kitB T C = some (isi T C) := by decide +kernel
inductive TyN (K : PySem.W.Frag) (H : Hp) : V → String → Prop
  | non : TyN K H .non "NoneType"
  | bl (b : Bool) : TyN K H (.bl b) "bool"
  | int (i : Int) : TyN K H (.int i) "int"
  | str (s : Str) : TyN K H (.str s) "str"
  | lst {a : Addr} {xs : List V} (h : SqL K H a xs) : TyN K H (.ref a) "list"
  | tup {a : Addr} {xs : List V} (h : H a = some (.tup xs)) : TyN K H (.ref a) "tuple"
  | dct {a : Addr} {kvs : List (Key × V)} (h : H a = some (.dK kvs)) : TyN K H (.ref a) "dict"
theorem TyN.mem {K : PySem.W.Frag} {H : Hp} {x : V} {T : String} (h : TyN K H x T) : T ∈ kinds := by
  cases h <;> decide
theorem TyN.x {K : PySem.W.Frag} {H : Hp} {x : V} {T : String} (h : TyN K H x T) : TyX K H x (.type T) := by
  cases h with
  | non => exact .base .non
  | bl b => exact .base (.bl b)
  | int i => exact .base (.int i)
  | str s => exact .base (.str s)
  | lst h =>
    rcases h with (h | ⟨o, h⟩) | ⟨o, its, n, h1, h2, _⟩
    · exact .base (.lst h)
    · exact .base (.frz h)
    · exact .kList h1 h2
  | tup h => exact .base (.tup h)
  | dct h => exact .base (.dK h)
def uIsi (K : PySem.W.Frag) : List V → Hp → VK → Prop := fun xs H Q => ∃ x C T, xs = [x, .ty C] ∧ C ∈ ["bool", "int", "str", "list", "tuple", "dict"] ∧ TyN K H x T ∧ Q (.bl (isi T C)) H
theorem cu_isi {X : Cx} : CallR X (.builtin "isinstance") (uIsi X.K) := by
  intro pins s σ H xs us Q I r h
  obtain ⟨x, C, T, rfl, hC, hT, q⟩ := h
  exact call_isi pins s σ H _ us Q I r ⟨x, .ty C, _, .type C, isi T C, rfl, .ty C, hT.x, kit_ty (isi_ok T hT.mem C hC), q⟩
theorem u_isiT {K : PySem.W.Frag} {H : Hp} {Q : VK} {x : V} {C : String} (h : TyN K H x C) (q : Q (.bl true) H) (hC : C ∈ ["bool", "int", "str", "list", "tuple", "dict"] := by decide) : uIsi K [x, .ty C] H Q :=
  ⟨x, C, C, rfl, hC, h, by rw [show isi C C = true by simp [isi]]; exact q⟩
theorem u_isiF {K : PySem.W.Frag} {H : Hp} {Q : VK} {x : V} {C T : String} (h : TyN K H x T) (e : isi T C = false) (q : Q (.bl false) H) (hC : C ∈ ["bool", "int", "str", "list", "tuple", "dict"] := by decide) : uIsi K [x, .ty C] H Q :=
  ⟨x, C, T, rfl, hC, h, by rw [e]; exact q⟩
theorem u_isi {K : PySem.W.Frag} {H : Hp} {Q : VK} {x : V} {C T : String} (h : TyN K H x T) (q : Q (.bl (isi T C)) H) (hC : C ∈ ["bool", "int", "str", "list", "tuple", "dict"] := by decide) : uIsi K [x, .ty C] H Q := ⟨x, C, T, rfl, hC, h, q⟩
end Gd
/-! Data of any depth, clear of the addresses that change; how it is shown. -/
namespace Gd
open PySem PySem.Spec PyProof.Rows L2

mutual
inductive Dq (N : Addr → Prop) (H : Hp) : V → PyData → Prop
  | non : Dq N H .non .none
  | bl (b : Bool) : Dq N H (.bl b) (.bool b)
  | int (i : Int) : Dq N H (.int i) (.int i)
  | str (x : Str) : Dq N H (.str x) (.str x)
  | lst {a : Addr} {xs : List V} {ds : List PyData} (n : N a) (h : H a = some (.lst xs)) (r : DqL N H xs ds) : Dq N H (.ref a) (.list ds)
  | tup {a : Addr} {xs : List V} {ds : List PyData} (n : N a) (h : H a = some (.tup xs)) (r : DqL N H xs ds) : Dq N H (.ref a) (.tuple ds)
inductive DqL (N : Addr → Prop) (H : Hp) : List V → List PyData → Prop
  | nil : DqL N H [] []
  | cons {v : V} {vs : List V} {d : PyData} {ds : List PyData} (h : Dq N H v d) (r : DqL N H vs ds) : DqL N H (v :: vs) (d :: ds)
end
section
variable {N M : Addr → Prop} {H H' : Hp} {S : List Addr}
mutual
theorem Dq.mono (k : ∀ b o, N b → H b = some o → H' b = some o) (m : ∀ b, N b → M b) : ∀ (d : PyData) (v : V), Dq N H v d → Dq M H' v d
  | .none, _, h => by cases h; exact .non
  | .bool b, _, h => by cases h; exact .bl b
  | .int i, _, h => by cases h; exact .int i
  | .str x, _, h => by cases h; exact .str x
  | .list ds, _, h => by
    cases h with
    | lst n h r => exact .lst (m _ n) (k _ _ n h) (DqL.mono k m ds _ r)
  | .tuple ds, _, h => by
    cases h with
    | tup n h r => exact .tup (m _ n) (k _ _ n h) (DqL.mono k m ds _ r)
  | .dict _, _, h => by cases h
theorem DqL.mono (k : ∀ b o, N b → H b = some o → H' b = some o) (m : ∀ b, N b → M b) : ∀ (ds : List PyData) (vs : List V), DqL N H vs ds → DqL M H' vs ds
  | [], _, h => by cases h; exact .nil
  | d :: ds, _, h => by
    cases h with
    | cons h r => exact .cons (Dq.mono k m d _ h) (DqL.mono k m ds _ r)
end
theorem Dq.kp {d : PyData} {v : V} (h : Dq N H v d) (k : Kp S H H') (n : ∀ b, N b → b ∉ S) : Dq N H' v d := Dq.mono (fun b o a e => k b o e (n b a)) (fun _ a => a) d v h
theorem DqL.kp {ds : List PyData} {vs : List V} (h : DqL N H vs ds) (k : Kp S H H') (n : ∀ b, N b → b ∉ S) : DqL N H' vs ds := DqL.mono (fun b o a e => k b o e (n b a)) (fun _ a => a) ds vs h
theorem Dq.kp0 {d : PyData} {v : V} (h : Dq N H v d) (k : Kp [] H H') : Dq N H' v d := h.kp k (by simp)
theorem Dq.new {d : PyData} {v : V} {p : Addr} {o : HO} (h : Dq N H v d) (np : H p = none) : Dq N (upd H p o) v d :=
  Dq.mono (fun b u _ e => by rw [upd_ne (ne_of_none e np)]; exact e) (fun _ a => a) d v h
theorem DqL.new {d : List PyData} {v : List V} {p : Addr} {o : HO} (h : DqL N H v d) (np : H p = none) : DqL N (upd H p o) v d :=
  DqL.mono (fun b u _ e => by rw [upd_ne (ne_of_none e np)]; exact e) (fun _ a => a) d v h
theorem Dq.mut {d : PyData} {v : V} {p : Addr} {o : HO} (h : Dq N H v d) (np : ¬ N p) : Dq N (upd H p o) v d :=
  Dq.mono (fun b u a e => by rw [upd_ne (fun z => np (by rw [← z]; exact a))]; exact e) (fun _ a => a) d v h
theorem DqL.mut {d : List PyData} {v : List V} {p : Addr} {o : HO} (h : DqL N H v d) (np : ¬ N p) : DqL N (upd H p o) v d :=
  DqL.mono (fun b u a e => by rw [upd_ne (fun z => np (by rw [← z]; exact a))]; exact e) (fun _ a => a) d v h
theorem DqL.app : ∀ {vs us : List V} {ds es : List PyData}, DqL N H vs ds → DqL N H us es → DqL N H (vs ++ us) (ds ++ es)
  | [], _, _, _, h, g => by cases h; exact g
  | v :: vs, _, _, _, h, g => by
    cases h with
    | cons h r => exact .cons h (r.app g)
theorem DqL.get : ∀ {vs : List V} {ds : List PyData} {i : Nat} {v : V}, DqL N H vs ds → vs[i]? = some v → ∃ d, ds[i]? = some d ∧ Dq N H v d
  | [], _, i, _, _, e => by simp at e
  | u :: vs, _, 0, v, h, e => by
    cases h with
    | cons h r =>
      simp at e
      subst e
      exact ⟨_, rfl, h⟩
  | u :: vs, _, i + 1, v, h, e => by
    cases h with
    | cons h r =>
      obtain ⟨d, e2, h2⟩ := r.get (i := i) (by simpa using e)
      exact ⟨d, by simpa using e2, h2⟩
theorem dqL_strs : ∀ ws : List Str, DqL N H (ws.map V.str) (ws.map PyData.str)
  | [] => .nil
  | w :: ws => .cons (.str w) (dqL_strs ws)
theorem dqL_ints : ∀ ws : List Int, DqL N H (ws.map V.int) (ws.map PyData.int)
  | [] => .nil
  | w :: ws => .cons (.int w) (dqL_ints ws)
theorem dq_strs {a : Addr} {ws : List Str} (n : N a) (h : H a = some (.lst (ws.map V.str))) : Dq N H (.ref a) (.list (ws.map PyData.str)) := .lst n h (dqL_strs ws)
theorem dq_ints {a : Addr} {ws : List Int} (n : N a) (h : H a = some (.lst (ws.map V.int))) : Dq N H (.ref a) (.list (ws.map PyData.int)) := .lst n h (dqL_ints ws)
mutual
theorem Dq.dp {K : PySem.W.Frag} : ∀ (d : PyData) (v : V), Dq N H v d → Dp K H v d
  | .none, _, h => by cases h; exact .non
  | .bool b, _, h => by cases h; exact .bl b
  | .int i, _, h => by cases h; exact .int i
  | .str x, _, h => by cases h; exact .str x
  | .list ds, _, h => by
    cases h with
    | lst n h r => exact .lst (SqL.of h) (DqL.dp ds _ r)
  | .tuple ds, _, h => by
    cases h with
    | tup n h r => exact .tup (SqT.of h) (DqL.dp ds _ r)
  | .dict _, _, h => by cases h
theorem DqL.dp {K : PySem.W.Frag} : ∀ (ds : List PyData) (vs : List V), DqL N H vs ds → DpAll K H vs ds
  | [], _, h => by cases h; exact .nil
  | d :: ds, _, h => by
    cases h with
    | cons h r => exact .cons (Dq.dp d _ h) (DqL.dp ds _ r)
end
end
section
variable {X : Cx} {N : Addr → Prop} {pins : List (Addr × Obj)} {σ : L2.St} {H : Hp} {s : Shared}
theorem Dq.reads (I : Inv X pins σ H s) {d : PyData} {v : V} {u : Value} (h : Dq N H v d) (r : RelV v u) : ∃ as, Reads s.heap u d as := Dp.reads I d v u (Dq.dp d v h) r
end

/-! ### how long the shown text is -/
mutual
def fine : PyData → Bool
  | .none | .bool _ => true
  | .int i => decide (i.natAbs.log2 < 1900)
  | .str x => (tl x).all fun c => decide (c < 1114112)
  | .list xs | .tuple xs => fineAll xs
  | .dict kvs => kvs.isEmpty
def fineAll : List PyData → Bool
  | [] => true
  | x :: xs => fine x && fineAll xs
end
mutual
def sz : PyData → Nat
  | .none | .bool _ => 5
  | .int _ => 2000
  | .str x => 10 * x.length + 2
  | .list xs | .tuple xs => szAll xs + 5
  | .dict _ => 2
def szAll : List PyData → Nat
  | [] => 0
  | x :: xs => sz x + 2 + szAll xs
end
theorem int_len (i : Int) (h : i.natAbs.log2 < 1900) : (Str.ofString (toString i)).length ≤ 2000 := by
  have hn : i.natAbs < 2 ^ 1900 := by
    by_cases z : i.natAbs = 0
    · rw [z]
      exact Nat.pow_pos (by decide)
    · exact (Nat.log2_lt z).mp h
  have e : (Str.ofString (toString i)).length = (toString i).length := by
    rw [TL.len_tl, TL.tl_ofString, List.length_map, String.length_toList]
  rw [e]
  cases i with
  | ofNat n =>
    have h2 : n < 2 ^ 1900 := by simpa using hn
    have h3 := nat_repr_length_le (n := n) (k := 1900) (by decide) h2
    show (Nat.repr n).length ≤ 2000
    omega
  | negSucc n =>
    have h2 : n + 1 < 2 ^ 1900 := by simpa using hn
    have h3 := nat_repr_length_le (n := n + 1) (k := 1900) (by decide) h2
    show ("-" ++ Nat.repr (n + 1)).length ≤ 2000
    rw [String.length_append]
    have : ("-" : String).length = 1 := rfl
    omega
mutual
theorem shown_len : ∀ d : PyData, fine d = true → d.shown.length ≤ sz d
  | .none, _ => by
    show (4 : Nat) ≤ 5
    decide
  | .bool b, _ => by cases b <;> decide
  | .int i, h => int_len i (of_decide_eq_true (by simpa only [fine] using h))
  | .str x, h => by
    simp only [PyData.shown, sz]
    refine StrLaws.reprText_len x fun c hc => ?_
    simp only [fine, List.all_eq_true, decide_eq_true_eq] at h
    exact Nat.lt_trans (h c hc) (by decide)
  | .list xs, h => by
    simp only [PyData.shown, sz]
    have q := shownAll_len xs (by simpa only [fine] using h)
    have e := listText_len_le (PyData.shownAll xs)
    omega
  | .tuple xs, h => by
    simp only [PyData.shown, sz]
    have q := shownAll_len xs (by simpa only [fine] using h)
    have e := tupleText_len_le (PyData.shownAll xs)
    omega
  | .dict kvs, h => by
    cases kvs with
    | nil => decide +kernel
    | cons _ _ => simp [fine] at h
theorem shownAll_len : ∀ ds : List PyData, fineAll ds = true → ((PyData.shownAll ds).map (·.length)).sum + 2 * (PyData.shownAll ds).length ≤ szAll ds
  | [], _ => Nat.le_refl _
  | d :: ds, h => by
    simp only [fineAll, Bool.and_eq_true] at h
    have h1 := shown_len d h.1
    have h2 := shownAll_len ds h.2
    simp only [PyData.shownAll, szAll, List.map_cons, List.sum_cons, List.length_cons]
    omega
end
mutual
theorem fine_showable : ∀ d : PyData, fine d = true → d.showable = true
  | .none, _ => by simp [PyData.showable]
  | .bool _, _ => by simp [PyData.showable]
  | .str _, _ => by simp [PyData.showable]
  | .int i, h => by
    simp only [fine, decide_eq_true_eq] at h
    simp only [PyData.showable, decide_eq_true_eq]
    omega
  | .list xs, h => by
    simp only [PyData.showable]
    exact fineAll_showable xs (by simpa only [fine] using h)
  | .tuple xs, h => by
    simp only [PyData.showable]
    exact fineAll_showable xs (by simpa only [fine] using h)
  | .dict kvs, h => by
    cases kvs with
    | nil => simp [PyData.showable, PyData.showableKv]
    | cons _ _ => simp [fine] at h
theorem fineAll_showable : ∀ ds : List PyData, fineAll ds = true → PyData.showableAll ds = true
  | [], _ => by simp [PyData.showableAll]
  | d :: ds, h => by
    simp only [fineAll, Bool.and_eq_true] at h
    simp only [PyData.showableAll, Bool.and_eq_true]
    exact ⟨fine_showable d h.1, fineAll_showable ds h.2⟩
end
mutual
theorem Dq.noDict {N : Addr → Prop} {H : Hp} : ∀ (d : PyData) (v : V), Dq N H v d → d.hasDict = false
  | .none, _, _ => by simp [PyData.hasDict]
  | .bool _, _, _ => by simp [PyData.hasDict]
  | .str _, _, _ => by simp [PyData.hasDict]
  | .int _, _, _ => by simp [PyData.hasDict]
  | .list xs, _, h => by
    cases h with
    | lst _ _ r =>
      simp only [PyData.hasDict]
      exact DqL.noDict xs _ r
  | .tuple xs, _, h => by
    cases h with
    | tup _ _ r =>
      simp only [PyData.hasDict]
      exact DqL.noDict xs _ r
  | .dict _, _, h => by cases h
theorem DqL.noDict {N : Addr → Prop} {H : Hp} : ∀ (ds : List PyData) (vs : List V), DqL N H vs ds → PyData.hasDictAll ds = false
  | [], _, _ => by simp [PyData.hasDictAll]
  | d :: ds, _, h => by
    cases h with
    | cons h r =>
      simp only [PyData.hasDictAll, Bool.or_eq_false_iff]
      exact ⟨Dq.noDict d _ h, DqL.noDict ds _ r⟩
end
/-- data, or the empty dict alone -/
inductive DqT (N : Addr → Prop) (H : Hp) : V → PyData → Prop
  | of {v : V} {d : PyData} (h : Dq N H v d) : DqT N H v d
  | d0 {a : Addr} (n : N a) (h : H a = some (.dK [])) : DqT N H (.ref a) (.dict [])
/-- small enough to be shown -/
structure Sm (d : PyData) : Prop where
  fine : fine d = true
  sz : sz d ≤ 10000000
  dep : d.depth ≤ 60
def uRepr : List V → Hp → VK → Prop := fun xs H Q => ∃ N x d, xs = [x] ∧ DqT N H x d ∧ Sm d ∧ Q (.str d.shown) H
theorem cu_repr {X : Cx} (hg : X.A.guards = some []) (hu : X.A.units + 100 < cLine) : CallR X (.builtin "repr") uRepr := by
  intro pins s σ H xs us Q I r h
  obtain ⟨N, x, d, rfl, hd, hs, q⟩ := h
  have hL : d.shown.length ≤ sizeLine := by
    have h1 := shown_len d hs.fine
    have h2 := hs.sz
    rw [sizeLine_eq]
    omega
  obtain ⟨u, rfl, rx⟩ := vals1 r
  have dep := hs.dep
  cases hd with
  | d0 n h =>
    cases (show u = Value.ref _ from rx)
    obtain ⟨_, hm, vs, kv, o, es, ep, h1, h2, h3, h4, h5, h6⟩ := (show ObjOk X.prog X.w H s.heap _ (.dK []) from I.hok _ _ h)
    cases kv
    have e0 : es.toList = [] := by
      revert h5
      generalize es.toList = l
      intro h5
      cases h5
      rfl
    have rd : Reads s.heap (.ref _) (.dict []) _ := Reads.dict h1 h2.1 h3 (by rw [e0]; exact ReadsAll.nil) (by rw [e0]; exact ReadsAll.nil)
    refine repr_of_reads' rd (by simp [PyData.showable, PyData.showableKv]) (fun _ => ?_) hg (by simp [PyData.depth, PyData.depthKv]; omega) (fun _ _ e => e) (fun h' u tk hk => ?_) hL
    · intro z
      simp at z
      rw [← z] at hm
      simp at hm
    · exact ⟨.str _, H, I.kept (t' := tk) hk, ⟨u, rfl⟩, q⟩
  | of hq =>
    cases d with
    | none =>
      cases hq
      cases (show u = Value.none from rx)
      exact PySem.P.repr_of_none ⟨.str _, H, I.tok _, ⟨_, rfl⟩, q⟩
    | bool b =>
      cases hq
      cases (show u = Value.bool b from rx)
      cases b
      · exact PySem.P.repr_of_bool ⟨.str _, H, I.tok _, ⟨_, rfl⟩, q⟩
      · exact PySem.P.repr_of_bool ⟨.str _, H, I.tok _, ⟨_, rfl⟩, q⟩
    | int i =>
      cases hq
      obtain ⟨t, rfl⟩ := rx
      have hf := hs.fine
      simp only [fine, decide_eq_true_eq] at hf
      exact PySem.P.repr_of_int (by omega) ⟨.str _, H, I.tok _, ⟨_, rfl⟩, q⟩
    | str z =>
      cases hq
      obtain ⟨t, rfl⟩ := rx
      exact PySem.P.repr_of_str ⟨.str _, H, I.tok _, ⟨_, rfl⟩, q⟩ hL
    | list ds =>
      obtain ⟨as, rd⟩ := hq.reads I rx
      cases hq
      cases (show u = Value.ref _ from rx)
      exact repr_of_reads' rd (fine_showable _ hs.fine) (PyData.noDict_hsm (Dq.noDict _ _ (.lst ‹_› ‹_› ‹_›))) hg (by omega) (fun _ _ e => e) (fun h' u tk hk => ⟨.str _, H, I.kept (t' := tk) hk, ⟨u, rfl⟩, q⟩) hL
    | tuple ds =>
      obtain ⟨as, rd⟩ := hq.reads I rx
      cases hq
      cases (show u = Value.ref _ from rx)
      exact repr_of_reads' rd (fine_showable _ hs.fine) (PyData.noDict_hsm (Dq.noDict _ _ (.tup ‹_› ‹_› ‹_›))) hg (by omega) (fun _ _ e => e) (fun h' u tk hk => ⟨.str _, H, I.kept (t' := tk) hk, ⟨u, rfl⟩, q⟩) hL
    | dict _ => cases hq
theorem u_repr {N : Addr → Prop} {H : Hp} {Q : VK} {x : V} {d : PyData} (h : DqT N H x d) (s : Sm d) (q : Q (.str d.shown) H) : uRepr [x] H Q := ⟨N, x, d, rfl, h, s, q⟩
end Gd
/-! Walks over anything; loops and comprehensions told by an invariant over the turn. -/
namespace Gd
open PySem PySem.Spec PyProof.Rows L2

/-- what a for walks: a list, a tuple, a text -/
def iU (K : PySem.W.Frag) (te : TE) : TI := fun σ H R => te σ H fun v H1 =>
  (∃ a, v = .ref a ∧ (∃ xs, SqL K H1 a xs) ∧ R (Itl K a) H1) ∨ (∃ a, v = .ref a ∧ (∃ xs, SqT K H1 a xs) ∧ R (Itt K a) H1) ∨ ∃ x, v = .str x ∧ R (Its x) H1
theorem pi_u {X : Cx} {tg e : Expr} {te : TE} (he : PE X e te) : PI X tg e (iU X.K te) := by
  refine ⟨fun pins s σ H R I h => ?_⟩
  refine thn (he.run pins s σ H _ I h) fun v s1 ⟨y, H1, I1, r1, q1⟩ => ?_
  have one : ∀ b ∈ [s1.heap.objs.size], FpOk X pins H1 b := fun b hb => by
    rw [show b = s1.heap.objs.size by simpa using hb]
    exact I1.fpOk (Nat.le_refl _) (I1.hok.fresh (Nat.le_refl _))
  rcases q1 with ⟨a, rfl, ⟨xs, hq⟩, q⟩ | ⟨a, rfl, ⟨xs, hq⟩, q⟩ | ⟨x, rfl, q⟩
  · cases r1
    obtain ⟨its, rv, p, hz⟩ := I1.list hq
    exact wpAny_pyIter_list p.isList ⟨s1.heap.objs.size, [s1.heap.objs.size], _, _, H1, rfl,
      I1.kept (t' := s1.toks) fun b o e => Heap.get?_push_of_some _ e, turn_list a _, ⟨_, Heap.get?_push_size _ rfl, rfl, rfl⟩, one, q⟩
  · cases r1
    obtain ⟨its, rv, p, hz⟩ := I1.tuple hq
    exact wpAny_pyIter_tuple (show s1.heap.IsTuple a its.toArray from p) ⟨s1.heap.objs.size, [s1.heap.objs.size], _, _, H1, rfl,
      I1.kept (t' := s1.toks) fun b o e => Heap.get?_push_of_some _ e, turn_tuple a _, ⟨_, Heap.get?_push_size _ rfl, rfl, rfl⟩, one, q⟩
  · obtain ⟨t, rfl⟩ := r1
    cases ha : x.cps.all (· < 128)
    · exact wpAny_pyIter_wide ha (pi_one (tk := s1.toks) I1 _ (turn_str _ x t "str_iterator" (.inr rfl)) ⟨_, Heap.get?_push_size _ rfl, rfl, rfl⟩ q)
    · exact wpAny_pyIter_ascii ha (pi_one (tk := s1.toks) I1 _ (turn_str _ x t "str_ascii_iterator" (.inl rfl)) ⟨_, Heap.get?_push_size _ rfl, rfl, rfl⟩ q)


section
variable {K : PySem.W.Frag} {σ : L2.St} {H : Hp} {D : Ends} {g : TG} {tb : TS} {te : TE} {ta : TA} {Q : VK} {tt : TT} {ws : List Nat}
abbrev inD (D : Ends) (N : L2.St → Hp → Prop) : Ends := { D with nx := N, ct := N, bk := D.nx }
/-- the rest of a for, once its walk J has come -/
def Rf (g : TG) (tb : TS) (D : Ends) (σ : L2.St) (J : It) (H1 : Hp) : Prop := ∃ W : Nat → Nat → L2.St → Hp → Prop, (∃ m, W 0 m σ H1) ∧ ∀ i m σ H, W i m σ H →
  (J.stop i H ∧ D.nx σ H) ∨ (J.go i H ∧ ∃ N : L2.St → Hp → Prop, (∀ σ' H', N σ' H' → ∃ m', m' < m ∧ W (i + 1) m' σ' H') ∧
    ∀ x H', J.yld i H x H' → g x σ H' fun σ2 H2 => tb (inD D N) σ2 H2)
/-- the rest of a comprehension -/
def Rl (g : TG) (tt : TT) (te : TE) (ws : List Nat) (σ : L2.St) (Q : VK) (J : It) (H1 : Hp) : Prop := ∀ D, H1 D = none → ∃ W : Nat → Nat → Hp → Prop,
  (∃ m, W 0 m (upd H1 D (.lst []))) ∧ ∀ i m H, W i m H → (J.stop i H ∧ Q (.ref D) H) ∨ (J.go i H ∧ ∃ Nx : Hp → Prop, (∀ H', Nx H' → ∃ m', m' < m ∧ W (i + 1) m' H') ∧
    ∀ x H', J.yld i H x H' → g x (wipe σ ws) H' fun σ2 H2 => wipe σ2 ws = wipe σ ws ∧ tt σ2 H2 fun b H3 =>
      if b = true then te σ2 H3 fun y H4 => ∃ acc, H4 D = some (.lst acc) ∧ acc.length < sizeLine ∧ Nx (upd H4 D (.lst (acc ++ [y]))) else Nx H3)
def wU (K : PySem.W.Frag) (R : It → Hp → Prop) (v : V) (H1 : Hp) : Prop :=
  (∃ a, v = .ref a ∧ (∃ xs, SqL K H1 a xs) ∧ R (Itl K a) H1) ∨ (∃ a, v = .ref a ∧ (∃ xs, SqT K H1 a xs) ∧ R (Itt K a) H1) ∨ ∃ x, v = .str x ∧ R (Its x) H1
def wR1 (R : It → Hp → Prop) (vs : List V) (H1 : Hp) : Prop := ∃ j : Int, vs = [.int j] ∧ -(2 ^ 62) ≤ j ∧ j < 2 ^ 62 ∧ R (Itr 0 j.toNat) H1
def wR2 (R : It → Hp → Prop) (vs : List V) (H1 : Hp) : Prop := ∃ i j : Int, vs = [.int i, .int j] ∧ (-(2 ^ 62) ≤ i ∧ i < 2 ^ 62 ∧ -(2 ^ 62) ≤ j ∧ j < 2 ^ 62) ∧ R (Itr i (j - i).toNat) H1
def wE (K : PySem.W.Frag) (R : It → Hp → Prop) (vs : List V) (H1 : Hp) : Prop := ∃ a xs, vs = [.ref a] ∧ SqL K H1 a xs ∧ R (Ite K a) H1
def wZ (K : PySem.W.Frag) (R : It → Hp → Prop) (vs : List V) (H1 : Hp) : Prop := ∃ a b xs ys, vs = [.ref a, .ref b] ∧ SqL K H1 a xs ∧ SqL K H1 b ys ∧ R (Itz K a b) H1
def wV (K : PySem.W.Frag) (R : It → Hp → Prop) (vs : List V) (H1 : Hp) : Prop := ∃ (a : Addr) (xs : List V), vs = [.ref a] ∧ SqL K H1 a xs ∧ R (Itv K a xs.length) H1
theorem rd_forU (q : te σ H fun v H1 => wU K (Rf g tb D σ) v H1) : tFor (iU K te) g tb D σ H := q
theorem rd_for1 (q : ta σ H fun v H1 => wR1 (Rf g tb D σ) v H1) : tFor (iRng1 ta) g tb D σ H := q
theorem rd_for2 (q : ta σ H fun v H1 => wR2 (Rf g tb D σ) v H1) : tFor (iRng2 ta) g tb D σ H := q
theorem rd_forE (q : ta σ H fun v H1 => wE K (Rf g tb D σ) v H1) : tFor (iEnum K ta) g tb D σ H := q
theorem rd_forZ (q : ta σ H fun v H1 => wZ K (Rf g tb D σ) v H1) : tFor (iZip K ta) g tb D σ H := q
theorem rd_forV (q : ta σ H fun v H1 => wV K (Rf g tb D σ) v H1) : tFor (iRev K ta) g tb D σ H := q
theorem rd_lcU {te1 : TE} (q : te1 σ H fun v H1 => wU K (Rl g tt te ws σ Q) v H1) : tLc (iU K te1) g tt te ws σ H Q := q
theorem rd_lc1 (q : ta σ H fun v H1 => wR1 (Rl g tt te ws σ Q) v H1) : tLc (iRng1 ta) g tt te ws σ H Q := q
theorem rd_lc2 (q : ta σ H fun v H1 => wR2 (Rl g tt te ws σ Q) v H1) : tLc (iRng2 ta) g tt te ws σ H Q := q
theorem rd_lcE (q : ta σ H fun v H1 => wE K (Rl g tt te ws σ Q) v H1) : tLc (iEnum K ta) g tt te ws σ H Q := q
theorem rd_lcZ (q : ta σ H fun v H1 => wZ K (Rl g tt te ws σ Q) v H1) : tLc (iZip K ta) g tt te ws σ H Q := q
/-! a for by its invariant -/
theorem rf_it {J : It} {n : Nat} {G : Hp → Prop} {Y : Nat → Hp → V → Hp → Prop} (w : Walk J n G Y) (Pv : Nat → L2.St → Hp → Prop) (h0 : Pv 0 σ H)
    (hG : ∀ i σ H, Pv i σ H → G H) (hs : ∀ i x σ H H', i < n → Pv i σ H → Y i H x H' → g x σ H' fun σ2 H2 => tb (inD D (Pv (i + 1))) σ2 H2)
    (hd : ∀ σ H, Pv n σ H → D.nx σ H) : Rf g tb D σ J H := for_it w Pv h0 (fun i σ H _ p => hG i σ H p) hs hd
theorem fo_l {a : Addr} {xs : List V} (hx : SqL K H a xs) (Pv : Nat → L2.St → Hp → Prop) (h0 : Pv 0 σ H) (hl : ∀ i σ H, Pv i σ H → SqL K H a xs)
    (hs : ∀ i x σ H, xs[i]? = some x → Pv i σ H → g x σ H fun σ2 H2 => tb (inD D (Pv (i + 1))) σ2 H2) (hd : ∀ σ H, Pv xs.length σ H → D.nx σ H) :
    wU K (Rf g tb D σ) (.ref a) H := .inl ⟨a, rfl, ⟨xs, hx⟩, rf_it walk_list Pv h0 hl (fun i x σ H H' _ p y => by
      obtain ⟨rfl, e⟩ := y
      exact hs i x σ H' e p) hd⟩
theorem fo_t {a : Addr} {xs : List V} (hx : SqT K H a xs) (Pv : Nat → L2.St → Hp → Prop) (h0 : Pv 0 σ H) (hl : ∀ i σ H, Pv i σ H → SqT K H a xs)
    (hs : ∀ i x σ H, xs[i]? = some x → Pv i σ H → g x σ H fun σ2 H2 => tb (inD D (Pv (i + 1))) σ2 H2) (hd : ∀ σ H, Pv xs.length σ H → D.nx σ H) :
    wU K (Rf g tb D σ) (.ref a) H := .inr (.inl ⟨a, rfl, ⟨xs, hx⟩, rf_it walk_tup Pv h0 hl (fun i x σ H H' _ p y => by
      obtain ⟨rfl, e⟩ := y
      exact hs i x σ H' e p) hd⟩)
theorem fo_s {z : Str} (Pv : Nat → L2.St → Hp → Prop) (h0 : Pv 0 σ H)
    (hs : ∀ i c σ H, (tl z)[i]? = some c → Pv i σ H → g (.str ⟨#[c]⟩) σ H fun σ2 H2 => tb (inD D (Pv (i + 1))) σ2 H2) (hd : ∀ σ H, Pv z.cps.size σ H → D.nx σ H) :
    wU K (Rf g tb D σ) (.str z) H := .inr (.inr ⟨z, rfl, rf_it walk_str Pv h0 (fun _ _ _ _ => trivial) (fun i x σ H H' _ p y => by
      obtain ⟨rfl, c, e, rfl⟩ := y
      exact hs i c σ H' (by rw [← e]; simp [tl]) p) hd⟩)
theorem fo_1 {j : Int} (b1 : -(2 ^ 62) ≤ j) (b2 : j < 2 ^ 62) (Pv : Nat → L2.St → Hp → Prop) (h0 : Pv 0 σ H)
    (hs : ∀ (i : Nat) σ H, i < j.toNat → Pv i σ H → g (.int (i : Int)) σ H fun σ2 H2 => tb (inD D (Pv (i + 1))) σ2 H2) (hd : ∀ σ H, Pv j.toNat σ H → D.nx σ H) :
    wR1 (Rf g tb D σ) [.int j] H := ⟨j, rfl, b1, b2, rf_it walk_range Pv h0 (fun _ _ _ _ => trivial) (fun i x σ H H' hi p y => by
      obtain ⟨rfl, rfl⟩ := y
      have q := hs i σ H' hi p
      rw [← Int.zero_add (i : Int)] at q
      exact q) hd⟩
theorem fo_2 {k j : Int} (b : -(2 ^ 62) ≤ k ∧ k < 2 ^ 62 ∧ -(2 ^ 62) ≤ j ∧ j < 2 ^ 62) (Pv : Nat → L2.St → Hp → Prop) (h0 : Pv 0 σ H)
    (hs : ∀ (i : Nat) σ H, i < (j - k).toNat → Pv i σ H → g (.int (k + (i : Int))) σ H fun σ2 H2 => tb (inD D (Pv (i + 1))) σ2 H2) (hd : ∀ σ H, Pv (j - k).toNat σ H → D.nx σ H) :
    wR2 (Rf g tb D σ) [.int k, .int j] H := ⟨k, j, rfl, b, rf_it walk_range Pv h0 (fun _ _ _ _ => trivial) (fun i x σ H H' hi p y => by
      obtain ⟨rfl, rfl⟩ := y
      exact hs i σ H' hi p) hd⟩
theorem fo_e {a : Addr} {xs : List V} (hx : SqL K H a xs) (Pv : Nat → L2.St → Hp → Prop) (h0 : Pv 0 σ H) (hl : ∀ i σ H, Pv i σ H → SqL K H a xs)
    (hs : ∀ (i : Nat) x (T : Addr) σ H, xs[i]? = some x → H T = none → Pv i σ H → g (.ref T) σ (upd H T (.tup [.int (i : Int), x])) fun σ2 H2 => tb (inD D (Pv (i + 1))) σ2 H2)
    (hd : ∀ σ H, Pv xs.length σ H → D.nx σ H) : wE K (Rf g tb D σ) [.ref a] H := ⟨a, xs, rfl, hx, rf_it walk_enum Pv h0 hl (fun i x σ H H' _ p y => by
      obtain ⟨T, x, z, rfl, nT, rfl, e1, e2⟩ := y
      cases e1
      exact hs i z T σ H e2 nT p) hd⟩
theorem fo_z {a b : Addr} {xs ys : List V} (hx : SqL K H a xs) (hy : SqL K H b ys) (Pv : Nat → L2.St → Hp → Prop) (h0 : Pv 0 σ H)
    (hl : ∀ i σ H, Pv i σ H → SqL K H a xs ∧ SqL K H b ys)
    (hs : ∀ (i : Nat) x y (T : Addr) σ H, xs[i]? = some x → ys[i]? = some y → H T = none → Pv i σ H → g (.ref T) σ (upd H T (.tup [x, y])) fun σ2 H2 => tb (inD D (Pv (i + 1))) σ2 H2)
    (hd : ∀ σ H, Pv (min xs.length ys.length) σ H → D.nx σ H) : wZ K (Rf g tb D σ) [.ref a, .ref b] H :=
  ⟨a, b, xs, ys, rfl, hx, hy, rf_it (walk_zip rfl) Pv h0 hl (fun i x σ H H' _ p y => by
      obtain ⟨T, x, z, rfl, nT, rfl, e1, e2⟩ := y
      exact hs i x z T σ H e1 e2 nT p) hd⟩
/-- reversed: the i-th from the end -/
theorem fo_v {a : Addr} {xs : List V} (hx : SqL K H a xs) (Pv : Nat → L2.St → Hp → Prop) (h0 : Pv 0 σ H) (hl : ∀ i σ H, Pv i σ H → SqL K H a xs)
    (hs : ∀ i x σ H, i < xs.length → xs[xs.length - 1 - i]? = some x → Pv i σ H → g x σ H fun σ2 H2 => tb (inD D (Pv (i + 1))) σ2 H2) (hd : ∀ σ H, Pv xs.length σ H → D.nx σ H) :
    wV K (Rf g tb D σ) [.ref a] H := ⟨a, xs, rfl, hx, rf_it walk_rev Pv h0 hl (fun i x σ H H' hi p y => by
      obtain ⟨rfl, e⟩ := y
      exact hs i x σ H' hi e p) hd⟩
/-! a comprehension by its invariant -/
/-- one turn: the item's text, kept or not -/
def lcT (g : TG) (tt : TT) (te : TE) (ws : List Nat) (σ : L2.St) (D : Addr) (P : Hp → Prop) (x : V) (H' : Hp) : Prop :=
  g x (wipe σ ws) H' fun σ2 H2 => wipe σ2 ws = wipe σ ws ∧ tt σ2 H2 fun b H3 =>
      if b = true then te σ2 H3 fun y H4 => ∃ acc, H4 D = some (.lst acc) ∧ acc.length < sizeLine ∧ P (upd H4 D (.lst (acc ++ [y]))) else P H3
theorem rl_it {J : It} {n : Nat} {G : Hp → Prop} {Y : Nat → Hp → V → Hp → Prop} (w : Walk J n G Y)
    (h : ∀ C, H C = none → ∃ Pv : Nat → Hp → Prop, Pv 0 (upd H C (.lst [])) ∧ (∀ i H, Pv i H → G H) ∧
      (∀ i x H H', i < n → Pv i H → Y i H x H' → lcT g tt te ws σ C (Pv (i + 1)) x H') ∧ ∀ H, Pv n H → Q (.ref C) H) : Rl g tt te ws σ Q J H := by
  intro C hC
  obtain ⟨Pv, h0, hG, hs, hd⟩ := h C hC
  refine ⟨fun i m H => m = n - i ∧ i ≤ n ∧ Pv i H, ⟨n, by simp, Nat.zero_le _, h0⟩, ?_⟩
  rintro i m H ⟨rfl, hi, p⟩
  by_cases hlt : i < n
  · exact .inr ⟨w.goes i H hlt (hG i H p), Pv (i + 1), fun H' p' => ⟨n - (i + 1), by omega, rfl, hlt, p'⟩, fun x H' y => hs i x H H' hlt p (w.yields i H x H' hlt (hG i H p) y)⟩
  · have e : i = n := by omega
    subst e
    exact .inl ⟨w.stops H (hG i H p), hd H p⟩
theorem co_l {a : Addr} {xs : List V} (hx : SqL K H a xs) (h : ∀ C, H C = none → ∃ Pv : Nat → Hp → Prop, Pv 0 (upd H C (.lst [])) ∧ (∀ i H, Pv i H → SqL K H a xs) ∧
      (∀ i x H, xs[i]? = some x → Pv i H → lcT g tt te ws σ C (Pv (i + 1)) x H) ∧ ∀ H, Pv xs.length H → Q (.ref C) H) : wU K (Rl g tt te ws σ Q) (.ref a) H :=
  .inl ⟨a, rfl, ⟨xs, hx⟩, rl_it walk_list fun C hC => by
    obtain ⟨Pv, h0, hG, hs, hd⟩ := h C hC
    refine ⟨Pv, h0, hG, fun i x H H' _ p y => ?_, hd⟩
    obtain ⟨rfl, e⟩ := y
    exact hs i x H' e p⟩
theorem co_s {z : Str} (h : ∀ C, H C = none → ∃ Pv : Nat → Hp → Prop, Pv 0 (upd H C (.lst [])) ∧
      (∀ i c H, (tl z)[i]? = some c → Pv i H → lcT g tt te ws σ C (Pv (i + 1)) (.str ⟨#[c]⟩) H) ∧ ∀ H, Pv z.cps.size H → Q (.ref C) H) : wU K (Rl g tt te ws σ Q) (.str z) H :=
  .inr (.inr ⟨z, rfl, rl_it walk_str fun C hC => by
    obtain ⟨Pv, h0, hs, hd⟩ := h C hC
    refine ⟨Pv, h0, fun _ _ _ => trivial, fun i x H H' _ p y => ?_, hd⟩
    obtain ⟨rfl, c, e, rfl⟩ := y
    exact hs i c H' (by rw [← e]; simp [tl]) p⟩)
theorem co_1 {j : Int} (b1 : -(2 ^ 62) ≤ j) (b2 : j < 2 ^ 62) (h : ∀ C, H C = none → ∃ Pv : Nat → Hp → Prop, Pv 0 (upd H C (.lst [])) ∧
      (∀ (i : Nat) H, i < j.toNat → Pv i H → lcT g tt te ws σ C (Pv (i + 1)) (.int (i : Int)) H) ∧ ∀ H, Pv j.toNat H → Q (.ref C) H) : wR1 (Rl g tt te ws σ Q) [.int j] H :=
  ⟨j, rfl, b1, b2, rl_it walk_range fun C hC => by
    obtain ⟨Pv, h0, hs, hd⟩ := h C hC
    refine ⟨Pv, h0, fun _ _ _ => trivial, fun i x H H' hi p y => ?_, hd⟩
    obtain ⟨rfl, rfl⟩ := y
    have q := hs i H' hi p
    rw [← Int.zero_add (i : Int)] at q
    exact q⟩
theorem co_e {a : Addr} {xs : List V} (hx : SqL K H a xs) (h : ∀ C, H C = none → ∃ Pv : Nat → Hp → Prop, Pv 0 (upd H C (.lst [])) ∧ (∀ i H, Pv i H → SqL K H a xs) ∧
      (∀ (i : Nat) x (T : Addr) H, xs[i]? = some x → H T = none → Pv i H → lcT g tt te ws σ C (Pv (i + 1)) (.ref T) (upd H T (.tup [.int (i : Int), x]))) ∧ ∀ H, Pv xs.length H → Q (.ref C) H) :
    wE K (Rl g tt te ws σ Q) [.ref a] H := ⟨a, xs, rfl, hx, rl_it walk_enum fun C hC => by
    obtain ⟨Pv, h0, hG, hs, hd⟩ := h C hC
    refine ⟨Pv, h0, hG, fun i x H H' _ p y => ?_, hd⟩
    obtain ⟨T, x, z, rfl, nT, rfl, e1, e2⟩ := y
    cases e1
    exact hs i z T H e2 nT p⟩
theorem co_z {a b : Addr} {xs ys : List V} (hx : SqL K H a xs) (hy : SqL K H b ys) (h : ∀ C, H C = none → ∃ Pv : Nat → Hp → Prop, Pv 0 (upd H C (.lst [])) ∧
      (∀ i H, Pv i H → SqL K H a xs ∧ SqL K H b ys) ∧ (∀ (i : Nat) x y (T : Addr) H, xs[i]? = some x → ys[i]? = some y → H T = none → Pv i H →
        lcT g tt te ws σ C (Pv (i + 1)) (.ref T) (upd H T (.tup [x, y]))) ∧ ∀ H, Pv (min xs.length ys.length) H → Q (.ref C) H) :
    wZ K (Rl g tt te ws σ Q) [.ref a, .ref b] H := ⟨a, b, xs, ys, rfl, hx, hy, rl_it (walk_zip rfl) fun C hC => by
    obtain ⟨Pv, h0, hG, hs, hd⟩ := h C hC
    refine ⟨Pv, h0, hG, fun i x H H' _ p y => ?_, hd⟩
    obtain ⟨T, x, z, rfl, nT, rfl, e1, e2⟩ := y
    exact hs i x z T H e1 e2 nT p⟩
theorem rd_lcT {P : Hp → Prop} {C : Addr} {x : V} (q : g x (wipe σ ws) H fun σ2 H2 => wipe σ2 ws = wipe σ ws ∧ tt σ2 H2 fun b H3 =>
      if b = true then te σ2 H3 fun y H4 => ∃ acc, H4 C = some (.lst acc) ∧ acc.length < sizeLine ∧ P (upd H4 C (.lst (acc ++ [y]))) else P H3) : lcT g tt te ws σ C P x H := q
theorem rd_yes {Q : Bool → Hp → Prop} (q : Q true H) : tYes σ H Q := q
/-! comprehensions that leave all that is tracked as it is: filter and map -/
/-- one turn, told by what the item gives -/
def TurnF (g : TG) (tt : TT) (te : TE) (ws : List Nat) (σ : L2.St) (H : Hp) (x : V) (b : Bool) (y : V) : Prop :=
  ∀ (C : Addr) (acc : List V) (P : Hp → Prop) (H' : Hp), Kp [] H H' → H' C = some (.lst acc) → acc.length < sizeLine →
    (∀ H4, Kp [] H' H4 → if b = true then P (upd H4 C (.lst (acc ++ [y]))) else P H4) → lcT g tt te ws σ C P x H'
theorem filt_step {α β : Type} (p : α → Bool) (f : α → β) (ys : List α) (i : Nat) (y : α) (e : ys[i]? = some y) :
    ((ys.take (i + 1)).filter p).map f = ((ys.take i).filter p).map f ++ (if p y then [f y] else []) := by
  rw [List.take_add_one, e, Option.toList_some, List.filter_append, List.map_append]
  congr 1
  by_cases h : p y = true
  · simp [h]
  · simp [h]
theorem filt_len {α β : Type} (p : α → Bool) (f : α → β) (ys : List α) (i : Nat) : (((ys.take i).filter p).map f).length ≤ ys.length := by
  rw [List.length_map]
  exact Nat.le_trans (List.length_filter_le _ _) (by rw [List.length_take]; omega)
theorem co_sF {z : Str} (p : Nat → Bool) (f : Nat → V) (hz : z.length < sizeLine) (ht : ∀ c ∈ tl z, TurnF g tt te ws σ H (.str ⟨#[c]⟩) (p c) (f c))
    (q : ∀ C H', H C = none → Kp [] H H' → H' C = some (.lst (((tl z).filter p).map f)) → Q (.ref C) H') : wU K (Rl g tt te ws σ Q) (.str z) H := by
  refine co_s fun C hC => ⟨fun i H' => Kp [] H H' ∧ H' C = some (.lst ((((tl z).take i).filter p).map f)), ⟨Kp.refl.new hC, upd_same⟩, ?_, ?_⟩
  · rintro i c H' e ⟨k, h⟩
    have hm : c ∈ tl z := List.mem_of_getElem? e
    refine ht c hm C _ _ H' k h (Nat.lt_of_le_of_lt (filt_len p f (tl z) i) (by rw [← TL.len_tl]; exact hz)) fun H4 k4 => ?_
    have st := filt_step p f (tl z) i c e
    by_cases b : p c = true
    · rw [if_pos b]
      rw [if_pos b] at st
      exact ⟨(k.call0 k4).mutN hC, by rw [upd_same, st]⟩
    · rw [if_neg b]
      rw [if_neg b, List.append_nil] at st
      exact ⟨k.call0 k4, by rw [st]; exact k4.get0 h⟩
  · rintro H' ⟨k, h⟩
    refine q C H' hC k ?_
    rw [h, List.take_of_length_le (by simp [tl])]
theorem co_lF {α : Type} {a : Addr} {ys : List α} (m : α → V) (p : α → Bool) (f : α → V) (hx : SqL K H a (ys.map m)) (hz : ys.length < sizeLine) (ht : ∀ y ∈ ys, TurnF g tt te ws σ H (m y) (p y) (f y))
    (q : ∀ C H', H C = none → Kp [] H H' → H' C = some (.lst ((ys.filter p).map f)) → Q (.ref C) H') : wU K (Rl g tt te ws σ Q) (.ref a) H := by
  refine co_l hx fun C hC => ⟨fun i H' => Kp [] H H' ∧ H' C = some (.lst (((ys.take i).filter p).map f)), ⟨Kp.refl.new hC, upd_same⟩, fun i H' h => h.1.same.seq hx, ?_, ?_⟩
  · rintro i x H' e ⟨k, h⟩
    rw [List.getElem?_map] at e
    obtain ⟨y, ey, rfl⟩ := Option.map_eq_some_iff.mp e
    have hm : y ∈ ys := List.mem_of_getElem? ey
    refine ht y hm C _ _ H' k h (Nat.lt_of_le_of_lt (filt_len p f ys i) hz) fun H4 k4 => ?_
    have st := filt_step p f ys i y ey
    by_cases b : p y = true
    · rw [if_pos b]
      rw [if_pos b] at st
      exact ⟨(k.call0 k4).mutN hC, by rw [upd_same, st]⟩
    · rw [if_neg b]
      rw [if_neg b, List.append_nil] at st
      exact ⟨k.call0 k4, by rw [st]; exact k4.get0 h⟩
  · rintro H' ⟨k, h⟩
    refine q C H' hC k ?_
    rw [h, List.take_of_length_le (by simp)]
end
end Gd
/-! What a term of a def's body is made of, further. -/
namespace Gd
open PySem PySem.Spec PyProof.Rows L2

/-- a def of the module, by its name: where it stands and what it promises -/
structure GC (P : Program) (w : World) (K : PySem.W.Frag) (mg : Str → Option Value) (base : Heap) (k : Nat) (x : Str) (sp : Sp) : Prop where
  ex : ∃ (f : Addr) (fd : FuncData) (ps : List Str), mg x = some (.ref f) ∧ PySem.W.keepIn K (.ref f) = true ∧ Binds K fd ps [] ∧ GFn P w K mg base CX0 k f fd ps sp
section
variable {X : Cx} {k j : Nat} {sp : Sp} {x : Str} {p pos : Pos} {e : Expr} {es : List Expr} {t : TA} {ta tb tc : TE} {a b c : Expr}
theorem pe_gc (cc : GC X.prog X.w X.K X.mg X.base k x sp) (gd : X.A.guards = some []) (hr : Room j X.A) (hk : k ≤ j) (hg : Gl X x) (ha : PA X (e :: es) t)
    (hdb : (x == ("__debug__" : Str)) = false := by decide) (he : starEach (e :: es) X.env = (false, eval e X.env) :: starEach es X.env := by rfl)
    (hpl : (backTo pos (starEach es X.env)).any (·.1) = false := by rfl) : PE X (.Call (.Name x p) (e :: es) [] pos) (tCall sp [] E0 t) := by
  obtain ⟨f, fd, ps, h1, h2, h3, h4⟩ := cc.ex
  exact pe_callG h4 gd (hr.mono hk) hg h1 h2 h3 .nil pass0 ha hdb he hpl
theorem pt_u (ha : PE X a ta) (he : ∀ whole, isTrue a X.env whole = (do let v ← whole; standAt a.pos; holding [v] (truthy v))) : PT X a (uTru X.K ta) := pt_truth ha he
theorem hrep {A : Around} (hr : Room k A) : A.units + 100 < cLine := by
  have := hr.un
  omega
theorem u_ixL {K : PySem.W.Frag} {H : Hp} {Q : VK} {a : Addr} {xs : List V} {i : Int} {v : V} (h : SqL K H a xs) (e : atI xs i = some v) (q : Q v H) : rIx K (.ref a) (.int i) H Q := .inl ⟨a, xs, i, v, rfl, rfl, h, e, q⟩
theorem u_ixT {K : PySem.W.Frag} {H : Hp} {Q : VK} {a : Addr} {xs : List V} {i : Int} {v : V} (h : SqT K H a xs) (e : atI xs i = some v) (q : Q v H) : rIx K (.ref a) (.int i) H Q := .inr (.inl ⟨a, xs, i, v, rfl, rfl, h, e, q⟩)
theorem u_ixS {K : PySem.W.Frag} {H : Hp} {Q : VK} {z : Str} {i : Int} {c : Nat} (h : z.length ≤ sizeLine) (e : atI (tl z) i = some c) (q : Q (.str ⟨#[c]⟩) H) : rIx K (.str z) (.int i) H Q := .inr (.inr ⟨z, i, c, rfl, rfl, h, e, q⟩)
theorem u_setL {H : Hp} {Q : Hp → Prop} {p : Addr} {xs : List V} {k : Int} {j : Nat} {v : V} (h : H p = some (.lst xs)) (e : ixN xs.length k = some j) (q : Q (upd H p (.lst (xs.set j v)))) : rSetL (.ref p) (.int k) v H Q :=
  ⟨p, xs, k, j, rfl, rfl, h, e, q⟩
theorem atI_of {α : Type} {xs : List α} {i : Int} {v : α} (h0 : 0 ≤ i) (e : xs[i.toNat]? = some v) : atI xs i = some v := by
  have q := atI_nat e
  rw [Int.toNat_of_nonneg h0] at q
  exact q
theorem atI_lt {α : Type} {xs : List α} {i : Int} (h0 : 0 ≤ i) (h1 : i < xs.length) : ∃ v, atI xs i = some v ∧ v ∈ xs := by
  have h2 : i.toNat < xs.length := by omega
  exact ⟨xs[i.toNat], atI_of h0 (by simp [h2]), List.getElem_mem h2⟩
theorem bits_le {i : Int} {n : Nat} (h0 : 0 < n) (h : i.natAbs < 2 ^ n) : Builtin.Int.intBits i ≤ n := by
  have e := PySem.Flt.log2_lt_of h0 h
  unfold Builtin.Int.intBits
  split <;> omega
theorem powW {i j : Int} {n : Nat} (h0 : 0 < n) (h : i.natAbs < 2 ^ n) (h1 : 0 ≤ j) (h2 : (n : Int) * j ≤ 2 ^ 27) : CPowW i j := by
  have e := bits_le h0 h
  refine ⟨h1, Int.le_trans (Int.mul_le_mul_of_nonneg_right ?_ h1) h2⟩
  exact Int.ofNat_le.mpr e
theorem u_modB {H : Hp} {Q : VK} {a b : Int} (h : 0 < b) (q : ∀ r, 0 ≤ r → r < b → Q (.int r) H) : uMod (.int a) (.int b) H Q :=
  u_mod h (q _ (Int.emod_nonneg _ (by omega)) (Int.emod_lt_of_pos _ h))
theorem ite_nt {A B : Prop} (h : B) : if (!true) = true then A else B := h
theorem ite_nf {A B : Prop} (h : A) : if (!false) = true then A else B := h
theorem tr_p2 {P : V → V → Prop} {a b : V} (q : P a b) : ∃ v w, [a, b] = [v, w] ∧ P v w := ⟨a, b, rfl, q⟩
theorem tr_p3 {P : V → V → V → Prop} {a b c : V} (q : P a b c) : ∃ v w z, [a, b, c] = [v, w, z] ∧ P v w z := ⟨a, b, c, rfl, q⟩
theorem tr_str {R : Prop} {x : Str} (q : R) : (∃ a, V.str x = V.str a) ∧ R := ⟨⟨x, rfl⟩, q⟩
theorem tr_ss {P : Str → Str → Prop} {x y : Str} (q : P x y) : ∃ a b, V.str x = V.str a ∧ [V.str y] = [V.str b] ∧ P a b := ⟨x, y, rfl, rfl, q⟩
theorem dp_map {α : Type} {K : PySem.W.Frag} {H : Hp} (f : α → V) (g : α → PyData) : ∀ ys : List α, (∀ y ∈ ys, Dp K H (f y) (g y)) → DpAll K H (ys.map f) (ys.map g)
  | [], _ => .nil
  | y :: ys, h => .cons (h y (by simp)) (dp_map f g ys fun z hz => h z (by simp [hz]))
theorem log_small {j : Int} (h : j.natAbs < 18446744073709551616) : j.natAbs.log2 < 9000 := by
  have h2 : j.natAbs < 2 ^ 64 := Nat.lt_of_lt_of_le h (by decide)
  have e := PySem.Flt.log2_lt_of (show 0 < 64 by decide) h2
  omega
theorem len_app (a b : Str) : (a ++ b).length = a.length + b.length := by
  rw [TL.len_tl, TL.len_tl, TL.len_tl, TL.tl_append, List.length_append]
theorem len_one (c : Nat) : (⟨#[c]⟩ : Str).length = 1 := rfl
theorem mem_app {a b : Str} {c : Nat} : c ∈ tl (a ++ b) ↔ c ∈ tl a ∨ c ∈ tl b := by
  rw [show tl (a ++ b) = tl a ++ tl b from TL.tl_append a b, List.mem_append]
theorem mem_one {c d : Nat} : c ∈ tl (⟨#[d]⟩ : Str) ↔ c = d := by simp [tl]
theorem tr_m0 {C P : Str → Prop} {x : Str} (h : C x) (q : P x) : ∃ a, V.str x = V.str a ∧ ([] : List V) = [] ∧ C a ∧ P a := ⟨x, rfl, rfl, h, q⟩
theorem rd_dnew {σ : L2.St} {H : Hp} {Q : VK} (q : ∀ p, H p = none → Q (.ref p) (upd H p (.dK []))) : tDNewK σ H Q := q
theorem al_of {H H' : Hp} {p : Addr} {o : HO} (np : H p = none) (g : upd H p o = H') : Kp [] H H' ∧ H' p = some o := by
  subst g
  exact ⟨Kp.refl.new np, upd_same⟩
theorem rd_isB {H : Hp} {Q : VK} {a b : Bool} (q : Q (.bl (decide (a = b))) H) : rIsB (.bl a) (.bl b) H Q := ⟨a, b, rfl, rfl, q⟩
theorem rd_gtup {K : PySem.W.Frag} {σ : L2.St} {H : Hp} {n : Nat} {t : TGs} {Q : L2.St → Hp → Prop} {a : Addr} {xs : List V} (h : SqT K H a xs) (e : xs.length = n) (q : t xs σ H Q) : gTup K n t (.ref a) σ H Q := ⟨a, xs, rfl, h, e, q⟩
theorem rd_gcons {σ : L2.St} {H : Hp} {t : TG} {u : TGs} {v : V} {r : List V} {Q : L2.St → Hp → Prop} (q : t v σ H fun σ' H' => u r σ' H' Q) : gCons t u (v :: r) σ H Q := ⟨v, r, rfl, q⟩
theorem rd_gnil {σ : L2.St} {H : Hp} {Q : L2.St → Hp → Prop} (q : Q σ H) : gNil [] σ H Q := ⟨rfl, q⟩
theorem u_eqQ {K : PySem.W.Frag} {H : Hp} {Q : VK} {a b : Addr} {xs : List V} {ds : List PyData} (h1 : SqL K H a xs) (h2 : H b = some (.lst [])) (hd : DpAll K H xs ds)
    (hs : SeqAt.shaped (.list ds) = true) (q : Q (.bl ds.isEmpty) H) : uEq K (.ref a) (.ref b) H Q := by
  refine u_eqD (.lst h1 hd) (.lst (SqL.of h2) .nil) hs (by decide +kernel) ?_
  rw [show PyData.eqv (.list ds) (.list []) = ds.isEmpty by cases ds <;> simp [PyData.eqv, PyData.eqvAll]]
  exact q
theorem cutV_to (xs : List V) {d : Int} (h : 0 ≤ d) : cutV xs none (some d) = xs.take d.toNat := by
  unfold cutV
  have e := HT.sIx_nat xs.length xs.length d.toNat
  rw [Int.toNat_of_nonneg h] at e
  rw [e, HT.sIx_none, List.drop_zero, Nat.sub_zero]
  by_cases hd : d.toNat ≤ xs.length
  · rw [Nat.min_eq_left hd]
  · rw [Nat.min_eq_right (by omega), List.take_of_length_le (by omega), List.take_of_length_le (by omega)]
theorem Dq.imp {N M : Addr → Prop} {H : Hp} {v : V} {d : PyData} (h : Dq N H v d) (m : ∀ b, N b → M b) : Dq M H v d := Dq.mono (fun _ _ _ e => e) m d v h
theorem DqL.imp {N M : Addr → Prop} {H : Hp} {v : List V} {d : List PyData} (h : DqL N H v d) (m : ∀ b, N b → M b) : DqL M H v d := DqL.mono (fun _ _ _ e => e) m d v h
theorem DqT.kp0 {N : Addr → Prop} {H H' : Hp} {v : V} {d : PyData} (h : DqT N H v d) (k : Kp [] H H') : DqT N H' v d := by
  cases h with
  | of h => exact .of (h.kp0 k)
  | d0 n h => exact .d0 n (k.get0 h)
theorem TyN.kp0 {K : PySem.W.Frag} {H H' : Hp} {v : V} {T : String} (h : TyN K H v T) (k : Kp [] H H') : TyN K H' v T := by
  cases h with
  | non => exact .non
  | bl b => exact .bl b
  | int i => exact .int i
  | str s => exact .str s
  | lst h => exact .lst (k.same.seq h)
  | tup h => exact .tup (k.get0 h)
  | dct h => exact .dct (k.get0 h)
theorem sm_strs {ws : List Str} {n m : Nat} (hn : ws.length ≤ n) (h : ∀ w ∈ ws, w.length ≤ m ∧ ∀ c ∈ tl w, c < 1114112) (hz : n * (10 * m + 4) ≤ 9000000) : Sm (.list (ws.map PyData.str)) := by
  have f : ∀ l : List Str, (∀ w ∈ l, w.length ≤ m ∧ ∀ c ∈ tl w, c < 1114112) → fineAll (l.map PyData.str) = true ∧ szAll (l.map PyData.str) ≤ l.length * (10 * m + 4) ∧ PyData.depthAll (l.map PyData.str) = 0 := by
    intro l
    induction l with
    | nil => exact fun _ => ⟨rfl, by simp [szAll], by simp [PyData.depthAll]⟩
    | cons w l ih =>
      intro hw
      obtain ⟨h1, h2, h3⟩ := ih fun x hx => hw x (by simp [hx])
      obtain ⟨g1, g2⟩ := hw w (by simp)
      refine ⟨?_, ?_, ?_⟩
      · simp only [List.map_cons, fineAll, h1, Bool.and_true, fine, List.all_eq_true, decide_eq_true_eq]
        exact g2
      · simp only [List.map_cons, szAll, sz, List.length_cons, Nat.add_mul]
        omega
      · simp only [List.map_cons, PyData.depthAll, h3, PyData.depth]
        rfl
  obtain ⟨h1, h2, h3⟩ := f ws h
  have h4 : ws.length * (10 * m + 4) ≤ n * (10 * m + 4) := Nat.mul_le_mul_right _ hn
  refine ⟨by simp only [fine]; exact h1, ?_, ?_⟩
  · simp only [sz]
    omega
  · simp only [PyData.depth, h3]
    decide
/-- a sign of a written text, at a drawn place -/
theorem u_ixSC {K : PySem.W.Frag} {H : Hp} {Q : VK} {z : Str} {i : Int} {n m : Nat} (h0 : 0 ≤ i) (h1 : i < (n : Int)) (hn : (tl z).length = n) (hz : z.length ≤ sizeLine) (hb : ∀ x ∈ tl z, x < m)
    (q : ∀ c ∈ tl z, c < m → Q (.str ⟨#[c]⟩) H) : rIx K (.str z) (.int i) H Q := by
  obtain ⟨c, ec, mc⟩ := atI_lt (xs := tl z) h0 (by rw [hn]; exact h1)
  exact u_ixS hz ec (q c mc (hb c mc))
theorem tr_ii {P : Int → Int → Prop} {a b : Int} (q : P a b) : ∃ i j, [V.int a, V.int b] = [V.int i, V.int j] ∧ P i j := ⟨a, b, rfl, q⟩
theorem sz_and {n : Nat} {P : Prop} (h : n ≤ sizeLine) (q : P) : n ≤ sizeLine ∧ P := ⟨h, q⟩
theorem tr_bls {K : PySem.W.Frag} {H : Hp} {P : List Bool → Prop} {a : Addr} {bs : List Bool} (h : H a = some (.lst (bs.map V.bl))) (q : P bs) :
    ∃ (a' : Addr) (bs' : List Bool), [V.ref a] = [V.ref a'] ∧ SqL K H a' (bs'.map V.bl) ∧ P bs' := ⟨a, bs, rfl, SqL.of h, q⟩
/-- a list against the empty one -/
theorem u_eqN {K : PySem.W.Frag} {H : Hp} {Q : VK} {a b : Addr} {xs : List V} {ds : List PyData} (h1 : H a = some (.lst xs)) (h2 : H b = some (.lst [])) (hd : DpAll K H xs ds)
    (hs : SeqAt.shaped (.list ds) = true) (q : Q (.bl ds.isEmpty) H) : uEq K (.ref a) (.ref b) H Q := by
  refine u_eqD (.lst (SqL.of h1) hd) (.lst (SqL.of h2) .nil) hs (by decide +kernel) ?_
  rw [show PyData.eqv (.list ds) (.list []) = ds.isEmpty by cases ds <;> simp [PyData.eqv, PyData.eqvAll]]
  exact q
theorem u_neN {K : PySem.W.Frag} {H : Hp} {Q : VK} {a b : Addr} {xs : List V} {ds : List PyData} (h1 : H a = some (.lst xs)) (h2 : H b = some (.lst [])) (hd : DpAll K H xs ds)
    (hs : SeqAt.shaped (.list ds) = true) (q : Q (.bl (!ds.isEmpty)) H) : uNe K (.ref a) (.ref b) H Q := by
  refine u_neD (.lst (SqL.of h1) hd) (.lst (SqL.of h2) .nil) hs (by decide +kernel) ?_
  rw [show PyData.eqv (.list ds) (.list []) = ds.isEmpty by cases ds <;> simp [PyData.eqv, PyData.eqvAll]]
  exact q
theorem dp_strs {K : PySem.W.Frag} {H : Hp} : ∀ ws : List Str, DpAll K H (ws.map V.str) (ws.map PyData.str)
  | [] => .nil
  | w :: ws => .cons (.str w) (dp_strs ws)
theorem dp_ints {K : PySem.W.Frag} {H : Hp} : ∀ ws : List Int, DpAll K H (ws.map V.int) (ws.map PyData.int)
  | [] => .nil
  | w :: ws => .cons (.int w) (dp_ints ws)
theorem layAll_map {α : Type} (f : α → PyData) : ∀ ws : List α, (∀ w ∈ ws, (f w).canLay0 = true) → PyData.canLayAll0 (ws.map f) = true
  | [], _ => by simp [PyData.canLayAll0]
  | w :: ws, h => by
    rw [List.map_cons, PyData.canLayAll0, h w (by simp), layAll_map f ws fun v hv => h v (by simp [hv])]
    rfl
theorem depAll_map {α : Type} (f : α → PyData) (n : Nat) : ∀ ws : List α, (∀ w ∈ ws, (f w).depth ≤ n) → PyData.depthAll (ws.map f) ≤ n
  | [], _ => by simp [PyData.depthAll]
  | w :: ws, h => by
    rw [List.map_cons, PyData.depthAll]
    exact Nat.max_le.mpr ⟨h w (by simp), depAll_map f n ws fun v hv => h v (by simp [hv])⟩
theorem shaped_map {α : Type} (f : α → PyData) (ws : List α) (h : ∀ w ∈ ws, (f w).canLay0 = true ∧ (f w).depth ≤ 63) : SeqAt.shaped (.list (ws.map f)) = true := by
  unfold SeqAt.shaped
  rw [Bool.and_eq_true, decide_eq_true_eq]
  refine ⟨?_, ?_⟩
  · rw [PyData.canLay0]
    exact layAll_map f ws fun w hw => (h w hw).1
  · rw [PyData.depth]
    have := depAll_map f 63 ws fun w hw => (h w hw).2
    omega
theorem shaped_strs (ws : List Str) (h : ∀ w ∈ ws, PyData.strOk w = true) : SeqAt.shaped (.list (ws.map PyData.str)) = true :=
  shaped_map _ ws fun w hw => ⟨by rw [PyData.canLay0]; exact h w hw, by simp [PyData.depth]⟩
theorem shaped_ints (ws : List Int) : SeqAt.shaped (.list (ws.map PyData.int)) = true :=
  shaped_map _ ws fun w hw => ⟨by rw [PyData.canLay0], by simp [PyData.depth]⟩
theorem strOk_iff (z : Str) : PyData.strOk z = true ↔ ∀ c ∈ tl z, c < 1114112 := by
  unfold PyData.strOk tl
  rw [← Array.all_toList, List.all_eq_true]
  constructor
  · intro h c hc
    exact of_decide_eq_true (h c hc)
  · intro h c hc
    exact decide_eq_true (h c hc)
theorem isEmpty_filter {α β : Type} (p : α → Bool) (f : α → β) (ys : List α) : ((ys.filter p).map f).isEmpty = ys.all (fun y => !p y) := by
  rw [List.isEmpty_map]
  induction ys with
  | nil => rfl
  | cons y ys ih =>
    rw [List.filter_cons, List.all_cons]
    cases h : p y
    · simp [ih]
    · simp
theorem lt_one (c d : Nat) : decide (([c] : List Nat) < [d]) = decide (c < d) := by
  rw [decide_eq_decide]
  simp [List.cons_lt_cons_iff]
theorem pss_cut {st : Stmt} {rest : List Stmt} {t u : TS} (h1 : PS X st t) (h2 : PSs X rest u) : PSs X (st :: rest) (C8.tCut t u) := C8.pss_cut h1 h2
theorem rd_cut {σ : L2.St} {H : Hp} {D : Ends} {t u : TS} (M : L2.St → Hp → Prop) (h1 : t { D with nx := M } σ H) (h2 : ∀ σ' H', M σ' H' → u D σ' H') : C8.tCut t u D σ H := ⟨M, h1, h2⟩
/-! slices of anything -/
def uSl (K : PySem.W.Frag) : V → Option Int → Option Int → Hp → VK → Prop := fun x lo hi H Q => rSlS x lo hi H Q ∨ rSlL K x lo hi H Q ∨ rSlT K x lo hi H Q
theorem sl_u : SlR X (uSl X.K) := SlR.or sl_str (SlR.or sl_list sl_tup)
theorem u_slS {K : PySem.W.Frag} {H : Hp} {Q : VK} {z : Str} {lo hi : Option Int} (h : z.length ≤ sizeLine) (q : Q (.str (cutS z lo hi)) H) : uSl K (.str z) lo hi H Q := .inl ⟨z, rfl, h, q⟩
theorem u_slL {K : PySem.W.Frag} {H : Hp} {Q : VK} {p : Addr} {xs : List V} {lo hi : Option Int} (h : SqL K H p xs) (q : ∀ p, H p = none → Q (.ref p) (upd H p (.lst (cutV xs lo hi)))) :
    uSl K (.ref p) lo hi H Q := .inr (.inl ⟨p, xs, rfl, h, q⟩)
theorem sIx0 (n d : Nat) : HT.sIx n d (some (0 : Int)) = 0 := by
  have := HT.sIx_nat n d 0
  simpa using this
theorem cut_to (z : Str) {d : Int} (h : 0 ≤ d) : tl (cutS z none (some d)) = (tl z).take d.toNat := by
  unfold cutS tl
  have e := HT.sIx_nat z.length z.length d.toNat
  rw [Int.toNat_of_nonneg h] at e
  rw [e, HT.sIx_none]
  simp only [List.drop_zero, Nat.sub_zero]
  have el : z.cps.toList.length = z.length := by simp [Str.length]
  by_cases hd : d.toNat ≤ z.length
  · rw [Nat.min_eq_left hd]
  · rw [Nat.min_eq_right (by omega), List.take_of_length_le (by omega), List.take_of_length_le (by omega)]
theorem cut_from (z : Str) {d : Int} (h : 0 ≤ d) : tl (cutS z (some d) none) = (tl z).drop d.toNat := by
  unfold cutS tl
  have e := HT.sIx_nat z.length 0 d.toNat
  rw [Int.toNat_of_nonneg h] at e
  rw [e, HT.sIx_none]
  have el : z.cps.toList.length = z.length := by simp [Str.length]
  by_cases hd : d.toNat ≤ z.length
  · rw [Nat.min_eq_left hd, List.take_of_length_le (by rw [List.length_drop]; omega)]
  · rw [Nat.min_eq_right (by omega), List.drop_of_length_le (by omega), List.drop_of_length_le (by omega)]
    simp
theorem cut_mem {z : Str} {lo hi : Option Int} {c : Nat} (h : c ∈ tl (cutS z lo hi)) : c ∈ tl z := List.mem_of_mem_drop (List.mem_of_mem_take h)
theorem cut_to_len (z : Str) {d : Int} (h : 0 ≤ d) : (cutS z none (some d)).length = min d.toNat z.length := by
  rw [TL.len_tl, show TL.tl (cutS z none (some d)) = tl (cutS z none (some d)) from rfl, cut_to z h, List.length_take, ← TL.len_tl]
theorem rd_rU {g : Int → V} {i : Int} {H : Hp} {Q : VK} (q : Q (g i) H) : rU g (.int i) H Q := ⟨i, rfl, q⟩
theorem u_app {H : Hp} {Q : VK} {l : Addr} {xs : List V} {y : V} (h : H l = some (.lst xs)) (hz : xs.length < sizeLine) (q : Q .non (upd H l (.lst (xs ++ [y])))) : rAppend (.ref l) [y] H Q :=
  ⟨l, xs, y, rfl, rfl, h, hz, q⟩
theorem ty_l {K : PySem.W.Frag} {H : Hp} {p : Addr} {xs : List V} {R : Prop} (h : H p = some (.lst xs)) (q : R) : tyV K "list" (.ref p) H ∧ R := ⟨.inl ⟨rfl, _, .inl (.inl h)⟩, q⟩
/-! three names at once -/
def tPar3 (i j k : Nat) (ta : TA) : TS := fun D σ H => ta σ H fun vs H1 => ∃ v w z, vs = [v, w, z] ∧ D.nx (((σ.set i (some v)).set j (some w)).set k (some z)) H1
theorem ps_par3 {i j k : Nat} {x y z : Str} {ta : TA} {px py pz pt : Pos} {kt k2 pt2} (hc : X.calm = true) (hN : X.N.Nodup) (hi : X.N[i]? = some x) (hj : X.N[j]? = some y) (hk : X.N[k]? = some z)
    (hij : i ≠ j) (hik : i ≠ k) (hjk : j ≠ k) (hx : X.env.scope.names.lookup x = some .local) (hy : X.env.scope.names.lookup y = some .local) (hz : X.env.scope.names.lookup z = some .local)
    (ha : PA X [a, b, c] ta) (hw : swappedStores [.Tuple [.Name x px, .Name y py, .Name z pz] kt pt] (.Tuple [a, b, c] k2 pt2) X.env = pure (some [x, y, z]))
    (hs : swapsWithSole [.Tuple [.Name x px, .Name y py, .Name z pz] kt pt] (.Tuple [a, b, c] k2 pt2) pos.line X.env = pure false := by rfl) :
    PS X (.Assign [.Tuple [.Name x px, .Name y py, .Name z pz] kt pt] (.Tuple [a, b, c] k2 pt2) pos) (tPar3 i j k ta) := by
  refine ⟨fun pins s σ H D I h => ?_⟩
  rw [exec_Assign_arm]
  refine wpAny_bind (wpAny_standAt ?_)
  rw [hs]
  refine wpAny_bind (wpAny_pure ?_)
  rw [if_neg (by decide)]
  refine wpAny_bind (Tuple_ (thn (ha.run _ pins s σ H _ I h) ?_))
  intro us s1 hu
  obtain ⟨vs, H1, I1, r1, q1⟩ := hu
  obtain ⟨v, w, z', e1, q1⟩ := q1
  subst e1
  obtain ⟨u1, us1, rfl, rv, r2⟩ : ∃ u1 us1, us = u1 :: us1 ∧ RelV v u1 ∧ Vals [w, z'] us1 := by
    cases r1 with
    | cons p q => exact ⟨_, _, rfl, p, q⟩
  obtain ⟨u2, us2, rfl, rw', r3⟩ : ∃ u2 us2, us1 = u2 :: us2 ∧ RelV w u2 ∧ Vals [z'] us2 := by
    cases r2 with
    | cons p q => exact ⟨_, _, rfl, p, q⟩
  obtain ⟨u3, rfl, rz⟩ : ∃ u3, us2 = [u3] ∧ RelV z' u3 := by
    cases r3 with
    | cons p q =>
      cases q
      exact ⟨_, rfl, p⟩
  refine wpAny_newObj_type ?_ (by show 3 ≤ sizeLine; decide)
  have I2 : Inv X pins σ H1 { s1 with heap := s1.heap.push { cls := .type "tuple", data := .seq [u1, u2, u3].toArray } } :=
    I1.kept (t' := s1.toks) fun b o e => Heap.get?_push_of_some _ e
  rw [hw]
  refine wpAny_bind (wpAny_pure ?_)
  show wpAny (model X.prog X.w) X.A (do rule "assign.swapped-stores"; let items ← unpackItems (.ref s1.heap.objs.size) 3 none; assignInOrder [fun v => bindName X.env z v, fun v => bindName X.env y v, fun v => bindName X.env x v] items.reverse; pure Flow.next) _ _ _
  refine wpAny_bind (wpAny_rule (wpAny_bind (unpackItems_tuple (items := #[u1, u2, u3]) (I.ok.hd hc) (IsTup.new s1.heap _) fun h' hx' => ?_)))
  have I3 := I2.kept (h' := h') (t' := s1.toks) fun b o e => hx' b o (Nat.ne_of_lt (Heap.lt_size e)) e
  show wpAny _ _ (assignInOrder [fun v => bindName X.env z v, fun v => bindName X.env y v, fun v => bindName X.env x v] [u3, u2, u1] >>= fun _ => pure Flow.next) _ _ _
  refine wpAny_bind (assignInOrder_cons (wpAny_bindName (store_ok I3 hN hk (.inl hz) rz (fun s2 I4 => ?_) (.inr hz))))
  refine assignInOrder_cons (wpAny_bindName (store_ok I4 hN hj (.inl hy) rw' (fun s3 I5 => ?_) (.inr hy)))
  refine assignInOrder_cons (wpAny_bindName (store_ok I5 hN hi (.inl hx) rv (fun s4 I6 => assignInOrder_nil (wpAny_pure ?_)) (.inr hx)))
  rw [List.set_comm _ _ (Ne.symm hjk), List.set_comm _ _ (Ne.symm hik), List.set_comm _ _ (Ne.symm hij)] at I6
  exact ⟨_, H1, I6, q1⟩
theorem rd_par3 {σ : L2.St} {H : Hp} {D : Ends} {i j k : Nat} {t : TA} (q : t σ H fun vs H1 => ∃ v w z, vs = [v, w, z] ∧ D.nx (((σ.set i (some v)).set j (some w)).set k (some z)) H1) : tPar3 i j k t D σ H := q
end

/-! the same with the written part named: within a comprehension's block -/
section
variable {X : Cx} {K : PySem.W.Frag} (h : X.K = K)
include h
theorem kou_add : OpR X (binaryOp .Add) (uAdd K) := by subst h; exact ou_add
theorem kou_eq (hu : X.A.units + 64 < cLine) : OpR X (compareOp .Eq) (uEq K) := by subst h; exact ou_eq hu
theorem kou_ne (hu : X.A.units + 64 < cLine) : OpR X (compareOp .NotEq) (uNe K) := by subst h; exact ou_ne hu
theorem kou_in : OpR X (compareOp .In) (uIn K) := by subst h; exact ou_in
theorem kou_ni : OpR X (compareOp .NotIn) (uNi K) := by subst h; exact ou_ni
theorem kcu_len : CallR X (.builtin "len") (uLen K) := by subst h; exact cu_len
theorem kcu_isi : CallR X (.builtin "isinstance") (uIsi K) := by subst h; exact cu_isi
theorem kix_seq : IxR X (rIx K) := by subst h; exact ix_seq
theorem ksl_u : SlR X (uSl K) := by subst h; exact sl_u
theorem kpi_u {tg e : Expr} {te : TE} (he : PE X e te) : PI X tg e (iU K te) := by subst h; exact pi_u he
theorem kpe_andT {a b : Expr} {rest : List Expr} {pos : Pos} {ta tb : TE} (ha : PE X a ta) (hb : PE X (.BoolOp .And (b :: rest) pos) tb) : PE X (.BoolOp .And (a :: b :: rest) pos) (tAndT K ta tb) := by subst h; exact pe_andT ha hb
theorem kpe_orT {a b : Expr} {rest : List Expr} {pos : Pos} {ta tb : TE} (ha : PE X a ta) (hb : PE X (.BoolOp .Or (b :: rest) pos) tb) : PE X (.BoolOp .Or (a :: b :: rest) pos) (tOrT K ta tb) := by subst h; exact pe_orT ha hb
theorem kpe_notT {a : Expr} {pos : Pos} {ta : TE} (ha : PE X a ta) : PE X (.UnaryOp .Not a pos) (tNotT K ta) := by subst h; exact pe_notT ha
theorem kpt_u {a : Expr} {ta : TE} (ha : PE X a ta) (he : ∀ whole, isTrue a X.env whole = (do let v ← whole; standAt a.pos; holding [v] (truthy v))) : PT X a (uTru K ta) := by subst h; exact pt_u ha he
theorem kcr_all (hc : X.calm = true) : CallR X (.builtin "all") (rAll K) := by subst h; exact cr_all hc
theorem kcr_any (hc : X.calm = true) : CallR X (.builtin "any") (rAny K) := by subst h; exact cr_any hc
theorem kcr_sum (hc : X.calm = true) : CallR X (.builtin "sum") (rSum K) := by subst h; exact cr_sum hc
theorem kpg_tup {es : List Expr} {k : Nat} {pos : Pos} {t : TGs} {n : Nat} (hc : X.calm = true) (hp : PGs X es t)
    (hn : (assignEach es X.env).length = n := by rfl) (hst : (assignEach es X.env).findIdx? (·.1) = none := by rfl) : PG X (.Tuple es k pos) (gTup K n t) := by subst h; exact pg_tup hc hp hn hst
variable {o e : Expr} {es : List Expr} {to te : TE} {t : TA} {name : Str} {apos cpos : Pos} {T id : String}
  {r : V → List V → Hp → VK → Prop}
theorem kpe_bm0 (pa : PlainAttrs T) (slot : Slot T name id)
    (hty : typeOf (.builtin id) = pure (.type "method_descriptor"))
    (hm : MtR X id r) (ho : PE X o to)
    (b1 : attributeBase o name X.env (eval o X.env) = eval o X.env := by rfl)
    (b2 : (apos.endLine == cpos.line) = true := by rfl) :
    PE X (.Call (.Attribute o name apos) [] [] cpos) (tBM0 K T r to) := by
  subst h
  exact pe_bm0 pa slot hty hm ho b1 b2
theorem kpe_bm (pa : PlainAttrs T) (slot : Slot T name id)
    (hty : typeOf (.builtin id) = pure (.type "method_descriptor"))
    (hm : MtR X id r) (ho : PE X o to) (ha : PA X (e :: es) t)
    (b1 : attributeBase o name X.env (eval o X.env) = eval o X.env := by rfl)
    (b2 : ((backTo cpos (starEach (e :: es) X.env)).all (fun x => !x.1) &&
      (backToKw cpos (keywordEach [] X.env)).all (fun x => x.1.isSome) &&
      decide ((e :: es).length + ([] : List Keyword).length +
        (if ([] : List Keyword).isEmpty then 0 else 1) < 30)) = true := by rfl)
    (b3 : (apos.endLine == cpos.line) = true := by rfl)
    (b4 : starEach (e :: es) X.env = (false, eval e X.env) :: starEach es X.env := by rfl)
    (b5 : (backTo cpos (starEach es X.env)).any (·.1) = false := by rfl) :
    PE X (.Call (.Attribute o name apos) (e :: es) [] cpos) (tBM K T r to t) := by
  subst h
  exact pe_bm pa slot hty hm ho ha b1 b2 b3 b4 b5
theorem kpi_enum {p pos tpos : Pos} {elts : List Expr} {kk : Nat} (hg : Gl X "enumerate")
    (hm : X.mg "enumerate" = none) (ha : PA X [e] t)
    (hs : starEach [e] X.env = [(false, eval e X.env)] := by rfl) :
    PI X (.Tuple elts kk tpos) (.Call (.Name "enumerate" p) [e] [] pos) (iEnum K t) := by
  subst h
  exact pi_enum hg hm ha hs
theorem kpi_zip {e2 : Expr} {p pos tpos : Pos} {elts : List Expr} {kk : Nat} (hg : Gl X "zip")
    (hm : X.mg "zip" = none) (ha : PA X [e, e2] t)
    (hs : starEach [e, e2] X.env = (false, eval e X.env) :: starEach [e2] X.env := by rfl)
    (hpl : (backTo pos (starEach [e2] X.env)).any (·.1) = false := by rfl) :
    PI X (.Tuple elts kk tpos) (.Call (.Name "zip" p) [e, e2] [] pos) (iZip K t) := by
  subst h
  exact pi_zip hg hm ha hs hpl
def rJoin (K : PySem.W.Frag) : V → List V → Hp → VK → Prop := fun x xs H Q => ∃ a p, ∃ ys : List Str, x = .str a ∧ xs = [.ref p] ∧
  (SqL K H p (ys.map V.str) ∨ SqT K H p (ys.map V.str)) ∧
  (ys.map (·.length)).sum + ys.length * a.length ≤ 16777216 ∧ Q (.str (Txt.join a ys)) H
theorem kpe_join (ho : PE X o to) (he : PE X e te)
    (hs : starEach [e] X.env = [(false, eval e X.env)] := by rfl)
    (hb : attributeBase o "join" X.env (eval o X.env) = eval o X.env := by rfl)
    (hl : (apos.endLine == cpos.line) = true := by rfl) :
    PE X (.Call (.Attribute o "join" apos) [e] [] cpos) (tM1 (rJoin K) to te) := by
  subst h
  exact pe_join ho he hs hb hl
end
end Gd
open PySem PySem.Spec PyProof.Rows L2 Gd
local macro_rules | `(tactic| walk_at "sz") => `(tactic| first
  | assumption
  | (rw [sizeLine_eq]; simp only [List.length_cons, List.length_nil, List.length_map, List.length_append]; omega)
  | (rw [sizeLine_eq]; omega))
local macro_rules | `(tactic| walk_at "ne") => `(tactic| first
  | assumption
  | exact Ne.symm (by assumption)
  | (apply nn1 (by assumption); walk_at "lk")
  | (apply nn2 (by assumption); walk_at "lk"))
local macro_rules | `(tactic| walk_at "lk") => `(tactic| first
  | assumption
  | exact upd_same
  | exact SqL.of (by assumption)
  | exact SqT.of (by assumption)
  | (apply SqT.of; walk_at "lk")
  | (apply SqL.of; walk_at "lk")
  | ((refine (upd_ne ?_).trans ?_); (walk_at "ne"); walk_at "lk")
  | (apply Kp.get0 (by assumption); walk_at "lk")
  | (apply Kp.get1 (by assumption); walk_at "lk"; walk_at "ne"))
local macro_rules | `(tactic| walk_at "g1") => `(tactic| first
  | ((with_reducible refine' rd_var ?k1 ?_); (case k1 => exact rfl))
  | with_reducible refine rd_c ?_
  | with_reducible refine rd_cons ?_
  | with_reducible refine rd_nil ?_
  | with_reducible refine rd_op ?_
  | with_reducible refine rd_cb ?_
  | with_reducible refine rd_call ?_
  | with_reducible refine rd_seq ?_
  | with_reducible refine rd_asg ?_
  | with_reducible refine rd_gname ?_
  | with_reducible refine rd_nx ?_
  | with_reducible refine rd_rt ?_
  | with_reducible refine rd_next ?_
  | with_reducible refine rd_ret ?_
  | with_reducible refine rd_ifs ?_
  | with_reducible refine rd_test ?_
  | with_reducible refine tr_k ?_
  | with_reducible refine rd_tru ?_
  | with_reducible refine tr_bl ?_
  | with_reducible refine rd_tnot ?_
  | with_reducible refine rd_tand ?_
  | with_reducible refine rd_tor ?_
  | with_reducible refine iteT ?_
  | with_reducible refine iteF ?_
  | with_reducible refine ite_nt ?_
  | with_reducible refine ite_nf ?_
  | with_reducible refine u_addI ?_
  | with_reducible refine u_subI ?_
  | with_reducible refine u_eqI ?_
  | with_reducible refine u_neI ?_
  | with_reducible refine u_eqS ?_
  | with_reducible refine u_neS ?_
  | with_reducible refine u_eqB ?_
  | with_reducible refine u_neB ?_
  | with_reducible refine u_ltI ?_
  | with_reducible refine u_gtI ?_
  | with_reducible refine u_leI ?_
  | with_reducible refine u_geI ?_
  | with_reducible refine u_ltS ?_
  | with_reducible refine u_gtS ?_
  | ((with_reducible refine u_mod ?_ ?_); (· first | assumption | decide | omega))
  | ((with_reducible refine u_div ?_ ?_ ?_); (· first | assumption | decide | omega); (· first | assumption | decide))
  | ((with_reducible refine u_mulI ?_ ?_); (· first | exact Or.inl (Or.inl ⟨by decide, by decide⟩) | exact Or.inl (Or.inr ⟨by decide, by decide⟩)))
  | ((with_reducible refine u_pow ?_ ?_); (· exact ⟨by decide, by decide⟩))
  | ((with_reducible refine u_mulS ?_ ?_ ?_ ?_); (· first | assumption | omega | decide); (· first | assumption | omega | decide); (· first | assumption | decide))
  | ((with_reducible refine u_slS ?_ ?_); (· walk_at "sz"))
  | with_reducible refine rd_dnew ?_
  | ((with_reducible refine tr_m0 ?_ ?_); (· first | assumption | omega))
  | with_reducible refine rd_isB ?_
  | ((with_reducible refine' rd_gtup ?k1 ?k2 ?_); (case k1 => walk_at "lk"); (case k2 => exact rfl))
  | with_reducible refine rd_gcons ?_
  | with_reducible refine rd_gnil ?_
  | with_reducible refine rd_rU ?_
  | with_reducible refine tr_str ?_
  | with_reducible refine tr_ss ?_
  | with_reducible refine tr_p2 ?_
  | with_reducible refine tr_p3 ?_
  | with_reducible refine tr_ii ?_
  | ((with_reducible refine sz_and ?_ ?_); (· walk_at "sz"))
  | ((with_reducible refine u_lenS ?_ ?_); (· walk_at "sz"))
  | ((with_reducible refine u_addS ?_ ?_); (· walk_at "sz"))
  | with_reducible refine rd_andT ?_
  | with_reducible refine rd_orT ?_
  | with_reducible refine rd_notT ?_
  | with_reducible refine rd_lst ?_
  | with_reducible refine rd_tup ?_
  | with_reducible refine rd_ife ?_
  | with_reducible refine rd_tsl ?_
  | with_reducible refine rd_part ?_
  | with_reducible refine rd_nopart ?_
  | with_reducible refine tr_int ?_
  | with_reducible refine rd_par ?_
  | with_reducible refine rd_par3 ?_
  | with_reducible refine rd_gsub ?_
  | with_reducible refine rd_drop ?_
  | with_reducible refine rd_un ?_
  | with_reducible refine rd_forU ?_
  | with_reducible refine rd_for1 ?_
  | with_reducible refine rd_for2 ?_
  | with_reducible refine rd_forE ?_
  | with_reducible refine rd_forZ ?_
  | with_reducible refine rd_forV ?_
  | with_reducible refine rd_lcU ?_
  | with_reducible refine rd_lc1 ?_
  | with_reducible refine rd_lc2 ?_
  | with_reducible refine rd_lcE ?_
  | with_reducible refine rd_lcZ ?_
  | with_reducible refine rd_lcT ?_
  | with_reducible refine rd_yes ?_
  | with_reducible refine rd_bm ?_
  | with_reducible refine rd_bm0 ?_
  | with_reducible refine rd_m1 ?_
  | with_reducible refine rd_m0 ?_
  | with_reducible refine rd_callK ?_
  | with_reducible refine rd_retN ?_
  | with_reducible refine rd_brk ?_
  | with_reducible refine rd_bk ?_
  | with_reducible refine rd_ct ?_
  | with_reducible refine rd_cn ?_
  | ((with_reducible refine' u_ixL ?k1 ?k2 ?_); (case k1 => walk_at "lk"); (case k2 => exact rfl))
  | ((with_reducible refine' u_setL ?k1 ?k2 ?_); (case k1 => walk_at "lk"); (case k2 => exact rfl))
  | with_reducible refine u_isiT (TyN.str _) ?_
  | with_reducible refine u_isiT (TyN.int _) ?_
  | with_reducible refine u_isiT (TyN.bl _) ?_
  | ((with_reducible refine u_isiF (TyN.str _) ?_ ?_); · decide)
  | ((with_reducible refine u_isiF (TyN.int _) ?_ ?_); · decide)
  | ((with_reducible refine u_isiF (TyN.bl _) ?_ ?_); · decide)
  | ((with_reducible refine u_isiF TyN.non ?_ ?_); · decide))
local macro_rules | `(tactic| walk_at "go") => `(tactic| repeat (walk_at "g1"))
open PySem PySem.Spec PyProof.Rows L2 Gd

namespace My
open PySem PySem.Spec PyProof.Rows L2 Gd
def topS (i : Nat) : Stmt := PySem.Challenge.pw_ghosttext_k01_words_recognized.main.body.getD i (.Pass ⟨0, 0, 0, 0⟩)
abbrev s__law_draw : Stmt := topS 7
abbrev N__law_draw : List Str := ["source", "count", "digit", "mixed"]
theorem sc__law_draw : FnScope N__law_draw ["source", "count"] (defScope s__law_draw) := ⟨rfl, rfl, rfl, by decide +kernel, rfl, by decide +kernel, by decide +kernel⟩
abbrev s__law_bad_word : Stmt := topS 14
abbrev N__law_bad_word : List Str := ["source", "words", "near", "at", "sign", "some"]
theorem sc__law_bad_word : FnScope N__law_bad_word ["source", "words"] (defScope s__law_bad_word) := ⟨rfl, rfl, rfl, by decide +kernel, rfl, by decide +kernel, by decide +kernel⟩
abbrev s__law_is_word : Stmt := topS 11
abbrev N__law_is_word : List Str := ["value", "letter"]
theorem sc__law_is_word : FnScope N__law_is_word ["value"] (defScope s__law_is_word) := ⟨rfl, rfl, rfl, by decide +kernel, rfl, by decide +kernel, by decide +kernel⟩
abbrev s__law_fits : Stmt := topS 9
abbrev N__law_fits : List Str := ["words", "word", "other"]
theorem sc__law_fits : FnScope N__law_fits ["words", "word"] (defScope s__law_fits) := ⟨rfl, rfl, rfl, by decide +kernel, rfl, by decide +kernel, by decide +kernel⟩
abbrev s__law_word : Stmt := topS 8
abbrev N__law_word : List Str := ["source", "letters", "size", "number", "word", "step"]
theorem sc__law_word : FnScope N__law_word ["source", "letters", "size"] (defScope s__law_word) := ⟨rfl, rfl, rfl, by decide +kernel, rfl, by decide +kernel, by decide +kernel⟩
abbrev s__law_words : Stmt := topS 10
abbrev N__law_words : List Str := ["source", "most", "letters", "many", "size", "stem", "found", "step", "way", "word"]
theorem sc__law_words : FnScope N__law_words ["source", "most"] (defScope s__law_words) := ⟨rfl, rfl, rfl, by decide +kernel, rfl, by decide +kernel, by decide +kernel⟩
abbrev s_is_text : Stmt := topS 3
abbrev N_is_text : List Str := ["value", "letter"]
theorem sc_is_text : FnScope N_is_text ["value"] (defScope s_is_text) := ⟨rfl, rfl, rfl, by decide +kernel, rfl, by decide +kernel, by decide +kernel⟩
abbrev s_is_word : Stmt := topS 4
abbrev N_is_word : List Str := ["value"]
theorem sc_is_word : FnScope N_is_word ["value"] (defScope s_is_word) := ⟨rfl, rfl, rfl, by decide +kernel, rfl, by decide +kernel, by decide +kernel⟩
abbrev s__law_holds : Stmt := topS 15
abbrev N__law_holds : List Str := ["source", "most", "words", "step", "some", "value", "before", "result", "deep", "word"]
theorem sc__law_holds : FnScope N__law_holds ["source", "most"] (defScope s__law_holds) := ⟨rfl, rfl, rfl, by decide +kernel, rfl, by decide +kernel, by decide +kernel⟩
abbrev s__law_source : Stmt := topS 6
abbrev N__law_source : List Str := ["cell", "k"]
theorem sc__law_source : FnScope N__law_source ["cell", "k"] (defScope s__law_source) := ⟨rfl, rfl, rfl, by decide +kernel, rfl, by decide +kernel, by decide +kernel⟩
abbrev s_law : Stmt := topS 16
abbrev N_law : List Str := ["script", "k", "cell"]
theorem sc_law : FnScope N_law ["script"] (defScope s_law) := ⟨rfl, rfl, rfl, by decide +kernel, rfl, by decide +kernel, by decide +kernel⟩
structure Nm (mg : Str → Option Value) : Prop where
  all_ : mg "all" = none
  bool_ : mg "bool" = none
  enumerate_ : mg "enumerate" = none
  isinstance_ : mg "isinstance" = none
  len_ : mg "len" = none
  max_ : mg "max" = none
  min_ : mg "min" = none
  range_ : mg "range" = none
  repr_ : mg "repr" = none
  str_ : mg "str" = none
  LETTERS_ : ∃ t, mg "LETTERS" = some (.str "abcdefghijklmnopqrstuvwxyz" t)
  MOST_LETTERS_ : ∃ t, mg "MOST_LETTERS" = some (.int 12 t)
section
variable {P : Program} {w : World} {K : PySem.W.Frag} {mg : Str → Option Value} {base : Heap}

/-! the source of draws: three ints -/
structure Src (H : Hp) (a : Addr) (n : Nat) : Prop where
  ex : ∃ i j k : Int, H a = some (.lst [.int i, .int j, .int k]) ∧ 0 ≤ j ∧ j < 2 ^ 200 ∧ 0 ≤ k ∧ k ≤ n
theorem Src.mono {H : Hp} {a : Addr} {n m : Nat} (h : Src H a n) (l : n ≤ m) : Src H a m := by
  obtain ⟨i, j, k, h1, h2, h3, h4, h5⟩ := h
  exact ⟨i, j, k, h1, h2, h3, h4, by omega⟩

/-! values: a text, or of another kind -/
inductive IsV (K : PySem.W.Frag) (H : Hp) : V → Option Str → Prop
  | str (s : Str) (h : s.length ≤ 100000) (ok : PyData.strOk s = true) : IsV K H (.str s) (some s)
  | oth {v : V} {T : String} (h : TyN K H v T) (n : T ≠ "str") : IsV K H v none
theorem isi_str {T : String} (n : T ≠ "str") : isi T "str" = false := by
  unfold isi
  rw [beq_eq_false_iff_ne.mpr n]
  simp
theorem Src.kp {H H' : Hp} {a : Addr} {n : Nat} (h : Src H a n) (k : Kp [] H H') : Src H' a n := by
  obtain ⟨i, j, l, h1, h2⟩ := h
  exact ⟨i, j, l, k.get0 h1, h2⟩
theorem Src.new {H : Hp} {a p : Addr} {n : Nat} {o : HO} (h : Src H a n) (np : H p = none) : Src (upd H p o) a n := h.kp (Kp.refl.new np)
theorem Src.mut {H : Hp} {a p : Addr} {n : Nat} {o : HO} (h : Src H a n) (np : p ≠ a) : Src (upd H p o) a n := by
  obtain ⟨i, j, l, h1, h2⟩ := h
  exact ⟨i, j, l, by rw [upd_ne np.symm]; exact h1, h2⟩
theorem Src.ne {H : Hp} {a p : Addr} {n : Nat} (h : Src H a n) (np : H p = none) : p ≠ a := by
  obtain ⟨i, j, l, h1, h2⟩ := h
  exact (ne_of_none h1 np).symm
theorem Src.free {H H' : Hp} {a p : Addr} {n : Nat} (h : Src H' a n) (k : Kp [a] H H') (np : H' p = none) : H p = none := by
  obtain ⟨i, j, l, h1, h2⟩ := h
  exact k.free1 h1 np
def low (c : Nat) : Bool := decide (97 ≤ c ∧ c ≤ 122)
def isT (s : Str) : Bool := decide (s.length ≤ 12) && (tl s).all low
def isW (s : Str) : Bool := isT s && decide (0 < s.length)
def exT : Option Str → Bool
  | some s => isT s
  | none => false
def exW : Option Str → Bool
  | some s => isW s
  | none => false
theorem tl_letters : tl ("abcdefghijklmnopqrstuvwxyz" : Str) = List.range' 97 26 := by decide +kernel
theorem in_letters (c : Nat) : decide (c ∈ tl ("abcdefghijklmnopqrstuvwxyz" : Str)) = low c := by
  rw [tl_letters]
  unfold low
  rw [decide_eq_decide]
  rw [List.mem_range'_1]
  omega
def sp_is_text (K : PySem.W.Frag) : Sp := fun vs H Q _ => ∃ v o, vs = [v] ∧ IsV K H v o ∧ ∀ H', Kp [] H H' → Q (.bl (exT o)) H'
def sp_is_word (K : PySem.W.Frag) : Sp := fun vs H Q _ => ∃ v o, vs = [v] ∧ IsV K H v o ∧ ∀ H', Kp [] H H' → Q (.bl (exW o)) H'
def sp__law_is_word (K : PySem.W.Frag) : Sp := sp_is_word K
theorem sz100k {n : Nat} (h : n ≤ 100000) : n < sizeLine := by
  rw [sizeLine_eq]
  omega
theorem ok_is_text (n : Nm mg)  {f : Addr} {fd : FuncData} (F : Fun K "is_text" "is_text" s_is_text f fd) :
    GFn P w K mg base CX0 1 f fd ["value"] (sp_is_text K) := by
  obtain ⟨_, g_LETTERS⟩ := n.LETTERS_
  obtain ⟨_, g_MOST_LETTERS⟩ := n.MOST_LETTERS_
  have n_all := n.all_
  have n_isinstance := n.isinstance_
  have n_len := n.len_
  have n_str := n.str_
  refine GFn.mk' F sc_is_text (fun vs H Q E h => ?_) (fun cdv A outer s H vs Q E gd hr h => ?_)
  · obtain ⟨v, o, rfl, _⟩ := h
    rfl
  obtain ⟨v, o, rfl, hv, q⟩ := h
  refine ⟨_, (pss_cons (ps_if (PW.pt (pw_or (pt_not (kpt_u (K := K) rfl (pe_callB (kcu_isi (K := K) rfl) (by rfl) n_isinstance (by decide +kernel) (pa_cons (pv 0) (pa_cons (pe_bltn (v := .ty "str") (by rfl) n_str (by decide +kernel) rfl) pa_nil))) (by intro _; rfl))) (pw_or1 (pt_cmpR ou_gt (pe_callB (kcu_len (K := K) rfl) (by rfl) n_len (by decide +kernel) (pa_cons (pv 0) pa_nil)) (pe_glob (v := .int 12) rfl g_MOST_LETTERS ⟨_, rfl⟩) (nomark _)))))
      (pss_one (ps_ret pe_bl))
      pss_nil)
      (pss_one (ps_ret (pe_callB (kcr_all (K := K) rfl rfl) (by rfl) n_all (by decide +kernel) (pa_cons (pe_lc (own := [("letter", 1)]) rfl sc_is_text.nd (kpi_u (K := K) rfl (pv 0)) (blkOk_by (own := [("letter", 1)]) (N := N_is_text) (sc := defScope s_is_text) (by decide +kernel)) (fun _ _ _ _ _ => (pg_name (i := 1) sc_is_text.nd rfl (.inl rfl))) (fun _ _ _ _ _ => pts_nil) (fun _ _ _ _ _ => (pe_cmpR (kou_in (K := K) rfl) (pv 1) (pe_glob (v := .str "abcdefghijklmnopqrstuvwxyz") rfl g_LETTERS ⟨_, rfl⟩) rfl))) pa_nil))))), ?_⟩
  cases hv with
  | oth ht hn =>
    walk_at "go"
    refine u_isiF ht (isi_str hn) ?_
    walk_at "go"
    exact q _ Kp.refl
  | str z hz ok =>
    have hz2 := sz100k hz
    walk_at "go"
    refine ite2 (fun c => ?_) (fun c => ?_)
    · walk_at "go"
      have e : exT (some z) = false := by
        simp only [decide_eq_true_eq] at c
        simp only [exT, isT, Bool.and_eq_false_iff, decide_eq_false_iff_not]
        left
        omega
      have := q _ Kp.refl
      rw [e] at this
      exact this
    · walk_at "go"
      refine co_sF (fun _ => true) (fun c => V.bl (low c)) hz2 (fun c hc C acc P H' k h hl r => ?_) (fun C H' nC k h => ?_)
      · walk_at "go"
        refine ⟨rfl, ?_⟩
        walk_at "go"
        refine u_inS ?_
        rw [in_letters]
        exact ⟨_, h, hl, r _ Kp.refl⟩
      · walk_at "go"
        refine ⟨C, (tl z).map low, rfl, SqL.of ?_, ?_⟩
        · rw [h, List.filter_eq_self.mpr (by simp), List.map_map]
          rfl
        · walk_at "go"
          have e : ((tl z).map low).all id = exT (some z) := by
            simp only [decide_eq_true_eq] at c
            simp only [exT, isT]
            rw [decide_eq_true (by omega), List.all_map]
            rfl
          rw [e]
          exact q _ k
theorem ok_is_word (n : Nm mg) (c_is_text : GC P w K mg base 1 "is_text" (sp_is_text K)) {f : Addr} {fd : FuncData} (F : Fun K "is_word" "is_word" s_is_word f fd) :
    GFn P w K mg base CX0 2 f fd ["value"] (sp_is_word K) := by
  have n_len := n.len_
  refine GFn.mk' F sc_is_word (fun vs H Q E h => ?_) (fun cdv A outer s H vs Q E gd hr h => ?_)
  · obtain ⟨v, o, rfl, _⟩ := h
    rfl
  obtain ⟨v, o, rfl, hv, q⟩ := h
  refine ⟨_, (pss_one (ps_ret (kpe_andT (K := K) rfl (pe_gc c_is_text gd hr (by decide) (by rfl) (pa_cons (pv 0) pa_nil)) (pe_one (pe_cmpR ou_gt (pe_callB (kcu_len (K := K) rfl) (by rfl) n_len (by decide +kernel) (pa_cons (pv 0) pa_nil)) pe_int (nomark _)))))), ?_⟩
  walk_at "go"
  refine ⟨_, o, rfl, hv, fun H' k => ?_⟩
  walk_at "go"
  cases hv with
  | oth ht hn =>
    exact q _ k
  | str z hz ok =>
    have hz2 := sz100k hz
    refine ite2 (fun c => ?_) (fun c => ?_)
    · walk_at "go"
      have e : decide (0 < (z.length : Int)) = exW (some z) := by
        simp only [exT] at c
        simp only [exW, isW, c, Bool.true_and, decide_eq_decide]
        omega
      rw [e]
      exact q _ k
    · have e : exT (some z) = exW (some z) := by
        simp only [exT, Bool.not_eq_true] at c
        simp only [exT, exW, isW, c, Bool.false_and]
      rw [e]
      exact q _ k
theorem ok__law_is_word (n : Nm mg)  {f : Addr} {fd : FuncData} (F : Fun K "_law_is_word" "_law_is_word" s__law_is_word f fd) :
    GFn P w K mg base CX0 1 f fd ["value"] (sp__law_is_word K) := by
  have n_isinstance := n.isinstance_
  have n_len := n.len_
  have n_str := n.str_
  refine GFn.mk' F sc__law_is_word (fun vs H Q E h => ?_) (fun cdv A outer s H vs Q E gd hr h => ?_)
  · obtain ⟨v, o, rfl, _⟩ := h
    rfl
  obtain ⟨v, o, rfl, hv, q⟩ := h
  refine ⟨_, (pss_cons (ps_if (PW.pt (pw_or (pt_not (kpt_u (K := K) rfl (pe_callB (kcu_isi (K := K) rfl) (by rfl) n_isinstance (by decide +kernel) (pa_cons (pv 0) (pa_cons (pe_bltn (v := .ty "str") (by rfl) n_str (by decide +kernel) rfl) pa_nil))) (by intro _; rfl))) (pw_or (pt_cmpR ou_lt (pe_callB (kcu_len (K := K) rfl) (by rfl) n_len (by decide +kernel) (pa_cons (pv 0) pa_nil)) pe_int (nomark _)) (pw_or1 (pt_cmpR ou_gt (pe_callB (kcu_len (K := K) rfl) (by rfl) n_len (by decide +kernel) (pa_cons (pv 0) pa_nil)) pe_int (nomark _))))))
      (pss_one (ps_ret pe_bl))
      pss_nil)
      (pss_one (ps_ret (pe_cmpR (kou_eq (K := K) rfl hr.units) (pe_lc (own := [("letter", 1)]) rfl sc__law_is_word.nd (kpi_u (K := K) rfl (pv 0)) (blkOk_by (own := [("letter", 1)]) (N := N__law_is_word) (sc := defScope s__law_is_word) (by decide +kernel)) (fun _ _ _ _ _ => (pg_name (i := 1) sc__law_is_word.nd rfl (.inl rfl))) (fun _ _ _ _ _ => (pts_one (PW.pt (pw_or (pt_cmpR ou_lt (pv 1) pe_str (nomark _)) (pw_or1 (pt_cmpR ou_gt (pv 1) pe_str (nomark _))))))) (fun _ _ _ _ _ => (pv 1))) (pe_lst pa_nil) (nomark _))))), ?_⟩
  cases hv with
  | oth ht hn =>
    walk_at "go"
    refine u_isiF ht (isi_str hn) ?_
    walk_at "go"
    exact q _ Kp.refl
  | str z hz ok =>
    have hz2 := sz100k hz
    walk_at "go"
    refine ite2 (fun c => ?_) (fun c => ?_)
    · walk_at "go"
      have e : exW (some z) = false := by
        simp only [decide_eq_true_eq] at c
        simp only [exW, isW, Bool.and_eq_false_iff, decide_eq_false_iff_not]
        right
        omega
      have := q _ Kp.refl
      rw [e] at this
      exact this
    · walk_at "go"
      refine ite2 (fun c2 => ?_) (fun c2 => ?_)
      · walk_at "go"
        have e : exW (some z) = false := by
          simp only [decide_eq_true_eq] at c2
          simp only [exW, isW, isT, Bool.and_eq_false_iff, decide_eq_false_iff_not]
          left
          left
          omega
        have := q _ Kp.refl
        rw [e] at this
        exact this
      · walk_at "go"
        refine co_sF (fun c => !low c) (fun c => V.str ⟨#[c]⟩) hz2 (fun c hc C acc P H' k h hl r => ?_) (fun C H' nC k h => ?_)
        · walk_at "go"
          refine ⟨rfl, ?_⟩
          walk_at "go"
          rw [show tl ("a" : Str) = [97] from rfl, show tl (⟨#[c]⟩ : Str) = [c] from rfl, lt_one]
          have fin : low c = false → ∃ acc, H' C = some (.lst acc) ∧ acc.length < sizeLine ∧ P (upd H' C (.lst (acc ++ [.str ⟨#[c]⟩]))) := fun e => by
            have := r _ Kp.refl
            rw [e] at this
            exact ⟨_, h, hl, this⟩
          refine ite2 (fun d => ?_) (fun d => ?_)
          · walk_at "go"
            refine fin ?_
            simp only [decide_eq_true_eq] at d
            unfold low
            exact decide_eq_false (by omega)
          · walk_at "go"
            rw [show tl ("z" : Str) = [122] from rfl, show tl (⟨#[c]⟩ : Str) = [c] from rfl, lt_one]
            simp only [decide_eq_true_eq] at d
            refine ite2 (fun d2 => ?_) (fun d2 => ?_)
            · walk_at "go"
              refine fin ?_
              simp only [decide_eq_true_eq] at d2
              unfold low
              exact decide_eq_false (by omega)
            · simp only [decide_eq_true_eq] at d2
              have e : low c = true := decide_eq_true (by omega)
              have := r _ Kp.refl
              rw [e] at this
              walk_at "go"
              exact this
        · walk_at "go"
          intro p np
          have ds := dp_strs (K := K) (H := upd H' p (.lst [])) (((tl z).filter fun c => !low c).map fun c => (⟨#[c]⟩ : Str))
          refine u_eqN (ds := (((tl z).filter fun c => !low c).map fun c => (⟨#[c]⟩ : Str)).map PyData.str) ((upd_ne (ne_of_none h np)).trans h) upd_same (by rw [List.map_map] at ds; exact ds) (shaped_strs _ ?_) ?_
          · intro x hx
            obtain ⟨c, hc, rfl⟩ := List.mem_map.mp hx
            rw [strOk_iff]
            intro d hd
            have e : d = c := by simpa [tl] using hd
            rw [e]
            exact (strOk_iff z).mp ok c (List.mem_filter.mp hc).1
          · walk_at "go"
            have e : (((tl z).filter fun c => !low c).map fun c => (⟨#[c]⟩ : Str)).map PyData.str = ((tl z).filter fun c => !low c).map fun c => PyData.str ⟨#[c]⟩ := by
              rw [List.map_map]
              rfl
            rw [e, isEmpty_filter]
            simp only [decide_eq_true_eq] at c c2
            have e2 : ((tl z).all fun c => !!low c) = exW (some z) := by
              simp only [exW, isW, isT, Bool.not_not]
              rw [decide_eq_true (by omega), decide_eq_true (by omega)]
              simp
            rw [e2]
            exact q _ (k.new np)
def sp__law_source (K : PySem.W.Frag) : Sp := fun vs H Q _ => ∃ (c : Int) (k : Nat), vs = [.int c, .int k] ∧ k < 100 ∧
  ∀ H' p, Kp [] H H' → H p = none → Src H' p 0 → Q (.ref p) H'
def sp__law_draw (K : PySem.W.Frag) : Sp := fun vs H Q _ => ∃ (a : Addr) (n : Nat) (m : Int), vs = [.ref a, .int m] ∧ Src H a n ∧ n < 2 ^ 100 ∧ 0 < m ∧ m.natAbs.log2 < 9000 ∧
  ∀ H' d, Kp [a] H H' → Src H' a (n + 1) → 0 ≤ d → d < m → Q (.int d) H'
theorem ok__law_source (n : Nm mg)  {f : Addr} {fd : FuncData} (F : Fun K "_law_source" "_law_source" s__law_source f fd) :
    GFn P w K mg base CX0 1 f fd ["cell", "k"] (sp__law_source K) := by
  have n_max := n.max_
  refine GFn.mk' F sc__law_source (fun vs H Q E h => ?_) (fun cdv A outer s H vs Q E gd hr h => ?_)
  · obtain ⟨c, k, rfl, _⟩ := h
    rfl
  obtain ⟨c, k, rfl, hk, q⟩ := h
  refine ⟨_, (pss_one (ps_ret (pe_lst (pa_cons (pe_callB (call_max2 rfl) (by rfl) n_max (by decide +kernel) (pa_cons pe_int (pa_cons (pe_op ou_sub (pv 0) (pe_op ou_pow pe_int pe_int)) pa_nil))) (pa_cons (pe_op (kou_add (K := K) rfl) (pe_op ou_mul (pe_op ou_mod (pv 0) (pe_op (kou_add (K := K) rfl) (pe_op ou_pow pe_int pe_int) pe_int)) pe_int) (pv 1)) (pa_cons pe_int pa_nil)))))), ?_⟩
  walk_at "go"
  intro p np
  walk_at "go"
  have e37 : (10 : Int) ^ Int.toNat 37 + 43 = 10000000000000000000000000000000000043 := by decide
  rw [e37]
  have r0 := Int.emod_nonneg c (show (10000000000000000000000000000000000043 : Int) ≠ 0 by decide)
  have r1 := Int.emod_lt_of_pos c (show (0 : Int) < 10000000000000000000000000000000000043 by decide)
  exact q _ p (Kp.refl.new np) np ⟨_, _, _, upd_same, by omega, by omega, by omega, by omega⟩
theorem ok__law_draw (n : Nm mg)  {f : Addr} {fd : FuncData} (F : Fun K "_law_draw" "_law_draw" s__law_draw f fd) :
    GFn P w K mg base CX0 1 f fd ["source", "count"] (sp__law_draw K) := by
  refine GFn.mk' F sc__law_draw (fun vs H Q E h => ?_) (fun cdv A outer s H vs Q E gd hr h => ?_)
  · obtain ⟨a, n, m, rfl, _⟩ := h
    rfl
  obtain ⟨a, c, m, rfl, ⟨i, j, k, hS, hj0, hj1, hk0, hk1⟩, hn, hm, hm2, q⟩ := h
  refine ⟨_, (pss_cons (ps_if (pt_cmpR ou_gt (pe_ix (kix_seq (K := K) rfl) (pv 0) pe_int (fun _ _ => rfl)) pe_int (nomark _))
      (pss_cons (ps_set (i := 2) sc__law_draw.nd rfl (.inl rfl) (pe_op ou_mod (pe_ix (kix_seq (K := K) rfl) (pv 0) pe_int (fun _ _ => rfl)) (pv 1)))
        (pss_cons (ps_asg (pe_op ou_div (pe_ix (kix_seq (K := K) rfl) (pv 0) pe_int (fun _ _ => rfl)) (pv 1)) (pg_sub (pv 0) pe_int set_list))
        (pss_one (ps_ret (pv 2)))))
      pss_nil)
      (pss_cons (ps_asg (pe_op (kou_add (K := K) rfl) (pe_ix (kix_seq (K := K) rfl) (pv 0) pe_int (fun _ _ => rfl)) pe_int) (pg_sub (pv 0) pe_int set_list))
      (pss_cons (ps_set (i := 3) sc__law_draw.nd rfl (.inl rfl) (pe_op ou_mod (pe_op ou_pow (pe_op (kou_add (K := K) rfl) (pe_ix (kix_seq (K := K) rfl) (pv 0) pe_int (fun _ _ => rfl)) (pe_op ou_mul pe_int (pe_ix (kix_seq (K := K) rfl) (pv 0) pe_int (fun _ _ => rfl)))) pe_int) (pe_op (kou_add (K := K) rfl) (pe_op ou_pow pe_int pe_int) pe_int)))
      (pss_cons (ps_set (i := 3) sc__law_draw.nd rfl (.inl rfl) (pe_op ou_mod (pe_op ou_pow (pe_op (kou_add (K := K) rfl) (pv 3) (pe_op ou_mul pe_int (pe_ix (kix_seq (K := K) rfl) (pv 0) pe_int (fun _ _ => rfl)))) pe_int) (pe_op (kou_add (K := K) rfl) (pe_op ou_pow pe_int pe_int) pe_int)))
      (pss_one (ps_ret (pe_op ou_mod (pe_op ou_div (pv 3) pe_int) (pv 1)))))))), ?_⟩
  walk_at "go"
  refine ite2 (fun c => ?_) (fun c => ?_)
  · walk_at "go"
    exact q _ _ (Kp.refl.mutS (by simp)) ⟨_, _, _, upd_same, hj0, hj1, hk0, by omega⟩ (Int.emod_nonneg _ (by omega)) (Int.emod_lt_of_pos _ hm)
  · walk_at "go"
    refine u_pow (powW (n := 201) (by decide) (by omega) (by decide) (by decide)) ?_
    walk_at "go"
    have e38 : (10 : Int) ^ Int.toNat 38 + 133 = 100000000000000000000000000000000000133 := by decide
    rw [e38]
    have r0 := Int.emod_nonneg ((j + 900867 * (k + 1)) ^ Int.toNat 3) (show (100000000000000000000000000000000000133 : Int) ≠ 0 by decide)
    have r1 := Int.emod_lt_of_pos ((j + 900867 * (k + 1)) ^ Int.toNat 3) (show (0 : Int) < 100000000000000000000000000000000000133 by decide)
    generalize (j + 900867 * (k + 1)) ^ Int.toNat 3 % 100000000000000000000000000000000000133 = r at *
    refine u_pow (powW (n := 201) (by decide) (by omega) (by decide) (by decide)) ?_
    walk_at "go"
    exact q _ _ (Kp.refl.mutS (by simp)) ⟨_, _, _, upd_same, hj0, hj1, by omega, by omega⟩ (Int.emod_nonneg _ (by omega)) (Int.emod_lt_of_pos _ hm)
end
end My
open PySem PySem.Spec PyProof.Rows L2 Gd

namespace My
section
variable {P : Program} {w : World} {K : PySem.W.Frag} {mg : Str → Option Value} {base : Heap}
def sp__law_word (K : PySem.W.Frag) : Sp := fun vs H Q _ => ∃ (a : Addr) (n : Nat) (L : Str) (z : Int), vs = [.ref a, .str L, .int z] ∧ Src H a n ∧ n < 2 ^ 90 ∧ 0 < L.length ∧ L.length ≤ 1000 ∧
  0 ≤ z ∧ z ≤ 1000 ∧ ∀ H' w, Kp [a] H H' → Src H' a (n + 1) → w.length = z.toNat → (∀ c ∈ tl w, c ∈ tl L) → Q (.str w) H'
theorem ok__law_word (n : Nm mg) (c__law_draw : GC P w K mg base 1 "_law_draw" (sp__law_draw K)) {f : Addr} {fd : FuncData} (F : Fun K "_law_word" "_law_word" s__law_word f fd) :
    GFn P w K mg base CX0 2 f fd ["source", "letters", "size"] (sp__law_word K) := by
  have n_len := n.len_
  have n_range := n.range_
  refine GFn.mk' F sc__law_word (fun vs H Q E h => ?_) (fun cdv A outer s H vs Q E gd hr h => ?_)
  · obtain ⟨a, n, L, z, rfl, _⟩ := h
    rfl
  obtain ⟨a, n', L, z, rfl, hS, hn, hL0, hL1, hz0, hz1, q⟩ := h
  refine ⟨_, (pss_cons (ps_par (i := 3) (j := 4) rfl sc__law_word.nd rfl rfl (by decide) rfl rfl (pa_cons (pe_gc c__law_draw gd hr (by decide) (by rfl) (pa_cons (pv 0) (pa_cons (pe_op ou_pow pe_int pe_int) pa_nil))) (pa_cons pe_str pa_nil)) (by rfl))
      (pss_cons (ps_for PassesOwn.never rfl (pi_range1 (by rfl) n_range (pa_cons (pv 2) pa_nil)) (pg_name (i := 5) sc__law_word.nd rfl (.inl rfl))
      (pss_cons (ps_set (i := 4) sc__law_word.nd rfl (.inl rfl) (pe_op (kou_add (K := K) rfl) (pv 4) (pe_ix (kix_seq (K := K) rfl) (pv 1) (pe_op ou_mod (pv 3) (pe_callB (kcu_len (K := K) rfl) (by rfl) n_len (by decide +kernel) (pa_cons (pv 1) pa_nil))) (fun _ _ => rfl))))
        (pss_one (ps_set (i := 3) sc__law_word.nd rfl (.inl rfl) (pe_op ou_div (pv 3) (pe_callB (kcu_len (K := K) rfl) (by rfl) n_len (by decide +kernel) (pa_cons (pv 1) pa_nil)))))))
      (pss_one (ps_ret (pv 4))))), ?_⟩
  walk_at "go"
  refine ⟨a, n', _, rfl, hS, by omega, by decide, by decide, fun H1 d k1 S1 d0 d1 => ?_⟩
  walk_at "go"
  refine fo_1 (by omega) (by omega) (fun i σ H2 => ∃ m w y, σ = [some (.ref a), some (.str L), some (.int z), some (.int m), some (.str w), y] ∧ 0 ≤ m ∧ w.length = i ∧ (∀ c ∈ tl w, c ∈ tl L) ∧ H2 = H1)
    ⟨_, _, _, rfl, d0, rfl, (by intro c h; cases h), rfl⟩ ?_ ?_
  · rintro i σ H2 hi ⟨m, w, y, rfl, hm, hw, hc, rfl⟩
    walk_at "go"
    have hL : tl L ≠ [] := fun e => by
      have : (tl L).length = 0 := by rw [e]; rfl
      rw [← TL.len_tl] at this
      omega
    have eL : ((tl L).length : Int) = L.length := by rw [← TL.len_tl]
    obtain ⟨c, ec, mc⟩ := atI_lt (xs := tl L) (i := m % (L.length : Int)) (Int.emod_nonneg _ (by omega)) (by rw [eL]; exact Int.emod_lt_of_pos _ (by omega))
    refine u_ixS (by rw [sizeLine_eq]; omega) ec ?_
    walk_at "go"
    have hw2 : w.length + (⟨#[c]⟩ : Str).length ≤ sizeLine := by
      rw [sizeLine_eq, len_one]
      omega
    have hlog : (L.length : Int).natAbs.log2 < 9000 := log_small (by omega)
    refine u_addS hw2 ?_
    walk_at "go"
    refine ⟨_, _, _, rfl, Int.ediv_nonneg hm (by omega), by rw [len_app, len_one, hw], fun d hd => ?_, rfl⟩
    rcases mem_app.mp hd with e | e
    · exact hc d e
    · rw [mem_one.mp e]
      exact mc
  · rintro σ H2 ⟨m, w, y, rfl, hm, hw, hc, rfl⟩
    walk_at "go"
    exact q _ _ k1 S1 hw hc
def sp__law_fits (K : PySem.W.Frag) : Sp := fun vs H Q _ => ∃ (b : Addr) (ws : List Str) (x : Str), vs = [.ref b, .str x] ∧ H b = some (.lst (ws.map V.str)) ∧ ws.length ≤ 1000 ∧
  ∀ H', Kp [] H H' → Q (.bl (ws.all fun o => !(Txt.startswith x o || Txt.startswith o x))) H'
theorem ok__law_fits (n : Nm mg)  {f : Addr} {fd : FuncData} (F : Fun K "_law_fits" "_law_fits" s__law_fits f fd) :
    GFn P w K mg base CX0 1 f fd ["words", "word"] (sp__law_fits K) := by
  refine GFn.mk' F sc__law_fits (fun vs H Q E h => ?_) (fun cdv A outer s H vs Q E gd hr h => ?_)
  · obtain ⟨a, n, x, rfl, _⟩ := h
    rfl
  obtain ⟨b, ws, x, rfl, hb, hl, q⟩ := h
  refine ⟨_, (pss_one (ps_ret (pe_cmpR (kou_eq (K := K) rfl hr.units) (pe_lc (own := [("other", 2)]) rfl sc__law_fits.nd (kpi_u (K := K) rfl (pv 0)) (blkOk_by (own := [("other", 2)]) (N := N__law_fits) (sc := defScope s__law_fits) (by decide +kernel)) (fun _ _ _ _ _ => (pg_name (i := 2) sc__law_fits.nd rfl (.inl rfl))) (fun _ _ _ _ _ => (pts_one (PW.pt (pw_or (kpt_u (K := K) rfl (pe_m1 PySem.F.slot_str_startswith PySem.F.type_str_startswith mt_startswith (pv 1) (pv 2)) (by intro _; rfl)) (pw_or1 (kpt_u (K := K) rfl (pe_m1 PySem.F.slot_str_startswith PySem.F.type_str_startswith mt_startswith (pv 2) (pv 1)) (by intro _; rfl))))))) (fun _ _ _ _ _ => pe_int)) (pe_lst pa_nil) (nomark _)))), ?_⟩
  walk_at "go"
  refine co_lF V.str (fun o => Txt.startswith x o || Txt.startswith o x) (fun _ => V.int 1) (SqL.of hb) (sz100k (by omega)) (fun o ho C acc P H' k h hl r => ?_) (fun C H' nC k h => ?_)
  · walk_at "go"
    refine ⟨rfl, ?_⟩
    walk_at "go"
    have rr := r _ Kp.refl
    refine ite2 (fun c => ?_) (fun c => ?_)
    · rw [c] at rr
      walk_at "go"
      exact ⟨_, h, hl, rr⟩
    · rw [Bool.not_eq_true] at c
      rw [c] at rr
      walk_at "go"
      refine ite2 (fun c2 => ?_) (fun c2 => ?_)
      · rw [c2] at rr
        walk_at "go"
        exact ⟨_, h, hl, rr⟩
      · rw [Bool.not_eq_true] at c2
        rw [c2] at rr
        walk_at "go"
        exact rr
  · walk_at "go"
    intro p np
    refine u_eqN (ds := (ws.filter fun o => Txt.startswith x o || Txt.startswith o x).map fun _ => PyData.int 1) ((upd_ne (ne_of_none h np)).trans h) upd_same (dp_map _ _ _ fun _ _ => .int 1)
      (shaped_map _ _ fun _ _ => ⟨by rw [PyData.canLay0], by simp [PyData.depth]⟩) ?_
    walk_at "go"
    rw [isEmpty_filter]
    exact q _ (k.new np)
/-! a word of the drawn books; a book -/
def okL (s : Str) : Prop := 0 < s.length ∧ s.length ≤ 1000 ∧ ∀ c ∈ tl s, 97 ≤ c ∧ c ≤ 122
def okW (s : Str) : Prop := 1 ≤ s.length ∧ s.length ≤ 12 ∧ ∀ c ∈ tl s, 97 ≤ c ∧ c ≤ 122
def fits (x o : Str) : Bool := !(Txt.startswith x o || Txt.startswith o x)
structure Bk (ws : List Str) (n : Nat) : Prop where
  len : ws.length ≤ n
  ok : ∀ w ∈ ws, okW w
  ap : ws.Pairwise fun o x => fits x o = true
def sp__law_words (K : PySem.W.Frag) : Sp := fun vs H Q _ => ∃ (a : Addr) (n : Nat) (m : Nat), vs = [.ref a, .int m] ∧ Src H a n ∧ n < 2 ^ 80 ∧ m ≤ 120 ∧
  ∀ H' p ws, Kp [a] H H' → H p = none → p ≠ a → Src H' a (n + 2000) → H' p = some (.lst (ws.map V.str)) → Bk ws m → Q (.ref p) H'
theorem ok__law_words (n : Nm mg) (c__law_draw : GC P w K mg base 1 "_law_draw" (sp__law_draw K)) (c__law_fits : GC P w K mg base 1 "_law_fits" (sp__law_fits K)) (c__law_word : GC P w K mg base 2 "_law_word" (sp__law_word K)) {f : Addr} {fd : FuncData} (F : Fun K "_law_words" "_law_words" s__law_words f fd) :
    GFn P w K mg base CX0 3 f fd ["source", "most"] (sp__law_words K) := by
  have n_len := n.len_
  have n_min := n.min_
  have n_range := n.range_
  refine GFn.mk' F sc__law_words (fun vs H Q E h => ?_) (fun cdv A outer s H vs Q E gd hr h => ?_)
  · obtain ⟨a, n, m, rfl, _⟩ := h
    rfl
  obtain ⟨a, n', m, rfl, hS, hn, hm, q⟩ := h
  refine ⟨_, (pss_cons (ps_set (i := 2) sc__law_words.nd rfl (.inl rfl) (pe_ix (kix_seq (K := K) rfl) (pe_lst (pa_cons pe_str (pa_cons pe_str (pa_cons pe_str pa_nil)))) (pe_gc c__law_draw gd hr (by decide) (by rfl) (pa_cons (pv 0) (pa_cons pe_int pa_nil))) (fun _ _ => rfl)))
      (pss_cons (ps_set (i := 3) sc__law_words.nd rfl (.inl rfl) (pe_ix (kix_seq (K := K) rfl) (pe_lst (pa_cons (pe_gc c__law_draw gd hr (by decide) (by rfl) (pa_cons (pv 0) (pa_cons pe_int pa_nil))) (pa_cons (pe_gc c__law_draw gd hr (by decide) (by rfl) (pa_cons (pv 0) (pa_cons (pe_op (kou_add (K := K) rfl) (pv 1) pe_int) pa_nil))) (pa_cons (pv 1) pa_nil)))) (pe_gc c__law_draw gd hr (by decide) (by rfl) (pa_cons (pv 0) (pa_cons pe_int pa_nil))) (fun _ _ => rfl)))
      (pss_cons (ps_par3 (i := 4) (j := 5) (k := 6) rfl sc__law_words.nd rfl rfl rfl (by decide) (by decide) (by decide) rfl rfl rfl (pa_cons (pe_op (kou_add (K := K) rfl) pe_int (pe_gc c__law_draw gd hr (by decide) (by rfl) (pa_cons (pv 0) (pa_cons pe_int pa_nil)))) (pa_cons (pe_gc c__law_word gd hr (by decide) (by rfl) (pa_cons (pv 0) (pa_cons (pv 2) (pa_cons pe_int pa_nil)))) (pa_cons (pe_lst pa_nil) pa_nil))) (by rfl))
      (pss_cons (ps_for PassesOwn.never rfl (pi_range1 (by rfl) n_range (pa_cons (pe_callB (call_min2 rfl) (by rfl) n_min (by decide +kernel) (pa_cons (pv 3) (pa_cons (pv 1) pa_nil))) pa_nil)) (pg_name (i := 7) sc__law_words.nd rfl (.inl rfl))
      (pss_cons (ps_set (i := 8) sc__law_words.nd rfl (.inl rfl) (pe_gc c__law_draw gd hr (by decide) (by rfl) (pa_cons (pv 0) (pa_cons pe_int pa_nil))))
        (pss_cons (ps_set (i := 9) sc__law_words.nd rfl (.inl rfl) (pe_gc c__law_word gd hr (by decide) (by rfl) (pa_cons (pv 0) (pa_cons (pv 2) (pa_cons (pe_ix (kix_seq (K := K) rfl) (pe_lst (pa_cons (pe_op (kou_add (K := K) rfl) pe_int (pe_gc c__law_draw gd hr (by decide) (by rfl) (pa_cons (pv 0) (pa_cons pe_int pa_nil)))) (pa_cons (pv 4) (pa_cons pe_int (pa_cons (pe_op (kou_add (K := K) rfl) pe_int (pe_gc c__law_draw gd hr (by decide) (by rfl) (pa_cons (pv 0) (pa_cons pe_int pa_nil)))) pa_nil))))) (pv 8) (fun _ _ => rfl)) pa_nil)))))
        (pss_cut (ps_if (pt_cmpR (kou_eq (K := K) rfl hr.units) (pv 8) pe_int (nomark _))
      (pss_one (ps_set (i := 9) sc__law_words.nd rfl (.inl rfl) (pe_op (kou_add (K := K) rfl) (pe_slice (ksl_u (K := K) rfl) (pv 5) po_none (po_some (pe_gc c__law_draw gd hr (by decide) (by rfl) (pa_cons (pv 0) (pa_cons pe_int pa_nil))))) (pv 9))))
      pss_nil)
        (pss_cut (ps_if (PW.pt (pw_and (pt_cmpR (kou_eq (K := K) rfl hr.units) (pv 8) pe_int (nomark _)) (pw_and1 (pt_cmpR (kou_ne (K := K) rfl hr.units) (pv 6) (pe_lst pa_nil) (nomark _)))))
      (pss_one (ps_set (i := 9) sc__law_words.nd rfl (.inl rfl) (pe_slice (ksl_u (K := K) rfl) (pe_op (kou_add (K := K) rfl) (pe_slice (ksl_u (K := K) rfl) (pe_ix (kix_seq (K := K) rfl) (pv 6) (pe_gc c__law_draw gd hr (by decide) (by rfl) (pa_cons (pv 0) (pa_cons (pe_callB (kcu_len (K := K) rfl) (by rfl) n_len (by decide +kernel) (pa_cons (pv 6) pa_nil)) pa_nil))) (fun _ _ => rfl)) po_none (po_some (pe_un un_neg pe_int))) (pv 9)) po_none (po_some pe_int))))
      pss_nil)
        (pss_one (ps_if (kpt_u (K := K) rfl (pe_gc c__law_fits gd hr (by decide) (by rfl) (pa_cons (pv 6) (pa_cons (pv 9) pa_nil))) (by intro _; rfl))
      (pss_one (ps_expr (kpe_bm (K := K) rfl PySem.F.plainAttrs_list PySem.F.slot_list_append PySem.F.type_list_append mt_append (pv 6) (pa_cons (pv 9) pa_nil))))
      pss_nil)))))))
      (pss_one (ps_ret (pv 6))))))), ?_⟩
  walk_at "go"
  intro p1 np1
  walk_at "go"
  refine ⟨a, n', 3, rfl, hS.new np1, by omega, by decide, by decide, fun H1 d1 k1 S1 d10 d11 => ?_⟩
  walk_at "go"
  have ne1 := hS.ne np1
  obtain ⟨v, ev, mv⟩ := atI_lt (xs := [V.str "ab", V.str "abc", V.str "abcdefghijklmnopqrstuvwxyz"]) d10 d11
  refine u_ixL (SqL.of (k1.get1 upd_same ne1)) ev ?_
  have hv : ∃ L, v = .str L ∧ okL L := by
    simp only [List.mem_cons, List.not_mem_nil, or_false] at mv
    rcases mv with rfl | rfl | rfl
    · exact ⟨_, rfl, by unfold okL; decide +kernel⟩
    · exact ⟨_, rfl, by unfold okL; decide +kernel⟩
    · exact ⟨_, rfl, by unfold okL; decide +kernel⟩
  obtain ⟨L, rfl, hL⟩ := hv
  have K1 : Kp [a] H H1 := (Kp.refl.new np1).call1 k1 (by simp)
  walk_at "go"
  refine ⟨a, _, 5, rfl, S1, by omega, by decide, by decide, fun H2 d2 k2 S2 d20 d21 => ?_⟩
  walk_at "go"
  refine ⟨a, _, _, rfl, S2, by omega, by omega, log_small (by omega), fun H3 d3 k3 S3 d30 d31 => ?_⟩
  walk_at "go"
  intro p2 np2
  walk_at "go"
  refine ⟨a, _, 3, rfl, S3.new np2, by omega, by decide, by decide, fun H4 d4 k4 S4 d40 d41 => ?_⟩
  walk_at "go"
  have ne2 := S3.ne np2
  obtain ⟨v, ev, mv⟩ := atI_lt (xs := [V.int d2, V.int d3, V.int (m : Int)]) d40 d41
  refine u_ixL (SqL.of (k4.get1 upd_same ne2)) ev ?_
  have hv : ∃ z, v = .int z ∧ 0 ≤ z ∧ z ≤ 120 := by
    simp only [List.mem_cons, List.not_mem_nil, or_false] at mv
    rcases mv with rfl | rfl | rfl
    · exact ⟨_, rfl, by omega, by omega⟩
    · exact ⟨_, rfl, by omega, by omega⟩
    · exact ⟨_, rfl, by omega, by omega⟩
  obtain ⟨z, rfl, hz0, hz1⟩ := hv
  have K4 : Kp [a] H H4 := (((K1.call1 k2 (by simp)).call1 k3 (by simp)).new np2).call1 k4 (by simp)
  walk_at "go"
  refine ⟨a, _, 12, rfl, S4, by omega, by decide, by decide, fun H5 d5 k5 S5 d50 d51 => ?_⟩
  walk_at "go"
  refine ⟨a, _, L, 11, rfl, S5, by omega, hL.1, hL.2.1, by decide, by decide, fun H6 stem k6 S6 hst hsc => ?_⟩
  walk_at "go"
  intro p np
  walk_at "go"
  have K6 : Kp [a] H H6 := (K4.call1 k5 (by simp)).call1 k6 (by simp)
  have pa := S6.ne np
  have p0 := S6.free K6 np
  generalize ht : (if (m : Int) < z then (m : Int) else z) = t
  have ht0 : 0 ≤ t ∧ t ≤ m := by
    rw [← ht]
    split <;> omega
  refine fo_1 (by omega) (by omega) (fun i σ H7 => ∃ y7 y8 y9 ws, σ = [some (.ref a), some (.int m), some (.str L), some (.int z), some (.int (1 + d5)), some (.str stem), some (.ref p), y7, y8, y9] ∧
      Kp [a] H H7 ∧ Src H7 a (n' + 10 + 8 * i) ∧ H7 p = some (.lst (ws.map V.str)) ∧ Bk ws i)
    ⟨_, _, _, [], rfl, K6.new np, (S6.new np).mono (by omega), upd_same, ⟨by simp, by simp, .nil⟩⟩ ?_ ?_
  · rintro i σ H7 hi ⟨y7, y8, y9, ws, rfl, K7, S7, h7, B⟩
    walk_at "go"
    refine ⟨a, _, 4, rfl, S7, by omega, by decide, by decide, fun H8 way k8 S8 w0 w1 => ?_⟩
    walk_at "go"
    refine ⟨a, _, 12, rfl, S8, by omega, by decide, by decide, fun H9 d6 k9 S9 d60 d61 => ?_⟩
    walk_at "go"
    refine ⟨a, _, 3, rfl, S9, by omega, by decide, by decide, fun H10 d7 k10 S10 d70 d71 => ?_⟩
    walk_at "go"
    intro p3 np3
    walk_at "go"
    obtain ⟨v, ev, mv⟩ := atI_lt (xs := [V.int (1 + d6), V.int (1 + d5), V.int 1, V.int (1 + d7)]) w0 w1
    refine u_ixL (SqL.of upd_same) ev ?_
    have hv : ∃ l, v = .int l ∧ 1 ≤ l ∧ l ≤ 12 ∧ (way = 2 → l = 1) := by
      have e2 : way = 2 → v = .int 1 := by
        intro e
        rw [e] at ev
        exact (Option.some.inj ev).symm
      simp only [List.mem_cons, List.not_mem_nil, or_false] at mv
      rcases mv with rfl | rfl | rfl | rfl
      · exact ⟨_, rfl, by omega, by omega, fun e => V.int.inj (e2 e)⟩
      · exact ⟨_, rfl, by omega, by omega, fun e => V.int.inj (e2 e)⟩
      · exact ⟨_, rfl, by omega, by omega, fun e => V.int.inj (e2 e)⟩
      · exact ⟨_, rfl, by omega, by omega, fun e => V.int.inj (e2 e)⟩
    obtain ⟨l, rfl, hl0, hl1, hl2⟩ := hv
    walk_at "go"
    refine ⟨a, _, L, l, rfl, S10.new np3, by omega, hL.1, hL.2.1, by omega, by omega, fun H11 word k11 S11 hwl hwc => ?_⟩
    walk_at "go"
    have h10 : H10 p = some (.lst (ws.map V.str)) := k10.get1 (k9.get1 (k8.get1 h7 pa) pa) pa
    have h11 : H11 p = some (.lst (ws.map V.str)) := k11.get1 ((upd_ne (ne_of_none h10 np3)).trans h10) pa
    have K11 : Kp [a] H H11 := ((((K7.call1 k8 (by simp)).call1 k9 (by simp)).call1 k10 (by simp)).new np3).call1 k11 (by simp)
    have okw : okW word := by
      refine ⟨by omega, by omega, fun c hc => hL.2.2 c (hwc c hc)⟩
    have S11' : Src H11 a (n' + 10 + 8 * i + 4) := S11.mono (by omega)
    clear S11 k11 k10 k9 k8 h10 S10 S9 S8 ev mv
    refine rd_cut (fun σ H12 => ∃ wd, σ = [some (.ref a), some (.int m), some (.str L), some (.int z), some (.int (1 + d5)), some (.str stem), some (.ref p), some (.int i), some (.int way), some (.str wd)] ∧
      Kp [a] H H12 ∧ Src H12 a (n' + 10 + 8 * i + 5) ∧ H12 p = some (.lst (ws.map V.str)) ∧ okW wd) ?_ ?_
    · walk_at "go"
      refine ite2 (fun c => ?_) (fun c => ?_)
      · walk_at "go"
        refine ⟨a, _, 12, rfl, S11', by omega, by decide, by decide, fun H12 d8 k12 S12 d80 d81 => ?_⟩
        walk_at "go"
        try (refine u_slS (by rw [sizeLine_eq]; omega) ?_)
        walk_at "go"
        have cl := cut_to_len stem d80
        simp only [decide_eq_true_eq] at c
        have l1 := hl2 c
        have hz12 : (cutS stem none (some d8)).length + word.length ≤ sizeLine := by
          rw [sizeLine_eq]
          omega
        refine u_addS hz12 ?_
        walk_at "go"
        refine ⟨_, rfl, K11.call1 k12 (by simp), S12.mono (by omega), k12.get1 h11 pa, ?_, ?_, fun x hx => ?_⟩
        · rw [len_app]
          omega
        · rw [len_app]
          omega
        · rcases mem_app.mp hx with e | e
          · exact hL.2.2 x (hsc x (cut_mem e))
          · exact okw.2.2 x e
      · walk_at "go"
        exact ⟨word, rfl, K11, S11'.mono (by omega), h11, okw⟩
    · rintro σ H12 ⟨wd, rfl, K12, S12, h12, okd⟩
      refine rd_cut (fun σ H13 => ∃ wd, σ = [some (.ref a), some (.int m), some (.str L), some (.int z), some (.int (1 + d5)), some (.str stem), some (.ref p), some (.int i), some (.int way), some (.str wd)] ∧
        Kp [a] H H13 ∧ Src H13 a (n' + 10 + 8 * i + 6) ∧ H13 p = some (.lst (ws.map V.str)) ∧ okW wd) ?_ ?_
      · walk_at "go"
        refine ite2 (fun c => ?_) (fun c => ?_)
        · walk_at "go"
          intro p4 np4
          have h12' : (upd H12 p4 (.lst [])) p = some (.lst (ws.map V.str)) := (upd_ne (ne_of_none h12 np4)).trans h12
          have S12' := S12.new (o := .lst []) np4
          have K12' := K12.new (o := .lst []) np4
          refine u_neN (ds := ws.map PyData.str) h12' upd_same (dp_strs _) (shaped_strs _ fun w hw => (strOk_iff w).mpr fun x hx => by have := (B.ok w hw).2.2 x hx; omega) ?_
          generalize upd H12 p4 (.lst []) = H13 at *
          walk_at "go"
          refine ite2 (fun c2 => ?_) (fun c2 => ?_)
          · have hne : 0 < ws.length := by
              cases ws with
              | nil => simp at c2
              | cons _ _ => simp
            walk_at "go"
            refine u_lenL (SqL.of h12') ?_
            walk_at "go"
            refine ⟨a, _, _, rfl, S12', by omega, by rw [List.length_map]; omega, log_small (by rw [List.length_map]; have := B.len; omega), fun H14 d9 k14 S14 d90 d91 => ?_⟩
            walk_at "go"
            obtain ⟨v, ev, mv⟩ := atI_lt (xs := ws.map V.str) d90 d91
            obtain ⟨w0, hw0, rfl⟩ := List.mem_map.mp mv
            have ok0 := B.ok w0 hw0
            refine u_ixL (SqL.of (k14.get1 h12' pa)) ev ?_
            walk_at "go"
            try (refine u_slS (by rw [sizeLine_eq]; have := ok0.2.1; omega) ?_)
            walk_at "go"
            have cl := cutS_length w0 none (some (-1))
            have hz14 : (cutS w0 none (some (-1))).length + wd.length ≤ sizeLine := by
              rw [sizeLine_eq]
              have := okd.2.1
              have := ok0.2.1
              omega
            refine u_addS hz14 ?_
            walk_at "go"
            try (refine u_slS (by rw [len_app]; exact hz14) ?_)
            walk_at "go"
            have cl2 := cut_to_len (cutS w0 none (some (-1)) ++ wd) (show (0 : Int) ≤ 12 by decide)
            rw [len_app] at cl2
            refine ⟨_, rfl, K12'.call1 k14 (by simp), S14.mono (by omega), k14.get1 h12' pa, ?_, ?_, fun x hx => ?_⟩
            · have := okd.1
              omega
            · omega
            · rcases mem_app.mp (cut_mem hx) with e | e
              · exact ok0.2.2 x (cut_mem e)
              · exact okd.2.2 x e
          · walk_at "go"
            exact ⟨wd, rfl, K12', S12'.mono (by omega), h12', okd⟩
        · walk_at "go"
          exact ⟨wd, rfl, K12, S12.mono (by omega), h12, okd⟩
      · rintro σ H13 ⟨wd, rfl, K13, S13, h13, okd⟩
        walk_at "go"
        refine ⟨p, ws, wd, rfl, h13, by have := B.len; omega, fun H14 k14 => ?_⟩
        walk_at "go"
        have h14 := k14.get0 h13
        have K14 := K13.call0 k14
        have S14 := S13.kp k14
        refine ite2 (fun c => ?_) (fun c => ?_)
        · walk_at "go"
          refine ty_l h14 ?_
          walk_at "go"
          refine u_app h14 (by rw [sizeLine_eq, List.length_map]; have := B.len; omega) ?_
          walk_at "go"
          refine ⟨_, _, _, ws ++ [wd], rfl, K14.mutN p0, (S14.mut pa).mono (by omega), ?_, ?_, ?_, ?_⟩
          · rw [upd_same, List.map_append]
            rfl
          · rw [List.length_append]
            have := B.len
            simp only [List.length_cons, List.length_nil]
            omega
          · intro w hw
            rcases List.mem_append.mp hw with e | e
            · exact B.ok w e
            · rw [List.mem_singleton.mp e]
              exact okd
          · rw [List.pairwise_append]
            refine ⟨B.ap, List.pairwise_singleton _ _, fun o ho x hx => ?_⟩
            rw [List.mem_singleton.mp hx]
            exact List.all_eq_true.mp c o ho
        · walk_at "go"
          exact ⟨_, _, _, ws, rfl, K14, S14.mono (by omega), h14, by have := B.len; omega, B.ok, B.ap⟩
  · rintro σ H7 ⟨y7, y8, y9, ws, rfl, K7, S7, h7, B⟩
    walk_at "go"
    exact q _ p ws K7 p0 pa (S7.mono (by omega)) h7 ⟨by have := B.len; omega, B.ok, B.ap⟩
end
end My
open PySem PySem.Spec PyProof.Rows L2 Gd

namespace My
section
variable {P : Program} {w : World} {K : PySem.W.Frag} {mg : Str → Option Value} {base : Heap}
/-! small values of every kind that are drawn -/
def okS (s : Str) : Prop := s.length ≤ 2000 ∧ ∀ c ∈ tl s, c < 1114112
inductive GV (N : Addr → Prop) (H : Hp) : V → Prop
  | str (s : Str) (h : okS s) : GV N H (.str s)
  | non : GV N H .non
  | int (i : Int) (h : i.natAbs.log2 < 1900) : GV N H (.int i)
  | bl (b : Bool) : GV N H (.bl b)
  | lst {a : Addr} {xs : List V} {ds : List PyData} (n : N a) (h : H a = some (.lst xs)) (r : DqL N H xs ds) (s : Sm (.list ds)) : GV N H (.ref a)
  | tup {a : Addr} {xs : List V} {ds : List PyData} (n : N a) (h : H a = some (.tup xs)) (r : DqL N H xs ds) (s : Sm (.tuple ds)) : GV N H (.ref a)
  | dct {a : Addr} (n : N a) (h : H a = some (.dK [])) : GV N H (.ref a)
theorem sm_str {s : Str} (h : okS s) : Sm (.str s) := by
  refine ⟨?_, ?_, ?_⟩
  · simp only [fine, List.all_eq_true, decide_eq_true_eq]
    exact h.2
  · have := h.1
    simp only [sz]
    omega
  · simp [PyData.depth]
section
variable {N : Addr → Prop} {H H' : Hp} {v : V} {S : List Addr}
theorem GV.mono (h : GV N H v) (k : ∀ b o, N b → H b = some o → H' b = some o) : GV N H' v := by
  cases h with
  | str s h => exact .str s h
  | non => exact .non
  | int i h => exact .int i h
  | bl b => exact .bl b
  | lst n h r s => exact .lst n (k _ _ n h) (DqL.mono k (fun _ a => a) _ _ r) s
  | tup n h r s => exact .tup n (k _ _ n h) (DqL.mono k (fun _ a => a) _ _ r) s
  | dct n h => exact .dct n (k _ _ n h)
theorem GV.imp {M : Addr → Prop} (h : GV N H v) (m : ∀ b, N b → M b) : GV M H v := by
  cases h with
  | str s h => exact .str s h
  | non => exact .non
  | int i h => exact .int i h
  | bl b => exact .bl b
  | lst n h r s => exact .lst (m _ n) h (r.imp m) s
  | tup n h r s => exact .tup (m _ n) h (r.imp m) s
  | dct n h => exact .dct (m _ n) h
theorem GV.kp (h : GV N H v) (k : Kp S H H') (n : ∀ b, N b → b ∉ S) : GV N H' v := h.mono fun b o a e => k b o e (n b a)
theorem GV.new {p : Addr} {o : HO} (h : GV N H v) (np : H p = none) : GV N (upd H p o) v := h.mono fun b u _ e => by rw [upd_ne (ne_of_none e np)]; exact e
theorem GV.mut {p : Addr} {o : HO} (h : GV N H v) (np : ¬ N p) : GV N (upd H p o) v := h.mono fun b u e f => by rw [upd_ne (fun z => np (by rw [← z]; exact e))]; exact f
theorem GV.isV (K : PySem.W.Frag) (h : GV N H v) : ∃ o, IsV K H v o := by
  cases h with
  | str s h => exact ⟨_, .str s (by have := h.1; omega) ((strOk_iff s).mpr h.2)⟩
  | non => exact ⟨_, .oth .non (by decide)⟩
  | int i h => exact ⟨_, .oth (.int i) (by decide)⟩
  | bl b => exact ⟨_, .oth (.bl b) (by decide)⟩
  | lst n h r s => exact ⟨_, .oth (.lst (SqL.of h)) (by decide)⟩
  | tup n h r s => exact ⟨_, .oth (.tup h) (by decide)⟩
  | dct n h => exact ⟨_, .oth (.dct h) (by decide)⟩
theorem GV.show' (h : GV N H v) : ∃ d, DqT N H v d ∧ Sm d := by
  cases h with
  | str s h => exact ⟨_, .of (.str s), sm_str h⟩
  | non => exact ⟨_, .of .non, ⟨rfl, by decide, by decide⟩⟩
  | int i h => exact ⟨_, .of (.int i), ⟨by simpa [fine] using h, by simp [sz], by simp [PyData.depth]⟩⟩
  | bl b => exact ⟨_, .of (.bl b), ⟨by simp [fine], by simp [sz], by simp [PyData.depth]⟩⟩
  | lst n h r s => exact ⟨_, .of (.lst n h r), s⟩
  | tup n h r s => exact ⟨_, .of (.tup n h r), s⟩
  | dct n h => exact ⟨_, .d0 n h, ⟨rfl, by decide, by decide⟩⟩
end
theorem okS_w {s : Str} (h : okW s) : okS s := ⟨by have := h.2.1; omega, fun c hc => by have := h.2.2 c hc; omega⟩
theorem okS_cut {s : Str} {lo hi : Option Int} {n : Nat} (h : s.length ≤ n ∧ ∀ c ∈ tl s, c < 1114112) : (cutS s lo hi).length ≤ n ∧ ∀ c ∈ tl (cutS s lo hi), c < 1114112 :=
  ⟨Nat.le_trans (cutS_length s lo hi) h.1, fun c hc => h.2 c (cut_mem hc)⟩
theorem okS_app {s t : Str} {n m : Nat} (h : s.length ≤ n ∧ ∀ c ∈ tl s, c < 1114112) (g : t.length ≤ m ∧ ∀ c ∈ tl t, c < 1114112) : (s ++ t).length ≤ n + m ∧ ∀ c ∈ tl (s ++ t), c < 1114112 := by
  refine ⟨by rw [len_app]; omega, fun c hc => ?_⟩
  rcases mem_app.mp hc with e | e
  · exact h.2 c e
  · exact g.2 c e
theorem okS_rep {s : Str} {k n : Nat} (h : s.length ≤ n ∧ ∀ c ∈ tl s, c < 1114112) : (strRep s k).length ≤ n * k ∧ ∀ c ∈ tl (strRep s k), c < 1114112 := by
  refine ⟨by rw [strRep_len]; exact Nat.mul_le_mul_right _ h.1, fun c hc => ?_⟩
  rw [tl_rep, List.mem_flatten] at hc
  obtain ⟨l, hl, hc⟩ := hc
  rw [List.eq_of_mem_replicate hl] at hc
  exact h.2 c hc
theorem okS_up {s : Str} {n : Nat} (h : s.length ≤ n) (g : ∀ c ∈ tl s, c < 128) : (Txt.upper s).length ≤ n ∧ ∀ c ∈ tl (Txt.upper s), c < 1114112 := by
  have up : ∀ c < 128, PyProof.Rows.up1 c < 128 := by decide +kernel
  rw [PyProof.Rows.upper_ascii g]
  refine ⟨?_, fun c hc => ?_⟩
  · show (s.cps.map PyProof.Rows.up1).size ≤ n
    rw [Array.size_map]
    exact h
  · have hc' : c ∈ (s.cps.map PyProof.Rows.up1).toList := hc
    rw [Array.toList_map, List.mem_map] at hc'
    obtain ⟨d, hd, rfl⟩ := hc'
    have := up d (g d hd)
    omega
theorem sz1 {n : Nat} (h : n ≤ 4000) : n ≤ sizeLine := by
  rw [sizeLine_eq]
  omega
def sp__law_bad_word (K : PySem.W.Frag) : Sp := fun vs H Q _ => ∃ (a b : Addr) (n : Nat) (ws : List Str) (m : Nat), vs = [.ref a, .ref b] ∧ Src H a n ∧ n < 2 ^ 80 ∧ H b = some (.lst (ws.map V.str)) ∧ b ≠ a ∧
  Bk ws m ∧ m ≤ 120 ∧ ∀ H' v, Kp [a] H H' → Src H' a (n + 10) → GV (fun x => x ≠ a ∧ H x = none) H' v → Q v H'
theorem ok__law_bad_word (n : Nm mg) (c__law_draw : GC P w K mg base 1 "_law_draw" (sp__law_draw K)) {f : Addr} {fd : FuncData} (F : Fun K "_law_bad_word" "_law_bad_word" s__law_bad_word f fd) :
    GFn P w K mg base CX0 2 f fd ["source", "words"] (sp__law_bad_word K) := by
  have n_len := n.len_
  refine GFn.mk' F sc__law_bad_word (fun vs H Q E h => ?_) (fun cdv A outer s H vs Q E gd hr h => ?_)
  · obtain ⟨a, b, n, ws, m, rfl, _⟩ := h
    rfl
  obtain ⟨a, b, n', ws, m, rfl, hS, hn, hb, hba, B, hm, q⟩ := h
  refine ⟨_, (pss_cons (ps_set (i := 2) sc__law_bad_word.nd rfl (.inl rfl) (pe_ix (kix_seq (K := K) rfl) (pe_op (kou_add (K := K) rfl) (pv 1) (pe_lst (pa_cons pe_str pa_nil))) (pe_gc c__law_draw gd hr (by decide) (by rfl) (pa_cons (pv 0) (pa_cons (pe_op (kou_add (K := K) rfl) (pe_callB (kcu_len (K := K) rfl) (by rfl) n_len (by decide +kernel) (pa_cons (pv 1) pa_nil)) pe_int) pa_nil))) (fun _ _ => rfl)))
      (pss_cons (ps_par (i := 3) (j := 4) rfl sc__law_bad_word.nd rfl rfl (by decide) rfl rfl (pa_cons (pe_gc c__law_draw gd hr (by decide) (by rfl) (pa_cons (pv 0) (pa_cons (pe_op (kou_add (K := K) rfl) (pe_callB (kcu_len (K := K) rfl) (by rfl) n_len (by decide +kernel) (pa_cons (pv 2) pa_nil)) pe_int) pa_nil))) (pa_cons (pe_ix (kix_seq (K := K) rfl) pe_str (pe_gc c__law_draw gd hr (by decide) (by rfl) (pa_cons (pv 0) (pa_cons pe_int pa_nil))) (fun _ _ => rfl)) pa_nil)) (by rfl))
      (pss_cons (ps_set (i := 5) sc__law_bad_word.nd rfl (.inl rfl) (pe_lst (pa_cons (pe_op (kou_add (K := K) rfl) (pe_op (kou_add (K := K) rfl) (pe_slice (ksl_u (K := K) rfl) (pv 2) po_none (po_some (pv 3))) (pv 4)) (pe_slice (ksl_u (K := K) rfl) (pv 2) (po_some (pv 3)) po_none)) (pa_cons (pe_op (kou_add (K := K) rfl) (pe_op (kou_add (K := K) rfl) (pe_slice (ksl_u (K := K) rfl) (pv 2) po_none (po_some (pv 3))) (pv 4)) (pe_slice (ksl_u (K := K) rfl) (pv 2) (po_some (pe_op (kou_add (K := K) rfl) (pv 3) pe_int)) po_none)) (pa_cons (pe_op (kou_add (K := K) rfl) (pv 2) (pe_op ou_mul pe_str (pe_op ou_sub pe_int (pe_callB (kcu_len (K := K) rfl) (by rfl) n_len (by decide +kernel) (pa_cons (pv 2) pa_nil))))) (pa_cons pe_str pa_nil))))))
      (pss_cons (ps_set (i := 5) sc__law_bad_word.nd rfl (.inl rfl) (pe_op (kou_add (K := K) rfl) (pv 5) (pe_lst (pa_cons pe_non (pa_cons pe_int (pa_cons pe_bl (pa_cons (pe_lst (pa_cons (pv 2) pa_nil)) (pa_cons (pe_tup (pa_cons (pv 2) pa_nil)) (pa_cons pe_dnewK (pa_cons (pe_upper (pv 2)) (pa_cons (pe_op (kou_add (K := K) rfl) (pv 2) pe_str) (pa_cons (pe_op (kou_add (K := K) rfl) pe_str (pv 2)) (pa_cons (pe_op ou_mul pe_str pe_int) (pa_cons (pe_op (kou_add (K := K) rfl) (pv 2) pe_str) pa_nil))))))))))))))
      (pss_one (ps_ret (pe_ix (kix_seq (K := K) rfl) (pv 5) (pe_gc c__law_draw gd hr (by decide) (by rfl) (pa_cons (pv 0) (pa_cons pe_int pa_nil))) (fun _ _ => rfl)))))))), ?_⟩
  have hl := B.len
  walk_at "go"
  intro p1 np1
  have hb1 : (upd H p1 (.lst [.str "abc"])) b = some (.lst (ws.map V.str)) := (upd_ne (ne_of_none hb np1)).trans hb
  refine u_addL (SqL.of hb1) (SqL.of upd_same) (by rw [sizeLine_eq, List.length_map]; simp only [List.length_cons, List.length_nil]; omega) fun p2 np2 => ?_
  have h2 : (upd (upd H p1 (.lst [.str "abc"])) p2 (.lst (ws.map V.str ++ [.str "abc"]))) p2 = some (.lst (ws.map V.str ++ [.str "abc"])) := upd_same
  have hb2 := (upd_ne (o := .lst (ws.map V.str ++ [.str "abc"])) (ne_of_none hb1 np2)).trans hb1
  have S2 := (hS.new (o := .lst [.str "abc"]) np1).new (o := .lst (ws.map V.str ++ [.str "abc"])) np2
  have K2 : Kp [a] H _ := (Kp.refl.new (o := .lst [.str "abc"]) np1).new (o := .lst (ws.map V.str ++ [.str "abc"])) np2
  have na2 : p2 ≠ a := (hS.new (o := .lst [.str "abc"]) np1).ne np2
  generalize upd (upd H p1 (.lst [.str "abc"])) p2 (.lst (ws.map V.str ++ [.str "abc"])) = H2 at *
  clear hb1 np2 np1
  walk_at "go"
  refine u_lenL (SqL.of hb2) ?_
  walk_at "go"
  refine ⟨a, _, _, rfl, S2, by omega, by omega, log_small (by rw [List.length_map]; omega), fun H3 d1 k3 S3 d10 d11 => ?_⟩
  walk_at "go"
  obtain ⟨v, ev, mv⟩ := atI_lt (xs := ws.map V.str ++ [V.str "abc"]) d10 (by rw [List.length_append]; simpa using d11)
  refine u_ixL (SqL.of (k3.get1 h2 na2)) ev ?_
  have hv : ∃ s, v = .str s ∧ okW s := by
    rcases List.mem_append.mp mv with e | e
    · obtain ⟨s, hs, rfl⟩ := List.mem_map.mp e
      exact ⟨s, rfl, B.ok s hs⟩
    · rw [List.mem_singleton.mp e]
      exact ⟨_, rfl, by unfold okW; decide +kernel⟩
  obtain ⟨near, rfl, okn⟩ := hv
  have nl := okn.2.1
  have on : near.length ≤ 12 ∧ ∀ c ∈ tl near, c < 1114112 := ⟨nl, fun c hc => by have := okn.2.2 c hc; omega⟩
  have K3 := K2.call1 k3 (by simp)
  have hb3 := k3.get1 hb2 hba
  clear hb2 k3 K2 S2 ev mv h2
  walk_at "go"
  refine ⟨a, _, _, rfl, S3, by omega, by omega, log_small (by omega), fun H4 at_ k4 S4 a0 a1 => ?_⟩
  walk_at "go"
  refine ⟨a, _, 12, rfl, S4, by omega, by decide, by decide, fun H5 d2 k5 S5 d20 d21 => ?_⟩
  walk_at "go"
  refine u_ixSC (n := 12) (m := 1114112) d20 d21 (by decide +kernel) (by decide) (by decide +kernel) fun c mc lc => ?_
  have os : (⟨#[c]⟩ : Str).length ≤ 1 ∧ ∀ x ∈ tl (⟨#[c]⟩ : Str), x < 1114112 := ⟨Nat.le_refl _, fun x hx => by rw [mem_one.mp hx]; exact lc⟩
  have K5 := (K3.call1 k4 (by simp)).call1 k5 (by simp)
  have hb5 := k5.get1 (k4.get1 hb3 hba) hba
  clear hb3 k4 k5 K3 S3 S4 mc
  walk_at "go"
  have o1 := okS_cut (lo := none) (hi := some at_) on
  have o2 := okS_app o1 os
  have o3 := okS_cut (lo := some at_) (hi := none) on
  have o4 := okS_app o2 o3
  have o5 := okS_cut (lo := some (at_ + 1)) (hi := none) on
  have o6 := okS_app o2 o5
  have oa : ("a" : Str).length ≤ 1 ∧ ∀ c ∈ tl ("a" : Str), c < 1114112 := by decide +kernel
  have o7 := okS_rep (k := (13 - (near.length : Int)).toNat) oa
  have o8 := okS_app on o7
  have z0 : near.length ≤ sizeLine := sz1 (by omega)
  have z1 : (cutS near none (some at_)).length + (⟨#[c]⟩ : Str).length ≤ sizeLine := sz1 (by have := o1.1; have := os.1; omega)
  have z2 : (cutS near none (some at_) ++ ⟨#[c]⟩).length + (cutS near (some at_) none).length ≤ sizeLine := sz1 (by have := o2.1; have := o3.1; omega)
  have z3 : (cutS near none (some at_) ++ ⟨#[c]⟩).length + (cutS near (some (at_ + 1)) none).length ≤ sizeLine := sz1 (by have := o2.1; have := o5.1; omega)
  have z4 : ("a" : Str).length * (13 - (near.length : Int)).toNat ≤ sizeLine := sz1 (by rw [show ("a" : Str).length = 1 from rfl]; omega)
  have z5 : near.length + (strRep "a" (13 - (near.length : Int)).toNat).length ≤ sizeLine := sz1 (by rw [strRep_len, show ("a" : Str).length = 1 from rfl]; omega)
  walk_at "go"
  intro p3 n_p3
  generalize g_H6 : upd _ p3 _ = H6
  obtain ⟨k_H6, e_p3⟩ := al_of n_p3 g_H6
  clear g_H6
  have S6 := S5.kp k_H6
  have K6 := K5.call0 k_H6
  have n3 := S5.ne n_p3
  walk_at "go"
  intro p4 n_p4
  generalize g_H7 : upd _ p4 _ = H7
  obtain ⟨k_H7, e_p4⟩ := al_of n_p4 g_H7
  clear g_H7
  have S7 := S6.kp k_H7
  have K7 := K6.call0 k_H7
  have n4 := S6.ne n_p4
  have m4 := S6.free K6 n_p4
  walk_at "go"
  intro p5 n_p5
  generalize g_H8 : upd _ p5 _ = H8
  obtain ⟨k_H8, e_p5⟩ := al_of n_p5 g_H8
  clear g_H8
  have S8 := S7.kp k_H8
  have K8 := K7.call0 k_H8
  have n5 := S7.ne n_p5
  have m5 := S7.free K7 n_p5
  walk_at "go"
  intro p6 n_p6
  generalize g_H9 : upd _ p6 _ = H9
  obtain ⟨k_H9, e_p6⟩ := al_of n_p6 g_H9
  clear g_H9
  have S9 := S8.kp k_H9
  have K9 := K8.call0 k_H9
  have n6 := S8.ne n_p6
  have m6 := S8.free K8 n_p6
  have zu : near.length ≤ 5592405 := by omega
  have z6 : near.length + (" " : Str).length ≤ sizeLine := sz1 (by rw [show (" " : Str).length = 1 from rfl]; omega)
  have z7 : (" " : Str).length + near.length ≤ sizeLine := sz1 (by rw [show (" " : Str).length = 1 from rfl]; omega)
  have z8 : near.length + ("\n" : Str).length ≤ sizeLine := sz1 (by rw [show ("\n" : Str).length = 1 from rfl]; omega)
  walk_at "go"
  intro p7 n_p7
  generalize g_H10 : upd _ p7 _ = H10
  obtain ⟨k_H10, e_p7⟩ := al_of n_p7 g_H10
  clear g_H10
  have S10 := S9.kp k_H10
  have K10 := K9.call0 k_H10
  refine u_addL (SqL.of (k_H10.get0 (k_H9.get0 (k_H8.get0 (k_H7.get0 e_p3))))) (SqL.of e_p7) (by walk_at "sz") ?_
  intro p8 n_p8
  generalize g_H11 : upd _ p8 _ = H11
  obtain ⟨k_H11, e_p8⟩ := al_of n_p8 g_H11
  clear g_H11
  have S11 := S10.kp k_H11
  have K11 := K10.call0 k_H11
  have n8 := S10.ne n_p8
  walk_at "go"
  refine ⟨a, _, 15, rfl, S11, by omega, by decide, by decide, fun H12 d3 k12 S12 d30 d31 => ?_⟩
  have f4 := k12.get1 (k_H11.get0 (k_H10.get0 (k_H9.get0 (k_H8.get0 e_p4)))) n4
  have f5 := k12.get1 (k_H11.get0 (k_H10.get0 (k_H9.get0 e_p5))) n5
  have f6 := k12.get1 (k_H11.get0 (k_H10.get0 e_p6)) n6
  have f8 := k12.get1 e_p8 n8
  obtain ⟨v, ev, mv⟩ := atI_lt d30 (show d3 < ((([_, _, _, _] : List V) ++ [_, _, _, _, _, _, _, _, _, _, _]).length : Int) from d31)
  refine u_ixL (SqL.of f8) ev ?_
  walk_at "go"
  refine q _ _ (K11.call1 k12 (by simp)) (S12.mono (by omega)) ?_
  have ost : ∀ {s : Str} {m : Nat}, (s.length ≤ m ∧ ∀ c ∈ tl s, c < 1114112) → m ≤ 2000 → GV (fun x => x ≠ a ∧ H x = none) H12 (.str s) := fun h l => .str _ ⟨Nat.le_trans h.1 l, h.2⟩
  have oe : ("" : Str).length ≤ 1 ∧ ∀ c ∈ tl ("" : Str), c < 1114112 := by decide +kernel
  have ob : (" " : Str).length ≤ 1 ∧ ∀ c ∈ tl (" " : Str), c < 1114112 := by decide +kernel
  have oq : ("\n" : Str).length ≤ 1 ∧ ∀ c ∈ tl ("\n" : Str), c < 1114112 := by decide +kernel
  have smn : Sm (.str near) := sm_str ⟨by omega, on.2⟩
  have sml : ∀ k : List PyData → PyData, (k = PyData.list ∨ k = PyData.tuple) → Sm (k [.str near]) := by
    rintro k (rfl | rfl)
    · refine ⟨?_, ?_, ?_⟩
      · simp only [fine, fineAll, Bool.and_true]
        exact smn.fine
      · simp only [sz, szAll]
        omega
      · simp [PyData.depth, PyData.depthAll]
    · refine ⟨?_, ?_, ?_⟩
      · simp only [fine, fineAll, Bool.and_true]
        exact smn.fine
      · simp only [sz, szAll]
        omega
      · simp [PyData.depth, PyData.depthAll]
  simp only [List.cons_append, List.nil_append, List.mem_cons, List.not_mem_nil, or_false] at mv
  rcases mv with rfl | rfl | rfl | rfl | rfl | rfl | rfl | rfl | rfl | rfl | rfl | rfl | rfl | rfl | rfl
  · exact ost o4 (by decide)
  · exact ost o6 (by decide)
  · exact ost o8 (by omega)
  · exact ost oe (by decide)
  · exact .non
  · exact .int 0 (by decide)
  · exact .bl true
  · exact .lst ⟨n4, m4⟩ f4 (.cons (.str near) .nil) (sml _ (.inl rfl))
  · exact .tup ⟨n5, m5⟩ f5 (.cons (.str near) .nil) (sml _ (.inr rfl))
  · exact .dct ⟨n6, m6⟩ f6
  · exact ost (okS_up nl fun c hc => by have := okn.2.2 c hc; omega) (by decide)
  · exact ost (okS_app on ob) (by decide)
  · exact ost (okS_app ob on) (by decide)
  · exact ost (okS_rep (k := Int.toNat 13) oa) (by decide)
  · exact ost (okS_app on oq) (by decide)
end
end My
open PySem PySem.Spec PyProof.Rows L2 Gd

namespace My
section
variable {P : Program} {w : World} {K : PySem.W.Frag} {mg : Str → Option Value} {base : Heap}
theorem IsV.kp0 {H H' : Hp} {v : V} {o : Option Str} (h : IsV K H v o) (k : Kp [] H H') : IsV K H' v o := by
  cases h with
  | str s h ok => exact .str s h ok
  | oth h n => exact .oth (h.kp0 k) n
def sp__law_holds (K : PySem.W.Frag) : Sp := fun vs H Q _ => ∃ (a : Addr) (n m : Nat), vs = [.ref a, .int m] ∧ Src H a n ∧ n < 2 ^ 70 ∧ m ≤ 120 ∧
  ∀ H', Kp [a] H H' → Q (.bl true) H'
theorem ok__law_holds (n : Nm mg) (c__law_bad_word : GC P w K mg base 2 "_law_bad_word" (sp__law_bad_word K)) (c__law_is_word : GC P w K mg base 1 "_law_is_word" (sp__law_is_word K)) (c__law_words : GC P w K mg base 3 "_law_words" (sp__law_words K)) (c_is_word : GC P w K mg base 2 "is_word" (sp_is_word K)) {f : Addr} {fd : FuncData} (F : Fun K "_law_holds" "_law_holds" s__law_holds f fd) :
    GFn P w K mg base CX0 4 f fd ["source", "most"] (sp__law_holds K) := by
  have n_bool := n.bool_
  have n_isinstance := n.isinstance_
  have n_range := n.range_
  have n_repr := n.repr_
  refine GFn.mk' F sc__law_holds (fun vs H Q E h => ?_) (fun cdv A outer s H vs Q E gd hr h => ?_)
  · obtain ⟨a, n, m, rfl, _⟩ := h
    rfl
  obtain ⟨a, n', m, rfl, hS, hn, hm, q⟩ := h
  refine ⟨_, (pss_cons (ps_set (i := 2) sc__law_holds.nd rfl (.inr rfl) (pe_gc c__law_words gd hr (by decide) (by rfl) (pa_cons (pv 0) (pa_cons (pv 1) pa_nil))))
      (pss_cons (ps_set (i := 4) sc__law_holds.nd rfl (.inl rfl) (pe_op (kou_add (K := K) rfl) (pe_lc (own := [("step", 3)]) rfl sc__law_holds.nd (pi_range1 (by rfl) n_range (pa_cons pe_int pa_nil)) (blkOk_by (own := [("step", 3)]) (N := N__law_holds) (sc := defScope s__law_holds) (by decide +kernel)) (fun _ _ _ _ _ => (pg_name (i := 3) sc__law_holds.nd rfl (.inl rfl))) (fun _ _ _ _ _ => pts_nil) (fun _ _ _ _ _ => (pe_gc c__law_bad_word gd hr (by decide) (by rfl) (pa_cons (pv 0) (pa_cons (pv 2) pa_nil))))) (pe_slice (ksl_u (K := K) rfl) (pv 2) po_none (po_some pe_int))))
      (pss_cons (ps_set (i := 4) sc__law_holds.nd rfl (.inl rfl) (pe_op (kou_add (K := K) rfl) (pe_op (kou_add (K := K) rfl) (pv 4) (pe_lc (own := [("word", 9)]) rfl sc__law_holds.nd (kpi_u (K := K) rfl (pe_slice (ksl_u (K := K) rfl) (pv 2) po_none (po_some pe_int))) (blkOk_by (own := [("word", 9)]) (N := N__law_holds) (sc := defScope s__law_holds) (by decide +kernel)) (fun _ _ _ _ _ => (pg_name (i := 9) sc__law_holds.nd rfl (.inl rfl))) (fun _ _ _ _ _ => pts_nil) (fun _ _ _ _ _ => (pe_op (kou_add (K := K) rfl) (pv 9) pe_str)))) (pe_lc (own := [("word", 9)]) rfl sc__law_holds.nd (kpi_u (K := K) rfl (pe_slice (ksl_u (K := K) rfl) (pv 2) po_none (po_some pe_int))) (blkOk_by (own := [("word", 9)]) (N := N__law_holds) (sc := defScope s__law_holds) (by decide +kernel)) (fun _ _ _ _ _ => (pg_name (i := 9) sc__law_holds.nd rfl (.inl rfl))) (fun _ _ _ _ _ => pts_nil) (fun _ _ _ _ _ => (pe_slice (ksl_u (K := K) rfl) (pv 9) po_none (po_some (pe_un un_neg pe_int)))))))
      (pss_cons (ps_for PassesOwn.never rfl (kpi_u (K := K) rfl (pe_op (kou_add (K := K) rfl) (pv 4) (pe_lst (pa_cons pe_str (pa_cons pe_str (pa_cons (pe_op ou_mul pe_str pe_int) (pa_cons (pe_op (kou_add (K := K) rfl) (pe_op ou_mul pe_str pe_int) pe_str) (pa_cons (pe_lst pa_nil) (pa_cons (pv 2) (pa_cons (pe_lst (pa_cons pe_str pa_nil)) (pa_cons (pe_tup (pa_cons pe_str pa_nil)) (pa_cons pe_int (pa_cons pe_bl (pa_cons pe_str pa_nil)))))))))))))) (pg_name (i := 5) sc__law_holds.nd rfl (.inl rfl))
      (pss_cons (ps_set (i := 6) sc__law_holds.nd rfl (.inl rfl) (pe_callB (cu_repr gd (hrep hr)) (by rfl) n_repr (by decide +kernel) (pa_cons (pv 5) pa_nil)))
        (pss_cons (ps_set (i := 7) sc__law_holds.nd rfl (.inl rfl) (pe_gc c_is_word gd hr (by decide) (by rfl) (pa_cons (pv 5) pa_nil)))
        (pss_one (ps_if (PW.pt (pw_or (pt_not (kpt_u (K := K) rfl (pe_callB (kcu_isi (K := K) rfl) (by rfl) n_isinstance (by decide +kernel) (pa_cons (pv 7) (pa_cons (pe_bltn (v := .ty "bool") (by rfl) n_bool (by decide +kernel) rfl) pa_nil))) (by intro _; rfl))) (pw_or (pt_cmpR (kou_ne (K := K) rfl hr.units) (pv 7) (pe_gc c__law_is_word gd hr (by decide) (by rfl) (pa_cons (pv 5) pa_nil)) (nomark _)) (pw_or1 (pt_cmpR (kou_ne (K := K) rfl hr.units) (pe_callB (cu_repr gd (hrep hr)) (by rfl) n_repr (by decide +kernel) (pa_cons (pv 5) pa_nil)) (pv 6) (nomark _))))))
      (pss_one (ps_ret pe_bl))
      pss_nil)))))
      (pss_cons (ps_set (i := 8) sc__law_holds.nd rfl (.inl rfl) pe_str)
      (pss_cons (ps_for PassesOwn.never rfl (pi_range1 (by rfl) n_range (pa_cons pe_int pa_nil)) (pg_name (i := 3) sc__law_holds.nd rfl (.inl rfl))
      (pss_one (ps_set (i := 8) sc__law_holds.nd rfl (.inl rfl) (pe_lst (pa_cons (pv 8) pa_nil)))))
      (pss_one (ps_ret (pe_cmpR op_isBl (pe_gc c_is_word gd hr (by decide) (by rfl) (pa_cons (pv 8) pa_nil)) pe_bl (nomark _)))))))))), ?_⟩
  walk_at "go"
  refine ⟨a, n', m, rfl, hS, by omega, hm, fun H1 p ws k1 np pa S1 hp B => ?_⟩
  have hl := B.len
  walk_at "go"
  refine co_1 (by decide) (by decide) fun C nC => ⟨fun i H' => Kp [a] H1 H' ∧ Src H' a (n' + 2000 + 10 * i) ∧ ∃ acc, H' C = some (.lst acc) ∧ acc.length = i ∧ ∀ v ∈ acc, GV (fun x => x ≠ a ∧ x ≠ C) H' v,
    ⟨Kp.refl.new nC, S1.new nC, [], upd_same, rfl, by simp⟩, ?_, ?_⟩
  · rintro i H2 hi ⟨k2, S2, acc, hc, hal, hg⟩
    have ca := S1.ne nC
    walk_at "go"
    refine ⟨rfl, ?_⟩
    walk_at "go"
    refine ⟨a, p, _, ws, m, rfl, S2, by omega, k2.get1 hp pa, pa, B, hm, fun H3 v k3 S3 gv => ?_⟩
    refine ⟨acc, k3.get1 hc ca, by rw [sizeLine_eq]; omega, (k2.call1 k3 (by simp)).mutN nC, (S3.mut ca).mono (by omega), acc ++ [v], upd_same, by simp [hal], fun x hx => ?_⟩
    rcases List.mem_append.mp hx with e | e
    · exact ((hg x e).kp k3 fun b hb => by simp [hb.1]).mut fun z => z.2 rfl
    · rw [List.mem_singleton.mp e]
      exact (gv.imp fun b hb => ⟨hb.1, fun z => by rw [z, hc] at hb; cases hb.2⟩).mut fun z => z.2 rfl
  · rintro H2 ⟨k2, S2, acc, hc, hal, hg⟩
    have hp2 := k2.get1 hp pa
    have ca := S1.ne nC
    have K2 := k1.call1 k2 (by simp)
    have hal8 : acc.length = 8 := hal
    clear k2 hp S1
    walk_at "go"
    refine u_slL (SqL.of hp2) ?_
    intro p2 n_p2
    generalize g_H3 : upd _ p2 _ = H3
    obtain ⟨k_H3, e_p2⟩ := al_of n_p2 g_H3
    clear g_H3
    rw [cutV_to _ (by decide), ← List.map_take] at e_p2
    refine u_addL (SqL.of (k_H3.get0 hc)) (SqL.of e_p2) (by rw [sizeLine_eq]; simp only [List.length_map, List.length_take]; omega) ?_
    intro p3 n_p3
    generalize g_H4 : upd _ p3 _ = H4
    obtain ⟨k_H4, e_p3⟩ := al_of n_p3 g_H4
    clear g_H4
    walk_at "go"
    have hp4 := k_H4.get0 (k_H3.get0 hp2)
    refine u_slL (SqL.of hp4) ?_
    intro p4 n_p4
    generalize g_H5 : upd _ p4 _ = H5
    obtain ⟨k_H5, e_p4⟩ := al_of n_p4 g_H5
    clear g_H5
    rw [cutV_to _ (by decide), ← List.map_take] at e_p4
    walk_at "go"
    have okt : ∀ k, ∀ y ∈ ws.take k, okW y := fun k y hy => B.ok y (List.mem_of_mem_take hy)
    refine co_lF V.str (fun _ => true) (fun y => V.str (y ++ "z")) (SqL.of e_p4) (sz100k (by rw [List.length_take]; omega)) (fun y hy C' acc' P' H' k h hz r => ?_) (fun C2 H6 nC2 k6 h6 => ?_)
    · walk_at "go"
      refine ⟨rfl, ?_⟩
      have z1 : y.length + ("z" : Str).length ≤ sizeLine := sz1 (by have := (okt _ y hy).2.1; rw [show ("z" : Str).length = 1 from rfl]; omega)
      walk_at "go"
      exact ⟨acc', h, hz, r _ Kp.refl⟩
    · rw [List.filter_eq_self.mpr (by simp)] at h6
      refine u_addL (SqL.of (k6.get0 (k_H5.get0 e_p3))) (SqL.of h6) (by rw [sizeLine_eq]; simp only [List.length_map, List.length_take, List.length_append]; omega) ?_
      intro p5 n_p5
      generalize g_H7 : upd _ p5 _ = H7
      obtain ⟨k_H7, e_p5⟩ := al_of n_p5 g_H7
      clear g_H7
      walk_at "go"
      have hp7 := k_H7.get0 (k6.get0 (k_H5.get0 hp4))
      refine u_slL (SqL.of hp7) ?_
      intro p6 n_p6
      generalize g_H8 : upd _ p6 _ = H8
      obtain ⟨k_H8, e_p6⟩ := al_of n_p6 g_H8
      clear g_H8
      rw [cutV_to _ (by decide), ← List.map_take] at e_p6
      walk_at "go"
      refine co_lF V.str (fun _ => true) (fun y => V.str (cutS y none (some (-1)))) (SqL.of e_p6) (sz100k (by rw [List.length_take]; omega)) (fun y hy C' acc' P' H' k h hz r => ?_) (fun C3 H9 nC3 k9 h9 => ?_)
      · have z1 : y.length ≤ sizeLine := sz1 (by have := (okt _ y hy).2.1; omega)
        walk_at "go"
        refine ⟨rfl, ?_⟩
        walk_at "go"
        exact ⟨acc', h, hz, r _ Kp.refl⟩
      · rw [List.filter_eq_self.mpr (by simp)] at h9
        refine u_addL (SqL.of (k9.get0 (k_H8.get0 e_p5))) (SqL.of h9) (by rw [sizeLine_eq]; simp only [List.length_map, List.length_take, List.length_append]; omega) ?_
        intro p7 n_p7
        generalize g_H10 : upd _ p7 _ = H10
        obtain ⟨k_H10, e_p7⟩ := al_of n_p7 g_H10
        clear g_H10
        have z2 : (strRep ("ab" : Str) (Int.toNat 6)).length + ("c" : Str).length ≤ sizeLine := by decide
        walk_at "go"
        intro p8 n_p8
        generalize g_H11 : upd _ p8 _ = H11
        obtain ⟨k_H11, e_p8⟩ := al_of n_p8 g_H11
        clear g_H11
        walk_at "go"
        intro p9 n_p9
        generalize g_H12 : upd _ p9 _ = H12
        obtain ⟨k_H12, e_p9⟩ := al_of n_p9 g_H12
        clear g_H12
        walk_at "go"
        intro p10 n_p10
        generalize g_H13 : upd _ p10 _ = H13
        obtain ⟨k_H13, e_p10⟩ := al_of n_p10 g_H13
        clear g_H13
        walk_at "go"
        intro p11 n_p11
        generalize g_H14 : upd _ p11 _ = H14
        obtain ⟨k_H14, e_p11⟩ := al_of n_p11 g_H14
        clear g_H14
        refine u_addL (SqL.of (k_H14.get0 (k_H13.get0 (k_H12.get0 (k_H11.get0 e_p7))))) (SqL.of e_p11) (by rw [sizeLine_eq]; simp only [List.length_map, List.length_take, List.length_append, List.length_cons, List.length_nil]; omega) ?_
        intro p12 n_p12
        generalize g_H15 : upd _ p12 _ = H15
        obtain ⟨k_H15, e_p12⟩ := al_of n_p12 g_H15
        clear g_H15
        -- the whole way from the drawn words on
        have kk : Kp [] H2 H15 := ((((((((((((Kp.refl.call0 k_H3).call0 k_H4).call0 k_H5).call0 k6).call0 k_H7).call0 k_H8).call0 k9).call0 k_H10).call0 k_H11).call0 k_H12).call0 k_H13).call0 k_H14).call0 k_H15
        have K15 := K2.call0 kk
        have hp15 := kk.get0 hp2
        have f8 := k_H15.get0 (k_H14.get0 (k_H13.get0 (k_H12.get0 e_p8)))
        have f9 := k_H15.get0 (k_H14.get0 (k_H13.get0 e_p9))
        have f10 := k_H15.get0 (k_H14.get0 e_p10)
        have okw : ∀ {s : Str}, okW s → GV (fun _ => True) H15 (.str s) := fun h => .str _ (okS_w h)
        have all : ∀ v ∈ (acc ++ (ws.take 12).map V.str ++ (ws.take 4).map (fun y => V.str (y ++ "z")) ++ (ws.take 4).map (fun y => V.str (cutS y none (some (-1)))) ++
            [V.str "a", V.str "z", V.str (strRep "ab" (Int.toNat 6)), V.str (strRep "ab" (Int.toNat 6) ++ "c"), V.ref p8, V.ref p, V.ref p9, V.ref p10, V.int 7, V.bl false, V.str "a\nb"]), GV (fun _ => True) H15 v := by
          intro v hv
          have os : ∀ {s : Str}, (decide (s.length ≤ 2000) && (tl s).all (fun c => decide (c < 1114112))) = true → GV (fun _ => True) H15 (.str s) := fun h => by
            rw [Bool.and_eq_true, decide_eq_true_eq, List.all_eq_true] at h
            exact .str _ ⟨h.1, fun c hc => of_decide_eq_true (h.2 c hc)⟩
          have sma : ∀ k : List PyData → PyData, (k = PyData.list ∨ k = PyData.tuple) → Sm (k [.str "a"]) := by
            rintro k (rfl | rfl) <;> exact ⟨by decide +kernel, by decide +kernel, by decide +kernel⟩
          simp only [List.mem_append, List.mem_cons, List.not_mem_nil, or_false] at hv
          rcases hv with (((hv | hv) | hv) | hv) | hv
          · exact ((hg v hv).kp kk (by simp)).imp fun _ _ => trivial
          · obtain ⟨y, hy, rfl⟩ := List.mem_map.mp hv
            exact okw (okt _ y hy)
          · obtain ⟨y, hy, rfl⟩ := List.mem_map.mp hv
            have o1 := okS_w (okt _ y hy)
            have o2 := okS_app (t := "z") (m := 1) ⟨(okt _ y hy).2.1, o1.2⟩ (by decide +kernel)
            exact .str _ ⟨by omega, o2.2⟩
          · obtain ⟨y, hy, rfl⟩ := List.mem_map.mp hv
            exact .str _ (okS_cut (okS_w (okt _ y hy)))
          · rcases hv with rfl | rfl | rfl | rfl | rfl | rfl | rfl | rfl | rfl | rfl | rfl
            · exact os (by decide +kernel)
            · exact os (by decide +kernel)
            · exact os (by decide +kernel)
            · exact os (by decide +kernel)
            · exact .lst trivial f8 .nil ⟨by decide +kernel, by decide +kernel, by decide +kernel⟩
            · exact .lst trivial hp15 (dqL_strs ws) (sm_strs (n := 120) (m := 12) (by omega) (fun w hw => ⟨(B.ok w hw).2.1, (okS_w (B.ok w hw)).2⟩) (by decide))
            · exact .lst trivial f9 (.cons (.str _) .nil) (sma _ (.inl rfl))
            · exact .tup trivial f10 (.cons (.str _) .nil) (sma _ (.inr rfl))
            · exact .int 7 (by decide)
            · exact .bl false
            · exact os (by decide +kernel)
        obtain ⟨vals, e_v, all⟩ : ∃ vals, H15 p12 = some (.lst vals) ∧ ∀ v ∈ vals, GV (fun _ => True) H15 v := ⟨_, e_p12, all⟩
        clear kk f8 f9 f10 okw hp15
        refine fo_l (SqL.of e_v) (fun i σ H' => ∃ y3 y5 y6 y7 y8 y9, σ = [some (.ref a), some (.int m), some (.ref p), y3, some (.ref p7), y5, y6, y7, y8, y9] ∧ Kp [] H15 H')
          ⟨_, _, _, _, _, _, rfl, Kp.refl⟩ (fun i σ H' h => by obtain ⟨_, _, _, _, _, _, _, k⟩ := h; exact SqL.of (k.get0 e_v)) ?_ ?_
        · rintro i v σ H16 ev ⟨y3, y5, y6, y7, y8, y9, rfl, k16⟩
          have gv := (all v (List.mem_of_getElem? ev)).kp k16 (by simp)
          obtain ⟨d, hd, sd⟩ := gv.show'
          obtain ⟨o, io⟩ := gv.isV K
          walk_at "go"
          refine u_repr hd sd ?_
          walk_at "go"
          refine ⟨v, o, rfl, io, fun H17 k17 => ?_⟩
          walk_at "go"
          refine ⟨v, o, rfl, io.kp0 k17, fun H18 k18 => ?_⟩
          walk_at "go"
          rw [show (!(exW o == exW o)) = false by simp]
          walk_at "go"
          refine u_repr ((hd.kp0 k17).kp0 k18) sd ?_
          walk_at "go"
          rw [show (!decide (d.shown = d.shown)) = false by simp]
          walk_at "go"
          exact ⟨_, _, _, _, _, _, rfl, (k16.call0 k17).call0 k18⟩
        · rintro σ H16 ⟨y3, y5, y6, y7, y8, y9, rfl, k16⟩
          walk_at "go"
          refine fo_1 (by decide) (by decide) (fun i σ H' => ∃ y3 v, σ = [some (.ref a), some (.int m), some (.ref p), y3, some (.ref p7), y5, y6, y7, some v, y9] ∧ Kp [] H16 H' ∧ (0 < i → ∃ q xs, v = .ref q ∧ H' q = some (.lst xs)))
            ⟨_, _, rfl, Kp.refl, fun z => absurd z (by decide)⟩ ?_ ?_
          · rintro i σ H17 hi ⟨z3, v, rfl, k17, hv⟩
            walk_at "go"
            intro p13 n_p13
            generalize g_H18 : upd _ p13 _ = H18
            obtain ⟨k_H18, e_p13⟩ := al_of n_p13 g_H18
            clear g_H18
            walk_at "go"
            exact ⟨_, _, rfl, k17.call0 k_H18, fun _ => ⟨_, _, rfl, e_p13⟩⟩
          · rintro σ H17 ⟨z3, v, rfl, k17, hv⟩
            obtain ⟨q2, xs, rfl, hq⟩ := hv (by decide)
            walk_at "go"
            refine ⟨_, none, rfl, .oth (.lst (SqL.of hq)) (by decide), fun H18 k18 => ?_⟩
            walk_at "go"
            exact q _ (((K15.call0 k16).call0 k17).call0 k18)
def sp_law (K : PySem.W.Frag) : Sp := fun vs H Q _ => ∃ (a : Addr) (ns : List Int), vs = [.ref a] ∧ ns.length ≤ 63 ∧ SqL K H a (ns.map V.int) ∧ ∀ H', Q (.bl true) H'
theorem start_law {K : PySem.W.Frag} {H : Hp} {a : Addr} {ns : List Int} {E : XK} (hl : ns.length ≤ 63) (hb : ∀ z ∈ ns, Builtin.Int.intBits z ≤ 1048576) (hS : SqL K H a (ns.map V.int)) :
    sp_law K [.ref a] H (fun v _ => v = .bl true) E := ⟨a, ns, rfl, hl, hS, fun _ => rfl⟩
theorem ok_law (n : Nm mg) (c__law_holds : GC P w K mg base 4 "_law_holds" (sp__law_holds K)) (c__law_source : GC P w K mg base 1 "_law_source" (sp__law_source K)) {f : Addr} {fd : FuncData} (F : Fun K "law" "law" s_law f fd) :
    GFn P w K mg base CX0 5 f fd ["script"] (sp_law K) := by
  have n_enumerate := n.enumerate_
  have n_len := n.len_
  have n_max := n.max_
  have n_min := n.min_
  refine GFn.mk' F sc_law (fun vs H Q E h => ?_) (fun cdv A outer s H vs Q E gd hr h => ?_)
  · obtain ⟨a, ns, rfl, _⟩ := h
    rfl
  obtain ⟨a, ns, rfl, hl, hS, q⟩ := h
  refine ⟨_, (pss_cons (ps_for PassesOwn.never rfl (kpi_enum (K := K) rfl (by rfl) n_enumerate (pa_cons (pe_slice (ksl_u (K := K) rfl) (pe_op (kou_add (K := K) rfl) (pv 0) (pe_lst (pa_cons pe_int pa_nil))) po_none (po_some (pe_callB (call_max2 rfl) (by rfl) n_max (by decide +kernel) (pa_cons pe_int (pa_cons (pe_callB (call_min2 rfl) (by rfl) n_min (by decide +kernel) (pa_cons (pe_callB (kcu_len (K := K) rfl) (by rfl) n_len (by decide +kernel) (pa_cons (pv 0) pa_nil)) (pa_cons pe_int pa_nil))) pa_nil))))) pa_nil)) (kpg_tup (K := K) rfl rfl (pgs_cons (pg_name (i := 1) sc_law.nd rfl (.inl rfl)) (pgs_cons (pg_name (i := 2) sc_law.nd rfl (.inl rfl)) pgs_nil)))
      (pss_one (ps_if (pt_not (kpt_u (K := K) rfl (pe_gc c__law_holds gd hr (by decide) (by rfl) (pa_cons (pe_gc c__law_source gd hr (by decide) (by rfl) (pa_cons (pv 2) (pa_cons (pv 1) pa_nil))) (pa_cons (pe_ifExp (pt_cmpR (kou_eq (K := K) rfl hr.units) (pv 0) (pe_lst pa_nil) (nomark _)) pe_int pe_int) pa_nil))) (by intro _; rfl)))
      (pss_one (ps_ret pe_bl))
      pss_nil)))
      (pss_one (ps_ret pe_bl))), ?_⟩
  walk_at "go"
  intro p1 n_p1
  generalize g_H1 : upd _ p1 _ = H1
  obtain ⟨k_H1, e_p1⟩ := al_of n_p1 g_H1
  clear g_H1
  have hS1 := k_H1.same.seq hS
  refine u_addL hS1 (SqL.of e_p1) (by rw [sizeLine_eq]; simp only [List.length_map, List.length_cons, List.length_nil]; omega) ?_
  intro p2 n_p2
  generalize g_H2 : upd _ p2 _ = H2
  obtain ⟨k_H2, e_p2⟩ := al_of n_p2 g_H2
  clear g_H2
  have hS2 := k_H2.same.seq hS1
  walk_at "go"
  refine u_lenL hS2 ?_
  walk_at "go"
  generalize ht : (if (if (24 : Int) < ((ns.map V.int).length : Int) then (24 : Int) else ((ns.map V.int).length : Int)) > 1 then
        (if (24 : Int) < ((ns.map V.int).length : Int) then (24 : Int) else ((ns.map V.int).length : Int)) else 1) = t
  have ht0 : 1 ≤ t ∧ t ≤ 24 := by
    rw [← ht]
    repeat' split
    all_goals omega
  refine u_slL (SqL.of e_p2) ?_
  intro p3 n_p3
  generalize g_H3 : upd _ p3 _ = H3
  obtain ⟨k_H3, e_p3⟩ := al_of n_p3 g_H3
  clear g_H3
  have hS3 := k_H3.same.seq hS2
  rw [cutV_to _ (by omega), show ns.map V.int ++ [V.int 0] = (ns ++ [0]).map V.int by simp, ← List.map_take] at e_p3
  have hlen : ((ns ++ [0]).take t.toNat).length ≤ 24 := by
    rw [List.length_take]
    omega
  generalize (ns ++ [0]).take t.toNat = cs at *
  walk_at "go"
  refine fo_e (SqL.of e_p3) (fun i σ H' => ∃ y1 y2, σ = [some (.ref a), y1, y2] ∧ Kp [] H3 H') ⟨_, _, rfl, Kp.refl⟩ (fun i σ H' h => by obtain ⟨_, _, _, k⟩ := h; exact SqL.of (k.get0 e_p3)) ?_ ?_
  · rintro i x T σ H4 ex nT ⟨y1, y2, rfl, k4⟩
    rw [List.getElem?_map] at ex
    obtain ⟨c, ec, rfl⟩ := Option.map_eq_some_iff.mp ex
    have hi : i < cs.length := (List.getElem?_eq_some_iff.mp ec).1
    generalize g_H5 : upd H4 T _ = H5
    obtain ⟨k5, e5⟩ := al_of nT g_H5
    clear g_H5
    have hS5 := k5.same.seq (k4.same.seq hS3)
    walk_at "go"
    refine ⟨c, i, rfl, by omega, fun H6 p4 k6 n6 S6 => ?_⟩
    have hS6 := k6.same.seq hS5
    walk_at "go"
    intro p5 n_p5
    generalize g_H7 : upd _ p5 _ = H7
    obtain ⟨k_H7, e_p5⟩ := al_of n_p5 g_H7
    clear g_H7
    have hS7 := k_H7.same.seq hS6
    refine u_eqQ hS7 e_p5 (dp_ints ns) (shaped_ints ns) ?_
    have S7 := S6.kp k_H7
    have fin : ∀ H8, Kp [p4] H7 H8 → Kp [] H3 H8 := fun H8 k8 => (((k4.call0 k5).call0 k6).call0 k_H7).callN k8 (by
      cases hz : H3 p4 with
      | none => rfl
      | some u =>
        have := k5.get0 (k4.get0 hz)
        rw [n6] at this
        cases this)
    walk_at "go"
    refine ite2 (fun c2 => ?_) (fun c2 => ?_)
    · walk_at "go"
      refine ⟨p4, 0, 4, rfl, S7, by decide, by decide, fun H8 k8 => ?_⟩
      walk_at "go"
      exact ⟨_, _, rfl, fin H8 k8⟩
    · walk_at "go"
      refine ⟨p4, 0, 120, rfl, S7, by decide, by decide, fun H8 k8 => ?_⟩
      walk_at "go"
      exact ⟨_, _, rfl, fin H8 k8⟩
  · rintro σ H4 ⟨y1, y2, rfl, k4⟩
    walk_at "go"
    exact q _
end
theorem all_mk {l : PySem.W.OpenLaw} {w : World} {K : PySem.W.Frag} {h : Heap} {mg : Str → Option Value} {fa f0 f1 f2 f3 f4 f5 f6 f7 f8 f9 f10 : Addr} (X : K.In h) (G : h.Ns mainGlobals mg) (hfa : mg "law" = some (.ref fa))
    {od0 an0 od1 an1 od2 an2 od3 an3 od4 an4 od5 an5 od6 an6 od7 an7 od8 an8 od9 an9 od10 an10 : Option Addr} {sl0 sl1 sl2 sl3 sl4 sl5 sl6 sl7 sl8 sl9 sl10 : Array (Option Value)}
    {oc0 kV0 dc0 pm0 cd0 ct0 oc1 kV1 dc1 pm1 cd1 ct1 oc2 kV2 dc2 pm2 cd2 ct2 oc3 kV3 dc3 pm3 cd3 ct3 oc4 kV4 dc4 pm4 cd4 ct4 oc5 kV5 dc5 pm5 cd5 ct5 oc6 kV6 dc6 pm6 cd6 ct6 oc7 kV7 dc7 pm7 cd7 ct7 oc8 kV8 dc8 pm8 cd8 ct8 oc9 kV9 dc9 pm9 cd9 ct9 oc10 kV10 dc10 pm10 cd10 ct10 : Value} {t_LETTERS t_MOST_LETTERS : Tok}
    (a0 : PySem.W.nsIn K mainGlobals "_law_draw" = some (some (.ref f0)))
    (l0 : K.lookup f0 = some ⟨oc0, od0, .func (PySem.W.fnOf "_law_draw" "_law_draw" (defArgs s__law_draw) (defBody s__law_draw) (defScope s__law_draw) .none kV0 dc0 pm0 an0 cd0 ct0), sl0⟩)
    (c0 : PySem.W.codeIn K cd0 "_law_draw" = true) (k0 : PySem.W.keepIn K (.ref f0) = true)
    (a1 : PySem.W.nsIn K mainGlobals "_law_bad_word" = some (some (.ref f1)))
    (l1 : K.lookup f1 = some ⟨oc1, od1, .func (PySem.W.fnOf "_law_bad_word" "_law_bad_word" (defArgs s__law_bad_word) (defBody s__law_bad_word) (defScope s__law_bad_word) .none kV1 dc1 pm1 an1 cd1 ct1), sl1⟩)
    (c1 : PySem.W.codeIn K cd1 "_law_bad_word" = true) (k1 : PySem.W.keepIn K (.ref f1) = true)
    (a2 : PySem.W.nsIn K mainGlobals "_law_is_word" = some (some (.ref f2)))
    (l2 : K.lookup f2 = some ⟨oc2, od2, .func (PySem.W.fnOf "_law_is_word" "_law_is_word" (defArgs s__law_is_word) (defBody s__law_is_word) (defScope s__law_is_word) .none kV2 dc2 pm2 an2 cd2 ct2), sl2⟩)
    (c2 : PySem.W.codeIn K cd2 "_law_is_word" = true) (k2 : PySem.W.keepIn K (.ref f2) = true)
    (a3 : PySem.W.nsIn K mainGlobals "_law_fits" = some (some (.ref f3)))
    (l3 : K.lookup f3 = some ⟨oc3, od3, .func (PySem.W.fnOf "_law_fits" "_law_fits" (defArgs s__law_fits) (defBody s__law_fits) (defScope s__law_fits) .none kV3 dc3 pm3 an3 cd3 ct3), sl3⟩)
    (c3 : PySem.W.codeIn K cd3 "_law_fits" = true) (k3 : PySem.W.keepIn K (.ref f3) = true)
    (a4 : PySem.W.nsIn K mainGlobals "_law_word" = some (some (.ref f4)))
    (l4 : K.lookup f4 = some ⟨oc4, od4, .func (PySem.W.fnOf "_law_word" "_law_word" (defArgs s__law_word) (defBody s__law_word) (defScope s__law_word) .none kV4 dc4 pm4 an4 cd4 ct4), sl4⟩)
    (c4 : PySem.W.codeIn K cd4 "_law_word" = true) (k4 : PySem.W.keepIn K (.ref f4) = true)
    (a5 : PySem.W.nsIn K mainGlobals "_law_words" = some (some (.ref f5)))
    (l5 : K.lookup f5 = some ⟨oc5, od5, .func (PySem.W.fnOf "_law_words" "_law_words" (defArgs s__law_words) (defBody s__law_words) (defScope s__law_words) .none kV5 dc5 pm5 an5 cd5 ct5), sl5⟩)
    (c5 : PySem.W.codeIn K cd5 "_law_words" = true) (k5 : PySem.W.keepIn K (.ref f5) = true)
    (a6 : PySem.W.nsIn K mainGlobals "is_text" = some (some (.ref f6)))
    (l6 : K.lookup f6 = some ⟨oc6, od6, .func (PySem.W.fnOf "is_text" "is_text" (defArgs s_is_text) (defBody s_is_text) (defScope s_is_text) .none kV6 dc6 pm6 an6 cd6 ct6), sl6⟩)
    (c6 : PySem.W.codeIn K cd6 "is_text" = true) (k6 : PySem.W.keepIn K (.ref f6) = true)
    (a7 : PySem.W.nsIn K mainGlobals "is_word" = some (some (.ref f7)))
    (l7 : K.lookup f7 = some ⟨oc7, od7, .func (PySem.W.fnOf "is_word" "is_word" (defArgs s_is_word) (defBody s_is_word) (defScope s_is_word) .none kV7 dc7 pm7 an7 cd7 ct7), sl7⟩)
    (c7 : PySem.W.codeIn K cd7 "is_word" = true) (k7 : PySem.W.keepIn K (.ref f7) = true)
    (a8 : PySem.W.nsIn K mainGlobals "_law_holds" = some (some (.ref f8)))
    (l8 : K.lookup f8 = some ⟨oc8, od8, .func (PySem.W.fnOf "_law_holds" "_law_holds" (defArgs s__law_holds) (defBody s__law_holds) (defScope s__law_holds) .none kV8 dc8 pm8 an8 cd8 ct8), sl8⟩)
    (c8 : PySem.W.codeIn K cd8 "_law_holds" = true) (k8 : PySem.W.keepIn K (.ref f8) = true)
    (a9 : PySem.W.nsIn K mainGlobals "_law_source" = some (some (.ref f9)))
    (l9 : K.lookup f9 = some ⟨oc9, od9, .func (PySem.W.fnOf "_law_source" "_law_source" (defArgs s__law_source) (defBody s__law_source) (defScope s__law_source) .none kV9 dc9 pm9 an9 cd9 ct9), sl9⟩)
    (c9 : PySem.W.codeIn K cd9 "_law_source" = true) (k9 : PySem.W.keepIn K (.ref f9) = true)
    (a10 : PySem.W.nsIn K mainGlobals "law" = some (some (.ref f10)))
    (l10 : K.lookup f10 = some ⟨oc10, od10, .func (PySem.W.fnOf "law" "law" (defArgs s_law) (defBody s_law) (defScope s_law) .none kV10 dc10 pm10 an10 cd10 ct10), sl10⟩)
    (c10 : PySem.W.codeIn K cd10 "law" = true) (k10 : PySem.W.keepIn K (.ref f10) = true)
    (z_all : PySem.W.nsIn K mainGlobals "all" = some none)
    (z_bool : PySem.W.nsIn K mainGlobals "bool" = some none)
    (z_enumerate : PySem.W.nsIn K mainGlobals "enumerate" = some none)
    (z_isinstance : PySem.W.nsIn K mainGlobals "isinstance" = some none)
    (z_len : PySem.W.nsIn K mainGlobals "len" = some none)
    (z_max : PySem.W.nsIn K mainGlobals "max" = some none)
    (z_min : PySem.W.nsIn K mainGlobals "min" = some none)
    (z_range : PySem.W.nsIn K mainGlobals "range" = some none)
    (z_repr : PySem.W.nsIn K mainGlobals "repr" = some none)
    (z_str : PySem.W.nsIn K mainGlobals "str" = some none)
    (y_LETTERS : PySem.W.nsIn K mainGlobals "LETTERS" = some (some (.str "abcdefghijklmnopqrstuvwxyz" t_LETTERS)))
    (y_MOST_LETTERS : PySem.W.nsIn K mainGlobals "MOST_LETTERS" = some (some (.int 12 t_MOST_LETTERS)))
    : ∃ fd : FuncData, (∀ (s : Shared) (v : Value), BindsTo s fd ⟨[v], []⟩ [("script", v)]) ∧ ∀ base : Heap, K.In base → base.Ns mainGlobals mg → GFn l.prog w K mg base CX0 5 fa fd ["script"] (sp_law K) := by
  have e := hfa.symm.trans (PySem.W.mg_of X G a10)
  cases e
  have n : Nm mg := ⟨PySem.W.mg_none_of X G z_all, PySem.W.mg_none_of X G z_bool, PySem.W.mg_none_of X G z_enumerate, PySem.W.mg_none_of X G z_isinstance, PySem.W.mg_none_of X G z_len, PySem.W.mg_none_of X G z_max, PySem.W.mg_none_of X G z_min, PySem.W.mg_none_of X G z_range, PySem.W.mg_none_of X G z_repr, PySem.W.mg_none_of X G z_str, ⟨_, PySem.W.mg_of X G y_LETTERS⟩, ⟨_, PySem.W.mg_of X G y_MOST_LETTERS⟩⟩
  have F0 := fun_mk (st := s__law_draw) l0 c0 k0
  have F1 := fun_mk (st := s__law_bad_word) l1 c1 k1
  have F2 := fun_mk (st := s__law_is_word) l2 c2 k2
  have F3 := fun_mk (st := s__law_fits) l3 c3 k3
  have F4 := fun_mk (st := s__law_word) l4 c4 k4
  have F5 := fun_mk (st := s__law_words) l5 c5 k5
  have F6 := fun_mk (st := s_is_text) l6 c6 k6
  have F7 := fun_mk (st := s_is_word) l7 c7 k7
  have F8 := fun_mk (st := s__law_holds) l8 c8 k8
  have F9 := fun_mk (st := s__law_source) l9 c9 k9
  have F10 := fun_mk (st := s_law) l10 c10 k10
  refine ⟨PySem.W.fnOf "law" "law" (defArgs s_law) (defBody s_law) (defScope s_law) .none kV10 dc10 pm10 an10 cd10 ct10, fun s v => .of_eq rfl, fun base _ _ => ?_⟩
  · have C0 : GC l.prog w K mg base 1 "_law_draw" (sp__law_draw K) := ⟨_, _, _, PySem.W.mg_of X G a0, k0, (F0.binds (ps := ["source", "count"]) fun _ _ _ _ _ _ us hl => match us, hl with | [_, _], _ => rfl), ok__law_draw (P := l.prog) (w := w) (base := base) n  F0⟩
    have C1 : GC l.prog w K mg base 2 "_law_bad_word" (sp__law_bad_word K) := ⟨_, _, _, PySem.W.mg_of X G a1, k1, (F1.binds (ps := ["source", "words"]) fun _ _ _ _ _ _ us hl => match us, hl with | [_, _], _ => rfl), ok__law_bad_word (P := l.prog) (w := w) (base := base) n C0 F1⟩
    have C2 : GC l.prog w K mg base 1 "_law_is_word" (sp__law_is_word K) := ⟨_, _, _, PySem.W.mg_of X G a2, k2, (F2.binds (ps := ["value"]) fun _ _ _ _ _ _ us hl => match us, hl with | [_], _ => rfl), ok__law_is_word (P := l.prog) (w := w) (base := base) n  F2⟩
    have C3 : GC l.prog w K mg base 1 "_law_fits" (sp__law_fits K) := ⟨_, _, _, PySem.W.mg_of X G a3, k3, (F3.binds (ps := ["words", "word"]) fun _ _ _ _ _ _ us hl => match us, hl with | [_, _], _ => rfl), ok__law_fits (P := l.prog) (w := w) (base := base) n  F3⟩
    have C4 : GC l.prog w K mg base 2 "_law_word" (sp__law_word K) := ⟨_, _, _, PySem.W.mg_of X G a4, k4, (F4.binds (ps := ["source", "letters", "size"]) fun _ _ _ _ _ _ us hl => match us, hl with | [_, _, _], _ => rfl), ok__law_word (P := l.prog) (w := w) (base := base) n C0 F4⟩
    have C5 : GC l.prog w K mg base 3 "_law_words" (sp__law_words K) := ⟨_, _, _, PySem.W.mg_of X G a5, k5, (F5.binds (ps := ["source", "most"]) fun _ _ _ _ _ _ us hl => match us, hl with | [_, _], _ => rfl), ok__law_words (P := l.prog) (w := w) (base := base) n C0 C3 C4 F5⟩
    have C6 : GC l.prog w K mg base 1 "is_text" (sp_is_text K) := ⟨_, _, _, PySem.W.mg_of X G a6, k6, (F6.binds (ps := ["value"]) fun _ _ _ _ _ _ us hl => match us, hl with | [_], _ => rfl), ok_is_text (P := l.prog) (w := w) (base := base) n  F6⟩
    have C7 : GC l.prog w K mg base 2 "is_word" (sp_is_word K) := ⟨_, _, _, PySem.W.mg_of X G a7, k7, (F7.binds (ps := ["value"]) fun _ _ _ _ _ _ us hl => match us, hl with | [_], _ => rfl), ok_is_word (P := l.prog) (w := w) (base := base) n C6 F7⟩
    have C8 : GC l.prog w K mg base 4 "_law_holds" (sp__law_holds K) := ⟨_, _, _, PySem.W.mg_of X G a8, k8, (F8.binds (ps := ["source", "most"]) fun _ _ _ _ _ _ us hl => match us, hl with | [_, _], _ => rfl), ok__law_holds (P := l.prog) (w := w) (base := base) n C1 C2 C5 C7 F8⟩
    have C9 : GC l.prog w K mg base 1 "_law_source" (sp__law_source K) := ⟨_, _, _, PySem.W.mg_of X G a9, k9, (F9.binds (ps := ["cell", "k"]) fun _ _ _ _ _ _ us hl => match us, hl with | [_, _], _ => rfl), ok__law_source (P := l.prog) (w := w) (base := base) n  F9⟩
    exact ok_law (P := l.prog) (w := w) (base := base) n C8 C9 F10
end My
open PySem PySem.W PyProof.Rows
set_option maxHeartbeats 0 in
theorem PySem.Challenge.cw_ghosttext_k01_words_recognized_holds : PySem.Challenge.rw_ghosttext_k01_words_recognized.Holds := by
  w_on; o_law; k_head; (case hw => w_witness2)
  k_fill
  refine Gd.walk_ofG (l := PySem.Challenge.rw_ghosttext_k01_words_recognized) (n := 63) (k := 5) (x := "script") (sp := fun w => My.sp_law _) rfl (by decide) rfl ⟨rfl, by decide, by decide⟩ (fun w h Y => PySem.W.kIn_of Y) ?F (fun _ _ a ns hl hb _ hS => My.start_law hl hb hS)
  case F =>
    intro w mg fa h KX G hmg
    refine' My.all_mk KX G hmg ?a0 ?l0 ?c0 ?k0 ?a1 ?l1 ?c1 ?k1 ?a2 ?l2 ?c2 ?k2 ?a3 ?l3 ?c3 ?k3 ?a4 ?l4 ?c4 ?k4 ?a5 ?l5 ?c5 ?k5 ?a6 ?l6 ?c6 ?k6 ?a7 ?l7 ?c7 ?k7 ?a8 ?l8 ?c8 ?k8 ?a9 ?l9 ?c9 ?k9 ?a10 ?l10 ?c10 ?k10 ?z_all ?z_bool ?z_enumerate ?z_isinstance ?z_len ?z_max ?z_min ?z_range ?z_repr ?z_str ?y_LETTERS ?y_MOST_LETTERS
    (case a0 => k_is); (case l0 => k_is); (case c0 => k_is); (case k0 => k_is); (case a1 => k_is); (case l1 => k_is); (case c1 => k_is); (case k1 => k_is)
    (case a2 => k_is); (case l2 => k_is); (case c2 => k_is); (case k2 => k_is); (case a3 => k_is); (case l3 => k_is); (case c3 => k_is); (case k3 => k_is)
    (case a4 => k_is); (case l4 => k_is); (case c4 => k_is); (case k4 => k_is); (case a5 => k_is); (case l5 => k_is); (case c5 => k_is); (case k5 => k_is)
    (case a6 => k_is); (case l6 => k_is); (case c6 => k_is); (case k6 => k_is); (case a7 => k_is); (case l7 => k_is); (case c7 => k_is); (case k7 => k_is)
    (case a8 => k_is); (case l8 => k_is); (case c8 => k_is); (case k8 => k_is); (case a9 => k_is); (case l9 => k_is); (case c9 => k_is); (case k9 => k_is)
    (case a10 => k_is); (case l10 => k_is); (case c10 => k_is); (case k10 => k_is); (case z_all => k_is); (case z_bool => k_is); (case z_enumerate => k_is); (case z_isinstance => k_is)
    (case z_len => k_is); (case z_max => k_is); (case z_min => k_is); (case z_range => k_is); (case z_repr => k_is); (case z_str => k_is); (case y_LETTERS => k_is); (case y_MOST_LETTERS => k_is)
