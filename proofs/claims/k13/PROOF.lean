import PyProof.Rows.All
import Wide.All
import OpenK.AllK
import Wide.FinOn
import HandS.ForMost
import HandS.Wide
import HandS.IsInst
import HandS.EndBits
import HandS.Flow
import PyProof.ReprRoads
import HandS.Style
import HandS.Strs
import HandS.Zip
import PyProof.StrOps2
import PyProof.StrLawsRepr
import PyProof.ReprLen
import HandS.Walk
import HandS.Codes
import HandS.Set
import PyProof.Rows.SortShellAny
import HandS.SetFor
import HandS.Star
import PyProof.SetRoads
import HandS.Text
import HandS.More
import HandS.SortInts
import HandS.Defaults
import PyProof.TypeEq
import HandS.Gcd
import HandS.WideBits
import KE.KMathGC
import HandS.Replace
import HandS.Conv
import HandS.NoneIn
import KE.DatumOrd
import KE.SortData
import HandS.RevRange
import HandS.GenYield
import HandS.IterNext
import HandS.GenList
import HandS.SetKeys
import HandS.FStr
import HandS.WordsDict
import HandS.DictComp
import HandS.ListItems
import HandS.Deep
import HandS.SetBool
import HandS.Property
import HandS.ClsMeth
import HandS.NamedTupGet
import PySem.Challenge.RW_ghosttext_k13_keys_recognized
set_option Elab.async false
set_option linter.all false
set_option maxRecDepth 100000
set_option maxHeartbeats 4000000
namespace Gd
open PySem PySem.Spec PyProof.Rows L2
structure GFn (P : Program) (w : World) (K : PySem.W.Frag) (mg : Str → Option Value)
    (base : Heap) (CX : CXT) (k : Nat) (f : Addr) (fd : FuncData) (ps : List Str) (sp : Sp) : Prop where
  many : ∀ vs H Q E, sp vs H Q E → vs.length = ps.length
  go : ∀ (A : Around) (outer : List Env) (s : Shared) (H : Hp) (args : Args) (us : List Value) (vs : List V) (Q : VK) (E : XK),
    A.guards = some [] → Room k A → Env0 P w K mg base A outer s H → BindsTo s fd args (ps.zip us) →
    Vals vs us → sp vs H Q E → codeAny (model P w) A (.call (.ref f) args) (CR CX outer P w H s Q E) s
section
variable {P : Program} {w : World} {K : PySem.W.Frag} {mg : Str → Option Value} {base : Heap}
variable {CX : CXT} {k j : Nat} {f : Addr} {fd : FuncData} {ps N : List Str} {sp : Sp}
theorem GFn.of (F : FnOk P w K mg base CX k f fd ps sp) : GFn P w K mg base CX k f fd ps sp :=
  ⟨F.len, fun A outer s H args us vs Q E _ hr => F.run A outer s H args us vs Q E hr⟩
/-- a def's body, where nothing is being shown -/
theorem GFn.mk' {x qual : Str} {st : Stmt} (F : Fun K x qual st f fd) (S : FnScope N ps (defScope st))
    (len : ∀ vs H Q E, sp vs H Q E → vs.length = ps.length)
    (body : ∀ (cdv : Value) (A : Around) (outer : List Env) (s : Shared) (H : Hp) (vs : List V) (Q : VK) (E : XK),
      A.guards = some [] → Room k (A.deeper (envOfC qual (defScope st) s.heap.objs.size f cdv)) → sp vs H Q E →
      ∃ t, PSs (cxOf CX0 P w K mg base N qual (defScope st) f cdv A outer s H E).nox (defBody st) t ∧
        t { nx := fun _ H' => Q .non H', rt := Q } (start N vs) H) :
    GFn P w K mg base CX0 (k + 1) f fd ps sp := by
  obtain ⟨oc, od, kV, doc, pm, an, cdv, ct, osl, rfl, lk, hcd⟩ := F.ex
  refine ⟨len, fun A outer s H args us vs Q E gd hr e0 hb r hsp => ?_⟩
  have hl := len _ _ _ _ hsp
  have hK : K.In s.heap := e0.mod.kin.keeps fun b o e => (e0.bs b o e).1
  have hlim : s.heap.NoLimit := e0.mod.nolimit.keeps fun b o e => (e0.bs b o e).1
  have kinds : ∀ y ∈ ps.zip us, (defScope st).names.lookup y.1 = some .local ∨
      ((defScope st).names.lookup y.1 = some .cell ∧
        ((cellsFrom (s.heap.objs.size + 1) (defScope st).names []).lookup y.1).isSome = true) := by
    rintro ⟨n, v⟩ hy
    rcases S.par n (List.of_mem_zip hy).1 with q | q
    · exact .inl q
    · exact .inr ⟨q, PySem.W.cellsFrom_some _ _ _ (.inl q)⟩
  refine codeAny_call_function hr.depth (hK _ _ lk) rfl S.co S.gen rfl (PySem.W.codeRec_of hK hcd) (hb _ _ _ _ ?_)
  refine wpAny_newFunctionEnv_cells S.kind kinds fun env he s1 x => ?_
  subst he
  refine ⟨hlim.keeps x.toInCall.keep, codeAny_func ?_⟩
  obtain ⟨t, ht, hq⟩ := body cdv A outer s H vs Q E gd (hr.deeper _) hsp
  have I := inv_start (CX := CX0) (P := P) (mg := mg) (E := E) S hr.hd e0 hl r x
  refine wpAny_mono (ht.nox.run [] s1 (start N vs) H _ I hq) (fun fl s' hs => ?_) fun e s' hs => hs
  cases fl with
  | ret u =>
    obtain ⟨v, σ', H', J, rv, q⟩ := hs
    exact ⟨v, H', J.os, J.bare, J.base, J.hok, rv, q⟩
  | next =>
    obtain ⟨σ', H', J, q⟩ := hs
    exact ⟨V.non, H', J.os, J.bare, J.base, J.hok, rfl, q⟩
  | brk =>
    obtain ⟨_, _, _, q⟩ := hs
    exact False.elim q
  | cont =>
    obtain ⟨_, _, _, q⟩ := hs
    exact False.elim q
end
section
variable {X : Cx} {CX : CXT} {k : Nat} {f : Addr} {fd : FuncData} {ps : List Str} {sp : Sp}
variable {dvs : List V} {ds : List Value} {E : XK}
theorem run_g {pins : List (Addr × Obj)} {σ : L2.St} {H : Hp} {s : Shared} {Q : VK} {us : List Value} {vs : List V}
    (F : GFn X.prog X.w X.K X.mg X.base CX k f fd ps sp) (hg : X.A.guards = some []) (hr : Room k X.A)
    (hb : Binds X.K fd ps ds) (hd : Vals dvs ds) (hx : Passes CX X E) (I : Inv X pins σ H s) (r : Vals vs us)
    (h : sp (vs ++ dvs) H Q E) : wpAny (model X.prog X.w) X.A (call (.ref f) us) (EP X pins σ Q) X.xe s := by
  have r2 := r.append hd
  have hl : (us ++ ds).length = ps.length := by
    rw [← r2.length]
    exact F.many _ _ _ _ h
  refine wpAny_call (codeAny_mono (F.go X.A X.stack s H ⟨us, []⟩ _ _ Q E hg hr I.env0 (hb s us I.kIn hl) r2 h) ?_)
  intro r s' hq
  cases r with
  | error e => exact hx pins σ H s e s' I hq
  | ok fl =>
    cases fl with
    | ret u => exact I.after hq
    | next => exact hq.elim
    | brk => exact hq.elim
    | cont => exact hq.elim
theorem pe_callG {x : Str} {p pos : Pos} {e : Expr} {es : List Expr} {t : TA}
    (F : GFn X.prog X.w X.K X.mg X.base CX k f fd ps sp) (gd : X.A.guards = some []) (hr : Room k X.A) (hg : Gl X x)
    (hm : X.mg x = some (.ref f)) (hk : PySem.W.keepIn X.K (.ref f) = true) (hb : Binds X.K fd ps ds) (hd : Vals dvs ds)
    (hx : Passes CX X E) (ha : PA X (e :: es) t) (hdb : (x == ("__debug__" : Str)) = false := by decide)
    (he : starEach (e :: es) X.env = (false, eval e X.env) :: starEach es X.env := by rfl)
    (hpl : (backTo pos (starEach es X.env)).any (·.1) = false := by rfl) :
    PE X (.Call (.Name x p) (e :: es) [] pos) (tCall sp dvs E t) := by
  refine ⟨fun pins s σ H Q I h => wpAny_Call_Name_kw (ld_glob I hg hm ?_ hdb)⟩
  refine PySem.W.callWith_K (h₀ := X.base) I.ok.mod.kin hk (thn (ha.run pos pins s σ H _ I h) ?_) he hpl
  exact fun us s1 ⟨vs, H1, I1, r, q⟩ => ⟨I1.kIn, run_g F gd hr hb hd hx I1 r q⟩
end
theorem law_callG {P : Program} {w : World} {K : PySem.W.Frag} {mg mb : Str → Option Value} {k : Nat} {fa a : Addr}
    {fd : FuncData} {x : Str} {sp : Sp} {s1 : Shared} {vs : List Value} {ns : List Int} (KX : K.In s1.heap)
    (hns : s1.heap.Ns mainGlobals mg) (hb : s1.heap.Ns builtinsNs mb) (hbb : ∀ x : Str, x ≠ "__name__" → mb x = bootBuiltins x)
    (hlim : s1.heap.NoLimit) (hg : s1.gens = #[]) (ha : s1.heap.get? a = some { cls := .type "list", data := .seq vs.toArray })
    (hi : IntsAre vs ns) (hl : ns.length ≤ sizeLine) (hr : Room k callerA)
    (F : ∀ base : Heap, K.In base → base.Ns mainGlobals mg → GFn P w K mg base CX0 k fa fd [x] sp)
    (hbind : ∀ (s : Shared) (u : Value), BindsTo s fd ⟨[u], []⟩ [(x, u)])
    (hsp : ∀ H : Hp, Only H → SqL K H a (ns.map V.int) → sp [.ref a] H (fun v _ => v = .bl true) fun _ _ _ => False) :
    codeAny (model P w) callerA (.call (.ref fa) ⟨[.ref a], []⟩)
      (fun r s' => r = .ok (.ret (.bool true)) ∧ OldK s1.heap s'.heap ∧ s'.os = s1.os ∧ AllBare s'.gens) s1 := by
  have rv := vals_ints hi
  have lenV := hi.length
  have core : ∀ H : Hp, Only H → SqL K H a (ns.map V.int) → HOk P w H s1.heap → (∀ b, H b ≠ none → b = a) →
      (H a ≠ none → K.lookup a = none) → codeAny (model P w) callerA (.call (.ref fa) ⟨[.ref a], []⟩)
        (fun r s' => r = .ok (.ret (.bool true)) ∧ OldK s1.heap s'.heap ∧ s'.os = s1.os ∧ AllBare s'.gens) s1 := by
    intro H hO hS hok hA hK
    have one : ∀ {b : Addr}, H b ≠ none → b = a := fun {b} z => hA b z
    have noA : ∀ {b : Addr} {o : Obj} {es : Array DictEntry} {ep : Nat}, s1.heap.get? b = some o → o.data = .dict es ep → H b = none := by
      intro b o es ep e d
      cases q : H b with
      | none => rfl
      | some u =>
        have e' : b = a := one (by rw [q]; simp)
        subst e'
        rw [ha] at e; cases e
        exact absurd d (by intro z; cases z)
    have nsK : ∀ {b : Addr} {m : Str → Option Value}, s1.heap.Ns b m → (hidT s1.heap H).Ns b m := by
      rintro b m ⟨o, es, ep, e, d, r⟩
      exact ⟨o, es, ep, hidT_get e (noA e d), d, r⟩
    have hKb : K.In (hidT s1.heap H) := by
      intro b o e
      refine hidT_get (KX b o e) ?_
      cases q : H b with
      | none => rfl
      | some u =>
        have e' : b = a := one (by rw [q]; simp)
        subst e'
        rw [hK (by rw [q]; simp)] at e; cases e
    have hM : Mod K mg (hidT s1.heap H) :=
      ⟨hKb, nsK hns, ⟨mb, nsK hb, hbb⟩, let ⟨mc, h1, h2⟩ := hlim; ⟨mc, nsK h1, h2⟩⟩
    have e0 : Env0 P w K mg (hidT s1.heap H) callerA [] s1 H :=
      ⟨rfl, hM, fun b o e => of_hidT e, Nat.le_of_eq (hidT_size _ _), trivial,
        fun b hb => absurd (show b ∈ ([] : List Addr) from hb) (by simp), hok, .of_eq hg⟩
    have G := F _ hKb (nsK hns)
    refine codeAny_mono (G.go callerA [] s1 H ⟨[.ref a], []⟩ [.ref a] [.ref a] _ _ rfl hr e0 (hbind s1 (.ref a)) (.cons rfl .nil) (hsp H hO hS)) ?_
    intro r s' h
    cases r with
    | error e => exact False.elim h
    | ok fl =>
      cases fl with
      | next => exact h.elim
      | brk => exact h.elim
      | cont => exact h.elim
      | ret u =>
        obtain ⟨v, H', os, bare, un, hok', r', q⟩ := h
        obtain rfl : v = .bl true := q
        obtain rfl : u = Value.bool true := r'
        refine ⟨rfl, OldK.of_keep fun b o e => ?_, os, bare⟩
        cases q : H b with
        | none =>
          refine un.keep b o e q ?_ (by simp)
          intro z
          exact absurd (show b ∈ ([] : List Addr) from z) (by simp)
        | some u =>
          rcases hO b with z | ⟨ob, xs, z⟩
          · rw [q] at z; cases z
          · obtain ⟨e1, _⟩ := hok b _ z
            obtain ⟨e2, _⟩ := hok' b _ (un.frzs b ob _ z)
            rw [e] at e1; cases e1
            exact e2
  cases hk : K.lookup a with
  | some o =>
    have e := KX a o hk
    rw [ha] at e
    cases e
    refine core (fun _ => none) (fun _ => .inl rfl) (.inr ⟨_, vs.toArray, _, hk, rfl, rfl, rfl, ?_, by simpa using rv⟩) ?_ (fun b z => absurd rfl z) fun z => absurd rfl z
    · rw [List.size_toArray, lenV]
      exact hl
    · intro b u z
      have z' : (none : Option HO) = some u := z
      cases z'
  | none =>
    let Hs : Hp := fun b => if b = a then some (.frz { cls := .type "list", data := .seq vs.toArray } (.lst (ns.map V.int))) else none
    have hin : ∀ {b}, b = a → Hs b = some (.frz { cls := .type "list", data := .seq vs.toArray } (.lst (ns.map V.int))) := fun e => if_pos e
    have hout : ∀ {b}, b ≠ a → Hs b = none := fun e => if_neg e
    refine core Hs (fun b => ?_) (.inl (.inr ⟨_, hin rfl⟩)) (fun b u z => ?_) (fun b z => ?_) fun _ => hk
    · by_cases e : b = a
      · exact .inr ⟨_, _, hin e⟩
      · exact .inl (hout e)
    · by_cases e : b = a
      · rw [hin e] at z
        cases z
        subst e
        exact ⟨ha, by rw [List.length_map]; exact hl, vs, _, rv, ha⟩
      · rw [hout e] at z
        cases z
    · by_cases e : b = a
      · exact e
      · exact absurd (hout e) z
/-- the head's goal, from the law's promise -/
theorem walk_ofG {l : PySem.W.OpenLaw} {n k : Nat} {q : Program} {loose : List Str} {XP : (Str → Option Value) → Heap → Prop}
    {YP : World → Heap → Prop} {d : DefRec} {K : Params → PySem.W.Frag} {sp : World → Sp} {x : Str}
    (hn : l.most = some n) (hn2 : n ≤ sizeLine) (hdf : d.params.defaults = []) (hr : Room k callerA)
    (hY : ∀ (w : World) (h : Heap), YP w h → (K w.params).In h)
    (F : ∀ (w : World) (mg : Str → Option Value) (fa : Addr) (h : Heap), (K w.params).In h → h.Ns mainGlobals mg →
      mg d.name = some (.ref fa) → ∃ fd : FuncData, (∀ (s : Shared) (u : Value), BindsTo s fd ⟨[u], []⟩ [(x, u)]) ∧
        ∀ base : Heap, (K w.params).In base → base.Ns mainGlobals mg → GFn l.prog w (K w.params) mg base CX0 k fa fd [x] (sp w))
    (hsp : ∀ (w : World) (H : Hp) (a : Addr) (ns : List Int), ns.length ≤ n → (∀ z ∈ ns, Builtin.Int.intBits z ≤ 1048576) →
      Only H → SqL (K w.params) H a (ns.map V.int) → sp w [.ref a] H (fun v _ => v = .bl true) fun _ _ _ => False) :
    PySem.W.WalkO q loose XP YP l.row.toRowW d [] (fun f vs => PySem.call f vs) := by
  refine Att.attach_callB hn hdf fun w s₀ s₁ mg mb fa o pm cd doc a vs ns G Y ho hd hcd hmg hobj hints hlen hbits hg => ?_
  have KX := hY w _ Y
  obtain ⟨fd, hb, hF⟩ := F w mg fa _ KX G.T.g hmg
  exact law_callG KX G.T.g G.T.b G.T.builtins G.T.nolimit hg hobj hints (Nat.le_trans hlen hn2) hr hF hb
    fun H hO hS => hsp w H a ns hlen hbits hO hS
end Gd
namespace Gd
open PySem PySem.Spec PyProof.Rows L2
abbrev tl (x : Str) : List Nat := x.cps.toList
def uAdd (K : PySem.W.Frag) : R2 := fun x y H Q => match x, y with
  | .int i, .int j => Q (.int (i + j)) H
  | .str a, .str b => a.length + b.length ≤ sizeLine ∧ Q (.str (a ++ b)) H
  | .ref a, .ref b => (∃ xs zs, SqL K H a xs ∧ SqL K H b zs ∧ xs.length + zs.length ≤ sizeLine ∧
      ∀ p, H p = none → Q (.ref p) (upd H p (.lst (xs ++ zs)))) ∨ rCatT K (.ref a) (.ref b) H Q
  | _, _ => False
def uSub : R2 := fun x y H Q => match x, y with
  | .int i, .int j => Q (.int (i - j)) H
  | _, _ => False
def strRep (a : Str) (n : Nat) : Str := ⟨(List.replicate n (tl a)).flatten.toArray⟩
def uMul : R2 := fun x y H Q => match x, y with
  | .int i, .int j => (CMul i j ∨ CMulW i j) ∧ Q (.int (i * j)) H
  | .str a, .int k => (k < 16777217 ∧ -16777217 < k ∧ a.length * k.toNat ≤ sizeLine) ∧ Q (.str (strRep a k.toNat)) H
  | .ref a, .int k => ∃ xs, H a = some (.lst xs) ∧ -(2 ^ 63) ≤ k ∧ k < 2 ^ 63 ∧ xs.length * k.toNat ≤ sizeLine ∧
      ∀ p, H p = none → Q (.ref p) (upd H p (.lst (List.replicate k.toNat xs).flatten))
  | _, _ => False
def uMod : R2 := fun x y H Q => match x, y with
  | .int i, .int j => 0 < j ∧ Q (.int (i % j)) H
  | _, _ => False
def uDiv : R2 := fun x y H Q => match x, y with
  | .int i, .int j => CDivW i j ∧ Q (.int (i / j)) H
  | _, _ => False
def CPowW (i j : Int) : Prop := 0 ≤ j ∧ (Builtin.Int.intBits i : Int) * j ≤ 2 ^ 27
def uPow : R2 := fun x y H Q => match x, y with
  | .int i, .int j => CPowW i j ∧ Q (.int (i ^ j.toNat)) H
  | _, _ => False
def uEq (K : PySem.W.Frag) : R2 := fun x y H Q => (scal x y = true ∧ Q (.bl (decide (x = y))) H) ∨ rEqD K x y H Q
def uNe (K : PySem.W.Frag) : R2 := fun x y H Q => (scal x y = true ∧ Q (.bl (!decide (x = y))) H) ∨ rNeD K x y H Q
def uGt : R2 := fun x y H Q => match x, y with
  | .int i, .int j => Q (.bl (decide (j < i))) H
  | .str a, .str b => Q (.bl (decide (tl b < tl a))) H
  | _, _ => False
def uLe : R2 := fun x y H Q => match x, y with
  | .int i, .int j => Q (.bl (decide (i ≤ j))) H
  | .str a, .str b => Q (.bl (!decide (tl b < tl a))) H
  | _, _ => False
def uIn (K : PySem.W.Frag) : R2 := fun x y H Q => match y with
  | .str z => ∃ c, x = .str ⟨#[c]⟩ ∧ Q (.bl (decide (c ∈ tl z))) H
  | .ref p => ∃ xs, (SqL K H p xs ∨ SqT K H p xs) ∧ flatV x = true ∧ xs.all flatV = true ∧ Q (.bl (inV x xs)) H
  | _ => False
section
variable {X : Cx}
theorem OpR.or {f : Value → Value → Sem Value} {r r' : R2} (h : OpR X f r) (h' : OpR X f r') :
    OpR X f (fun x y H Q => r x y H Q ∨ r' x y H Q) := by
  intro pins s σ H x y v u Q I rx ry q
  rcases q with q | q
  · exact h pins s σ H x y v u Q I rx ry q
  · exact h' pins s σ H x y v u Q I rx ry q
theorem OpR.imp {f : Value → Value → Sem Value} {r r' : R2} (h : OpR X f r) (g : ∀ x y H Q, r' x y H Q → r x y H Q) : OpR X f r' :=
  fun pins s σ H x y v u Q I rx ry q => h pins s σ H x y v u Q I rx ry (g x y H Q q)
theorem op_catQ : OpR X (binaryOp .Add) (fun x y H Q => ∃ a b xs zs, x = .ref a ∧ y = .ref b ∧ SqL X.K H a xs ∧ SqL X.K H b zs ∧ xs.length + zs.length ≤ sizeLine ∧
    ∀ p, H p = none → Q (.ref p) (upd H p (.lst (xs ++ zs)))) := by
  intro pins s σ H x y v u Q I rx ry h
  obtain ⟨l, b, xs, zs, rfl, rfl, hH, hH2, hz, q⟩ := h
  cases rx
  cases ry
  obtain ⟨its, r, ⟨⟨cls, dd, data, sl⟩, n, ho, hc, hd, hs⟩, z1⟩ := I.list hH
  obtain ⟨its2, r2, ⟨⟨cls2, dd2, data2, sl2⟩, n2, ho2, hc2, hd2, hs2⟩, z2⟩ := I.list hH2
  simp only at hc hd hs hc2 hd2 hs2
  subst hc hd hs hc2 hd2 hs2
  have e1 := r.length
  have e2 := r2.length
  have ea : its.toArray ++ its2.toArray = (its ++ its2).toArray := by simp
  refine concat_meets ⟨_, ho, rfl⟩ ⟨_, ho2, rfl⟩ noFill_list_add seq_list_add PySem.F.slot_list_add PySem.F.entry_list_add (PySem.F.args_list_add_2 _ _)
    (list_addW l b its.toArray its2.toArray n n2 none none sl sl2 (by rw [List.size_toArray, List.size_toArray]; omega)) ⟨ho, ho2, ?_⟩
  rw [ea]
  exact ⟨.ref _, _, I.lnew (t' := s.toks) (r.append r2) (by rw [List.length_append]; omega), rfl, q _ I.fresh⟩
theorem ou_add : OpR X (binaryOp .Add) (uAdd X.K) :=
  OpR.imp (OpR.or op_add (OpR.or op_add_str (OpR.or op_catQ op_catT))) fun x y H Q h => by
    cases x <;> cases y <;> first
      | exact False.elim h
      | exact .inl ⟨_, _, rfl, rfl, h⟩
      | exact .inr (.inl ⟨_, _, rfl, rfl, h.1, h.2⟩)
      | skip
    rcases h with ⟨xs, zs, h1, h2, h3, h4⟩ | h
    · exact .inr (.inr (.inl ⟨_, _, xs, zs, rfl, rfl, h1, h2, h3, h4⟩))
    · exact .inr (.inr (.inr h))
theorem ou_sub : OpR X (binaryOp .Sub) uSub := OpR.imp op_sub fun x y H Q h => by
  cases x <;> cases y <;> first
    | exact False.elim h
    | exact ⟨_, _, rfl, rfl, h⟩
theorem foldl_app (z : Array Nat) : ∀ (n : Nat) (acc : Array Nat), ((List.replicate n z).foldl (· ++ ·) acc).toList = acc.toList ++ (List.replicate n z.toList).flatten
  | 0, acc => by simp
  | n + 1, acc => by
    rw [List.replicate_succ, List.foldl_cons, foldl_app z n, List.replicate_succ, List.flatten_cons, Array.toList_append, List.append_assoc]
theorem strRep_len (a : Str) (n : Nat) : (strRep a n).length = a.length * n := by
  show (List.replicate n (tl a)).flatten.toArray.size = a.cps.size * n
  rw [List.size_toArray, List.length_flatten]
  simp [Nat.mul_comm]
theorem tl_rep (a : Str) (n : Nat) : tl (strRep a n) = (List.replicate n (tl a)).flatten := rfl
theorem ou_mulS {a : Str} {k : Int} {t u : Tok} {pins : List (Addr × Obj)} {s : Shared} {σ : L2.St} {H : Hp} {Q : VK} (I : Inv X pins σ H s)
    (hc : k < 16777217 ∧ -16777217 < k ∧ a.length * k.toNat ≤ sizeLine) (q : Q (.str (strRep a k.toNat)) H) :
    wpAny (model X.prog X.w) X.A (binaryOp .Mult (.str a t) (.int k u)) (EP X pins σ Q) X.xe s := by
  obtain ⟨h1, h2, h3⟩ := hc
  have hz := h3
  rw [sizeLine_eq] at h3
  have two : (2 : Int) ^ 63 = 9223372036854775808 := by decide
  refine PySem.P.mul_str ?_ (fun h0 h z => ?_) (fun h0 h => ?_) ?_
  · rw [two, decide_eq_false (by omega), decide_eq_false (by omega)]
    rfl
  · have hk : 0 < k := by omega
    have e1 : (a.length : Int) * k ≤ 16777216 := by
      have e : ((a.length * k.toNat : Nat) : Int) ≤ ((16777216 : Nat) : Int) := Int.ofNat_le.mpr h3
      rw [Int.natCast_mul, Int.toNat_of_nonneg (by omega)] at e
      exact e
    rw [two] at z
    have e2 := Int.mul_ediv_add_emod (9223372036854775808 - 1) k
    have e3 := Int.emod_lt_of_pos (9223372036854775808 - 1) hk
    have e4 : k * ((9223372036854775808 - 1) / k) ≤ k * (a.length : Int) := Int.mul_le_mul_of_nonneg_left (by omega) (by omega)
    rw [Int.mul_comm k (a.length : Int)] at e4
    generalize k * ((9223372036854775808 - 1) / k) = p at *
    generalize (a.length : Int) * k = r at *
    omega
  · unfold PySem.Builtin.Str.tooLong
    exact decide_eq_false (by omega)
  · by_cases h0 : k < 1
    · rw [if_pos h0]
      have e : strRep a k.toNat = Str.empty := by
        rw [show k.toNat = 0 by omega]
        rfl
      exact ⟨Nat.zero_le _, .str _, H, I.tok _, ⟨_, by rw [e]⟩, q⟩
    · rw [if_neg h0]
      by_cases h1' : (k == 1 || a.length == 0) = true
      · rw [if_pos h1']
        have e : strRep a k.toNat = a := by
          rw [Bool.or_eq_true, beq_iff_eq, beq_iff_eq] at h1'
          apply TL.ext_tl
          show tl (strRep a k.toNat) = tl a
          rw [tl_rep]
          rcases h1' with h1' | h1'
          · rw [h1']
            simp
          · have z : tl a = [] := by
              apply List.eq_nil_of_length_eq_zero
              simpa [tl, Str.length] using h1'
            rw [z]
            simp
        exact ⟨.str _, H, I, ⟨t, by rw [e]⟩, q⟩
      · rw [if_neg h1']
        have e : (⟨(List.replicate k.toNat a.cps).foldl (· ++ ·) #[]⟩ : Str) = strRep a k.toNat := by
          apply TL.ext_tl
          show ((List.replicate k.toNat a.cps).foldl (· ++ ·) #[]).toList = (List.replicate k.toNat (tl a)).flatten
          rw [foldl_app]
          simp [tl]
        refine ⟨?_, .str _, H, I.tok _, ⟨_, by rw [e]⟩, q⟩
        rw [e, strRep_len]
        exact hz
def rMulS : R2 := fun x y H Q => ∃ a k, x = .str a ∧ y = .int k ∧ (k < 16777217 ∧ -16777217 < k ∧ a.length * k.toNat ≤ sizeLine) ∧ Q (.str (strRep a k.toNat)) H
theorem op_mulS : OpR X (binaryOp .Mult) rMulS := by
  rintro pins s σ H x y v u Q I rx ry ⟨a, k, rfl, rfl, h, q⟩
  obtain ⟨t, rfl⟩ := rx
  obtain ⟨t', rfl⟩ := ry
  exact ou_mulS I h q
theorem ou_mul : OpR X (binaryOp .Mult) uMul :=
  OpR.imp (OpR.or op_mul (OpR.or op_mulW (OpR.or op_mulS op_rep))) fun x y H Q h => by
    cases x <;> cases y <;> first
      | exact False.elim h
      | exact .inr (.inr (.inl ⟨_, _, rfl, rfl, h.1, h.2⟩))
      | skip
    · rcases h.1 with c | c
      · exact .inl ⟨_, _, rfl, rfl, c, h.2⟩
      · exact .inr (.inl ⟨_, _, rfl, rfl, c, h.2⟩)
    · obtain ⟨xs, h1, h2, h3, h4, h5⟩ := h
      exact .inr (.inr (.inr ⟨_, _, xs, rfl, rfl, h1, h2, h3, h4, h5⟩))
theorem ou_mod : OpR X (binaryOp .Mod) uMod := OpR.imp op_mod fun x y H Q h => by
  cases x <;> cases y <;> first
    | exact False.elim h
    | exact ⟨_, _, rfl, rfl, h.1, h.2⟩
theorem ou_div : OpR X (binaryOp .FloorDiv) uDiv := OpR.imp op_fdivW fun x y H Q h => by
  cases x <;> cases y <;> first
    | exact False.elim h
    | exact ⟨_, _, rfl, rfl, h.1, h.2⟩
theorem op_powW : OpR X (binaryOp .Pow) (rI CPowW fun i j => .int (i ^ j.toNat)) := opI fun _ _ _ _ _ _ _ hc q => pow_int hc.1 hc.2 q
theorem ou_pow : OpR X (binaryOp .Pow) uPow := OpR.imp op_powW fun x y H Q h => by
  cases x <;> cases y <;> first
    | exact False.elim h
    | exact ⟨_, _, rfl, rfl, h.1, h.2⟩
theorem ou_eq (hu : X.A.units + 64 < cLine) : OpR X (compareOp .Eq) (uEq X.K) := OpR.or op_eq (op_eqD hu)
theorem ou_ne (hu : X.A.units + 64 < cLine) : OpR X (compareOp .NotEq) (uNe X.K) := OpR.or op_ne (op_neD hu)
theorem ou_gt : OpR X (compareOp .Gt) uGt := OpR.imp (OpR.or op_gt op_gt_str) fun x y H Q h => by
  cases x <;> cases y <;> first
    | exact False.elim h
    | exact .inl ⟨_, _, rfl, rfl, h⟩
    | exact .inr ⟨_, _, rfl, rfl, h⟩
theorem ou_le : OpR X (compareOp .LtE) uLe := OpR.imp (OpR.or op_le op_le_str) fun x y H Q h => by
  cases x <;> cases y <;> first
    | exact False.elim h
    | exact .inl ⟨_, _, rfl, rfl, h⟩
    | exact .inr ⟨_, _, rfl, rfl, h⟩
theorem ou_in : OpR X (compareOp .In) (uIn X.K) := OpR.imp (OpR.or op_in_sign op_in_seq) fun x y H Q h => by
  cases y <;> first
    | exact False.elim h
    | (obtain ⟨c, e, q⟩ := h
       exact .inl ⟨c, _, e, rfl, q⟩)
    | (obtain ⟨xs, h1, h2, h3, q⟩ := h
       exact .inr ⟨_, xs, rfl, h1, h2, h3, q⟩)
end
end Gd
namespace Gd
open PySem PySem.Spec PyProof.Rows L2
/-- all that is tracked stays, but at S -/
def Kp (S : List Addr) (H H' : Hp) : Prop := ∀ b o, H b = some o → b ∉ S → H' b = some o
section
variable {S T : List Addr} {H H1 H2 H' : Hp} {a b p : Addr} {o u : HO}
theorem Kp.refl : Kp S H H := fun _ _ h _ => h
theorem Kp.get (k : Kp S H H') (h : H b = some o) (n : b ∉ S) : H' b = some o := k b o h n
theorem Kp.get0 (k : Kp [] H H') (h : H b = some o) : H' b = some o := k b o h (by simp)
theorem Kp.new (k : Kp S H H') (h : H' p = none) : Kp S H (upd H' p o) := fun b u e n => by
  have e2 := k b u e n
  rw [upd_ne (ne_of_none e2 h)]
  exact e2
theorem Kp.mutS (k : Kp S H H') (h : p ∈ S) : Kp S H (upd H' p o) := fun b u e n => by
  rw [upd_ne (fun z => n (by rw [z]; exact h))]
  exact k b u e n
theorem Kp.call (k : Kp S H H1) (l : Kp T H1 H2) (h : ∀ t ∈ T, t ∈ S ∨ H t = none) : Kp S H H2 := fun b u e n =>
  l b u (k b u e n) fun z => (h b z).elim n fun w => by rw [e] at w; cases w
theorem Kp.mem (k : Kp S H H') (h : ∀ t ∈ S, t ∈ T) : Kp T H H' := fun b u e n => k b u e fun z => n (h b z)
theorem Same.kp (s : Same H H') : Kp S H H' := fun b u e _ => s b u e
end
section
variable {X : Cx} {K : PySem.W.Frag} {σ : L2.St} {H : Hp} {Q : VK} {D : Ends} {v x y : V} {ta tb te tc : TE} {r : R2} {t u : TS} {i : Nat}
/-- a test by truth -/
def uTru (K : PySem.W.Frag) (ta : TE) : TT := fun σ H Q => ta σ H fun x H' => ∃ k, TruV K x H' k ∧ Q k H'
theorem u_addI {a b : Int} (q : Q (.int (a + b)) H) : uAdd K (.int a) (.int b) H Q := q
theorem u_addL {a b : Addr} {xs zs : List V} (h1 : SqL K H a xs) (h2 : SqL K H b zs) (h3 : xs.length + zs.length ≤ sizeLine)
    (q : ∀ p, H p = none → Q (.ref p) (upd H p (.lst (xs ++ zs)))) : uAdd K (.ref a) (.ref b) H Q := .inl ⟨xs, zs, h1, h2, h3, q⟩
theorem u_subI {a b : Int} (q : Q (.int (a - b)) H) : uSub (.int a) (.int b) H Q := q
theorem u_mulI {a b : Int} (h : CMul a b ∨ CMulW a b) (q : Q (.int (a * b)) H) : uMul (.int a) (.int b) H Q := ⟨h, q⟩
theorem u_mulS {a : Str} {k : Int} (h1 : k < 16777217) (h2 : -16777217 < k) (h3 : a.length * k.toNat ≤ sizeLine) (q : Q (.str (strRep a k.toNat)) H) : uMul (.str a) (.int k) H Q := ⟨⟨h1, h2, h3⟩, q⟩
theorem u_mod {a b : Int} (h : 0 < b) (q : Q (.int (a % b)) H) : uMod (.int a) (.int b) H Q := ⟨h, q⟩
theorem u_div {a b : Int} (h : 0 < b) (h2 : b.natAbs.log2 < 9000) (q : Q (.int (a / b)) H) : uDiv (.int a) (.int b) H Q := ⟨⟨h, h2⟩, q⟩
theorem u_pow {a b : Int} (h : CPowW a b) (q : Q (.int (a ^ b.toNat)) H) : uPow (.int a) (.int b) H Q := ⟨h, q⟩
theorem u_eqI {a b : Int} (q : Q (.bl (decide (a = b))) H) : uEq K (.int a) (.int b) H Q := .inl ⟨rfl, by
  rw [show decide (V.int a = V.int b) = decide (a = b) by simp]
  exact q⟩
theorem u_eqS {a b : Str} (q : Q (.bl (decide (a = b))) H) : uEq K (.str a) (.str b) H Q := .inl ⟨rfl, by
  rw [show decide (V.str a = V.str b) = decide (a = b) by simp]
  exact q⟩
theorem u_eqD {d e : PyData} (h1 : Dp K H x d) (h2 : Dp K H y e) (h3 : SeqAt.shaped d = true) (h4 : SeqAt.shaped e = true) (q : Q (.bl (PyData.eqv d e)) H) : uEq K x y H Q := .inr ⟨d, e, h1, h2, h3, h4, q⟩
theorem u_neD {d e : PyData} (h1 : Dp K H x d) (h2 : Dp K H y e) (h3 : SeqAt.shaped d = true) (h4 : SeqAt.shaped e = true) (q : Q (.bl (!PyData.eqv d e)) H) : uNe K x y H Q := .inr ⟨d, e, h1, h2, h3, h4, q⟩
theorem u_gtI {a b : Int} (q : Q (.bl (decide (b < a))) H) : uGt (.int a) (.int b) H Q := q
theorem u_inS {c : Nat} {z : Str} (q : Q (.bl (decide (c ∈ tl z))) H) : uIn K (.str ⟨#[c]⟩) (.str z) H Q := ⟨c, rfl, q⟩
end
def uLen (K : PySem.W.Frag) : List V → Hp → VK → Prop := fun xs H Q => ∃ x n, xs = [x] ∧ LenV K x H n ∧ Q (.int n) H
theorem cu_len {X : Cx} : CallR X (.builtin "len") (uLen X.K) := call_len
section
variable {K : PySem.W.Frag} {H : Hp} {Q : VK} {a : Addr} {xs : List V}
theorem u_lenS {s : Str} (h : s.length ≤ sizeLine) (q : Q (.int (s.length : Int)) H) : uLen K [.str s] H Q := ⟨_, s.length, rfl, ⟨h, rfl⟩, q⟩
end
/-- isinstance by the type's name -/
def kinds : List String := ["NoneType", "bool", "int", "str", "list", "tuple", "dict"]
def isi (T C : String) : Bool := T == C || (T == "bool" && C == "int")
theorem isi_ok : ∀ T ∈ kinds, ∀ C ∈ ["bool", "int", "str", "list", "tuple", "dict"], kitB T C = some (isi T C) := by decide +kernel
inductive TyN (K : PySem.W.Frag) (H : Hp) : V → String → Prop
  | non : TyN K H .non "NoneType"
  | bl (b : Bool) : TyN K H (.bl b) "bool"
  | int (i : Int) : TyN K H (.int i) "int"
  | str (s : Str) : TyN K H (.str s) "str"
  | lst {a : Addr} {xs : List V} (h : SqL K H a xs) : TyN K H (.ref a) "list"
  | tup {a : Addr} {xs : List V} (h : H a = some (.tup xs)) : TyN K H (.ref a) "tuple"
  | dct {a : Addr} {kvs : List (Key × V)} (h : H a = some (.dK kvs)) : TyN K H (.ref a) "dict"
theorem TyN.mem {K : PySem.W.Frag} {H : Hp} {x : V} {T : String} (h : TyN K H x T) : T ∈ kinds := by
  cases h <;> decide
theorem TyN.x {K : PySem.W.Frag} {H : Hp} {x : V} {T : String} (h : TyN K H x T) : TyX K H x (.type T) := by
  cases h with
  | non => exact .base .non
  | bl b => exact .base (.bl b)
  | int i => exact .base (.int i)
  | str s => exact .base (.str s)
  | lst h =>
    rcases h with (h | ⟨o, h⟩) | ⟨o, its, n, h1, h2, _⟩
    · exact .base (.lst h)
    · exact .base (.frz h)
    · exact .kList h1 h2
  | tup h => exact .base (.tup h)
  | dct h => exact .base (.dK h)
def uIsi (K : PySem.W.Frag) : List V → Hp → VK → Prop := fun xs H Q => ∃ x C T, xs = [x, .ty C] ∧ C ∈ ["bool", "int", "str", "list", "tuple", "dict"] ∧ TyN K H x T ∧ Q (.bl (isi T C)) H
theorem cu_isi {X : Cx} : CallR X (.builtin "isinstance") (uIsi X.K) := by
  intro pins s σ H xs us Q I r h
  obtain ⟨x, C, T, rfl, hC, hT, q⟩ := h
  exact call_isi pins s σ H _ us Q I r ⟨x, .ty C, _, .type C, isi T C, rfl, .ty C, hT.x, kit_ty (isi_ok T hT.mem C hC), q⟩
theorem u_isi {K : PySem.W.Frag} {H : Hp} {Q : VK} {x : V} {C T : String} (h : TyN K H x T) (q : Q (.bl (isi T C)) H) (hC : C ∈ ["bool", "int", "str", "list", "tuple", "dict"] := by decide) : uIsi K [x, .ty C] H Q := ⟨x, C, T, rfl, hC, h, q⟩
end Gd
namespace Gd
open PySem PySem.Spec PyProof.Rows L2
mutual
inductive Dq (N : Addr → Prop) (H : Hp) : V → PyData → Prop
  | non : Dq N H .non .none
  | bl (b : Bool) : Dq N H (.bl b) (.bool b)
  | int (i : Int) : Dq N H (.int i) (.int i)
  | str (x : Str) : Dq N H (.str x) (.str x)
  | lst {a : Addr} {xs : List V} {ds : List PyData} (n : N a) (h : H a = some (.lst xs)) (r : DqL N H xs ds) : Dq N H (.ref a) (.list ds)
  | tup {a : Addr} {xs : List V} {ds : List PyData} (n : N a) (h : H a = some (.tup xs)) (r : DqL N H xs ds) : Dq N H (.ref a) (.tuple ds)
  | d0 {a : Addr} (n : N a) (h : H a = some (.dK [])) : Dq N H (.ref a) (.dict [])
inductive DqL (N : Addr → Prop) (H : Hp) : List V → List PyData → Prop
  | nil : DqL N H [] []
  | cons {v : V} {vs : List V} {d : PyData} {ds : List PyData} (h : Dq N H v d) (r : DqL N H vs ds) : DqL N H (v :: vs) (d :: ds)
end
section
variable {N M : Addr → Prop} {H H' : Hp} {S : List Addr}
mutual
theorem Dq.mono (k : ∀ b o, N b → H b = some o → H' b = some o) (m : ∀ b, N b → M b) : ∀ (d : PyData) (v : V), Dq N H v d → Dq M H' v d
  | .none, _, h => by cases h; exact .non
  | .bool b, _, h => by cases h; exact .bl b
  | .int i, _, h => by cases h; exact .int i
  | .str x, _, h => by cases h; exact .str x
  | .list ds, _, h => by
    cases h with
    | lst n h r => exact .lst (m _ n) (k _ _ n h) (DqL.mono k m ds _ r)
  | .tuple ds, _, h => by
    cases h with
    | tup n h r => exact .tup (m _ n) (k _ _ n h) (DqL.mono k m ds _ r)
  | .dict _, _, h => by
    cases h with
    | d0 n h => exact .d0 (m _ n) (k _ _ n h)
theorem DqL.mono (k : ∀ b o, N b → H b = some o → H' b = some o) (m : ∀ b, N b → M b) : ∀ (ds : List PyData) (vs : List V), DqL N H vs ds → DqL M H' vs ds
  | [], _, h => by cases h; exact .nil
  | d :: ds, _, h => by
    cases h with
    | cons h r => exact .cons (Dq.mono k m d _ h) (DqL.mono k m ds _ r)
end
theorem Dq.kp {d : PyData} {v : V} (h : Dq N H v d) (k : Kp S H H') (n : ∀ b, N b → b ∉ S) : Dq N H' v d := Dq.mono (fun b o a e => k b o e (n b a)) (fun _ a => a) d v h
theorem DqL.kp {ds : List PyData} {vs : List V} (h : DqL N H vs ds) (k : Kp S H H') (n : ∀ b, N b → b ∉ S) : DqL N H' vs ds := DqL.mono (fun b o a e => k b o e (n b a)) (fun _ a => a) ds vs h
theorem Dq.new {d : PyData} {v : V} {p : Addr} {o : HO} (h : Dq N H v d) (np : H p = none) : Dq N (upd H p o) v d :=
  Dq.mono (fun b u _ e => by rw [upd_ne (ne_of_none e np)]; exact e) (fun _ a => a) d v h
theorem DqL.new {d : List PyData} {v : List V} {p : Addr} {o : HO} (h : DqL N H v d) (np : H p = none) : DqL N (upd H p o) v d :=
  DqL.mono (fun b u _ e => by rw [upd_ne (ne_of_none e np)]; exact e) (fun _ a => a) d v h
theorem Dq.mut {d : PyData} {v : V} {p : Addr} {o : HO} (h : Dq N H v d) (np : ¬ N p) : Dq N (upd H p o) v d :=
  Dq.mono (fun b u a e => by rw [upd_ne (fun z => np (by rw [← z]; exact a))]; exact e) (fun _ a => a) d v h
theorem DqL.mut {d : List PyData} {v : List V} {p : Addr} {o : HO} (h : DqL N H v d) (np : ¬ N p) : DqL N (upd H p o) v d :=
  DqL.mono (fun b u a e => by rw [upd_ne (fun z => np (by rw [← z]; exact a))]; exact e) (fun _ a => a) d v h
theorem DqL.app : ∀ {vs us : List V} {ds es : List PyData}, DqL N H vs ds → DqL N H us es → DqL N H (vs ++ us) (ds ++ es)
  | [], _, _, _, h, g => by cases h; exact g
  | v :: vs, _, _, _, h, g => by
    cases h with
    | cons h r => exact .cons h (r.app g)
theorem DqL.get : ∀ {vs : List V} {ds : List PyData} {i : Nat} {v : V}, DqL N H vs ds → vs[i]? = some v → ∃ d, ds[i]? = some d ∧ Dq N H v d
  | [], _, i, _, _, e => by simp at e
  | u :: vs, _, 0, v, h, e => by
    cases h with
    | cons h r =>
      simp at e
      subst e
      exact ⟨_, rfl, h⟩
  | u :: vs, _, i + 1, v, h, e => by
    cases h with
    | cons h r =>
      obtain ⟨d, e2, h2⟩ := r.get (i := i) (by simpa using e)
      exact ⟨d, by simpa using e2, h2⟩
mutual
theorem Dq.dp {K : PySem.W.Frag} : ∀ (d : PyData) (v : V), d.hasDict = false → Dq N H v d → Dp K H v d
  | .none, _, _, h => by cases h; exact .non
  | .bool b, _, _, h => by cases h; exact .bl b
  | .int i, _, _, h => by cases h; exact .int i
  | .str x, _, _, h => by cases h; exact .str x
  | .list ds, _, z, h => by
    cases h with
    | lst n h r => exact .lst (SqL.of h) (DqL.dp ds _ (by simpa only [PyData.hasDict] using z) r)
  | .tuple ds, _, z, h => by
    cases h with
    | tup n h r => exact .tup (SqT.of h) (DqL.dp ds _ (by simpa only [PyData.hasDict] using z) r)
  | .dict _, _, z, _ => by simp [PyData.hasDict] at z
theorem DqL.dp {K : PySem.W.Frag} : ∀ (ds : List PyData) (vs : List V), PyData.hasDictAll ds = false → DqL N H vs ds → DpAll K H vs ds
  | [], _, _, h => by cases h; exact .nil
  | d :: ds, _, z, h => by
    simp only [PyData.hasDictAll, Bool.or_eq_false_iff] at z
    cases h with
    | cons h r => exact .cons (Dq.dp d _ z.1 h) (DqL.dp ds _ z.2 r)
end
end
theorem noDict_shaped (d : PyData) (h : SeqAt.shaped d = true) : d.hasDict = false := PyData.hasDict_of_canLay d (by
  unfold SeqAt.shaped at h
  simp only [Bool.and_eq_true] at h
  exact h.1)
section
variable {X : Cx} {N : Addr → Prop} {pins : List (Addr × Obj)} {σ : L2.St} {H : Hp} {s : Shared}
/-- the empty dict as it stands -/
theorem d0_at (I : Inv X pins σ H s) {a : Addr} (h : H a = some (.dK [])) : ∃ o es n, s.heap.get? a = some o ∧ o.cls = .type "dict" ∧ o.data = .dict es n ∧ es.toList = [] ∧ (a == sysModules) = false := by
  obtain ⟨_, hm, vs, kv, o, es, ep, h1, h2, h3, h4, h5, h6⟩ := (show ObjOk X.prog X.w H s.heap _ (.dK []) from I.hok _ _ h)
  cases kv
  refine ⟨o, es, ep, h1, h2.1, h3, ?_, hm⟩
  revert h5
  generalize es.toList = l
  intro h5
  cases h5
  rfl
mutual
theorem Dq.rds (I : Inv X pins σ H s) : ∀ (d : PyData) (v : V) (u : Value), Dq N H v d → RelV v u → ∃ as, Reads s.heap u d as
  | .none, _, _, h, r => by
    cases h
    cases r
    exact ⟨_, Reads.none⟩
  | .bool b, _, _, h, r => by
    cases h
    cases r
    exact ⟨_, Reads.bool b⟩
  | .int i, _, _, h, r => by
    cases h
    obtain ⟨t, rfl⟩ := r
    exact ⟨_, Reads.int i t⟩
  | .str x, _, _, h, r => by
    cases h
    obtain ⟨t, rfl⟩ := r
    exact ⟨_, Reads.str x t⟩
  | .list ds, _, _, h, r => by
    cases h with
    | lst _ hs ha =>
      cases r
      obtain ⟨its, rv, ⟨o, n, ho, hc, _, hd⟩, _⟩ := I.list (SqL.of hs)
      obtain ⟨as, hr⟩ := DqL.rds I ds _ its ha rv
      exact ⟨_, Reads.list ho hc hd hr⟩
  | .tuple ds, _, _, h, r => by
    cases h with
    | tup _ hs ha =>
      cases r
      obtain ⟨its, rv, ⟨o, ho, hc, n, hd⟩, _⟩ := I.tuple (SqT.of hs)
      obtain ⟨as, hr⟩ := DqL.rds I ds _ its ha rv
      exact ⟨_, Reads.tuple ho hc hd hr⟩
  | .dict _, _, _, h, r => by
    cases h with
    | d0 _ hs =>
      cases r
      obtain ⟨o, es, n, h1, h2, h3, e0, _⟩ := d0_at I hs
      exact ⟨_, Reads.dict h1 h2 h3 (by rw [e0]; exact ReadsAll.nil) (by rw [e0]; exact ReadsAll.nil)⟩
theorem DqL.rds (I : Inv X pins σ H s) : ∀ (ds : List PyData) (vs : List V) (us : List Value), DqL N H vs ds → Vals vs us → ∃ as, ReadsAll s.heap us ds as
  | [], _, _, h, r => by
    cases h
    cases r
    exact ⟨_, ReadsAll.nil⟩
  | d :: ds, _, _, h, r => by
    cases h with
    | cons h1 h2 =>
      cases r with
      | cons r1 r2 =>
        obtain ⟨as, q1⟩ := Dq.rds I d _ _ h1 r1
        obtain ⟨bs, q2⟩ := DqL.rds I ds _ _ h2 r2
        exact ⟨_, ReadsAll.cons q1 q2⟩
end
mutual
theorem Dq.reprK (I : Inv X pins σ H s) : ∀ (d : PyData) (v : V) (u : Value), Dq N H v d → RelV v u → d.showable = true → d.shown.length ≤ sizeLine →
    ∃ bs, ReadAtMost s.heap d.depth bs ∧ ReprK X.prog X.w bs s.heap d.depth u d.shown
  | .none, _, _, h, r, _, _ => by
    cases h
    cases r
    exact ⟨[], (fun _ h => nomatch h), by simp only [PyData.shown]; exact .of_is ReprIs.none _ _ _⟩
  | .bool b, _, _, h, r, _, _ => by
    cases h
    cases r
    exact ⟨[], (fun _ h => nomatch h), by simp only [PyData.shown]; exact .of_is (ReprIs.bool b) _ _ _⟩
  | .int i, _, _, h, r, hs, _ => by
    cases h
    obtain ⟨t, rfl⟩ := r
    exact ⟨[], (fun _ h => nomatch h), by simp only [PyData.shown]; exact .of_is (ReprIs.int t (by simpa [PyData.showable] using hs)) _ _ _⟩
  | .str x, _, _, h, r, _, hz => by
    cases h
    obtain ⟨t, rfl⟩ := r
    exact ⟨[], (fun _ h => nomatch h), by simp only [PyData.shown]; exact .of_is (ReprIs.str x t (by simpa only [PyData.shown] using hz)) _ _ _⟩
  | .list ds, _, _, h, r, hs, hz => by
    have hq := h
    cases h with
    | lst _ hl ha =>
      cases r
      obtain ⟨_, rd⟩ := Dq.rds I _ _ _ hq (show RelV (.ref _) (Value.ref _) from rfl)
      obtain ⟨its, rv, ⟨o, n, ho, hc, _, hd⟩, _⟩ := I.list (SqL.of hl)
      have hz' : (listText (PyData.shownAll ds)).length ≤ sizeLine := by simpa only [PyData.shown] using hz
      obtain ⟨bs, hb, hk⟩ := DqL.reprK I ds _ its ha rv (by simpa [PyData.showable] using hs) (fun t ht => Nat.le_trans (listText_mem_le ht) hz')
      have hna := not_mem_of_deeper rd (by simp only [PyData.depth]; omega) hb
      refine ⟨_ :: bs, ReadAtMost.cons rd (by simp only [PyData.depth]; omega) hb, ?_⟩
      simp only [PyData.depth, PyData.shown]
      cases its with
      | nil =>
        cases rv
        cases ha
        simp only [PyData.shownAll, listText_nil]
        exact ReprK.listEmpty ho hc hd
      | cons x l => exact ReprK.list ho hc hd hna (by simpa using hk.length_eq) (fun i y e => hk.item i y (by simpa using e))
  | .tuple ds, _, _, h, r, hs, hz => by
    have hq := h
    cases h with
    | tup _ hl ha =>
      cases r
      obtain ⟨_, rd⟩ := Dq.rds I _ _ _ hq (show RelV (.ref _) (Value.ref _) from rfl)
      obtain ⟨its, rv, ⟨o, ho, hc, n, hd⟩, _⟩ := I.tuple (SqT.of hl)
      have hz' : (tupleText (PyData.shownAll ds)).length ≤ sizeLine := by simpa only [PyData.shown] using hz
      obtain ⟨bs, hb, hk⟩ := DqL.reprK I ds _ its ha rv (by simpa [PyData.showable] using hs) (fun t ht => Nat.le_trans (tupleText_mem_le ht) hz')
      have hna := not_mem_of_deeper rd (by simp only [PyData.depth]; omega) hb
      refine ⟨_ :: bs, ReadAtMost.cons rd (by simp only [PyData.depth]; omega) hb, ?_⟩
      simp only [PyData.depth, PyData.shown]
      exact ReprK.tuple ho hc hd hna hk
  | .dict _, _, _, h, r, hs, hz => by
    have hq := h
    cases h with
    | d0 _ hl =>
      cases r
      obtain ⟨_, rd⟩ := Dq.rds I _ _ _ hq (show RelV (.ref _) (Value.ref _) from rfl)
      obtain ⟨o, es, n, h1, h2, h3, e0, hsys⟩ := d0_at I hl
      refine ⟨[_], ReadAtMost.cons (n := 0) rd (Nat.zero_le _) (fun _ h => nomatch h), ?_⟩
      simp only [PyData.depth, PyData.shown]
      exact ReprK.dict h1 h2 h3 hsys (as := []) (by simp) (by rw [e0]; exact .nil)
theorem DqL.reprK (I : Inv X pins σ H s) : ∀ (ds : List PyData) (vs : List V) (us : List Value), DqL N H vs ds → Vals vs us → PyData.showableAll ds = true → (∀ t ∈ PyData.shownAll ds, t.length ≤ sizeLine) →
    ∃ bs, ReadAtMost s.heap (PyData.depthAll ds) bs ∧ ReprAllK X.prog X.w bs s.heap (PyData.depthAll ds) us (PyData.shownAll ds)
  | [], _, _, h, r, _, _ => by
    cases h
    cases r
    exact ⟨[], (fun _ h => nomatch h), by simp only [PyData.shownAll]; exact .nil⟩
  | d :: ds, _, _, h, r, hs, hz => by
    cases h with
    | cons h1 h2 =>
      cases r with
      | cons r1 r2 =>
        have hs' : d.showable = true ∧ PyData.showableAll ds = true := by simpa [PyData.showableAll] using hs
        obtain ⟨b1, hb1, k1⟩ := Dq.reprK I d _ _ h1 r1 hs'.1 (hz _ (by simp only [PyData.shownAll]; exact List.mem_cons_self ..))
        obtain ⟨b2, hb2, k2⟩ := DqL.reprK I ds _ _ h2 r2 hs'.2 (fun t ht => hz t (by simp only [PyData.shownAll]; exact List.mem_cons_of_mem _ ht))
        refine ⟨b1 ++ b2, ?_, ?_⟩
        · intro b hm
          simp only [PyData.depthAll]
          rcases List.mem_append.mp hm with hm | hm
          · obtain ⟨d', as', r', hd'⟩ := hb1 b hm
            exact ⟨d', as', r', Nat.le_trans hd' (Nat.le_max_left _ _)⟩
          · obtain ⟨d', as', r', hd'⟩ := hb2 b hm
            exact ⟨d', as', r', Nat.le_trans hd' (Nat.le_max_right _ _)⟩
        · simp only [PyData.depthAll, PyData.shownAll]
          exact .cons ((k1.more fun b hb => List.mem_append_left _ hb).level_le (Nat.le_max_left _ _)) (k2.more_le (fun b hb => List.mem_append_right _ hb) (Nat.le_max_right _ _))
end
/-- lists and tuples shown, with empty dicts in them -/
theorem dq_shows (I : Inv X pins σ H s) {d : PyData} {a : Addr} (h : Dq N H (.ref a) d) (hs : d.showable = true) (hsz : d.shown.length ≤ sizeLine) : ∃ T idr, ShowsBy X.prog X.w s.heap a d T idr := by
  have hq := h
  obtain ⟨_, rd⟩ := Dq.rds I _ _ _ hq (show RelV (.ref a) (Value.ref a) from rfl)
  cases h with
  | @lst _ xs ds _ hl ha =>
    obtain ⟨its, rv, ⟨o, n, ho, hc, _, hd⟩, _⟩ := I.list (SqL.of hl)
    have hz' : (listText (PyData.shownAll ds)).length ≤ sizeLine := by simpa only [PyData.shown] using hsz
    obtain ⟨bs, hb, hk⟩ := DqL.reprK I ds _ its ha rv (by simpa [PyData.showable] using hs) (fun t ht => Nat.le_trans (listText_mem_le ht) hz')
    have hna : a ∉ bs := not_mem_of_deeper rd (by simp only [PyData.depth]; omega) hb
    refine ⟨"list", "list.__repr__", F.slot_list_repr.toG, F.slot_list_str, F.slot_list_format, fun s hk0 => ⟨o, hk0 _ _ ho, hc⟩, fun A E s Q hg hu hk0 hQ => ?_⟩
    simp only [PyData.depth] at hu
    simp only [PyData.shown] at hQ
    cases its with
    | nil =>
      cases rv
      cases ha
      simp only [PyData.shownAll, listText_nil] at hQ
      exact call_list_repr_empty ⟨o, hk0 _ _ ho, hc⟩ (hk0 _ _ ho) hd (hQ s.heap _ _ fun _ _ e => e)
    | cons x l =>
      exact call_list_reprK ho hc hd hna (by simpa using hk.length_eq) (fun i y e => hk.item i y (by simpa using e)) hg (fun b _ => Clear.nil b) hu hk0 hQ hz'
  | @tup _ xs ds _ hl ha =>
    obtain ⟨its, rv, ⟨o, ho, hc, n, hd⟩, _⟩ := I.tuple (SqT.of hl)
    have hz' : (tupleText (PyData.shownAll ds)).length ≤ sizeLine := by simpa only [PyData.shown] using hsz
    obtain ⟨bs, hb, hk⟩ := DqL.reprK I ds _ its ha rv (by simpa [PyData.showable] using hs) (fun t ht => Nat.le_trans (tupleText_mem_le ht) hz')
    have hna : a ∉ bs := not_mem_of_deeper rd (by simp only [PyData.depth]; omega) hb
    refine ⟨"tuple", "tuple.__repr__", F.slot_tuple_repr, F.slot_tuple_str, F.slot_tuple_format, fun s hk0 => ⟨o, hk0 _ _ ho, hc⟩, fun A E s Q hg hu hk0 hQ => ?_⟩
    simp only [PyData.depth] at hu
    simp only [PyData.shown] at hQ
    exact call_tuple_reprK ho hc hd hna hk hg (fun b _ => Clear.nil b) hu hk0 hQ hz'
  | d0 _ hl =>
    obtain ⟨o, es, n, h1, h2, h3, e0, hsys⟩ := d0_at I hl
    refine showsBy_of_reads rd hs (fun _ => ?_) hsz
    obtain ⟨as, rd2, hn⟩ : ∃ as, Reads s.heap (.ref a) (.dict []) as ∧ sysModules ∉ as := ⟨_, Reads.dict h1 h2 h3 (by rw [e0]; exact ReadsAll.nil) (by rw [e0]; exact ReadsAll.nil), by
      intro z
      simp at z
      rw [← z] at hsys
      simp at hsys⟩
    rw [← (PyProof.Rows.reads_det (fun _ _ e _ => e) rd rd2).2]
    exact hn
end
mutual
def fine : PyData → Bool
  | .none | .bool _ => true
  | .int i => decide (i.natAbs.log2 < 1900)
  | .str x => (tl x).all fun c => decide (c < 1114112)
  | .list xs | .tuple xs => fineAll xs
  | .dict kvs => kvs.isEmpty
def fineAll : List PyData → Bool
  | [] => true
  | x :: xs => fine x && fineAll xs
end
mutual
def sz : PyData → Nat
  | .none | .bool _ => 5
  | .int _ => 2000
  | .str x => 10 * x.length + 2
  | .list xs | .tuple xs => szAll xs + 5
  | .dict _ => 2
def szAll : List PyData → Nat
  | [] => 0
  | x :: xs => sz x + 2 + szAll xs
end
theorem int_len (i : Int) (h : i.natAbs.log2 < 1900) : (Str.ofString (toString i)).length ≤ 2000 := by
  have hn : i.natAbs < 2 ^ 1900 := by
    by_cases z : i.natAbs = 0
    · rw [z]
      exact Nat.pow_pos (by decide)
    · exact (Nat.log2_lt z).mp h
  have e : (Str.ofString (toString i)).length = (toString i).length := by
    rw [TL.len_tl, TL.tl_ofString, List.length_map, String.length_toList]
  rw [e]
  cases i with
  | ofNat n =>
    have h2 : n < 2 ^ 1900 := by simpa using hn
    have h3 := nat_repr_length_le (n := n) (k := 1900) (by decide) h2
    show (Nat.repr n).length ≤ 2000
    omega
  | negSucc n =>
    have h2 : n + 1 < 2 ^ 1900 := by simpa using hn
    have h3 := nat_repr_length_le (n := n + 1) (k := 1900) (by decide) h2
    show ("-" ++ Nat.repr (n + 1)).length ≤ 2000
    rw [String.length_append]
    have : ("-" : String).length = 1 := rfl
    omega
mutual
theorem shown_len : ∀ d : PyData, fine d = true → d.shown.length ≤ sz d
  | .none, _ => by
    show (4 : Nat) ≤ 5
    decide
  | .bool b, _ => by cases b <;> decide
  | .int i, h => int_len i (of_decide_eq_true (by simpa only [fine] using h))
  | .str x, h => by
    simp only [PyData.shown, sz]
    refine StrLaws.reprText_len x fun c hc => ?_
    simp only [fine, List.all_eq_true, decide_eq_true_eq] at h
    exact Nat.lt_trans (h c hc) (by decide)
  | .list xs, h => by
    simp only [PyData.shown, sz]
    have q := shownAll_len xs (by simpa only [fine] using h)
    have e := listText_len_le (PyData.shownAll xs)
    omega
  | .tuple xs, h => by
    simp only [PyData.shown, sz]
    have q := shownAll_len xs (by simpa only [fine] using h)
    have e := tupleText_len_le (PyData.shownAll xs)
    omega
  | .dict kvs, h => by
    cases kvs with
    | nil => decide +kernel
    | cons _ _ => simp [fine] at h
theorem shownAll_len : ∀ ds : List PyData, fineAll ds = true → ((PyData.shownAll ds).map (·.length)).sum + 2 * (PyData.shownAll ds).length ≤ szAll ds
  | [], _ => Nat.le_refl _
  | d :: ds, h => by
    simp only [fineAll, Bool.and_eq_true] at h
    have h1 := shown_len d h.1
    have h2 := shownAll_len ds h.2
    simp only [PyData.shownAll, szAll, List.map_cons, List.sum_cons, List.length_cons]
    omega
end
mutual
theorem fine_showable : ∀ d : PyData, fine d = true → d.showable = true
  | .none, _ => by simp [PyData.showable]
  | .bool _, _ => by simp [PyData.showable]
  | .str _, _ => by simp [PyData.showable]
  | .int i, h => by
    simp only [fine, decide_eq_true_eq] at h
    simp only [PyData.showable, decide_eq_true_eq]
    omega
  | .list xs, h => by
    simp only [PyData.showable]
    exact fineAll_showable xs (by simpa only [fine] using h)
  | .tuple xs, h => by
    simp only [PyData.showable]
    exact fineAll_showable xs (by simpa only [fine] using h)
  | .dict kvs, h => by
    cases kvs with
    | nil => simp [PyData.showable, PyData.showableKv]
    | cons _ _ => simp [fine] at h
theorem fineAll_showable : ∀ ds : List PyData, fineAll ds = true → PyData.showableAll ds = true
  | [], _ => by simp [PyData.showableAll]
  | d :: ds, h => by
    simp only [fineAll, Bool.and_eq_true] at h
    simp only [PyData.showableAll, Bool.and_eq_true]
    exact ⟨fine_showable d h.1, fineAll_showable ds h.2⟩
end
/-- data, or the empty dict alone -/
inductive DqT (N : Addr → Prop) (H : Hp) : V → PyData → Prop
  | of {v : V} {d : PyData} (h : Dq N H v d) : DqT N H v d
  | d0 {a : Addr} (n : N a) (h : H a = some (.dK [])) : DqT N H (.ref a) (.dict [])
/-- small enough to be shown -/
structure Sm (d : PyData) : Prop where
  fine : fine d = true
  sz : sz d ≤ 10000000
  dep : d.depth ≤ 60
def uRepr : List V → Hp → VK → Prop := fun xs H Q => ∃ N x d, xs = [x] ∧ DqT N H x d ∧ Sm d ∧ Q (.str d.shown) H
theorem cu_repr {X : Cx} (hg : X.A.guards = some []) (hu : X.A.units + 100 < cLine) : CallR X (.builtin "repr") uRepr := by
  intro pins s σ H xs us Q I r h
  obtain ⟨N, x, d, rfl, hd, hs, q⟩ := h
  have hL : d.shown.length ≤ sizeLine := by
    have h1 := shown_len d hs.fine
    have h2 := hs.sz
    rw [sizeLine_eq]
    omega
  obtain ⟨u, rfl, rx⟩ := vals1 r
  have dep := hs.dep
  have viaQ : ∀ {N : Addr → Prop} {a : Addr}, Dq N H (.ref a) d → u = .ref a → wpAny (model X.prog X.w) X.A (call (.builtin "repr") [u]) (EP X pins σ Q) X.xe s := fun {N a} hq e => by
    subst e
    obtain ⟨T, idr, S⟩ := dq_shows I hq (fine_showable _ hs.fine) hL
    exact call_repr_slot (by omega) (S.typeIs s fun _ _ e => e) S.slotRepr (S.call X.A.in1 X.xe s _ hg (by show X.A.units + 1 + d.depth < cLine; omega) (fun _ _ e => e) fun h' u tk hk => ⟨_, _, rfl, ⟨.str _, H, I.kept (t' := tk) hk, ⟨u, rfl⟩, q⟩⟩)
  cases hd with
  | d0 n h => exact viaQ (Dq.d0 n h) (show u = Value.ref _ from rx)
  | of hq =>
    cases d with
    | none =>
      cases hq
      cases (show u = Value.none from rx)
      exact PySem.P.repr_of_none ⟨.str _, H, I.tok _, ⟨_, rfl⟩, q⟩
    | bool b =>
      cases hq
      cases (show u = Value.bool b from rx)
      cases b
      · exact PySem.P.repr_of_bool ⟨.str _, H, I.tok _, ⟨_, rfl⟩, q⟩
      · exact PySem.P.repr_of_bool ⟨.str _, H, I.tok _, ⟨_, rfl⟩, q⟩
    | int i =>
      cases hq
      obtain ⟨t, rfl⟩ := rx
      have hf := hs.fine
      simp only [fine, decide_eq_true_eq] at hf
      exact PySem.P.repr_of_int (by omega) ⟨.str _, H, I.tok _, ⟨_, rfl⟩, q⟩
    | str z =>
      cases hq
      obtain ⟨t, rfl⟩ := rx
      exact PySem.P.repr_of_str ⟨.str _, H, I.tok _, ⟨_, rfl⟩, q⟩ hL
    | list ds =>
      have hq' := hq
      cases hq
      exact viaQ hq' (show u = Value.ref _ from rx)
    | tuple ds =>
      have hq' := hq
      cases hq
      exact viaQ hq' (show u = Value.ref _ from rx)
    | dict _ =>
      have hq' := hq
      cases hq
      exact viaQ hq' (show u = Value.ref _ from rx)
theorem u_repr {N : Addr → Prop} {H : Hp} {Q : VK} {x : V} {d : PyData} (h : DqT N H x d) (s : Sm d) (q : Q (.str d.shown) H) : uRepr [x] H Q := ⟨N, x, d, rfl, h, s, q⟩
end Gd
namespace Gd
open PySem PySem.Spec PyProof.Rows L2
/-- what a for walks: a list, a tuple, a text -/
def iU (K : PySem.W.Frag) (te : TE) : TI := fun σ H R => te σ H fun v H1 =>
  (∃ a, v = .ref a ∧ (∃ xs, SqL K H1 a xs) ∧ R (Itl K a) H1) ∨ (∃ a, v = .ref a ∧ (∃ xs, SqT K H1 a xs) ∧ R (Itt K a) H1) ∨ ∃ x, v = .str x ∧ R (Its x) H1
theorem pi_u {X : Cx} {tg e : Expr} {te : TE} (he : PE X e te) : PI X tg e (iU X.K te) := by
  refine ⟨fun pins s σ H R I h => ?_⟩
  refine thn (he.run pins s σ H _ I h) fun v s1 ⟨y, H1, I1, r1, q1⟩ => ?_
  have one : ∀ b ∈ [s1.heap.objs.size], FpOk X pins H1 b := fun b hb => by
    rw [show b = s1.heap.objs.size by simpa using hb]
    exact I1.fpOk (Nat.le_refl _) (I1.hok.fresh (Nat.le_refl _))
  rcases q1 with ⟨a, rfl, ⟨xs, hq⟩, q⟩ | ⟨a, rfl, ⟨xs, hq⟩, q⟩ | ⟨x, rfl, q⟩
  · cases r1
    obtain ⟨its, rv, p, hz⟩ := I1.list hq
    exact wpAny_pyIter_list p.isList ⟨s1.heap.objs.size, [s1.heap.objs.size], _, _, H1, rfl,
      I1.kept (t' := s1.toks) fun b o e => Heap.get?_push_of_some _ e, turn_list a _, ⟨_, Heap.get?_push_size _ rfl, rfl, rfl⟩, one, q⟩
  · cases r1
    obtain ⟨its, rv, p, hz⟩ := I1.tuple hq
    exact wpAny_pyIter_tuple (show s1.heap.IsTuple a its.toArray from p) ⟨s1.heap.objs.size, [s1.heap.objs.size], _, _, H1, rfl,
      I1.kept (t' := s1.toks) fun b o e => Heap.get?_push_of_some _ e, turn_tuple a _, ⟨_, Heap.get?_push_size _ rfl, rfl, rfl⟩, one, q⟩
  · obtain ⟨t, rfl⟩ := r1
    cases ha : x.cps.all (· < 128)
    · exact wpAny_pyIter_wide ha (pi_one (tk := s1.toks) I1 _ (turn_str _ x t "str_iterator" (.inr rfl)) ⟨_, Heap.get?_push_size _ rfl, rfl, rfl⟩ q)
    · exact wpAny_pyIter_ascii ha (pi_one (tk := s1.toks) I1 _ (turn_str _ x t "str_ascii_iterator" (.inl rfl)) ⟨_, Heap.get?_push_size _ rfl, rfl, rfl⟩ q)
section
variable {K : PySem.W.Frag} {σ : L2.St} {H : Hp} {D : Ends} {g : TG} {tb : TS} {te : TE} {ta : TA} {Q : VK} {tt : TT} {ws : List Nat}
abbrev inD (D : Ends) (N : L2.St → Hp → Prop) : Ends := { D with nx := N, ct := N, bk := D.nx }
/-- the rest of a for, once its walk J has come -/
def Rf (g : TG) (tb : TS) (D : Ends) (σ : L2.St) (J : It) (H1 : Hp) : Prop := ∃ W : Nat → Nat → L2.St → Hp → Prop, (∃ m, W 0 m σ H1) ∧ ∀ i m σ H, W i m σ H →
  (J.stop i H ∧ D.nx σ H) ∨ (J.go i H ∧ ∃ N : L2.St → Hp → Prop, (∀ σ' H', N σ' H' → ∃ m', m' < m ∧ W (i + 1) m' σ' H') ∧
    ∀ x H', J.yld i H x H' → g x σ H' fun σ2 H2 => tb (inD D N) σ2 H2)
/-- the rest of a comprehension -/
def Rl (g : TG) (tt : TT) (te : TE) (ws : List Nat) (σ : L2.St) (Q : VK) (J : It) (H1 : Hp) : Prop := ∀ D, H1 D = none → ∃ W : Nat → Nat → Hp → Prop,
  (∃ m, W 0 m (upd H1 D (.lst []))) ∧ ∀ i m H, W i m H → (J.stop i H ∧ Q (.ref D) H) ∨ (J.go i H ∧ ∃ Nx : Hp → Prop, (∀ H', Nx H' → ∃ m', m' < m ∧ W (i + 1) m' H') ∧
    ∀ x H', J.yld i H x H' → g x (wipe σ ws) H' fun σ2 H2 => wipe σ2 ws = wipe σ ws ∧ tt σ2 H2 fun b H3 =>
      if b = true then te σ2 H3 fun y H4 => ∃ acc, H4 D = some (.lst acc) ∧ acc.length < sizeLine ∧ Nx (upd H4 D (.lst (acc ++ [y]))) else Nx H3)
def wU (K : PySem.W.Frag) (R : It → Hp → Prop) (v : V) (H1 : Hp) : Prop :=
  (∃ a, v = .ref a ∧ (∃ xs, SqL K H1 a xs) ∧ R (Itl K a) H1) ∨ (∃ a, v = .ref a ∧ (∃ xs, SqT K H1 a xs) ∧ R (Itt K a) H1) ∨ ∃ x, v = .str x ∧ R (Its x) H1
def wR1 (R : It → Hp → Prop) (vs : List V) (H1 : Hp) : Prop := ∃ j : Int, vs = [.int j] ∧ -(2 ^ 62) ≤ j ∧ j < 2 ^ 62 ∧ R (Itr 0 j.toNat) H1
def wE (K : PySem.W.Frag) (R : It → Hp → Prop) (vs : List V) (H1 : Hp) : Prop := ∃ a xs, vs = [.ref a] ∧ SqL K H1 a xs ∧ R (Ite K a) H1
theorem rd_for1 (q : ta σ H fun v H1 => wR1 (Rf g tb D σ) v H1) : tFor (iRng1 ta) g tb D σ H := q
theorem rd_forE (q : ta σ H fun v H1 => wE K (Rf g tb D σ) v H1) : tFor (iEnum K ta) g tb D σ H := q
theorem rd_lcU {te1 : TE} (q : te1 σ H fun v H1 => wU K (Rl g tt te ws σ Q) v H1) : tLc (iU K te1) g tt te ws σ H Q := q
theorem rd_lc1 (q : ta σ H fun v H1 => wR1 (Rl g tt te ws σ Q) v H1) : tLc (iRng1 ta) g tt te ws σ H Q := q
theorem rf_it {J : It} {n : Nat} {G : Hp → Prop} {Y : Nat → Hp → V → Hp → Prop} (w : Walk J n G Y) (Pv : Nat → L2.St → Hp → Prop) (h0 : Pv 0 σ H)
    (hG : ∀ i σ H, Pv i σ H → G H) (hs : ∀ i x σ H H', i < n → Pv i σ H → Y i H x H' → g x σ H' fun σ2 H2 => tb (inD D (Pv (i + 1))) σ2 H2)
    (hd : ∀ σ H, Pv n σ H → D.nx σ H) : Rf g tb D σ J H := for_it w Pv h0 (fun i σ H _ p => hG i σ H p) hs hd
/-- one turn: the item's text, kept or not -/
def lcT (g : TG) (tt : TT) (te : TE) (ws : List Nat) (σ : L2.St) (D : Addr) (P : Hp → Prop) (x : V) (H' : Hp) : Prop :=
  g x (wipe σ ws) H' fun σ2 H2 => wipe σ2 ws = wipe σ ws ∧ tt σ2 H2 fun b H3 =>
      if b = true then te σ2 H3 fun y H4 => ∃ acc, H4 D = some (.lst acc) ∧ acc.length < sizeLine ∧ P (upd H4 D (.lst (acc ++ [y]))) else P H3
theorem rl_it {J : It} {n : Nat} {G : Hp → Prop} {Y : Nat → Hp → V → Hp → Prop} (w : Walk J n G Y)
    (h : ∀ C, H C = none → ∃ Pv : Nat → Hp → Prop, Pv 0 (upd H C (.lst [])) ∧ (∀ i H, Pv i H → G H) ∧
      (∀ i x H H', i < n → Pv i H → Y i H x H' → lcT g tt te ws σ C (Pv (i + 1)) x H') ∧ ∀ H, Pv n H → Q (.ref C) H) : Rl g tt te ws σ Q J H := by
  intro C hC
  obtain ⟨Pv, h0, hG, hs, hd⟩ := h C hC
  refine ⟨fun i m H => m = n - i ∧ i ≤ n ∧ Pv i H, ⟨n, by simp, Nat.zero_le _, h0⟩, ?_⟩
  rintro i m H ⟨rfl, hi, p⟩
  by_cases hlt : i < n
  · exact .inr ⟨w.goes i H hlt (hG i H p), Pv (i + 1), fun H' p' => ⟨n - (i + 1), by omega, rfl, hlt, p'⟩, fun x H' y => hs i x H H' hlt p (w.yields i H x H' hlt (hG i H p) y)⟩
  · have e : i = n := by omega
    subst e
    exact .inl ⟨w.stops H (hG i H p), hd H p⟩
end
end Gd
namespace Gd
open PySem PySem.Spec PyProof.Rows L2
/-- a def of the module, by its name: where it stands and what it promises -/
structure GC (P : Program) (w : World) (K : PySem.W.Frag) (mg : Str → Option Value) (base : Heap) (k : Nat) (x : Str) (sp : Sp) : Prop where
  ex : ∃ (f : Addr) (fd : FuncData) (ps : List Str), mg x = some (.ref f) ∧ PySem.W.keepIn K (.ref f) = true ∧ Binds K fd ps [] ∧ GFn P w K mg base CX0 k f fd ps sp
section
variable {X : Cx} {k j : Nat} {sp : Sp} {x : Str} {p pos : Pos} {e : Expr} {es : List Expr} {t : TA} {ta tb tc : TE} {a b c : Expr}
theorem pe_gc (cc : GC X.prog X.w X.K X.mg X.base k x sp) (gd : X.A.guards = some []) (hr : Room j X.A) (hk : k ≤ j) (hg : Gl X x) (ha : PA X (e :: es) t)
    (hdb : (x == ("__debug__" : Str)) = false := by decide) (he : starEach (e :: es) X.env = (false, eval e X.env) :: starEach es X.env := by rfl)
    (hpl : (backTo pos (starEach es X.env)).any (·.1) = false := by rfl) : PE X (.Call (.Name x p) (e :: es) [] pos) (tCall sp [] E0 t) := by
  obtain ⟨f, fd, ps, h1, h2, h3, h4⟩ := cc.ex
  exact pe_callG h4 gd (hr.mono hk) hg h1 h2 h3 .nil pass0 ha hdb he hpl
theorem pt_u (ha : PE X a ta) (he : ∀ whole, isTrue a X.env whole = (do let v ← whole; standAt a.pos; holding [v] (truthy v))) : PT X a (uTru X.K ta) := pt_truth ha he
theorem hrep {A : Around} (hr : Room k A) : A.units + 100 < cLine := by
  have := hr.un
  omega
theorem u_ixL {K : PySem.W.Frag} {H : Hp} {Q : VK} {a : Addr} {xs : List V} {i : Int} {v : V} (h : SqL K H a xs) (e : atI xs i = some v) (q : Q v H) : rIx K (.ref a) (.int i) H Q := .inl ⟨a, xs, i, v, rfl, rfl, h, e, q⟩
theorem u_ixS {K : PySem.W.Frag} {H : Hp} {Q : VK} {z : Str} {i : Int} {c : Nat} (h : z.length ≤ sizeLine) (e : atI (tl z) i = some c) (q : Q (.str ⟨#[c]⟩) H) : rIx K (.str z) (.int i) H Q := .inr (.inr ⟨z, i, c, rfl, rfl, h, e, q⟩)
theorem atI_of {α : Type} {xs : List α} {i : Int} {v : α} (h0 : 0 ≤ i) (e : xs[i.toNat]? = some v) : atI xs i = some v := by
  have q := atI_nat e
  rw [Int.toNat_of_nonneg h0] at q
  exact q
theorem atI_lt {α : Type} {xs : List α} {i : Int} (h0 : 0 ≤ i) (h1 : i < xs.length) : ∃ v, atI xs i = some v ∧ v ∈ xs := by
  have h2 : i.toNat < xs.length := by omega
  exact ⟨xs[i.toNat], atI_of h0 (by simp [h2]), List.getElem_mem h2⟩
theorem bits_le {i : Int} {n : Nat} (h0 : 0 < n) (h : i.natAbs < 2 ^ n) : Builtin.Int.intBits i ≤ n := by
  have e := PySem.Flt.log2_lt_of h0 h
  unfold Builtin.Int.intBits
  split <;> omega
theorem powW {i j : Int} {n : Nat} (h0 : 0 < n) (h : i.natAbs < 2 ^ n) (h1 : 0 ≤ j) (h2 : (n : Int) * j ≤ 2 ^ 27) : CPowW i j := by
  have e := bits_le h0 h
  refine ⟨h1, Int.le_trans (Int.mul_le_mul_of_nonneg_right ?_ h1) h2⟩
  exact Int.ofNat_le.mpr e
theorem ite_nt {A B : Prop} (h : B) : if (!true) = true then A else B := h
theorem len_one (c : Nat) : (⟨#[c]⟩ : Str).length = 1 := rfl
theorem Dq.imp {N M : Addr → Prop} {H : Hp} {v : V} {d : PyData} (h : Dq N H v d) (m : ∀ b, N b → M b) : Dq M H v d := Dq.mono (fun _ _ _ e => e) m d v h
theorem DqL.imp {N M : Addr → Prop} {H : Hp} {v : List V} {d : List PyData} (h : DqL N H v d) (m : ∀ b, N b → M b) : DqL M H v d := DqL.mono (fun _ _ _ e => e) m d v h
theorem layAll_map {α : Type} (f : α → PyData) : ∀ ws : List α, (∀ w ∈ ws, (f w).canLay0 = true) → PyData.canLayAll0 (ws.map f) = true
  | [], _ => by simp [PyData.canLayAll0]
  | w :: ws, h => by
    rw [List.map_cons, PyData.canLayAll0, h w (by simp), layAll_map f ws fun v hv => h v (by simp [hv])]
    rfl
theorem depAll_map {α : Type} (f : α → PyData) (n : Nat) : ∀ ws : List α, (∀ w ∈ ws, (f w).depth ≤ n) → PyData.depthAll (ws.map f) ≤ n
  | [], _ => by simp [PyData.depthAll]
  | w :: ws, h => by
    rw [List.map_cons, PyData.depthAll]
    exact Nat.max_le.mpr ⟨h w (by simp), depAll_map f n ws fun v hv => h v (by simp [hv])⟩
theorem shaped_map {α : Type} (f : α → PyData) (ws : List α) (h : ∀ w ∈ ws, (f w).canLay0 = true ∧ (f w).depth ≤ 63) : SeqAt.shaped (.list (ws.map f)) = true := by
  unfold SeqAt.shaped
  rw [Bool.and_eq_true, decide_eq_true_eq]
  refine ⟨?_, ?_⟩
  · rw [PyData.canLay0]
    exact layAll_map f ws fun w hw => (h w hw).1
  · rw [PyData.depth]
    have := depAll_map f 63 ws fun w hw => (h w hw).2
    omega
theorem shaped_ints (ws : List Int) : SeqAt.shaped (.list (ws.map PyData.int)) = true :=
  shaped_map _ ws fun w hw => ⟨by rw [PyData.canLay0], by simp [PyData.depth]⟩
theorem strOk_iff (z : Str) : PyData.strOk z = true ↔ ∀ c ∈ tl z, c < 1114112 := by
  unfold PyData.strOk tl
  rw [← Array.all_toList, List.all_eq_true]
  constructor
  · intro h c hc
    exact of_decide_eq_true (h c hc)
  · intro h c hc
    exact decide_eq_true (h c hc)
def uSl (K : PySem.W.Frag) : V → Option Int → Option Int → Hp → VK → Prop := fun x lo hi H Q => rSlS x lo hi H Q ∨ rSlL K x lo hi H Q ∨ rSlT K x lo hi H Q
theorem sl_u : SlR X (uSl X.K) := SlR.or sl_str (SlR.or sl_list sl_tup)
theorem u_slL {K : PySem.W.Frag} {H : Hp} {Q : VK} {p : Addr} {xs : List V} {lo hi : Option Int} (h : SqL K H p xs) (q : ∀ p, H p = none → Q (.ref p) (upd H p (.lst (cutV xs lo hi)))) :
    uSl K (.ref p) lo hi H Q := .inr (.inl ⟨p, xs, rfl, h, q⟩)
theorem cut_to (z : Str) {d : Int} (h : 0 ≤ d) : tl (cutS z none (some d)) = (tl z).take d.toNat := by
  unfold cutS tl
  have e := HT.sIx_nat z.length z.length d.toNat
  rw [Int.toNat_of_nonneg h] at e
  rw [e, HT.sIx_none]
  simp only [List.drop_zero, Nat.sub_zero]
  have el : z.cps.toList.length = z.length := by simp [Str.length]
  by_cases hd : d.toNat ≤ z.length
  · rw [Nat.min_eq_left hd]
  · rw [Nat.min_eq_right (by omega), List.take_of_length_le (by omega), List.take_of_length_le (by omega)]
end
section
variable {X : Cx} {K : PySem.W.Frag} (h : X.K = K)
include h
theorem kou_add : OpR X (binaryOp .Add) (uAdd K) := by subst h; exact ou_add
theorem kou_eq (hu : X.A.units + 64 < cLine) : OpR X (compareOp .Eq) (uEq K) := by subst h; exact ou_eq hu
theorem kou_ne (hu : X.A.units + 64 < cLine) : OpR X (compareOp .NotEq) (uNe K) := by subst h; exact ou_ne hu
theorem kou_in : OpR X (compareOp .In) (uIn K) := by subst h; exact ou_in
theorem kcu_len : CallR X (.builtin "len") (uLen K) := by subst h; exact cu_len
theorem kcu_isi : CallR X (.builtin "isinstance") (uIsi K) := by subst h; exact cu_isi
theorem kix_seq : IxR X (rIx K) := by subst h; exact ix_seq
theorem ksl_u : SlR X (uSl K) := by subst h; exact sl_u
theorem kpi_u {tg e : Expr} {te : TE} (he : PE X e te) : PI X tg e (iU K te) := by subst h; exact pi_u he
theorem kpe_andT {a b : Expr} {rest : List Expr} {pos : Pos} {ta tb : TE} (ha : PE X a ta) (hb : PE X (.BoolOp .And (b :: rest) pos) tb) : PE X (.BoolOp .And (a :: b :: rest) pos) (tAndT K ta tb) := by subst h; exact pe_andT ha hb
theorem kpe_orT {a b : Expr} {rest : List Expr} {pos : Pos} {ta tb : TE} (ha : PE X a ta) (hb : PE X (.BoolOp .Or (b :: rest) pos) tb) : PE X (.BoolOp .Or (a :: b :: rest) pos) (tOrT K ta tb) := by subst h; exact pe_orT ha hb
theorem kpt_u {a : Expr} {ta : TE} (ha : PE X a ta) (he : ∀ whole, isTrue a X.env whole = (do let v ← whole; standAt a.pos; holding [v] (truthy v))) : PT X a (uTru K ta) := by subst h; exact pt_u ha he
theorem kpg_tup {es : List Expr} {k : Nat} {pos : Pos} {t : TGs} {n : Nat} (hc : X.calm = true) (hp : PGs X es t)
    (hn : (assignEach es X.env).length = n := by rfl) (hst : (assignEach es X.env).findIdx? (·.1) = none := by rfl) : PG X (.Tuple es k pos) (gTup K n t) := by subst h; exact pg_tup hc hp hn hst
variable {o e : Expr} {es : List Expr} {to te : TE} {t : TA} {name : Str} {apos cpos : Pos} {T id : String}
  {r : V → List V → Hp → VK → Prop}
theorem kpi_enum {p pos tpos : Pos} {elts : List Expr} {kk : Nat} (hg : Gl X "enumerate")
    (hm : X.mg "enumerate" = none) (ha : PA X [e] t)
    (hs : starEach [e] X.env = [(false, eval e X.env)] := by rfl) :
    PI X (.Tuple elts kk tpos) (.Call (.Name "enumerate" p) [e] [] pos) (iEnum K t) := by
  subst h
  exact pi_enum hg hm ha hs
def rJoin (K : PySem.W.Frag) : V → List V → Hp → VK → Prop := fun x xs H Q => ∃ a p, ∃ ys : List Str, x = .str a ∧ xs = [.ref p] ∧
  (SqL K H p (ys.map V.str) ∨ SqT K H p (ys.map V.str)) ∧
  (ys.map (·.length)).sum + ys.length * a.length ≤ 16777216 ∧ Q (.str (Txt.join a ys)) H
theorem kpe_join (ho : PE X o to) (he : PE X e te)
    (hs : starEach [e] X.env = [(false, eval e X.env)] := by rfl)
    (hb : attributeBase o "join" X.env (eval o X.env) = eval o X.env := by rfl)
    (hl : (apos.endLine == cpos.line) = true := by rfl) :
    PE X (.Call (.Attribute o "join" apos) [e] [] cpos) (tM1 (rJoin K) to te) := by
  subst h
  exact pe_join ho he hs hb hl
end
end Gd
namespace Gd
open PySem PySem.Spec PyProof.Rows L2
def keyT (e : Int × Value) : Str := match e.2 with
  | .str x _ => x
  | _ => Str.empty
def GoodT (w : World) (e : Int × Value) : Prop := ∃ x tk, e.2 = Value.str x tk ∧ e.1 = hashStr w x
/-- the set of texts at a: ks its members, in some order, each once -/
def SetT (w : World) (h : Heap) (a : Addr) (ks : List Str) : Prop :=
  ∃ o es ep t, h.get? a = some o ∧ o.ExactSet ∧ o.data = .set es ep t ∧ (∀ e ∈ es.toList, GoodT w e) ∧
    (es.toList.map keyT).Perm ks ∧ ks.Nodup ∧ es.size < scanBound ∧ t.fits es.size = true ∧
    Ris t.place.toList ∧ (w.params.followText "set-order" = true ∨ t.led = true)
def addT (ks : List Str) (x : Str) : List Str := if x ∈ ks then ks else ks ++ [x]
def dedT (xs : List Str) : List Str := xs.foldl addT []
section
variable {P : Program} {w : World} {A : Around} {E : Value → Shared → Prop} {s : Shared} {h h' : Heap} {a : Addr} {ks : List Str}
theorem SetT.at (R : SetT w h a ks) (k : ∀ o, h.get? a = some o → h'.get? a = some o) : SetT w h' a ks := by
  obtain ⟨o, es, ep, t, ho, r⟩ := R
  exact ⟨o, es, ep, t, k o ho, r⟩
end
def SetTO (w : World) (a : Addr) (ks : List Str) : HO := .ext fun h => SetT w h a ks
end Gd
namespace Gd
open PySem PySem.Spec PyProof.Rows L2
end Gd
namespace Gd
open PySem PySem.Spec PyProof.Rows L2
theorem TyN.b {K : PySem.W.Frag} {H : Hp} {x : V} {T : String} (h : TyN K H x T) : TyB K H x T := by
  cases h with
  | non => exact .non
  | bl b => exact .bl b
  | int i => exact .int i
  | str s => exact .str s
  | lst h => exact .lst h
  | tup h => exact .tup (SqT.of h)
  | dct h => exact .dK h
theorem GFn.no {P : Program} {w : World} {K : PySem.W.Frag} {mg : Str → Option Value} {base : Heap} {CX : CXT} {k : Nat} {f : Addr} {fd : FuncData} {ps : List Str} : GFn P w K mg base CX k f fd ps (fun _ _ _ _ => False) :=
  ⟨fun _ _ _ _ h => h.elim, fun _ _ _ _ _ _ _ _ _ _ _ _ _ _ h => h.elim⟩
end Gd
namespace Gd
open PySem PySem.Spec PyProof.Rows L2
theorem inV_strs (x : Str) (ws : List Str) : inV (.str x) (ws.map V.str) = decide (x ∈ ws) := by
  unfold inV
  rw [List.any_map, show (fun y => eqV y (V.str x)) ∘ V.str = fun w : Str => w == x from rfl, Bool.eq_iff_iff]
  simp only [List.any_eq_true, beq_iff_eq, exists_eq_right, decide_eq_true_eq]
/-- no two different ones clash -/
def NC (ws : List Str) : Prop := ∀ x ∈ ws, ∀ y ∈ ws, x ≠ y → Txt.startswith y x = false
end Gd
namespace Gd
open PySem PySem.Spec PyProof.Rows L2
end Gd
namespace Gd
open PySem PySem.Spec PyProof.Rows L2
end Gd
namespace Gd
open PySem PySem.Spec PyProof.Rows L2
end Gd
namespace Gd
open PySem PySem.Spec PyProof.Rows L2
end Gd
namespace Gd
open PySem PySem.Spec PyProof.Rows L2
/-- what stands in an attribute: data, or a cell at a told place -/
inductive FV where
  | d (x : PyData)
  | a (q : Addr)
/-- a list or a dict that may change -/
inductive Cell where
  | l (xs : List PyData)
  | m (kvs : List (Key × PyData))
  /-- a list whose place is told; a dict of such places -/
  | la (a : Addr) (xs : List PyData) | mc (kvs : List (Key × Addr))
  /-- a dict that changes no more -/
  | fz (kvs : List (Key × PyData))
  /-- such a dict, for the time that it is locked: the very object -/
  | fx (o : Obj) (vs : List (Key × V)) (kvs : List (Key × PyData))
  /-- an object of the class at C -/
  | ob (C : Addr) (fs : List (Str × FV))
/-- a value: data; a new list that nothing else holds; a list that is only read; the script; a cell; kinds; a set of texts -/
inductive W where
  | d (x : PyData) | o (xs : List PyData) | b (xs : List PyData) | s (xs : List PyData) | c (k : Nat) | ty (n : String) | tt (n m : String) | set (ks : List Str) | lc (ks : List Nat) | x (a : Addr) | dm (kvs : List (Key × PyData)) | od (kvs : List (Key × PyData))
abbrev Ev := List (Option W)
abbrev Cs := List Cell
section
variable {K : PySem.W.Frag} {w : World}
inductive FvOk (G : Addr → Prop) (H : Hp) : V → FV → Prop
  | d {v : V} {x : PyData} (h : Dq G H v x) : FvOk G H v (.d x)
  | a {q : Addr} : FvOk G H (.ref q) (.a q)
inductive CellOk (G : Addr → Prop) (H : Hp) : Addr → Cell → Prop
  | l {p : Addr} {vs : List V} {xs : List PyData} (h : H p = some (.lst vs)) (r : DqL G H vs xs) : CellOk G H p (.l xs)
  | m {p : Addr} {vs : List (Key × V)} {kvs : List (Key × PyData)} (h : H p = some (.dK vs)) (r : Paired (fun (a : Key × V) (b : Key × PyData) => a.1 = b.1 ∧ Dq G H a.2 b.2) vs kvs) : CellOk G H p (.m kvs)
  | la {p : Addr} {vs : List V} {xs : List PyData} (h : H p = some (.lst vs)) (r : DqL G H vs xs) : CellOk G H p (.la p xs)
  | fz {p : Addr} {o : Obj} {vs : List (Key × V)} {kvs : List (Key × PyData)} (h : H p = some (.frz o (.dK vs))) (r : Paired (fun (a : Key × V) (b : Key × PyData) => a.1 = b.1 ∧ Dq G H a.2 b.2) vs kvs) : CellOk G H p (.fz kvs)
  | fx {p : Addr} {o : Obj} {vs : List (Key × V)} {kvs : List (Key × PyData)} (h : H p = some (.frz o (.dK vs))) (r : Paired (fun (a : Key × V) (b : Key × PyData) => a.1 = b.1 ∧ Dq G H a.2 b.2) vs kvs) : CellOk G H p (.fx o vs kvs)
  | ob {p C dx : Addr} {vs : List (Str × V)} {fs : List (Str × FV)} (h : H p = some (.ins C dx vs)) (r : Paired (fun (a : Str × V) (b : Str × FV) => a.1 = b.1 ∧ FvOk G H a.2 b.2) vs fs) : CellOk G H p (.ob C fs)
  | mc {p : Addr} {kvs : List (Key × Addr)} (h : H p = some (.dK (kvs.map fun a => (a.1, V.ref a.2)))) : CellOk G H p (.mc kvs)
/-- the heap under the cells c at ρ, data within G -/
structure Hx (B G : Addr → Prop) (ρ : List Addr) (c : Cs) (H : Hp) : Prop where
  nd : ρ.Nodup
  av : ∀ p ∈ ρ, ¬ G p
  avb : ∀ p ∈ ρ, ¬ B p
  live : ∀ p, G p → H p ≠ none
  liveb : ∀ p, B p → H p ≠ none
  cells : Paired (CellOk G H) ρ c
/-- cells in a list -/
inductive LcR (ρ : List Addr) : List V → List Nat → Prop
  | nil : LcR ρ [] []
  | cons {q : Addr} {k : Nat} {vs : List V} {ks : List Nat} (h : ρ[k]? = some q) (t : LcR ρ vs ks) : LcR ρ (.ref q :: vs) (k :: ks)
theorem LcR.mono {ρ ρ' : List Addr} {vs : List V} {ks : List Nat} (m : ∀ k ∈ ks, ∀ q, ρ[k]? = some q → ρ'[k]? = some q) (h : LcR ρ vs ks) : LcR ρ' vs ks := by
  induction h with
  | nil => exact .nil
  | cons h _ ih => exact .cons (m _ (by simp) _ h) (ih fun k hk => m k (by simp [hk]))
inductive Sh (K : PySem.W.Frag) (w : World) (B G : Addr → Prop) (ρ : List Addr) (H : Hp) : V → W → Prop
  | d {v : V} {x : PyData} (h : Dq G H v x) : Sh K w B G ρ H v (.d x)
  | o {p : Addr} {vs : List V} {xs : List PyData} (h : H p = some (.lst vs)) (r : DqL G H vs xs) (g : ¬ G p) (b : ¬ B p) (n : p ∉ ρ) : Sh K w B G ρ H (.ref p) (.o xs)
  | b {p : Addr} {vs : List V} {xs : List PyData} (h : H p = some (.lst vs)) (r : DqL G H vs xs) (b : B p) : Sh K w B G ρ H (.ref p) (.b xs)
  | s {p : Addr} {ns : List Int} (h : (Rd H p (.lst (ns.map V.int)) ∧ B p) ∨ ∃ (o : Obj) (its : Array Value) (n : Nat), K.lookup p = some o ∧ o.cls = .type "list" ∧ o.dict = none ∧ o.data = .seq its n ∧ its.size ≤ sizeLine ∧ Vals (ns.map V.int) its.toList) : Sh K w B G ρ H (.ref p) (.s (ns.map PyData.int))
  | c {p : Addr} {k : Nat} (h : ρ[k]? = some p) : Sh K w B G ρ H (.ref p) (.c k)
  | ty {n : String} : Sh K w B G ρ H (.ty n) (.ty n)
  | tt {p : Addr} {n m : String} (h : H p = some (.tup [.ty n, .ty m])) (g : G p) : Sh K w B G ρ H (.ref p) (.tt n m)
  | set {p : Addr} {ks : List Str} (h : H p = some (SetTO w p ks)) (g : G p) : Sh K w B G ρ H (.ref p) (.set ks)
  | lc {p : Addr} {vs : List V} {ks : List Nat} (h : H p = some (.lst vs)) (g : G p) (r : LcR ρ vs ks) : Sh K w B G ρ H (.ref p) (.lc ks)
  | x {a : Addr} : Sh K w B G ρ H (.ref a) (.x a)
  | dm {p : Addr} {o : Obj} {vs : List (Key × V)} {kvs : List (Key × PyData)} (h : H p = some (.frz o (.dK vs))) (r : Paired (fun (a : Key × V) (b : Key × PyData) => a.1 = b.1 ∧ Dq G H a.2 b.2) vs kvs) (g : G p) : Sh K w B G ρ H (.ref p) (.dm kvs)
  | od {p : Addr} {vs : List (Key × V)} {kvs : List (Key × PyData)} (h : H p = some (.dK vs)) (r : Paired (fun (a : Key × V) (b : Key × PyData) => a.1 = b.1 ∧ Dq G H a.2 b.2) vs kvs) (g : ¬ G p) (b : ¬ B p) (n : p ∉ ρ) : Sh K w B G ρ H (.ref p) (.od kvs)
/-- from a heap to a later one -/
structure Ext (G : Addr → Prop) (ρ : List Addr) (H : Hp) (G' : Addr → Prop) (ρ' : List Addr) (H' : Hp) : Prop where
  kp : Kp ρ H H'
  tr : ∀ b, H b ≠ none → H' b ≠ none
  pre : ∃ ys, ρ' = ρ ++ ys ∧ ∀ y ∈ ys, H y = none
  gr : ∀ p, G p → G' p
  nw : ∀ p, G' p → G p ∨ H p = none
/-- what slots need of a later heap -/
structure Stay (B G : Addr → Prop) (ρ : List Addr) (H : Hp) (G' : Addr → Prop) (ρ' : List Addr) (H' : Hp) : Prop where
  kg : ∀ b o, G b → H b = some o → H' b = some o
  kb : ∀ b o, B b → H b = some o → H' b = some o
  gr : ∀ p, G p → G' p
  pre : ∃ ys, ρ' = ρ ++ ys
def W.noO : W → Bool
  | .o _ => false
  | .od _ => false
  | _ => true
/-- new since H -/
def Fr (H : Hp) (v : V) : W → Prop
  | .o _ => ∃ p, v = .ref p ∧ H p = none
  | .od _ => ∃ p, v = .ref p ∧ H p = none
  | _ => True
def So (K : PySem.W.Frag) (w : World) (B G : Addr → Prop) (ρ : List Addr) (H : Hp) (a : Option V) : Option W → Prop
  | none => True
  | some u => u.noO = true ∧ ∃ v, a = some v ∧ Sh K w B G ρ H v u
abbrev Sl (K : PySem.W.Frag) (w : World) (B G : Addr → Prop) (ρ : List Addr) (H : Hp) : L2.St → Ev → Prop := Paired (So K w B G ρ H)
variable {B G G' G'' G0 : Addr → Prop} {ρ ρ' ρ'' ρ0 : List Addr} {H H' H'' H0 : Hp} {c c' : Cs} {σ : L2.St} {e e' : Ev} {v vx vy : V} {u x y : W}
theorem Ext.refl : Ext G ρ H G ρ H := ⟨Kp.refl, fun _ h => h, ⟨[], by simp, by simp⟩, fun _ h => h, fun _ h => .inl h⟩
theorem Ext.was (h : Ext G ρ H G' ρ' H') {b : Addr} (n : H' b = none) : H b = none := Classical.byContradiction fun z => h.tr b z n
theorem Ext.trans (h : Ext G ρ H G' ρ' H') (g : Ext G' ρ' H' G'' ρ'' H'') : Ext G ρ H G'' ρ'' H'' := by
  obtain ⟨ys, rfl, hy⟩ := h.pre
  obtain ⟨zs, rfl, hz⟩ := g.pre
  refine ⟨fun b o e n => ?_, fun b n => g.tr b (h.tr b n), ⟨ys ++ zs, by simp, fun y m => ?_⟩, fun p q => g.gr p (h.gr p q), fun p q => ?_⟩
  · refine g.kp b o (h.kp b o e n) fun z => ?_
    rcases List.mem_append.mp z with z | z
    · exact n z
    · rw [hy b z] at e; cases e
  · rcases List.mem_append.mp m with m | m
    · exact hy y m
    · exact h.was (hz y m)
  · rcases g.nw p q with q | q
    · exact h.nw p q
    · exact .inr (h.was q)
theorem Ext.keep (X : Hx B G ρ c H) (h : Ext G ρ H G' ρ' H') : ∀ b o, G b → H b = some o → H' b = some o := fun b o g e => h.kp b o e fun z => X.av b z g
theorem Ext.dq (X : Hx B G ρ c H) (h : Ext G ρ H G' ρ' H') {d : PyData} (q : Dq G H v d) : Dq G' H' v d := Dq.mono (h.keep X) h.gr d v q
theorem Ext.dql (X : Hx B G ρ c H) (h : Ext G ρ H G' ρ' H') {vs : List V} {ds : List PyData} (q : DqL G H vs ds) : DqL G' H' vs ds := DqL.mono (h.keep X) h.gr ds vs q
theorem Ext.nin (h : Ext G ρ H G' ρ' H') {p : Addr} {o : HO} (e : H p = some o) (n : p ∉ ρ) : p ∉ ρ' := by
  obtain ⟨ys, rfl, hy⟩ := h.pre
  intro z
  rcases List.mem_append.mp z with z | z
  · exact n z
  · rw [hy p z] at e; cases e
theorem Ext.stay (X : Hx B G ρ c H) (h : Ext G ρ H G' ρ' H') : Stay B G ρ H G' ρ' H' :=
  ⟨h.keep X, fun b o g e => h.kp b o e fun z => X.avb b z g, h.gr, let ⟨ys, e, _⟩ := h.pre; ⟨ys, e⟩⟩
theorem Stay.refl : Stay B G ρ H G ρ H := ⟨fun _ _ _ h => h, fun _ _ _ h => h, fun _ h => h, [], by simp⟩
theorem Stay.trans (h : Stay B G ρ H G' ρ' H') (g : Stay B G' ρ' H' G'' ρ'' H'') : Stay B G ρ H G'' ρ'' H'' := by
  obtain ⟨ys, rfl⟩ := h.pre
  obtain ⟨zs, rfl⟩ := g.pre
  exact ⟨fun b o q e => g.kg b o (h.gr b q) (h.kg b o q e), fun b o q e => g.kb b o q (h.kb b o q e), fun p q => g.gr p (h.gr p q), ys ++ zs, by simp⟩
theorem Stay.dq (h : Stay B G ρ H G' ρ' H') {d : PyData} (q : Dq G H v d) : Dq G' H' v d := Dq.mono h.kg h.gr d v q
theorem Stay.dql (h : Stay B G ρ H G' ρ' H') {vs : List V} {ds : List PyData} (q : DqL G H vs ds) : DqL G' H' vs ds := DqL.mono h.kg h.gr ds vs q
theorem Stay.sh (h : Stay B G ρ H G' ρ' H') (q : Sh K w B G ρ H v u) (nn : u.noO = true) : Sh K w B G' ρ' H' v u := by
  cases q with
  | d q => exact .d (h.dq q)
  | o _ _ _ _ _ => cases nn
  | od _ _ _ _ _ => cases nn
  | b e r n => exact .b (h.kb _ _ n e) (h.dql r) n
  | s q =>
    rcases q with ⟨q | ⟨o, q⟩, n⟩ | q
    · exact .s (.inl ⟨.inl (h.kb _ _ n q), n⟩)
    · exact .s (.inl ⟨.inr ⟨o, h.kb _ _ n q⟩, n⟩)
    · exact .s (.inr q)
  | c e =>
    obtain ⟨ys, rfl⟩ := h.pre
    refine .c ?_
    rw [List.getElem?_append_left (List.getElem?_eq_some_iff.mp e).1]
    exact e
  | ty => exact .ty
  | tt e n => exact .tt (h.kg _ _ n e) (h.gr _ n)
  | set e n => exact .set (h.kg _ _ n e) (h.gr _ n)
  | x => exact .x
  | dm e r n => exact .dm (h.kg _ _ n e) (Paired.mono (fun _ _ q => ⟨q.1, h.dq q.2⟩) r) (h.gr _ n)
  | lc e n r =>
    obtain ⟨ys, rfl⟩ := h.pre
    exact .lc (h.kg _ _ n e) (h.gr _ n) (r.mono fun k _ q e => by rw [List.getElem?_append_left (List.getElem?_eq_some_iff.mp e).1]; exact e)
theorem Stay.so (h : Stay B G ρ H G' ρ' H') {a : Option V} {z : Option W} (q : So K w B G ρ H a z) : So K w B G' ρ' H' a z := by
  cases z with
  | none => trivial
  | some u =>
    obtain ⟨n, v, e, q⟩ := q
    exact ⟨n, v, e, h.sh q n⟩
theorem Stay.sl (h : Stay B G ρ H G' ρ' H') (q : Sl K w B G ρ H σ e) : Sl K w B G' ρ' H' σ e := Paired.mono (fun _ _ r => h.so r) q
theorem Ext.sh (X : Hx B G ρ c H) (h : Ext G ρ H G' ρ' H') (q : Sh K w B G ρ H v u) : Sh K w B G' ρ' H' v u := by
  by_cases nn : u.noO = true
  · exact (h.stay X).sh q nn
  · cases q with
    | o e r g b n => exact .o (h.kp _ _ e n) (h.dql X r) (fun z => (h.nw _ z).elim g fun z => by rw [e] at z; cases z) b (h.nin e n)
    | od e r g b n => exact .od (h.kp _ _ e n) (Paired.mono (fun _ _ q => ⟨q.1, h.dq X q.2⟩) r) (fun z => (h.nw _ z).elim g fun z => by rw [e] at z; cases z) b (h.nin e n)
    | _ => exact absurd rfl nn
theorem Ext.fr (h : Ext G ρ H G' ρ' H') (q : Fr H' v u) : Fr H v u := by
  cases u with
  | o xs =>
    obtain ⟨p, e, n⟩ := q
    exact ⟨p, e, h.was n⟩
  | od xs =>
    obtain ⟨p, e, n⟩ := q
    exact ⟨p, e, h.was n⟩
  | _ => trivial
theorem Ext.sl (X : Hx B G ρ c H) (h : Ext G ρ H G' ρ' H') (q : Sl K w B G ρ H σ e) : Sl K w B G' ρ' H' σ e := (h.stay X).sl q
theorem paired_get {α β : Type} {F : α → β → Prop} : ∀ {xs : List α} {ys : List β} {i : Nat} {y : β}, Paired F xs ys → ys[i]? = some y → ∃ x, xs[i]? = some x ∧ F x y
  | _, _, _, _, .nil, e => by simp at e
  | _, _, 0, _, .cons r _, e => by simp at e; subst e; exact ⟨_, rfl, r⟩
  | _, _, i + 1, y, .cons _ t, e => by
    obtain ⟨x, h1, h2⟩ := paired_get (i := i) (y := y) t (by simpa using e)
    exact ⟨x, by simpa using h1, h2⟩
theorem paired_set {α β : Type} {F : α → β → Prop} {a : α} {b : β} (r : F a b) : ∀ {xs : List α} {ys : List β} (i : Nat), Paired F xs ys → Paired F (xs.set i a) (ys.set i b)
  | _, _, _, .nil => .nil
  | _, _, 0, .cons _ t => .cons r t
  | _, _, i + 1, .cons q t => .cons q (paired_set r i t)
theorem paired_app {α β : Type} {F : α → β → Prop} : ∀ {xs us : List α} {ys zs : List β}, Paired F xs ys → Paired F us zs → Paired F (xs ++ us) (ys ++ zs)
  | _, _, _, _, .nil, s => s
  | _, _, _, _, .cons r t, s => .cons r (paired_app t s)
theorem FvOk.mv {x : FV} (h : FvOk G H v x) (k : ∀ b o, G b → H b = some o → H' b = some o) (m : ∀ b, G b → G' b) : FvOk G' H' v x := by
  cases h with
  | d h => exact .d (Dq.mono k m _ _ h)
  | a => exact .a
theorem CellOk.trk {p : Addr} {x : Cell} (h : CellOk G H p x) : H p ≠ none := by
  cases h with
  | l h _ => rw [h]; simp
  | m h _ => rw [h]; simp
  | la h _ => rw [h]; simp
  | fz h _ => rw [h]; simp
  | fx h _ => rw [h]; simp
  | ob h _ => rw [h]; simp
  | mc h => rw [h]; simp
theorem CellOk.mv {p : Addr} {x : Cell} (h : CellOk G H p x) (e : H' p = H p) (k : ∀ b o, G b → H b = some o → H' b = some o) (m : ∀ b, G b → G' b) : CellOk G' H' p x := by
  cases h with
  | l h r => exact .l (e.trans h) (DqL.mono k m _ _ r)
  | m h r => exact .m (e.trans h) (Paired.mono (fun a b q => ⟨q.1, Dq.mono k m _ _ q.2⟩) r)
  | la h r => exact .la (e.trans h) (DqL.mono k m _ _ r)
  | fz h r => exact .fz (e.trans h) (Paired.mono (fun a b q => ⟨q.1, Dq.mono k m _ _ q.2⟩) r)
  | fx h r => exact .fx (e.trans h) (Paired.mono (fun a b q => ⟨q.1, Dq.mono k m _ _ q.2⟩) r)
  | ob h r => exact .ob (e.trans h) (Paired.mono (fun a b q => ⟨q.1, q.2.mv k m⟩) r)
  | mc h => exact .mc (e.trans h)
theorem cells_trk {ps : List Addr} {c : Cs} (q : Paired (CellOk G H) ps c) : ∀ p ∈ ps, H p ≠ none := by
  induction q with
  | nil => intro p h; cases h
  | cons r _ ih =>
    intro p h
    rcases List.mem_cons.mp h with e | h
    · rw [e]; exact r.trk
    · exact ih p h
theorem Hx.trk (X : Hx B G ρ c H) {p : Addr} (h : p ∈ ρ) : H p ≠ none := cells_trk X.cells p h
theorem Hx.len (X : Hx B G ρ c H) : ρ.length = c.length := Paired.length X.cells
/-- nothing that was changed -/
theorem Hx.pure (X : Hx B G ρ c H) (k : Kp [] H H') (gr : ∀ p, G p → G' p) (nw : ∀ p, G' p → G p ∨ (H p = none ∨ p ∉ ρ)) (live : ∀ p, G' p → H' p ≠ none) : Hx B G' ρ c H' := by
  refine ⟨X.nd, fun p hp g => ?_, X.avb, live, fun p b => ?_, ?_⟩
  · rcases nw p g with g | g | g
    · exact X.av p hp g
    · exact X.trk hp g
    · exact g hp
  · cases h : H p with
    | none => exact absurd h (X.liveb p b)
    | some o => rw [k.get0 h]; simp
  · refine Paired.mono (fun p x r => ?_) X.cells
    have e : H' p = H p := by
      cases h : H p with
      | none => exact absurd h r.trk
      | some o => exact k.get0 h
    exact r.mv e (fun b o _ e => k.get0 e) gr
/-- a new object -/
theorem Hx.new (X : Hx B G ρ c H) {p : Addr} {o : HO} (n : H p = none) : Hx B G ρ c (upd H p o) :=
  X.pure (Kp.refl.new n) (fun _ h => h) (fun _ h => .inl h) fun q g => by
    have := X.live q g
    rw [upd_ne (fun z => by rw [z] at this; exact this n)]
    exact this
theorem Ext.new {p : Addr} {o : HO} (n : H p = none) : Ext G ρ H G ρ (upd H p o) :=
  ⟨(Kp.refl.new n), fun b h => by
    by_cases e : b = p
    · rw [e, upd_same]; simp
    · rw [upd_ne e]; exact h, ⟨[], by simp, by simp⟩, fun _ h => h, fun _ h => .inl h⟩
/-- data now -/
def Gp (G : Addr → Prop) (p : Addr) : Addr → Prop := fun q => G q ∨ q = p
theorem Hx.data (X : Hx B G ρ c H) {p : Addr} (t : H p ≠ none) (n : p ∉ ρ) : Hx B (Gp G p) ρ c H :=
  X.pure Kp.refl (fun _ h => .inl h) (fun q h => h.elim .inl fun e => .inr (.inr (by rw [e]; exact n))) fun q g => g.elim (X.live q) fun e => by rw [e]; exact t
theorem Ext.data (h : Ext G0 ρ0 H0 G ρ H) {p : Addr} (n : H0 p = none) : Ext G0 ρ0 H0 (Gp G p) ρ H :=
  ⟨h.kp, h.tr, h.pre, fun q g => .inl (h.gr q g), fun q g => g.elim (h.nw q) fun e => .inr (by rw [e]; exact n)⟩
/-- a cell now -/
theorem Hx.cell (X : Hx B G ρ c H) {p : Addr} {x : Cell} (h : CellOk G H p x) (n : p ∉ ρ) (g : ¬ G p) (b : ¬ B p) : Hx B G (ρ ++ [p]) (c ++ [x]) H :=
  ⟨by
    rw [List.nodup_append]
    refine ⟨X.nd, by simp, fun a ha b hb z => ?_⟩
    rw [List.mem_singleton.mp hb] at z
    exact n (z ▸ ha), fun q hq => by
    rcases List.mem_append.mp hq with h | h
    · exact X.av q h
    · rw [List.mem_singleton.mp h]; exact g, fun q hq => by
    rcases List.mem_append.mp hq with h | h
    · exact X.avb q h
    · rw [List.mem_singleton.mp h]; exact b, X.live, X.liveb, paired_app X.cells (.cons h .nil)⟩
theorem Ext.cell (h : Ext G0 ρ0 H0 G ρ H) {p : Addr} (n : H0 p = none) : Ext G0 ρ0 H0 G (ρ ++ [p]) H := by
  obtain ⟨ys, rfl, hy⟩ := h.pre
  refine ⟨h.kp, h.tr, ⟨ys ++ [p], by simp, fun y m => ?_⟩, h.gr, h.nw⟩
  rcases List.mem_append.mp m with m | m
  · exact hy y m
  · rw [List.mem_singleton.mp m]; exact n
/-- a cell changed -/
theorem cells_off {p : Addr} {o : HO} (hG : ∀ q, G q → q ≠ p) {ps : List Addr} {c : Cs} (q : Paired (CellOk G H) ps c) (n : p ∉ ps) : Paired (CellOk G (upd H p o)) ps c := by
  induction q with
  | nil => exact .nil
  | cons r _ ih =>
    simp only [List.mem_cons, not_or] at n
    exact .cons (r.mv (upd_ne (Ne.symm n.1)) (fun b o g e => by rw [upd_ne (hG b g)]; exact e) (fun _ h => h)) (ih n.2)
theorem cells_set {p : Addr} {o : HO} {x : Cell} (hG : ∀ q, G q → q ≠ p) (h : CellOk G (upd H p o) p x) : ∀ {ps : List Addr} {c : Cs} {k : Nat}, ps.Nodup → Paired (CellOk G H) ps c → ps[k]? = some p → Paired (CellOk G (upd H p o)) ps (c.set k x) := by
  intro ps c k nd q ek
  induction q generalizing k with
  | nil => simp at ek
  | @cons a b l1 l2 r t ih =>
    have nd2 := List.nodup_cons.mp nd
    cases k with
    | zero =>
      have e1 : a = p := by simpa using ek
      subst e1
      exact .cons h (cells_off hG t nd2.1)
    | succ k =>
      have ek2 : l1[k]? = some p := by simpa using ek
      have n1 : a ≠ p := fun z => nd2.1 (z ▸ List.mem_of_getElem? ek2)
      exact .cons (r.mv (upd_ne n1) (fun b o g e => by rw [upd_ne (hG b g)]; exact e) (fun _ h => h)) (ih nd2.2 ek2)
theorem Hx.mut (X : Hx B G ρ c H) {k : Nat} {p : Addr} {o : HO} {x : Cell} (e : ρ[k]? = some p) (h : CellOk G (upd H p o) p x) : Hx B G ρ (c.set k x) (upd H p o) := by
  have hp : p ∈ ρ := List.mem_of_getElem? e
  have hG : ∀ q, G q → q ≠ p := fun q g z => X.av p hp (z ▸ g)
  refine ⟨X.nd, X.av, X.avb, fun q g => ?_, fun q g => ?_, cells_set hG h X.nd X.cells e⟩
  · rw [upd_ne (hG q g)]
    exact X.live q g
  · rw [upd_ne fun z => X.avb p hp (by rw [← z]; exact g)]
    exact X.liveb q g
theorem Ext.mut (h : Ext G0 ρ0 H0 G ρ H) {p : Addr} {o : HO} (hp : p ∈ ρ) : Ext G0 ρ0 H0 G ρ (upd H p o) := by
  refine h.trans ⟨Kp.refl.mutS hp, fun b t => ?_, ⟨[], by simp, by simp⟩, fun _ h => h, fun _ h => .inl h⟩
  by_cases z : b = p
  · rw [z, upd_same]; simp
  · rw [upd_ne z]; exact t
inductive Lv (c : Cs) : W → List PyData → Prop
  | d {xs : List PyData} : Lv c (.d (.list xs)) xs
  | o {xs : List PyData} : Lv c (.o xs) xs
  | b {xs : List PyData} : Lv c (.b xs) xs
  | s {xs : List PyData} : Lv c (.s xs) xs
  | c {k : Nat} {xs : List PyData} (h : c[k]? = some (.l xs)) : Lv c (.c k) xs
  | ca {k : Nat} {a : Addr} {xs : List PyData} (h : c[k]? = some (.la a xs)) : Lv c (.c k) xs
theorem dqL_int : ∀ {ns : List Int}, DqL G H (ns.map V.int) (ns.map PyData.int)
  | [] => .nil
  | n :: ns => .cons (.int n) dqL_int
/-- all but the script stands there as a list -/
inductive Lx (c : Cs) : W → List PyData → Prop
  | d {xs : List PyData} : Lx c (.d (.list xs)) xs
  | o {xs : List PyData} : Lx c (.o xs) xs
  | b {xs : List PyData} : Lx c (.b xs) xs
  | c {k : Nat} {xs : List PyData} (h : c[k]? = some (.l xs)) : Lx c (.c k) xs
  | ca {k : Nat} {a : Addr} {xs : List PyData} (h : c[k]? = some (.la a xs)) : Lx c (.c k) xs
theorem Lx.at (X : Hx B G ρ c H) (q : Sh K w B G ρ H v u) {xs : List PyData} (l : Lx c u xs) : ∃ a vs, v = .ref a ∧ H a = some (.lst vs) ∧ DqL G H vs xs := by
  cases l with
  | d =>
    cases q with
    | d q =>
      cases q with
      | lst n h r => exact ⟨_, _, rfl, h, r⟩
  | o => cases q with | o h r _ _ _ => exact ⟨_, _, rfl, h, r⟩
  | b => cases q with | b h r _ => exact ⟨_, _, rfl, h, r⟩
  | c e =>
    cases q with
    | c h =>
      obtain ⟨p, hp, r⟩ := paired_get X.cells e
      rw [h] at hp
      cases hp
      cases r with
      | l h r => exact ⟨_, _, rfl, h, r⟩
  | ca e =>
    cases q with
    | c h =>
      obtain ⟨p, hp, r⟩ := paired_get X.cells e
      rw [h] at hp
      cases hp
      cases r with
      | la h r => exact ⟨_, _, rfl, h, r⟩
theorem Lv.seq (X : Hx B G ρ c H) (q : Sh K w B G ρ H v u) {xs : List PyData} (l : Lv c u xs) : ∃ a vs, v = .ref a ∧ SqL K H a vs ∧ DqL G H vs xs := by
  have key : ∀ {xs}, Lx c u xs → ∃ a vs, v = .ref a ∧ SqL K H a vs ∧ DqL G H vs xs := fun l => by
    obtain ⟨a, vs, e, h, r⟩ := l.at X q
    exact ⟨a, vs, e, SqL.of h, r⟩
  cases l with
  | d => exact key .d
  | o => exact key .o
  | b => exact key .b
  | c h => exact key (.c h)
  | ca h => exact key (.ca h)
  | s =>
    cases q with
    | s q =>
      refine ⟨_, _, rfl, ?_, dqL_int⟩
      rcases q with ⟨q, _⟩ | q
      · exact .inl q
      · exact .inr q
inductive Dv (c : Cs) : W → PyData → Prop
  | d {x : PyData} : Dv c (.d x) x
  | l {u : W} {xs : List PyData} (h : Lv c u xs) : Dv c u (.list xs)
theorem Dv.dp (X : Hx B G ρ c H) (q : Sh K w B G ρ H v u) {x : PyData} (l : Dv c u x) (z : x.hasDict = false) : Dp K H v x := by
  cases l with
  | d => cases q with | d q => exact Dq.dp _ _ z q
  | l h =>
    obtain ⟨a, vs, rfl, h1, h2⟩ := h.seq X q
    exact .lst h1 (DqL.dp _ _ (by simpa only [PyData.hasDict] using z) h2)
inductive Dx (c : Cs) : W → PyData → Prop
  | d {x : PyData} : Dx c (.d x) x
  | l {u : W} {xs : List PyData} (h : Lx c u xs) : Dx c u (.list xs)
theorem Dx.dq (X : Hx B G ρ c H) (q : Sh K w B G ρ H v u) {x : PyData} (l : Dx c u x) : DqT (fun _ => True) H v x := by
  cases l with
  | d => cases q with | d q => exact .of (q.imp fun _ _ => trivial)
  | l h =>
    obtain ⟨a, vs, rfl, h1, h2⟩ := h.at X q
    exact .of (.lst trivial h1 (h2.imp fun _ _ => trivial))
/-- the wish T of a heap, by the wish Q of values and cells, from the base on -/
def Kt (K : PySem.W.Frag) (w : World) (B G : Addr → Prop) (ρ : List Addr) (H : Hp) (Q : W → Cs → Prop) (T : VK) : Prop :=
  ∀ u v c' G' ρ' H', Ext G ρ H G' ρ' H' → Hx B G' ρ' c' H' → Sh K w B G' ρ' H' v u → Fr H v u → Q u c' → T v H'
def VE (K : PySem.W.Frag) (w : World) (t : TE) (e : Ev) (c : Cs) (Q : W → Cs → Prop) : Prop :=
  ∀ B G ρ σ H T, Hx B G ρ c H → Sl K w B G ρ H σ e → Kt K w B G ρ H Q T → t σ H T
/-- new lists stand apart -/
def Dj : List V → List W → Prop
  | v :: vs, u :: us => (u.noO = false → ∀ q ∈ vs.zip us, q.2.noO = false → q.1 ≠ v) ∧ Dj vs us
  | _, _ => True
def KtA (K : PySem.W.Frag) (w : World) (B G : Addr → Prop) (ρ : List Addr) (H : Hp) (Q : List W → Cs → Prop) (T : List V → Hp → Prop) : Prop :=
  ∀ us vs c' G' ρ' H', Ext G ρ H G' ρ' H' → Hx B G' ρ' c' H' → Paired (Sh K w B G' ρ' H') vs us → Paired (Fr H) vs us → Dj vs us → Q us c' → T vs H'
def VA (K : PySem.W.Frag) (w : World) (t : TA) (e : Ev) (c : Cs) (Q : List W → Cs → Prop) : Prop :=
  ∀ B G ρ σ H T, Hx B G ρ c H → Sl K w B G ρ H σ e → KtA K w B G ρ H Q T → t σ H T
def KtB {α : Type} (B G : Addr → Prop) (ρ : List Addr) (H : Hp) (Q : α → Cs → Prop) (T : α → Hp → Prop) : Prop :=
  ∀ b c' G' ρ' H', Ext G ρ H G' ρ' H' → Hx B G' ρ' c' H' → Q b c' → T b H'
def VT (K : PySem.W.Frag) (w : World) (t : TT) (e : Ev) (c : Cs) (Q : Bool → Cs → Prop) : Prop :=
  ∀ B G ρ σ H T, Hx B G ρ c H → Sl K w B G ρ H σ e → KtB B G ρ H Q T → t σ H T
def VO (K : PySem.W.Frag) (w : World) (t : TO) (e : Ev) (c : Cs) (Q : Option Int → Cs → Prop) : Prop :=
  ∀ B G ρ σ H T, Hx B G ρ c H → Sl K w B G ρ H σ e → KtB B G ρ H Q T → t σ H T
/-- readings of values that have come since the base -/
def V2 (K : PySem.W.Frag) (w : World) (r : R2) (x y : W) (c : Cs) (Q : W → Cs → Prop) : Prop :=
  ∀ B G0 ρ0 H0 G ρ H vx vy T, Ext G0 ρ0 H0 G ρ H → Hx B G ρ c H → Sh K w B G ρ H vx x → Sh K w B G ρ H vy y → Fr H0 vx x → Fr H0 vy y → Kt K w B G0 ρ0 H0 Q T → r vx vy H T
def VU (K : PySem.W.Frag) (w : World) (r : V → Hp → VK → Prop) (x : W) (c : Cs) (Q : W → Cs → Prop) : Prop :=
  ∀ B G0 ρ0 H0 G ρ H vx T, Ext G0 ρ0 H0 G ρ H → Hx B G ρ c H → Sh K w B G ρ H vx x → Fr H0 vx x → Kt K w B G0 ρ0 H0 Q T → r vx H T
def VX (K : PySem.W.Frag) (w : World) (r : List V → Hp → VK → Prop) (us : List W) (c : Cs) (Q : W → Cs → Prop) : Prop :=
  ∀ B G0 ρ0 H0 G ρ H vs T, Ext G0 ρ0 H0 G ρ H → Hx B G ρ c H → Paired (Sh K w B G ρ H) vs us → Paired (Fr H0) vs us → Kt K w B G0 ρ0 H0 Q T → r vs H T
def VM (K : PySem.W.Frag) (w : World) (r : V → List V → Hp → VK → Prop) (x : W) (us : List W) (c : Cs) (Q : W → Cs → Prop) : Prop :=
  ∀ B G0 ρ0 H0 G ρ H vx vs T, Ext G0 ρ0 H0 G ρ H → Hx B G ρ c H → Sh K w B G ρ H vx x → Fr H0 vx x → Paired (Sh K w B G ρ H) vs us → Paired (Fr H0) vs us → Kt K w B G0 ρ0 H0 Q T → r vx vs H T
section
variable {Q : W → Cs → Prop} {T : VK}
theorem Kt.d (k : Kt K w B G0 ρ0 H0 Q T) (E : Ext G0 ρ0 H0 G ρ H) (X : Hx B G ρ c H) {z : PyData} (h : Dq G H v z) (q : Q (.d z) c) : T v H := k _ _ _ _ _ _ E X (.d h) trivial q
/-- a new list -/
theorem Kt.l (k : Kt K w B G0 ρ0 H0 Q T) (E : Ext G0 ρ0 H0 G ρ H) (X : Hx B G ρ c H) {p : Addr} {vs : List V} {xs : List PyData} (n : H p = none) (r : DqL G H vs xs) (q : Q (.o xs) c) : T (.ref p) (upd H p (.lst vs)) := by
  refine k _ _ _ _ _ _ (E.trans (.new n)) (X.new n) (.o upd_same (r.new n) (fun g => X.live p g n) (fun g => X.liveb p g n) fun z => X.trk z n) ⟨p, rfl, E.was n⟩ q
/-- a new tuple -/
theorem Kt.t (k : Kt K w B G0 ρ0 H0 Q T) (E : Ext G0 ρ0 H0 G ρ H) (X : Hx B G ρ c H) {p : Addr} {vs : List V} {xs : List PyData} (n : H p = none) (r : DqL G H vs xs) (q : Q (.d (.tuple xs)) c) : T (.ref p) (upd H p (.tup vs)) := by
  have X1 : Hx B (Gp G p) ρ c (upd H p (.tup vs)) := (X.new n).data (by rw [upd_same]; simp) (fun z => X.trk z n)
  refine k _ _ _ _ _ _ ((E.trans (.new n)).data (E.was n)) X1 (.d (.tup (.inr rfl) upd_same ?_)) trivial q
  exact (r.new n).imp fun b h => .inl h
end
end
end Gd
namespace Gd
open PySem PySem.Spec PyProof.Rows L2
section
variable {K : PySem.W.Frag} {w : World} {B : Addr → Prop} {G G' G'' G0 : Addr → Prop} {ρ ρ' ρ'' ρ0 : List Addr} {H H' H'' H0 : Hp} {c c' : Cs} {σ : L2.St} {e e' : Ev} {v vx vy : V} {u x y : W}
variable {Q : W → Cs → Prop} {QA : List W → Cs → Prop} {QB : Bool → Cs → Prop} {QO : Option Int → Cs → Prop} {ta tb tc te : TE} {t : TA} {tt tt1 : TT} {i : Nat}
theorem fr_noO (h : u.noO = true) : Fr H v u := by
  cases u <;> first
    | trivial
    | cases h
theorem v_var (h : e[i]? = some (some u)) (q : Q u c) : VE K w (tVar i) e c Q := by
  intro B G ρ σ H T X S k
  obtain ⟨a, h1, h2⟩ := paired_get S h
  obtain ⟨n, v, rfl, h3⟩ := h2
  exact ⟨v, h1, k _ _ _ _ _ _ .refl X h3 (fr_noO n) q⟩
theorem v_c {z : PyData} (h : ∀ G H, Dq G H v z) (q : Q (.d z) c) : VE K w (tC v) e c Q := fun B G ρ σ H T X S k => k.d .refl X (h G H) q
theorem v_non (q : Q (.d .none) c) : VE K w (tC .non) e c Q := v_c (fun _ _ => .non) q
theorem v_int {i : Int} (q : Q (.d (.int i)) c) : VE K w (tC (.int i)) e c Q := v_c (fun _ _ => .int i) q
theorem v_str {i : Str} (q : Q (.d (.str i)) c) : VE K w (tC (.str i)) e c Q := v_c (fun _ _ => .str i) q
theorem v_bl {i : Bool} (q : Q (.d (.bool i)) c) : VE K w (tC (.bl i)) e c Q := v_c (fun _ _ => .bl i) q
theorem v_ty {i : String} (q : Q (.ty i) c) : VE K w (tC (.ty i)) e c Q := fun B G ρ σ H T X S k => k _ _ _ _ _ _ .refl X .ty trivial q
theorem v_op {r : R2} (h : VE K w ta e c fun x c1 => VE K w tb e c1 fun y c2 => V2 K w r x y c2 Q) : VE K w (tOp r ta tb) e c Q := by
  intro B G ρ σ H T X S k
  refine h B G ρ σ H _ X S fun x vx c1 G1 ρ1 H1 E1 X1 s1 f1 q1 => ?_
  refine q1 B G1 ρ1 σ H1 _ X1 (E1.sl X S) fun y vy c2 G2 ρ2 H2 E2 X2 s2 f2 q2 => ?_
  exact q2 B G ρ H G2 ρ2 H2 vx vy T (E1.trans E2) X2 (E2.sh X1 s1) s2 f1 (E1.fr f2) k
theorem v_nil (q : QA [] c) : VA K w tNil e c QA := fun B G ρ σ H T X S k => k _ _ _ _ _ _ .refl X .nil .nil trivial q
theorem dj_of {vs : List V} {us : List W} (s : Sh K w B G ρ H v u) (f : Paired (Fr H) vs us) (n : u.noO = false) : ∀ q ∈ vs.zip us, q.2.noO = false → q.1 ≠ v := by
  have hp : ∃ p, v = .ref p ∧ H p ≠ none := by
    cases s with
    | o h _ _ _ _ => exact ⟨_, rfl, by rw [h]; simp⟩
    | od h _ _ _ _ => exact ⟨_, rfl, by rw [h]; simp⟩
    | _ => cases n
  obtain ⟨p, rfl, hp⟩ := hp
  induction f with
  | nil => intro q hq; cases hq
  | @cons a b l1 l2 r _ ih =>
    intro q hq z e
    rw [List.zip_cons_cons, List.mem_cons] at hq
    rcases hq with rfl | hq
    · cases b with
      | o xs =>
        obtain ⟨p', e1, e2⟩ := r
        simp only at e
        rw [e1] at e
        cases e
        exact hp e2
      | od xs =>
        obtain ⟨p', e1, e2⟩ := r
        simp only at e
        rw [e1] at e
        cases e
        exact hp e2
      | _ => cases z
    · exact ih q hq z e
theorem v_cons (h : VE K w ta e c fun x c1 => VA K w t e c1 fun us c2 => QA (x :: us) c2) : VA K w (tCons ta t) e c QA := by
  intro B G ρ σ H T X S k
  refine h B G ρ σ H _ X S fun x vx c1 G1 ρ1 H1 E1 X1 s1 f1 q1 => ?_
  refine q1 B G1 ρ1 σ H1 _ X1 (E1.sl X S) fun us vs c2 G2 ρ2 H2 E2 X2 s2 f2 d2 q2 => ?_
  exact k _ _ _ _ _ _ (E1.trans E2) X2 (.cons (E2.sh X1 s1) s2) (.cons f1 (Paired.mono (fun _ _ q => E1.fr q) f2)) ⟨fun z => dj_of s1 f2 z, d2⟩ q2
theorem v_cb {r : List V → Hp → VK → Prop} (h : VA K w t e c fun us c1 => VX K w r us c1 Q) : VE K w (tCB r t) e c Q := by
  intro B G ρ σ H T X S k
  refine h B G ρ σ H _ X S fun us vs c1 G1 ρ1 H1 E1 X1 s1 f1 d1 q1 => ?_
  exact q1 B G ρ H G1 ρ1 H1 vs T E1 X1 s1 f1 k
def dat1 : W → Option PyData
  | .d x => some x
  | .o xs => some (.list xs)
  | _ => none
def dats : List W → Option (List PyData)
  | [] => some []
  | u :: us => (dat1 u).bind fun d => (dats us).map fun ds => d :: ds
/-- data, or a new list that can be data -/
def Dd (H0 : Hp) (G : Addr → Prop) (ρ : List Addr) (H : Hp) (v : V) (x : PyData) : Prop := Dq G H v x ∨ ∃ p vs xs, v = .ref p ∧ x = .list xs ∧ H p = some (.lst vs) ∧ DqL G H vs xs ∧ p ∉ ρ ∧ H0 p = none
theorem Dd.of (q : Sh K w B G ρ H v u) (f : Fr H0 v u) {x : PyData} (h : dat1 u = some x) : Dd H0 G ρ H v x := by
  cases q with
  | d q => cases h; exact .inl q
  | o a r g b n =>
    cases h
    obtain ⟨p, e, z⟩ := f
    cases e
    exact .inr ⟨_, _, _, rfl, rfl, a, r, n, z⟩
  | _ => cases h
theorem Dd.gr {x' : PyData} (h : Dd H0 G ρ H v x') (k : ∀ p, G p → G' p) : Dd H0 G' ρ H v x' := by
  rcases h with h | ⟨p, vs, xs, h1, h2, h3, h4, h5⟩
  · exact .inl (h.imp k)
  · exact .inr ⟨p, vs, xs, h1, h2, h3, h4.imp k, h5⟩
theorem Dd.data {x' : PyData} (h : Dd H0 G ρ H v x') (E : Ext G0 ρ0 H0 G ρ H) (X : Hx B G ρ c H) : ∃ G', Ext G0 ρ0 H0 G' ρ H ∧ Hx B G' ρ c H ∧ (∀ p, G p → G' p) ∧ Dq G' H v x' := by
  rcases h with h | ⟨p, vs, xs, rfl, rfl, h3, h4, h5, h6⟩
  · exact ⟨G, E, X, fun _ h => h, h⟩
  · exact ⟨Gp G p, E.data h6, X.data (by rw [h3]; simp) h5, fun _ h => .inl h, .lst (.inr rfl) h3 (h4.imp fun _ h => .inl h)⟩
theorem dats_data : ∀ {vs : List V} {xs : List PyData} {G : Addr → Prop}, Paired (Dd H0 G ρ H) vs xs → Ext G0 ρ0 H0 G ρ H → Hx B G ρ c H → ∃ G', Ext G0 ρ0 H0 G' ρ H ∧ Hx B G' ρ c H ∧ (∀ p, G p → G' p) ∧ DqL G' H vs xs
  | _, _, G, .nil, E, X => ⟨G, E, X, fun _ h => h, .nil⟩
  | _, _, G, .cons r t, E, X => by
    obtain ⟨G1, E1, X1, g1, q1⟩ := r.data E X
    obtain ⟨G2, E2, X2, g2, q2⟩ := dats_data (Paired.mono (fun _ _ q => Dd.gr q g1) t) E1 X1
    exact ⟨G2, E2, X2, fun p h => g2 p (g1 p h), .cons (q1.imp g2) q2⟩
theorem dats_of : ∀ {vs : List V} {us : List W} {xs : List PyData}, Paired (Sh K w B G ρ H) vs us → Paired (Fr H0) vs us → dats us = some xs → Paired (Dd H0 G ρ H) vs xs
  | _, _, xs, .nil, _, h => by cases h; exact .nil
  | _, _, xs, .cons q t, .cons f g, h => by
    unfold dats at h
    obtain ⟨d, h1, h2⟩ := Option.bind_eq_some_iff.mp h
    obtain ⟨ds, h3, rfl⟩ := Option.map_eq_some_iff.mp h2
    exact .cons (Dd.of q f h1) (dats_of t g h3)
theorem v_lst (h : VA K w t e c fun us c1 => ∃ xs, dats us = some xs ∧ us.length ≤ sizeLine ∧ Q (.o xs) c1) : VE K w (tLst t) e c Q := by
  intro B G ρ σ H T X S k
  refine h B G ρ σ H _ X S fun us vs c1 G1 ρ1 H1 E1 X1 s1 f1 d1 ⟨xs, h1, h2, q1⟩ => ?_
  obtain ⟨G2, E2, X2, _, q2⟩ := dats_data (dats_of s1 f1 h1) E1 X1
  refine ⟨by rw [Paired.length s1]; exact h2, fun p n => k.l E2 X2 n q2 q1⟩
theorem v_tup (h : VA K w t e c fun us c1 => ∃ xs, dats us = some xs ∧ us.length ≤ sizeLine ∧ Q (.d (.tuple xs)) c1) : VE K w (tTup t) e c Q := by
  intro B G ρ σ H T X S k
  refine h B G ρ σ H _ X S fun us vs c1 G1 ρ1 H1 E1 X1 s1 f1 d1 ⟨xs, h1, h2, q1⟩ => ?_
  obtain ⟨G2, E2, X2, _, q2⟩ := dats_data (dats_of s1 f1 h1) E1 X1
  refine ⟨by rw [Paired.length s1]; exact h2, fun p n => k.t E2 X2 n q2 q1⟩
inductive Tv (c : Cs) : W → Bool → Prop
  | non : Tv c (.d .none) false
  | bl (b : Bool) : Tv c (.d (.bool b)) b
  | int (i : Int) : Tv c (.d (.int i)) (i != 0)
  | str (s : Str) (h : s.length ≤ sizeLine) : Tv c (.d (.str s)) ((s.length : Int) != 0)
  | lst {u : W} {xs : List PyData} (h : Lv c u xs) : Tv c u (!xs.isEmpty)
  | tup (xs : List PyData) : Tv c (.d (.tuple xs)) (!xs.isEmpty)
  | dct {k : Nat} {kvs : List (Key × PyData)} (h : c[k]? = some (.m kvs)) : Tv c (.c k) (!kvs.isEmpty)
theorem dql_len {vs : List V} : ∀ {xs : List PyData}, DqL G H vs xs → vs.length = xs.length := by
  intro xs h
  induction vs generalizing xs with
  | nil => cases h; rfl
  | cons v vs ih =>
    cases h with
    | cons _ r => simp [ih r]
theorem isE {α β : Type} {xs : List α} {ys : List β} (h : xs.length = ys.length) : xs.isEmpty = ys.isEmpty := by
  cases xs <;> cases ys <;> simp at h <;> rfl
theorem Tv.tru {b : Bool} (h : Tv c u b) (X : Hx B G ρ c H) (q : Sh K w B G ρ H v u) : TruV K v H b := by
  cases h with
  | non => cases q with | d q => cases q; rfl
  | bl b => cases q with | d q => cases q; rfl
  | int i => cases q with | d q => cases q; rfl
  | str s h => cases q with | d q => cases q; exact ⟨h, rfl⟩
  | lst l =>
    obtain ⟨a, vs, rfl, h1, h2⟩ := l.seq X q
    exact .inl ⟨vs, h1, by rw [isE (dql_len h2)]⟩
  | tup xs =>
    cases q with
    | d q =>
      cases q with
      | tup n h r => exact .inr (.inl ⟨_, SqT.of h, by rw [isE (dql_len r)]⟩)
  | dct e =>
    cases q with
    | c h =>
      obtain ⟨p, hp, r⟩ := paired_get X.cells e
      rw [h] at hp
      cases hp
      cases r with
      | m h r => exact .inr (.inr ⟨_, h, by rw [isE (Paired.length r)]⟩)
theorem v_andT (h : VE K w ta e c fun x c1 => ∃ k, Tv c1 x k ∧ if k = true then VE K w tb e c1 Q else Q x c1) : VE K w (tAndT K ta tb) e c Q := by
  intro B G ρ σ H T X S k
  refine h B G ρ σ H _ X S fun x vx c1 G1 ρ1 H1 E1 X1 s1 f1 ⟨b, hb, q1⟩ => ⟨b, hb.tru X1 s1, ?_⟩
  cases b with
  | true =>
    rw [if_pos rfl] at q1; rw [if_pos rfl]
    exact q1 _ _ _ _ _ _ X1 (E1.sl X S) fun u v c' G' ρ' H' E' X' s f q => k u v c' G' ρ' H' (E1.trans E') X' s (E1.fr f) q
  | false => rw [if_neg (by decide)] at q1; rw [if_neg (by decide)]; exact k _ _ _ _ _ _ E1 X1 s1 f1 q1
theorem v_orT (h : VE K w ta e c fun x c1 => ∃ k, Tv c1 x k ∧ if k = true then Q x c1 else VE K w tb e c1 Q) : VE K w (tOrT K ta tb) e c Q := by
  intro B G ρ σ H T X S k
  refine h B G ρ σ H _ X S fun x vx c1 G1 ρ1 H1 E1 X1 s1 f1 ⟨b, hb, q1⟩ => ⟨b, hb.tru X1 s1, ?_⟩
  cases b with
  | false =>
    rw [if_neg (by decide)] at q1; rw [if_neg (by decide)]
    exact q1 _ _ _ _ _ _ X1 (E1.sl X S) fun u v c' G' ρ' H' E' X' s f q => k u v c' G' ρ' H' (E1.trans E') X' s (E1.fr f) q
  | true => rw [if_pos rfl] at q1; rw [if_pos rfl]; exact k _ _ _ _ _ _ E1 X1 s1 f1 q1
theorem v_tru (h : VE K w te e c fun x c1 => ∃ k, Tv c1 x k ∧ QB k c1) : VT K w (uTru K te) e c QB := by
  intro B G ρ σ H T X S k
  refine h B G ρ σ H _ X S fun x vx c1 G1 ρ1 H1 E1 X1 s1 f1 ⟨b, hb, q1⟩ => ⟨b, hb.tru X1 s1, ?_⟩
  exact k _ _ _ _ _ E1 X1 q1
theorem v_test (h : VE K w te e c fun x c1 => ∃ k, x = .d (.bool k) ∧ QB k c1) : VT K w (tTest te) e c QB := by
  intro B G ρ σ H T X S k
  refine h B G ρ σ H _ X S fun x vx c1 G1 ρ1 H1 E1 X1 s1 f1 ⟨b, hb, q1⟩ => ?_
  subst hb
  cases s1 with
  | d q =>
    cases q
    exact ⟨b, rfl, k _ _ _ _ _ E1 X1 q1⟩
theorem KtB.re {α : Type} {QB : α → Cs → Prop} {T : α → Hp → Prop} (k : KtB B G ρ H QB T) (E : Ext G ρ H G' ρ' H') : KtB B G' ρ' H' QB T := fun b c' G1 ρ1 H1 E1 X1 q => k b c' G1 ρ1 H1 (E.trans E1) X1 q
theorem Kt.re {T : VK} (k : Kt K w B G ρ H Q T) (E : Ext G ρ H G' ρ' H') : Kt K w B G' ρ' H' Q T := fun u v c' G1 ρ1 H1 E1 X1 s f q => k u v c' G1 ρ1 H1 (E.trans E1) X1 s (E.fr f) q
theorem v_tor (h : VT K w tt e c fun b c1 => if b = true then QB true c1 else VT K w tt1 e c1 QB) : VT K w (tOr tt tt1) e c QB := by
  intro B G ρ σ H T X S k
  refine h B G ρ σ H _ X S fun b c1 G1 ρ1 H1 E1 X1 q1 => ?_
  cases b with
  | false => rw [if_neg (by decide)] at q1; rw [if_neg (by decide)]; exact q1 _ _ _ _ _ _ X1 (E1.sl X S) (k.re E1)
  | true => rw [if_pos rfl] at q1; rw [if_pos rfl]; exact k _ _ _ _ _ E1 X1 q1
theorem v_tnot (h : VT K w tt e c fun b c1 => QB (!b) c1) : VT K w (tNot tt) e c QB := by
  intro B G ρ σ H T X S k
  exact h B G ρ σ H _ X S fun b c1 G1 ρ1 H1 E1 X1 q1 => k _ _ _ _ _ E1 X1 q1
theorem v_yes (q : QB true c) : VT K w tYes e c QB := fun B G ρ σ H T X S k => k _ _ _ _ _ .refl X q
end
end Gd
namespace Gd
open PySem PySem.Spec PyProof.Rows L2
section
variable {K : PySem.W.Frag} {w : World} {B : Addr → Prop} {G G' G'' G0 : Addr → Prop} {ρ ρ' ρ'' ρ0 : List Addr} {H H' H'' H0 : Hp} {c c' : Cs} {σ : L2.St} {e e' : Ev} {v vx vy : V} {u x y : W}
variable {Q : W → Cs → Prop}
theorem dq_int {i : Int} (h : Dq G H v (.int i)) : v = .int i := by cases h; rfl
theorem dq_str {i : Str} (h : Dq G H v (.str i)) : v = .str i := by cases h; rfl
theorem dq_bl {i : Bool} (h : Dq G H v (.bool i)) : v = .bl i := by cases h; rfl
theorem dql_strs : ∀ {vs : List V} {ws : List Str}, DqL G H vs (ws.map .str) → vs = ws.map V.str
  | _, [], h => by cases h; rfl
  | _, w :: ws, h => by
    cases h with
    | cons h r => rw [dq_str h, dql_strs r]; rfl
theorem dql_at {vs : List V} {xs : List PyData} {i : Int} {d : PyData} (h : DqL G H vs xs) (e : atI xs i = some d) : ∃ v, atI vs i = some v ∧ Dq G H v d := by
  unfold atI at *
  obtain ⟨j, h1, h2⟩ := Option.bind_eq_some_iff.mp e
  have hl := dql_len h
  have : ∃ v, vs[j]? = some v := by
    have := (List.getElem?_eq_some_iff.mp h2).1
    exact ⟨vs[j], List.getElem?_eq_getElem (by omega)⟩
  obtain ⟨v, hv⟩ := this
  obtain ⟨d', e1, e2⟩ := DqL.get h hv
  rw [h2] at e1
  cases e1
  exact ⟨v, by rw [hl, h1]; exact hv, e2⟩
theorem DqL.take {vs : List V} : ∀ {xs : List PyData} (n : Nat), DqL G H vs xs → DqL G H (vs.take n) (xs.take n) := by
  intro xs n h
  induction vs generalizing xs n with
  | nil => cases h; simp; exact .nil
  | cons v vs ih =>
    cases h with
    | cons h r =>
      cases n with
      | zero => exact .nil
      | succ n => exact .cons h (ih n r)
theorem DqL.drop {vs : List V} : ∀ {xs : List PyData} (n : Nat), DqL G H vs xs → DqL G H (vs.drop n) (xs.drop n) := by
  intro xs n h
  induction vs generalizing xs n with
  | nil => cases h; simp; exact .nil
  | cons v vs ih =>
    cases h with
    | cons h r =>
      cases n with
      | zero => exact .cons h r
      | succ n => exact ih n r
theorem DqL.set {vs : List V} {xs : List PyData} {v : V} {d : PyData} (j : Nat) (h : DqL G H vs xs) (q : Dq G H v d) : DqL G H (vs.set j v) (xs.set j d) := by
  induction vs generalizing xs j with
  | nil => cases h; exact .nil
  | cons v vs ih =>
    cases h with
    | cons h r =>
      cases j with
      | zero => exact .cons q r
      | succ j => exact .cons h (ih j r)
/-- the cut of a list of data -/
def cutD (xs : List PyData) (lo hi : Option Int) : List PyData := (xs.drop (HT.sIx xs.length 0 lo)).take (HT.sIx xs.length xs.length hi - HT.sIx xs.length 0 lo)
theorem DqL.cut {vs : List V} {xs : List PyData} (h : DqL G H vs xs) (lo hi : Option Int) : DqL G H (cutV vs lo hi) (cutD xs lo hi) := by
  unfold cutV cutD
  rw [dql_len h]
  exact (h.drop _).take _
theorem w_ss {r : R2} {a b z : PyData} {va vb vz : V} (ha : ∀ {G H v}, Dq G H v a → v = va) (hb : ∀ {G H v}, Dq G H v b → v = vb) (hz : ∀ {G H}, Dq G H vz z)
    (hr : ∀ {H : Hp} {T : VK}, T vz H → r va vb H T) (q : Q (.d z) c) : V2 K w r (.d a) (.d b) c Q := by
  intro B G0 ρ0 H0 G ρ H vx vy T E X sx sy fx fy k
  cases sx with
  | d q1 =>
    cases sy with
    | d q2 =>
      rw [ha q1, hb q2]
      exact hr (k.d E X hz q)
theorem w_addI {a b : Int} (q : Q (.d (.int (a + b))) c) : V2 K w (uAdd K) (.d (.int a)) (.d (.int b)) c Q := w_ss dq_int dq_int (.int _) (fun q => u_addI q) q
theorem w_addL {xs ys : List PyData} (h1 : Lv c x xs) (h2 : Lv c y ys) (h3 : xs.length + ys.length ≤ sizeLine) (q : Q (.o (xs ++ ys)) c) : V2 K w (uAdd K) x y c Q := by
  intro B G0 ρ0 H0 G ρ H vx vy T E X sx sy fx fy k
  obtain ⟨a, vs, rfl, a1, a2⟩ := h1.seq X sx
  obtain ⟨b, us, rfl, b1, b2⟩ := h2.seq X sy
  exact u_addL a1 b1 (by rw [dql_len a2, dql_len b2]; exact h3) fun p n => k.l E X n (a2.app b2) q
theorem w_subI {a b : Int} (q : Q (.d (.int (a - b))) c) : V2 K w uSub (.d (.int a)) (.d (.int b)) c Q := w_ss dq_int dq_int (.int _) (fun q => u_subI q) q
theorem w_mulI {a b : Int} (h : CMul a b ∨ CMulW a b) (q : Q (.d (.int (a * b))) c) : V2 K w uMul (.d (.int a)) (.d (.int b)) c Q := w_ss dq_int dq_int (.int _) (fun q => u_mulI h q) q
theorem w_mulS {a : Str} {b : Int} (h1 : b < 16777217) (h2 : -16777217 < b) (h3 : a.length * b.toNat ≤ sizeLine) (q : Q (.d (.str (strRep a b.toNat))) c) : V2 K w uMul (.d (.str a)) (.d (.int b)) c Q := w_ss dq_str dq_int (.str _) (fun q => u_mulS h1 h2 h3 q) q
theorem DqL.rep {vs : List V} {xs : List PyData} (h : DqL G H vs xs) : ∀ n : Nat, DqL G H (List.replicate n vs).flatten (List.replicate n xs).flatten
  | 0 => .nil
  | n + 1 => by
    rw [List.replicate_succ, List.flatten_cons, List.replicate_succ, List.flatten_cons]
    exact h.app (DqL.rep h n)
theorem w_mulL {xs : List PyData} {b : Int} (h1 : Lx c x xs) (b1 : -(2 ^ 63) ≤ b) (b2 : b < 2 ^ 63) (h3 : xs.length * b.toNat ≤ sizeLine) (q : Q (.o (List.replicate b.toNat xs).flatten) c) : V2 K w uMul x (.d (.int b)) c Q := by
  intro B G0 ρ0 H0 G ρ H vx vy T E X sx sy fx fy k
  obtain ⟨a, vs, rfl, a1, a2⟩ := h1.at X sx
  cases sy with
  | d q2 =>
    cases q2
    exact ⟨vs, a1, b1, b2, by rw [dql_len a2]; exact h3, fun p n => k.l E X n (a2.rep _) q⟩
theorem w_mod {a b : Int} (h : 0 < b) (q : Q (.d (.int (a % b))) c) : V2 K w uMod (.d (.int a)) (.d (.int b)) c Q := w_ss dq_int dq_int (.int _) (fun q => u_mod h q) q
theorem w_div {a b : Int} (h : 0 < b) (h2 : b.natAbs.log2 < 9000) (q : Q (.d (.int (a / b))) c) : V2 K w uDiv (.d (.int a)) (.d (.int b)) c Q := w_ss dq_int dq_int (.int _) (fun q => u_div h h2 q) q
theorem w_pow {a b : Int} (h : CPowW a b) (q : Q (.d (.int (a ^ b.toNat))) c) : V2 K w uPow (.d (.int a)) (.d (.int b)) c Q := w_ss dq_int dq_int (.int _) (fun q => u_pow h q) q
theorem w_eqI {a b : Int} (q : Q (.d (.bool (decide (a = b)))) c) : V2 K w (uEq K) (.d (.int a)) (.d (.int b)) c Q := w_ss dq_int dq_int (.bl _) (fun q => u_eqI q) q
theorem w_eqS {a b : Str} (q : Q (.d (.bool (decide (a = b)))) c) : V2 K w (uEq K) (.d (.str a)) (.d (.str b)) c Q := w_ss dq_str dq_str (.bl _) (fun q => u_eqS q) q
theorem w_gtI {a b : Int} (q : Q (.d (.bool (decide (b < a)))) c) : V2 K w uGt (.d (.int a)) (.d (.int b)) c Q := w_ss dq_int dq_int (.bl _) (fun q => u_gtI q) q
theorem w_inS {a : Nat} {z : Str} (q : Q (.d (.bool (decide (a ∈ tl z)))) c) : V2 K w (uIn K) (.d (.str ⟨#[a]⟩)) (.d (.str z)) c Q := w_ss dq_str dq_str (.bl _) (fun q => u_inS q) q
theorem w_eqD {a b : PyData} (h1 : Dv c x a) (h2 : Dv c y b) (s1 : SeqAt.shaped a = true) (s2 : SeqAt.shaped b = true) (q : Q (.d (.bool (PyData.eqv a b))) c) : V2 K w (uEq K) x y c Q := by
  intro B G0 ρ0 H0 G ρ H vx vy T E X sx sy fx fy k
  exact u_eqD (h1.dp X sx (noDict_shaped _ s1)) (h2.dp X sy (noDict_shaped _ s2)) s1 s2 (k.d E X (.bl _) q)
theorem w_neD {a b : PyData} (h1 : Dv c x a) (h2 : Dv c y b) (s1 : SeqAt.shaped a = true) (s2 : SeqAt.shaped b = true) (q : Q (.d (.bool (!PyData.eqv a b))) c) : V2 K w (uNe K) x y c Q := by
  intro B G0 ρ0 H0 G ρ H vx vy T E X sx sy fx fy k
  exact u_neD (h1.dp X sx (noDict_shaped _ s1)) (h2.dp X sy (noDict_shaped _ s2)) s1 s2 (k.d E X (.bl _) q)
theorem w_ixL {xs : List PyData} {i : Int} {d : PyData} (h : Lv c x xs) (a : atI xs i = some d) (q : Q (.d d) c) : V2 K w (rIx K) x (.d (.int i)) c Q := by
  intro B G0 ρ0 H0 G ρ H vx vy T E X sx sy fx fy k
  obtain ⟨p, vs, rfl, a1, a2⟩ := h.seq X sx
  cases sy with
  | d q2 =>
    cases q2
    obtain ⟨v, h1, h2⟩ := dql_at a2 a
    exact u_ixL a1 h1 (k.d E X h2 q)
theorem w_ixS {z : Str} {i : Int} {a : Nat} (h : z.length ≤ sizeLine) (g : atI (tl z) i = some a) (q : Q (.d (.str ⟨#[a]⟩)) c) : V2 K w (rIx K) (.d (.str z)) (.d (.int i)) c Q := w_ss dq_str dq_int (.str _) (fun q => u_ixS h g q) q
theorem v1 {vs : List V} {F : V → W → Prop} (h : Paired F vs [u]) : ∃ v, vs = [v] ∧ F v u := by
  cases h with
  | cons r t => cases t; exact ⟨_, rfl, r⟩
theorem v2 {vs : List V} {F : V → W → Prop} (h : Paired F vs [x, y]) : ∃ v v', vs = [v, v'] ∧ F v x ∧ F v' y := by
  cases h with
  | cons r t =>
    obtain ⟨v', rfl, r'⟩ := v1 t
    exact ⟨_, _, rfl, r, r'⟩
theorem w_x1 {r : List V → Hp → VK → Prop} {a z : PyData} {va vz : V} (ha : ∀ {G H v}, Dq G H v a → v = va) (hz : ∀ {G H}, Dq G H vz z)
    (hr : ∀ {H : Hp} {T : VK}, T vz H → r [va] H T) (q : Q (.d z) c) : VX K w r [.d a] c Q := by
  intro B G0 ρ0 H0 G ρ H vs T E X sx fx k
  obtain ⟨v, rfl, s⟩ := v1 sx
  cases s with
  | d q1 => rw [ha q1]; exact hr (k.d E X hz q)
theorem w_x2 {r : List V → Hp → VK → Prop} {a b z : PyData} {va vb vz : V} (ha : ∀ {G H v}, Dq G H v a → v = va) (hb : ∀ {G H v}, Dq G H v b → v = vb) (hz : ∀ {G H}, Dq G H vz z)
    (hr : ∀ {H : Hp} {T : VK}, T vz H → r [va, vb] H T) (q : Q (.d z) c) : VX K w r [.d a, .d b] c Q := by
  intro B G0 ρ0 H0 G ρ H vs T E X sx fx k
  obtain ⟨v, v', rfl, s, s'⟩ := v2 sx
  cases s with
  | d q1 => cases s' with
    | d q2 => rw [ha q1, hb q2]; exact hr (k.d E X hz q)
theorem w_lenS {s : Str} (h : s.length ≤ sizeLine) (q : Q (.d (.int (s.length : Int))) c) : VX K w (uLen K) [.d (.str s)] c Q := w_x1 dq_str (.int _) (fun q => u_lenS h q) q
inductive Tw (c : Cs) : W → String → Prop
  | non : Tw c (.d .none) "NoneType"
  | bl (b : Bool) : Tw c (.d (.bool b)) "bool"
  | int (i : Int) : Tw c (.d (.int i)) "int"
  | str (s : Str) : Tw c (.d (.str s)) "str"
  | tup (xs : List PyData) : Tw c (.d (.tuple xs)) "tuple"
  | lst {u : W} {xs : List PyData} (h : Lv c u xs) : Tw c u "list"
  | dct (xs : List (PyData × PyData)) : Tw c (.d (.dict xs)) "dict"
theorem Tw.n {t : String} (h : Tw c u t) (X : Hx B G ρ c H) (q : Sh K w B G ρ H v u) : TyN K H v t := by
  cases h with
  | non => cases q with | d q => cases q; exact .non
  | bl b => cases q with | d q => cases q; exact .bl _
  | int i => cases q with | d q => cases q; exact .int _
  | str s => cases q with | d q => cases q; exact .str _
  | tup xs =>
    cases q with
    | d q => cases q with
      | tup n h r => exact .tup h
  | lst l =>
    obtain ⟨p, vs, rfl, a1, a2⟩ := l.seq X q
    exact .lst a1
  | dct xs =>
    cases q with
    | d q => cases q with
      | d0 n h => exact .dct h
theorem w_isi {t C : String} (h : Tw c x t) (q : Q (.d (.bool (isi t C))) c) (hC : C ∈ ["bool", "int", "str", "list", "tuple", "dict"] := by decide) : VX K w (uIsi K) [x, .ty C] c Q := by
  intro B G0 ρ0 H0 G ρ H vs T E X sx fx k
  obtain ⟨v, v', rfl, s, s'⟩ := v2 sx
  cases s'
  exact u_isi (h.n X s) (k.d E X (.bl _) q) hC
theorem w_repr {d : PyData} (h : Dx c x d) (s : Sm d) (q : Q (.d (.str d.shown)) c) : VX K w uRepr [x] c Q := by
  intro B G0 ρ0 H0 G ρ H vs T E X sx fx k
  obtain ⟨v, rfl, s'⟩ := v1 sx
  exact u_repr (h.dq X s') s (k.d E X (.str _) q)
theorem w_intB {b : Bool} (q : Q (.d (.int (if b then 1 else 0))) c) : VX K w (fun xs H Q => (∃ i, xs = [.int i] ∧ Q (.int i) H) ∨ ∃ k, xs = [.bl k] ∧ Q (.int (if k then 1 else 0)) H) [.d (.bool b)] c Q := w_x1 dq_bl (.int _) (fun q => .inr ⟨_, rfl, q⟩) q
def VSl (K : PySem.W.Frag) (w : World) (r : V → Option Int → Option Int → Hp → VK → Prop) (x : W) (lo hi : Option Int) (c : Cs) (Q : W → Cs → Prop) : Prop := VU K w (fun v H T => r v lo hi H T) x c Q
theorem w_slL {xs : List PyData} {lo hi : Option Int} (h : Lv c x xs) (q : Q (.o (cutD xs lo hi)) c) : VSl K w (uSl K) x lo hi c Q := by
  intro B G0 ρ0 H0 G ρ H vx T E X s fx k
  obtain ⟨p, vs, rfl, a1, a2⟩ := h.seq X s
  exact u_slL a1 fun p n => k.l E X n (a2.cut lo hi) q
variable {ta tb tc te : TE} {t : TA} {tt tt1 : TT} {i : Nat} {QO : Option Int → Cs → Prop} {to th : TO}
theorem v_sl {r : V → Option Int → Option Int → Hp → VK → Prop} (h : VE K w te e c fun x c1 => VO K w to e c1 fun lo c2 => VO K w th e c2 fun hi c3 => VSl K w r x lo hi c3 Q) : VE K w (tSl r te to th) e c Q := by
  intro B G ρ σ H T X S k
  refine h B G ρ σ H _ X S fun x vx c1 G1 ρ1 H1 E1 X1 s1 f1 q1 => ?_
  refine q1 B G1 ρ1 σ H1 _ X1 (E1.sl X S) fun lo c2 G2 ρ2 H2 E2 X2 q2 => ?_
  refine q2 B G2 ρ2 σ H2 _ X2 ((E1.trans E2).sl X S) fun hi c3 G3 ρ3 H3 E3 X3 q3 => ?_
  exact q3 B G ρ H G3 ρ3 H3 vx T ((E1.trans E2).trans E3) X3 ((E2.trans E3).sh X1 s1) f1 k
theorem v_part (h : VE K w te e c fun x c1 => ∃ i, x = .d (.int i) ∧ QO (some i) c1) : VO K w (tPart te) e c QO := by
  intro B G ρ σ H T X S k
  refine h B G ρ σ H _ X S fun x vx c1 G1 ρ1 H1 E1 X1 s1 f1 ⟨i, hi, q1⟩ => ?_
  subst hi
  cases s1 with
  | d q => cases q; exact ⟨i, rfl, k _ _ _ _ _ E1 X1 q1⟩
theorem v_nopart (q : QO none c) : VO K w tNoPart e c QO := fun B G ρ σ H T X S k => k _ _ _ _ _ .refl X q
variable {QA : List W → Cs → Prop}
inductive Tyw (c : Cs) : String → W → Prop
  | str (s : Str) : Tyw c "str" (.d (.str s))
  | lst {u : W} {xs : List PyData} (h : Lv c u xs) : Tyw c "list" u
  | dct {k : Nat} {kvs : List (Key × PyData)} (h : c[k]? = some (.m kvs)) : Tyw c "dict" (.c k)
theorem Tyw.ok {t : String} (h : Tyw c t u) (X : Hx B G ρ c H) (q : Sh K w B G ρ H v u) : tyV K t v H := by
  cases h with
  | str s => cases q with | d q => cases q; rfl
  | lst l =>
    obtain ⟨p, vs, rfl, a1, a2⟩ := l.seq X q
    exact .inl ⟨rfl, _, a1⟩
  | dct e =>
    cases q with
    | c h =>
      obtain ⟨p, hp, r⟩ := paired_get X.cells e
      rw [h] at hp
      cases hp
      cases r with
      | m h r => exact .inr (.inr (.inl ⟨rfl, .inl ⟨_, h⟩⟩))
theorem v_m1 {r : V → List V → Hp → VK → Prop} (h : VE K w ta e c fun x c1 => (∃ a, x = .d (.str a)) ∧ VE K w tb e c1 fun y c2 => VM K w r x [y] c2 Q) : VE K w (tM1 r ta tb) e c Q := by
  intro B G ρ σ H T X S k
  refine h B G ρ σ H _ X S fun x vx c1 G1 ρ1 H1 E1 X1 s1 f1 ⟨⟨a, t1⟩, q1⟩ => ?_
  subst t1
  refine ⟨?_, ?_⟩
  · cases s1 with
    | d q => cases q; exact ⟨_, rfl⟩
  refine q1 B G1 ρ1 σ H1 _ X1 (E1.sl X S) fun y vy c2 G2 ρ2 H2 E2 X2 s2 f2 q2 => ?_
  exact q2 B G ρ H G2 ρ2 H2 vx [vy] T (E1.trans E2) X2 (E2.sh X1 s1) f1 (.cons s2 .nil) (.cons (E1.fr f2) .nil) k
theorem w_join {a : Str} {ws : List Str} (h : Lv c x (ws.map .str)) (hz : (ws.map (·.length)).sum + ws.length * a.length ≤ 16777216) (q : Q (.d (.str (Txt.join a ws))) c) : VM K w (rJoin K) (.d (.str a)) [x] c Q := by
  intro B G0 ρ0 H0 G ρ H vx vs T E X sx fx ss fs k
  obtain ⟨v, rfl, s⟩ := v1 ss
  obtain ⟨p, vs, rfl, a1, a2⟩ := h.seq X s
  rw [dql_strs a2] at a1
  cases sx with
  | d q1 => cases q1; exact ⟨a, p, ws, rfl, rfl, .inl a1, hz, k.d E X (.str _) q⟩
theorem cell_at {k : Nat} {xs : List PyData} (X : Hx B G ρ c H) (q : Sh K w B G ρ H v (.c k)) (h : c[k]? = some (.l xs)) : ∃ p vs, v = .ref p ∧ ρ[k]? = some p ∧ H p = some (.lst vs) ∧ DqL G H vs xs := by
  cases q with
  | c hp =>
    obtain ⟨p, hp', r⟩ := paired_get X.cells h
    rw [hp] at hp'
    cases hp'
    cases r with
    | l h r => exact ⟨_, _, rfl, hp, h, r⟩
theorem dql_upd {p : Addr} {o : HO} {vs : List V} {xs : List PyData} (X : Hx B G ρ c H) {k : Nat} (hp : ρ[k]? = some p) (h : DqL G H vs xs) : DqL G (upd H p o) vs xs := h.mut (fun g => X.av p (List.mem_of_getElem? hp) g)
/-- the cell at k made new -/
theorem Kt.mut {T : VK} (k : Kt K w B G0 ρ0 H0 Q T) (E : Ext G0 ρ0 H0 G ρ H) (X : Hx B G ρ c H) {j : Nat} {p : Addr} {vs : List V} {xs : List PyData} (hp : ρ[j]? = some p) (r : DqL G H vs xs) {u : V} {d : PyData} (hu : Dq G H u d) (q : Q (.d d) (c.set j (.l xs))) : T u (upd H p (.lst vs)) := by
  have m := List.mem_of_getElem? hp
  exact k _ _ _ _ _ _ (E.mut m) (X.mut hp (.l upd_same (dql_upd X hp r))) (.d (hu.mut fun g => X.av p m g)) trivial q
end
end Gd
namespace Gd
open PySem PySem.Spec PyProof.Rows L2
structure DV where
  nx : Ev → Cs → Prop
  rt : W → Cs → Prop
  bk : Ev → Cs → Prop := fun _ _ => False
  ct : Ev → Cs → Prop := fun _ _ => False
  /-- what leaves it as an exception of the class at C with the payload z; the wish of it that the text bears -/
  xx : Addr → Option (Str × PyData) → Ev → Cs → Prop := fun _ _ _ _ => False
  W : WX := fun _ _ _ _ => True
section
variable {K : PySem.W.Frag} {w : World} {B G G' G'' G0 : Addr → Prop} {ρ ρ' ρ'' ρ0 : List Addr} {H H' H'' H0 : Hp} {c c' : Cs} {σ : L2.St} {e e' : Ev} {v vx vy : V} {u x y : W}
variable {Q : W → Cs → Prop} {QA : List W → Cs → Prop} {QB : Bool → Cs → Prop} {QO : Option Int → Cs → Prop} {ta tb tc te to ti : TE} {t : TA} {tt tt1 : TT} {i j k : Nat} {P : Ev → Cs → Prop} {D : DV} {Dh : Ends} {g : TG} {ts us : TS}
def LfN (K : PySem.W.Frag) (w : World) (B G : Addr → Prop) (ρ : List Addr) (H : Hp) (P : Ev → Cs → Prop) (Ph : L2.St → Hp → Prop) : Prop :=
  ∀ e' c' σ' G' ρ' H', Ext G ρ H G' ρ' H' → Hx B G' ρ' c' H' → Sl K w B G' ρ' H' σ' e' → P e' c' → Ph σ' H'
/-- an exception's own dict -/
def Xd (G : Addr → Prop) (H : Hp) : Option Addr → Option (Str × PyData) → Prop
  | none, none => True
  | some dd, some (f, x) => ∃ v, H dd = some (.xd [(f, v)]) ∧ Dq G H v x
  | _, _ => False
def LfX (K : PySem.W.Frag) (w : World) (B G : Addr → Prop) (ρ : List Addr) (H : Hp) (X : Addr → Option (Str × PyData) → Ev → Cs → Prop) (Wh : WX) : Prop :=
  ∀ C d z e' c' σ' G' ρ' H', Ext G ρ H G' ρ' H' → Hx B G' ρ' c' H' → Sl K w B G' ρ' H' σ' e' → Xd G' H' d z → X C z e' c' → Wh (.ref C) d σ' H'
structure Lf (K : PySem.W.Frag) (w : World) (B G : Addr → Prop) (ρ : List Addr) (H : Hp) (D : DV) (Dh : Ends) : Prop where
  nx : LfN K w B G ρ H D.nx Dh.nx
  rt : Kt K w B G ρ H D.rt Dh.rt
  bk : LfN K w B G ρ H D.bk Dh.bk
  ct : LfN K w B G ρ H D.ct Dh.ct
  xx : LfX K w B G ρ H D.xx D.W
theorem LfN.re {Ph : L2.St → Hp → Prop} (h : LfN K w B G ρ H P Ph) (E : Ext G ρ H G' ρ' H') : LfN K w B G' ρ' H' P Ph := fun e' c' σ' G1 ρ1 H1 E1 => h e' c' σ' G1 ρ1 H1 (E.trans E1)
theorem LfX.re {R : Addr → Option (Str × PyData) → Ev → Cs → Prop} {Wh : WX} (h : LfX K w B G ρ H R Wh) (E : Ext G ρ H G' ρ' H') : LfX K w B G' ρ' H' R Wh := fun C d z e' c' σ' G1 ρ1 H1 E1 => h C d z e' c' σ' G1 ρ1 H1 (E.trans E1)
theorem Lf.re (h : Lf K w B G ρ H D Dh) (E : Ext G ρ H G' ρ' H') : Lf K w B G' ρ' H' D Dh := ⟨h.nx.re E, h.rt.re E, h.bk.re E, h.ct.re E, h.xx.re E⟩
def VS (K : PySem.W.Frag) (w : World) (ts : TS) (e : Ev) (c : Cs) (D : DV) : Prop :=
  ∀ B G ρ σ H Dh, Hx B G ρ c H → Sl K w B G ρ H σ e → Lf K w B G ρ H D Dh → ts Dh σ H
def LfG (K : PySem.W.Frag) (w : World) (B G0 : Addr → Prop) (ρ0 : List Addr) (H0 : Hp) (G : Addr → Prop) (ρ : List Addr) (H : Hp) (P : Ev → Cs → Prop) (Ph : L2.St → Hp → Prop) : Prop :=
  ∀ e' c' σ' G' ρ' H', Ext G0 ρ0 H0 G' ρ' H' → Stay B G ρ H G' ρ' H' → Hx B G' ρ' c' H' → Sl K w B G' ρ' H' σ' e' → P e' c' → Ph σ' H'
def VG (K : PySem.W.Frag) (w : World) (g : TG) (u : W) (e : Ev) (c : Cs) (P : Ev → Cs → Prop) : Prop :=
  ∀ B G0 ρ0 H0 G ρ σ H v Ph, Ext G0 ρ0 H0 G ρ H → Hx B G ρ c H → Sl K w B G ρ H σ e → Sh K w B G ρ H v u → Fr H0 v u → LfG K w B G0 ρ0 H0 G ρ H P Ph → g v σ H Ph
def VGs (K : PySem.W.Frag) (w : World) (g : TGs) (xs : List PyData) (e : Ev) (c : Cs) (P : Ev → Cs → Prop) : Prop :=
  ∀ B G0 ρ0 H0 G ρ σ H vs Ph, Ext G0 ρ0 H0 G ρ H → Hx B G ρ c H → Sl K w B G ρ H σ e → DqL G H vs xs → LfG K w B G0 ρ0 H0 G ρ H P Ph → g vs σ H Ph
theorem sl_set (S : Sl K w B G ρ H σ e) (s : Sh K w B G ρ H v u) (n : u.noO = true) (i : Nat) : Sl K w B G ρ H (σ.set i (some v)) (e.set i (some u)) := paired_set ⟨n, v, rfl, s⟩ i S
theorem v_gname (n : u.noO = true) (q : P (e.set i (some u)) c) : VG K w (gName i) u e c P := by
  intro B G0 ρ0 H0 G ρ σ H v Ph E X S s f k
  exact k _ _ _ _ _ _ E .refl X (sl_set S s n i) q
theorem v_gnameD {xs : List PyData} (q : P (e.set i (some (.d (.list xs)))) c) : VG K w (gName i) (.o xs) e c P := by
  intro B G0 ρ0 H0 G ρ σ H v Ph E X S s f k
  cases s with
  | @o p vs _ h r g b n =>
    obtain ⟨p', ep, hp⟩ := f
    cases ep
    have X1 := X.data (by rw [h]; simp) n
    have gr : ∀ q, G q → Gp G p q := fun q h => .inl h
    have st : Stay B G ρ H (Gp G p) ρ H := ⟨fun _ _ _ h => h, fun _ _ _ h => h, gr, [], by simp⟩
    exact k _ _ _ _ _ _ (E.data hp) st X1 (sl_set (st.sl S) (.d (.lst (.inr rfl) h (r.imp gr))) rfl i) q
theorem v_gnameC {xs : List PyData} (q : P (e.set i (some (.c c.length))) (c ++ [.l xs])) : VG K w (gName i) (.o xs) e c P := by
  intro B G0 ρ0 H0 G ρ σ H v Ph E X S s f k
  cases s with
  | @o p vs _ h r g b n =>
    obtain ⟨p', ep, hp⟩ := f
    cases ep
    have X1 := X.cell (.l h r) n g b
    have st : Stay B G ρ H G (ρ ++ [p]) H := ⟨fun _ _ _ h => h, fun _ _ _ h => h, fun _ h => h, [p], rfl⟩
    refine k _ _ _ _ _ _ (E.cell hp) st X1 (sl_set (st.sl S) (.c ?_) rfl i) q
    rw [← X.len]
    simp
theorem v_gtup {n : Nat} {tg : TGs} {xs : List PyData} (hn : xs.length = n) (h : VGs K w tg xs e c P) : VG K w (gTup K n tg) (.d (.tuple xs)) e c P := by
  intro B G0 ρ0 H0 G ρ σ H v Ph E X S s f k
  cases s with
  | d q =>
    cases q with
    | tup n h1 r => exact ⟨_, _, rfl, SqT.of h1, by rw [dql_len r]; exact hn, h B G0 ρ0 H0 G ρ σ H _ Ph E X S r k⟩
theorem v_gcons {tg : TGs} {d : PyData} {xs : List PyData} (h : VG K w g (.d d) e c fun e1 c1 => VGs K w tg xs e1 c1 P) : VGs K w (gCons g tg) (d :: xs) e c P := by
  intro B G0 ρ0 H0 G ρ σ H vs Ph E X S r k
  cases r with
  | cons q r =>
    refine ⟨_, _, rfl, h B G0 ρ0 H0 G ρ σ H _ _ E X S (.d q) trivial fun e1 c1 σ1 G1 ρ1 H1 E1 st1 X1 S1 q1 => ?_⟩
    exact q1 B G0 ρ0 H0 G1 ρ1 σ1 H1 _ Ph E1 X1 S1 (st1.dql r) fun e2 c2 σ2 G2 ρ2 H2 E2 st2 X2 S2 q2 => k _ _ _ _ _ _ E2 (st1.trans st2) X2 S2 q2
theorem v_gnil (q : P e c) : VGs K w gNil [] e c P := by
  intro B G0 ρ0 H0 G ρ σ H vs Ph E X S r k
  cases r
  exact ⟨rfl, k _ _ _ _ _ _ E .refl X S q⟩
theorem v_gset {d : PyData} (hd : dat1 u = some d) (h : VE K w to e c fun x c1 => VE K w ti e c1 fun y c2 => ∃ k i xs j, x = .c k ∧ y = .d (.int i) ∧ c2[k]? = some (.l xs) ∧ ixN xs.length i = some j ∧ P e (c2.set k (.l (xs.set j d)))) :
    VG K w (gSub to ti rSetL) u e c P := by
  intro B G0 ρ0 H0 G ρ σ H v Ph E X S s f k
  refine h B G ρ σ H _ X S fun x vx c1 G1 ρ1 H1 E1 X1 s1 f1 q1 => ?_
  refine q1 B G1 ρ1 σ H1 _ X1 (E1.sl X S) fun y vy c2 G2 ρ2 H2 E2 X2 s2 f2 ⟨kk, ii, xs, jj, ex, ey, hc, hj, q2⟩ => ?_
  subst ex ey
  cases s2 with
  | d s2 =>
    cases s2
    obtain ⟨p, vs, rfl, hp, hl, r⟩ := cell_at X2 (E2.sh X1 s1) hc
    have E12 := E1.trans E2
    obtain ⟨G3, E3, X3, g3, q3⟩ := (Dd.of (E12.sh X s) f hd).data (E.trans E12) X2
    have m := List.mem_of_getElem? hp
    refine ⟨p, vs, ii, jj, rfl, rfl, hl, by rw [dql_len r]; exact hj, ?_⟩
    have X4 := X3.mut hp (o := .lst (vs.set jj v)) (x := .l (xs.set jj d)) (.l upd_same (dql_upd X3 hp ((r.imp g3).set jj q3)))
    have st : Stay B G2 ρ2 H2 G3 ρ2 (upd H2 p (.lst (vs.set jj v))) := ⟨fun b o g e => by
      rw [upd_ne fun z => X2.av p m (by rw [← z]; exact g)]
      exact e, fun b o g e => by
      rw [upd_ne fun z => X2.avb p m (by rw [← z]; exact g)]
      exact e, g3, [], by simp⟩
    have st2 := (E12.stay X).trans st
    exact k _ _ _ _ _ _ (E3.mut m) st2 X4 (st2.sl S) q2
theorem v_seq (h : VS K w ts e c { D with nx := fun e' c' => VS K w us e' c' D }) : VS K w (tSeq ts us) e c D := by
  intro B G ρ σ H Dh X S L
  refine h B G ρ σ H _ X S ⟨fun e' c' σ' G' ρ' H' E X' S' q => ?_, L.rt, L.bk, L.ct, L.xx⟩
  exact q B G' ρ' σ' H' Dh X' S' (L.re E)
theorem v_next (q : D.nx e c) : VS K w tNext e c D := fun B G ρ σ H Dh X S L => L.nx _ _ _ _ _ _ .refl X S q
theorem v_asg (h : VE K w te e c fun u c1 => VG K w g u e c1 D.nx) : VS K w (tAsg te g) e c D := by
  intro B G ρ σ H Dh X S L
  refine h B G ρ σ H _ X S fun u v c1 G1 ρ1 H1 E1 X1 s1 f1 q1 => ?_
  exact q1 B G ρ H G1 ρ1 σ H1 v _ E1 X1 (E1.sl X S) s1 f1 fun e2 c2 σ2 G2 ρ2 H2 E2 _ X2 S2 q2 => L.nx _ _ _ _ _ _ E2 X2 S2 q2
theorem v_ret (h : VE K w te e c D.rt) : VS K w (tRet te) e c D := fun B G ρ σ H Dh X S L => h B G ρ σ H _ X S L.rt
theorem v_ifs (h : VT K w tt e c fun b c1 => if b = true then VS K w ts e c1 D else VS K w us e c1 D) : VS K w (tIfS tt ts us) e c D := by
  intro B G ρ σ H Dh X S L
  refine h B G ρ σ H _ X S fun b c1 G1 ρ1 H1 E1 X1 q1 => ?_
  cases b with
  | true => rw [if_pos rfl] at q1; rw [if_pos rfl]; exact q1 _ _ _ _ _ _ X1 (E1.sl X S) (L.re E1)
  | false => rw [if_neg (by decide)] at q1; rw [if_neg (by decide)]; exact q1 _ _ _ _ _ _ X1 (E1.sl X S) (L.re E1)
end
end Gd
namespace Gd
open PySem PySem.Spec PyProof.Rows L2
section
variable {K : PySem.W.Frag} {w : World} {B G G' G'' G0 : Addr → Prop} {ρ ρ' ρ'' ρ0 : List Addr} {H H' H'' H0 : Hp} {c c' : Cs} {σ : L2.St} {e e' : Ev} {v vx vy : V} {u x y : W}
variable {Q : W → Cs → Prop} {QA : List W → Cs → Prop} {QB : Bool → Cs → Prop} {QO : Option Int → Cs → Prop} {ta tb tc te to ti : TE} {t : TA} {tt tt1 : TT} {P : Ev → Cs → Prop} {D : DV} {Dh : Ends} {g : TG} {ts us tb : TS} {ws : List Nat}
/-- what an item is, from the heap at a turn on -/
def Yv (B G : Addr → Prop) (ρ : List Addr) (c : Cs) (H : Hp) (x : V) (H' : Hp) (d : PyData) : Prop := ∃ G', Ext G ρ H G' ρ H' ∧ Hx B G' ρ c H' ∧ Dq G' H' x d
abbrev inV' (D : DV) (N : Ev → Cs → Prop) : DV := { D with nx := N, ct := N, bk := D.nx }
/-- cells from n on are data now -/
def frz1 (n : Nat) (c : Cs) : Option W → Option W
  | some (.c k) => if k < n then some (.c k) else match c[k]? with
    | some (.l xs) => some (.d (.list xs))
    | _ => none
  | some (.lc ks) => if ks.all (fun j => decide (j < n)) = true then some (.lc ks) else none
  | a => a
def frz (n : Nat) (c : Cs) (e : Ev) : Ev := e.map (frz1 n c)
def Wk (n : Nat) (P : Ev → Cs → Prop) (e : Ev) (c : Cs) : Prop := P (frz n c e) (c.take n)
theorem ptake {α β : Type} {F : α → β → Prop} : ∀ {xs : List α} {ys : List β} (n : Nat), Paired F xs ys → Paired F (xs.take n) (ys.take n)
  | _, _, 0, _ => .nil
  | _, _, _ + 1, .nil => .nil
  | _, _, n + 1, .cons r t => .cons r (ptake n t)
theorem wk_ok {n : Nat} (E : Ext G0 ρ0 H0 G ρ H) (X : Hx B G ρ c H) (S : Sl K w B G ρ H σ e) (hn : ρ0.length ≤ n) :
    ∃ G' ρ', Ext G0 ρ0 H0 G' ρ' H ∧ Hx B G' ρ' (c.take n) H ∧ Sl K w B G' ρ' H σ (frz n c e) := by
  obtain ⟨ys, hy, hz⟩ := E.pre
  have nd := X.nd
  have nd2 : ∀ p, p ∈ ρ.take n → p ∈ ρ.drop n → False := fun p h1 h2 => by
    rw [← List.take_append_drop n ρ] at nd
    exact (List.nodup_append.mp nd).2.2 p h1 p h2 rfl
  have dr : ∀ p ∈ ρ.drop n, H0 p = none := fun p hp => by
    refine hz p ?_
    rw [hy, List.drop_append] at hp
    rcases List.mem_append.mp hp with h | h
    · rw [List.drop_of_length_le hn] at h
      cases h
    · exact List.mem_of_mem_drop h
  let G' : Addr → Prop := fun p => G p ∨ p ∈ ρ.drop n
  have gr : ∀ p, G p → G' p := fun _ h => .inl h
  have X' : Hx B G' (ρ.take n) (c.take n) H := by
    refine ⟨List.Nodup.sublist (List.take_sublist n ρ) nd, fun p hp g => ?_, fun p hp => X.avb p (List.mem_of_mem_take hp), fun p g => ?_, X.liveb, ?_⟩
    · rcases g with g | g
      · exact X.av p (List.mem_of_mem_take hp) g
      · exact nd2 p hp g
    · rcases g with g | g
      · exact X.live p g
      · exact X.trk (List.mem_of_mem_drop g)
    · exact ptake n (Paired.mono (fun p x r => r.mv rfl (fun _ _ _ h => h) gr) X.cells)
  refine ⟨G', ρ.take n, ⟨E.kp, E.tr, ⟨ys.take (n - ρ0.length), ?_, fun y h => hz y (List.mem_of_mem_take h)⟩, fun p h => .inl (E.gr p h), fun p h => ?_⟩, X', ?_⟩
  · rw [hy, List.take_append, List.take_of_length_le hn]
  · rcases h with h | h
    · exact E.nw p h
    · exact .inr (dr p h)
  · have one : ∀ a z, So K w B G ρ H a z → So K w B G' (ρ.take n) H a (frz1 n c z) := by
      intro a z s
      cases z with
      | none => trivial
      | some u =>
        obtain ⟨no, v, rfl, s⟩ := s
        have lcs : ∀ {ks : List Nat}, Sh K w B G ρ H v (.lc ks) → (∀ k ∈ ks, k < n) → Sh K w B G' (ρ.take n) H v (.lc ks) := by
          intro ks s hk
          cases s with
          | lc h g r => exact .lc h (gr _ g) (r.mono fun k hm q e => by rw [List.getElem?_take, if_pos (hk k hm)]; exact e)
        have oth : ∀ {u : W}, u.noO = true → (∀ k, u ≠ .c k) → (∀ ks, u ≠ .lc ks) → Sh K w B G ρ H v u → Sh K w B G' (ρ.take n) H v u := by
          intro u no nc nl s
          cases s with
          | d q => exact .d (q.imp gr)
          | o _ _ _ _ _ => cases no
          | od _ _ _ _ _ => cases no
          | b h r b => exact .b h (r.imp gr) b
          | s q => exact .s q
          | c _ => exact absurd rfl (nc _)
          | ty => exact .ty
          | tt h g => exact .tt h (gr _ g)
          | set h g => exact .set h (gr _ g)
          | x => exact .x
          | dm h r g => exact .dm h (Paired.mono (fun _ _ q => ⟨q.1, q.2.imp gr⟩) r) (gr _ g)
          | lc _ _ _ => exact absurd rfl (nl _)
        by_cases isc : ∃ k, u = .c k
        · obtain ⟨k, rfl⟩ := isc
          cases s with
          | @c p _ hp =>
            show So K w B G' (ρ.take n) H (some (.ref p)) (if k < n then some (.c k) else match c[k]? with | some (.l xs) => some (.d (.list xs)) | _ => none)
            by_cases hk : k < n
            · rw [if_pos hk]
              refine ⟨rfl, _, rfl, .c ?_⟩
              rw [List.getElem?_take, if_pos hk]
              exact hp
            · rw [if_neg hk]
              split
              · rename_i xs hc
                obtain ⟨p', hp', r⟩ := paired_get X.cells hc
                rw [hp] at hp'
                cases hp'
                cases r with
                | l h r =>
                  refine ⟨rfl, _, rfl, .d (.lst (.inr ?_) h (r.imp gr))⟩
                  refine List.mem_of_getElem? (i := k - n) ?_
                  rw [List.getElem?_drop, show n + (k - n) = k by omega]
                  exact hp
              · trivial
        · by_cases isl : ∃ ks, u = .lc ks
          · obtain ⟨ks, rfl⟩ := isl
            show So K w B G' (ρ.take n) H (some v) (if ks.all (fun j => decide (j < n)) = true then some (.lc ks) else none)
            by_cases ha : ks.all (fun j => decide (j < n)) = true
            · rw [if_pos ha]
              exact ⟨no, v, rfl, lcs s fun k hk => of_decide_eq_true (List.all_eq_true.mp ha k hk)⟩
            · rw [if_neg ha]
              trivial
          have e : frz1 n c (some u) = some u := by
            unfold frz1
            split
            · rename_i e
              cases e
              exact absurd ⟨_, rfl⟩ isc
            · rename_i e
              cases e
              exact absurd ⟨_, rfl⟩ isl
            · rfl
          rw [e]
          exact ⟨no, v, rfl, oth no (fun k e => isc ⟨k, e⟩) (fun ks e => isl ⟨ks, e⟩) s⟩
    have all : ∀ {σ : L2.St} {e : Ev}, Sl K w B G ρ H σ e → Sl K w B G' (ρ.take n) H σ (frz n c e) := by
      intro σ e S
      induction S with
      | nil => exact .nil
      | cons s _ ih => exact .cons (one _ _ s) ih
    exact all S
theorem rf_v {J : It} {n : Nat} {GG : Hp → Prop} {Y : Nat → Hp → V → Hp → Prop} (wk : Walk J n GG Y) (Pv : Nat → Ev → Cs → Prop) (item : Nat → PyData → Prop)
    (X : Hx B G ρ c H) (S : Sl K w B G ρ H σ e) (L : Lf K w B G ρ H D Dh) (h0 : Pv 0 e c)
    (hG : ∀ i e' c' G' ρ' H', Ext G ρ H G' ρ' H' → Hx B G' ρ' c' H' → Pv i e' c' → GG H')
    (hY : ∀ i x e' c' G' ρ' H' H'', Ext G ρ H G' ρ' H' → Hx B G' ρ' c' H' → Pv i e' c' → i < n → Y i H' x H'' → ∃ d, item i d ∧ Yv B G' ρ' c' H' x H'' d)
    (hs : ∀ i d e' c', i < n → item i d → Pv i e' c' → VG K w g (.d d) e' c' fun e2 c2 => VS K w tb e2 c2 (inV' D (Wk c.length (Pv (i + 1)))))
    (hd : ∀ e' c', Pv n e' c' → D.nx e' c') : Rf g tb Dh σ J H := by
  refine rf_it wk (fun i σ' H' => ∃ e' c' G' ρ', Ext G ρ H G' ρ' H' ∧ Hx B G' ρ' c' H' ∧ Sl K w B G' ρ' H' σ' e' ∧ Pv i e' c') ⟨e, c, G, ρ, .refl, X, S, h0⟩ ?_ ?_ ?_
  · rintro i σ' H' ⟨e', c', G', ρ', E', X', S', q⟩
    exact hG i e' c' G' ρ' H' E' X' q
  · rintro i x σ' H' H'' hi ⟨e', c', G', ρ', E', X', S', q⟩ y
    obtain ⟨d, hd', G2, E2, X2, q2⟩ := hY i x e' c' G' ρ' H' H'' E' X' q hi y
    refine hs i d e' c' hi hd' q B G' ρ' H' G2 ρ' σ' H'' x _ E2 X2 (E2.sl X' S') (.d q2) trivial fun e3 c3 σ3 G3 ρ3 H3 E3 _ X3 S3 q3 => ?_
    have EE := E'.trans E3
    have fin : LfN K w B G3 ρ3 H3 (Wk c.length (Pv (i + 1))) fun σ' H' => ∃ e' c' G' ρ', Ext G ρ H G' ρ' H' ∧ Hx B G' ρ' c' H' ∧ Sl K w B G' ρ' H' σ' e' ∧ Pv (i + 1) e' c' := fun e4 c4 σ4 G4 ρ4 H4 E4 X4 S4 q4 => by
      obtain ⟨G5, ρ5, E5, X5, S5⟩ := wk_ok (n := c.length) (EE.trans E4) X4 S4 (Nat.le_of_eq X.len)
      exact ⟨_, _, G5, ρ5, E5, X5, S5, q4⟩
    exact q3 B G3 ρ3 σ3 H3 _ X3 S3 ⟨fin, L.rt.re EE, L.nx.re EE, fin, L.xx.re EE⟩
  · rintro σ' H' ⟨e', c', G', ρ', E', X', S', q⟩
    exact L.nx _ _ _ _ _ _ E' X' S' (hd e' c' q)
/-- comprehension: what a target touches -/
def GOn (ws : List Nat) (g : TG) : Prop := ∀ (v : V) (σ : L2.St) (H : Hp) (T : L2.St → Hp → Prop), g v σ H T → g v σ H fun σ' H' => wipe σ' ws = wipe σ ws ∧ T σ' H'
theorem wipe_set {i : Nat} {a : Option V} : ∀ {ws : List Nat} {σ : L2.St}, i ∈ ws → wipe (σ.set i a) ws = wipe σ ws
  | v :: ws, σ, h => by
    unfold wipe
    by_cases e : i ∈ ws
    · rw [wipe_set e]
    · have e2 : i = v := by
        rcases List.mem_cons.mp h with h | h
        · exact h
        · exact absurd h e
      subst e2
      have key : ∀ {ws : List Nat}, i ∉ ws → wipe (σ.set i a) ws = (wipe σ ws).set i a := by
        intro ws
        induction ws with
        | nil => intro _; rfl
        | cons b ws ih =>
          intro n
          simp only [List.mem_cons, not_or] at n
          unfold wipe
          rw [ih n.2, List.set_comm _ _ n.1]
      rw [key e, List.set_set]
theorem on_name {i : Nat} (h : i ∈ ws) : GOn ws (gName i) := fun v σ H T q => ⟨wipe_set h, q⟩
theorem wipe_wipe : ∀ (ws : List Nat) (σ : L2.St), wipe (wipe σ ws) ws = wipe σ ws
  | [], _ => rfl
  | v :: ws, σ => by
    have ih := wipe_wipe ws σ
    show (wipe ((wipe σ ws).set v none) ws).set v none = (wipe σ ws).set v none
    by_cases h : v ∈ ws
    · rw [wipe_set h, ih]
    · have key : ∀ {us : List Nat} {τ : L2.St}, v ∉ us → wipe (τ.set v none) us = (wipe τ us).set v none := by
        intro us
        induction us with
        | nil => intro _ _; rfl
        | cons b us ih =>
          intro τ n
          simp only [List.mem_cons, not_or] at n
          unfold wipe
          rw [ih n.2, List.set_comm _ _ n.1]
      rw [key h, ih, List.set_set]
def wipeE (e : Ev) : List Nat → Ev
  | [] => e
  | v :: vs => (wipeE e vs).set v none
theorem sl_wipe (S : Sl K w B G ρ H σ e) : ∀ ws : List Nat, Sl K w B G ρ H (wipe σ ws) (wipeE e ws)
  | [] => S
  | v :: ws => paired_set (show So K w B G ρ H none none from trivial) v (sl_wipe S ws)
/-- a turn of a comprehension -/
def VTurn (K : PySem.W.Frag) (w : World) (g : TG) (tt : TT) (te : TE) (ws : List Nat) (e : Ev) (c : Cs) (d : PyData) (yes : PyData → Cs → Prop) (no : Cs → Prop) : Prop :=
  VG K w g (.d d) (wipeE e ws) c fun e2 c2 => VT K w tt e2 c2 fun b c3 => if b = true then VE K w te e2 c3 fun y c4 => ∃ z, dat1 y = some z ∧ yes z c4 else no c3
theorem rl_v {J : It} {n : Nat} {GG : Hp → Prop} {Y : Nat → Hp → V → Hp → Prop} (wk : Walk J n GG Y) (Pv : Nat → List PyData → Cs → Prop) (item : Nat → PyData → Prop)
    {T : VK} (EB : Ext G0 ρ0 H0 G ρ H) (X : Hx B G ρ c H) (S : Sl K w B G ρ H σ e) (kt : Kt K w B G0 ρ0 H0 Q T) (on : GOn ws g) (hz : n < sizeLine) (h0 : Pv 0 [] c)
    (hG : ∀ i acc c' G' ρ' H', Ext G ρ H G' ρ' H' → Hx B G' ρ' c' H' → Pv i acc c' → GG H')
    (hY : ∀ i x acc c' G' ρ' H' H'', Ext G ρ H G' ρ' H' → Hx B G' ρ' c' H' → Pv i acc c' → i < n → Y i H' x H'' → ∃ d, item i d ∧ Yv B G' ρ' c' H' x H'' d)
    (hs : ∀ i d acc c', i < n → acc.length ≤ i → item i d → Pv i acc c' → VTurn K w g tt te ws e c' d (fun z c4 => Pv (i + 1) (acc ++ [z]) c4) (fun c3 => Pv (i + 1) acc c3))
    (hd : ∀ acc c', Pv n acc c' → Q (.o acc) c') : Rl g tt te ws σ T J H := by
  refine rl_it wk fun C hC => ⟨fun i H' => ∃ acc c' G' ρ' av, Ext G ρ H G' ρ' H' ∧ Hx B G' ρ' c' H' ∧ H' C = some (.lst av) ∧ DqL G' H' av acc ∧ ¬ G' C ∧ ¬ B C ∧ C ∉ ρ' ∧ acc.length ≤ i ∧ Pv i acc c', ?_, ?_, ?_, ?_⟩
  · exact ⟨[], c, G, ρ, [], .new hC, X.new hC, upd_same, .nil, fun g => X.live C g hC, fun g => X.liveb C g hC, fun z => X.trk z hC, Nat.zero_le _, h0⟩
  · rintro i H' ⟨acc, c', G', ρ', av, E', X', _, _, _, _, _, _, q⟩
    exact hG i acc c' G' ρ' H' E' X' q
  · rintro i x H' H'' hi ⟨acc, c', G', ρ', av, E', X', hc, ra, gC, bC, nC, al, q⟩ y
    obtain ⟨d, hd', G2, E2, X2, q2⟩ := hY i x acc c' G' ρ' H' H'' E' X' q hi y
    have hturn := hs i d acc c' hi al hd' q
    unfold lcT
    have S' := sl_wipe (E'.sl X S) ws
    have hsz : av.length < sizeLine := by rw [dql_len ra]; omega
    have main := on x (wipe σ ws) H'' _ (hturn B G' ρ' H' G2 ρ' (wipe σ ws) H'' x (fun σ2 H2 => tt σ2 H2 fun b H3 => if b = true then te σ2 H3 fun y H4 => ∃ acc, H4 C = some (.lst acc) ∧ acc.length < sizeLine ∧
        (∃ acc' c' G' ρ' av, Ext G ρ H G' ρ' (upd H4 C (.lst (acc ++ [y]))) ∧ Hx B G' ρ' c' (upd H4 C (.lst (acc ++ [y]))) ∧ (upd H4 C (.lst (acc ++ [y]))) C = some (.lst av) ∧ DqL G' (upd H4 C (.lst (acc ++ [y]))) av acc' ∧ ¬ G' C ∧ ¬ B C ∧ C ∉ ρ' ∧ acc'.length ≤ i + 1 ∧ Pv (i + 1) acc' c')
        else ∃ acc c' G' ρ' av, Ext G ρ H G' ρ' H3 ∧ Hx B G' ρ' c' H3 ∧ H3 C = some (.lst av) ∧ DqL G' H3 av acc ∧ ¬ G' C ∧ ¬ B C ∧ C ∉ ρ' ∧ acc.length ≤ i + 1 ∧ Pv (i + 1) acc c') E2 X2 (E2.sl X' S') (.d q2) trivial fun e3 c3 σ3 G3 ρ3 H3 E3 _ X3 S3 q3 => ?_)
    · rw [wipe_wipe] at main
      exact main
    refine q3 B G3 ρ3 σ3 H3 _ X3 S3 fun b c4 G4 ρ4 H4 E4 X4 q4 => ?_
    have offG : ∀ {G4 : Addr → Prop} {ρ4 : List Addr} {H4 : Hp}, Ext G' ρ' H' G4 ρ4 H4 → H4 C = some (.lst av) ∧ ¬ G4 C ∧ C ∉ ρ4 := fun E => ⟨E.kp _ _ hc nC, fun z => (E.nw _ z).elim gC fun z => (by rw [hc] at z; cases z), E.nin hc nC⟩
    cases b with
    | false =>
      rw [if_neg (by decide)] at q4
      rw [if_neg (by decide)]
      obtain ⟨a1, a2, a3⟩ := offG (E3.trans E4)
      exact ⟨acc, c4, G4, ρ4, av, E'.trans (E3.trans E4), X4, a1, (E3.trans E4).dql X' ra, a2, bC, a3, by omega, q4⟩
    | true =>
      rw [if_pos rfl] at q4
      rw [if_pos rfl]
      refine q4 B G4 ρ4 σ3 H4 _ X4 (E4.sl X3 S3) fun y vy c5 G5 ρ5 H5 E5 X5 s5 f5 ⟨z, hz5, q5⟩ => ?_
      have E35 := (E3.trans E4).trans E5
      obtain ⟨a1, a2, a3⟩ := offG E35
      have f5' : Fr H' vy y := (E3.trans E4).fr f5
      obtain ⟨G6, E6, X6, g6, q6⟩ := (Dd.of s5 f5' hz5).data E35 X5
      obtain ⟨_, a4, _⟩ := offG E6
      have ne : ∀ q, G6 q → q ≠ C := fun q g z => a4 (by rw [← z]; exact g)
      have kk : ∀ b o, G6 b → H5 b = some o → upd H5 C (.lst (av ++ [vy])) b = some o := fun b o g e => by rw [upd_ne (ne b g)]; exact e
      refine ⟨av, a1, hsz, acc ++ [z], c5, G6, ρ5, av ++ [vy], ?_, ?_, upd_same, ?_, a4, bC, a3, by simp; exact al, q5⟩
      · refine ⟨fun b o h n => ?_, fun b h => ?_, (E'.trans E6).pre, (E'.trans E6).gr, (E'.trans E6).nw⟩
        · rw [upd_ne (ne_of_none h hC)]
          exact (E'.trans E6).kp b o h n
        · by_cases z : b = C
          · rw [z, upd_same]; simp
          · rw [upd_ne z]; exact (E'.trans E6).tr b h
      · refine ⟨X6.nd, X6.av, X6.avb, fun q g => by rw [upd_ne (ne q g)]; exact X6.live q g, fun q g => ?_, cells_off ne X6.cells a3⟩
        rw [upd_ne fun z => bC (by rw [← z]; exact g)]
        exact X6.liveb q g
      · have r1 : DqL G6 H5 av acc := E6.dql X' ra
        have r2 : DqL G6 H5 (av ++ [vy]) (acc ++ [z]) := r1.app (.cons q6 .nil)
        exact DqL.mono kk (fun _ h => h) _ _ r2
  · rintro H' ⟨acc, c', G', ρ', av, E', X', hc, ra, gC, bC, nC, al, q⟩
    exact kt _ _ _ _ _ _ (EB.trans E') X' (.o hc ra gC bC nC) ⟨C, rfl, EB.was hC⟩ (hd acc c' q)
end
end Gd
namespace Gd
open PySem PySem.Spec PyProof.Rows L2
section
variable {K : PySem.W.Frag} {w : World} {B G G' G'' G0 : Addr → Prop} {ρ ρ' ρ'' ρ0 : List Addr} {H H' H'' H0 : Hp} {c c' : Cs} {σ : L2.St} {e e' : Ev} {v vx vy : V} {u u2 x y : W}
variable {Q : W → Cs → Prop} {QA : List W → Cs → Prop} {QB : Bool → Cs → Prop} {QO : Option Int → Cs → Prop} {ta tb tc te te1 to ti : TE} {t : TA} {tt tt1 : TT} {P : Ev → Cs → Prop} {D : DV} {Dh : Ends} {g : TG} {ts us tS : TS} {ws : List Nat}
def IsIt (wf : (It → Hp → Prop) → Hp → Prop) (B G : Addr → Prop) (ρ : List Addr) (H : Hp) (n : Nat) (item : Nat → PyData → Prop) (keep : Cs → Prop) : Prop :=
  ∃ (J : It) (GG : Hp → Prop) (Y : Nat → Hp → V → Hp → Prop), Walk J n GG Y ∧ (∀ R, R J H → wf R H) ∧ (∀ c' G' ρ' H', Ext G ρ H G' ρ' H' → Hx B G' ρ' c' H' → keep c' → GG H') ∧
    ∀ i x c' G' ρ' H' H'', Ext G ρ H G' ρ' H' → Hx B G' ρ' c' H' → keep c' → i < n → Y i H' x H'' → ∃ d, item i d ∧ Yv B G' ρ' c' H' x H'' d
def ItU (K : PySem.W.Frag) (w : World) (wf : (It → Hp → Prop) → V → Hp → Prop) (u : W) (c : Cs) (n : Nat) (item : Nat → PyData → Prop) (keep : Cs → Prop) : Prop :=
  ∀ B G ρ H v, Hx B G ρ c H → Sh K w B G ρ H v u → IsIt (fun R H => wf R v H) B G ρ H n item keep
def ItA (K : PySem.W.Frag) (w : World) (wf : (It → Hp → Prop) → List V → Hp → Prop) (us : List W) (c : Cs) (n : Nat) (item : Nat → PyData → Prop) (keep : Cs → Prop) : Prop :=
  ∀ B G ρ H vs, Hx B G ρ c H → Paired (Sh K w B G ρ H) vs us → IsIt (fun R H => wf R vs H) B G ρ H n item keep
theorem walkL {a : Addr} {n : Nat} : Walk (Itl K a) n (fun H => ∃ vs, SqL K H a vs ∧ vs.length = n) (fun i H x H' => H' = H ∧ ∀ vs, SqL K H a vs → vs[i]? = some x) :=
  ⟨fun i _ hi ⟨vs, q, e⟩ => ⟨vs, vs[i], q, by simp [e, hi]⟩, fun _ ⟨vs, q, e⟩ => ⟨vs, q, by omega⟩, fun _ _ _ _ _ _ y => y⟩
theorem yv_same (X : Hx B G ρ c H) {x : V} {d : PyData} (q : Dq G H x d) : Yv B G ρ c H x H d := ⟨G, .refl, X, q⟩
theorem it_l {xs : List PyData} (h : Lv c u xs) : ItU K w (wU K) u c xs.length (fun i d => xs[i]? = some d) (fun c' => Lv c' u xs) := by
  intro B G ρ H v X s
  obtain ⟨a, vs, rfl, h1, h2⟩ := h.seq X s
  refine ⟨Itl K a, _, _, walkL (n := xs.length), fun R r => .inl ⟨a, rfl, ⟨vs, h1⟩, r⟩, fun c' G' ρ' H' E X' kp => ?_, fun i x c' G' ρ' H' H'' E X' kp hi y => ?_⟩
  · obtain ⟨a', vs', e, h1', h2'⟩ := kp.seq X' (E.sh X s)
    cases e
    exact ⟨vs', h1', dql_len h2'⟩
  · obtain ⟨rfl, y⟩ := y
    obtain ⟨a', vs', e, h1', h2'⟩ := kp.seq X' (E.sh X s)
    cases e
    obtain ⟨d, e1, e2⟩ := DqL.get h2' (y vs' h1')
    exact ⟨d, e1, yv_same X' e2⟩
theorem it_s {z : Str} : ItU K w (wU K) (.d (.str z)) c z.cps.size (fun i d => ∃ a, (tl z)[i]? = some a ∧ d = .str ⟨#[a]⟩) (fun _ => True) := by
  intro B G ρ H v X s
  cases s with
  | d q =>
    cases q
    refine ⟨Its z, _, _, walk_str, fun R r => .inr (.inr ⟨z, rfl, r⟩), fun _ _ _ _ _ _ _ => trivial, fun i x c' G' ρ' H' H'' E X' _ hi y => ?_⟩
    obtain ⟨rfl, a, ha, rfl⟩ := y
    exact ⟨_, ⟨a, by rw [← ha]; simp [tl], rfl⟩, yv_same X' (.str _)⟩
theorem it_1 {j : Int} (b1 : -(2 ^ 62) ≤ j) (b2 : j < 2 ^ 62) : ItA K w wR1 [.d (.int j)] c j.toNat (fun i d => d = .int (i : Int)) (fun _ => True) := by
  intro B G ρ H vs X s0
  obtain ⟨v, rfl, s⟩ := v1 s0
  cases s with
  | d q =>
    cases q
    refine ⟨Itr 0 j.toNat, _, _, walk_range, fun R r => ⟨j, rfl, b1, b2, r⟩, fun _ _ _ _ _ _ _ => trivial, fun i x c' G' ρ' H' H'' E X' _ hi y => ?_⟩
    obtain ⟨rfl, rfl⟩ := y
    exact ⟨_, rfl, yv_same X' (by show Dq G' H'' (V.int (0 + (i : Int))) _; rw [Int.zero_add]; exact .int _)⟩
theorem yv_tup (X : Hx B G ρ c H) {T : Addr} (n : H T = none) {vs : List V} {xs : List PyData} (r : DqL G H vs xs) : Yv B G ρ c H (.ref T) (upd H T (.tup vs)) (.tuple xs) :=
  ⟨Gp G T, (Ext.new n).data n, (X.new n).data (by rw [upd_same]; simp) (fun z => X.trk z n), .tup (.inr rfl) upd_same ((r.new n).imp fun _ h => .inl h)⟩
theorem walkE {a : Addr} {n : Nat} : Walk (Ite K a) n (fun H => ∃ vs, SqL K H a vs ∧ vs.length = n) (fun i H v H' => ∃ T x, v = .ref T ∧ H T = none ∧ H' = upd H T (.tup [.int (i : Nat), x]) ∧ ∀ xs, SqL K H a xs → xs[i]? = some x) :=
  ⟨fun i _ hi ⟨vs, q, e⟩ => ⟨vs, vs[i], q, by simp [e, hi]⟩, fun _ ⟨vs, q, e⟩ => ⟨vs, q, by omega⟩, fun _ _ _ _ _ _ y => y⟩
theorem it_e {xs : List PyData} (h : Lv c u xs) : ItA K w (wE K) [u] c xs.length (fun i d => ∃ z, xs[i]? = some z ∧ d = .tuple [.int (i : Int), z]) (fun c' => Lv c' u xs) := by
  intro B G ρ H vs X s0
  obtain ⟨v, rfl, s⟩ := v1 s0
  obtain ⟨a, vs, rfl, h1, h2⟩ := h.seq X s
  refine ⟨Ite K a, _, _, walkE (n := xs.length), fun R r => ⟨a, vs, rfl, h1, r⟩, fun c' G' ρ' H' E X' kp => ?_, fun i x c' G' ρ' H' H'' E X' kp hi y => ?_⟩
  · obtain ⟨a', vs', e, h1', h2'⟩ := kp.seq X' (E.sh X s)
    cases e
    exact ⟨vs', h1', dql_len h2'⟩
  · obtain ⟨T, x, rfl, hT, rfl, y⟩ := y
    obtain ⟨a', vs', e, h1', h2'⟩ := kp.seq X' (E.sh X s)
    cases e
    obtain ⟨d, e1, e2⟩ := DqL.get h2' (y vs' h1')
    exact ⟨_, ⟨d, e1, rfl⟩, yv_tup X' hT (.cons (.int _) (.cons e2 .nil))⟩
def VFA (K : PySem.W.Frag) (w : World) (wf : (It → Hp → Prop) → List V → Hp → Prop) (us : List W) (e : Ev) (c : Cs) (g : TG) (ts : TS) (D : DV) : Prop :=
  ∀ B G ρ σ H vs Dh, Hx B G ρ c H → Sl K w B G ρ H σ e → Paired (Sh K w B G ρ H) vs us → Lf K w B G ρ H D Dh → wf (Rf g ts Dh σ) vs H
theorem v_for1 (h : VA K w t e c fun u c1 => VFA K w wR1 u e c1 g ts D) : VS K w (tFor (iRng1 t) g ts) e c D := by
  intro B G ρ σ H Dh X S L
  exact rd_for1 (h B G ρ σ H _ X S fun u v c1 G1 ρ1 H1 E1 X1 s1 f1 d1 q1 => q1 B G1 ρ1 σ H1 v Dh X1 (E1.sl X S) s1 (L.re E1))
theorem v_forE (h : VA K w t e c fun u c1 => VFA K w (wE K) u e c1 g ts D) : VS K w (tFor (iEnum K t) g ts) e c D := by
  intro B G ρ σ H Dh X S L
  exact rd_forE (h B G ρ σ H _ X S fun u v c1 G1 ρ1 H1 E1 X1 s1 f1 d1 q1 => q1 B G1 ρ1 σ H1 v Dh X1 (E1.sl X S) s1 (L.re E1))
section
variable {wf : (It → Hp → Prop) → V → Hp → Prop} {wfA : (It → Hp → Prop) → List V → Hp → Prop} {n : Nat} {item : Nat → PyData → Prop} {keep : Cs → Prop} {ua : List W}
theorem vfor_core {wf' : (It → Hp → Prop) → Hp → Prop} (it : IsIt wf' B G ρ H n item keep) (X : Hx B G ρ c H) (S : Sl K w B G ρ H σ e) (L : Lf K w B G ρ H D Dh)
    (Pv : Nat → Ev → Cs → Prop) (h0 : Pv 0 e c) (hk : ∀ i e' c', Pv i e' c' → keep c')
    (hs : ∀ i d e' c', i < n → item i d → Pv i e' c' → VG K w g (.d d) e' c' fun e2 c2 => VS K w ts e2 c2 (inV' D (Wk c.length (Pv (i + 1)))))
    (hd : ∀ e' c', Pv n e' c' → D.nx e' c') : wf' (Rf g ts Dh σ) H := by
  obtain ⟨J, GG, Y, wk, r, hG, hY⟩ := it
  exact r _ (rf_v wk Pv item X S L h0 (fun i e' c' G' ρ' H' E X' p => hG c' G' ρ' H' E X' (hk i e' c' p)) (fun i x e' c' G' ρ' H' H'' E X' p hi y => hY i x c' G' ρ' H' H'' E X' (hk i e' c' p) hi y) hs hd)
theorem vforA (it : ItA K w wfA ua c n item keep) (Pv : Nat → Ev → Cs → Prop) (h0 : Pv 0 e c) (hk : ∀ i e' c', Pv i e' c' → keep c')
    (hs : ∀ i d e' c', i < n → item i d → Pv i e' c' → VG K w g (.d d) e' c' fun e2 c2 => VS K w ts e2 c2 (inV' D (Wk c.length (Pv (i + 1)))))
    (hd : ∀ e' c', Pv n e' c' → D.nx e' c') : VFA K w wfA ua e c g ts D :=
  fun B G ρ σ H v Dh X S s L => vfor_core (it B G ρ H v X s) X S L Pv h0 hk hs hd
def VLU (K : PySem.W.Frag) (w : World) (wf : (It → Hp → Prop) → V → Hp → Prop) (u : W) (e : Ev) (c : Cs) (g : TG) (tt : TT) (te : TE) (ws : List Nat) (Q : W → Cs → Prop) : Prop :=
  ∀ B G0 ρ0 H0 G ρ σ H v T, Ext G0 ρ0 H0 G ρ H → Hx B G ρ c H → Sl K w B G ρ H σ e → Sh K w B G ρ H v u → Kt K w B G0 ρ0 H0 Q T → wf (Rl g tt te ws σ T) v H
def VLA (K : PySem.W.Frag) (w : World) (wf : (It → Hp → Prop) → List V → Hp → Prop) (us : List W) (e : Ev) (c : Cs) (g : TG) (tt : TT) (te : TE) (ws : List Nat) (Q : W → Cs → Prop) : Prop :=
  ∀ B G0 ρ0 H0 G ρ σ H vs T, Ext G0 ρ0 H0 G ρ H → Hx B G ρ c H → Sl K w B G ρ H σ e → Paired (Sh K w B G ρ H) vs us → Kt K w B G0 ρ0 H0 Q T → wf (Rl g tt te ws σ T) vs H
theorem v_lcU (h : VE K w te1 e c fun u c1 => VLU K w (wU K) u e c1 g tt te ws Q) : VE K w (tLc (iU K te1) g tt te ws) e c Q := by
  intro B G ρ σ H T X S k
  exact rd_lcU (h B G ρ σ H _ X S fun u v c1 G1 ρ1 H1 E1 X1 s1 f1 q1 => q1 B G ρ H G1 ρ1 σ H1 v T E1 X1 (E1.sl X S) s1 k)
theorem v_lc1 (h : VA K w t e c fun u c1 => VLA K w wR1 u e c1 g tt te ws Q) : VE K w (tLc (iRng1 t) g tt te ws) e c Q := by
  intro B G ρ σ H T X S k
  exact rd_lc1 (h B G ρ σ H _ X S fun u v c1 G1 ρ1 H1 E1 X1 s1 f1 d1 q1 => q1 B G ρ H G1 ρ1 σ H1 v T E1 X1 (E1.sl X S) s1 k)
theorem vco_core {T : VK} {wf' : (It → Hp → Prop) → Hp → Prop} (it : IsIt wf' B G ρ H n item keep) (EB : Ext G0 ρ0 H0 G ρ H) (X : Hx B G ρ c H) (S : Sl K w B G ρ H σ e) (kt : Kt K w B G0 ρ0 H0 Q T)
    (on : GOn ws g) (hz : n < sizeLine) (Pv : Nat → List PyData → Cs → Prop) (h0 : Pv 0 [] c) (hk : ∀ i acc c', Pv i acc c' → keep c')
    (hs : ∀ i d acc c', i < n → acc.length ≤ i → item i d → Pv i acc c' → VTurn K w g tt te ws e c' d (fun z c4 => Pv (i + 1) (acc ++ [z]) c4) (fun c3 => Pv (i + 1) acc c3))
    (hd : ∀ acc c', Pv n acc c' → Q (.o acc) c') : wf' (Rl g tt te ws σ T) H := by
  obtain ⟨J, GG, Y, wk, r, hG, hY⟩ := it
  exact r _ (rl_v wk Pv item EB X S kt on hz h0 (fun i e' c' G' ρ' H' E X' p => hG c' G' ρ' H' E X' (hk i e' c' p)) (fun i x e' c' G' ρ' H' H'' E X' p hi y => hY i x c' G' ρ' H' H'' E X' (hk i e' c' p) hi y) hs hd)
theorem vcoA (it : ItA K w wfA ua c n item keep) (on : GOn ws g) (hz : n < sizeLine) (Pv : Nat → List PyData → Cs → Prop) (h0 : Pv 0 [] c) (hk : ∀ i acc c', Pv i acc c' → keep c')
    (hs : ∀ i d acc c', i < n → acc.length ≤ i → item i d → Pv i acc c' → VTurn K w g tt te ws e c' d (fun z c4 => Pv (i + 1) (acc ++ [z]) c4) (fun c3 => Pv (i + 1) acc c3))
    (hd : ∀ acc c', Pv n acc c' → Q (.o acc) c') : VLA K w wfA ua e c g tt te ws Q :=
  fun B G0 ρ0 H0 G ρ σ H v T E X S s kt => vco_core (it B G ρ H v X s) E X S kt on hz Pv h0 hk hs hd
/-- the turn's outcome: kept with z, or left out -/
def PTurn (K : PySem.W.Frag) (w : World) (g : TG) (tt : TT) (te : TE) (ws : List Nat) (e : Ev) (c : Cs) (d : PyData) (r : Option PyData) : Prop :=
  VTurn K w g tt te ws e c d (fun z c4 => r = some z ∧ c4 = c) (fun c4 => r = none ∧ c4 = c)
theorem VTurn.mono {d : PyData} {yes yes' : PyData → Cs → Prop} {no no' : Cs → Prop} (h : VTurn K w g tt te ws e c d yes no) (hy : ∀ z c4, yes z c4 → yes' z c4) (hn : ∀ c4, no c4 → no' c4) : VTurn K w g tt te ws e c d yes' no' := by
  intro B G0 ρ0 H0 G ρ σ H v Ph E X S s f k
  refine h B G0 ρ0 H0 G ρ σ H v Ph E X S s f fun e' c' σ' G' ρ' H' E' st X' S' q => k e' c' σ' G' ρ' H' E' st X' S' ?_
  intro B G ρ σ H T X S k
  refine q B G ρ σ H T X S fun b c' G' ρ' H' E X q => k b c' G' ρ' H' E X ?_
  cases b with
  | false => rw [if_neg (by decide)] at *; exact hn _ q
  | true =>
    rw [if_pos rfl] at *
    intro B G ρ σ H T X S k
    exact q B G ρ σ H T X S fun u v c' G' ρ' H' E X s f ⟨z, h1, h2⟩ => k u v c' G' ρ' H' E X s f ⟨z, h1, hy _ _ h2⟩
theorem vcoF_core {T : VK} {wf' : (It → Hp → Prop) → Hp → Prop} {α : Type} (ys : List α) (m : α → PyData) (f : α → Option PyData) (it : IsIt wf' B G ρ H n item keep) (hn : n = ys.length) (hi : ∀ i d, i < n → item i d → ∃ y, ys[i]? = some y ∧ d = m y)
    (EB : Ext G0 ρ0 H0 G ρ H) (X : Hx B G ρ c H) (S : Sl K w B G ρ H σ e) (kt : Kt K w B G0 ρ0 H0 Q T) (hk : keep c)
    (on : GOn ws g) (hz : ys.length < sizeLine) (hs : ∀ y ∈ ys, PTurn K w g tt te ws e c (m y) (f y)) (q : Q (.o (ys.filterMap f)) c) : wf' (Rl g tt te ws σ T) H := by
  refine vco_core it EB X S kt on (by omega) (fun i acc c' => c' = c ∧ acc = (ys.take i).filterMap f) ⟨rfl, rfl⟩ (fun i acc c' h => by rw [h.1]; exact hk) ?_ ?_
  · rintro i d acc c' hin hl hd ⟨rfl, rfl⟩
    obtain ⟨y, hy, rfl⟩ := hi i d hin hd
    have st : (ys.take (i + 1)).filterMap f = (ys.take i).filterMap f ++ (f y).toList := by
      rw [List.take_add_one, hy, Option.toList_some, List.filterMap_append]
      congr 1
    refine (hs y (List.mem_of_getElem? hy)).mono (fun z c4 ⟨h1, h2⟩ => ⟨h2, ?_⟩) fun c4 ⟨h1, h2⟩ => ⟨h2, ?_⟩
    · rw [st, h1]
      rfl
    · rw [st, h1]
      simp
  · rintro acc c' ⟨rfl, rfl⟩
    rw [hn, List.take_length]
    exact q
theorem vcoF {α : Type} (ys : List α) (m : α → PyData) (f : α → Option PyData) (it : ItU K w wf u c n item keep) (hn : n = ys.length) (hi : ∀ i d, i < n → item i d → ∃ y, ys[i]? = some y ∧ d = m y) (hk : keep c)
    (on : GOn ws g) (hz : ys.length < sizeLine) (hs : ∀ y ∈ ys, PTurn K w g tt te ws e c (m y) (f y)) (q : Q (.o (ys.filterMap f)) c) : VLU K w wf u e c g tt te ws Q :=
  fun B G0 ρ0 H0 G ρ σ H v T E X S s kt => vcoF_core ys m f (it B G ρ H v X s) hn hi E X S kt hk on hz hs q
end
theorem itl_map {α : Type} {m : α → PyData} {ys : List α} {n : Nat} : ∀ i d, i < n → (ys.map m)[i]? = some d → ∃ y, ys[i]? = some y ∧ d = m y := fun i d _ h => by
  rw [List.getElem?_map] at h
  obtain ⟨y, h1, h2⟩ := Option.map_eq_some_iff.mp h
  exact ⟨y, h1, h2.symm⟩
/-- over a list -/
theorem vco_l {α : Type} {ys : List α} {m : α → PyData} (f : α → Option PyData) (h : Lv c u (ys.map m)) (on : GOn ws g) (hz : ys.length < sizeLine) (hs : ∀ y ∈ ys, PTurn K w g tt te ws e c (m y) (f y)) (q : Q (.o (ys.filterMap f)) c) : VLU K w (wU K) u e c g tt te ws Q :=
  vcoF ys m f (it_l h) (by simp) itl_map h on hz hs q
/-- over a text -/
theorem vco_s {z : Str} (f : Nat → Option PyData) (on : GOn ws g) (hz : z.length < sizeLine) (hs : ∀ a ∈ tl z, PTurn K w g tt te ws e c (.str ⟨#[a]⟩) (f a)) (q : Q (.o ((tl z).filterMap f)) c) : VLU K w (wU K) (.d (.str z)) e c g tt te ws Q :=
  vcoF (tl z) (fun a => .str ⟨#[a]⟩) f it_s (by simp [tl]) (fun i d _ h => h) trivial on (by rw [← TL.len_tl]; exact hz) hs q
end
end Gd
namespace Gd
open PySem PySem.Spec PyProof.Rows L2
abbrev SpV := List W → Cs → (W → Cs → Prop) → Prop
/-- a def's promise, of values -/
def lift (K : PySem.W.Frag) (w : World) (sp : SpV) : Sp := fun vs H T _ => ∃ B G ρ c us Q, Hx B G ρ c H ∧ Paired (Sh K w B G ρ H) vs us ∧ (∀ u ∈ us, u.noO = true) ∧
  sp us c Q ∧ ∀ u c', Q u c' → ∀ v G' H', Ext G ρ H G' ρ H' → Hx B G' ρ c' H' → Sh K w B G' ρ H' v u → Fr H v u → T v H'
section
variable {K : PySem.W.Frag} {w : World} {B G G' G'' G0 : Addr → Prop} {ρ ρ' ρ'' ρ0 : List Addr} {H H' H'' H0 : Hp} {c c' : Cs} {σ : L2.St} {e e' : Ev} {v vx vy : V} {u u2 x y : W}
variable {Q : W → Cs → Prop} {ta tb tc te te1 to ti : TE} {t tk : TA} {D : DV} {sp : SpV}
/-- a value passed on to be read -/
def tr0 (c : Cs) : W → Option W
  | .d (.list xs) => some (.b xs)
  | .d x => some (.d x)
  | .o xs => some (.b xs)
  | .b xs => some (.b xs)
  | .s xs => some (.s xs)
  | .c k => match c[k]? with
    | some (.l xs) => some (.b xs)
    | _ => none
  | .ty n => some (.ty n)
  | .x a => some (.x a)
  | .dm kvs => some (.dm kvs)
  | _ => none
def trs (c : Cs) : List W → Option (List W)
  | [] => some []
  | u :: us => (tr0 c u).bind fun d => (trs c us).map fun ds => d :: ds
/-- all that is there may be read by the one called, but its own cells -/
def Bc (H : Hp) (ρk : List Addr) : Addr → Prop := fun p => H p ≠ none ∧ p ∉ ρk
theorem tr0_sh {ρk : List Addr} {u' : W} (X : Hx B G ρ c H) (sub : ∀ p ∈ ρk, p ∈ ρ) (s : Sh K w B G ρ H v u) (h : tr0 c u = some u') (ok : ∀ k p, u = .c k → ρ[k]? = some p → p ∉ ρk) : Sh K w (Bc H ρk) G ρk H v u' ∧ u'.noO = true := by
  cases s with
  | @d _ x q =>
    cases x with
    | list xs =>
      cases h
      cases q with
      | lst n h r => exact ⟨.b h r ⟨by rw [h]; simp, fun z => X.av _ (sub _ z) n⟩, rfl⟩
    | none => cases h; exact ⟨.d q, rfl⟩
    | bool b => cases h; exact ⟨.d q, rfl⟩
    | int i => cases h; exact ⟨.d q, rfl⟩
    | str i => cases h; exact ⟨.d q, rfl⟩
    | tuple i => cases h; exact ⟨.d q, rfl⟩
    | dict i => cases h; exact ⟨.d q, rfl⟩
  | o a r g b n => cases h; exact ⟨.b a r ⟨by rw [a]; simp, fun z => n (sub _ z)⟩, rfl⟩
  | od _ _ _ _ _ => cases h
  | b a r n => cases h; exact ⟨.b a r ⟨by rw [a]; simp, fun z => X.avb _ (sub _ z) n⟩, rfl⟩
  | s q =>
    cases h
    refine ⟨.s ?_, rfl⟩
    rcases q with ⟨q, n⟩ | q
    · refine .inl ⟨q, ?_, fun z => X.avb _ (sub _ z) n⟩
      rcases q with q | ⟨o, q⟩ <;> rw [q] <;> simp
    · exact .inr q
  | @c p k a =>
    have h : (match c[k]? with | some (.l xs) => some (W.b xs) | _ => none) = some u' := h
    split at h
    · rename_i xs e
      · cases h
        obtain ⟨p', hp, r⟩ := paired_get X.cells e
        rw [a] at hp
        cases hp
        cases r with
        | l h r => exact ⟨.b h r ⟨by rw [h]; simp, ok k p rfl a⟩, rfl⟩
    · cases h
  | ty => cases h; exact ⟨.ty, rfl⟩
  | tt _ _ => cases h
  | set _ _ => cases h
  | x => cases h; exact ⟨.x, rfl⟩
  | dm a r g => cases h; exact ⟨.dm a r g, rfl⟩
  | lc _ _ _ => cases h
theorem trs_sh {ρk : List Addr} (X : Hx B G ρ c H) (sub : ∀ p ∈ ρk, p ∈ ρ) {vs : List V} {us us' : List W} (s : Paired (Sh K w B G ρ H) vs us) (h : trs c us = some us') (ok : ∀ u ∈ us, ∀ k p, u = .c k → ρ[k]? = some p → p ∉ ρk) :
    Paired (Sh K w (Bc H ρk) G ρk H) vs us' ∧ ∀ u ∈ us', u.noO = true := by
  induction s generalizing us' with
  | nil => cases h; exact ⟨.nil, by simp⟩
  | cons a t ih =>
    unfold trs at h
    obtain ⟨d, h1, h2⟩ := Option.bind_eq_some_iff.mp h
    obtain ⟨ds, h3, rfl⟩ := Option.map_eq_some_iff.mp h2
    obtain ⟨s1, n1⟩ := tr0_sh X sub a h1 (ok _ (by simp))
    obtain ⟨s2, n2⟩ := ih h3 fun u hu => ok u (by simp [hu])
    refine ⟨.cons s1 s2, fun u hu => ?_⟩
    rcases List.mem_cons.mp hu with e | hu
    · rw [e]; exact n1
    · exact n2 u hu
/-- back from a call that had the cells at ρk -/
theorem back {ρk : List Addr} {ck c1 : Cs} (X : Hx B G ρ c H) (sub : ∀ p ∈ ρk, p ∈ ρ) (E : Ext G ρk H G' ρk H') (Xk : Hx (Bc H ρk) G' ρk ck H')
    (cells : ∀ {R : Addr → Cell → Prop}, Paired R ρk ck → (∀ p x, p ∈ ρ → p ∉ ρk → CellOk G H p x → R p x) → Paired R ρ c1) : Ext G ρ H G' ρ H' ∧ Hx B G' ρ c1 H' := by
  have keep : ∀ b o, H b = some o → b ∉ ρk → H' b = some o := fun b o e n => E.kp b o e n
  refine ⟨⟨fun b o e n => keep b o e fun z => n (sub b z), E.tr, ⟨[], by simp, by simp⟩, E.gr, E.nw⟩, ⟨X.nd, fun p hp g => ?_, X.avb, Xk.live, fun p b => E.tr p (X.liveb p b), ?_⟩⟩
  · rcases E.nw p g with g | g
    · exact X.av p hp g
    · exact X.trk hp g
  · refine cells Xk.cells fun p x hp n h => ?_
    have e : H' p = H p := by
      cases q : H p with
      | none => exact absurd q h.trk
      | some o => exact keep p o q n
    exact h.mv e (fun b o g e => keep b o e fun z => X.av b (sub b z) g) E.gr
theorem cells0 {R : Addr → Cell → Prop} {ρ : List Addr} {c : Cs} (h : Paired (CellOk G H) ρ c) (f : ∀ p x, p ∈ ρ → CellOk G H p x → R p x) : Paired R ρ c := by
  induction h with
  | nil => exact .nil
  | cons a _ ih => exact .cons (f _ _ (by simp) a) (ih fun p x hp => f p x (by simp [hp]))
theorem cells1 {R : Addr → Cell → Prop} {x' : Cell} {p : Addr} : ∀ {ρ : List Addr} {c : Cs} {k : Nat}, ρ.Nodup → Paired (CellOk G H) ρ c → ρ[k]? = some p → R p x' → (∀ q x, q ∈ ρ → q ≠ p → CellOk G H q x → R q x) → Paired R ρ (c.set k x')
  | _, _, k, _, .nil, e, _, _ => by simp at e
  | _, _, 0, nd, .cons a t, e, r, f => by
    have e1 := Option.some.inj e
    have nd2 := List.nodup_cons.mp nd
    subst e1
    exact .cons r (cells0 t fun q x hq h => f q x (by simp [hq]) (fun z => nd2.1 (z ▸ hq)) h)
  | _, _, k + 1, nd, .cons a t, e, r, f => by
    have nd2 := List.nodup_cons.mp nd
    have e2 := by simpa using e
    exact .cons (f _ _ (by simp) (fun z => nd2.1 (z ▸ List.mem_of_getElem? e2)) a) (cells1 nd2.2 t e2 r fun q x hq => f q x (by simp [hq]))
theorem sh_back {ρk : List Addr} {ck c1 : Cs} (X : Hx B G ρ c H) (sub : ∀ p ∈ ρk, p ∈ ρ) (nc : ∀ k, u ≠ .c k) (nb : ∀ xs, u ≠ .b xs) (ns : ∀ xs, u ≠ .s xs) (nl : ∀ ks, u ≠ .lc ks) (s : Sh K w (Bc H ρk) G' ρk H' v u) (f : Fr H v u) : Sh K w B G' ρ H' v u := by
  cases s with
  | d q => exact .d q
  | o a r g b n =>
    obtain ⟨p, e, hp⟩ := f
    cases e
    exact .o a r g (fun z => X.liveb _ z hp) fun z => X.trk z hp
  | b _ _ _ => exact absurd rfl (nb _)
  | s _ => exact absurd rfl (ns _)
  | c _ => exact absurd rfl (nc _)
  | ty => exact .ty
  | tt a g => exact .tt a g
  | set a g => exact .set a g
  | x => exact .x
  | dm a r g => exact .dm a r g
  | od a r g b n =>
    obtain ⟨p, e, hp⟩ := f
    cases e
    exact .od a r g (fun z => X.liveb _ z hp) fun z => X.trk z hp
  | lc _ _ _ => exact absurd rfl (nl _)
/-- what a call may hand back -/
def W.res : W → Bool
  | .d _ | .o _ | .dm _ | .od _ => true
  | _ => false
theorem res_c (h : u.res = true) : (∀ k, u ≠ .c k) ∧ (∀ xs, u ≠ .b xs) ∧ (∀ xs, u ≠ .s xs) ∧ ∀ ks, u ≠ .lc ks :=
  ⟨fun k e => (by rw [e] at h; cases h), fun k e => (by rw [e] at h; cases h), fun k e => (by rw [e] at h; cases h), fun k e => (by rw [e] at h; cases h)⟩
/-- a call without cells -/
theorem lift0 {us us' : List W} {vs : List V} {c1 : Cs} {T : VK} {E0' : XK} (k : Kt K w B G0 ρ0 H0 Q T) (E1 : Ext G0 ρ0 H0 G ρ H) (X1 : Hx B G ρ c1 H) (s1 : Paired (Sh K w B G ρ H) vs us) (hu : trs c1 us = some us')
    (q1 : sp us' [] fun u _ => u.res = true ∧ Q u c1) : lift K w sp vs H T E0' := by
  obtain ⟨s2, n2⟩ := trs_sh (ρk := []) X1 (by simp) s1 hu (by simp)
  have X2 : Hx (Bc H []) G [] [] H := ⟨.nil, by simp, by simp, X1.live, fun p b => b.1, .nil⟩
  refine ⟨_, G, [], [], us', _, X2, s2, n2, q1, ?_⟩
  intro u c' ⟨hr, q⟩ v G' H' E X' s f
  obtain ⟨E2, X3⟩ := back (c1 := c1) X1 (by simp) E X' fun _ f => cells0 X1.cells fun p x hp h => f p x hp (by simp) h
  obtain ⟨r1, r2, r3, r4⟩ := res_c hr
  exact k _ _ _ _ _ _ (E1.trans E2) X3 (sh_back (ρk := []) (ck := c') (c1 := c1) X1 (by simp) r1 r2 r3 r4 s f) (E1.fr f) q
theorem v_call0 {E0' : XK} (h : VA K w t e c fun us c1 => ∃ us', trs c1 us = some us' ∧ sp us' [] fun u _ => u.res = true ∧ Q u c1) : VE K w (tCall (lift K w sp) [] E0' t) e c Q := by
  intro B G ρ σ H T X S k
  refine h B G ρ σ H _ X S fun us vs c1 G1 ρ1 H1 E1 X1 s1 f1 d1 ⟨us', hu, q1⟩ => ?_
  rw [List.append_nil]
  exact lift0 k E1 X1 s1 hu q1
/-- a call that has the cell at k -/
def fstC : List W → Option Nat
  | .c j :: _ => some j
  | _ :: us => fstC us
  | [] => none
def tr1 (c : Cs) (k : Nat) : W → Option W
  | .c j => if j = k then some (.c 0) else tr0 c (.c j)
  | u => tr0 c u
def trs1 (c : Cs) (k : Nat) : List W → Option (List W)
  | [] => some []
  | u :: us => (tr1 c k u).bind fun d => (trs1 c k us).map fun ds => d :: ds
theorem trs1_sh {k : Nat} {p : Addr} (X : Hx B G ρ c H) (hp : ρ[k]? = some p) {vs : List V} {us us' : List W} (s : Paired (Sh K w B G ρ H) vs us) (h : trs1 c k us = some us') :
    Paired (Sh K w (Bc H [p]) G [p] H) vs us' ∧ ∀ u ∈ us', u.noO = true := by
  have hm : p ∈ ρ := List.mem_of_getElem? hp
  have sub : ∀ q ∈ [p], q ∈ ρ := fun q h => by rw [List.mem_singleton.mp h]; exact hm
  have one : ∀ {v : V} {u u' : W}, Sh K w B G ρ H v u → tr1 c k u = some u' → Sh K w (Bc H [p]) G [p] H v u' ∧ u'.noO = true := by
    intro v u u' s h
    by_cases isc : ∃ j, u = .c j
    · obtain ⟨j, rfl⟩ := isc
      have hh : (if j = k then some (W.c 0) else tr0 c (.c j)) = some u' := h
      clear h
      by_cases e : j = k
      · rw [if_pos e] at hh
        have h2 := Option.some.inj hh
        subst e h2
        cases s with
        | c hq =>
          rw [hp] at hq
          cases hq
          exact ⟨.c rfl, rfl⟩
      · rw [if_neg e] at hh
        refine tr0_sh X sub s hh fun i q e' hq => ?_
        cases e'
        intro z
        rw [List.mem_singleton] at z
        subst z
        have l2 := (List.getElem?_eq_some_iff.mp hq).1
        exact e ((List.getElem?_inj l2 X.nd).mp (hq.trans hp.symm))
    · have h2 : tr0 c u = some u' := by
        unfold tr1 at h
        split at h
        · exact absurd ⟨_, rfl⟩ isc
        · exact h
      exact tr0_sh X sub s h2 fun i q e' _ => absurd ⟨i, e'⟩ isc
  induction s generalizing us' with
  | nil => cases h; exact ⟨.nil, by simp⟩
  | cons a t ih =>
    unfold trs1 at h
    obtain ⟨d, h1, h2⟩ := Option.bind_eq_some_iff.mp h
    obtain ⟨ds, h3, rfl⟩ := Option.map_eq_some_iff.mp h2
    obtain ⟨s1, n1⟩ := one a h1
    obtain ⟨s2, n2⟩ := ih h3
    refine ⟨.cons s1 s2, fun u hu => ?_⟩
    rcases List.mem_cons.mp hu with e | hu
    · rw [e]; exact n1
    · exact n2 u hu
theorem lift1 {k : Nat} {x' : Cell} {us us' : List W} {vs : List V} {c1 : Cs} {T : VK} {E0' : XK} (kt : Kt K w B G0 ρ0 H0 Q T) (E1 : Ext G0 ρ0 H0 G ρ H) (X1 : Hx B G ρ c1 H) (s1 : Paired (Sh K w B G ρ H) vs us) (hu : trs1 c1 k us = some us') (hx : c1[k]? = some x')
    (q1 : sp us' [x'] fun u c' => u.res = true ∧ ∀ y, c' = [y] → Q u (c1.set k y)) : lift K w sp vs H T E0' := by
  obtain ⟨p, hp, r⟩ := paired_get X1.cells hx
  have hm : p ∈ ρ := List.mem_of_getElem? hp
  have sub : ∀ q ∈ [p], q ∈ ρ := fun q h => by rw [List.mem_singleton.mp h]; exact hm
  obtain ⟨s2, n2⟩ := trs1_sh X1 hp s1 hu
  have X2 : Hx (Bc H [p]) G [p] [x'] H := ⟨by simp, fun q h => by rw [List.mem_singleton.mp h]; exact X1.av p hm, fun q h z => z.2 h, X1.live, fun q b => b.1, .cons r .nil⟩
  refine ⟨_, G, [p], [x'], _, _, X2, s2, n2, q1, ?_⟩
  intro u c' ⟨hr, q⟩ v G' H' E X' s f
  obtain ⟨y, rfl⟩ : ∃ y, c' = [y] := List.length_eq_one_iff.mp X'.len.symm
  obtain ⟨E2, X3⟩ := back (c1 := c1.set k y) X1 sub E X' fun {R} hR f => by
    cases hR with
    | cons hR _ => exact cells1 X1.nd X1.cells hp hR fun q x hq ne h => f q x hq (by simpa using ne) h
  obtain ⟨r1, r2, r3, r4⟩ := res_c hr
  exact kt _ _ _ _ _ _ (E1.trans E2) X3 (sh_back (ρk := [p]) (ck := [y]) (c1 := c1.set k y) X1 sub r1 r2 r3 r4 s f) (E1.fr f) (q y rfl)
def rtn (n : Nat) (Q : W → Cs → Prop) (u : W) (c' : Cs) : Prop := match u with
  | .c k => if k < n then Q (.c k) (c'.take n) else (∃ xs, c'[k]? = some (.l xs) ∧ Q (.o xs) (c'.take n)) ∨ ∃ kvs, (c'[k]? = some (.fz kvs) ∧ Q (.dm kvs) (c'.take n)) ∨ (c'[k]? = some (.m kvs) ∧ Q (.od kvs) (c'.take n))
  | .dm x => Q (.dm x) (c'.take n)
  | .od x => Q (.od x) (c'.take n)
  | .d x => Q (.d x) (c'.take n)
  | .o x => Q (.o x) (c'.take n)
  | _ => False
def startE (N : List Str) (us : List W) : Ev := us.map some ++ List.replicate (N.length - us.length) none
theorem paired_take {α β : Type} {F : α → β → Prop} : ∀ {xs : List α} {ys : List β} (n : Nat), Paired F xs ys → Paired F (xs.take n) (ys.take n)
  | _, _, 0, _ => .nil
  | _, _, _ + 1, .nil => .nil
  | _, _, n + 1, .cons r t => .cons r (paired_take n t)
theorem kt_rtn {T : VK} (n : Nat) (hn : ρ.length = n) (h : ∀ u c', Q u c' → ∀ v G' H', Ext G ρ H G' ρ H' → Hx B G' ρ c' H' → Sh K w B G' ρ H' v u → Fr H v u → T v H') : Kt K w B G ρ H (rtn n Q) T := by
  intro u v c' G' ρ' H' E X s f q
  obtain ⟨ys, rfl, hy⟩ := E.pre
  have E2 : Ext G ρ H G' ρ H' := ⟨E.kp, E.tr, ⟨[], by simp, by simp⟩, E.gr, E.nw⟩
  have tk : (ρ ++ ys).take n = ρ := by rw [← hn, List.take_left]
  have X2 : Hx B G' ρ (c'.take n) H' := by
    have pt := paired_take n X.cells
    rw [tk] at pt
    exact ⟨(List.nodup_append.mp X.nd).1, fun p hp => X.av p (by simp [hp]), fun p hp => X.avb p (by simp [hp]), X.live, X.liveb, pt⟩
  have nin : ∀ p, p ∉ ρ ++ ys → p ∉ ρ := fun p h z => h (by simp [z])
  cases s with
  | d s => exact h _ _ q _ _ _ E2 X2 (.d s) trivial
  | o a r g b m => exact h _ _ q _ _ _ E2 X2 (.o a r g b (nin _ m)) f
  | dm a r g => exact h _ _ q _ _ _ E2 X2 (.dm a r g) trivial
  | od a r g b m => exact h _ _ q _ _ _ E2 X2 (.od a r g b (nin _ m)) f
  | @c p k a =>
    by_cases hk : k < n
    · have q : (if k < n then Q (.c k) (c'.take n) else _) := q
      rw [if_pos hk] at q
      rw [List.getElem?_append_left (by omega)] at a
      exact h _ _ q _ _ _ E2 X2 (.c a) trivial
    · have q : (if k < n then Q (.c k) (c'.take n) else (∃ xs, c'[k]? = some (.l xs) ∧ Q (.o xs) (c'.take n)) ∨ ∃ kvs, (c'[k]? = some (.fz kvs) ∧ Q (.dm kvs) (c'.take n)) ∨ (c'[k]? = some (.m kvs) ∧ Q (.od kvs) (c'.take n))) := q
      rw [if_neg hk] at q
      rcases q with ⟨xs, hx, q⟩ | ⟨kvs, ⟨hx, q⟩ | ⟨hx, q⟩⟩
      rotate_left
      · obtain ⟨p', hp, r⟩ := paired_get X.cells hx
        rw [a] at hp
        cases hp
        have mys : p ∈ ys := by
          rw [List.getElem?_append_right (by omega)] at a
          exact List.mem_of_getElem? a
        cases r with
        | fz h1 r =>
          have np : p ∉ ρ := fun z => (List.nodup_append.mp X.nd).2.2 p z p mys rfl
          exact h _ _ q _ _ _ (E2.data (hy p mys)) (X2.data (by rw [h1]; simp) np) (.dm h1 (Paired.mono (fun _ _ q => ⟨q.1, q.2.imp fun _ g => .inl g⟩) r) (.inr rfl)) trivial
      · obtain ⟨p', hp, r⟩ := paired_get X.cells hx
        rw [a] at hp
        cases hp
        have m := List.mem_of_getElem? a
        have mys : p ∈ ys := by
          rw [List.getElem?_append_right (by omega)] at a
          exact List.mem_of_getElem? a
        cases r with
        | m h1 r => exact h _ _ q _ _ _ E2 X2 (.od h1 r (X.av _ m) (X.avb _ m) fun z => (List.nodup_append.mp X.nd).2.2 p z p mys rfl) ⟨p, rfl, hy p mys⟩
      obtain ⟨p', hp, r⟩ := paired_get X.cells hx
      rw [a] at hp
      cases hp
      have m := List.mem_of_getElem? a
      have mys : p ∈ ys := by
        rw [List.getElem?_append_right (by omega)] at a
        exact List.mem_of_getElem? a
      cases r with
      | l h1 r => exact h _ _ q _ _ _ E2 X2 (.o h1 r (X.av _ m) (X.avb _ m) fun z => (List.nodup_append.mp X.nd).2.2 p z p mys rfl) ⟨p, rfl, hy p mys⟩
  | _ => exact q.elim
theorem sl_start {N : List Str} {vs : List V} {us : List W} (s : Paired (Sh K w B G ρ H) vs us) (n : ∀ u ∈ us, u.noO = true) : Sl K w B G ρ H (L2.start N vs) (startE N us) := by
  unfold L2.start startE
  rw [Paired.length s]
  refine paired_app ?_ ?_
  · induction s with
    | nil => exact .nil
    | cons a t ih => exact .cons ⟨n _ (by simp), _, rfl, a⟩ (ih fun u hu => n u (by simp [hu]))
  · generalize N.length - us.length = m
    induction m with
    | zero => exact .nil
    | succ m ih => exact .cons trivial ih
end
section
variable {P : Program} {w : World} {K : PySem.W.Frag} {mg : Str → Option Value} {base : Heap} {k : Nat} {f : Addr} {fd : FuncData} {ps N : List Str} {sp : SpV}
theorem GFn.v {x qual : Str} {st : Stmt} (F : Fun K x qual st f fd) (S : FnScope N ps (defScope st))
    (len : ∀ us c Q, sp us c Q → us.length = ps.length)
    (body : ∀ (cdv : Value) (A : Around) (outer : List Env) (s : Shared) (H : Hp) (E : XK) (us : List W) (c : Cs) (Q : W → Cs → Prop),
      A.guards = some [] → Room k (A.deeper (envOfC qual (defScope st) s.heap.objs.size f cdv)) → sp us c Q →
      ∃ t, PSs (cxOf CX0 P w K mg base N qual (defScope st) f cdv A outer s H E).nox (defBody st) t ∧
        VS K w t (startE N us) c { nx := fun _ c' => rtn c.length Q (.d .none) c', rt := rtn c.length Q }) :
    GFn P w K mg base CX0 (k + 1) f fd ps (lift K w sp) := by
  refine GFn.mk' F S (fun vs H Q E h => ?_) (fun cdv A outer s H vs T E gd hr h => ?_)
  · obtain ⟨B, G, ρ, c, us, Q, X, sh, no, h, _⟩ := h
    rw [Paired.length sh]
    exact len us c Q h
  · obtain ⟨B, G, ρ, c, us, Q, X, sh, no, h, fin⟩ := h
    obtain ⟨t, h1, h2⟩ := body cdv A outer s H E us c Q gd hr h
    have kt := kt_rtn c.length X.len fin
    refine ⟨t, h1, h2 B G ρ (L2.start N vs) H _ X (sl_start sh no) ⟨fun e' c' σ' G' ρ' H' E' X' S' q => ?_, kt, fun _ _ _ _ _ _ _ _ _ q => q, fun _ _ _ _ _ _ _ _ _ q => q, fun _ _ _ _ _ _ _ _ _ _ _ _ _ q => q.elim⟩⟩
    exact kt _ _ _ _ _ _ E' X' (.d .non) trivial q
/-- what a law's def promises -/
def lawV : SpV := fun us c Q => ∃ ns : List Int, us = [.s (ns.map .int)] ∧ c = [] ∧ ns.length ≤ 63 ∧ (∀ z ∈ ns, Builtin.Int.intBits z ≤ 1048576) ∧ Q (.d (.bool true)) []
theorem law_start {H : Hp} {a : Addr} {ns : List Int} {E : XK} (hl : ns.length ≤ 63) (hb : ∀ z ∈ ns, Builtin.Int.intBits z ≤ 1048576) (hS : SqL K H a (ns.map V.int)) :
    lift K w lawV [.ref a] H (fun v _ => v = .bl true) E := by
  refine ⟨fun p => H p ≠ none, fun _ => False, [], [], [.s (ns.map .int)], fun u _ => u = .d (.bool true), ⟨.nil, by simp, by simp, fun _ h => h.elim, fun _ h => h, .nil⟩, .cons (.s ?_) .nil, by simp [W.noO], ⟨ns, rfl, rfl, hl, hb, rfl⟩, ?_⟩
  · rcases hS with h | h
    · refine .inl ⟨h, ?_⟩
      rcases h with h | ⟨o, h⟩ <;> rw [h] <;> simp
    · exact .inr h
  · intro u c' hu v G' H' _ _ s _
    subst hu
    cases s with
    | d q => exact dq_bl q
end
end Gd
namespace Gd
open PySem PySem.Spec PyProof.Rows L2
/-- a name that a new list comes to as a cell -/
def gNameC (i : Nat) : TG := gName i
/-- a def that is passed its cells; one that is passed none -/
def liftC (K : PySem.W.Frag) (w : World) (sp : SpV) : Sp := lift K w sp
section
variable {X : Cx} {st : Stmt} {te : TE} {i j k : Nat} {t : TA} {tg : Expr} {b1 b2 b3 : Bool}
theorem PS.as_c (h : PS X st (tAsg te (gName i))) : PS X st (tAsg te (gNameC i)) := h
end
section
variable {K : PySem.W.Frag} {w : World} {c c' : Cs} {e e' : Ev} {u x y : W}
variable {Q : W → Cs → Prop} {QB : Bool → Cs → Prop} {P : Ev → Cs → Prop} {ta tb tc te te1 to ti : TE} {t tk : TA} {D : DV} {sp : SpV} {i j k : Nat} {b1 b2 b3 : Bool}
theorem v_gC {xs : List PyData} (q : P (e.set i (some (.c c.length))) (c ++ [.l xs])) : VG K w (gNameC i) (.o xs) e c P := v_gnameC q
theorem v_nx {n : Ev → Cs → Prop} {r : W → Cs → Prop} {b k : Ev → Cs → Prop} {x : Addr → Option (Str × PyData) → Ev → Cs → Prop} {w : WX} (q : n e c) : DV.nx ⟨n, r, b, k, x, w⟩ e c := q
theorem v_rt {n : Ev → Cs → Prop} {r : W → Cs → Prop} {b k : Ev → Cs → Prop} {x : Addr → Option (Str × PyData) → Ev → Cs → Prop} {w : WX} (q : r u c) : DV.rt ⟨n, r, b, k, x, w⟩ u c := q
theorem rtn_d {n : Nat} {z : PyData} (q : Q (.d z) (c.take n)) : rtn n Q (.d z) c := q
theorem rtn_o {n : Nat} {z : List PyData} (q : Q (.o z) (c.take n)) : rtn n Q (.o z) c := q
theorem res_d {z : PyData} {R : Prop} (q : R) : W.res (.d z) = true ∧ R := ⟨rfl, q⟩
theorem res_o {z : List PyData} {R : Prop} (q : R) : W.res (.o z) = true ∧ R := ⟨rfl, q⟩
theorem b_c {z : Bool} {P : Bool → Prop} (q : P z) : ∃ k, W.d (.bool z) = .d (.bool k) ∧ P k := ⟨z, rfl, q⟩
theorem i_c {z : Int} {P : Int → Prop} (q : P z) : ∃ k, W.d (.int z) = .d (.int k) ∧ P k := ⟨z, rfl, q⟩
theorem s_c {z : Str} {R : Prop} (q : R) : (∃ a, W.d (.str z) = .d (.str a)) ∧ R := ⟨⟨z, rfl⟩, q⟩
theorem t_bl {z : Bool} {P : Bool → Prop} (q : P z) : ∃ k, Tv c (.d (.bool z)) k ∧ P k := ⟨z, .bl z, q⟩
theorem l_c {us : List W} {xs : List PyData} {P : List PyData → Prop} (h : dats us = some xs) (hz : us.length ≤ sizeLine) (q : P xs) : ∃ xs, dats us = some xs ∧ us.length ≤ sizeLine ∧ P xs := ⟨xs, h, hz, q⟩
theorem z_d {x : PyData} {P : PyData → Prop} (q : P x) : ∃ z, dat1 (.d x) = some z ∧ P z := ⟨_, rfl, q⟩
theorem c0_c {us us' : List W} {P : List W → Prop} (h : trs c us = some us') (q : P us') : ∃ us', trs c us = some us' ∧ P us' := ⟨us', h, q⟩
theorem v_pturn {g : TG} {tt : TT} {ws : List Nat} {d : PyData} {r : Option PyData} (q : VTurn K w g tt te ws e c d (fun z c4 => r = some z ∧ c4 = c) (fun c4 => r = none ∧ c4 = c)) : PTurn K w g tt te ws e c d r := q
theorem v_turn {g : TG} {tt : TT} {ws : List Nat} {d : PyData} {yes : PyData → Cs → Prop} {no : Cs → Prop} (q : VG K w g (.d d) (wipeE e ws) c fun e2 c2 => VT K w tt e2 c2 fun b c3 => if b = true then VE K w te e2 c3 fun y c4 => ∃ z, dat1 y = some z ∧ yes z c4 else no c3) : VTurn K w g tt te ws e c d yes no := q
theorem set_c {a : Cell} {P : Cell → Prop} (q : P a) : ∀ y, [a] = [y] → P y := fun y h => by cases h; exact q
end
end Gd
namespace Gd
open PySem PySem.Spec PyProof.Rows L2
def low (c : Nat) : Bool := decide (97 ≤ c ∧ c ≤ 122)
def isT (s : Str) : Bool := decide (s.length ≤ 12) && (tl s).all low
def isW (s : Str) : Bool := isT s && decide (0 < s.length)
theorem tl_letters : tl ("abcdefghijklmnopqrstuvwxyz" : Str) = List.range' 97 26 := by decide +kernel
theorem in_letters (c : Nat) : decide (c ∈ tl ("abcdefghijklmnopqrstuvwxyz" : Str)) = low c := by
  rw [tl_letters]
  unfold low
  rw [decide_eq_decide]
  rw [List.mem_range'_1]
  omega
theorem sum_ones : ∀ cs : List Nat, (cs.map ((fun x : Str => x.length) ∘ fun c => (⟨#[c]⟩ : Str))).sum = cs.length
  | [] => rfl
  | c :: cs => by
    rw [List.map_cons, List.sum_cons, sum_ones cs]
    show 1 + cs.length = cs.length + 1
    omega
theorem joinL0 : ∀ ys : List (List Nat), TL.joinL [] ys = ys.flatten
  | [] => rfl
  | [p] => by simp [TL.joinL]
  | p :: q :: r => by
    rw [TL.joinL, List.nil_append, joinL0 (q :: r)]
    rfl
theorem tl_spell (cs : List Nat) : tl (Txt.join "" (cs.map fun c => (⟨#[c]⟩ : Str))) = cs := by
  rw [TL.join_eq]
  show TL.tl _ = _
  rw [TL.tl_join, List.map_map, show (TL.tl ∘ fun c => (⟨#[c]⟩ : Str)) = fun c => [c] from rfl]
  show TL.joinL [] _ = _
  rw [joinL0]
  induction cs with
  | nil => rfl
  | cons c cs ih => rw [List.map_cons, List.flatten_cons, ih]; rfl
def fits (x o : Str) : Bool := !(Txt.startswith o x || Txt.startswith x o)
def cutT (x : Str) (l : Nat) : Str := cutS x none (some (l : Int))
theorem isW_len {x : Str} (h : isW x = true) : x.length ≤ 12 := by
  simp only [isW, isT, Bool.and_eq_true, decide_eq_true_eq] at h
  exact h.1.1
/-- sorted -/
def leT (a b : Str) : Bool := !decide (tl b < tl a)
def srt (xs : List Str) : List Str := xs.mergeSort leT
theorem srt_perm (xs : List Str) : (srt xs).Perm xs := List.mergeSort_perm xs leT
theorem srt_mem {xs : List Str} {x : Str} : x ∈ srt xs ↔ x ∈ xs := (srt_perm xs).mem_iff
/-- words of a book -/
structure Gb (ws : List Str) : Prop where
  ok : ∀ w ∈ ws, isW w = true
  nc : NC ws
  nd : ws.Nodup
theorem Gb.len {ws : List Str} (h : Gb ws) {x : Str} (m : x ∈ ws) : x.length ≤ 12 := isW_len (h.ok x m)
/-- small data -/
def SmI (m : Nat) (d : PyData) : Prop := fine d = true ∧ sz d + 2 ≤ m ∧ d.depth ≤ 50
theorem sm_map {α : Type} {f : α → PyData} {ys : List α} {m : Nat} (h : ∀ y ∈ ys, SmI m (f y)) (hz : ys.length * m ≤ 9000000) : Sm (.list (ys.map f)) := by
  have key : ∀ l : List α, (∀ y ∈ l, SmI m (f y)) → fineAll (l.map f) = true ∧ szAll (l.map f) ≤ l.length * m ∧ PyData.depthAll (l.map f) ≤ 50 := by
    intro l
    induction l with
    | nil => exact fun _ => ⟨rfl, by simp [szAll], by simp [PyData.depthAll]⟩
    | cons w l ih =>
      intro hw
      obtain ⟨h1, h2, h3⟩ := ih fun x hx => hw x (by simp [hx])
      obtain ⟨g1, g2, g3⟩ := hw w (by simp)
      refine ⟨?_, ?_, ?_⟩
      · simp only [List.map_cons, fineAll, h1, g1, Bool.and_self]
      · simp only [List.map_cons, szAll, List.length_cons, Nat.add_mul]
        omega
      · simp only [List.map_cons, PyData.depthAll]
        exact Nat.max_le.mpr ⟨g3, h3⟩
  obtain ⟨h1, h2, h3⟩ := key ys h
  refine ⟨by simp only [fine]; exact h1, ?_, ?_⟩
  · simp only [sz]
    omega
  · simp only [PyData.depth]
    omega
theorem Gb.nil : Gb [] := ⟨by simp, fun x hx => (by cases hx), List.Pairwise.nil⟩
end Gd
namespace Gd
open PySem PySem.Spec PyProof.Rows L2
section
variable {K : PySem.W.Frag} {w : World} {c c' : Cs} {e e' : Ev} {u x y : W}
variable {Q : W → Cs → Prop} {QB : Bool → Cs → Prop} {P : Ev → Cs → Prop} {ta tb tc te te1 to ti : TE} {t tk : TA} {tt : TT} {D : DV} {sp : SpV} {i j k : Nat} {g : TG} {ws : List Nat} {α β : Type}
theorem w_isiT {C : String} (h : Tw c x C) (q : Q (.d (.bool true)) c) (hC : C ∈ ["bool", "int", "str", "list", "tuple", "dict"] := by decide) : VX K w (uIsi K) [x, .ty C] c Q :=
  w_isi h (by rw [show isi C C = true by simp [isi]]; exact q) hC
theorem w_isiF {C t : String} (h : Tw c x t) (n : isi t C = false) (q : Q (.d (.bool false)) c) (hC : C ∈ ["bool", "int", "str", "list", "tuple", "dict"] := by decide) : VX K w (uIsi K) [x, .ty C] c Q :=
  w_isi h (by rw [n]; exact q) hC
/-- a list against the empty one -/
theorem eqv_nil (ds : List PyData) : PyData.eqv (.list ds) (.list []) = ds.isEmpty := by
  cases ds <;> simp [PyData.eqv, PyData.eqvAll]
theorem w_eq0 {xs : List PyData} (h1 : Lv c x xs) (s : SeqAt.shaped (.list xs) = true) (q : Q (.d (.bool xs.isEmpty)) c) : V2 K w (uEq K) x (.o []) c Q :=
  w_eqD (.l h1) (.l .o) s (by decide +kernel) (by rw [eqv_nil]; exact q)
theorem w_ne0 {xs : List PyData} (h1 : Lv c x xs) (s : SeqAt.shaped (.list xs) = true) (q : Q (.d (.bool (!xs.isEmpty))) c) : V2 K w (uNe K) x (.o []) c Q :=
  w_neD (.l h1) (.l .o) s (by decide +kernel) (by rw [eqv_nil]; exact q)
end
theorem cutD_to (xs : List PyData) {d : Int} (h : 0 ≤ d) : cutD xs none (some d) = xs.take d.toNat := by
  unfold cutD
  have e := HT.sIx_nat xs.length xs.length d.toNat
  rw [Int.toNat_of_nonneg h] at e
  rw [e, HT.sIx_none, List.drop_zero, Nat.sub_zero]
  by_cases hd : d.toNat ≤ xs.length
  · rw [Nat.min_eq_left hd]
  · rw [Nat.min_eq_right (by omega), List.take_of_length_le (by omega), List.take_of_length_le (by omega)]
theorem map_at {α : Type} {m : α → PyData} {ys : List α} {i : Nat} {d : PyData} (h : (ys.map m)[i]? = some d) : ∃ y, ys[i]? = some y ∧ d = m y := by
  rw [List.getElem?_map] at h
  obtain ⟨y, h1, h2⟩ := Option.map_eq_some_iff.mp h
  exact ⟨y, h1, h2.symm⟩
theorem gs_c {c : Cs} {k : Nat} {i : Int} {xs : List PyData} {j : Nat} {P : Nat → Int → List PyData → Nat → Prop} (hx : c[k]? = some (.l xs)) (hj : ixN xs.length i = some j) (q : P k i xs j) :
    ∃ k' i' xs j, W.c k = .c k' ∧ W.d (.int i) = .d (.int i') ∧ c[k']? = some (.l xs) ∧ ixN xs.length i' = some j ∧ P k' i' xs j := ⟨k, i, xs, j, rfl, rfl, hx, hj, q⟩
theorem ite_f {A B : Prop} {b : Bool} (h : b = false) (q : B) : if b = true then A else B := by rw [h]; exact q
section
variable {K : PySem.W.Frag} {w : World} {c : Cs} {Q : W → Cs → Prop}
theorem w_max2 {i j : Int} (q : Q (.d (.int (if j > i then j else i))) c) : VX K w (fun xs H Q => ∃ i j, xs = [.int i, .int j] ∧ Q (.int (if j > i then j else i)) H) [.d (.int i), .d (.int j)] c Q := w_x2 dq_int dq_int (.int _) (fun q => ⟨_, _, rfl, q⟩) q
end
section
variable {K : PySem.W.Frag} {w : World} {e : Ev} {c : Cs} {Q Q' : W → Cs → Prop} {QB QB' : Bool → Cs → Prop} {ta tb te : TE} {tt : TT} {b : Bool}
theorem VE.mono (h : VE K w te e c Q') (f : ∀ u c1, Q' u c1 → Q u c1) : VE K w te e c Q :=
  fun B G ρ σ H T X S k => h B G ρ σ H T X S fun u v c' G' ρ' H' E X s fr q => k u v c' G' ρ' H' E X s fr (f u c' q)
theorem VT.mono (h : VT K w tt e c QB') (f : ∀ u c1, QB' u c1 → QB u c1) : VT K w tt e c QB :=
  fun B G ρ σ H T X S k => h B G ρ σ H T X S fun u c' G' ρ' H' E X q => k u c' G' ρ' H' E X (f u c' q)
end
end Gd
namespace Gd
open PySem PySem.Spec PyProof.Rows L2
section
variable {α β κ : Type} [DecidableEq κ]
def valG (kvs : List (κ × α)) (k : κ) : Option α := (kvs.find? fun kv => decide (kv.1 = k)).map (·.2)
end
section
variable {K : PySem.W.Frag} {w : World} {B G G' G'' G0 : Addr → Prop} {ρ ρ' ρ'' ρ0 : List Addr} {H H' H'' H0 : Hp} {c c' : Cs} {σ : L2.St} {e e' : Ev} {v vx vy : V} {u x y z : W}
variable {Q : W → Cs → Prop} {td ty tx tv : TE} {D : DV} {P : Ev → Cs → Prop}
abbrev KR (G : Addr → Prop) (H : Hp) : List (Key × V) → List (Key × PyData) → Prop := Paired fun a b => a.1 = b.1 ∧ Dq G H a.2 b.2
theorem KR.val {vs : List (Key × V)} {kvs : List (Key × PyData)} (r : KR G H vs kvs) (k : Key) : (valV vs k = none ∧ valG kvs k = none) ∨ ∃ a b, valV vs k = some a ∧ valG kvs k = some b ∧ Dq G H a b := by
  induction r with
  | nil => exact .inl ⟨rfl, rfl⟩
  | @cons a b l1 l2 h _ ih =>
    by_cases e : a.1 = k
    · refine .inr ⟨a.2, b.2, valV_pos e, ?_, h.2⟩
      unfold valG
      rw [List.find?_cons, show decide (b.1 = k) = true from decide_eq_true (h.1 ▸ e)]
      rfl
    · have e2 : ¬ b.1 = k := fun z => e (h.1.trans z)
      rw [valV_neg e]
      have : valG (b :: l2) k = valG l2 k := by
        unfold valG
        rw [List.find?_cons, show decide (b.1 = k) = false from decide_eq_false e2]
      rw [this]
      exact ih
theorem KR.mv {vs : List (Key × V)} {kvs : List (Key × PyData)} (r : KR G H vs kvs) (k : ∀ b o, G b → H b = some o → H' b = some o) (m : ∀ b, G b → G' b) : KR G' H' vs kvs := Paired.mono (fun _ _ q => ⟨q.1, Dq.mono k m _ _ q.2⟩) r
end
end Gd
namespace Gd
open PySem PySem.Spec PyProof.Rows L2
def ofL (l : List Nat) : Str := ⟨l.toArray⟩
theorem tl_ofL (l : List Nat) : tl (ofL l) = l := rfl
theorem tl_inj {a b : Str} (h : tl a = tl b) : a = b := TL.ext_tl h
/-- the words' next letters behind a text, ascending -/
def lets (ws : List Str) (t : Str) : List Nat := (List.range' 97 26).filter fun a => ws.any fun w => (tl t ++ [a]).isPrefixOf (tl w)
/-- the texts ahead of a letter -/
def pfx (ws : List Str) : List Str := dedT (ws.flatMap fun w => (List.range w.length).map (cutT w))
def brs (ws : List Str) : List (Str × Str) := ((srt (pfx ws)).filter fun t => decide (1 < (lets ws t).length)).map fun t => (t, ofL (lets ws t))
/-- the letters as they come -/
def evs (ws : List Str) : List (Str × Nat) := ws.flatMap fun w => (List.range w.length).map fun l => (cutT w l, (tl w).getD l 0)
theorem tl_cutT (w : Str) (l : Nat) : tl (cutT w l) = (tl w).take l := by
  unfold cutT
  rw [cut_to _ (by omega), Int.toNat_natCast]
theorem evs_mem {ws : List Str} {t : Str} {a : Nat} : (t, a) ∈ evs ws ↔ ∃ w ∈ ws, (tl t ++ [a]).isPrefixOf (tl w) = true := by
  unfold evs
  rw [List.mem_flatMap]
  constructor
  · rintro ⟨w, hw, h⟩
    obtain ⟨l, hl, e⟩ := List.mem_map.mp h
    refine ⟨w, hw, ?_⟩
    have hl2 : l < (tl w).length := by rw [← TL.len_tl]; exact List.mem_range.mp hl
    obtain ⟨e1, e2⟩ := Prod.mk.inj e
    rw [← e1, ← e2, tl_cutT, List.isPrefixOf_iff_prefix, List.getD_eq_getElem?_getD, List.getElem?_eq_getElem hl2]
    refine ⟨(tl w).drop (l + 1), ?_⟩
    show (tl w).take l ++ [(tl w)[l]] ++ (tl w).drop (l + 1) = tl w
    rw [List.append_assoc, List.singleton_append, List.getElem_cons_drop, List.take_append_drop]
  · rintro ⟨w, hw, h⟩
    rw [List.isPrefixOf_iff_prefix] at h
    obtain ⟨r, hr⟩ := h
    have hlen : (tl t).length < w.length := by
      rw [TL.len_tl]
      show (tl t).length < (tl w).length
      rw [← hr]
      simp only [List.length_append, List.length_cons, List.length_nil]
      omega
    refine ⟨w, hw, List.mem_map.mpr ⟨(tl t).length, List.mem_range.mpr hlen, ?_⟩⟩
    refine Prod.ext (tl_inj ?_) ?_
    · show tl (cutT w (tl t).length) = tl t
      rw [tl_cutT, ← hr, List.append_assoc, List.take_left]
    · show (tl w).getD (tl t).length 0 = a
      rw [← hr, List.append_assoc, List.getD_eq_getElem?_getD, List.getElem?_append_right (Nat.le_refl _)]
      simp
/-- words of small letters -/
def Low (ws : List Str) : Prop := ∀ w ∈ ws, ∀ a ∈ tl w, 97 ≤ a ∧ a ≤ 122
theorem lets_mem {ws : List Str} (hl : Low ws) {t : Str} {a : Nat} : a ∈ lets ws t ↔ (t, a) ∈ evs ws := by
  rw [evs_mem]
  unfold lets
  rw [List.mem_filter, List.any_eq_true]
  constructor
  · rintro ⟨_, h⟩; exact h
  · rintro ⟨w, hw, h⟩
    refine ⟨?_, w, hw, h⟩
    rw [List.isPrefixOf_iff_prefix] at h
    have := hl w hw a (h.subset (by simp))
    rw [List.mem_range'_1]
    omega
end Gd
namespace Gd
open PySem PySem.Spec PyProof.Rows L2
end Gd
namespace Gd
open PySem PySem.Spec PyProof.Rows L2
section
variable {K : PySem.W.Frag} {w : World} {B G G' G'' G0 : Addr → Prop} {ρ ρ' ρ'' ρ0 : List Addr} {H H' H'' H0 : Hp} {c c' : Cs} {σ : L2.St} {e e' : Ev} {v vx vy : V} {u x y z : W} {us : List W}
variable {Q : W → Cs → Prop}
theorem VX.mono {r r' : List V → Hp → VK → Prop} (h : VX K w r us c Q) (m : ∀ vs H T, r vs H T → r' vs H T) : VX K w r' us c Q := by
  intro B G0 ρ0 H0 G ρ H vs T E X sx fx kt
  exact m _ _ _ (h B G0 ρ0 H0 G ρ H vs T E X sx fx kt)
end
end Gd
namespace Gd
open PySem PySem.Spec PyProof.Rows L2
end Gd
namespace Gd
open PySem PySem.Spec PyProof.Rows L2
end Gd
namespace Gd
open PySem PySem.Spec PyProof.Rows L2
section
variable {K : PySem.W.Frag} {w : World} {c : Cs} {Q : W → Cs → Prop} {x y : W}
theorem w_eqIs {a : Int} (q : Q (.d (.bool true)) c) : V2 K w (uEq K) (.d (.int a)) (.d (.int a)) c Q := w_eqI (by rw [decide_eq_true rfl]; exact q)
end
/-- what two equal values may be -/
def bw : PyData → W
  | .list xs => .b xs
  | x => .d x
end Gd
namespace Gd
open PySem PySem.Spec PyProof.Rows L2
inductive DxA (c : Cs) : List W → List PyData → Prop
  | nil : DxA c [] []
  | cons {u : W} {x : PyData} {us : List W} {xs : List PyData} (h : Dx c u x) (t : DxA c us xs) : DxA c (u :: us) (x :: xs)
section
variable {K : PySem.W.Frag} {w : World} {B G G' G'' G0 : Addr → Prop} {ρ ρ' ρ'' ρ0 : List Addr} {H H' H'' H0 : Hp} {c c' : Cs} {σ : L2.St} {e e' : Ev} {v vx vy : V} {u u2 x y : W}
variable {Q : W → Cs → Prop} {te : TE} {t : TA}
theorem Dx.dq2 (X : Hx B G ρ c H) (q : Sh K w B G ρ H v u) {x : PyData} (l : Dx c u x) : Dq (fun _ => True) H v x := by
  cases l with
  | d => cases q with | d q => exact q.imp fun _ _ => trivial
  | l h =>
    obtain ⟨a, vs, rfl, h1, h2⟩ := h.at X q
    exact .lst trivial h1 (h2.imp fun _ _ => trivial)
theorem DxA.dq (X : Hx B G ρ c H) {vs : List V} {us : List W} {xs : List PyData} (q : Paired (Sh K w B G ρ H) vs us) (l : DxA c us xs) : DqL (fun _ => True) H vs xs := by
  induction q generalizing xs with
  | nil => cases l; exact .nil
  | cons a t ih => cases l with | cons h r => exact .cons (h.dq2 X a) (ih r)
end
end Gd
namespace Gd
open PySem PySem.Spec PyProof.Rows L2
def cmL : List Nat → List Nat → Nat
  | a :: as, b :: bs => if a = b then cmL as bs + 1 else 0
  | _, _ => 0
def cm (x y : Str) : Nat := cmL (tl x) (tl y)
end Gd
namespace Gd
open PySem PySem.Spec PyProof.Rows L2
section
variable {K : PySem.W.Frag} {w : World} {c : Cs} {e : Ev} {Q : W → Cs → Prop} {t : TA} {sp : SpV} {n : Nat}
theorem shs_stay {B G G' : Addr → Prop} {ρ ρ' : List Addr} {H H' : Hp} (h : Stay B G ρ H G' ρ' H') : ∀ {vs : List V} {us : List W}, us.all W.noO = true → Paired (Sh K w B G ρ H) vs us → Paired (Sh K w B G' ρ' H') vs us
  | _, _, _, .nil => .nil
  | _, _, n, .cons a t => by
    rw [List.all_cons, Bool.and_eq_true] at n
    exact .cons (h.sh a n.1) (shs_stay h n.2 t)
end
end Gd
namespace Gd
open PySem PySem.Spec PyProof.Rows L2
end Gd
namespace Gd
open PySem PySem.Spec PyProof.Rows L2
theorem brs_mem {ws : List Str} {p : Str × Str} (h : p ∈ brs ws) : p.1 ∈ pfx ws ∧ 1 < (lets ws p.1).length ∧ p.2 = ofL (lets ws p.1) := by
  unfold brs at h
  obtain ⟨t, ht, rfl⟩ := List.mem_map.mp h
  obtain ⟨h1, h2⟩ := List.mem_filter.mp ht
  exact ⟨srt_mem.mp h1, of_decide_eq_true h2, rfl⟩
theorem tl_app (a b : Str) : tl (a ++ b) = tl a ++ tl b := TL.tl_append a b
def pre (o t : Str) : Bool := (tl t).isPrefixOf (tl o)
/-- one sign chosen behind each branching -/
def Choice (ws : List Str) (n : Nat) (st : List (Str × Str)) : Prop := st.length = n ∧ ∀ (i : Nat) (p s : Str × Str), (brs ws)[i]? = some p → st[i]? = some s → s.1 = p.1 ∧ ∃ a ∈ tl p.2, s.2 = ⟨#[a]⟩
abbrev IsSt (ws : List Str) (st : List (Str × Str)) : Prop := Choice ws (brs ws).length st
theorem IsSt.mem {ws : List Str} {st : List (Str × Str)} (h : IsSt ws st) (lo : Low ws) {q : Str × Str} (hq : q ∈ st) : ∃ p ∈ brs ws, q.1 = p.1 ∧ ∃ a, a ∈ tl p.2 ∧ q.2 = ⟨#[a]⟩ ∧ ∃ w ∈ ws, pre w (q.1 ++ q.2) = true := by
  obtain ⟨i, hi, e⟩ := List.getElem_of_mem hq
  have e2 : st[i]? = some q := by rw [List.getElem?_eq_getElem hi, e]
  have e1 := List.getElem?_eq_getElem (show i < (brs ws).length by rw [← h.1]; exact hi)
  obtain ⟨f1, a, ha, f2⟩ := h.2 i _ _ e1 e2
  have hm := List.mem_of_getElem? e1
  refine ⟨_, hm, f1, a, ha, f2, ?_⟩
  obtain ⟨_, _, h3⟩ := brs_mem hm
  rw [h3, tl_ofL, lets_mem lo, evs_mem] at ha
  obtain ⟨w, hw, hp⟩ := ha
  exact ⟨w, hw, by rw [f1, f2]; unfold pre; rw [tl_app]; exact hp⟩
end Gd
namespace Gd
open PySem PySem.Spec PyProof.Rows L2
end Gd
namespace Gd
open PySem PySem.Spec PyProof.Rows L2
end Gd
namespace Gd
open PySem PySem.Spec PyProof.Rows L2
end Gd
namespace Gd
open PySem PySem.Spec PyProof.Rows L2
def repO (n : Nat) : List W → Option (List W × List PyData)
  | [] => none
  | u :: us => match u with
    | .o xs => some (.c n :: us, xs)
    | u => (repO n us).map fun r => (u :: r.1, r.2)
section
variable {K : PySem.W.Frag} {w : World} {B G G' G'' G0 : Addr → Prop} {ρ ρ' ρ'' ρ0 : List Addr} {H H' H'' H0 : Hp} {c c' c1 : Cs} {e e' : Ev} {v vx vy : V} {u u2 x y : W}
variable {Q : W → Cs → Prop} {t : TA} {sp : SpV}
theorem repO_sh (X : Hx B G ρ c H) : ∀ {vs : List V} {us us2 : List W} {xs : List PyData}, Paired (Sh K w B G ρ H) vs us → Paired (Fr H0) vs us → repO c.length us = some (us2, xs) → us2.all W.noO = true →
    ∃ p, H0 p = none ∧ CellOk G H p (.l xs) ∧ p ∉ ρ ∧ ¬ G p ∧ ¬ B p ∧ Paired (Sh K w B G (ρ ++ [p]) H) vs us2
  | _, _, us2, xs, .nil, _, h, _ => by cases h
  | v :: vs, u :: us, us2, xs, .cons s t, .cons f g, h, hn => by
    have st : ∀ p, Stay B G ρ H G (ρ ++ [p]) H := fun p => ⟨fun _ _ _ h => h, fun _ _ _ h => h, fun _ h => h, [p], rfl⟩
    by_cases isO : ∃ zs, u = .o zs
    · obtain ⟨zs, rfl⟩ := isO
      have h2 : some (W.c c.length :: us, zs) = some (us2, xs) := h
      cases h2
      cases s with
      | o a r gg b n =>
        obtain ⟨p', e1, e2⟩ := f
        cases e1
        refine ⟨_, e2, .l a r, n, gg, b, .cons (.c ?_) (shs_stay (st _) ?_ t)⟩
        · rw [← X.len]; simp
        · rw [List.all_cons, Bool.and_eq_true] at hn; exact hn.2
    · have h2 : (repO c.length us).map (fun r => (u :: r.1, r.2)) = some (us2, xs) := by
        unfold repO at h
        split at h
        · exact absurd ⟨_, rfl⟩ isO
        · exact h
      obtain ⟨⟨us3, zs⟩, h3, h4⟩ := Option.map_eq_some_iff.mp h2
      cases h4
      rw [List.all_cons, Bool.and_eq_true] at hn
      obtain ⟨p, p1, p2, p3, p4, p5, p6⟩ := repO_sh X t g h3 hn.2
      exact ⟨p, p1, p2, p3, p4, p5, .cons ((st p).sh s hn.1) p6⟩
theorem v_callO {E0' : XK} (h : VA K w t e c fun us c1 => (∃ k us' x', fstC us = some k ∧ trs1 c1 k us = some us' ∧ c1[k]? = some x' ∧ sp us' [x'] fun u c' => u.res = true ∧ ∀ y, c' = [y] → Q u (c1.set k y)) ∨
    (∃ us2 xs us', repO c1.length us = some (us2, xs) ∧ us2.all W.noO = true ∧ trs1 (c1 ++ [.l xs]) c1.length us2 = some us' ∧ sp us' [.l xs] fun u c' => u.res = true ∧ ∀ y, c' = [y] → ∃ y', (c1 ++ [Cell.l xs]).set c1.length y = c1 ++ [y'] ∧ u.res = true ∧ Q u c1)) : VE K w (tCall (liftC K w sp) [] E0' t) e c Q := by
  intro B G ρ σ H T X S kt
  refine h B G ρ σ H _ X S fun us vs c1 G1 ρ1 H1 E1 X1 s1 f1 d1 q => ?_
  rw [List.append_nil]
  rcases q with ⟨k, us', x', _, hu, hx, q1⟩ | ⟨us2, xs, us', hr, hn, hu, q1⟩
  · exact lift1 kt E1 X1 s1 hu hx q1
  · obtain ⟨p, p1, p2, p3, p4, p5, p6⟩ := repO_sh X1 s1 f1 hr hn
    have X2 := X1.cell p2 p3 p4 p5
    have E2 := Ext.cell E1 p1
    refine lift1 (k := c1.length) (x' := .l xs) (Q := fun u c' => ∃ y', c' = c1 ++ [y'] ∧ u.res = true ∧ Q u c1) (fun u v c' G' ρ' H' E X s f ⟨y', ec, hres, qq⟩ => ?_) E2 X2 p6 hu (by simp) q1
    subst ec
    obtain ⟨ys, rfl, hy⟩ := E.pre
    obtain ⟨zs, hz, _⟩ := E1.pre
    have l1 : ρ.length ≤ c1.length := by rw [← X1.len, hz, List.length_append]; omega
    have tk : (ρ ++ ys).take c1.length = ρ ++ ys.take (c1.length - ρ.length) := by rw [List.take_append, List.take_of_length_le l1]
    have pt := paired_take c1.length X.cells
    rw [List.take_left' rfl, tk] at pt
    have sub : ∀ q, q ∈ ρ ++ ys.take (c1.length - ρ.length) → q ∈ ρ ++ ys := fun q h => by rw [← tk] at h; exact List.mem_of_mem_take h
    have X3 : Hx B G' (ρ ++ ys.take (c1.length - ρ.length)) c1 H' := ⟨by rw [← tk]; exact X.nd.sublist (List.take_sublist _ _), fun q h => X.av q (sub q h), fun q h => X.avb q (sub q h), X.live, X.liveb, pt⟩
    have E3 : Ext G ρ H G' (ρ ++ ys.take (c1.length - ρ.length)) H' := ⟨E.kp, E.tr, ⟨_, rfl, fun y h => hy y (List.mem_of_mem_take h)⟩, E.gr, E.nw⟩
    refine kt u v c1 G' _ H' E3 X3 ?_ f qq
    cases s with
    | d s => exact .d s
    | o a r g b n => exact .o a r g b fun z => n (sub _ z)
    | dm a r g => exact .dm a r g
    | od a r g b n => exact .od a r g b fun z => n (sub _ z)
    | _ => cases hres
theorem c1_cL {us us' : List W} {k : Nat} {x : Cell} {P : Nat → List W → Cell → Prop} {R : Prop} (h0 : fstC us = some k) (h1 : trs1 c k us = some us') (hx : c[k]? = some x) (q : P k us' x) : (∃ k us' x', fstC us = some k ∧ trs1 c k us = some us' ∧ c[k]? = some x' ∧ P k us' x') ∨ R := .inl ⟨k, us', x, h0, h1, hx, q⟩
end
end Gd
namespace Gd
open PySem PySem.Spec PyProof.Rows L2
end Gd
namespace Gd
open PySem PySem.Spec PyProof.Rows L2
end Gd
namespace Gd
open PySem PySem.Spec PyProof.Rows L2
end Gd
namespace Gd
open PySem PySem.Spec PyProof.Rows L2
/-- a row of two texts that can be shown -/
def RowOk (s : Str × Str) : Prop := s.1.length ≤ 12 ∧ (∀ c ∈ tl s.1, c < 1114112) ∧ s.2.length ≤ 26 ∧ (∀ c ∈ tl s.2, c < 1114112)
theorem RowOk.str {s : Str × Str} (h : RowOk s) : PyData.strOk s.1 = true ∧ PyData.strOk s.2 = true := ⟨(strOk_iff _).mpr h.2.1, (strOk_iff _).mpr h.2.2.2⟩
end Gd
namespace Gd
open PySem PySem.Spec PyProof.Rows L2
end Gd
namespace Gd
open PySem PySem.Spec PyProof.Rows L2
end Gd
namespace Gd
open PySem PySem.Spec PyProof.Rows L2
end Gd
namespace Gd
open PySem PySem.Spec PyProof.Rows L2
end Gd
namespace Gd
open PySem PySem.Spec PyProof.Rows L2
end Gd
namespace Gd
open PySem PySem.Spec PyProof.Rows L2
end Gd
namespace Gd
open PySem PySem.Spec PyProof.Rows L2
end Gd
namespace Gd
open PySem PySem.Spec PyProof.Rows L2
end Gd
namespace Gd
open PySem PySem.Spec PyProof.Rows L2
end Gd
namespace Gd
open PySem PySem.Spec PyProof.Rows L2
end Gd
namespace Gd
open PySem PySem.Spec PyProof.Rows L2
/-- a sign of each row, in their order -/
inductive ChL : List (Str × Str) → List (Str × Str) → Prop
  | nil : ChL [] []
  | cons {p s : Str × Str} {rs st : List (Str × Str)} {a : Nat} (h : s = (p.1, ⟨#[a]⟩)) (m : a ∈ tl p.2) (t : ChL rs st) : ChL (p :: rs) (s :: st)
theorem ChL.len {rs st : List (Str × Str)} (h : ChL rs st) : rs.length = st.length := by
  induction h with
  | nil => rfl
  | cons _ _ _ ih => simp [ih]
end Gd
namespace Gd
open PySem PySem.Spec PyProof.Rows L2
end Gd
namespace Gd
open PySem PySem.Spec PyProof.Rows L2
end Gd
namespace Gd
open PySem PySem.Spec PyProof.Rows L2
end Gd
namespace Gd
open PySem PySem.Spec PyProof.Rows L2
end Gd
namespace Gd
open PySem PySem.Spec PyProof.Rows L2
end Gd
namespace Gd
open PySem PySem.Spec PyProof.Rows L2
end Gd
namespace Gd
open PySem PySem.Spec PyProof.Rows L2
end Gd
namespace Gd
open PySem PySem.Spec PyProof.Rows L2
structure GF (P : Program) (w : World) (K : PySem.W.Frag) (mg : Str → Option Value) (base : Heap) (k : Nat) (x : Str) (sp : Sp) : Prop where
  ex : ∃ (f : Addr) (fd : FuncData) (ps : List Str), mg x = some (.ref f) ∧ PySem.W.keepIn K (.ref f) = true ∧ Binds K fd ps [] ∧ FnOk P w K mg base CX0 k f fd ps sp
section
variable {X : Cx} {k j : Nat} {sp : Sp} {x : Str} {p pos : Pos} {e : Expr} {es : List Expr} {t : TA}
theorem pe_fc (cc : GF X.prog X.w X.K X.mg X.base k x sp) (hr : Room j X.A) (hk : k ≤ j) (hg : Gl X x) (ha : PA X (e :: es) t)
    (hdb : (x == ("__debug__" : Str)) = false := by decide) (he : starEach (e :: es) X.env = (false, eval e X.env) :: starEach es X.env := by rfl)
    (hpl : (backTo pos (starEach es X.env)).any (·.1) = false := by rfl) : PE X (.Call (.Name x p) (e :: es) [] pos) (tCall sp [] E0 t) := by
  obtain ⟨f, fd, ps, h1, h2, h3, h4⟩ := cc.ex
  exact pe_call h4 (hr.mono hk) hg h1 h2 h3 .nil pass0 ha hdb he hpl
end
section
variable {P : Program} {w : World} {K : PySem.W.Frag} {mg : Str → Option Value} {base : Heap} {k : Nat} {f : Addr} {fd : FuncData} {ps N : List Str}
theorem FnOk.mk' {sp : Sp} {x qual : Str} {st : Stmt} (F : Fun K x qual st f fd) (S : FnScope N ps (defScope st))
    (len : ∀ vs H Q E, sp vs H Q E → vs.length = ps.length)
    (body : ∀ (cdv : Value) (A : Around) (outer : List Env) (s : Shared) (H : Hp) (vs : List V) (Q : VK) (E : XK),
      Room k (A.deeper (envOfC qual (defScope st) s.heap.objs.size f cdv)) → sp vs H Q E →
      ∃ t, PSs (cxOf CX0 P w K mg base N qual (defScope st) f cdv A outer s H E).nox (defBody st) t ∧
        t { nx := fun _ H' => Q .non H', rt := Q } (start N vs) H) :
    FnOk P w K mg base CX0 (k + 1) f fd ps sp := by
  obtain ⟨oc, od, kV, doc, pm, an, cdv, ct, osl, rfl, lk, hcd⟩ := F.ex
  refine ⟨len, fun A outer s H args us vs Q E hr e0 hb r hsp => ?_⟩
  have hl := len _ _ _ _ hsp
  have hK : K.In s.heap := e0.mod.kin.keeps fun b o e => (e0.bs b o e).1
  have hlim : s.heap.NoLimit := e0.mod.nolimit.keeps fun b o e => (e0.bs b o e).1
  have kinds : ∀ y ∈ ps.zip us, (defScope st).names.lookup y.1 = some .local ∨
      ((defScope st).names.lookup y.1 = some .cell ∧
        ((cellsFrom (s.heap.objs.size + 1) (defScope st).names []).lookup y.1).isSome = true) := by
    rintro ⟨n, v⟩ hy
    rcases S.par n (List.of_mem_zip hy).1 with q | q
    · exact .inl q
    · exact .inr ⟨q, PySem.W.cellsFrom_some _ _ _ (.inl q)⟩
  refine codeAny_call_function hr.depth (hK _ _ lk) rfl S.co S.gen rfl (PySem.W.codeRec_of hK hcd) (hb _ _ _ _ ?_)
  refine wpAny_newFunctionEnv_cells S.kind kinds fun env he s1 x => ?_
  subst he
  refine ⟨hlim.keeps x.toInCall.keep, codeAny_func ?_⟩
  obtain ⟨t, ht, hq⟩ := body cdv A outer s H vs Q E (hr.deeper _) hsp
  have I := inv_start (CX := CX0) (P := P) (mg := mg) (E := E) S hr.hd e0 hl r x
  refine wpAny_mono (ht.nox.run [] s1 (start N vs) H _ I hq) (fun fl s' hs => ?_) fun e s' hs => hs
  cases fl with
  | ret u =>
    obtain ⟨v, σ', H', J, rv, q⟩ := hs
    exact ⟨v, H', J.os, J.bare, J.base, J.hok, rv, q⟩
  | next =>
    obtain ⟨σ', H', J, q⟩ := hs
    exact ⟨V.non, H', J.os, J.bare, J.base, J.hok, rfl, q⟩
  | brk =>
    obtain ⟨_, _, _, q⟩ := hs
    exact False.elim q
  | cont =>
    obtain ⟨_, _, _, q⟩ := hs
    exact False.elim q
theorem FnOk.v {sp : SpV} {x qual : Str} {st : Stmt} (F : Fun K x qual st f fd) (S : FnScope N ps (defScope st))
    (len : ∀ us c Q, sp us c Q → us.length = ps.length)
    (body : ∀ (cdv : Value) (A : Around) (outer : List Env) (s : Shared) (H : Hp) (E : XK) (us : List W) (c : Cs) (Q : W → Cs → Prop),
      Room k (A.deeper (envOfC qual (defScope st) s.heap.objs.size f cdv)) → sp us c Q →
      ∃ t, PSs (cxOf CX0 P w K mg base N qual (defScope st) f cdv A outer s H E).nox (defBody st) t ∧
        VS K w t (startE N us) c { nx := fun _ c' => rtn c.length Q (.d .none) c', rt := rtn c.length Q }) :
    FnOk P w K mg base CX0 (k + 1) f fd ps (lift K w sp) := by
  refine FnOk.mk' F S (fun vs H Q E h => ?_) (fun cdv A outer s H vs T E hr h => ?_)
  · obtain ⟨B, G, ρ, c, us, Q, X, sh, no, h, _⟩ := h
    rw [Paired.length sh]
    exact len us c Q h
  · obtain ⟨B, G, ρ, c, us, Q, X, sh, no, h, fin⟩ := h
    obtain ⟨t, h1, h2⟩ := body cdv A outer s H E us c Q hr h
    have kt := kt_rtn c.length X.len fin
    refine ⟨t, h1, h2 B G ρ (L2.start N vs) H _ X (sl_start sh no) ⟨fun e' c' σ' G' ρ' H' E' X' S' q => ?_, kt, fun _ _ _ _ _ _ _ _ _ q => q, fun _ _ _ _ _ _ _ _ _ q => q, fun _ _ _ _ _ _ _ _ _ _ _ _ _ q => q.elim⟩⟩
    exact kt _ _ _ _ _ _ E' X' (.d .non) trivial q
end
end Gd
namespace Gd
open PySem PySem.Spec PyProof.Rows L2
end Gd
namespace Gd
open PySem PySem.Spec PyProof.Rows L2
section
variable {K : PySem.W.Frag} {w : World} {e : Ev} {c : Cs} {Q : W → Cs → Prop} {ta tb tc td : TE} {r r' r'' : R2}
theorem v_chain2 (h : VE K w ta e c fun x c1 => x.noO = true ∧ VE K w tb e c1 fun y c2 => y.noO = true ∧ V2 K w r x y c2 fun z c3 => ∃ k, z = .d (.bool k) ∧
    (if k = true then VE K w tc e c3 fun w' c4 => w'.noO = true ∧ V2 K w r' y w' c4 Q else Q (.d (.bool false)) c3)) :
    VE K w (tChain r r' ta tb tc) e c Q := by
  intro B G ρ σ H T X S k
  refine h B G ρ σ H _ X S fun x vx c1 G1 ρ1 H1 E1 X1 s1 f1 ⟨nx, q1⟩ => ?_
  refine q1 B G1 ρ1 σ H1 _ X1 (E1.sl X S) fun y vy c2 G2 ρ2 H2 E2 X2 s2 f2 ⟨ny, q2⟩ => ?_
  refine q2 B G2 ρ2 H2 G2 ρ2 H2 vx vy _ .refl X2 (E2.sh X1 s1) s2 (fr_noO nx) (fr_noO ny) fun z vz c3 G3 ρ3 H3 E3 X3 s3 f3 ⟨kk, ez, q3⟩ => ?_
  have E13 := (E1.trans E2).trans E3
  subst ez
  cases s3 with
  | d s3 =>
    cases s3
    refine ⟨kk, rfl, ?_⟩
    cases kk with
    | false =>
      rw [if_neg (by decide)] at q3 ⊢
      exact k.d E13 X3 (.bl _) q3
    | true =>
      rw [if_pos rfl] at q3 ⊢
      refine q3 B G3 ρ3 σ H3 _ X3 (E13.sl X S) fun w' vw c4 G4 ρ4 H4 E4 X4 s4 f4 ⟨nw, q4⟩ => ?_
      refine q4 B G4 ρ4 H4 G4 ρ4 H4 vy vw _ .refl X4 (E4.sh X3 (E3.sh X2 s2)) s4 (fr_noO ny) (fr_noO nw) fun z2 vz2 c5 G5 ρ5 H5 E5 X5 s5 f5 q5 => ?_
      exact k _ _ _ _ _ _ ((E13.trans E4).trans E5) X5 s5 ((E13.trans E4).fr f5) q5
end
end Gd
namespace Gd
open PySem PySem.Spec PyProof.Rows L2
end Gd
namespace Gd
open PySem PySem.Spec PyProof.Rows L2
def keyI (e : Int × Value) : Int := match e.2 with
  | .int x _ => x
  | _ => 0
def GoodI (w : World) (e : Int × Value) : Prop := ∃ x tk, e.2 = Value.int x tk ∧ e.1 = hashInt x
/-- the set of texts at a: ks its members, in some order, each once -/
def SetI (w : World) (h : Heap) (a : Addr) (ks : List Int) : Prop :=
  ∃ o es ep t, h.get? a = some o ∧ o.ExactSet ∧ o.data = .set es ep t ∧ (∀ e ∈ es.toList, GoodI w e) ∧
    (es.toList.map keyI).Perm ks ∧ ks.Nodup ∧ es.size < scanBound ∧ t.fits es.size = true ∧
    Ris t.place.toList ∧ (w.params.followText "set-order" = true ∨ t.led = true)
section
variable {P : Program} {w : World} {A : Around} {E : Value → Shared → Prop} {s : Shared} {h h' : Heap} {a : Addr} {ks : List Int}
theorem SetI.at (R : SetI w h a ks) (k : ∀ o, h.get? a = some o → h'.get? a = some o) : SetI w h' a ks := by
  obtain ⟨o, es, ep, t, ho, r⟩ := R
  exact ⟨o, es, ep, t, k o ho, r⟩
end
end Gd
namespace Gd
open PySem PySem.Spec PyProof.Rows L2
end Gd
namespace Gd
open PySem PySem.Spec PyProof.Rows L2
/-- from here on the dict changes no more -/
def tFrz (t : TE) : TE := fun σ H Q => t σ H fun v H1 => ∃ a kvs, v = .ref a ∧ H1 a = some (.dK kvs) ∧ ∀ od, Q v (upd H1 a (.frz od (.dK kvs)))
theorem PE.frz {X : Cx} {ex : Expr} {t : TE} (h : PE X ex t) : PE X ex (tFrz t) := by
  refine ⟨fun pins s σ H Q I q => ?_⟩
  refine thn (h.run pins s σ H _ I q) fun u s1 ⟨v, H1, I1, rv, a, kvs, ev, ha, q1⟩ => ?_
  subst ev
  obtain ⟨od, I2⟩ := I1.lock ha trivial
  exact ⟨_, _, I2, rv, q1 od⟩
end Gd
namespace Gd
open PySem PySem.Spec PyProof.Rows L2
end Gd
namespace Gd
open PySem PySem.Spec PyProof.Rows L2
end Gd
namespace Gd
open PySem PySem.Spec PyProof.Rows L2
end Gd
namespace Gd
open PySem PySem.Spec PyProof.Rows L2
end Gd
namespace Gd
open PySem PySem.Spec PyProof.Rows L2
end Gd
namespace Gd
open PySem PySem.Spec PyProof.Rows L2
end Gd
namespace Gd
open PySem PySem.Spec PyProof.Rows L2
end Gd
namespace Gd
open PySem PySem.Spec PyProof.Rows L2
end Gd
namespace Gd
open PySem PySem.Spec PyProof.Rows L2
section
variable {K : PySem.W.Frag} {w : World} {B G G' G'' G0 : Addr → Prop} {ρ ρ' ρ'' ρ0 : List Addr} {H H' H'' H0 : Hp} {c c' : Cs} {σ : L2.St} {e e' : Ev}
variable {Q : W → Cs → Prop} {te1 te : TE} {t : TA} {i j : Nat} {ws ws1 : List Nat}
/-- D stands apart, a set -/
structure Apt (w : World) (B : Addr → Prop) (G1 : Addr → Prop) (ρ1 : List Addr) (H1 : Hp) (c1 : Cs) (D : Addr) (L : List Str) (G' : Addr → Prop) (ρ' : List Addr) (H' : Hp) : Prop where
  ext : Ext G1 ρ1 H1 G' ρ' H'
  hx : Hx B G' ρ' c1 H'
  at_ : H' D = some (SetTO w D (dedT L))
  ng : ¬ G' D
  nb : ¬ B D
  nr : D ∉ ρ'
theorem Apt.go {G1 : Addr → Prop} {ρ1 : List Addr} {H1 : Hp} {D : Addr} {L : List Str} (a : Apt w B G1 ρ1 H1 c D L G ρ H) (E : Ext G ρ H G' ρ' H') (X : Hx B G' ρ' c H') : Apt w B G1 ρ1 H1 c D L G' ρ' H' :=
  ⟨a.ext.trans E, X, E.kp _ _ a.at_ a.nr, fun z => (E.nw _ z).elim a.ng fun z => (by rw [a.at_] at z; cases z), a.nb, E.nin a.at_ a.nr⟩
end
end Gd
namespace Gd
open PySem PySem.Spec PyProof.Rows L2
end Gd
namespace Gd
open PySem PySem.Spec PyProof.Rows L2
end Gd
namespace Gd
open PySem PySem.Spec PyProof.Rows L2
end Gd
namespace Gd
open PySem PySem.Spec PyProof.Rows L2
end Gd
namespace Gd
open PySem PySem.Spec PyProof.Rows L2
end Gd
namespace Gd
open PySem PySem.Spec PyProof.Rows L2
open Sem (wp)
open AutoSeq1 (wpAny_loadPart')
end Gd
namespace Gd
open PySem PySem.Spec PyProof.Rows L2
end Gd
namespace Gd
open PySem PySem.Spec PyProof.Rows L2
end Gd
namespace Gd
open PySem PySem.Spec PyProof.Rows L2
section
variable {K : PySem.W.Frag} {w : World} {B G G' G'' G0 : Addr → Prop} {ρ ρ' ρ'' ρ0 : List Addr} {H H' H'' H0 : Hp} {c c' : Cs} {σ : L2.St} {e e' : Ev} {v vx vy : V} {u u2 x y : W}
variable {Q : W → Cs → Prop} {D : DV} {Dh : Ends} {g : TG} {t : TA} {te tk tv td ty : TE} {tt : TT} {ts : TS} {ws : List Nat} {k : Nat} {o : Obj} {vs : List (Key × V)} {kvs : List (Key × PyData)}
def dropG (kvs : List (Key × PyData)) (k : Key) : List (Key × PyData) := kvs.filter fun kv => decide (kv.1 ≠ k)
theorem KR.drop {vs : List (Key × V)} {kvs : List (Key × PyData)} (r : KR G H vs kvs) (k : Key) : KR G H (dropK vs k) (dropG kvs k) := by
  unfold dropK dropG
  have r2 : Paired (fun (a : Key × V) (b : Key × PyData) => a.1 = b.1 ∧ Dq G H a.2 b.2) vs kvs := r
  clear r
  show Paired (fun (a : Key × V) (b : Key × PyData) => a.1 = b.1 ∧ Dq G H a.2 b.2) _ _
  induction r2 with
  | nil => exact .nil
  | @cons a b as bs q t ih =>
    rw [List.filter_cons, List.filter_cons, q.1]
    by_cases z : b.1 = k
    · rw [if_neg (by simp [z]), if_neg (by simp [z])]; exact ih
    · rw [if_pos (by simp [z]), if_pos (by simp [z])]; exact .cons q ih
end
end Gd
namespace Gd
open PySem PySem.Spec PyProof.Rows L2
end Gd
namespace Gd
open PySem PySem.Spec PyProof.Rows L2
theorem w_leS {K : PySem.W.Frag} {w : World} {c : Cs} {Q : W → Cs → Prop} {a b : Str} (q : Q (.d (.bool (decide (tl a ≤ tl b)))) c) : V2 K w uLe (.d (.str a)) (.d (.str b)) c Q := by
  have e : (!decide (tl b < tl a)) = decide (tl a ≤ tl b) := by
    rw [Bool.eq_iff_iff]
    simp
  rw [← e] at q
  exact w_ss dq_str dq_str (.bl _) (fun q => q) q
end Gd
namespace Gd
open PySem PySem.Spec PyProof.Rows L2
def clsS (s : Stmt) (j : Nat) : Stmt := match s with
  | .ClassDef _ _ _ b _ _ _ _ _ _ _ => b.getD j (.Pass ⟨0, 0, 0, 0⟩)
  | _ => .Pass ⟨0, 0, 0, 0⟩
/-- the cells of c at ks -/
def pickC (c : Cs) (ks : List Nat) : Cs := ks.filterMap fun k => c[k]?
end Gd
namespace Gd
open PySem PySem.Spec PyProof.Rows L2
/-- what of the text a class of fields must have -/
structure ClsF (K : PySem.W.Frag) (C : Addr) (L : List Str) : Prop where
  cl : Cls K C
  na : ∀ f ∈ L, NoAttr K C f
/-- C.f is the number n -/
structure ClsN (K : PySem.W.Frag) (mg : Str → Option Value) (x : Str) (C : Addr) (f : Str) (n : Int) : Prop where
  gl : mg x = some (.ref C)
  ex : ∃ mc t, ClX.CRead K C mc ∧ ClX.CVal K C mc f (.int n) (.int n t)
section
variable {X : Cx} {C : Addr} {x f : Str} {n : Int} {p pos : Pos}
def tCN (n : Int) : TE := tC (.int n)
theorem pe_clsN (h : ClsN X.K X.mg x C f n) (hg : Gl X x) (hdb : (x == ("__debug__" : Str)) = false := by decide)
    (hb : attributeBase (.Name x p) f X.env (eval (.Name x p) X.env) = eval (.Name x p) X.env := by rfl) : PE X (.Attribute (.Name x p) f pos) (tCN n) := by
  obtain ⟨mc, t, r, k⟩ := h.ex
  have hn : PE X (.Name x p) (tC (.ref C)) := pe_glob (v := .ref C) hg h.gl rfl hdb
  have hh := ClX.pe_cval (f := f) (pos := pos) hn hb
  exact ⟨fun pins s σ H Q I q => hh.run pins s σ H Q I ⟨C, mc, .int n, .int n t, rfl, r, k, q⟩⟩
end
section
variable {K : PySem.W.Frag} {w : World} {B G G' G'' G0 : Addr → Prop} {ρ ρ' ρ'' ρ0 ys : List Addr} {H H' H'' H0 : Hp} {c c' c1 cn : Cs} {σ : L2.St} {e e' : Ev} {v vx vy : V} {u u2 x y : W} {ks : List Nat}
variable {Q : W → Cs → Prop} {D : DV} {g : TG} {te ta tv to : TE} {t : TA} {sp : SpV} {P : Ev → Cs → Prop} {C : Addr} {f : Str} {L : List Str}
theorem v_clsN {n : Int} (q : Q (.d (.int n)) c) : VE K w (tCN n) e c Q := v_int q
theorem w_inWT {z : Str} {ws : List Str} (q : Q (.d (.bool (decide (z ∈ ws)))) c) : V2 K w (uIn K) (.d (.str z)) (.d (.tuple (ws.map .str))) c Q := by
  intro B G0 ρ0 H0 G ρ H vx vy T E X sx sy fx fy k
  cases sx with
  | d q1 =>
    cases q1
    cases sy with
    | d q2 =>
      cases q2 with
      | @tup a vs _ n h r =>
        rw [dql_strs r] at h
        refine ⟨ws.map V.str, .inr (SqT.of h), rfl, by rw [List.all_map]; exact List.all_eq_true.mpr fun _ _ => rfl, ?_⟩
        rw [inV_strs]
        exact k.d E X (.bl _) q
end
end Gd
namespace Gd
open PySem PySem.Spec PyProof.Rows L2
end Gd
namespace Gd
open PySem PySem.Spec PyProof.Rows L2
end Gd
namespace Gd
open PySem PySem.Spec PyProof.Rows L2
/-- the cells of c at ks are cs -/
structure ObAt (c : Cs) (ks : List Nat) (cs : Cs) : Prop where
  nd : ks.Nodup
  bd : ∀ k ∈ ks, k < c.length
  at_ : pickC c ks = cs
theorem pickC_ext {c c' : Cs} : ∀ {ks : List Nat}, (∀ k ∈ ks, c'[k]? = c[k]?) → pickC c' ks = pickC c ks
  | [], _ => rfl
  | k :: ks, h => by
    unfold pickC
    rw [List.filterMap_cons, List.filterMap_cons, h k (by simp)]
    have := pickC_ext (c := c) (c' := c') (ks := ks) fun j hj => h j (by simp [hj])
    unfold pickC at this
    rw [this]
section
variable {c cs cs' new : Cs} {ks : List Nat}
theorem ObAt.app (O : ObAt c ks cs) (new : Cs) : ObAt (c ++ new) ks cs :=
  ⟨O.nd, fun k hk => by rw [List.length_append]; have := O.bd k hk; omega, by
    rw [← O.at_]
    exact pickC_ext fun k hk => List.getElem?_append_left (O.bd k hk)⟩
theorem ObAt.set (O : ObAt c ks cs) {j : Nat} (n : j ∉ ks) (x : Cell) : ObAt (c.set j x) ks cs :=
  ⟨O.nd, fun k hk => by rw [List.length_set]; exact O.bd k hk, by
    rw [← O.at_]
    exact pickC_ext fun k hk => List.getElem?_set_ne fun z => n (by rw [z]; exact hk)⟩
end
end Gd
namespace Gd
open PySem PySem.Spec PyProof.Rows L2
end Gd
namespace Gd
open PySem PySem.Spec PyProof.Rows L2
structure SMet (K : PySem.W.Frag) (C : Addr) (m : Str) (p g : Addr) : Prop where
  at_ : PySem.W.findCls K (.ref C) (.type "type") m = some (.get (.builtin "staticmethod.__get__") (.ref p) .none (.ref C))
  rc : ∃ rest, PySem.W.recIn K p "staticmethod" = some (.ref g :: rest)
  kp : PySem.W.keepIn K (.ref g) = true
structure GSM (P : Program) (w : World) (K : PySem.W.Frag) (mg : Str → Option Value) (base : Heap) (k : Nat) (x : Str) (C : Addr) (m : Str) (ks : List Str) (sp : Sp) : Prop where
  gl : mg x = some (.ref C)
  ex : ∃ (p g : Addr) (fd : FuncData) (ps : List Str), ClX.CRead K C (.type "type") ∧ SMet K C m p g ∧ Binds K fd ps [] ∧ (∀ (s : Shared) (ws : List Value), K.In s.heap → ws.length = ks.length → BindsTo s fd ⟨[], ks.zip ws⟩ (ps.zip ws)) ∧ FnOk P w K mg base CX0 k g fd ps sp ∧ ps.length = ks.length
section
variable {X : Cx} {k j : Nat} {C p g : Addr} {sp : Sp} {x m : Str} {np pos apos : Pos} {e : Expr} {es : List Expr} {kws : List Keyword} {ks : List Str} {t tk : TA} {pl : Sem Bool}
variable {pins : List (Addr × Obj)} {σ : L2.St} {H : Hp} {s : Shared} {A : Around} {E : Value → Shared → Prop}
theorem getmethsm_ok {Q : Value × List Value → Shared → Prop} (I : Inv X pins σ H s) (r : ClX.CRead X.K C (.type "type")) (c : SMet X.K C m p g)
    (h : ∀ s', Inv X pins σ H s' → Q (.ref g, []) s') : wpAny (model X.prog X.w) A (getMethod (.ref C) m pl) Q E s := by
  obtain ⟨rest, hp⟩ := c.rc
  refine PySem.W.method_cls I.kIn r.ga ?_
  refine PySem.W.cls_bind I.kIn r.rd c.at_ ?_
  refine wpAny_call (PySem.W.sm_get (s := { s with toks := s.toks + 1 }) I.kIn hp (PySem.W.handed_on rfl ?_))
  exact h _ (I.tok _)
theorem pe_gsm (cm : GSM X.prog X.w X.K X.mg X.base k x C m ks sp) (hr : Room j X.A) (hk : k ≤ j) (hg : Gl X x) (ha : PA X (e :: es) t) (hdb : (x == ("__debug__" : Str)) = false := by decide)
    (hst : starEach (e :: es) X.env = (false, eval e X.env) :: starEach es X.env := by rfl) (hpl : (backTo pos (starEach es X.env)).any (·.1) = false := by rfl)
    (ht : eval (.Call (.Attribute (.Name x np) m apos) (e :: es) [] pos) X.env = (do
      let ov ← eval (.Name x np) X.env
      standAt apos.atName
      let (f, first) ← holding [ov] (getMethod ov m pl)
      callWith pos f first (backTo pos (starEach (e :: es) X.env)) (backToKw pos (keywordEach [] X.env))) := by rfl) :
    PE X (.Call (.Attribute (.Name x np) m apos) (e :: es) [] pos) (tCall sp [] E0 t) := by
  obtain ⟨p, g, fd, ps, r, c, hb, _, F, _⟩ := cm.ex
  have ho : PE X (.Name x np) (tC (.ref C)) := pe_glob (v := .ref C) hg cm.gl rfl hdb
  refine ⟨fun pins s σ H Q I h => ?_⟩
  refine PySem.W.methodCall_KW (pl := pl) (thn (ho.run pins s σ H (fun v H1 => v = .ref C ∧ H1 = H) I ⟨rfl, rfl⟩) fun u s1 ⟨v, H1, I1, rx, ex, eh⟩ => ?_) ht
  subst ex eh
  obtain rfl : u = Value.ref C := rx
  refine getmethsm_ok I1 r c fun s2 I2 => ?_
  refine PySem.W.callWith_K (h₀ := X.base) I.ok.mod.kin c.kp (thn (ha.run pos pins s2 σ H1 _ I2 h) fun us s3 ⟨vs, H2, I3, rv, q⟩ => ⟨I3.kIn, ?_⟩) hst hpl
  exact run_fn F (hr.mono hk) hb .nil pass0 I3 rv q
theorem pe_gsmk (cm : GSM X.prog X.w X.K X.mg X.base k x C m ks sp) (hr : Room j X.A) (hk : k ≤ j) (hg : Gl X x) (hkw : PK X kws tk) (hdb : (x == ("__debug__" : Str)) = false := by decide)
    (hall : (backToKw pos (keywordEach kws X.env)).all (·.1.isSome) = true := by rfl)
    (hks : (backToKw pos (keywordEach kws X.env)).filterMap (·.1) = ks := by rfl)
    (hpl : ((backTo pos (starEach [] X.env)).any (·.1) || (backToKw pos (keywordEach kws X.env)).any (·.1.isNone)) = false := by rfl)
    (ht : eval (.Call (.Attribute (.Name x np) m apos) [] kws pos) X.env = (do
      let ov ← eval (.Name x np) X.env
      standAt apos.atName
      let (f, first) ← holding [ov] (getMethod ov m pl)
      callWith pos f first (backTo pos (starEach [] X.env)) (backToKw pos (keywordEach kws X.env))) := by rfl) :
    PE X (.Call (.Attribute (.Name x np) m apos) [] kws pos) (tCall sp [] E0 tk) := by
  obtain ⟨p, g, fd, ps, r, c, _, hb, F, pl1⟩ := cm.ex
  have ho : PE X (.Name x np) (tC (.ref C)) := pe_glob (v := .ref C) hg cm.gl rfl hdb
  refine ⟨fun pins s σ H Q I h => ?_⟩
  refine PySem.W.methodCall_KW (pl := pl) (thn (ho.run pins s σ H (fun v H1 => v = .ref C ∧ H1 = H) I ⟨rfl, rfl⟩) fun u s1 ⟨v, H1, I1, rx, ex, eh⟩ => ?_) ht
  subst ex eh
  obtain rfl : u = Value.ref C := rx
  refine getmethsm_ok I1 r c fun s2 I2 => ?_
  refine PySem.W.callWith_KW0 (h₀ := X.base) I.ok.mod.kin c.kp hall (thn (hkw.run pos pins s2 σ H1 _ I2 h) fun ws s3 ⟨zs, H2, I3, rz, q2⟩ => ⟨I3.kIn, ?_⟩) hpl
  rw [hks]
  have q2 : sp (zs ++ []) H2 Q E0 := q2
  rw [List.append_nil] at q2
  have hl : ws.length = ks.length := by
    have e := F.len _ _ _ _ q2
    rw [pl1] at e
    have := rz.length
    omega
  refine wpAny_call (codeAny_mono (F.run X.A X.stack s3 H2 ⟨[], ks.zip ws⟩ ws zs Q E0 (hr.mono hk) I3.env0 (hb s3 ws I3.kIn hl) rz q2) fun c s' hq => ?_)
  match c, hq with
  | .ok (.ret u), hq => exact I3.after hq
  | .ok .next, hq => exact hq.elim
  | .ok .brk, hq => exact hq.elim
  | .ok .cont, hq => exact hq.elim
  | .error e, hq => exact pass0 (X := X) pins σ H2 s3 e s' I3 hq
end
end Gd
namespace Gd
open PySem PySem.Spec PyProof.Rows L2
def tDNewD : TE := tDNewK
theorem PE.as_dd {X : Cx} {e : Expr} (h : PE X e tDNewK) : PE X e tDNewD := h
section
variable {K : PySem.W.Frag} {w : World} {c : Cs} {e : Ev} {Q : W → Cs → Prop}
theorem v_dnewD (q : Q (.d (.dict [])) c) : VE K w tDNewD e c Q := by
  intro B G ρ σ H T X S k p n
  exact k _ _ _ _ _ _ ((Ext.new n).data n) ((X.new n).data (by rw [upd_same]; simp) fun z => X.trk z n) (.d (.d0 (.inr rfl) upd_same)) trivial q
end
theorem str_one {z : Str} (h : z.length = 1) : ∃ a, z = ⟨#[a]⟩ := by
  obtain ⟨⟨l⟩⟩ := z
  have h : l.length = 1 := h
  match l, h with
  | [a], _ => exact ⟨a, rfl⟩
theorem le_one (a b : Nat) : decide (tl (⟨#[a]⟩ : Str) ≤ tl (⟨#[b]⟩ : Str)) = decide (a ≤ b) := by
  show decide ([a] ≤ [b]) = _
  have : ([a] ≤ [b]) ↔ a ≤ b := by
    rw [List.cons_le_cons_iff]
    constructor
    · rintro (h | ⟨h, _⟩)
      · exact Nat.le_of_lt h
      · exact Nat.le_of_eq h
    · intro h
      rcases Nat.lt_or_eq_of_le h with h | h
      · exact .inl h
      · exact .inr ⟨h, List.nil_le _⟩
  simp [this]
end Gd
open PySem PySem.Spec PyProof.Rows L2 Gd
local macro_rules | `(tactic| walk_at "sz") => `(tactic| first
  | assumption
  | (rw [sizeLine_eq]; simp only [List.length_cons, List.length_nil, List.length_map, List.length_append]; omega)
  | (rw [sizeLine_eq]; omega)
  | (rw [sizeLine_eq]; decide +kernel))
local macro_rules | `(tactic| walk_at "lv") => `(tactic| first
  | assumption
  | exact .b
  | exact .d
  | exact .o
  | exact .s
  | exact .c rfl
  | exact .c (by assumption)
  | exact .ca rfl)
local macro_rules | `(tactic| walk_at "v1") => `(tactic| first
  | ((with_reducible refine' v_var ?k1 ?_); (case k1 => exact rfl))
  | with_reducible refine v_int ?_
  | with_reducible refine v_str ?_
  | with_reducible refine v_bl ?_
  | with_reducible refine v_non ?_
  | with_reducible refine v_ty ?_
  | with_reducible refine v_op ?_
  | with_reducible refine v_cb ?_
  | with_reducible refine v_cons ?_
  | with_reducible refine v_nil ?_
  | with_reducible refine v_call0 ?_
  | with_reducible refine v_callO ?_
  | with_reducible refine v_seq ?_
  | with_reducible refine v_asg ?_
  | with_reducible refine v_next ?_
  | with_reducible refine v_ret ?_
  | with_reducible refine v_ifs ?_
  | with_reducible refine v_test ?_
  | with_reducible refine v_tru ?_
  | with_reducible refine v_tor ?_
  | with_reducible refine v_tnot ?_
  | with_reducible refine v_yes ?_
  | with_reducible refine v_andT ?_
  | with_reducible refine v_orT ?_
  | with_reducible refine v_lst ?_
  | with_reducible refine v_chain2 ?_
  | with_reducible refine v_tup ?_
  | with_reducible refine v_sl ?_
  | with_reducible refine v_part ?_
  | with_reducible refine v_nopart ?_
  | with_reducible refine v_m1 ?_
  | with_reducible refine v_dnewD ?_
  | with_reducible refine v_clsN ?_
  | with_reducible refine v_for1 ?_
  | with_reducible refine v_forE ?_
  | with_reducible refine v_lcU ?_
  | with_reducible refine v_lc1 ?_
  | with_reducible refine v_nx ?_
  | with_reducible refine v_rt ?_
  | with_reducible refine v_pturn ?_
  | with_reducible refine v_turn ?_
  | with_reducible refine v_gC ?_
  | with_reducible refine v_gnameD ?_
  | ((with_reducible refine' v_gname ?k1 ?_); (case k1 => exact rfl))
  | ((with_reducible refine' v_gtup ?k1 ?_); (case k1 => exact rfl))
  | with_reducible refine v_gcons ?_
  | with_reducible refine v_gnil ?_
  | ((with_reducible refine' v_gset ?k1 ?_); (case k1 => exact rfl))
  | with_reducible refine rtn_d ?_
  | with_reducible refine rtn_o ?_
  | with_reducible refine res_d ?_
  | with_reducible refine res_o ?_
  | with_reducible refine b_c ?_
  | with_reducible refine i_c ?_
  | with_reducible refine s_c ?_
  | with_reducible refine t_bl ?_
  | ((with_reducible refine' l_c ?k1 ?k2 ?_); (case k1 => exact rfl); (case k2 => rw [sizeLine_eq]; exact Nat.le_of_ble_eq_true rfl))
  | with_reducible refine z_d ?_
  | ((with_reducible refine' c0_c ?k1 ?_); (case k1 => exact rfl))
  | ((with_reducible refine' c1_cL ?k1 ?k2 ?k3 ?_); (case k1 => exact rfl); (case k2 => exact rfl); (case k3 => exact rfl))
  | ((with_reducible refine' gs_c ?k1 ?k2 ?_); (case k1 => exact rfl); (case k2 => exact rfl))
  | with_reducible refine set_c ?_
  | with_reducible refine iteT ?_
  | with_reducible refine iteF ?_
  | with_reducible refine ite_nt ?_
  | with_reducible refine w_addI ?_
  | with_reducible refine w_subI ?_
  | with_reducible refine w_eqIs ?_
  | with_reducible refine w_eqI ?_
  | with_reducible refine w_eqS ?_
  | with_reducible refine w_gtI ?_
  | with_reducible refine w_leS ?_
  | with_reducible refine w_intB ?_
  | with_reducible refine w_max2 ?_
  | with_reducible refine w_inS ?_
  | ((with_reducible refine' w_mod ?k1 ?_); (case k1 => first | assumption | decide | omega))
  | ((with_reducible refine' w_div ?k1 ?k2 ?_); (case k1 => first | assumption | decide | omega); (case k2 => first | assumption | decide))
  | ((with_reducible refine' w_mulI ?k1 ?_); (case k1 => first | exact Or.inl (Or.inl ⟨by decide, by decide⟩) | exact Or.inl (Or.inr ⟨by decide, by decide⟩)))
  | ((with_reducible refine' w_pow ?k1 ?_); (case k1 => exact ⟨by decide, by decide⟩))
  | ((with_reducible refine' w_mulS ?k1 ?k2 ?k3 ?_); (case k1 => first | assumption | omega | decide); (case k2 => first | assumption | omega | decide); (case k3 => first | assumption | decide))
  | ((with_reducible refine' w_slL ?k1 ?_); (case k1 => walk_at "lv"))
  | ((with_reducible refine' w_lenS ?k1 ?_); (case k1 => walk_at "sz"))
  | ((with_reducible refine' w_addL ?k1 ?k2 ?k3 ?_); (case k1 => walk_at "lv"); (case k2 => walk_at "lv"); (case k3 => walk_at "sz"))
  | ((with_reducible refine' w_ixL ?k1 ?k2 ?_); (case k1 => walk_at "lv"); (case k2 => exact rfl))
  | with_reducible refine w_isiT (.str _) ?_
  | with_reducible refine w_isiT (.int _) ?_
  | with_reducible refine w_isiT (.bl _) ?_
  | with_reducible refine w_isiT (.tup _) ?_
  | ((with_reducible refine' w_isiT (.lst ?k1) ?_); (case k1 => walk_at "lv"))
  | ((with_reducible refine w_isiF (.str _) ?_ ?_); · decide)
  | ((with_reducible refine w_isiF (.int _) ?_ ?_); · decide)
  | ((with_reducible refine w_isiF (.bl _) ?_ ?_); · decide)
  | ((with_reducible refine w_isiF .non ?_ ?_); · decide)
  | ((with_reducible refine w_isiF (.tup _) ?_ ?_); · decide)
  | ((with_reducible refine' w_isiF (.lst ?k1) ?k2 ?_); (case k1 => walk_at "lv"); (case k2 => decide)))
local macro_rules | `(tactic| walk_at "go") => `(tactic| repeat (walk_at "v1"))
open PySem PySem.Spec PyProof.Rows L2 Gd
namespace My
open PySem PySem.Spec PyProof.Rows L2 Gd
def topS (i : Nat) : Stmt := PySem.Challenge.pw_ghosttext_k13_keys_recognized.main.body.getD i (.Pass ⟨0, 0, 0, 0⟩)
abbrev s__law_cells : Stmt := topS 33
abbrev N__law_cells : List Str := ["script", "count"]
theorem sc__law_cells : FnScope N__law_cells ["script", "count"] (defScope s__law_cells) := ⟨rfl, rfl, rfl, by decide +kernel, rfl, by decide +kernel, by decide +kernel⟩
abbrev s_is_one_key : Stmt := topS 20
abbrev N_is_one_key : List Str := ["value"]
theorem sc_is_one_key : FnScope N_is_one_key ["value"] (defScope s_is_one_key) := ⟨rfl, rfl, rfl, by decide +kernel, rfl, by decide +kernel, by decide +kernel⟩
abbrev s_CountingField_is_key : Stmt := clsS (topS 28) 1
abbrev N_CountingField_is_key : List Str := ["value"]
theorem sc_CountingField_is_key : FnScope N_CountingField_is_key ["value"] (defScope s_CountingField_is_key) := ⟨rfl, rfl, rfl, by decide +kernel, rfl, by decide +kernel, by decide +kernel⟩
abbrev s_Field_is_key : Stmt := clsS (topS 26) 2
abbrev N_Field_is_key : List Str := ["value"]
theorem sc_Field_is_key : FnScope N_Field_is_key ["value"] (defScope s_Field_is_key) := ⟨rfl, rfl, rfl, by decide +kernel, rfl, by decide +kernel, by decide +kernel⟩
abbrev s_SmallCountingField_is_key : Stmt := clsS (topS 29) 1
abbrev N_SmallCountingField_is_key : List Str := ["value"]
theorem sc_SmallCountingField_is_key : FnScope N_SmallCountingField_is_key ["value"] (defScope s_SmallCountingField_is_key) := ⟨rfl, rfl, rfl, by decide +kernel, rfl, by decide +kernel, by decide +kernel⟩
abbrev s_SmallField_is_key : Stmt := clsS (topS 27) 1
abbrev N_SmallField_is_key : List Str := ["value"]
theorem sc_SmallField_is_key : FnScope N_SmallField_is_key ["value"] (defScope s_SmallField_is_key) := ⟨rfl, rfl, rfl, by decide +kernel, rfl, by decide +kernel, by decide +kernel⟩
abbrev s__law_right : Stmt := topS 35
abbrev N__law_right : List Str := ["thing", "expected", "results"]
theorem sc__law_right : FnScope N__law_right ["thing"] (defScope s__law_right) := ⟨rfl, rfl, rfl, by decide +kernel, rfl, by decide +kernel, by decide +kernel⟩
abbrev s__law_source : Stmt := topS 31
abbrev N__law_source : List Str := ["cell", "index"]
theorem sc__law_source : FnScope N__law_source ["cell", "index"] (defScope s__law_source) := ⟨rfl, rfl, rfl, by decide +kernel, rfl, by decide +kernel, by decide +kernel⟩
abbrev s__law_draw : Stmt := topS 32
abbrev N__law_draw : List Str := ["source", "count", "digit"]
theorem sc__law_draw : FnScope N__law_draw ["source", "count"] (defScope s__law_draw) := ⟨rfl, rfl, rfl, by decide +kernel, rfl, by decide +kernel, by decide +kernel⟩
abbrev s__law_string : Stmt := topS 34
abbrev N__law_string : List Str := ["source", "signs", "size", "k"]
theorem sc__law_string : FnScope N__law_string ["source"] (defScope s__law_string) := ⟨rfl, rfl, rfl, by decide +kernel, rfl, by decide +kernel, by decide +kernel⟩
abbrev s_law : Stmt := topS 36
abbrev N_law : List Str := ["script", "signs", "others", "k", "cell", "source", "turn", "sign", "one"]
theorem sc_law : FnScope N_law ["script"] (defScope s_law) := ⟨rfl, rfl, rfl, by decide +kernel, rfl, by decide +kernel, by decide +kernel⟩
structure Nm (mg : Str → Option Value) : Prop where
  enumerate_ : mg "enumerate" = none
  int_ : mg "int" = none
  isinstance_ : mg "isinstance" = none
  len_ : mg "len" = none
  max_ : mg "max" = none
  range_ : mg "range" = none
  repr_ : mg "repr" = none
  str_ : mg "str" = none
  ACCEPT_ : ∃ t, mg "ACCEPT" = some (.str "+" t)
  BACK_ : ∃ t, mg "BACK" = some (.str "-" t)
  LETTERS_ : ∃ t, mg "LETTERS" = some (.str "abcdefghijklmnopqrstuvwxyz" t)
section
variable {P : Program} {w : World} {K : PySem.W.Frag} {mg : Str → Option Value} {base : Heap}
def isKey (a : Nat) : Bool := low a || (decide (a = 43) || decide (a = 45))
theorem one_eq {a b : Nat} : ((⟨#[a]⟩ : Str) = ⟨#[b]⟩) = (a = b) := by simp
theorem plus_one : ("+" : Str) = ⟨#[43]⟩ := by decide +kernel
theorem minus_one : ("-" : Str) = ⟨#[45]⟩ := by decide +kernel
def isKeyL : List Nat → Bool
  | [a] => isKey a
  | _ => false
theorem keyL_no : ∀ {l : List Nat}, ¬ l.length = 1 → isKeyL l = false
  | [], _ => rfl
  | [a], h => (h rfl).elim
  | _ :: _ :: _, _ => rfl
def isKeyD : PyData → Bool
  | .str z => isKeyL (tl z)
  | _ => false
theorem keyD_one (a : Nat) : isKeyD (.str ⟨#[a]⟩) = isKey a := rfl
theorem keyD_no {z : Str} (h : ¬ z.length = 1) : isKeyD (.str z) = false := keyL_no (by rw [TL.len_tl] at h; exact h)
/-- texts not too long -/
def sOk : PyData → Bool
  | .str z => decide (z.length ≤ 1000)
  | _ => true
theorem isi_dct {Q : W → Cs → Prop} {c : Cs} {xs : List (PyData × PyData)} (q : Q (.d (.bool false)) c) : VX K w (uIsi K) [.d (.dict xs), .ty "str"] c Q := w_isiF (.dct xs) (by decide) q
def sp_is_one_key : SpV := fun us c Q => ∃ x : PyData, us = [bw x] ∧ c = [] ∧ sOk x = true ∧ Q (.d (.bool (isKeyD x))) []
theorem ok_is_one_key (n : Nm mg)  {f : Addr} {fd : FuncData} (F : Fun K "is_one_key" "is_one_key" s_is_one_key f fd) :
    FnOk P w K mg base CX0 1 f fd ["value"] (lift K w sp_is_one_key) := by
  obtain ⟨_, g_ACCEPT⟩ := n.ACCEPT_
  obtain ⟨_, g_BACK⟩ := n.BACK_
  obtain ⟨_, g_LETTERS⟩ := n.LETTERS_
  have n_isinstance := n.isinstance_
  have n_len := n.len_
  have n_str := n.str_
  refine FnOk.v F sc_is_one_key (fun us c Q h => ?_) (fun cdv A outer s H E us c Q hr h => ?_)
  · obtain ⟨x, rfl, _⟩ := h; rfl
  obtain ⟨x, rfl, rfl, ok, q⟩ := h
  refine ⟨_, (pss_one (ps_ret (kpe_andT (K := K) rfl (pe_callB (kcu_isi (K := K) rfl) (by rfl) n_isinstance (by decide +kernel) (pa_cons (pv 0) (pa_cons (pe_bltn (v := .ty "str") (by rfl) n_str (by decide +kernel) rfl) pa_nil))) (kpe_andT (K := K) rfl (pe_cmpR (kou_eq (K := K) rfl hr.units) (pe_callB (kcu_len (K := K) rfl) (by rfl) n_len (by decide +kernel) (pa_cons (pv 0) pa_nil)) pe_int (nomark _)) (pe_one (kpe_orT (K := K) rfl (pe_cmpR (kou_in (K := K) rfl) (pv 0) (pe_glob (v := .str "abcdefghijklmnopqrstuvwxyz") rfl g_LETTERS ⟨_, rfl⟩) rfl) (pe_one (pe_cmpR (kou_in (K := K) rfl) (pv 0) (pe_tup (pa_cons (pe_glob (v := .str "+") rfl g_ACCEPT ⟨_, rfl⟩) (pa_cons (pe_glob (v := .str "-") rfl g_BACK ⟨_, rfl⟩) pa_nil))) rfl)))))))), ?_⟩
  cases x with
  | none =>
    show VS K w _ (startE _ [.d .none]) _ _
    walk_at "go"
    exact q
  | bool b =>
    show VS K w _ (startE _ [.d (.bool b)]) _ _
    walk_at "go"
    exact q
  | int i =>
    show VS K w _ (startE _ [.d (.int i)]) _ _
    walk_at "go"
    exact q
  | list xs =>
    show VS K w _ (startE _ [.b xs]) _ _
    walk_at "go"
    exact q
  | tuple xs =>
    show VS K w _ (startE _ [.d (.tuple xs)]) _ _
    walk_at "go"
    exact q
  | dict xs =>
    show VS K w _ (startE _ [.d (.dict xs)]) _ _
    walk_at "go"
    refine isi_dct ?_
    walk_at "go"
    exact q
  | str z =>
    show VS K w _ (startE _ [.d (.str z)]) _ _
    have hz : z.length ≤ 1000 := of_decide_eq_true ok
    have hz2 : z.length ≤ sizeLine := by rw [sizeLine_eq]; omega
    walk_at "go"
    refine ite2 (fun c => ?_) (fun c => ?_)
    · obtain ⟨a, rfl⟩ := str_one (z := z) (by simp at c; omega)
      walk_at "go"
      rw [in_letters]
      walk_at "go"
      refine ite2 (fun c => ?_) (fun c => ?_)
      · walk_at "go"
        rw [keyD_one, show isKey a = low a by rw [isKey, c]; rfl] at q
        exact q
      · walk_at "go"
        refine w_inWT (ws := ["+", "-"]) ?_
        walk_at "go"
        rw [keyD_one, show isKey a = decide ((⟨#[a]⟩ : Str) ∈ (["+", "-"] : List Str)) by
          rw [isKey, show low a = false by simpa using c, plus_one, minus_one]
          simp [one_eq]] at q
        exact q
    · walk_at "go"
      rw [keyD_no (fun z => c (by simp [z]))] at q
      rw [decide_eq_false (fun z => c (by simp [z]))]
      exact q
def spKey : SpV := fun us c Q => ∃ x : PyData, us = [bw x] ∧ c = [] ∧ sOk x = true ∧ Q (.d (.bool (isKeyD x))) []
def sp_Field_is_key : SpV := spKey
def sp_SmallField_is_key : SpV := spKey
def sp_CountingField_is_key : SpV := spKey
def sp_SmallCountingField_is_key : SpV := spKey
theorem ok_Field_is_key (n : Nm mg) {C_Field : Addr} (k_Field : ClsF K C_Field ["_book", "_calls", "_entered", "_pressed", "_text"]) (c_is_one_key : GF P w K mg base 1 "is_one_key" (lift K w sp_is_one_key)) {f : Addr} {fd : FuncData} (F : Fun K "is_key" "Field.is_key" s_Field_is_key f fd) :
    FnOk P w K mg base CX0 2 f fd ["value"] (lift K w sp_Field_is_key) := by
  refine FnOk.v F sc_Field_is_key (fun us c Q h => ?_) (fun cdv A outer s H E us c Q hr h => ?_)
  · obtain ⟨x, rfl, _⟩ := h; rfl
  obtain ⟨x, rfl, rfl, ok, q⟩ := h
  refine ⟨_, (pss_one (ps_ret (pe_fc c_is_one_key hr (by decide) (by rfl) (pa_cons (pv 0) pa_nil)))), ?_⟩
  walk_at "go"
  refine ⟨[bw x], by cases x <;> rfl, x, rfl, rfl, ok, ?_⟩
  walk_at "go"
  exact q
theorem ok_SmallField_is_key (n : Nm mg) {C_SmallField : Addr} (k_SmallField : ClsF K C_SmallField ["_book", "_most", "_text"]) (c_is_one_key : GF P w K mg base 1 "is_one_key" (lift K w sp_is_one_key)) {f : Addr} {fd : FuncData} (F : Fun K "is_key" "SmallField.is_key" s_SmallField_is_key f fd) :
    FnOk P w K mg base CX0 2 f fd ["value"] (lift K w sp_SmallField_is_key) := by
  refine FnOk.v F sc_SmallField_is_key (fun us c Q h => ?_) (fun cdv A outer s H E us c Q hr h => ?_)
  · obtain ⟨x, rfl, _⟩ := h; rfl
  obtain ⟨x, rfl, rfl, ok, q⟩ := h
  refine ⟨_, (pss_one (ps_ret (pe_fc c_is_one_key hr (by decide) (by rfl) (pa_cons (pv 0) pa_nil)))), ?_⟩
  walk_at "go"
  refine ⟨[bw x], by cases x <;> rfl, x, rfl, rfl, ok, ?_⟩
  walk_at "go"
  exact q
theorem ok_CountingField_is_key (n : Nm mg) {C_CountingField : Addr} (k_CountingField : ClsF K C_CountingField ["_book", "_entered", "_text"]) (c_is_one_key : GF P w K mg base 1 "is_one_key" (lift K w sp_is_one_key)) {f : Addr} {fd : FuncData} (F : Fun K "is_key" "CountingField.is_key" s_CountingField_is_key f fd) :
    FnOk P w K mg base CX0 2 f fd ["value"] (lift K w sp_CountingField_is_key) := by
  refine FnOk.v F sc_CountingField_is_key (fun us c Q h => ?_) (fun cdv A outer s H E us c Q hr h => ?_)
  · obtain ⟨x, rfl, _⟩ := h; rfl
  obtain ⟨x, rfl, rfl, ok, q⟩ := h
  refine ⟨_, (pss_one (ps_ret (pe_fc c_is_one_key hr (by decide) (by rfl) (pa_cons (pv 0) pa_nil)))), ?_⟩
  walk_at "go"
  refine ⟨[bw x], by cases x <;> rfl, x, rfl, rfl, ok, ?_⟩
  walk_at "go"
  exact q
theorem ok_SmallCountingField_is_key (n : Nm mg) {C_SmallCountingField : Addr} (k_SmallCountingField : ClsF K C_SmallCountingField ["_book", "_entered", "_most", "_text"]) (c_is_one_key : GF P w K mg base 1 "is_one_key" (lift K w sp_is_one_key)) {f : Addr} {fd : FuncData} (F : Fun K "is_key" "SmallCountingField.is_key" s_SmallCountingField_is_key f fd) :
    FnOk P w K mg base CX0 2 f fd ["value"] (lift K w sp_SmallCountingField_is_key) := by
  refine FnOk.v F sc_SmallCountingField_is_key (fun us c Q h => ?_) (fun cdv A outer s H E us c Q hr h => ?_)
  · obtain ⟨x, rfl, _⟩ := h; rfl
  obtain ⟨x, rfl, rfl, ok, q⟩ := h
  refine ⟨_, (pss_one (ps_ret (pe_fc c_is_one_key hr (by decide) (by rfl) (pa_cons (pv 0) pa_nil)))), ?_⟩
  walk_at "go"
  refine ⟨[bw x], by cases x <;> rfl, x, rfl, rfl, ok, ?_⟩
  walk_at "go"
  exact q
end
end My
open PySem PySem.Spec PyProof.Rows L2 Gd
namespace My
section
variable {P : Program} {w : World} {K : PySem.W.Frag} {mg : Str → Option Value} {base : Heap}
structure Pb (xs : List PyData) (n : Nat) : Prop where
  ex : ∃ i j k : Int, xs = [.int i, .int j, .int k] ∧ 0 ≤ i ∧ 0 ≤ j ∧ j < 10 ^ 115 ∧ 0 ≤ k ∧ k ≤ n
theorem Pb.mono {xs : List PyData} {n m : Nat} (h : Pb xs n) (l : n ≤ m) : Pb xs m := by
  obtain ⟨i, j, k, h1, h2, h3, h4, h5, h6⟩ := h
  exact ⟨i, j, k, h1, h2, h3, h4, h5, by omega⟩
theorem cube_lt {x M : Int} (h0 : 0 ≤ x) (h : x ≤ M) : 0 ≤ x ^ Int.toNat 3 ∧ x ^ Int.toNat 3 ≤ M * M * M := by
  have e : x ^ Int.toNat 3 = x * x * x := by
    show x ^ 3 = _
    rw [Int.pow_succ, Int.pow_succ, Int.pow_succ, Int.pow_zero, Int.one_mul]
  rw [e]
  exact ⟨Int.mul_nonneg (Int.mul_nonneg h0 h0) h0, Int.mul_le_mul (Int.mul_le_mul h h h0 (by omega)) h h0 (Int.mul_nonneg (by omega) (by omega))⟩
def sp__law_source : SpV := fun us c Q => ∃ (v : Int) (k : Nat), us = [.d (.int v), .d (.int k)] ∧ c = [] ∧ k < 100 ∧ ∀ xs, Pb xs 0 → Q (.o xs) []
theorem ok__law_source (n : Nm mg)  {f : Addr} {fd : FuncData} (F : Fun K "_law_source" "_law_source" s__law_source f fd) :
    FnOk P w K mg base CX0 1 f fd ["cell", "index"] (lift K w sp__law_source) := by
  have n_max := n.max_
  refine FnOk.v F sc__law_source (fun us c Q h => ?_) (fun cdv A outer s H E us c Q hr h => ?_)
  · obtain ⟨v, k, rfl, _⟩ := h; rfl
  obtain ⟨v, k, rfl, rfl, hk, q⟩ := h
  refine ⟨_, (pss_one (ps_ret (pe_lst (pa_cons (pe_callB (call_max2 rfl) (by rfl) n_max (by decide +kernel) (pa_cons pe_int (pa_cons (pe_op ou_sub (pv 0) (pe_op ou_pow pe_int pe_int)) pa_nil))) (pa_cons (pe_op (kou_add (K := K) rfl) (pe_op (kou_add (K := K) rfl) (pe_op ou_pow (pe_op ou_mod (pv 0) (pe_op (kou_add (K := K) rfl) (pe_op ou_pow pe_int pe_int) pe_int)) pe_int) (pe_op ou_mul pe_int (pv 1))) pe_int) (pa_cons pe_int pa_nil)))))), ?_⟩
  walk_at "go"
  have m0 : 0 ≤ v % (10 ^ Int.toNat 38 + 133) := Int.emod_nonneg _ (by decide)
  have m1 : v % (10 ^ Int.toNat 38 + 133) ≤ 10 ^ 38 + 133 := Int.le_of_lt (Int.emod_lt_of_pos _ (by decide))
  generalize v % (10 ^ Int.toNat 38 + 133) = r at *
  refine w_pow (powW (n := 141) (by decide) (by omega) (by decide) (by decide)) ?_
  obtain ⟨p0, p1⟩ := cube_lt m0 m1
  generalize r ^ Int.toNat 3 = p at *
  walk_at "go"
  exact q _ ⟨_, _, _, rfl, by split <;> omega, by omega, by omega, by decide, by decide⟩
def sp__law_draw : SpV := fun us c Q => ∃ (xs : List PyData) (n : Nat) (m : Int), us = [.c 0, .d (.int m)] ∧ c = [.l xs] ∧ Pb xs n ∧ n < 2 ^ 60 ∧ 0 < m ∧ m.natAbs.log2 < 9000 ∧
  ∀ d ys, Pb ys (n + 1) → 0 ≤ d → d < m → Q (.d (.int d)) [.l ys]
theorem ok__law_draw (n : Nm mg)  {f : Addr} {fd : FuncData} (F : Fun K "_law_draw" "_law_draw" s__law_draw f fd) :
    FnOk P w K mg base CX0 1 f fd ["source", "count"] (liftC K w sp__law_draw) := by
  refine FnOk.v F sc__law_draw (fun us c Q h => ?_) (fun cdv A outer s H E us c Q hr h => ?_)
  · obtain ⟨xs, n, m, rfl, _⟩ := h; rfl
  obtain ⟨xs, c, m, rfl, rfl, ⟨i, j, k, rfl, hi0, hj0, hj1, hk0, hk1⟩, hn, hm, hm2, q⟩ := h
  refine ⟨_, (pss_cons (ps_if (pt_cmpR ou_gt (pe_ix (kix_seq (K := K) rfl) (pv 0) pe_int (fun _ _ => rfl)) pe_int (nomark _))
      (pss_cons (ps_set (i := 2) sc__law_draw.nd rfl (.inl rfl) (pe_op ou_mod (pe_ix (kix_seq (K := K) rfl) (pv 0) pe_int (fun _ _ => rfl)) (pv 1)))
        (pss_cons (ps_asg (pe_op ou_div (pe_ix (kix_seq (K := K) rfl) (pv 0) pe_int (fun _ _ => rfl)) (pv 1)) (pg_sub (pv 0) pe_int set_list))
        (pss_one (ps_ret (pv 2)))))
      pss_nil)
      (pss_cons (ps_asg (pe_op (kou_add (K := K) rfl) (pe_ix (kix_seq (K := K) rfl) (pv 0) pe_int (fun _ _ => rfl)) pe_int) (pg_sub (pv 0) pe_int set_list))
      (pss_cons (ps_asg (pe_op ou_mod (pe_op (kou_add (K := K) rfl) (pe_op (kou_add (K := K) rfl) (pe_op ou_pow (pe_ix (kix_seq (K := K) rfl) (pv 0) pe_int (fun _ _ => rfl)) pe_int) (pe_op ou_mul pe_int (pe_ix (kix_seq (K := K) rfl) (pv 0) pe_int (fun _ _ => rfl)))) pe_int) (pe_op (kou_add (K := K) rfl) (pe_op ou_pow pe_int pe_int) pe_int)) (pg_sub (pv 0) pe_int set_list))
      (pss_one (ps_ret (pe_op ou_mod (pe_op ou_div (pe_ix (kix_seq (K := K) rfl) (pv 0) pe_int (fun _ _ => rfl)) (pe_op ou_pow pe_int pe_int)) (pv 1))))))), ?_⟩
  walk_at "go"
  refine ite2 (fun c2 => ?_) (fun c2 => ?_)
  · walk_at "go"
    exact q _ _ ⟨_, _, _, rfl, Int.ediv_nonneg hi0 (by omega), hj0, hj1, hk0, by omega⟩ (Int.emod_nonneg _ (by omega)) (Int.emod_lt_of_pos _ hm)
  · walk_at "go"
    refine w_pow (powW (n := 400) (by decide) (by omega) (by decide) (by decide)) ?_
    walk_at "go"
    have s0 : 0 ≤ (j ^ Int.toNat 3 + 735134411 * (k + 1) + 5) % (10 ^ Int.toNat 33 + 61) := Int.emod_nonneg _ (by decide)
    have s1 : (j ^ Int.toNat 3 + 735134411 * (k + 1) + 5) % (10 ^ Int.toNat 33 + 61) < 10 ^ 33 + 61 := Int.emod_lt_of_pos _ (by decide)
    exact q _ _ ⟨_, _, _, rfl, hi0, s0, by omega, by omega, by omega⟩ (Int.emod_nonneg _ (by omega)) (Int.emod_lt_of_pos _ hm)
def sp__law_cells : SpV := fun us c Q => ∃ (ns : List Int) (k : Nat), us = [.s (ns.map .int), .d (.int k)] ∧ c = [] ∧ ns.length ≤ 63 ∧ 0 < k ∧ k < 100 ∧ ∀ ms : List Int, ms.length ≤ k → Q (.o (ms.map .int)) []
theorem ok__law_cells (n : Nm mg)  {f : Addr} {fd : FuncData} (F : Fun K "_law_cells" "_law_cells" s__law_cells f fd) :
    FnOk P w K mg base CX0 1 f fd ["script", "count"] (lift K w sp__law_cells) := by
  have n_int := n.int_
  refine FnOk.v F sc__law_cells (fun us c Q h => ?_) (fun cdv A outer s H E us c Q hr h => ?_)
  · obtain ⟨ns, k, rfl, _⟩ := h; rfl
  obtain ⟨ns, k, rfl, rfl, hl, hk, hk2, q⟩ := h
  refine ⟨_, (pss_one (ps_ret (pe_op (kou_add (K := K) rfl) (pe_slice (ksl_u (K := K) rfl) (pv 0) po_none (po_some (pv 1))) (pe_op ou_mul (pe_lst (pa_cons pe_int pa_nil)) (pe_callTy call_int1 (by rfl) n_int (by decide +kernel) (pa_cons (pe_cmpR (kou_eq (K := K) rfl hr.units) (pv 0) (pe_lst pa_nil) (nomark _)) pa_nil)))))), ?_⟩
  walk_at "go"
  rw [cutD_to _ (by omega), ← List.map_take]
  refine w_eq0 .s (shaped_ints ns) ?_
  walk_at "go"
  refine w_mulL .o (by split <;> decide) (by split <;> decide) (by rw [sizeLine_eq]; split <;> decide) ?_
  walk_at "go"
  rw [Int.toNat_natCast]
  refine w_addL .o .o (by rw [sizeLine_eq]; cases ns <;> simp <;> omega) ?_
  walk_at "go"
  cases ns with
  | nil =>
    have := q [0] (by simp; omega)
    show Q (W.o (List.map PyData.int (List.take k []) ++ [PyData.int 0])) []
    rw [List.take_nil]
    exact this
  | cons a l =>
    have := q ((a :: l).take k) (by rw [List.length_take]; omega)
    show Q (W.o (List.map PyData.int (List.take k (a :: l)) ++ [])) []
    rw [List.append_nil]
    exact this
end
end My
open PySem PySem.Spec PyProof.Rows L2 Gd
namespace My
section
variable {P : Program} {w : World} {K : PySem.W.Frag} {mg : Str → Option Value} {base : Heap}
def sp__law_string : SpV := fun us c Q => ∃ (xs : List PyData) (n : Nat), us = [.c 0] ∧ c = [.l xs] ∧ Pb xs n ∧ n < 2 ^ 50 ∧
  ∀ z ys, Pb ys (n + 5) → z.length ≤ 3 → Q (.d (.str z)) [.l ys]
theorem ok__law_string (n : Nm mg) (c__law_draw : GF P w K mg base 1 "_law_draw" (liftC K w sp__law_draw)) {f : Addr} {fd : FuncData} (F : Fun K "_law_string" "_law_string" s__law_string f fd) :
    FnOk P w K mg base CX0 2 f fd ["source"] (liftC K w sp__law_string) := by
  have n_range := n.range_
  refine FnOk.v F sc__law_string (fun us c Q h => ?_) (fun cdv A outer s H E us c Q hr h => ?_)
  · obtain ⟨xs, n, rfl, _⟩ := h; rfl
  obtain ⟨xs, n, rfl, rfl, hp, hn, q⟩ := h
  refine ⟨_, (pss_cons (ps_set (i := 1) sc__law_string.nd rfl (.inr rfl) pe_str)
      (pss_cons (ps_set (i := 2) sc__law_string.nd rfl (.inl rfl) (pe_ix (kix_seq (K := K) rfl) (pe_lst (pa_cons pe_int (pa_cons pe_int (pa_cons pe_int (pa_cons (pe_fc c__law_draw hr (by decide) (by rfl) (pa_cons (pv 0) (pa_cons pe_int pa_nil))) pa_nil))))) (pe_fc c__law_draw hr (by decide) (by rfl) (pa_cons (pv 0) (pa_cons pe_int pa_nil))) (fun _ _ => rfl)))
      (pss_one (ps_ret (kpe_join (K := K) rfl pe_str (pe_lc (own := [("k", 3)]) rfl sc__law_string.nd (pi_range1 (by rfl) n_range (pa_cons (pv 2) pa_nil)) (blkOk_by (own := [("k", 3)]) (N := N__law_string) (sc := defScope s__law_string) (by decide +kernel)) (fun _ _ _ _ _ => (pg_name (i := 3) sc__law_string.nd rfl (.inl rfl))) (fun _ _ _ _ _ => pts_nil) (fun _ _ _ _ _ => (pe_ix (kix_seq (K := K) rfl) (pv 1) (pe_fc c__law_draw hr (by decide) (by rfl) (pa_cons (pv 0) (pa_cons pe_int pa_nil))) (fun _ _ => rfl))))))))), ?_⟩
  walk_at "go"
  refine ⟨xs, n, 4, rfl, rfl, hp, by omega, by decide, by decide, fun d1 x1 hp1 d10 d11 => ?_⟩
  walk_at "go"
  refine ⟨x1, _, 4, rfl, rfl, hp1, by omega, by decide, by decide, fun d2 x2 hp2 d20 d21 => ?_⟩
  walk_at "go"
  obtain ⟨x, ex, mx⟩ := atI_lt (xs := [PyData.int 1, .int 1, .int 1, .int d1]) d20 d21
  refine w_ixL .o ex ?_
  have hm : ∃ m : Nat, x = .int (m : Int) ∧ m ≤ 3 := by
    simp only [List.mem_cons, List.not_mem_nil, or_false] at mx
    rcases mx with h | h | h | h <;> subst h
    · exact ⟨1, rfl, by decide⟩
    · exact ⟨1, rfl, by decide⟩
    · exact ⟨1, rfl, by decide⟩
    · exact ⟨d1.toNat, by rw [Int.toNat_of_nonneg d10], by omega⟩
  obtain ⟨m, rfl, m3⟩ := hm
  walk_at "go"
  refine vcoA (it_1 (by omega) (by omega)) (on_name (by decide)) (by rw [sizeLine_eq]; omega) (fun i acc c => ∃ (cs : List Nat) (pl : List PyData), acc = cs.map (fun a => .str ⟨#[a]⟩) ∧ cs.length = i ∧ c = [.l pl] ∧ Pb pl (n + 2 + i)) ⟨[], x2, rfl, rfl, rfl, hp2.mono (by omega)⟩ (fun _ _ _ _ => trivial) ?_ ?_
  · rintro i d acc c' hi ha hd ⟨cs, pl, rfl, hs, rfl, hp3⟩
    walk_at "go"
    refine ⟨pl, _, 20, rfl, rfl, hp3, by omega, by decide, by decide, fun d3 x3 hp4 d30 d31 => ?_⟩
    walk_at "go"
    obtain ⟨a, ea, ma⟩ := atI_lt (xs := tl ("abcxyz+-+-AZ09 _=,.{" : Str)) d30 d31
    refine w_ixS (by rw [sizeLine_eq]; decide +kernel) ea ?_
    walk_at "go"
    exact ⟨cs ++ [a], x3, by simp, by simp [hs], rfl, hp4.mono (by omega)⟩
  · rintro acc c' ⟨cs, pl, rfl, hs, rfl, hp3⟩
    rw [show cs.map (fun a => PyData.str ⟨#[a]⟩) = (cs.map fun c => (⟨#[c]⟩ : Str)).map PyData.str by rw [List.map_map]; rfl]
    have e : ((cs.map fun c => (⟨#[c]⟩ : Str)).map (·.length)).sum = cs.length := by
      rw [List.map_map]
      exact sum_ones cs
    have hs : cs.length = m := by omega
    walk_at "go"
    refine w_join .o (by rw [e, List.length_map]; show cs.length + cs.length * 0 ≤ _; omega) ?_
    walk_at "go"
    have et := tl_spell cs
    generalize Txt.join "" (cs.map fun c => (⟨#[c]⟩ : Str)) = z at *
    have el : z.length = cs.length := by rw [TL.len_tl]; exact congrArg _ et
    exact q z pl (hp3.mono (by omega)) (by omega)
theorem dec_plus {a : Nat} : decide (({ cps := #[a] } : Str) = Str.ofString "+") = decide (a = 43) := by
  have : Str.ofString "+" = (⟨#[43]⟩ : Str) := by decide +kernel
  simp [this]
theorem dec_minus {a : Nat} : decide (({ cps := #[a] } : Str) = Str.ofString "-") = decide (a = 45) := by
  have : Str.ofString "-" = (⟨#[45]⟩ : Str) := by decide +kernel
  simp [this]
theorem sm_bools {bs : List Bool} (h : bs.length ≤ 10) : Sm (.list (bs.map .bool)) := sm_map (m := 10) (fun y _ => ⟨rfl, by simp [sz], by simp [PyData.depth]⟩) (by omega)
def sp__law_right : SpV := fun us c Q => ∃ x : PyData, us = [bw x] ∧ c = [] ∧ sOk x = true ∧ Q (.d (.bool true)) []
theorem ok__law_right (n : Nm mg) {C_CountingField : Addr} (k_CountingField : ClsF K C_CountingField ["_book", "_entered", "_text"]) {C_Field : Addr} (k_Field : ClsF K C_Field ["_book", "_calls", "_entered", "_pressed", "_text"]) {C_SmallCountingField : Addr} (k_SmallCountingField : ClsF K C_SmallCountingField ["_book", "_entered", "_most", "_text"]) {C_SmallField : Addr} (k_SmallField : ClsF K C_SmallField ["_book", "_most", "_text"])  (m_CountingField_is_key : GSM P w K mg base 2 "CountingField" C_CountingField "is_key" ["value"] (lift K w sp_CountingField_is_key)) (m_Field_is_key : GSM P w K mg base 2 "Field" C_Field "is_key" ["value"] (lift K w sp_Field_is_key)) (m_SmallCountingField_is_key : GSM P w K mg base 2 "SmallCountingField" C_SmallCountingField "is_key" ["value"] (lift K w sp_SmallCountingField_is_key)) (m_SmallField_is_key : GSM P w K mg base 2 "SmallField" C_SmallField "is_key" ["value"] (lift K w sp_SmallField_is_key)) {f : Addr} {fd : FuncData} (F : Fun K "_law_right" "_law_right" s__law_right f fd) :
    GFn P w K mg base CX0 3 f fd ["thing"] (lift K w sp__law_right) := by
  have n_isinstance := n.isinstance_
  have n_len := n.len_
  have n_repr := n.repr_
  have n_str := n.str_
  refine GFn.v F sc__law_right (fun us c Q h => ?_) (fun cdv A outer s H E us c Q gd hr h => ?_)
  · obtain ⟨x, rfl, _⟩ := h; rfl
  obtain ⟨x, rfl, rfl, ok, q⟩ := h
  refine ⟨_, (pss_cons (ps_set (i := 1) sc__law_right.nd rfl (.inl rfl) (kpe_andT (K := K) rfl (pe_callB (kcu_isi (K := K) rfl) (by rfl) n_isinstance (by decide +kernel) (pa_cons (pv 0) (pa_cons (pe_bltn (v := .ty "str") (by rfl) n_str (by decide +kernel) rfl) pa_nil))) (kpe_andT (K := K) rfl (pe_cmpR (kou_eq (K := K) rfl hr.units) (pe_callB (kcu_len (K := K) rfl) (by rfl) n_len (by decide +kernel) (pa_cons (pv 0) pa_nil)) pe_int (nomark _)) (pe_one (kpe_orT (K := K) rfl (pe_chain ou_le ou_le pe_str (pv 0) pe_str) (kpe_orT (K := K) rfl (pe_cmpR (kou_eq (K := K) rfl hr.units) (pv 0) pe_str (nomark _)) (pe_one (pe_cmpR (kou_eq (K := K) rfl hr.units) (pv 0) pe_str (nomark _)))))))))
      (pss_cons (ps_set (i := 2) sc__law_right.nd rfl (.inl rfl) (pe_lst (pa_cons (pe_gsm m_Field_is_key hr (by decide) (by rfl) (pa_cons (pv 0) pa_nil)) (pa_cons (pe_gsm m_SmallField_is_key hr (by decide) (by rfl) (pa_cons (pv 0) pa_nil)) (pa_cons (pe_gsm m_CountingField_is_key hr (by decide) (by rfl) (pa_cons (pv 0) pa_nil)) pa_nil)))))
      (pss_cons (ps_set (i := 2) sc__law_right.nd rfl (.inl rfl) (pe_op (kou_add (K := K) rfl) (pv 2) (pe_lst (pa_cons (pe_gsm m_SmallCountingField_is_key hr (by decide) (by rfl) (pa_cons (pv 0) pa_nil)) (pa_cons (pe_gsmk m_Field_is_key hr (by decide) (by rfl) (pk_cons (pv 0) pk_nil)) pa_nil)))))
      (pss_one (ps_ret (pe_cmpR (kou_eq (K := K) rfl hr.units) (pe_callB (cu_repr gd (hrep hr)) (by rfl) n_repr (by decide +kernel) (pa_cons (pv 2) pa_nil)) (pe_callB (cu_repr gd (hrep hr)) (by rfl) n_repr (by decide +kernel) (pa_cons (pe_op ou_mul (pe_lst (pa_cons (pv 1) pa_nil)) pe_int) pa_nil)) (nomark _))))))), ?_⟩
  refine v_seq ?_
  refine v_asg ?_
  refine VE.mono (Q' := fun u c => u = .d (.bool (isKeyD x)) ∧ c = []) ?_ ?_
  · clear q
    cases x with
    | none =>
      show VE K w _ (startE _ [.d .none]) _ _
      walk_at "go"
      exact ⟨rfl, rfl⟩
    | bool b =>
      show VE K w _ (startE _ [.d (.bool b)]) _ _
      walk_at "go"
      exact ⟨rfl, rfl⟩
    | int i =>
      show VE K w _ (startE _ [.d (.int i)]) _ _
      walk_at "go"
      exact ⟨rfl, rfl⟩
    | list xs =>
      show VE K w _ (startE _ [.b xs]) _ _
      walk_at "go"
      exact ⟨rfl, rfl⟩
    | tuple xs =>
      show VE K w _ (startE _ [.d (.tuple xs)]) _ _
      walk_at "go"
      exact ⟨rfl, rfl⟩
    | dict xs =>
      show VE K w _ (startE _ [.d (.dict xs)]) _ _
      walk_at "go"
      refine isi_dct ?_
      walk_at "go"
      exact ⟨rfl, rfl⟩
    | str z =>
      show VE K w _ (startE _ [.d (.str z)]) _ _
      have hz : z.length ≤ 1000 := of_decide_eq_true ok
      have hz2 : z.length ≤ sizeLine := by rw [sizeLine_eq]; omega
      walk_at "go"
      refine ite2 (fun c => ?_) (fun c => ?_)
      · obtain ⟨a, rfl⟩ := str_one (z := z) (by simp at c; omega)
        rw [keyD_one]
        walk_at "go"
        refine ⟨rfl, ?_⟩
        walk_at "go"
        refine ⟨rfl, ?_⟩
        walk_at "go"
        rw [show tl (Str.ofString "a") = tl (⟨#[97]⟩ : Str) by decide +kernel, le_one]
        have low_no : ¬ (97 ≤ a ∧ a ≤ 122) → isKey a = (decide (a = 43) || decide (a = 45)) := fun h => by
          unfold isKey low
          rw [decide_eq_false h, Bool.false_or]
        have tail_ : ∀ c, ¬ (97 ≤ a ∧ a ≤ 122) → VE K w (tOrT K (tOp (uEq K) (tVar 0) (tC (V.str (Str.ofString "+")))) (tOp (uEq K) (tVar 0) (tC (V.str (Str.ofString "-"))))) (startE N__law_right [W.d (PyData.str { cps := #[a] })]) c fun u c' => u = W.d (PyData.bool (isKey a)) ∧ c' = c := fun c h => by
          rw [low_no h]
          walk_at "go"
          rw [dec_plus]
          refine ite2 (fun c1 => ?_) (fun c1 => ?_)
          · rw [c1]; exact ⟨rfl, rfl⟩
          · walk_at "go"
            rw [dec_minus]
            rw [show decide (a = 43) = false by simpa using c1]
            exact ⟨rfl, rfl⟩
        refine ite2 (fun c1 => ?_) (fun c1 => ?_)
        · walk_at "go"
          refine ⟨rfl, ?_⟩
          walk_at "go"
          rw [show tl (Str.ofString "z") = tl (⟨#[122]⟩ : Str) by decide +kernel, le_one]
          walk_at "go"
          refine ite2 (fun c2 => ?_) (fun c2 => ?_)
          · rw [c2, show isKey a = true by unfold isKey low; rw [decide_eq_true ⟨of_decide_eq_true c1, of_decide_eq_true c2⟩]; rfl]
            exact ⟨rfl, rfl⟩
          · exact tail_ _ fun h => c2 (decide_eq_true h.2)
        · walk_at "go"
          have h := low_no fun h => c1 (decide_eq_true h.1)
          rw [h, dec_plus]
          refine ite2 (fun c1 => ?_) (fun c1 => ?_)
          · rw [c1]; exact ⟨rfl, rfl⟩
          · walk_at "go"
            rw [dec_minus, show decide (a = 43) = false by simpa using c1]
            exact ⟨rfl, rfl⟩
      · walk_at "go"
        refine ⟨?_, rfl⟩
        rw [keyD_no (fun z => c (by simp [z])), decide_eq_false (fun z => c (by simp [z]))]
  · rintro u c ⟨rfl, rfl⟩
    walk_at "go"
    refine ⟨[bw x], by cases x <;> rfl, x, rfl, rfl, ok, ?_⟩
    walk_at "go"
    refine ⟨[bw x], by cases x <;> rfl, x, rfl, rfl, ok, ?_⟩
    walk_at "go"
    refine ⟨[bw x], by cases x <;> rfl, x, rfl, rfl, ok, ?_⟩
    walk_at "go"
    refine ⟨[bw x], by cases x <;> rfl, x, rfl, rfl, ok, ?_⟩
    walk_at "go"
    refine ⟨[bw x], by cases x <;> rfl, x, rfl, rfl, ok, ?_⟩
    walk_at "go"
    refine w_repr .d (sm_bools (bs := [isKeyD x, isKeyD x, isKeyD x, isKeyD x, isKeyD x]) (Nat.le_of_ble_eq_true rfl)) ?_
    walk_at "go"
    refine w_mulL .o (by decide) (by decide) (by rw [sizeLine_eq]; exact Nat.le_of_ble_eq_true rfl) ?_
    walk_at "go"
    refine w_repr (.l .o) (sm_bools (bs := [isKeyD x, isKeyD x, isKeyD x, isKeyD x, isKeyD x]) (Nat.le_of_ble_eq_true rfl)) ?_
    walk_at "go"
    exact (congrArg (fun b => Q (.d (.bool b)) []) (decide_eq_true rfl)).mpr q
def oth : List PyData := [.str "", .str "ab", .str "++", .str "+a", .none, .int 0, .bool true, .list [.str "a"], .tuple [.str "a"], .dict [], .list [], .int (10 ^ Int.toNat 30), .str (strRep (Str.ofString "a") (Int.toNat 12))]
theorem oth_lv (c : Cs) : Lv c (.d (.list oth)) (oth.map fun x => x) := by rw [show oth.map (fun x => x) = oth from List.map_id' _]; exact .d
theorem fm_none {α β : Type} (l : List α) : l.filterMap (fun _ => (none : Option β)) = [] := by
  induction l with
  | nil => rfl
  | cons a l ih => simp [ih]
theorem ok_law (n : Nm mg) {C_CountingField : Addr} (k_CountingField : ClsF K C_CountingField ["_book", "_entered", "_text"]) {C_Field : Addr} (k_Field : ClsF K C_Field ["_book", "_calls", "_entered", "_pressed", "_text"]) {C_SmallField : Addr} (k_SmallField : ClsF K C_SmallField ["_book", "_most", "_text"]) (c__law_cells : GF P w K mg base 1 "_law_cells" (lift K w sp__law_cells)) (c__law_right : GC P w K mg base 3 "_law_right" (lift K w sp__law_right)) (c__law_source : GF P w K mg base 1 "_law_source" (lift K w sp__law_source)) (c__law_string : GF P w K mg base 2 "_law_string" (liftC K w sp__law_string)) (cv_CountingField_MOST : ClsN K mg "CountingField" C_CountingField "MOST" 120) (cv_Field_MOST : ClsN K mg "Field" C_Field "MOST" 120) (cv_SmallField_MOST : ClsN K mg "SmallField" C_SmallField "MOST" 120) {f : Addr} {fd : FuncData} (F : Fun K "law" "law" s_law f fd) :
    GFn P w K mg base CX0 4 f fd ["script"] (lift K w lawV) := by
  have n_enumerate := n.enumerate_
  have n_range := n.range_
  refine GFn.v F sc_law (fun us c Q h => ?_) (fun cdv A outer s H E us c Q gd hr h => ?_)
  · obtain ⟨ns, rfl, _⟩ := h; rfl
  obtain ⟨ns, rfl, rfl, hl, hb, q⟩ := h
  refine ⟨_, (pss_cons (ps_set (i := 1) sc_law.nd rfl (.inl rfl) pe_str)
      (pss_cons (ps_set (i := 2) sc_law.nd rfl (.inl rfl) (pe_lst (pa_cons pe_str (pa_cons pe_str (pa_cons pe_str (pa_cons pe_str (pa_cons pe_non (pa_cons pe_int (pa_cons pe_bl (pa_cons (pe_lst (pa_cons pe_str pa_nil)) (pa_cons (pe_tup (pa_cons pe_str pa_nil)) (pa_cons (PE.as_dd pe_dnewK) (pa_cons (pe_lst pa_nil) (pa_cons (pe_op ou_pow pe_int pe_int) (pa_cons (pe_op ou_mul pe_str pe_int) pa_nil)))))))))))))))
      (pss_cons (ps_if (PW.pt (pw_or (pt_cmpR (kou_ne (K := K) rfl hr.units) (pe_lc (own := [("sign", 7)]) rfl sc_law.nd (kpi_u (K := K) rfl (pv 1)) (blkOk_by (own := [("sign", 7)]) (N := N_law) (sc := defScope s_law) (by decide +kernel)) (fun _ _ _ _ _ => (pg_name (i := 7) sc_law.nd rfl (.inl rfl))) (fun _ _ _ _ _ => (pts_one (pt_not (kpt_u (K := K) rfl (pe_gc c__law_right gd hr (by decide) (by rfl) (pa_cons (pv 7) pa_nil)) (by intro _; rfl))))) (fun _ _ _ _ _ => (pv 7))) (pe_lst pa_nil) (nomark _)) (pw_or1 (pt_cmpR (kou_ne (K := K) rfl hr.units) (pe_lc (own := [("one", 8)]) rfl sc_law.nd (kpi_u (K := K) rfl (pv 2)) (blkOk_by (own := [("one", 8)]) (N := N_law) (sc := defScope s_law) (by decide +kernel)) (fun _ _ _ _ _ => (pg_name (i := 8) sc_law.nd rfl (.inl rfl))) (fun _ _ _ _ _ => (pts_one (pt_not (kpt_u (K := K) rfl (pe_gc c__law_right gd hr (by decide) (by rfl) (pa_cons (pv 8) pa_nil)) (by intro _; rfl))))) (fun _ _ _ _ _ => (pv 8))) (pe_lst pa_nil) (nomark _)))))
      (pss_one (ps_ret pe_bl))
      pss_nil)
      (pss_cons (ps_for PassesOwn.never rfl (kpi_enum (K := K) rfl (by rfl) n_enumerate (pa_cons (pe_fc c__law_cells hr (by decide) (by rfl) (pa_cons (pv 0) (pa_cons pe_int pa_nil))) pa_nil)) (kpg_tup (K := K) (n := 2) rfl rfl (pgs_cons (pg_name (i := 3) sc_law.nd rfl (.inl rfl)) (pgs_cons (pg_name (i := 4) sc_law.nd rfl (.inl rfl)) pgs_nil)))
      (pss_cons (PS.as_c (ps_set (i := 5) sc_law.nd rfl (.inl rfl) (pe_fc c__law_source hr (by decide) (by rfl) (pa_cons (pv 4) (pa_cons (pv 3) pa_nil)))))
        (pss_one (ps_for PassesOwn.never rfl (pi_range1 (by rfl) n_range (pa_cons pe_int pa_nil)) (pg_name (i := 6) sc_law.nd rfl (.inl rfl))
      (pss_one (ps_if (pt_not (kpt_u (K := K) rfl (pe_gc c__law_right gd hr (by decide) (by rfl) (pa_cons (pe_fc c__law_string hr (by decide) (by rfl) (pa_cons (pv 5) pa_nil)) pa_nil)) (by intro _; rfl)))
      (pss_one (ps_ret pe_bl))
      pss_nil))))))
      (pss_one (ps_ret (kpe_andT (K := K) rfl (pe_cmpR (kou_eq (K := K) rfl hr.units) (pe_clsN cv_Field_MOST (by rfl)) pe_int (nomark _)) (kpe_andT (K := K) rfl (pe_cmpR (kou_eq (K := K) rfl hr.units) (pe_clsN cv_SmallField_MOST (by rfl)) pe_int (nomark _)) (pe_one (pe_cmpR (kou_eq (K := K) rfl hr.units) (pe_clsN cv_CountingField_MOST (by rfl)) pe_int (nomark _))))))))))), ?_⟩
  walk_at "go"
  refine vco_s (fun _ => none) (on_name (by decide)) (by rw [sizeLine_eq]; decide +kernel) (fun a ha => ?_) ?_
  · walk_at "go"
    refine ⟨.str ⟨#[a]⟩, rfl, rfl, by rw [sOk, len_one]; rfl, ?_⟩
    walk_at "go"
    exact ⟨rfl, rfl⟩
  rw [fm_none]
  walk_at "go"
  refine w_ne0 .o (by decide +kernel) ?_
  walk_at "go"
  refine ite_f rfl ?_
  walk_at "go"
  refine vco_l (ys := oth) (m := fun x => x) (fun _ => none) (oth_lv _) (on_name (by decide)) (by rw [sizeLine_eq]; exact Nat.le_of_ble_eq_true rfl) (fun y hy => ?_) ?_
  · have ok : sOk y = true := List.all_eq_true.mp (show oth.all sOk = true by decide +kernel) y hy
    walk_at "go"
    refine ⟨[bw y], by cases y <;> rfl, y, rfl, rfl, ok, ?_⟩
    walk_at "go"
    exact ⟨rfl, rfl⟩
  rw [fm_none]
  walk_at "go"
  refine w_ne0 .o (by decide +kernel) ?_
  walk_at "go"
  refine ite_f rfl ?_
  walk_at "go"
  refine ⟨ns, 10, rfl, rfl, hl, by decide, by decide, fun ms hms => ?_⟩
  walk_at "go"
  generalize (PyData.list _) = LL
  refine vforA (it_e .o) (fun i e c => ∃ y3 y4 y5 y6 y7 y8, e = [some (.s (ns.map .int)), some (.d (.str " !\"#$&'()*+,-./0123456789:;<=>?@ABCDEFGHIJKLMNOPQRSTUVWXYZ[\\]^_`abcdefghijklmnopqrstuvwxyz{|}~\n")), some (.d LL), y3, y4, y5, y6, y7, y8] ∧ c = []) ⟨_, _, _, _, _, _, rfl, rfl⟩ (fun _ _ _ _ => .o) ?_ ?_
  · rintro i d e' c' hi ⟨z, hz, rfl⟩ ⟨y3, y4, y5, y6, y7, y8, rfl, rfl⟩
    obtain ⟨v, ev, rfl⟩ := map_at hz
    rw [List.length_map] at hi
    walk_at "go"
    refine ⟨v, i, rfl, rfl, by omega, fun pl hp => ?_⟩
    walk_at "go"
    refine vforA (it_1 (by decide) (by decide)) (fun j e c => ∃ (y6 y7 y8 : Option W) (pl : List PyData), e = [some (.s (ns.map .int)), some (.d (.str " !\"#$&'()*+,-./0123456789:;<=>?@ABCDEFGHIJKLMNOPQRSTUVWXYZ[\\]^_`abcdefghijklmnopqrstuvwxyz{|}~\n")), some (.d LL), some (.d (.int (i : Int))), some (.d (.int v)), some (.c 0), y6, y7, y8] ∧ c = [.l pl] ∧ Pb pl (5 * j)) ⟨_, _, _, pl, rfl, rfl, hp⟩ (fun _ _ _ _ => trivial) ?_ ?_
    · clear hp y7 y8
      rintro j d e' c' hj hd ⟨y6, y7, y8, pl, rfl, rfl, hp⟩
      have hj2 : j < 12 := hj
      walk_at "go"
      refine ⟨pl, _, rfl, rfl, hp, by omega, fun z pl2 hp2 hz => ?_⟩
      walk_at "go"
      refine ⟨.str z, rfl, rfl, by rw [sOk]; exact decide_eq_true (by omega), ?_⟩
      walk_at "go"
      exact ⟨_, _, _, _, rfl, rfl, hp2.mono (by omega)⟩
    · rintro e' c' ⟨y6, y7, y8, pl, rfl, rfl, hp⟩
      walk_at "go"
      exact ⟨_, _, _, _, _, _, rfl, rfl⟩
  · rintro e' c' ⟨y3, y4, y5, y6, y7, y8, rfl, rfl⟩
    walk_at "go"
    exact q
end
end My
open PySem PySem.Spec PyProof.Rows L2 Gd
namespace My
theorem all_mk {l : PySem.W.OpenLaw} {w : World} {K : PySem.W.Frag} {h : Heap} {mg : Str → Option Value} {fa f0 f1 f2 f3 f4 f5 f6 f7 f8 f9 f10 : Addr} (X : K.In h) (G : h.Ns mainGlobals mg) (hfa : mg "law" = some (.ref fa))
    {od0 an0 od1 an1 od2 an2 od3 an3 od4 an4 od5 an5 od6 an6 od7 an7 od8 an8 od9 an9 od10 an10 : Option Addr} {sl0 sl1 sl2 sl3 sl4 sl5 sl6 sl7 sl8 sl9 sl10 : Array (Option Value)}
    {oc0 kV0 dc0 pm0 cd0 ct0 oc1 kV1 dc1 pm1 cd1 ct1 oc2 kV2 dc2 pm2 cd2 ct2 oc3 kV3 dc3 pm3 cd3 ct3 oc4 kV4 dc4 pm4 cd4 ct4 oc5 kV5 dc5 pm5 cd5 ct5 oc6 kV6 dc6 pm6 cd6 ct6 oc7 kV7 dc7 pm7 cd7 ct7 oc8 kV8 dc8 pm8 cd8 ct8 oc9 kV9 dc9 pm9 cd9 ct9 oc10 kV10 dc10 pm10 cd10 ct10 : Value} {t_ACCEPT t_BACK t_LETTERS : Tok}
    {C_CountingField : Addr}
    (aC_CountingField : PySem.W.nsIn K mainGlobals "CountingField" = some (some (.ref C_CountingField)))
    (pg_CountingField : PySem.W.plainGet K C_CountingField Str.empty = true)
    (hd_CountingField : PySem.W.hasDictIn K C_CountingField = true)
    (po_CountingField : PySem.W.plainOver K C_CountingField = true)
    (sa_CountingField : PySem.W.findIn K (.ref C_CountingField) "__setattr__" = some (some (.builtin "object.__setattr__")))
    (mk_CountingField : PySem.W.makesIn K C_CountingField = true)
    (kc_CountingField : PySem.W.keepIn K (.ref C_CountingField) = true)
    (na_CountingField__book : PySem.W.findIn K (.ref C_CountingField) "_book" = some none)
    (na_CountingField__entered : PySem.W.findIn K (.ref C_CountingField) "_entered" = some none)
    (na_CountingField__text : PySem.W.findIn K (.ref C_CountingField) "_text" = some none)
    (rd_CountingField : PySem.W.readsIn K C_CountingField (.type "type") = true) (ga_CountingField : PySem.W.specialIn K (.ref C_CountingField) "__getattribute__" = some (some (.builtin "type.__getattribute__")))
    {t_CountingField_MOST : Tok} (cf_CountingField_MOST : PySem.W.findCls K (.ref C_CountingField) (.type "type") "MOST" = some (.val (.int 120 t_CountingField_MOST)))
    {C_Field : Addr}
    (aC_Field : PySem.W.nsIn K mainGlobals "Field" = some (some (.ref C_Field)))
    (pg_Field : PySem.W.plainGet K C_Field Str.empty = true)
    (hd_Field : PySem.W.hasDictIn K C_Field = true)
    (po_Field : PySem.W.plainOver K C_Field = true)
    (sa_Field : PySem.W.findIn K (.ref C_Field) "__setattr__" = some (some (.builtin "object.__setattr__")))
    (mk_Field : PySem.W.makesIn K C_Field = true)
    (kc_Field : PySem.W.keepIn K (.ref C_Field) = true)
    (na_Field__book : PySem.W.findIn K (.ref C_Field) "_book" = some none)
    (na_Field__calls : PySem.W.findIn K (.ref C_Field) "_calls" = some none)
    (na_Field__entered : PySem.W.findIn K (.ref C_Field) "_entered" = some none)
    (na_Field__pressed : PySem.W.findIn K (.ref C_Field) "_pressed" = some none)
    (na_Field__text : PySem.W.findIn K (.ref C_Field) "_text" = some none)
    (rd_Field : PySem.W.readsIn K C_Field (.type "type") = true) (ga_Field : PySem.W.specialIn K (.ref C_Field) "__getattribute__" = some (some (.builtin "type.__getattribute__")))
    {t_Field_MOST : Tok} (cf_Field_MOST : PySem.W.findCls K (.ref C_Field) (.type "type") "MOST" = some (.val (.int 120 t_Field_MOST)))
    {C_SmallCountingField : Addr}
    (aC_SmallCountingField : PySem.W.nsIn K mainGlobals "SmallCountingField" = some (some (.ref C_SmallCountingField)))
    (pg_SmallCountingField : PySem.W.plainGet K C_SmallCountingField Str.empty = true)
    (hd_SmallCountingField : PySem.W.hasDictIn K C_SmallCountingField = true)
    (po_SmallCountingField : PySem.W.plainOver K C_SmallCountingField = true)
    (sa_SmallCountingField : PySem.W.findIn K (.ref C_SmallCountingField) "__setattr__" = some (some (.builtin "object.__setattr__")))
    (mk_SmallCountingField : PySem.W.makesIn K C_SmallCountingField = true)
    (kc_SmallCountingField : PySem.W.keepIn K (.ref C_SmallCountingField) = true)
    (na_SmallCountingField__book : PySem.W.findIn K (.ref C_SmallCountingField) "_book" = some none)
    (na_SmallCountingField__entered : PySem.W.findIn K (.ref C_SmallCountingField) "_entered" = some none)
    (na_SmallCountingField__most : PySem.W.findIn K (.ref C_SmallCountingField) "_most" = some none)
    (na_SmallCountingField__text : PySem.W.findIn K (.ref C_SmallCountingField) "_text" = some none)
    (rd_SmallCountingField : PySem.W.readsIn K C_SmallCountingField (.type "type") = true) (ga_SmallCountingField : PySem.W.specialIn K (.ref C_SmallCountingField) "__getattribute__" = some (some (.builtin "type.__getattribute__")))
    {C_SmallField : Addr}
    (aC_SmallField : PySem.W.nsIn K mainGlobals "SmallField" = some (some (.ref C_SmallField)))
    (pg_SmallField : PySem.W.plainGet K C_SmallField Str.empty = true)
    (hd_SmallField : PySem.W.hasDictIn K C_SmallField = true)
    (po_SmallField : PySem.W.plainOver K C_SmallField = true)
    (sa_SmallField : PySem.W.findIn K (.ref C_SmallField) "__setattr__" = some (some (.builtin "object.__setattr__")))
    (mk_SmallField : PySem.W.makesIn K C_SmallField = true)
    (kc_SmallField : PySem.W.keepIn K (.ref C_SmallField) = true)
    (na_SmallField__book : PySem.W.findIn K (.ref C_SmallField) "_book" = some none)
    (na_SmallField__most : PySem.W.findIn K (.ref C_SmallField) "_most" = some none)
    (na_SmallField__text : PySem.W.findIn K (.ref C_SmallField) "_text" = some none)
    (rd_SmallField : PySem.W.readsIn K C_SmallField (.type "type") = true) (ga_SmallField : PySem.W.specialIn K (.ref C_SmallField) "__getattribute__" = some (some (.builtin "type.__getattribute__")))
    {t_SmallField_MOST : Tok} (cf_SmallField_MOST : PySem.W.findCls K (.ref C_SmallField) (.type "type") "MOST" = some (.val (.int 120 t_SmallField_MOST)))
    (a0 : PySem.W.nsIn K mainGlobals "_law_cells" = some (some (.ref f0)))
    (l0 : K.lookup f0 = some ⟨oc0, od0, .func (PySem.W.fnOf "_law_cells" "_law_cells" (defArgs s__law_cells) (defBody s__law_cells) (defScope s__law_cells) .none kV0 dc0 pm0 an0 cd0 ct0), sl0⟩)
    (c0 : PySem.W.codeIn K cd0 "_law_cells" = true) (k0 : PySem.W.keepIn K (.ref f0) = true)
    (a1 : PySem.W.nsIn K mainGlobals "is_one_key" = some (some (.ref f1)))
    (l1 : K.lookup f1 = some ⟨oc1, od1, .func (PySem.W.fnOf "is_one_key" "is_one_key" (defArgs s_is_one_key) (defBody s_is_one_key) (defScope s_is_one_key) .none kV1 dc1 pm1 an1 cd1 ct1), sl1⟩)
    (c1 : PySem.W.codeIn K cd1 "is_one_key" = true) (k1 : PySem.W.keepIn K (.ref f1) = true)
    {pr2 : Addr} {rs2 : List Value} (a2 : PySem.W.findCls K (.ref C_CountingField) (.type "type") "is_key" = some (.get (.builtin "staticmethod.__get__") (.ref pr2) .none (.ref C_CountingField))) (pc2 : PySem.W.recIn K pr2 "staticmethod" = some (.ref f2 :: rs2))
    (l2 : K.lookup f2 = some ⟨oc2, od2, .func (PySem.W.fnOf "is_key" "CountingField.is_key" (defArgs s_CountingField_is_key) (defBody s_CountingField_is_key) (defScope s_CountingField_is_key) .none kV2 dc2 pm2 an2 cd2 ct2), sl2⟩)
    (c2 : PySem.W.codeIn K cd2 "CountingField.is_key" = true) (k2 : PySem.W.keepIn K (.ref f2) = true)
    {pr3 : Addr} {rs3 : List Value} (a3 : PySem.W.findCls K (.ref C_Field) (.type "type") "is_key" = some (.get (.builtin "staticmethod.__get__") (.ref pr3) .none (.ref C_Field))) (pc3 : PySem.W.recIn K pr3 "staticmethod" = some (.ref f3 :: rs3))
    (l3 : K.lookup f3 = some ⟨oc3, od3, .func (PySem.W.fnOf "is_key" "Field.is_key" (defArgs s_Field_is_key) (defBody s_Field_is_key) (defScope s_Field_is_key) .none kV3 dc3 pm3 an3 cd3 ct3), sl3⟩)
    (c3 : PySem.W.codeIn K cd3 "Field.is_key" = true) (k3 : PySem.W.keepIn K (.ref f3) = true)
    {pr4 : Addr} {rs4 : List Value} (a4 : PySem.W.findCls K (.ref C_SmallCountingField) (.type "type") "is_key" = some (.get (.builtin "staticmethod.__get__") (.ref pr4) .none (.ref C_SmallCountingField))) (pc4 : PySem.W.recIn K pr4 "staticmethod" = some (.ref f4 :: rs4))
    (l4 : K.lookup f4 = some ⟨oc4, od4, .func (PySem.W.fnOf "is_key" "SmallCountingField.is_key" (defArgs s_SmallCountingField_is_key) (defBody s_SmallCountingField_is_key) (defScope s_SmallCountingField_is_key) .none kV4 dc4 pm4 an4 cd4 ct4), sl4⟩)
    (c4 : PySem.W.codeIn K cd4 "SmallCountingField.is_key" = true) (k4 : PySem.W.keepIn K (.ref f4) = true)
    {pr5 : Addr} {rs5 : List Value} (a5 : PySem.W.findCls K (.ref C_SmallField) (.type "type") "is_key" = some (.get (.builtin "staticmethod.__get__") (.ref pr5) .none (.ref C_SmallField))) (pc5 : PySem.W.recIn K pr5 "staticmethod" = some (.ref f5 :: rs5))
    (l5 : K.lookup f5 = some ⟨oc5, od5, .func (PySem.W.fnOf "is_key" "SmallField.is_key" (defArgs s_SmallField_is_key) (defBody s_SmallField_is_key) (defScope s_SmallField_is_key) .none kV5 dc5 pm5 an5 cd5 ct5), sl5⟩)
    (c5 : PySem.W.codeIn K cd5 "SmallField.is_key" = true) (k5 : PySem.W.keepIn K (.ref f5) = true)
    (a6 : PySem.W.nsIn K mainGlobals "_law_right" = some (some (.ref f6)))
    (l6 : K.lookup f6 = some ⟨oc6, od6, .func (PySem.W.fnOf "_law_right" "_law_right" (defArgs s__law_right) (defBody s__law_right) (defScope s__law_right) .none kV6 dc6 pm6 an6 cd6 ct6), sl6⟩)
    (c6 : PySem.W.codeIn K cd6 "_law_right" = true) (k6 : PySem.W.keepIn K (.ref f6) = true)
    (a7 : PySem.W.nsIn K mainGlobals "_law_source" = some (some (.ref f7)))
    (l7 : K.lookup f7 = some ⟨oc7, od7, .func (PySem.W.fnOf "_law_source" "_law_source" (defArgs s__law_source) (defBody s__law_source) (defScope s__law_source) .none kV7 dc7 pm7 an7 cd7 ct7), sl7⟩)
    (c7 : PySem.W.codeIn K cd7 "_law_source" = true) (k7 : PySem.W.keepIn K (.ref f7) = true)
    (a8 : PySem.W.nsIn K mainGlobals "_law_draw" = some (some (.ref f8)))
    (l8 : K.lookup f8 = some ⟨oc8, od8, .func (PySem.W.fnOf "_law_draw" "_law_draw" (defArgs s__law_draw) (defBody s__law_draw) (defScope s__law_draw) .none kV8 dc8 pm8 an8 cd8 ct8), sl8⟩)
    (c8 : PySem.W.codeIn K cd8 "_law_draw" = true) (k8 : PySem.W.keepIn K (.ref f8) = true)
    (a9 : PySem.W.nsIn K mainGlobals "_law_string" = some (some (.ref f9)))
    (l9 : K.lookup f9 = some ⟨oc9, od9, .func (PySem.W.fnOf "_law_string" "_law_string" (defArgs s__law_string) (defBody s__law_string) (defScope s__law_string) .none kV9 dc9 pm9 an9 cd9 ct9), sl9⟩)
    (c9 : PySem.W.codeIn K cd9 "_law_string" = true) (k9 : PySem.W.keepIn K (.ref f9) = true)
    (a10 : PySem.W.nsIn K mainGlobals "law" = some (some (.ref f10)))
    (l10 : K.lookup f10 = some ⟨oc10, od10, .func (PySem.W.fnOf "law" "law" (defArgs s_law) (defBody s_law) (defScope s_law) .none kV10 dc10 pm10 an10 cd10 ct10), sl10⟩)
    (c10 : PySem.W.codeIn K cd10 "law" = true) (k10 : PySem.W.keepIn K (.ref f10) = true)
    (z_enumerate : PySem.W.nsIn K mainGlobals "enumerate" = some none)
    (z_int : PySem.W.nsIn K mainGlobals "int" = some none)
    (z_isinstance : PySem.W.nsIn K mainGlobals "isinstance" = some none)
    (z_len : PySem.W.nsIn K mainGlobals "len" = some none)
    (z_max : PySem.W.nsIn K mainGlobals "max" = some none)
    (z_range : PySem.W.nsIn K mainGlobals "range" = some none)
    (z_repr : PySem.W.nsIn K mainGlobals "repr" = some none)
    (z_str : PySem.W.nsIn K mainGlobals "str" = some none)
    (y_ACCEPT : PySem.W.nsIn K mainGlobals "ACCEPT" = some (some (.str "+" t_ACCEPT)))
    (y_BACK : PySem.W.nsIn K mainGlobals "BACK" = some (some (.str "-" t_BACK)))
    (y_LETTERS : PySem.W.nsIn K mainGlobals "LETTERS" = some (some (.str "abcdefghijklmnopqrstuvwxyz" t_LETTERS)))
    : ∃ fd : FuncData, (∀ (s : Shared) (v : Value), BindsTo s fd ⟨[v], []⟩ [("script", v)]) ∧ ∀ base : Heap, K.In base → base.Ns mainGlobals mg → GFn l.prog w K mg base CX0 4 fa fd ["script"] (lift K w lawV) := by
  have e := hfa.symm.trans (PySem.W.mg_of X G a10)
  cases e
  have n : Nm mg := ⟨PySem.W.mg_none_of X G z_enumerate, PySem.W.mg_none_of X G z_int, PySem.W.mg_none_of X G z_isinstance, PySem.W.mg_none_of X G z_len, PySem.W.mg_none_of X G z_max, PySem.W.mg_none_of X G z_range, PySem.W.mg_none_of X G z_repr, PySem.W.mg_none_of X G z_str, ⟨_, PySem.W.mg_of X G y_ACCEPT⟩, ⟨_, PySem.W.mg_of X G y_BACK⟩, ⟨_, PySem.W.mg_of X G y_LETTERS⟩⟩
  have F0 := fun_mk (st := s__law_cells) l0 c0 k0
  have F1 := fun_mk (st := s_is_one_key) l1 c1 k1
  have F2 := fun_mk (st := s_CountingField_is_key) l2 c2 k2
  have F3 := fun_mk (st := s_Field_is_key) l3 c3 k3
  have F4 := fun_mk (st := s_SmallCountingField_is_key) l4 c4 k4
  have F5 := fun_mk (st := s_SmallField_is_key) l5 c5 k5
  have F6 := fun_mk (st := s__law_right) l6 c6 k6
  have F7 := fun_mk (st := s__law_source) l7 c7 k7
  have F8 := fun_mk (st := s__law_draw) l8 c8 k8
  have F9 := fun_mk (st := s__law_string) l9 c9 k9
  have F10 := fun_mk (st := s_law) l10 c10 k10
  refine ⟨PySem.W.fnOf "law" "law" (defArgs s_law) (defBody s_law) (defScope s_law) .none kV10 dc10 pm10 an10 cd10 ct10, fun s v => .of_eq rfl, fun base _ _ => ?_⟩
  have k_CountingField : ClsF K C_CountingField ["_book", "_entered", "_text"] := ⟨⟨pg_CountingField, hd_CountingField, po_CountingField, sa_CountingField⟩, by intro f hf; simp only [List.mem_cons, List.not_mem_nil, or_false] at hf; rcases hf with h | h | h <;> subst h <;> first | exact na_CountingField__book | exact na_CountingField__entered | exact na_CountingField__text⟩
  have k_Field : ClsF K C_Field ["_book", "_calls", "_entered", "_pressed", "_text"] := ⟨⟨pg_Field, hd_Field, po_Field, sa_Field⟩, by intro f hf; simp only [List.mem_cons, List.not_mem_nil, or_false] at hf; rcases hf with h | h | h | h | h <;> subst h <;> first | exact na_Field__book | exact na_Field__calls | exact na_Field__entered | exact na_Field__pressed | exact na_Field__text⟩
  have k_SmallCountingField : ClsF K C_SmallCountingField ["_book", "_entered", "_most", "_text"] := ⟨⟨pg_SmallCountingField, hd_SmallCountingField, po_SmallCountingField, sa_SmallCountingField⟩, by intro f hf; simp only [List.mem_cons, List.not_mem_nil, or_false] at hf; rcases hf with h | h | h | h <;> subst h <;> first | exact na_SmallCountingField__book | exact na_SmallCountingField__entered | exact na_SmallCountingField__most | exact na_SmallCountingField__text⟩
  have k_SmallField : ClsF K C_SmallField ["_book", "_most", "_text"] := ⟨⟨pg_SmallField, hd_SmallField, po_SmallField, sa_SmallField⟩, by intro f hf; simp only [List.mem_cons, List.not_mem_nil, or_false] at hf; rcases hf with h | h | h <;> subst h <;> first | exact na_SmallField__book | exact na_SmallField__most | exact na_SmallField__text⟩
  have cv_CountingField_MOST : ClsN K mg "CountingField" C_CountingField "MOST" 120 := ⟨PySem.W.mg_of X G aC_CountingField, _, _, ⟨rd_CountingField, ga_CountingField⟩, ⟨cf_CountingField_MOST, ⟨_, rfl⟩⟩⟩
  have cv_Field_MOST : ClsN K mg "Field" C_Field "MOST" 120 := ⟨PySem.W.mg_of X G aC_Field, _, _, ⟨rd_Field, ga_Field⟩, ⟨cf_Field_MOST, ⟨_, rfl⟩⟩⟩
  have cv_SmallField_MOST : ClsN K mg "SmallField" C_SmallField "MOST" 120 := ⟨PySem.W.mg_of X G aC_SmallField, _, _, ⟨rd_SmallField, ga_SmallField⟩, ⟨cf_SmallField_MOST, ⟨_, rfl⟩⟩⟩
  have D0 := ok__law_cells (P := l.prog) (w := w) (base := base) n  F0
  have C0 : GF l.prog w K mg base 1 "_law_cells" (lift K w sp__law_cells) := ⟨_, _, _, PySem.W.mg_of X G a0, k0, (F0.binds (ps := ["script", "count"]) fun _ _ _ _ _ _ us hl => match us, hl with | [_, _], _ => rfl), D0⟩
  have D1 := ok_is_one_key (P := l.prog) (w := w) (base := base) n  F1
  have C1 : GF l.prog w K mg base 1 "is_one_key" (lift K w sp_is_one_key) := ⟨_, _, _, PySem.W.mg_of X G a1, k1, (F1.binds (ps := ["value"]) fun _ _ _ _ _ _ us hl => match us, hl with | [_], _ => rfl), D1⟩
  have D2 := ok_CountingField_is_key (P := l.prog) (w := w) (base := base) n k_CountingField C1 F2
  have C2 : GSM l.prog w K mg base 2 "CountingField" C_CountingField "is_key" ["value"] (lift K w sp_CountingField_is_key) := ⟨PySem.W.mg_of X G aC_CountingField, _, _, _, _, ⟨rd_CountingField, ga_CountingField⟩, ⟨a2, ⟨_, pc2⟩, k2⟩, (F2.binds (ps := ["value"]) fun _ _ _ _ _ _ us hl => match us, hl with | [_], _ => rfl), (fun s us hX hl => match us, hl with | [_], _ => .of_eq rfl), D2, rfl⟩
  have D3 := ok_Field_is_key (P := l.prog) (w := w) (base := base) n k_Field C1 F3
  have C3 : GSM l.prog w K mg base 2 "Field" C_Field "is_key" ["value"] (lift K w sp_Field_is_key) := ⟨PySem.W.mg_of X G aC_Field, _, _, _, _, ⟨rd_Field, ga_Field⟩, ⟨a3, ⟨_, pc3⟩, k3⟩, (F3.binds (ps := ["value"]) fun _ _ _ _ _ _ us hl => match us, hl with | [_], _ => rfl), (fun s us hX hl => match us, hl with | [_], _ => .of_eq rfl), D3, rfl⟩
  have D4 := ok_SmallCountingField_is_key (P := l.prog) (w := w) (base := base) n k_SmallCountingField C1 F4
  have C4 : GSM l.prog w K mg base 2 "SmallCountingField" C_SmallCountingField "is_key" ["value"] (lift K w sp_SmallCountingField_is_key) := ⟨PySem.W.mg_of X G aC_SmallCountingField, _, _, _, _, ⟨rd_SmallCountingField, ga_SmallCountingField⟩, ⟨a4, ⟨_, pc4⟩, k4⟩, (F4.binds (ps := ["value"]) fun _ _ _ _ _ _ us hl => match us, hl with | [_], _ => rfl), (fun s us hX hl => match us, hl with | [_], _ => .of_eq rfl), D4, rfl⟩
  have D5 := ok_SmallField_is_key (P := l.prog) (w := w) (base := base) n k_SmallField C1 F5
  have C5 : GSM l.prog w K mg base 2 "SmallField" C_SmallField "is_key" ["value"] (lift K w sp_SmallField_is_key) := ⟨PySem.W.mg_of X G aC_SmallField, _, _, _, _, ⟨rd_SmallField, ga_SmallField⟩, ⟨a5, ⟨_, pc5⟩, k5⟩, (F5.binds (ps := ["value"]) fun _ _ _ _ _ _ us hl => match us, hl with | [_], _ => rfl), (fun s us hX hl => match us, hl with | [_], _ => .of_eq rfl), D5, rfl⟩
  have C6 : GC l.prog w K mg base 3 "_law_right" (lift K w sp__law_right) := ⟨_, _, _, PySem.W.mg_of X G a6, k6, (F6.binds (ps := ["thing"]) fun _ _ _ _ _ _ us hl => match us, hl with | [_], _ => rfl), ok__law_right (P := l.prog) (w := w) (base := base) n k_CountingField k_Field k_SmallCountingField k_SmallField C2 C3 C4 C5 F6⟩
  have D7 := ok__law_source (P := l.prog) (w := w) (base := base) n  F7
  have C7 : GF l.prog w K mg base 1 "_law_source" (lift K w sp__law_source) := ⟨_, _, _, PySem.W.mg_of X G a7, k7, (F7.binds (ps := ["cell", "index"]) fun _ _ _ _ _ _ us hl => match us, hl with | [_, _], _ => rfl), D7⟩
  have D8 := ok__law_draw (P := l.prog) (w := w) (base := base) n  F8
  have C8 : GF l.prog w K mg base 1 "_law_draw" (liftC K w sp__law_draw) := ⟨_, _, _, PySem.W.mg_of X G a8, k8, (F8.binds (ps := ["source", "count"]) fun _ _ _ _ _ _ us hl => match us, hl with | [_, _], _ => rfl), D8⟩
  have D9 := ok__law_string (P := l.prog) (w := w) (base := base) n C8 F9
  have C9 : GF l.prog w K mg base 2 "_law_string" (liftC K w sp__law_string) := ⟨_, _, _, PySem.W.mg_of X G a9, k9, (F9.binds (ps := ["source"]) fun _ _ _ _ _ _ us hl => match us, hl with | [_], _ => rfl), D9⟩
  exact ok_law (P := l.prog) (w := w) (base := base) n k_CountingField k_Field k_SmallField C0 C6 C7 C9 cv_CountingField_MOST cv_Field_MOST cv_SmallField_MOST F10
end My
open PySem PySem.W PyProof.Rows
set_option maxHeartbeats 0 in
theorem PySem.Challenge.cw_ghosttext_k13_keys_recognized_holds : PySem.Challenge.rw_ghosttext_k13_keys_recognized.Holds := by
  w_on; o_law; k_head; (case hw => w_witness2)
  k_fill
  refine Gd.walk_ofG (l := PySem.Challenge.rw_ghosttext_k13_keys_recognized) (n := 63) (k := 4) (x := "script") (sp := fun w => Gd.lift _ w Gd.lawV) rfl (by decide) rfl ⟨rfl, by decide, by decide⟩ (fun w h Y => PySem.W.kIn_of Y) ?F (fun _ _ a ns hl hb _ hS => Gd.law_start hl hb hS)
  case F =>
    intro w mg fa h KX G hmg
    refine' My.all_mk KX G hmg ?aC_CountingField ?pg_CountingField ?hd_CountingField ?po_CountingField ?sa_CountingField ?mk_CountingField ?kc_CountingField ?na_CountingField__book ?na_CountingField__entered ?na_CountingField__text ?rd_CountingField ?ga_CountingField ?cf_CountingField_MOST ?aC_Field ?pg_Field ?hd_Field ?po_Field ?sa_Field ?mk_Field ?kc_Field ?na_Field__book ?na_Field__calls ?na_Field__entered ?na_Field__pressed ?na_Field__text ?rd_Field ?ga_Field ?cf_Field_MOST ?aC_SmallCountingField ?pg_SmallCountingField ?hd_SmallCountingField ?po_SmallCountingField ?sa_SmallCountingField ?mk_SmallCountingField ?kc_SmallCountingField ?na_SmallCountingField__book ?na_SmallCountingField__entered ?na_SmallCountingField__most ?na_SmallCountingField__text ?rd_SmallCountingField ?ga_SmallCountingField ?aC_SmallField ?pg_SmallField ?hd_SmallField ?po_SmallField ?sa_SmallField ?mk_SmallField ?kc_SmallField ?na_SmallField__book ?na_SmallField__most ?na_SmallField__text ?rd_SmallField ?ga_SmallField ?cf_SmallField_MOST ?a0 ?l0 ?c0 ?k0 ?a1 ?l1 ?c1 ?k1 ?a2 ?pc2 ?l2 ?c2 ?k2 ?a3 ?pc3 ?l3 ?c3 ?k3 ?a4 ?pc4 ?l4 ?c4 ?k4 ?a5 ?pc5 ?l5 ?c5 ?k5 ?a6 ?l6 ?c6 ?k6 ?a7 ?l7 ?c7 ?k7 ?a8 ?l8 ?c8 ?k8 ?a9 ?l9 ?c9 ?k9 ?a10 ?l10 ?c10 ?k10 ?z_enumerate ?z_int ?z_isinstance ?z_len ?z_max ?z_range ?z_repr ?z_str ?y_ACCEPT ?y_BACK ?y_LETTERS
    (case aC_CountingField => k_is); (case pg_CountingField => k_is); (case hd_CountingField => k_is); (case po_CountingField => k_is); (case sa_CountingField => k_is); (case mk_CountingField => k_is); (case kc_CountingField => k_is); (case na_CountingField__book => k_is)
    (case na_CountingField__entered => k_is); (case na_CountingField__text => k_is); (case rd_CountingField => k_is); (case ga_CountingField => k_is); (case cf_CountingField_MOST => k_is); (case aC_Field => k_is); (case pg_Field => k_is); (case hd_Field => k_is)
    (case po_Field => k_is); (case sa_Field => k_is); (case mk_Field => k_is); (case kc_Field => k_is); (case na_Field__book => k_is); (case na_Field__calls => k_is); (case na_Field__entered => k_is); (case na_Field__pressed => k_is)
    (case na_Field__text => k_is); (case rd_Field => k_is); (case ga_Field => k_is); (case cf_Field_MOST => k_is); (case aC_SmallCountingField => k_is); (case pg_SmallCountingField => k_is); (case hd_SmallCountingField => k_is); (case po_SmallCountingField => k_is)
    (case sa_SmallCountingField => k_is); (case mk_SmallCountingField => k_is); (case kc_SmallCountingField => k_is); (case na_SmallCountingField__book => k_is); (case na_SmallCountingField__entered => k_is); (case na_SmallCountingField__most => k_is); (case na_SmallCountingField__text => k_is); (case rd_SmallCountingField => k_is)
    (case ga_SmallCountingField => k_is); (case aC_SmallField => k_is); (case pg_SmallField => k_is); (case hd_SmallField => k_is); (case po_SmallField => k_is); (case sa_SmallField => k_is); (case mk_SmallField => k_is); (case kc_SmallField => k_is)
    (case na_SmallField__book => k_is); (case na_SmallField__most => k_is); (case na_SmallField__text => k_is); (case rd_SmallField => k_is); (case ga_SmallField => k_is); (case cf_SmallField_MOST => k_is); (case a0 => k_is); (case l0 => k_is)
    (case c0 => k_is); (case k0 => k_is); (case a1 => k_is); (case l1 => k_is); (case c1 => k_is); (case k1 => k_is); (case a2 => k_is); (case pc2 => k_is)
    (case l2 => k_is); (case c2 => k_is); (case k2 => k_is); (case a3 => k_is); (case pc3 => k_is); (case l3 => k_is); (case c3 => k_is); (case k3 => k_is)
    (case a4 => k_is); (case pc4 => k_is); (case l4 => k_is); (case c4 => k_is); (case k4 => k_is); (case a5 => k_is); (case pc5 => k_is); (case l5 => k_is)
    (case c5 => k_is); (case k5 => k_is); (case a6 => k_is); (case l6 => k_is); (case c6 => k_is); (case k6 => k_is); (case a7 => k_is); (case l7 => k_is)
    (case c7 => k_is); (case k7 => k_is); (case a8 => k_is); (case l8 => k_is); (case c8 => k_is); (case k8 => k_is); (case a9 => k_is); (case l9 => k_is)
    (case c9 => k_is); (case k9 => k_is); (case a10 => k_is); (case l10 => k_is); (case c10 => k_is); (case k10 => k_is); (case z_enumerate => k_is); (case z_int => k_is)
    (case z_isinstance => k_is); (case z_len => k_is); (case z_max => k_is); (case z_range => k_is); (case z_repr => k_is); (case z_str => k_is); (case y_ACCEPT => k_is); (case y_BACK => k_is)
    (case y_LETTERS => k_is)
