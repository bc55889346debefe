import PyProof.Rows.All
import Wide.All
import OpenK.AllK
import Wide.FinOn
import HandS.ForMost
import HandS.Exc
import HandS.ExcOwn
import HandS.TryOnly
import HandS.WordsExc
import HandS.IsInst
import HandS.TupAny
import HandS.Wide
import HandS.TryMany
import KE.DataCmp
import KE.SortData
import HandS.Deep
import HandS.TupSets
import HandS.Zip
import HandS.HotCalls
import HandS.ExcIs
import KE.GoesEnumKw
import HandS.TupMul
import HandS.Defaults
import HandS.SetFor
import HandS.DictComp
import HandS.Strs
import HandS.SortInts
import PyProof.TupleOfSeq
import HandS.DictTup
import HandS.TupLen
import HandS.Deep
import PyProof.DictMoreH
import HandS.Small
import PySem.Challenge.RW_looksfar_k19_network_showing
set_option Elab.async false
set_option linter.all false
set_option maxRecDepth 100000
set_option maxHeartbeats 400000
/-! ### defs that are called where no repr runs around (guards known to be none) -/
namespace LG
open PySem PySem.Spec PyProof.Rows L2
/-- a def's promise, kept wherever no repr is under way -/
structure FnG (P : Program) (w : World) (K : PySem.W.Frag) (mg : Str → Option Value) (base : Heap) (k : Nat) (f : Addr) (fd : FuncData) (ps : List Str) (sp : Sp) : Prop where
  many : ∀ vs H Q E, sp vs H Q E → vs.length = ps.length
  goes : ∀ (A : Around) (outer : List Env) (s : Shared) (H : Hp) (us : List Value) (vs : List V) (Q : VK) (E : XK), A.guards = some [] → Room k A → Env0 P w K mg base A outer s H →
    BindsTo s fd ⟨us, []⟩ (ps.zip us) → Vals vs us → sp vs H Q E → codeAny (model P w) A (.call (.ref f) ⟨us, []⟩) (CR CX0 outer P w H s Q E) s
section
variable {P : Program} {w : World} {K : PySem.W.Frag} {mg : Str → Option Value} {base : Heap}
theorem FnG.of {k : Nat} {f : Addr} {fd : FuncData} {ps : List Str} {sp : Sp} (F : FnOk P w K mg base CX0 k f fd ps sp) : FnG P w K mg base k f fd ps sp :=
  ⟨F.len, fun A outer s H us vs Q E _ hr e0 hb r h => F.run A outer s H ⟨us, []⟩ us vs Q E hr e0 hb r h⟩
theorem FnG.more {j k : Nat} {f : Addr} {fd : FuncData} {ps : List Str} {sp : Sp} (F : FnG P w K mg base j f fd ps sp) (h : j ≤ k) : FnG P w K mg base k f fd ps sp :=
  ⟨F.many, fun A outer s H us vs Q E hg hr => F.goes A outer s H us vs Q E hg (hr.mono h)⟩
theorem FnG.by {x qual : Str} {st : Stmt} {f : Addr} {fd : FuncData} {N ps : List Str} {k : Nat} {sp : Sp} (F : Fun K x qual st f fd) (S : FnScope N ps (defScope st)) (many : ∀ vs H Q E, sp vs H Q E → vs.length = ps.length)
    (body : ∀ (cdv : Value) (A : Around) (outer : List Env) (s : Shared) (H : Hp) (vs : List V) (Q : VK) (E : XK), (A.deeper (envOfC qual (defScope st) s.heap.objs.size f cdv)).guards = some [] →
      Room k (A.deeper (envOfC qual (defScope st) s.heap.objs.size f cdv)) → sp vs H Q E →
      ∃ t, PSs (cxOf CX0 P w K mg base N qual (defScope st) f cdv A outer s H E).nox (defBody st) t ∧ t { nx := fun _ H' => Q .non H', rt := Q } (start N vs) H) : FnG P w K mg base (k + 1) f fd ps sp := by
  obtain ⟨_, _, _, _, _, _, cdv, _, _, rfl, lk, code⟩ := F.ex
  refine ⟨many, fun A outer s H us vs Q E guard room e0 bind rel hsp => ?_⟩
  have inK : K.In s.heap := e0.mod.kin.keeps fun b o e => (e0.bs b o e).1
  have noLim : s.heap.NoLimit := e0.mod.nolimit.keeps fun b o e => (e0.bs b o e).1
  obtain ⟨t, run, start⟩ := body cdv A outer s H vs Q E guard (room.deeper _) hsp
  refine codeAny_call_function room.depth (inK _ _ lk) rfl S.co S.gen rfl (PySem.W.codeRec_of inK code) (bind _ _ _ _ ?_)
  refine wpAny_newFunctionEnv_cells S.kind (fun y hy => ?_) fun env he s1 made => ?_
  · rcases S.par y.1 (List.of_mem_zip (show (y.1, y.2) ∈ ps.zip us from hy)).1 with q | q
    · exact Or.inl q
    · exact Or.inr ⟨q, PySem.W.cellsFrom_some _ _ _ (Or.inl q)⟩
  subst he
  refine ⟨noLim.keeps made.toInCall.keep, codeAny_func ?_⟩
  have inv := inv_start (CX := CX0) (E := E) S room.hd e0 (many _ _ _ _ hsp) rel made
  refine wpAny_mono (run.nox.run [] s1 (L2.start N vs) H _ inv start) (fun flow s' got => ?_) fun _ _ bad => bad
  cases flow with
  | ret u =>
    obtain ⟨v, _, H', J, rv, q⟩ := got
    exact ⟨v, H', J.os, J.bare, J.base, J.hok, rv, q⟩
  | next =>
    obtain ⟨_, H', J, q⟩ := got
    exact ⟨V.non, H', J.os, J.bare, J.base, J.hok, rfl, q⟩
  | brk =>
    obtain ⟨_, _, _, no⟩ := got
    exact no.elim
  | cont =>
    obtain ⟨_, _, _, no⟩ := got
    exact no.elim
end
section
variable {X : Cx} {k : Nat} {f : Addr} {fd : FuncData} {ps : List Str} {sp : Sp} {x : Str} {p pos : Pos} {e : Expr} {es : List Expr} {t : TA}
/-- f(e, ..) of such a def -/
theorem pe_callG (F : FnG X.prog X.w X.K X.mg X.base k f fd ps sp) (guard : X.A.guards = some []) (room : Room k X.A) (hg : Gl X x) (hm : X.mg x = some (.ref f)) (hk : PySem.W.keepIn X.K (.ref f) = true) (hb : Binds X.K fd ps [])
    (ha : PA X (e :: es) t) (hdb : (x == ("__debug__" : Str)) = false := by decide) (he : starEach (e :: es) X.env = (false, eval e X.env) :: starEach es X.env := by rfl) (hpl : (backTo pos (starEach es X.env)).any (·.1) = false := by rfl) :
    PE X (.Call (.Name x p) (e :: es) [] pos) (tCall sp [] E0 t) := by
  constructor
  intro pins s σ H Q inv want
  refine wpAny_Call_Name_kw (ld_glob inv hg hm ?_ hdb)
  refine PySem.W.callWith_K (h₀ := X.base) inv.ok.mod.kin hk (thn (ha.run pos pins s σ H _ inv want) fun us s1 got => ?_) he hpl
  obtain ⟨vs, H1, inv1, rel, q⟩ := got
  rw [List.append_nil] at q
  have many : us.length = ps.length := by rw [← rel.length]; exact F.many _ _ _ _ q
  have bind := hb s1 us inv1.kIn (by rw [List.append_nil]; exact many)
  rw [List.append_nil] at bind
  refine ⟨inv1.kIn, wpAny_call (codeAny_mono (F.goes X.A X.stack s1 H1 us vs Q E0 guard room inv1.env0 bind rel q) fun r s' end_ => ?_)⟩
  cases r with
  | error _ => exact False.elim end_
  | ok flow =>
    cases flow with
    | ret _ => exact inv1.after end_
    | next => exact False.elim end_
    | brk => exact False.elim end_
    | cont => exact False.elim end_
end
/-! ### repr of data -/
section
variable {X : Cx}
/-- repr(v), v data of any depth: its text -/
def rRep (K : PySem.W.Frag) : List V → Hp → VK → Prop := fun xs H Q => ∃ (v : V) (d : PyData), xs = [v] ∧ Dp K H v d ∧ d.showable = true ∧ d.depth ≤ 60 ∧ d.shown.length ≤ sizeLine ∧ Q (.str d.shown) H
theorem Dp.noDict {K : PySem.W.Frag} {H : Hp} : ∀ (d : PyData) (v : V), Dp K H v d → d.hasDict = false
  | .none, _, _ => by simp only [PyData.hasDict]
  | .bool _, _, _ => by simp only [PyData.hasDict]
  | .int _, _, _ => by simp only [PyData.hasDict]
  | .str _, _, _ => by simp only [PyData.hasDict]
  | .dict _, _, h => by cases h
  | .list ds, _, h => by
    cases h with
    | lst _ ha =>
      simp only [PyData.hasDict]
      exact go ds _ ha
  | .tuple ds, _, h => by
    cases h with
    | tup _ ha =>
      simp only [PyData.hasDict]
      exact go ds _ ha
where go {K : PySem.W.Frag} {H : Hp} : ∀ (ds : List PyData) (vs : List V), DpAll K H vs ds → PyData.hasDictAll ds = false
  | [], _, _ => by simp only [PyData.hasDictAll]
  | d :: ds, _, h => by
    cases h with
    | cons h1 h2 => simp only [PyData.hasDictAll, Dp.noDict d _ h1, go ds _ h2, Bool.or_self]
theorem call_rep (guard : X.A.guards = some []) (room : X.A.units + 64 < cLine) : CallR X (.builtin "repr") (rRep X.K) := by
  intro pins s σ H xs us Q inv rel want
  obtain ⟨v, d, rfl, hd, hs, hn, hz, q⟩ := want
  cases rel with
  | cons r0 rr =>
  rename_i u us'
  cases rr
  obtain ⟨as, reads⟩ := Dp.reads inv d v u hd r0
  have dict := PyData.noDict_hsm (as := as) (Dp.noDict d v hd)
  cases hd with
  | non =>
    cases r0
    exact PySem.P.repr_of_none ⟨.str _, H, inv.tok _, ⟨_, rfl⟩, by simpa only [PyData.shown] using q⟩
  | bl b =>
    cases r0
    refine PySem.P.repr_of_bool ⟨.str _, H, inv.tok _, ⟨_, rfl⟩, by simpa only [PyData.shown] using q⟩
  | int i =>
    obtain ⟨t, rfl⟩ := r0
    exact PySem.P.repr_of_int (by simpa [PyData.showable] using hs) ⟨.str _, H, inv.tok _, ⟨_, rfl⟩, by simpa only [PyData.shown] using q⟩
  | str x =>
    obtain ⟨t, rfl⟩ := r0
    exact PySem.P.repr_of_str ⟨.str _, H, inv.tok _, ⟨_, rfl⟩, by simpa only [PyData.shown] using q⟩ (by simpa only [PyData.shown] using hz)
  | lst h1 h2 =>
    cases r0
    exact repr_of_reads' reads hs dict guard (by omega) (fun _ _ z => z) (fun h' u' tk keep => ⟨.str _, H, inv.kept keep, ⟨_, rfl⟩, q⟩) hz
  | tup h1 h2 =>
    cases r0
    exact repr_of_reads' reads hs dict guard (by omega) (fun _ _ z => z) (fun h' u' tk keep => ⟨.str _, H, inv.kept keep, ⟨_, rfl⟩, q⟩) hz
end
end LG
/-! ### the end: the law's promise, at the heap behind the top -/
namespace LG
open PySem PySem.W PySem.Spec PyProof.Rows L2
section
variable {P : Program} {w : World} {K : PySem.W.Frag} {mg mb : Str → Option Value} {k : Nat} {fa a : Addr} {fd : FuncData} {x : Str} {sp : Sp} {s : Shared} {vs : List Value} {ns : List Int}
/-- the call from an abstract heap that tracks at most the script -/
theorem end_from (inK : K.In s.heap) (mains : s.heap.Ns mainGlobals mg) (blts : s.heap.Ns builtinsNs mb) (boot : ∀ y : Str, y ≠ "__name__" → mb y = bootBuiltins y) (noLim : s.heap.NoLimit) (gens : s.gens = #[])
    (obj : s.heap.get? a = some { cls := .type "list", data := .seq vs.toArray }) (room : Room k callerA) (goesF : ∀ base : Heap, K.In base → base.Ns mainGlobals mg → FnG P w K mg base k fa fd [x] sp)
    (bind : ∀ (s : Shared) (u : Value), BindsTo s fd ⟨[u], []⟩ [(x, u)]) (H : Hp) (only : Only H) (held : HOk P w H s.heap) (alone : ∀ b, H b ≠ none → b = a) (away : H a ≠ none → K.lookup a = none)
    (want : sp [.ref a] H (fun v _ => v = .bl true) E0) :
    codeAny (model P w) callerA (.call (.ref fa) ⟨[.ref a], []⟩) (fun r s' => r = .ok (.ret (.bool true)) ∧ OldK s.heap s'.heap ∧ s'.os = s.os ∧ AllBare s'.gens) s := by
  have free : ∀ {b : Addr} {o : Obj}, s.heap.get? b = some o → (b = a → o ≠ { cls := .type "list", data := .seq vs.toArray }) → H b = none := fun {b o} e far => by
    cases q : H b with
    | none => rfl
    | some u =>
      have here : b = a := alone b (by rw [q]; exact nofun)
      refine absurd ?_ (far here)
      rw [here, obj] at e
      exact (Option.some.inj e).symm
  have space : ∀ {b : Addr} {m : Str → Option Value}, s.heap.Ns b m → (hidT s.heap H).Ns b m := fun {b m} ⟨o, es, ep, e, d, more⟩ =>
    ⟨o, es, ep, hidT_get e (free e fun _ same => by rw [same] at d; exact nomatch d), d, more⟩
  have baseK : K.In (hidT s.heap H) := fun b o e => hidT_get (inK b o e) (by
    cases q : H b with
    | none => rfl
    | some u =>
      have here : b = a := alone b (by rw [q]; exact nofun)
      have no := away (by rw [← here, q]; exact nofun)
      rw [here, no] at e
      exact nomatch e)
  have lim : (hidT s.heap H).NoLimit := by
    obtain ⟨mc, h1, h2⟩ := noLim
    exact ⟨mc, space h1, h2⟩
  have modu : Mod K mg (hidT s.heap H) := ⟨baseK, space mains, ⟨mb, space blts, boot⟩, lim⟩
  have e0 : Env0 P w K mg (hidT s.heap H) callerA [] s H := ⟨rfl, modu, fun _ _ e => of_hidT e, Nat.le_of_eq (hidT_size _ _), trivial, (fun _ hb => absurd (show _ ∈ ([] : List Addr) from hb) List.not_mem_nil), held, .of_eq gens⟩
  refine codeAny_mono ((goesF _ baseK (space mains)).goes callerA [] s H [.ref a] [.ref a] _ E0 rfl room e0 (bind s (.ref a)) (.cons rfl .nil) want) fun r s' got => ?_
  cases r with
  | error _ => exact False.elim got
  | ok flow =>
  cases flow with
  | next => exact False.elim got
  | brk => exact False.elim got
  | cont => exact False.elim got
  | ret u =>
    obtain ⟨v, H', sameOs, bare, un, held', rel, yes⟩ := got
    have yes' : v = .bl true := yes
    subst yes'
    obtain rfl : u = Value.bool true := rel
    refine ⟨rfl, OldK.of_keep fun b o e => ?_, sameOs, bare⟩
    rcases only b with free | ⟨ob, xs, fz⟩
    · exact un.keep b o e free (fun z => nomatch z) (fun z => nomatch z)
    · obtain ⟨e1, _⟩ := held b _ fz
      obtain ⟨e2, _⟩ := held' b _ (un.frzs b ob _ fz)
      rw [e2, ← e1, e]
/-- .. from the script as it lies -/
theorem end_call (inK : K.In s.heap) (mains : s.heap.Ns mainGlobals mg) (blts : s.heap.Ns builtinsNs mb) (boot : ∀ y : Str, y ≠ "__name__" → mb y = bootBuiltins y) (noLim : s.heap.NoLimit) (gens : s.gens = #[])
    (obj : s.heap.get? a = some { cls := .type "list", data := .seq vs.toArray }) (numbs : PyProof.Rows.IntsAre vs ns) (small : ns.length ≤ sizeLine) (room : Room k callerA)
    (goesF : ∀ base : Heap, K.In base → base.Ns mainGlobals mg → FnG P w K mg base k fa fd [x] sp) (bind : ∀ (s : Shared) (u : Value), BindsTo s fd ⟨[u], []⟩ [(x, u)])
    (want : ∀ H : Hp, Only H → SqL K H a (ns.map V.int) → sp [.ref a] H (fun v _ => v = .bl true) E0) :
    codeAny (model P w) callerA (.call (.ref fa) ⟨[.ref a], []⟩) (fun r s' => r = .ok (.ret (.bool true)) ∧ OldK s.heap s'.heap ∧ s'.os = s.os ∧ AllBare s'.gens) s := by
  have rel := vals_ints numbs
  cases hk : K.lookup a with
  | some o =>
    have e := inK a o hk
    rw [obj] at e
    obtain rfl := Option.some.inj e
    have only : Only fun _ => none := fun _ => Or.inl rfl
    have held : HOk P w (fun _ => none) s.heap := fun _ _ z => nomatch z
    refine end_from inK mains blts boot noLim gens obj room goesF bind (fun _ => none) only held (fun _ z => absurd rfl z) (fun z => absurd rfl z) (want _ only ?_)
    exact Or.inr ⟨_, vs.toArray, _, hk, rfl, rfl, rfl, by rw [List.size_toArray, numbs.length]; exact small, by simpa using rel⟩
  | none =>
    let one : Hp := upd (fun _ => none) a (.frz { cls := .type "list", data := .seq vs.toArray } (.lst (ns.map V.int)))
    have at_a : one a = some (.frz { cls := .type "list", data := .seq vs.toArray } (.lst (ns.map V.int))) := upd_same
    have off_a : ∀ b, b ≠ a → one b = none := fun b hb => upd_ne hb
    have only : Only one := fun b => by
      by_cases hb : b = a
      · subst hb
        exact Or.inr ⟨_, _, at_a⟩
      · exact Or.inl (off_a b hb)
    have held : HOk P w one s.heap := fun b u z => by
      by_cases hb : b = a
      · subst hb
        rw [at_a] at z
        obtain rfl := Option.some.inj z
        exact ⟨obj, by rw [List.length_map]; exact small, vs, _, rel, obj⟩
      · rw [off_a b hb] at z
        exact nomatch z
    exact end_from inK mains blts boot noLim gens obj room goesF bind one only held (fun b z => Classical.byContradiction fun hb => z (off_a b hb)) (fun _ => hk) (want _ only (.inl (.inr ⟨_, at_a⟩)))
end
/-- what is left of the statement behind the head -/
theorem walk_G {l : PySem.W.OpenLaw} {n k : Nat} {q : Program} {loose : List Str} {XP : (Str → Option Value) → Heap → Prop} {YP : World → Heap → Prop} {d : DefRec} {K : Params → PySem.W.Frag} {sp : PySem.W.Frag → Sp} {x : Str}
    (hn : l.most = some n) (small : n ≤ sizeLine) (plain : d.params.defaults = []) (room : Room k callerA) (hY : ∀ (w : World) (h : Heap), YP w h → (K w.params).In h)
    (F : ∀ (w : World) (mg : Str → Option Value) (fa : Addr) (h : Heap), (K w.params).In h → h.Ns mainGlobals mg → mg d.name = some (.ref fa) →
      ∃ fd : FuncData, (∀ (s : Shared) (u : Value), BindsTo s fd ⟨[u], []⟩ [(x, u)]) ∧ ∀ base : Heap, (K w.params).In base → base.Ns mainGlobals mg → FnG l.prog w (K w.params) mg base k fa fd [x] (sp (K w.params)))
    (want : ∀ (K : PySem.W.Frag) (H : Hp) (a : Addr) (ns : List Int), ns.length ≤ n → Only H → SqL K H a (ns.map V.int) → sp K [.ref a] H (fun v _ => v = .bl true) E0) :
    PySem.W.WalkO q loose XP YP l.row.toRowW d [] (fun f vs => PySem.call f vs) := by
  refine Att.attach_call hn plain fun w s0 s1 mg mb fa o pm cd doc a vs ns ground told ho hd hcd hmg obj numbs many gens => ?_
  have inK := hY w _ told
  obtain ⟨fd, bind, goesF⟩ := F w mg fa _ inK ground.T.g hmg
  exact end_call inK ground.T.g ground.T.b ground.T.builtins ground.T.nolimit gens obj numbs (Nat.le_trans many small) room goesF bind fun H only held => want (K w.params) H a ns many only held
end LG
/-! ### sizes of data, data of tuples, heaps -/
namespace LG
open PySem PySem.Spec PyProof.Rows L2
/-- data whose text is short: at most m parts, h deep -/
def Sized (m h : Nat) (d : PyData) : Prop := d.leavesShort 40 = true ∧ d.showable = true ∧ d.depth ≤ h ∧ d.bulk ≤ m
theorem Sized.more {m m' h h' : Nat} {d : PyData} (s : Sized m h d) (hm : m ≤ m') (hh : h ≤ h') : Sized m' h' d := ⟨s.1, s.2.1, Nat.le_trans s.2.2.1 hh, Nat.le_trans s.2.2.2 hm⟩
theorem sized_all {m h : Nat} : ∀ {ds : List PyData}, (∀ d ∈ ds, Sized m h d) → PyData.leavesShortAll 40 ds = true ∧ PyData.showableAll ds = true ∧ PyData.depthAll ds ≤ h ∧ PyData.bulkAll ds ≤ ds.length * (m + 1)
  | [], _ => ⟨by simp only [PyData.leavesShortAll], by simp only [PyData.showableAll], by simp only [PyData.depthAll]; omega, by simp only [PyData.bulkAll]; omega⟩
  | d :: ds, hd => by
    obtain ⟨a1, a2, a3, a4⟩ := hd d List.mem_cons_self
    obtain ⟨b1, b2, b3, b4⟩ := sized_all fun e he => hd e (List.mem_cons_of_mem _ he)
    refine ⟨by simp only [PyData.leavesShortAll, a1, b1, Bool.and_self], by simp only [PyData.showableAll, a2, b2, Bool.and_self], by simp only [PyData.depthAll]; omega, ?_⟩
    simp only [PyData.bulkAll, List.length_cons, Nat.add_mul, Nat.one_mul] at b4 ⊢
    omega
theorem sized_tup {m h : Nat} {ds : List PyData} (hd : ∀ d ∈ ds, Sized m h d) : Sized (ds.length * (m + 1)) (h + 1) (.tuple ds) := by
  obtain ⟨a1, a2, a3, a4⟩ := sized_all hd
  exact ⟨by simpa only [PyData.leavesShort] using a1, by simpa only [PyData.showable] using a2, by simp only [PyData.depth]; omega, by simpa only [PyData.bulk] using a4⟩
theorem sized_lst {m h : Nat} {ds : List PyData} (hd : ∀ d ∈ ds, Sized m h d) : Sized (ds.length * (m + 1)) (h + 1) (.list ds) := by
  obtain ⟨a1, a2, a3, a4⟩ := sized_all hd
  exact ⟨by simpa only [PyData.leavesShort] using a1, by simpa only [PyData.showable] using a2, by simp only [PyData.depth]; omega, by simpa only [PyData.bulk] using a4⟩
theorem sized_non : Sized 0 0 .none := ⟨by simp only [PyData.leavesShort], by simp only [PyData.showable], by simp only [PyData.depth]; omega, by simp only [PyData.bulk]; omega⟩
theorem sized_bl (b : Bool) : Sized 0 0 (.bool b) := ⟨by simp only [PyData.leavesShort], by simp only [PyData.showable], by simp only [PyData.depth]; omega, by simp only [PyData.bulk]; omega⟩
/-- an int of few digits -/
theorem sized_int {i : Int} (h : i.natAbs < 10 ^ 39) : Sized 0 0 (.int i) := by
  have short : (PyData.shown (.int i)).length ≤ 40 := by
    simp only [PyData.shown]
    show (Str.ofString (toString i)).length ≤ 40
    rw [PySem.ofString_length]
    exact int_text_length_le10 (by decide) h
  refine ⟨by simpa only [PyData.leavesShort, decide_eq_true_eq] using short, ?_, by simp only [PyData.depth]; omega, by simp only [PyData.bulk]; omega⟩
  simp only [PyData.showable, decide_eq_true_eq]
  by_cases z : i.natAbs = 0
  · rw [z]; decide
  · exact Nat.lt_of_lt_of_le ((Nat.log2_lt z).mpr (Nat.lt_of_lt_of_le h (by decide : 10 ^ 39 ≤ 2 ^ 130))) (by decide)
/-- what repr asks -/
theorem Sized.rep {m h : Nat} {d : PyData} (s : Sized m h d) (hm : m ≤ 390000) (hh : h ≤ 60) : d.showable = true ∧ d.depth ≤ 60 ∧ d.shown.length ≤ sizeLine := by
  refine ⟨s.2.1, Nat.le_trans s.2.2.1 hh, ?_⟩
  have z := PyData.shown_le_bulk 40 (by decide) d s.1
  have z2 := s.2.2.2
  rw [sizeLine_eq]
  omega
/-- tuples stay -/
def TupsStay (H H' : Hp) : Prop := ∀ b o, (∃ xs, o = .tup xs) ∨ (∃ ob xs, o = .frz ob (.tup xs)) → H b = some o → H' b = some o
theorem TupsStay.trans {H H1 H2 : Hp} (a : TupsStay H H1) (b : TupsStay H1 H2) : TupsStay H H2 := fun c o h e => b c o h (a c o h e)
theorem TupsStay.refl (H : Hp) : TupsStay H H := fun _ _ _ e => e
theorem _root_.L2.Same.tups {H H' : Hp} (s : Same H H') : TupsStay H H' := fun b o _ e => s b o e
theorem TupsStay.seq {K : PySem.W.Frag} {H H' : Hp} {a : Addr} {xs : List V} (t : TupsStay H H') (h : SqT K H a xs) : SqT K H' a xs := by
  rcases h with (h | ⟨o, h⟩) | h
  · exact .inl (.inl (t _ _ (.inl ⟨_, rfl⟩) h))
  · exact .inl (.inr ⟨o, t _ _ (.inr ⟨_, _, rfl⟩) h⟩)
  · exact .inr h
theorem _root_.L2.Same.seqT {K : PySem.W.Frag} {H H' : Hp} {a : Addr} {xs : List V} (s : Same H H') (h : SqT K H a xs) : SqT K H' a xs := (Same.tups s).seq h
theorem tups_lst {H : Hp} {p : Addr} {xs ys : List V} (h : H p = some (.lst xs)) : TupsStay H (upd H p (.lst ys)) := fun b o hk e => by
  rw [upd_ne (ne_of e h ?_)]
  · exact e
  · rcases hk with ⟨_, rfl⟩ | ⟨_, _, rfl⟩ <;> exact nofun
theorem same_new {H : Hp} {p : Addr} (h : H p = none) (o : HO) : Same H (upd H p o) := fun b u e => by
  rw [upd_ne (ne_of_none e h)]
  exact e
/-- a list that was made since changes -/
theorem same_own {H H' : Hp} {p : Addr} (s : Same H H') (h : H p = none) (o : HO) : Same H (upd H' p o) := fun b u e => by
  rw [upd_ne (ne_of_none e h)]
  exact s b u e
mutual
/-- data without lists -/
inductive Dt (K : PySem.W.Frag) (H : Hp) : V → PyData → Prop
  | non : Dt K H .non .none
  | bl (b : Bool) : Dt K H (.bl b) (.bool b)
  | int (i : Int) : Dt K H (.int i) (.int i)
  | str (x : Str) : Dt K H (.str x) (.str x)
  | tup {a : Addr} {xs : List V} {ds : List PyData} : SqT K H a xs → DtAll K H xs ds → Dt K H (.ref a) (.tuple ds)
inductive DtAll (K : PySem.W.Frag) (H : Hp) : List V → List PyData → Prop
  | nil : DtAll K H [] []
  | cons {v : V} {vs : List V} {d : PyData} {ds : List PyData} : Dt K H v d → DtAll K H vs ds → DtAll K H (v :: vs) (d :: ds)
end
section
variable {K : PySem.W.Frag} {H H' : Hp}
mutual
theorem Dt.dp : ∀ {v : V} {d : PyData}, Dt K H v d → Dp K H v d
  | _, _, .non => .non
  | _, _, .bl b => .bl b
  | _, _, .int i => .int i
  | _, _, .str x => .str x
  | _, _, .tup h a => .tup h a.dp
theorem DtAll.dp : ∀ {vs : List V} {ds : List PyData}, DtAll K H vs ds → DpAll K H vs ds
  | _, _, .nil => .nil
  | _, _, .cons h a => .cons h.dp a.dp
end
mutual
theorem Dt.stay (t : TupsStay H H') : ∀ {v : V} {d : PyData}, Dt K H v d → Dt K H' v d
  | _, _, .non => .non
  | _, _, .bl b => .bl b
  | _, _, .int i => .int i
  | _, _, .str x => .str x
  | _, _, .tup h a => .tup (t.seq h) (a.stay t)
theorem DtAll.stay (t : TupsStay H H') : ∀ {vs : List V} {ds : List PyData}, DtAll K H vs ds → DtAll K H' vs ds
  | _, _, .nil => .nil
  | _, _, .cons h a => .cons (h.stay t) (a.stay t)
end
theorem DtAll.len : ∀ {vs : List V} {ds : List PyData}, DtAll K H vs ds → vs.length = ds.length
  | _, _, .nil => rfl
  | _, _, .cons _ a => by rw [List.length_cons, List.length_cons, a.len]
theorem DtAll.at : ∀ {vs : List V} {ds : List PyData} {i : Nat} {d : PyData}, DtAll K H vs ds → ds[i]? = some d → ∃ v, vs[i]? = some v ∧ Dt K H v d
  | _, _, _, _, .nil, e => by simp at e
  | _, _, 0, _, .cons h _, e => by simp at e; subst e; exact ⟨_, rfl, h⟩
  | _, _, i + 1, d, .cons _ a, e => by simpa using a.at (i := i) (by simpa using e)
theorem DtAll.of : ∀ {vs : List V} {ds : List PyData} {i : Nat} {v : V}, DtAll K H vs ds → vs[i]? = some v → ∃ d, ds[i]? = some d ∧ Dt K H v d
  | _, _, _, _, .nil, e => by simp at e
  | _, _, 0, _, .cons h _, e => by simp at e; subst e; exact ⟨_, rfl, h⟩
  | _, _, i + 1, d, .cons _ a, e => by simpa using a.of (i := i) (by simpa using e)
theorem DtAll.app : ∀ {vs ws : List V} {ds es : List PyData}, DtAll K H vs ds → DtAll K H ws es → DtAll K H (vs ++ ws) (ds ++ es)
  | _, _, _, _, .nil, b => b
  | _, _, _, _, .cons h a, b => .cons h (a.app b)
theorem DtAll.take : ∀ {vs : List V} {ds : List PyData} (n : Nat), DtAll K H vs ds → DtAll K H (vs.take n) (ds.take n)
  | _, _, 0, _ => .nil
  | _, _, _ + 1, .nil => .nil
  | _, _, n + 1, .cons h a => .cons h (a.take n)
theorem DtAll.drop : ∀ {vs : List V} {ds : List PyData} (n : Nat), DtAll K H vs ds → DtAll K H (vs.drop n) (ds.drop n)
  | _, _, 0, a => a
  | _, _, _ + 1, .nil => .nil
  | _, _, n + 1, .cons _ a => a.drop n
theorem DtAll.ints : ∀ (ns : List Int), DtAll K H (ns.map V.int) (ns.map PyData.int)
  | [] => .nil
  | n :: ns => .cons (.int n) (DtAll.ints ns)
theorem item_of {ns : List Int} {i : Nat} {y : V} (hi : (ns.map V.int)[i]? = some y) : ∃ z, ns[i]? = some z ∧ y = V.int z := by
  rw [List.getElem?_map] at hi
  cases e : ns[i]? with
  | none => rw [e] at hi; cases hi
  | some z => rw [e] at hi; exact ⟨z, rfl, (Option.some.inj hi).symm⟩
theorem take_more {α : Type} : ∀ {l : List α} {i : Nat} {x : α}, l[i]? = some x → l.take (i + 1) = l.take i ++ [x]
  | [], i, x, h => by simp at h
  | a :: l, 0, x, h => by simp at h; simp [h]
  | a :: l, i + 1, x, h => by
    have ih := take_more (l := l) (i := i) (x := x) (by simpa using h)
    simp [ih]
end
end LG
/-! ### a def of the text with its promise, by its name -/
namespace LG
open PySem PySem.Spec PyProof.Rows L2
/-- the def of this name, the place hidden -/
structure Has (P : Program) (w : World) (K : PySem.W.Frag) (mg : Str → Option Value) (base : Heap) (CX : CXT) (k : Nat) (x : Str) (ps : List Str) (sp : Sp) : Prop where
  ex : ∃ (f : Addr) (fd : FuncData), FnOk P w K mg base CX k f fd ps sp ∧ mg x = some (.ref f) ∧ PySem.W.keepIn K (.ref f) = true ∧ Binds K fd ps []
structure HasG (P : Program) (w : World) (K : PySem.W.Frag) (mg : Str → Option Value) (base : Heap) (k : Nat) (x : Str) (ps : List Str) (sp : Sp) : Prop where
  ex : ∃ (f : Addr) (fd : FuncData), FnG P w K mg base k f fd ps sp ∧ mg x = some (.ref f) ∧ PySem.W.keepIn K (.ref f) = true ∧ Binds K fd ps []
/-- the def as the top has left it -/
structure Def (K : PySem.W.Frag) (mg : Str → Option Value) (x : Str) (st : Stmt) (ps : List Str) : Prop where
  ex : ∃ (f : Addr) (fd : FuncData), Fun K x x st f fd ∧ mg x = some (.ref f) ∧ Binds K fd ps []
section
variable {P : Program} {w : World} {K : PySem.W.Frag} {mg : Str → Option Value} {base : Heap} {CX : CXT} {k : Nat} {x : Str} {ps : List Str} {sp : Sp} {st : Stmt}
theorem Def.has (d : Def K mg x st ps) (h : ∀ (f : Addr) (fd : FuncData), Fun K x x st f fd → FnOk P w K mg base CX k f fd ps sp) : Has P w K mg base CX k x ps sp := by
  obtain ⟨f, fd, F, m, b⟩ := d.ex
  exact ⟨f, fd, h f fd F, m, F.kp, b⟩
theorem Def.hasG (d : Def K mg x st ps) (h : ∀ (f : Addr) (fd : FuncData), Fun K x x st f fd → FnG P w K mg base k f fd ps sp) : HasG P w K mg base k x ps sp := by
  obtain ⟨f, fd, F, m, b⟩ := d.ex
  exact ⟨f, fd, h f fd F, m, F.kp, b⟩
theorem Has.more {j : Nat} (h : Has P w K mg base CX k x ps sp) (hj : k ≤ j) : Has P w K mg base CX j x ps sp := by
  obtain ⟨f, fd, F, r⟩ := h.ex
  exact ⟨f, fd, F.mono hj, r⟩
theorem Has.imp {sp' : Sp} (h : Has P w K mg base CX k x ps sp) (i : ∀ vs H Q E, sp' vs H Q E → sp vs H Q E) : Has P w K mg base CX k x ps sp' := by
  obtain ⟨f, fd, F, r⟩ := h.ex
  exact ⟨f, fd, F.imp i, r⟩
end
section
variable {X : Cx} {k j : Nat} {ps : List Str} {sp : Sp} {x : Str} {p pos : Pos} {e : Expr} {es : List Expr} {t : TA}
/-- its call: nothing is raised -/
theorem pc (h : Has X.prog X.w X.K X.mg X.base CX0 k x ps sp) (hr : Room j X.A) (ha : PA X (e :: es) t) (hg : Gl X x := by rfl) (hj : k ≤ j := by first | decide | omega) (hdb : (x == ("__debug__" : Str)) = false := by decide)
    (he : starEach (e :: es) X.env = (false, eval e X.env) :: starEach es X.env := by rfl) (hpl : (backTo pos (starEach es X.env)).any (·.1) = false := by rfl) : PE X (.Call (.Name x p) (e :: es) [] pos) (tCall sp [] E0 t) := by
  obtain ⟨f, fd, F, m, kp, b⟩ := h.ex
  exact pe_call F (hr.mono hj) hg m kp b .nil pass0 ha hdb he hpl
theorem pcX (h : Has X.prog X.w X.K X.mg X.base (L2.CX X.prog X.w) k x ps sp) (hr : Room j X.A) (ha : PA X (e :: es) t) (hg : Gl X x := by rfl) (hj : k ≤ j := by first | decide | omega) (hdb : (x == ("__debug__" : Str)) = false := by decide)
    (he : starEach (e :: es) X.env = (false, eval e X.env) :: starEach es X.env := by rfl) (hpl : (backTo pos (starEach es X.env)).any (·.1) = false := by rfl) : PE X (.Call (.Name x p) (e :: es) [] pos) (tCall sp [] E0 t) := by
  obtain ⟨f, fd, F, m, kp, b⟩ := h.ex
  exact pe_call F (hr.mono hj) hg m kp b .nil passL ha hdb he hpl
theorem pcG (h : HasG X.prog X.w X.K X.mg X.base k x ps sp) (guard : X.A.guards = some []) (hr : Room j X.A) (ha : PA X (e :: es) t) (hg : Gl X x := by rfl) (hj : k ≤ j := by first | decide | omega) (hdb : (x == ("__debug__" : Str)) = false := by decide)
    (he : starEach (e :: es) X.env = (false, eval e X.env) :: starEach es X.env := by rfl) (hpl : (backTo pos (starEach es X.env)).any (·.1) = false := by rfl) : PE X (.Call (.Name x p) (e :: es) [] pos) (tCall sp [] E0 t) := by
  obtain ⟨f, fd, F, m, kp, b⟩ := h.ex
  exact pe_callG F guard (hr.mono hj) hg m kp b ha hdb he hpl
/-- its call: what it raises leaves this def too -/
theorem pcE {E : XK} (h : Has X.prog X.w X.K X.mg X.base (L2.CX X.prog X.w) k x ps sp) (hr : Room j X.A) (tk : Takes X (fun cls d _ H => E cls d H)) (ha : PA X (e :: es) t) (hg : Gl X x := by rfl) (hj : k ≤ j := by first | decide | omega) (hdb : (x == ("__debug__" : Str)) = false := by decide)
    (he : starEach (e :: es) X.env = (false, eval e X.env) :: starEach es X.env := by rfl) (hpl : (backTo pos (starEach es X.env)).any (·.1) = false := by rfl) : PE X (.Call (.Name x p) (e :: es) [] pos) (tCall sp [] E t) := by
  obtain ⟨f, fd, F, m, kp, b⟩ := h.ex
  exact pe_call F (hr.mono hj) hg m kp b .nil (passes_call tk fun _ _ _ _ z => z) ha hdb he hpl
/-- its call within a try's body: what it raises is wished for -/
theorem pcS {W : WX} (h : Has X.prog X.w X.K X.mg X.base (L2.CX X.prog X.w) k x ps sp) (hr : Room j X.A) (tk : Takes X W) (ha : PA X (e :: es) t) (hg : Gl X x := by rfl) (hj : k ≤ j := by first | decide | omega) (hdb : (x == ("__debug__" : Str)) = false := by decide)
    (he : starEach (e :: es) X.env = (false, eval e X.env) :: starEach es X.env := by rfl) (hpl : (backTo pos (starEach es X.env)).any (·.1) = false := by rfl) : PE X (.Call (.Name x p) (e :: es) [] pos) (tCallS sp (WE W) t) := by
  obtain ⟨f, fd, F, m, kp, b⟩ := h.ex
  exact pe_callS F (hr.mono hj) hg m kp b (fun σ => passAt tk σ) ha hdb he hpl
end
/-! ### places in lists of ints -/
theorem ix_of {n : Nat} {i : Int} (h0 : 0 ≤ i) (h1 : i < n) : ixN n i = some i.toNat := by
  unfold ixN
  rw [if_pos h0, if_pos h1]
theorem at_int {ns : List Int} {i : Int} (h0 : 0 ≤ i) (h1 : i < ns.length) : ∃ z, ns[i.toNat]? = some z ∧ z ∈ ns ∧ atI (ns.map V.int) i = some (.int z) := by
  have lt : i.toNat < ns.length := by omega
  refine ⟨ns[i.toNat], by simp, List.getElem_mem _, ?_⟩
  refine at_of (j := i.toNat) (by omega) ?_
  rw [List.getElem?_map]
  simp
theorem dec_t {p : Prop} [Decidable p] (h : decide p = true) : p := of_decide_eq_true h
theorem dec_f {p : Prop} [Decidable p] (h : ¬ decide p = true) : ¬ p := fun z => h (decide_eq_true z)
end LG
namespace LG
open PySem PySem.Spec PyProof.Rows L2
section
variable {X : Cx}
/-- == and != of ints -/
theorem op_eqi : OpR X (compareOp .Eq) (rI0 fun i j => .bl (decide (i = j))) := by
  intro pins s σ H x y v u Q inv rx ry want
  obtain ⟨i, j, rfl, rfl, q⟩ := want
  refine op_eq pins s σ H _ _ v u Q inv rx ry ⟨rfl, ?_⟩
  rw [show decide (V.int i = V.int j) = decide (i = j) from decide_eq_decide.mpr ⟨fun z => V.int.inj z, fun z => congrArg V.int z⟩]
  exact q
theorem op_nei : OpR X (compareOp .NotEq) (rI0 fun i j => .bl (!decide (i = j))) := by
  intro pins s σ H x y v u Q inv rx ry want
  obtain ⟨i, j, rfl, rfl, q⟩ := want
  refine op_ne pins s σ H _ _ v u Q inv rx ry ⟨rfl, ?_⟩
  rw [show decide (V.int i = V.int j) = decide (i = j) from decide_eq_decide.mpr ⟨fun z => V.int.inj z, fun z => congrArg V.int z⟩]
  exact q
/-- == and != of texts -/
theorem op_eqs : OpR X (compareOp .Eq) (fun x y H Q => ∃ a b, x = .str a ∧ y = .str b ∧ Q (.bl (decide (a = b))) H) := by
  intro pins s σ H x y v u Q inv rx ry want
  obtain ⟨i, j, rfl, rfl, q⟩ := want
  refine op_eq pins s σ H _ _ v u Q inv rx ry ⟨rfl, ?_⟩
  rw [show decide (V.str i = V.str j) = decide (i = j) from decide_eq_decide.mpr ⟨fun z => V.str.inj z, fun z => congrArg V.str z⟩]
  exact q
theorem op_nes : OpR X (compareOp .NotEq) (fun x y H Q => ∃ a b, x = .str a ∧ y = .str b ∧ Q (.bl (!decide (a = b))) H) := by
  intro pins s σ H x y v u Q inv rx ry want
  obtain ⟨i, j, rfl, rfl, q⟩ := want
  refine op_ne pins s σ H _ _ v u Q inv rx ry ⟨rfl, ?_⟩
  rw [show decide (V.str i = V.str j) = decide (i = j) from decide_eq_decide.mpr ⟨fun z => V.str.inj z, fun z => congrArg V.str z⟩]
  exact q
end
/-! ### parts of tuples -/
theorem cut_last (xs : List V) (v : V) : cutV (xs ++ [v]) none (some (-1)) = xs := by
  unfold cutV HT.sIx
  simp only [List.length_append, List.length_singleton]
  rw [if_pos (by decide)]
  rw [List.drop_zero, show ((-1 + ((xs.length + 1 : Nat) : Int)).toNat - 0) = xs.length from by omega]
  simp
theorem cut_last_whole (xs : List V) (v : V) : ¬ (HT.sIx (xs ++ [v]).length 0 none = 0 ∧ HT.sIx (xs ++ [v]).length (xs ++ [v]).length (some (-1)) = (xs ++ [v]).length) := by
  unfold HT.sIx
  simp only [List.length_append, List.length_singleton]
  rw [if_pos (by decide)]
  omega
theorem cut_to (xs : List V) (n : Nat) : cutV xs none (some (n : Int)) = xs.take n := by
  unfold cutV
  rw [HT.sIx_none, HT.sIx_nat, List.drop_zero, Nat.sub_zero]
  rcases Nat.le_total n xs.length with h | h
  · rw [Nat.min_eq_left h]
  · rw [Nat.min_eq_right h, List.take_of_length_le (Nat.le_refl _), List.take_of_length_le h]
theorem cut_from (xs : List V) (n : Nat) : cutV xs (some (n : Int)) none = xs.drop n := by
  unfold cutV
  rw [HT.sIx_none, HT.sIx_nat]
  rcases Nat.le_total n xs.length with h | h
  · rw [Nat.min_eq_left h, List.take_of_length_le (by rw [List.length_drop]; exact Nat.le_refl _)]
  · rw [Nat.min_eq_right h, List.drop_of_length_le (Nat.le_refl _), List.drop_of_length_le h, List.take_nil]
/-- a slice of a tuple: the tuple itself, or a new one, of these items -/
def rCut (K : PySem.W.Frag) : V → Option Int → Option Int → Hp → VK → Prop := fun x lo hi H Q => ∃ a xs, x = .ref a ∧ SqT K H a xs ∧
  ∀ p H', Same H H' → SqT K H' p (cutV xs lo hi) → Q (.ref p) H'
theorem sl_cut {X : Cx} : SlR X (rCut X.K) := by
  intro pins s σ H x v vl vu lo hi sl Q inv rx hs pl pu want
  obtain ⟨a, xs, rfl, hx, q⟩ := want
  refine sl_tupA pins s σ H _ v vl vu lo hi sl Q inv rx hs pl pu ⟨a, xs, rfl, hx, fun whole => q a H (Same.refl H) ?_, fun _ p hp => q p _ (same_new hp _) (SqT.of upd_same)⟩
  have e : cutV xs lo hi = xs := by
    unfold cutV
    rw [whole.1, whole.2, List.drop_zero, Nat.sub_zero, List.take_of_length_le (Nat.le_refl _)]
  rw [e]
  exact hx
/-- t + u: one of the two, or a new tuple, of these items -/
def rPlus (K : PySem.W.Frag) : R2 := fun x y H Q => ∃ a b xs ys, x = .ref a ∧ y = .ref b ∧ SqT K H a xs ∧ SqT K H b ys ∧ xs.length + ys.length ≤ sizeLine ∧
  ∀ p H', Same H H' → SqT K H' p (xs ++ ys) → Q (.ref p) H'
theorem op_plus {X : Cx} : OpR X (binaryOp .Add) (rPlus X.K) := by
  intro pins s σ H x y v u Q inv rx ry want
  obtain ⟨a, b, xs, ys, rfl, rfl, ha, hb, hz, q⟩ := want
  refine op_catA pins s σ H _ _ v u Q inv rx ry ⟨a, b, xs, ys, rfl, rfl, ha, hb, hz, fun e => q b H (Same.refl H) ?_, fun _ e => q a H (Same.refl H) ?_, fun _ _ p hp => q p _ (same_new hp _) (SqT.of upd_same)⟩
  · rw [e]
    exact hb
  · rw [e, List.append_nil]
    exact ha
theorem small16 {n : Nat} (h : n ≤ 100000) : n ≤ sizeLine := Nat.le_trans h (by decide)
end LG
/-! ### error classes of the text -/
namespace LG
open PySem PySem.Spec PyProof.Rows L2
/-- the class of this name over ValueError -/
structure Err (K : PySem.W.Frag) (mg : Str → Option Value) (x : Str) (C : Addr) : Prop where
  xi : PySem.W.excIn K C [.type "ValueError", .type "Exception", .type "BaseException", .type "object"] "ValueError.__new__" = true
  g : mg x = some (.ref C)
  k : PySem.W.keepIn K (.ref C) = true
  b : PySem.W.subIn K (.ref C) (.type "BaseException") = some true
  t : PySem.W.typeIn K (.ref C) = some (.type "type")
/-- what a clause for the class at D makes of an error of the class at C -/
theorem exm_of2 {K : PySem.W.Frag} {C D : Addr} {r : Bool} (h1 : PySem.W.subIn K (.ref D) (.type "BaseException") = some true) (h2 : PySem.W.isClsIn K D = true) (h3 : PySem.W.typeIn K (.ref D) = some (.type "type")) (h4 : PySem.W.subIn K (.ref C) (.ref D) = some r) :
    PySem.W.exmOne K (.ref C) (.ref D) = some r := by
  show (if (PySem.W.subIn K (.ref D) (.type "BaseException") == some true) = true then (if (PySem.W.isClsIn K D && PySem.W.typeIn K (.ref D) == some (.type "type")) = true then PySem.W.subIn K (.ref C) (.ref D) else none) else none) = some r
  rw [h1, h2, h3, h4]
  rfl
end LG
/-! ### the hand from which the law takes its draws -/
namespace LG
open PySem PySem.Spec PyProof.Rows L2
/-- hand at h: the draws at d, how many were taken -/
def Hand (H : Hp) (h d : Addr) (ds : List Int) (n : Nat) : Prop := H h = some (.lst [.ref d, .int n]) ∧ H d = some (.lst (ds.map V.int))
section
variable {H H' : Hp} {h d : Addr} {ds : List Int} {n : Nat}
theorem Hand.ne (x : Hand H h d ds n) : d ≠ h := by
  rintro rfl
  have e := x.1.symm.trans x.2
  cases ds with
  | nil => cases e
  | cons z ds => cases e
theorem Hand.next (x : Hand H h d ds n) : Hand (upd H h (.lst [.ref d, .int ((n + 1 : Nat) : Int)])) h d ds (n + 1) := ⟨upd_same, by rw [upd_ne x.ne]; exact x.2⟩
theorem Hand.same (x : Hand H h d ds n) (s : Same H H') : Hand H' h d ds n := ⟨s _ _ x.1, s _ _ x.2⟩
theorem Hand.tups (x : Hand H h d ds n) : TupsStay H (upd H h (.lst [.ref d, .int ((n + 1 : Nat) : Int)])) := tups_lst x.1
/-- another list stays -/
theorem Hand.keep {a : Addr} {ns : List Int} (x : Hand H h d ds n) (e : H a = some (.lst (ns.map V.int))) : (upd H h (.lst [.ref d, .int ((n + 1 : Nat) : Int)])) a = some (.lst (ns.map V.int)) := by
  rw [upd_ne]
  · exact e
  rintro rfl
  have q := x.1.symm.trans e
  cases ns with
  | nil => cases q
  | cons z ns => cases q
end
end LG
/-! ### data of any kind, outside the places that may change -/
namespace LG
open PySem PySem.Spec PyProof.Rows L2
/-- what lies outside M stays, and all tuples -/
structure Go (M : Addr → Prop) (H H' : Hp) : Prop where
  out : ∀ b o, ¬ M b → H b = some o → H' b = some o
  tups : TupsStay H H'
section
variable {M : Addr → Prop} {H H1 H' : Hp} {K : PySem.W.Frag}
theorem Go.refl (H : Hp) : Go M H H := ⟨fun _ _ _ e => e, TupsStay.refl H⟩
theorem Go.trans (a : Go M H H1) (b : Go M H1 H') : Go M H H' := ⟨fun c o m e => b.out c o m (a.out c o m e), a.tups.trans b.tups⟩
theorem _root_.L2.Same.go (s : Same H H') : Go M H H' := ⟨fun b o _ e => s b o e, s.tups⟩
theorem Go.put {a : Addr} {xs ys : List V} (m : M a) (h : H a = some (.lst xs)) : Go M H (upd H a (.lst ys)) := ⟨fun b u n e => by
  rw [upd_ne (fun z => n (by rw [z]; exact m))]
  exact e, tups_lst h⟩
theorem Go.new {p : Addr} (h : H p = none) (o : HO) : Go M H (L2.upd H p o) := L2.Same.go (same_new h o)
theorem Go.seqL {a : Addr} {xs : List V} (s : Go M H H') (m : ¬ M a) (h : SqL K H a xs) : SqL K H' a xs := by
  rcases h with (h | ⟨o, h⟩) | h
  · exact .inl (.inl (s.out _ _ m h))
  · exact .inl (.inr ⟨o, s.out _ _ m h⟩)
  · exact .inr h
theorem Go.seqT {a : Addr} {xs : List V} (s : Go M H H') (h : SqT K H a xs) : SqT K H' a xs := s.tups.seq h
end
mutual
inductive Dv (M : Addr → Prop) (K : PySem.W.Frag) (H : Hp) : V → PyData → Prop
  | non : Dv M K H .non .none
  | bl (b : Bool) : Dv M K H (.bl b) (.bool b)
  | int (i : Int) : Dv M K H (.int i) (.int i)
  | str (x : Str) : Dv M K H (.str x) (.str x)
  | lst {a : Addr} {xs : List V} {ds : List PyData} : ¬ M a → SqL K H a xs → DvAll M K H xs ds → Dv M K H (.ref a) (.list ds)
  | tup {a : Addr} {xs : List V} {ds : List PyData} : SqT K H a xs → DvAll M K H xs ds → Dv M K H (.ref a) (.tuple ds)
inductive DvAll (M : Addr → Prop) (K : PySem.W.Frag) (H : Hp) : List V → List PyData → Prop
  | nil : DvAll M K H [] []
  | cons {v : V} {vs : List V} {d : PyData} {ds : List PyData} : Dv M K H v d → DvAll M K H vs ds → DvAll M K H (v :: vs) (d :: ds)
end
section
variable {M M' : Addr → Prop} {K : PySem.W.Frag} {H H' : Hp}
mutual
theorem Dv.dp : ∀ {v : V} {d : PyData}, Dv M K H v d → Dp K H v d
  | _, _, .non => .non
  | _, _, .bl b => .bl b
  | _, _, .int i => .int i
  | _, _, .str x => .str x
  | _, _, .lst _ h a => .lst h a.dp
  | _, _, .tup h a => .tup h a.dp
theorem DvAll.dp : ∀ {vs : List V} {ds : List PyData}, DvAll M K H vs ds → DpAll K H vs ds
  | _, _, .nil => .nil
  | _, _, .cons h a => .cons h.dp a.dp
end
mutual
theorem Dv.stay (t : Go M H H') : ∀ {v : V} {d : PyData}, Dv M K H v d → Dv M K H' v d
  | _, _, .non => .non
  | _, _, .bl b => .bl b
  | _, _, .int i => .int i
  | _, _, .str x => .str x
  | _, _, .lst m h a => .lst m (t.seqL m h) (a.stay t)
  | _, _, .tup h a => .tup (t.seqT h) (a.stay t)
theorem DvAll.stay (t : Go M H H') : ∀ {vs : List V} {ds : List PyData}, DvAll M K H vs ds → DvAll M K H' vs ds
  | _, _, .nil => .nil
  | _, _, .cons h a => .cons (h.stay t) (a.stay t)
end
theorem DvAll.len : ∀ {vs : List V} {ds : List PyData}, DvAll M K H vs ds → vs.length = ds.length
  | _, _, .nil => rfl
  | _, _, .cons _ a => by rw [List.length_cons, List.length_cons, a.len]
theorem DvAll.at : ∀ {vs : List V} {ds : List PyData} {i : Nat} {d : PyData}, DvAll M K H vs ds → ds[i]? = some d → ∃ v, vs[i]? = some v ∧ Dv M K H v d
  | _, _, _, _, .nil, e => by simp at e
  | _, _, 0, _, .cons h _, e => by simp at e; subst e; exact ⟨_, rfl, h⟩
  | _, _, i + 1, d, .cons _ a, e => by simpa using a.at (i := i) (by simpa using e)
theorem DvAll.of : ∀ {vs : List V} {ds : List PyData} {i : Nat} {v : V}, DvAll M K H vs ds → vs[i]? = some v → ∃ d, ds[i]? = some d ∧ Dv M K H v d
  | _, _, _, _, .nil, e => by simp at e
  | _, _, 0, _, .cons h _, e => by simp at e; subst e; exact ⟨_, rfl, h⟩
  | _, _, i + 1, d, .cons _ a, e => by simpa using a.of (i := i) (by simpa using e)
theorem DvAll.app : ∀ {vs ws : List V} {ds es : List PyData}, DvAll M K H vs ds → DvAll M K H ws es → DvAll M K H (vs ++ ws) (ds ++ es)
  | _, _, _, _, .nil, b => b
  | _, _, _, _, .cons h a, b => .cons h (a.app b)
theorem DvAll.take : ∀ {vs : List V} {ds : List PyData} (n : Nat), DvAll M K H vs ds → DvAll M K H (vs.take n) (ds.take n)
  | _, _, 0, _ => .nil
  | _, _, _ + 1, .nil => .nil
  | _, _, n + 1, .cons h a => .cons h (a.take n)
theorem DvAll.drop : ∀ {vs : List V} {ds : List PyData} (n : Nat), DvAll M K H vs ds → DvAll M K H (vs.drop n) (ds.drop n)
  | _, _, 0, a => a
  | _, _, _ + 1, .nil => .nil
  | _, _, n + 1, .cons _ a => a.drop n
theorem DvAll.ints : ∀ (ns : List Int), DvAll M K H (ns.map V.int) (ns.map PyData.int)
  | [] => .nil
  | n :: ns => .cons (.int n) (DvAll.ints ns)
/-- the built-in type of data -/
def tyD : PyData → String
  | .none => "NoneType"
  | .bool _ => "bool"
  | .int _ => "int"
  | .str _ => "str"
  | .list _ => "list"
  | .tuple _ => "tuple"
  | .dict _ => "dict"
theorem tyx_lst {a : Addr} {xs : List V} (h : SqL K H a xs) : TyX K H (.ref a) (.type "list") := by
  rcases h with (h | ⟨o, h⟩) | ⟨o, its, n, hk, hc, _⟩
  · exact .base (.lst h)
  · exact .base (.frz h)
  · exact .kList hk hc
theorem tyx_tup {a : Addr} {xs : List V} (h : SqT K H a xs) : TyX K H (.ref a) (.type "tuple") := by
  rcases h with (h | ⟨o, h⟩) | ⟨o, its, n, hk, hc, _⟩
  · exact .base (.tup h)
  · exact .fTuple h
  · exact .kTuple hk hc
theorem Dv.ty {v : V} {d : PyData} (h : Dv M K H v d) : TyX K H v (.type (tyD d)) := by
  cases h with
  | non => exact .base .non
  | bl b => exact .base (.bl b)
  | int i => exact .base (.int i)
  | str x => exact .base (.str x)
  | lst _ h _ => exact tyx_lst h
  | tup h _ => exact tyx_tup h
/-- a dict with few keys, at the top of a value: what repr tells of it -/
def keyD : Key → PyData
  | .inl i => .int i
  | .inr x => .str x
/-- data, or a dict of such without lists -/
inductive Dq (M : Addr → Prop) (K : PySem.W.Frag) (H : Hp) : V → PyData → Prop
  | data {v : V} {d : PyData} : Dv M K H v d → Dq M K H v d
  | dct {a : Addr} {kvs : List (Key × V)} {ds : List PyData} : ¬ M a → H a = some (.dK kvs) → DtAll K H (kvs.map (·.2)) ds → Dq M K H (.ref a) (.dict ((kvs.map fun p => keyD p.1).zip ds))
end
section
variable {M : Addr → Prop} {K : PySem.W.Frag} {H H' : Hp}
mutual
theorem Dt.dv : ∀ {v : V} {d : PyData}, Dt K H v d → Dv M K H v d
  | _, _, .non => .non
  | _, _, .bl b => .bl b
  | _, _, .int i => .int i
  | _, _, .str x => .str x
  | _, _, .tup h a => .tup h a.dv
theorem DtAll.dv : ∀ {vs : List V} {ds : List PyData}, DtAll K H vs ds → DvAll M K H vs ds
  | _, _, .nil => .nil
  | _, _, .cons h a => .cons h.dv a.dv
end
theorem Dq.stay {v : V} {d : PyData} (t : Go M H H') (h : Dq M K H v d) : Dq M K H' v d := by
  cases h with
  | data h => exact .data (h.stay t)
  | dct m h a => exact .dct m (t.out _ _ m h) (a.stay t.tups)
theorem Dq.ty {v : V} {d : PyData} (h : Dq M K H v d) : TyX K H v (.type (tyD d)) := by
  cases h with
  | data h => exact h.ty
  | dct _ h _ => exact .base (.dK h)
end
section
variable {X : Cx} {pins : List (Addr × Obj)} {σ : L2.St} {H : Hp} {s : Shared} {M : Addr → Prop}
mutual
/-- data without lists is read without a list's place -/
theorem Dt.bare (I : Inv X pins σ H s) : ∀ (d : PyData) (v : V) (u : Value), Dt X.K H v d → RelV v u → Reads s.heap u d []
  | .none, _, _, h, r => by
    cases h
    cases r
    exact Reads.none
  | .bool b, _, _, h, r => by
    cases h
    cases r
    exact Reads.bool b
  | .int i, _, _, h, r => by
    cases h
    obtain ⟨t, rfl⟩ := r
    exact Reads.int i t
  | .str x, _, _, h, r => by
    cases h
    obtain ⟨t, rfl⟩ := r
    exact Reads.str x t
  | .tuple ds, _, _, h, r => by
    cases h with
    | tup hs ha =>
      cases r
      obtain ⟨its, rv, ⟨o, ho, hc, n, hd⟩, _⟩ := I.tuple hs
      exact Reads.tuple ho hc hd (DtAll.bare I ds _ its ha rv)
  | .list _, _, _, h, _ => by cases h
  | .dict _, _, _, h, _ => by cases h
theorem DtAll.bare (I : Inv X pins σ H s) : ∀ (ds : List PyData) (vs : List V) (us : List Value), DtAll X.K H vs ds → Vals vs us → ReadsAll s.heap us ds []
  | [], _, _, h, r => by
    cases h
    cases r
    exact ReadsAll.nil
  | d :: ds, _, _, h, r => by
    cases h with
    | cons h1 h2 =>
      cases r with
      | cons r1 r2 => exact ReadsAll.cons (Dt.bare I d _ _ h1 r1) (DtAll.bare I ds _ _ h2 r2)
end
/-- a dict's keys and values -/
theorem pairs_read {P : Program} {w : World} {kvs : List (Key × V)} {vs : List (Key × Value)} {es : List DictEntry} (kv : KV kvs vs) (ps : Pairs (mixKind P w) es vs) :
    Vals (kvs.map fun p => kV p.1) (es.map (·.key)) ∧ Vals (kvs.map (·.2)) (es.map (·.val)) := by
  induction ps generalizing kvs with
  | nil =>
    cases kv
    exact ⟨.nil, .nil⟩
  | cons hk hv _ ih =>
    cases kv with
    | cons r rr =>
      obtain ⟨i1, i2⟩ := ih rr
      obtain ⟨e1, e2⟩ := r
      refine ⟨.cons ?_ i1, .cons ?_ i2⟩
      · rw [← e1] at hk
        have hk' : keyIs _ _ = true := hk
        rcases keyIs_shape hk' with ⟨i, t, e, q⟩ | ⟨x, t, e, q⟩
        · show RelV (kV _) (DictEntry.key _)
          rw [e, q]
          exact ⟨t, rfl⟩
        · show RelV (kV _) (DictEntry.key _)
          rw [e, q]
          exact ⟨t, rfl⟩
      · show RelV (Prod.snd _) (DictEntry.val _)
        rw [hv]
        exact e2
theorem keys_dt {K : PySem.W.Frag} : ∀ kvs : List (Key × V), DtAll K H (kvs.map fun p => kV p.1) (kvs.map fun p => keyD p.1)
  | [] => .nil
  | (.inl i, v) :: r => .cons (.int i) (keys_dt r)
  | (.inr x, v) :: r => .cons (.str x) (keys_dt r)
/-- repr of such data -/
def rRepV (K : PySem.W.Frag) : List V → Hp → VK → Prop := fun xs H Q => ∃ (M : Addr → Prop) (v : V) (d : PyData), xs = [v] ∧ Dq M K H v d ∧ d.showable = true ∧ d.depth ≤ 60 ∧ d.shown.length ≤ sizeLine ∧ Q (.str d.shown) H
theorem call_repV (guard : X.A.guards = some []) (room : X.A.units + 64 < cLine) : CallR X (.builtin "repr") (rRepV X.K) := by
  intro pins s σ H xs us Q inv rel want
  obtain ⟨M, v, d, e, hd, h1, h2, h3, q⟩ := want
  cases hd with
  | data hd => exact call_rep guard room pins s σ H xs us Q inv rel ⟨v, d, e, hd.dp, h1, h2, h3, q⟩
  | @dct a kvs ds _ ha hv =>
    subst e
    cases rel with
    | cons r0 rr =>
      cases rr
      cases r0
      obtain ⟨_, sys, vs, kv, o, es, ep, ho, ex, hdat, _, ps, _⟩ := (show ObjOk X.prog X.w H s.heap a (.dK kvs) from inv.hok a _ ha)
      obtain ⟨r1, r2⟩ := pairs_read kv ps
      have k1 := DtAll.bare inv _ _ _ (keys_dt kvs) r1
      have k2 := DtAll.bare inv _ _ _ hv r2
      have len : (kvs.map fun p => keyD p.1).length = ds.length := by rw [List.length_map, ← hv.len, List.length_map]
      have z1 : ((kvs.map fun p => keyD p.1).zip ds).map (·.1) = kvs.map fun p => keyD p.1 := List.map_fst_zip (by rw [len]; exact Nat.le_refl _)
      have z2 : ((kvs.map fun p => keyD p.1).zip ds).map (·.2) = ds := List.map_snd_zip (by rw [len]; exact Nat.le_refl _)
      have reads : Reads s.heap (.ref a) (.dict ((kvs.map fun p => keyD p.1).zip ds)) (a :: [] ++ []) := Reads.dict ho ex.1 hdat (by rw [z1]; exact k1) (by rw [z2]; exact k2)
      refine repr_of_reads' reads h1 (fun _ mem => ?_) guard (by omega) (fun _ _ z => z) (fun h' u' tk keep => ⟨.str _, H, inv.kept keep, ⟨_, rfl⟩, q⟩) h3
      have e : sysModules = a := by simpa using mem
      rw [e] at sys
      simp at sys
end
end LG
namespace LG
open PySem PySem.Spec PyProof.Rows L2
section
variable {M : Addr → Prop} {K : PySem.W.Frag} {H H' : Hp}
/-- what was made since is changed -/
theorem Go.own {p : Addr} (g : Go M H H') (h : H p = none) (o : HO) : Go M H (L2.upd H' p o) := ⟨fun b u m e => by
  rw [upd_ne (ne_of_none e h)]
  exact g.out b u m e, fun b u k e => by
  rw [upd_ne (ne_of_none e h)]
  exact g.tups b u k e⟩
theorem Hand.off {h d p : Addr} {ds : List Int} {n : Nat} (x : Hand H h d ds n) (hp : p ≠ h) (dp : p ≠ d) (o : HO) : Hand (L2.upd H p o) h d ds n := ⟨by rw [upd_ne hp.symm]; exact x.1, by rw [upd_ne dp.symm]; exact x.2⟩
theorem Hand.go {h d : Addr} {ds : List Int} {n : Nat} (x : Hand H h d ds n) : Go (· = h) H (L2.upd H h (.lst [.ref d, .int ((n + 1 : Nat) : Int)])) := Go.put rfl x.1
theorem Hand.new {h d p : Addr} {ds : List Int} {n : Nat} (x : Hand H h d ds n) (hp : H p = none) (o : HO) : Hand (L2.upd H p o) h d ds n := x.same (same_new hp o)
theorem at_any {α : Type} {xs : List α} {i : Int} (h0 : -(xs.length : Int) ≤ i) (h1 : i < (xs.length : Int)) : ∃ (j : Nat) (y : α), xs[j]? = some y ∧ atI xs i = some y := by
  by_cases h : 0 ≤ i
  · have lt : i.toNat < xs.length := by omega
    refine ⟨i.toNat, xs[i.toNat], by simp [lt], ?_⟩
    unfold atI ixN
    rw [if_pos h, if_pos h1]
    simp [lt]
  · have lt : (i + (xs.length : Int)).toNat < xs.length := by omega
    refine ⟨(i + (xs.length : Int)).toNat, xs[(i + (xs.length : Int)).toNat], by simp [lt], ?_⟩
    unfold atI ixN
    rw [if_neg h, if_pos h0]
    simp [lt]
/-- some item of a row of data -/
theorem DvAll.pick {xs : List V} {ds : List PyData} {i : Int} (a : DvAll M K H xs ds) (h0 : -(ds.length : Int) ≤ i) (h1 : i < (ds.length : Int)) : ∃ y e, atI xs i = some y ∧ e ∈ ds ∧ Dv M K H y e := by
  rw [← a.len] at h0 h1
  obtain ⟨j, y, hj, hy⟩ := at_any h0 h1
  obtain ⟨e, he, d⟩ := a.of hj
  exact ⟨y, e, hy, List.mem_of_getElem? he, d⟩
theorem DtAll.pick {xs : List V} {ds : List PyData} {i : Int} (a : DtAll K H xs ds) (h0 : -(ds.length : Int) ≤ i) (h1 : i < (ds.length : Int)) : ∃ y e, atI xs i = some y ∧ e ∈ ds ∧ Dt K H y e := by
  rw [← a.len] at h0 h1
  obtain ⟨j, y, hj, hy⟩ := at_any h0 h1
  obtain ⟨e, he, d⟩ := a.of hj
  exact ⟨y, e, hy, List.mem_of_getElem? he, d⟩
inductive DqAll (M : Addr → Prop) (K : PySem.W.Frag) (H : Hp) : List V → List PyData → Prop
  | nil : DqAll M K H [] []
  | cons {v : V} {vs : List V} {d : PyData} {ds : List PyData} : Dq M K H v d → DqAll M K H vs ds → DqAll M K H (v :: vs) (d :: ds)
theorem DqAll.len : ∀ {vs : List V} {ds : List PyData}, DqAll M K H vs ds → vs.length = ds.length
  | _, _, .nil => rfl
  | _, _, .cons _ a => by rw [List.length_cons, List.length_cons, a.len]
theorem DqAll.of : ∀ {vs : List V} {ds : List PyData} {i : Nat} {v : V}, DqAll M K H vs ds → vs[i]? = some v → ∃ d, ds[i]? = some d ∧ Dq M K H v d
  | _, _, _, _, .nil, e => by simp at e
  | _, _, 0, _, .cons h _, e => by simp at e; subst e; exact ⟨_, rfl, h⟩
  | _, _, i + 1, d, .cons _ a, e => by simpa using a.of (i := i) (by simpa using e)
theorem DqAll.pick {xs : List V} {ds : List PyData} {i : Int} (a : DqAll M K H xs ds) (h0 : -(ds.length : Int) ≤ i) (h1 : i < (ds.length : Int)) : ∃ y e, atI xs i = some y ∧ e ∈ ds ∧ Dq M K H y e := by
  rw [← a.len] at h0 h1
  obtain ⟨j, y, hj, hy⟩ := at_any h0 h1
  obtain ⟨e, he, d⟩ := a.of hj
  exact ⟨y, e, hy, List.mem_of_getElem? he, d⟩
theorem DqAll.stay (t : Go M H H') : ∀ {vs : List V} {ds : List PyData}, DqAll M K H vs ds → DqAll M K H' vs ds
  | _, _, .nil => .nil
  | _, _, .cons h a => .cons (h.stay t) (a.stay t)
/-- two parts -/
theorem sized_two {m1 m2 h1 h2 : Nat} {a b : PyData} (sa : Sized m1 h1 a) (sb : Sized m2 h2 b) : Sized (m1 + m2 + 2) (max h1 h2 + 1) (.tuple [a, b]) := by
  obtain ⟨a1, a2, a3, a4⟩ := sa
  obtain ⟨b1, b2, b3, b4⟩ := sb
  refine ⟨?_, ?_, ?_, ?_⟩
  · simp only [PyData.leavesShort, PyData.leavesShortAll, a1, b1, Bool.and_self]
  · simp only [PyData.showable, PyData.showableAll, a2, b2, Bool.and_self]
  · simp only [PyData.depth, PyData.depthAll]
    omega
  · simp only [PyData.bulk, PyData.bulkAll]
    omega
theorem sized_str (x : Str) (h : (x.cps.toList.all fun c => decide (c < 16 ^ 8)) = true) (n : Nat) (hn : x.cps.size ≤ n) : Sized n 0 (.str x) := ⟨by simp only [PyData.leavesShort]; exact h, by simp only [PyData.showable], by simp only [PyData.depth]; omega, by simp only [PyData.bulk]; exact hn⟩
end
end LG
/-! ### tuples of ints: order, sorting; membership -/
namespace LG
open PySem PySem.Spec PyProof.Rows L2
/-- a row of ints as data -/
def tupI (r : List Int) : PyData := .tuple (r.map PyData.int)
section
variable {X : Cx}
theorem dp_row {K : PySem.W.Frag} {H : Hp} {a : Addr} {ns : List Int} (h : SqT K H a (ns.map V.int)) : Dp K H (.ref a) (tupI ns) := .tup h (DtAll.ints ns).dp
theorem row_depth (ns : List Int) : (tupI ns).depth = 1 := by
  unfold tupI
  simp only [PyData.depth, PySem.W.depth_ints]
theorem row_lt (ns ms : List Int) : PySem.W.dataLt (tupI ns) (tupI ms) = decide (ns < ms) := by
  rw [← PySem.W.dataLt_ints]
  exact PySem.W.dataLt_tuple _ _
theorem row_alike (ns ms : List Int) : PySem.W.alike (tupI ns) (tupI ms) = true := by
  unfold tupI
  rw [PySem.W.alike]
  exact PySem.W.alike_ints ns ms
/-- x >= y, rows of ints -/
def rGeR (K : PySem.W.Frag) : R2 := fun x y H Q => ∃ (a b : Addr) (ns ms : List Int), x = .ref a ∧ y = .ref b ∧ SqT K H a (ns.map V.int) ∧ SqT K H b (ms.map V.int) ∧ Q (.bl (!decide (ns < ms))) H
theorem op_geR (hu : X.A.units + 64 < cLine) : OpR X (compareOp .GtE) (rGeR X.K) := by
  intro pins s σ H x y v u Q I rx ry h
  obtain ⟨a, b, ns, ms, rfl, rfl, ha, hb, q⟩ := h
  obtain ⟨as, r1⟩ := Dp.reads I _ _ v (dp_row ha) rx
  obtain ⟨bs, r2⟩ := Dp.reads I _ _ u (dp_row hb) ry
  exact PySem.W.ge_data r1 r2 (row_alike ns ms) (by unfold tupI; exact nofun) (by rw [row_depth]; omega) ⟨.bl _, H, I, rfl, by rw [row_lt]; exact q⟩
def rLtR (K : PySem.W.Frag) : R2 := fun x y H Q => ∃ (a b : Addr) (ns ms : List Int), x = .ref a ∧ y = .ref b ∧ SqT K H a (ns.map V.int) ∧ SqT K H b (ms.map V.int) ∧ Q (.bl (decide (ns < ms))) H
theorem op_ltR (hu : X.A.units + 64 < cLine) : OpR X (compareOp .Lt) (rLtR X.K) := by
  intro pins s σ H x y v u Q I rx ry h
  obtain ⟨a, b, ns, ms, rfl, rfl, ha, hb, q⟩ := h
  obtain ⟨as, r1⟩ := Dp.reads I _ _ v (dp_row ha) rx
  obtain ⟨bs, r2⟩ := Dp.reads I _ _ u (dp_row hb) ry
  exact PySem.W.lt_data r1 r2 (row_alike ns ms) (by unfold tupI; exact nofun) (by rw [row_depth]; omega) ⟨.bl _, H, I, rfl, by rw [row_lt]; exact q⟩
/-- x in t, t a tuple of data -/
def rInTD (K : PySem.W.Frag) : R2 := fun x y H Q => ∃ d ds, Dp K H x d ∧ Dp K H y (.tuple ds) ∧ SeqAt.shaped d = true ∧ SeqAt.shaped (.list ds) = true ∧ Q (.bl (ds.any fun z => PyData.eqv z d)) H
theorem op_inTD (hu : X.A.units + 65 < cLine) : OpR X (compareOp .In) (rInTD X.K) := by
  intro pins s σ H x y v u Q I rx ry h
  obtain ⟨d, ds, hd, he, sd, se, q⟩ := h
  obtain ⟨as, r1⟩ := Dp.reads I d x v hd rx
  obtain ⟨bs, r2⟩ := Dp.reads I (.tuple ds) y u he ry
  exact SeqAt.in_tuple_reads r2 r1 (SeqAt.canLay_of_shaped se) (SeqAt.canLay_of_shaped sd) (room_in_shaped sd hu) ⟨.bl _, H, I, rfl, q⟩
/-- the order of sorting -/
def leR (a b : List Int) : Bool := !decide (b < a)
def rSortR (K : PySem.W.Frag) : List V → Hp → VK → Prop := fun vs H Q => ∃ (a : Addr) (xs : List V) (rs : List (List Int)), vs = [V.ref a] ∧ SqL K H a xs ∧ DtAll K H xs (rs.map tupI) ∧ rs.length ≤ 1000 ∧ (∀ r ∈ rs, r ≠ []) ∧
  ∀ (ys : List V) (p : Addr), H p = none → DtAll K H ys ((rs.mergeSort leR).map tupI) → Q (.ref p) (upd H p (.lst ys))
theorem each_of {K : PySem.W.Frag} {H : Hp} : ∀ {rs : List (List Int)} {xs : List V} {us : List Value}, DtAll K H xs (rs.map tupI) → Vals xs us → PySem.W.EachIs (fun u r => ∃ t, u = Value.ref t ∧ SqT K H t (r.map V.int)) us rs
  | [], _, _, h, r => by
    cases h
    cases r
    exact .nil
  | b :: bs, _, _, h, r => by
    cases h with
    | cons h1 h2 =>
      cases r with
      | cons r1 r2 =>
        refine .cons ?_ (each_of h2 r2)
        cases h1 with
        | @tup a ys ds hs ha =>
          cases r1
          refine ⟨a, rfl, ?_⟩
          have e : ys = b.map V.int := by
            clear hs h2 r2
            induction b generalizing ys with
            | nil => cases ha; rfl
            | cons x b ih =>
              cases ha with
              | cons h h' =>
                cases h
                rw [List.map_cons, ← ih h']
          rw [← e]
          exact hs
theorem each_back {K : PySem.W.Frag} {H : Hp} : ∀ {rs : List (List Int)} {us : List Value}, PySem.W.EachIs (fun u r => ∃ t, u = Value.ref t ∧ SqT K H t (r.map V.int)) us rs → ∃ ys, Vals ys us ∧ DtAll K H ys (rs.map tupI)
  | [], _, .nil => ⟨[], .nil, .nil⟩
  | b :: bs, _, .cons ⟨t, e, h⟩ r => by
    obtain ⟨ys, v, d⟩ := each_back r
    subst e
    exact ⟨.ref t :: ys, .cons rfl v, .cons (.tup h (DtAll.ints b)) d⟩
theorem cr_sortR (hu : X.A.units + 64 < cLine) : CallR X (.builtin "sorted") (rSortR X.K) := by
  intro pins s σ H vs us Q I r h
  obtain ⟨a, xs, rs, rfl, hs, hd, hz, ne, q⟩ := h
  obtain ⟨its, rv, hl, hz2⟩ := I.list hs
  rw [Vals.ref1 r]
  have ea := each_of hd rv
  have er : PySem.W.EachIs (fun v b => ∃ as, Reads s.heap v (tupI b) as) its rs := ea.mono fun u b ⟨t, e, ht⟩ => by
    subst e
    exact Dp.reads I _ _ _ (dp_row ht) rfl
  have al : PySem.W.AllAlike (rs.map tupI) := fun d hd d' hd' => by
    obtain ⟨x, _, rfl⟩ := List.mem_map.mp hd
    obtain ⟨y, _, rfl⟩ := List.mem_map.mp hd'
    exact row_alike x y
  have so : PySem.W.Sortable (rs.map tupI) := .inl fun d hd => by
    obtain ⟨x, hx, rfl⟩ := List.mem_map.mp hd
    cases x with
    | nil => exact absurd rfl (ne _ hx)
    | cons i x => exact ⟨_, _, rfl⟩
  refine PySem.W.sorted_data hl.isList ea er al so (Nat.le_trans hz (by decide)) (fun b _ => by rw [row_depth]; omega) fun out hlen hout => ?_
  have eo : PySem.W.dataLe false tupI = leR := by
    rw [PySem.W.dataLe_eq]
    funext x y
    simp only [cond_false, row_lt]
    rfl
  rw [eo] at hout
  obtain ⟨ys, vy, dy⟩ := each_back hout
  obtain ⟨ep, he'⟩ := PyProof.Rows.sortedAll_at s.heap its out.toArray
  have len : ys.length ≤ sizeLine := by
    rw [vy.length, hlen]
    exact Nat.le_trans hz (by decide)
  exact ⟨.ref _, upd H (s.heap.objs.size + 1) (.lst ys), I.laid (t' := s.toks) (fun _ _ => PyProof.Rows.sortedAll_old) (Nat.le_succ _) ⟨len, out, ep, vy, he'⟩, rfl, q _ _ (I.hok.fresh (Nat.le_succ _)) dy⟩
end
end LG
/-! ### data with dicts at any place -/
namespace LG
open PySem PySem.Spec PyProof.Rows L2
mutual
inductive Dn (M : Addr → Prop) (K : PySem.W.Frag) (H : Hp) : V → PyData → Prop
  | non : Dn M K H .non .none
  | bl (b : Bool) : Dn M K H (.bl b) (.bool b)
  | int (i : Int) : Dn M K H (.int i) (.int i)
  | str (x : Str) : Dn M K H (.str x) (.str x)
  | lst {a : Addr} {xs : List V} {ds : List PyData} : ¬ M a → H a = some (.lst xs) → DnAll M K H xs ds → Dn M K H (.ref a) (.list ds)
  | tup {a : Addr} {xs : List V} {ds : List PyData} : SqT K H a xs → DnAll M K H xs ds → Dn M K H (.ref a) (.tuple ds)
  | dct {a : Addr} {kvs : List (Key × V)} {ds : List PyData} : ¬ M a → H a = some (.dK kvs) → DnAll M K H (kvs.map (·.2)) ds → Dn M K H (.ref a) (.dict ((kvs.map fun p => keyD p.1).zip ds))
inductive DnAll (M : Addr → Prop) (K : PySem.W.Frag) (H : Hp) : List V → List PyData → Prop
  | nil : DnAll M K H [] []
  | cons {v : V} {vs : List V} {d : PyData} {ds : List PyData} : Dn M K H v d → DnAll M K H vs ds → DnAll M K H (v :: vs) (d :: ds)
end
section
variable {M M' : Addr → Prop} {K : PySem.W.Frag} {H H' : Hp}
mutual
theorem Dt.dn : ∀ {v : V} {d : PyData}, Dt K H v d → Dn M K H v d
  | _, _, .non => .non
  | _, _, .bl b => .bl b
  | _, _, .int i => .int i
  | _, _, .str x => .str x
  | _, _, .tup h a => .tup h a.dn
theorem DtAll.dn : ∀ {vs : List V} {ds : List PyData}, DtAll K H vs ds → DnAll M K H vs ds
  | _, _, .nil => .nil
  | _, _, .cons h a => .cons h.dn a.dn
end
mutual
theorem Dn.stay (t : Go M H H') : ∀ {v : V} {d : PyData}, Dn M K H v d → Dn M K H' v d
  | _, _, .non => .non
  | _, _, .bl b => .bl b
  | _, _, .int i => .int i
  | _, _, .str x => .str x
  | _, _, .lst m h a => .lst m (t.out _ _ m h) (a.stay t)
  | _, _, .tup h a => .tup (t.seqT h) (a.stay t)
  | _, _, .dct m h a => .dct m (t.out _ _ m h) (a.stay t)
theorem DnAll.stay (t : Go M H H') : ∀ {vs : List V} {ds : List PyData}, DnAll M K H vs ds → DnAll M K H' vs ds
  | _, _, .nil => .nil
  | _, _, .cons h a => .cons (h.stay t) (a.stay t)
end
theorem DnAll.len : ∀ {vs : List V} {ds : List PyData}, DnAll M K H vs ds → vs.length = ds.length
  | _, _, .nil => rfl
  | _, _, .cons _ a => by rw [List.length_cons, List.length_cons, a.len]
theorem DnAll.at : ∀ {vs : List V} {ds : List PyData} {i : Nat} {d : PyData}, DnAll M K H vs ds → ds[i]? = some d → ∃ v, vs[i]? = some v ∧ Dn M K H v d
  | _, _, _, _, .nil, e => by simp at e
  | _, _, 0, _, .cons h _, e => by simp at e; subst e; exact ⟨_, rfl, h⟩
  | _, _, i + 1, d, .cons _ a, e => by simpa using a.at (i := i) (by simpa using e)
theorem DnAll.of : ∀ {vs : List V} {ds : List PyData} {i : Nat} {v : V}, DnAll M K H vs ds → vs[i]? = some v → ∃ d, ds[i]? = some d ∧ Dn M K H v d
  | _, _, _, _, .nil, e => by simp at e
  | _, _, 0, _, .cons h _, e => by simp at e; subst e; exact ⟨_, rfl, h⟩
  | _, _, i + 1, d, .cons _ a, e => by simpa using a.of (i := i) (by simpa using e)
theorem DnAll.app : ∀ {vs ws : List V} {ds es : List PyData}, DnAll M K H vs ds → DnAll M K H ws es → DnAll M K H (vs ++ ws) (ds ++ es)
  | _, _, _, _, .nil, b => b
  | _, _, _, _, .cons h a, b => .cons h (a.app b)
theorem DnAll.take : ∀ {vs : List V} {ds : List PyData} (n : Nat), DnAll M K H vs ds → DnAll M K H (vs.take n) (ds.take n)
  | _, _, 0, _ => .nil
  | _, _, _ + 1, .nil => .nil
  | _, _, n + 1, .cons h a => .cons h (a.take n)
theorem DnAll.drop : ∀ {vs : List V} {ds : List PyData} (n : Nat), DnAll M K H vs ds → DnAll M K H (vs.drop n) (ds.drop n)
  | _, _, 0, a => a
  | _, _, _ + 1, .nil => .nil
  | _, _, n + 1, .cons _ a => a.drop n
theorem DnAll.pick {xs : List V} {ds : List PyData} {i : Int} (a : DnAll M K H xs ds) (h0 : -(ds.length : Int) ≤ i) (h1 : i < (ds.length : Int)) : ∃ y e, atI xs i = some y ∧ e ∈ ds ∧ Dn M K H y e := by
  rw [← a.len] at h0 h1
  obtain ⟨j, y, hj, hy⟩ := at_any h0 h1
  obtain ⟨e, he, d⟩ := a.of hj
  exact ⟨y, e, hy, List.mem_of_getElem? he, d⟩
theorem Dn.ty {v : V} {d : PyData} (h : Dn M K H v d) : TyX K H v (.type (tyD d)) := by
  cases h with
  | non => exact .base .non
  | bl b => exact .base (.bl b)
  | int i => exact .base (.int i)
  | str x => exact .base (.str x)
  | lst _ h _ => exact tyx_lst (SqL.of h)
  | tup h _ => exact tyx_tup h
  | dct _ h _ => exact .base (.dK h)
theorem dn_tup {x : V} {ds : List PyData} (h : Dn M K H x (.tuple ds)) : ∃ a xs, x = .ref a ∧ SqT K H a xs ∧ DnAll M K H xs ds := by
  cases h with
  | tup h1 h2 => exact ⟨_, _, rfl, h1, h2⟩
theorem dn_int {x : V} {i : Int} (h : Dn M K H x (.int i)) : x = .int i := by
  cases h
  rfl
theorem dn_str {x : V} {i : Str} (h : Dn M K H x (.str i)) : x = .str i := by
  cases h
  rfl
/-- without dicts it is the library's data -/
theorem Dn.dp : ∀ (d : PyData) {v : V}, d.hasDict = false → Dn M K H v d → Dp K H v d
  | .none, _, _, .non => .non
  | .bool b, _, _, .bl _ => .bl b
  | .int i, _, _, .int _ => .int i
  | .str x, _, _, .str _ => .str x
  | .list ds, _, n, .lst _ h a => .lst (SqL.of h) (go ds (by simpa only [PyData.hasDict] using n) a)
  | .tuple ds, _, n, .tup h a => .tup h (go ds (by simpa only [PyData.hasDict] using n) a)
  | .dict _, _, n, _ => by simp [PyData.hasDict] at n
where go : ∀ (ds : List PyData) {vs : List V}, PyData.hasDictAll ds = false → DnAll M K H vs ds → DpAll K H vs ds
  | [], _, _, .nil => .nil
  | d :: ds, _, n, .cons h a => by
    simp only [PyData.hasDictAll, Bool.or_eq_false_iff] at n
    exact .cons (Dn.dp d n.1 h) (go ds n.2 a)
/-- the table of modules is no list of ours -/
def Sys (K : PySem.W.Frag) (H : Hp) : Prop := ∃ o u, H sysModules = some (.frz o u)
theorem Sys.same (s : Sys K H) (e : Same H H') : Sys K H' := by
  obtain ⟨o, u, h⟩ := s
  exact ⟨o, u, e _ _ h⟩
theorem Sys.go (s : Sys K H) (e : Go M H H') (m : ¬ M sysModules) : Sys K H' := by
  obtain ⟨o, u, h⟩ := s
  exact ⟨o, u, e.out _ _ m h⟩
theorem Sys.lst (s : Sys K H) {a : Addr} {xs : List V} (h : H a = some (.lst xs)) : sysModules ≠ a := by
  obtain ⟨o, u, e⟩ := s
  rintro rfl
  rw [e] at h
  cases h
theorem Sys.ne (s : Sys K H) {a : Addr} {xs : List V} (h : H a = some (.lst xs)) : ¬ sysModules = a := s.lst h
end
section
variable {X : Cx} {pins : List (Addr × Obj)} {σ : L2.St} {H : Hp} {s : Shared} {M : Addr → Prop}
mutual
theorem Dn.reads (I : Inv X pins σ H s) (S : Sys X.K H) : ∀ {v : V} {d : PyData}, Dn M X.K H v d → ∀ u : Value, RelV v u → ∃ as, Reads s.heap u d as ∧ sysModules ∉ as
  | _, _, .non, _, r => by
    cases r
    exact ⟨_, Reads.none, List.not_mem_nil⟩
  | _, _, .bl b, _, r => by
    cases r
    exact ⟨_, Reads.bool b, List.not_mem_nil⟩
  | _, _, .int i, _, r => by
    obtain ⟨t, rfl⟩ := r
    exact ⟨_, Reads.int i t, List.not_mem_nil⟩
  | _, _, .str x, _, r => by
    obtain ⟨t, rfl⟩ := r
    exact ⟨_, Reads.str x t, List.not_mem_nil⟩
  | _, _, .lst _ hs ha, _, r => by
    cases r
    obtain ⟨its, rv, ⟨o, n, ho, hc, _, hd⟩, _⟩ := I.list (SqL.of hs)
    obtain ⟨as, q1, q2⟩ := DnAll.reads I S ha its rv
    refine ⟨_, Reads.list ho hc hd (by simpa using q1), ?_⟩
    rw [List.mem_cons]
    rintro (e | e)
    · exact S.lst hs e
    · exact q2 e
  | _, _, .tup hs ha, _, r => by
    cases r
    obtain ⟨its, rv, ⟨o, ho, hc, n, hd⟩, _⟩ := I.tuple hs
    obtain ⟨as, q1, q2⟩ := DnAll.reads I S ha its rv
    exact ⟨_, Reads.tuple ho hc hd (by simpa using q1), q2⟩
  | _, _, .dct (a := a) (kvs := kvs) (ds := ds) _ hH ha, _, r => by
    cases r
    obtain ⟨_, sys, vs, kv, o, es, ep, ho, ex, hdat, _, ps, _⟩ := (show ObjOk X.prog X.w H s.heap a (.dK kvs) from I.hok a _ hH)
    obtain ⟨r1, r2⟩ := pairs_read kv ps
    have k1 := DtAll.bare I _ _ _ (keys_dt kvs) r1
    have len : (kvs.map fun p => keyD p.1).length = ds.length := by rw [List.length_map, ← ha.len, List.length_map]
    have z1 : ((kvs.map fun p => keyD p.1).zip ds).map (·.1) = kvs.map fun p => keyD p.1 := List.map_fst_zip (by rw [len]; exact Nat.le_refl _)
    have z2 : ((kvs.map fun p => keyD p.1).zip ds).map (·.2) = ds := List.map_snd_zip (by rw [len]; exact Nat.le_refl _)
    obtain ⟨as, q1, q2⟩ := DnAll.reads I S ha _ r2
    refine ⟨_, Reads.dict ho ex.1 hdat (by rw [z1]; exact k1) (by rw [z2]; exact q1), ?_⟩
    rw [List.mem_append, List.mem_singleton]
    rintro (e | e)
    · rw [← e] at sys
      simp at sys
    · exact q2 e
theorem DnAll.reads (I : Inv X pins σ H s) (S : Sys X.K H) : ∀ {vs : List V} {ds : List PyData}, DnAll M X.K H vs ds → ∀ us : List Value, Vals vs us → ∃ as, ReadsAll s.heap us ds as ∧ sysModules ∉ as
  | _, _, .nil, _, r => by
    cases r
    exact ⟨_, ReadsAll.nil, List.not_mem_nil⟩
  | _, _, .cons h1 h2, _, r => by
    cases r with
    | cons r1 r2 =>
      obtain ⟨as, q1, n1⟩ := Dn.reads I S h1 _ r1
      obtain ⟨bs, q2, n2⟩ := DnAll.reads I S h2 _ r2
      refine ⟨_, ReadsAll.cons q1 q2, ?_⟩
      rw [List.mem_append]
      rintro (e | e)
      · exact n1 e
      · exact n2 e
end
end
section
variable {X : Cx}
/-- repr of such data -/
def rRepN (K : PySem.W.Frag) : List V → Hp → VK → Prop := fun xs H Q => ∃ (M : Addr → Prop) (v : V) (d : PyData), xs = [v] ∧ Dn M K H v d ∧ Sys K H ∧ d.showable = true ∧ d.depth ≤ 60 ∧ d.shown.length ≤ sizeLine ∧ Q (.str d.shown) H
theorem call_repN (guard : X.A.guards = some []) (room : X.A.units + 64 < cLine) : CallR X (.builtin "repr") (rRepN X.K) := by
  intro pins s σ H xs us Q inv rel want
  obtain ⟨M, v, d, rfl, hd, S, h1, h2, h3, q⟩ := want
  cases rel with
  | cons r0 rr =>
  rename_i u us'
  cases rr
  obtain ⟨as, reads, no⟩ := Dn.reads inv S hd u r0
  have dict : d.hasDict = true → sysModules ∉ as := fun _ => no
  cases hd with
  | non =>
    cases r0
    exact PySem.P.repr_of_none ⟨.str _, H, inv.tok _, ⟨_, rfl⟩, by simpa only [PyData.shown] using q⟩
  | bl b =>
    cases r0
    refine PySem.P.repr_of_bool ⟨.str _, H, inv.tok _, ⟨_, rfl⟩, by simpa only [PyData.shown] using q⟩
  | int i =>
    obtain ⟨t, rfl⟩ := r0
    exact PySem.P.repr_of_int (by simpa [PyData.showable] using h1) ⟨.str _, H, inv.tok _, ⟨_, rfl⟩, by simpa only [PyData.shown] using q⟩
  | str x =>
    obtain ⟨t, rfl⟩ := r0
    exact PySem.P.repr_of_str ⟨.str _, H, inv.tok _, ⟨_, rfl⟩, by simpa only [PyData.shown] using q⟩ (by simpa only [PyData.shown] using h3)
  | lst _ _ _ =>
    cases r0
    exact repr_of_reads' reads h1 dict guard (by omega) (fun _ _ z => z) (fun h' u' tk keep => ⟨.str _, H, inv.kept keep, ⟨_, rfl⟩, q⟩) h3
  | tup _ _ =>
    cases r0
    exact repr_of_reads' reads h1 dict guard (by omega) (fun _ _ z => z) (fun h' u' tk keep => ⟨.str _, H, inv.kept keep, ⟨_, rfl⟩, q⟩) h3
  | dct _ _ _ =>
    cases r0
    exact repr_of_reads' reads h1 dict guard (by omega) (fun _ _ z => z) (fun h' u' tk keep => ⟨.str _, H, inv.kept keep, ⟨_, rfl⟩, q⟩) h3
end
end LG
/-! ### the end, the table of modules told apart -/
namespace LG
open PySem PySem.W PySem.Spec PyProof.Rows L2
section
variable {P : Program} {w : World} {K : PySem.W.Frag} {mg mb : Str → Option Value} {k : Nat} {fa a : Addr} {fd : FuncData} {x : Str} {sp : Sp} {s : Shared} {vs : List Value} {ns : List Int}
theorem endS_from (inK : K.In s.heap) (mains : s.heap.Ns mainGlobals mg) (blts : s.heap.Ns builtinsNs mb) (boot : ∀ y : Str, y ≠ "__name__" → mb y = bootBuiltins y) (noLim : s.heap.NoLimit) (gens : s.gens = #[])
    (obj : s.heap.get? a = some { cls := .type "list", data := .seq vs.toArray }) (room : Room k callerA) (goesF : ∀ base : Heap, K.In base → base.Ns mainGlobals mg → FnG P w K mg base k fa fd [x] sp)
    (bind : ∀ (s : Shared) (u : Value), BindsTo s fd ⟨[u], []⟩ [(x, u)]) (H : Hp) (only : ∀ b, H b = none ∨ ∃ o u, H b = some (.frz o u)) (held : HOk P w H s.heap) (alone : ∀ b, H b ≠ none → b = a ∨ b = sysModules) (away : ∀ b, H b ≠ none → K.lookup b = none)
    (want : sp [.ref a] H (fun v _ => v = .bl true) E0) :
    codeAny (model P w) callerA (.call (.ref fa) ⟨[.ref a], []⟩) (fun r s' => r = .ok (.ret (.bool true)) ∧ OldK s.heap s'.heap ∧ s'.os = s.os ∧ AllBare s'.gens) s := by
  have space : ∀ {b : Addr} {m : Str → Option Value}, b ≠ sysModules → s.heap.Ns b m → (hidT s.heap H).Ns b m := fun {b m} nb ⟨o, es, ep, e, d, more⟩ =>
    ⟨o, es, ep, hidT_get e (by
      cases q : H b with
      | none => rfl
      | some u =>
        rcases alone b (by rw [q]; exact nofun) with here | here
        · rw [here, obj] at e
          have e2 := Option.some.inj e
          rw [← e2] at d
          exact nomatch d
        · exact absurd here nb), d, more⟩
  have baseK : K.In (hidT s.heap H) := fun b o e => hidT_get (inK b o e) (by
    cases q : H b with
    | none => rfl
    | some u =>
      have no := away b (by rw [q]; exact nofun)
      rw [no] at e
      exact nomatch e)
  have lim : (hidT s.heap H).NoLimit := by
    obtain ⟨mc, h1, h2⟩ := noLim
    exact ⟨mc, space (by decide) h1, h2⟩
  have mains2 := space (by decide) mains
  have modu : Mod K mg (hidT s.heap H) := ⟨baseK, mains2, ⟨mb, space (by decide) blts, boot⟩, lim⟩
  have e0 : Env0 P w K mg (hidT s.heap H) callerA [] s H := ⟨rfl, modu, fun _ _ e => of_hidT e, Nat.le_of_eq (hidT_size _ _), trivial, (fun _ hb => absurd (show _ ∈ ([] : List Addr) from hb) List.not_mem_nil), held, .of_eq gens⟩
  refine codeAny_mono ((goesF _ baseK mains2).goes callerA [] s H [.ref a] [.ref a] _ E0 rfl room e0 (bind s (.ref a)) (.cons rfl .nil) want) fun r s' got => ?_
  cases r with
  | error _ => exact False.elim got
  | ok flow =>
  cases flow with
  | next => exact False.elim got
  | brk => exact False.elim got
  | cont => exact False.elim got
  | ret u =>
    obtain ⟨v, H', sameOs, bare, un, held', rel, yes⟩ := got
    have yes' : v = .bl true := yes
    subst yes'
    obtain rfl : u = Value.bool true := rel
    refine ⟨rfl, OldK.of_keep fun b o e => ?_, sameOs, bare⟩
    rcases only b with free | ⟨ob, xs, fz⟩
    · exact un.keep b o e free (fun z => nomatch z) (fun z => nomatch z)
    · obtain ⟨e1, _⟩ := held b _ fz
      obtain ⟨e2, _⟩ := held' b _ (un.frzs b ob _ fz)
      rw [e2, ← e1, e]
theorem endS_call (inK : K.In s.heap) (mains : s.heap.Ns mainGlobals mg) (blts : s.heap.Ns builtinsNs mb) (boot : ∀ y : Str, y ≠ "__name__" → mb y = bootBuiltins y) (noLim : s.heap.NoLimit) (gens : s.gens = #[])
    (obj : s.heap.get? a = some { cls := .type "list", data := .seq vs.toArray }) (numbs : PyProof.Rows.IntsAre vs ns) (small : ns.length ≤ sizeLine) (room : Room k callerA) (sysK : K.lookup sysModules = none) (seer : s.heap.NoSeer)
    (goesF : ∀ base : Heap, K.In base → base.Ns mainGlobals mg → FnG P w K mg base k fa fd [x] sp) (bind : ∀ (s : Shared) (u : Value), BindsTo s fd ⟨[u], []⟩ [(x, u)])
    (want : ∀ H : Hp, Sys K H → SqL K H a (ns.map V.int) → sp [.ref a] H (fun v _ => v = .bl true) E0) :
    codeAny (model P w) callerA (.call (.ref fa) ⟨[.ref a], []⟩) (fun r s' => r = .ok (.ret (.bool true)) ∧ OldK s.heap s'.heap ∧ s'.os = s.os ∧ AllBare s'.gens) s := by
  have rel := vals_ints numbs
  obtain ⟨ob, hob⟩ : ∃ ob, s.heap.get? sysModules = some ob := by
    obtain ⟨mm, ⟨o, es, ep, e, _⟩, _⟩ := seer.mods
    exact ⟨o, e⟩
  let two : Hp := fun b => if b = a ∧ K.lookup a = none then some (.frz { cls := .type "list", data := .seq vs.toArray } (.lst (ns.map V.int))) else if b = sysModules then some (.frz ob (.ext fun h => h.get? sysModules = some ob)) else none
  have only : ∀ b, two b = none ∨ ∃ o u, two b = some (.frz o u) := fun b => by
    by_cases h1 : b = a ∧ K.lookup a = none
    · exact .inr ⟨_, _, if_pos h1⟩
    · by_cases h2 : b = sysModules
      · exact .inr ⟨_, _, (if_neg h1).trans (if_pos h2)⟩
      · exact .inl ((if_neg h1).trans (if_neg h2))
  have alone : ∀ b, two b ≠ none → b = a ∨ b = sysModules := fun b h => by
    by_cases h1 : b = a ∧ K.lookup a = none
    · exact .inl h1.1
    · by_cases h2 : b = sysModules
      · exact .inr h2
      · exact absurd ((if_neg h1).trans (if_neg h2)) h
  have away : ∀ b, two b ≠ none → K.lookup b = none := fun b h => by
    by_cases h1 : b = a ∧ K.lookup a = none
    · rw [h1.1]
      exact h1.2
    · by_cases h2 : b = sysModules
      · rw [h2]
        exact sysK
      · exact absurd ((if_neg h1).trans (if_neg h2)) h
  have held : HOk P w two s.heap := fun b u z => by
    by_cases h1 : b = a ∧ K.lookup a = none
    · have e : two b = _ := if_pos h1
      rw [e] at z
      obtain rfl := Option.some.inj z
      rw [h1.1]
      exact ⟨obj, by rw [List.length_map]; exact small, vs, _, rel, obj⟩
    · by_cases h2 : b = sysModules
      · have e : two b = _ := (if_neg h1).trans (if_pos h2)
        rw [e] at z
        obtain rfl := Option.some.inj z
        rw [h2]
        exact ⟨hob, hob, ⟨_, hob⟩, fun h1 h2 e k => k _ e⟩
      · have e : two b = _ := (if_neg h1).trans (if_neg h2)
        rw [e] at z
        cases z
  have sys : Sys K two := by
    by_cases h1 : sysModules = a ∧ K.lookup a = none
    · exact ⟨_, _, if_pos h1⟩
    · exact ⟨_, _, (if_neg h1).trans (if_pos rfl)⟩
  refine endS_from inK mains blts boot noLim gens obj room goesF bind two only held alone away (want two sys ?_)
  cases hk : K.lookup a with
  | some o =>
    have e := inK a o hk
    rw [obj] at e
    obtain rfl := Option.some.inj e
    exact Or.inr ⟨_, vs.toArray, _, hk, rfl, rfl, rfl, by rw [List.size_toArray, numbs.length]; exact small, by simpa using rel⟩
  | none => exact .inl (.inr ⟨_, if_pos ⟨rfl, hk⟩⟩)
end
theorem walk_S {l : PySem.W.OpenLaw} {n k : Nat} {q : Program} {loose : List Str} {XP : (Str → Option Value) → Heap → Prop} {YP : World → Heap → Prop} {d : DefRec} {K : Params → PySem.W.Frag} {sp : PySem.W.Frag → Sp} {x : Str}
    (hn : l.most = some n) (small : n ≤ sizeLine) (plain : d.params.defaults = []) (room : Room k callerA) (hq : importsNone q = true) (hY : ∀ (w : World) (h : Heap), YP w h → (K w.params).In h)
    (F : ∀ (w : World) (mg : Str → Option Value) (fa : Addr) (h : Heap), (K w.params).In h → h.Ns mainGlobals mg → mg d.name = some (.ref fa) →
      ∃ fd : FuncData, (K w.params).lookup sysModules = none ∧ (∀ (s : Shared) (u : Value), BindsTo s fd ⟨[u], []⟩ [(x, u)]) ∧ ∀ base : Heap, (K w.params).In base → base.Ns mainGlobals mg → FnG l.prog w (K w.params) mg base k fa fd [x] (sp (K w.params)))
    (want : ∀ (K : PySem.W.Frag) (H : Hp) (a : Addr) (ns : List Int), ns.length ≤ n → Sys K H → SqL K H a (ns.map V.int) → sp K [.ref a] H (fun v _ => v = .bl true) E0) :
    PySem.W.WalkO q loose XP YP l.row.toRowW d [] (fun f vs => PySem.call f vs) := by
  refine Att.attach_call hn plain fun w s0 s1 mg mb fa o pm cd doc a vs ns ground told ho hd hcd hmg obj numbs many gens => ?_
  have inK := hY w _ told
  obtain ⟨fd, sysK, bind, goesF⟩ := F w mg fa _ inK ground.T.g hmg
  exact endS_call inK ground.T.g ground.T.b ground.T.builtins ground.T.nolimit gens obj numbs (Nat.le_trans many small) room sysK (ground.T.seer hq) goesF bind fun H S held => want (K w.params) H a ns many S held
end LG
/-! ### enumerate of a tuple, from 0 or from a count given by its name -/
namespace LG
open PySem PySem.Spec PyProof.Rows L2
/-- the tuple at a as it stands at each turn, each item in a new pair, counted from c -/
def IteT (K : PySem.W.Frag) (a : Addr) (c : Nat) : It :=
  ⟨fun i H => ∃ (xs : List V) (x : V), SqT K H a xs ∧ xs[i]? = some x, fun i H v H' => ∃ T x, v = .ref T ∧ H T = none ∧ H' = upd H T (.tup [.int ((c + i : Nat) : Int), x]) ∧ ∀ xs, SqT K H a xs → xs[i]? = some x, fun i H => ∃ xs : List V, SqT K H a xs ∧ xs.length = i⟩
theorem tuple_apart {h : Heap} {it a b : Addr} {i : Nat} {items : Array Value} (x : h.IsTupleIter it b i) (y : h.IsTuple a items) : a ≠ it := by
  rintro rfl
  obtain ⟨o, e, c, _⟩ := x
  obtain ⟨o2, e2, c2, _⟩ := y
  rw [e] at e2
  cases e2
  rw [c] at c2
  simp at c2
theorem enum_apart {h : Heap} {it a e : Addr} {i : Int} {old : Value} {items : Array Value} (x : IsEnum h e it i old) (y : h.IsTuple a items) : e ≠ a := by
  rintro rfl
  obtain ⟨o2, e2, c2, _⟩ := y
  rw [x] at e2
  cases e2
  simp at c2
theorem turn_enumT {P : Program} {w : World} {K : PySem.W.Frag} {elts : List Expr} {kk : Nat} {tpos : Pos} (a e it : Addr) (c : Nat) :
    Turn P w K (.Tuple elts kk tpos) (IteT K a c) [e, it] e (fun i h => (∃ old, IsEnum h e it ((c + i : Nat) : Int) old) ∧ h.IsTupleIter it a i ∧ e ≠ it) where
  mem := by simp
  obj := fun i h st b hb => by
    obtain ⟨⟨old, he⟩, ⟨o, ho, hc, hd⟩, _⟩ := st
    rcases List.mem_cons.mp hb with z | z
    · rw [z]; exact ⟨_, he, fun v q => nomatch q⟩
    · rw [List.mem_singleton.mp z]; exact ⟨o, ho, fun v q => by rw [hd] at q; cases q⟩
  keep := fun i h h' st k => let ⟨⟨old, he⟩, hi, hne⟩ := st; ⟨⟨old, k e (by simp) _ he⟩, hi.at fun o q => k it (by simp) o q, hne⟩
  item := by
    intro X hP hw hK hc i pins s σ H E I hf st hg
    subst hP hw hK
    obtain ⟨⟨old, he⟩, hit, hne⟩ := st
    obtain ⟨xs, x, hq, hx⟩ := hg
    obtain ⟨its, rv, p, hz⟩ := I.tuple hq
    obtain ⟨u, hu, ru⟩ := rv.get hx
    have hel : e < s.heap.objs.size := Heap.lt_size he
    have hil : it < s.heap.objs.size := by obtain ⟨_, q, _⟩ := hit; exact Heap.lt_size q
    have na := tuple_apart hit p
    have ne' := enum_apart he p
    have hh : X.A.in1.handled = none := I.ok.hd hc
    have il : i < its.toArray.size := by
      have := (List.getElem?_eq_some_iff.mp hu).1
      simpa using this
    refine wpAny_pyNext_enum_itemC (Draws.tuple (prog := X.prog) (w := X.w) hh it a na its.toArray) he ⟨hit, p⟩ il hne (by simp [hne, ne']) fun y h' tk hy ho st' hT hsz hk => ?_
    obtain ⟨hit', _⟩ := st'
    have hy : its.toArray[i]? = some y := hy
    obtain rfl : y = u := by
      have q : its.toArray[i]? = some u := by simpa using hu
      rw [hy] at q
      exact Option.some.inj q
    refine ⟨_, rfl, wpAny_letOwnedTupleGo_enum (s := { s with heap := h', toks := tk + 1 }) ho fun h'' he' sb => ?_⟩
    have hT2 := (sb.2 _ (Nat.ne_of_gt hel)).trans hT
    have new : ObjOk X.prog X.w (upd H s.heap.objs.size (.tup [.int ((c + i : Nat) : Int), x])) h'' s.heap.objs.size (.tup [.int ((c + i : Nat) : Int), x]) :=
      ⟨by show 2 ≤ sizeLine; decide, _, .cons ⟨tk, rfl⟩ (.cons ru .nil), ⟨_, hT2, rfl, _, rfl⟩⟩
    have I1 : Inv X pins σ (upd H s.heap.objs.size (.tup [.int ((c + i : Nat) : Int), x])) { s with heap := h'', toks := tk + 1 } :=
      I.turnedNew (ch := [e, it]) (fun b ob hb q => (sb.2 b (fun z => hb (by simp [z]))).trans (hk b ob (fun z => hb (by simp [z])) (fun z => hb (by simp [z])) q)) hf (Nat.le_refl _) new
    refine ⟨.ref s.heap.objs.size, _, I1, rfl, ⟨_, x, rfl, I.hok.fresh (Nat.le_refl _), rfl, fun ys hy => by rw [I.tuple_inj hy hq]; exact hx⟩, ⟨⟨y, ?_⟩, hit'.at fun o q => (sb.2 it (Ne.symm hne)).trans q, hne⟩, fun b hb => ?_⟩
    · rw [show ((c + (i + 1) : Nat) : Int) = ((c + i : Nat) : Int) + 1 by omega]
      exact he'
    · have hb' : b < s.heap.objs.size := by
        rcases List.mem_cons.mp hb with z | z
        · rw [z]; exact hel
        · rw [List.mem_singleton.mp z]; exact hil
      rw [upd_ne (Nat.ne_of_lt hb')]
      exact (hf b hb).1
  done := by
    intro X hP hw hK hc i pins s σ H E I hf st hg
    subst hP hw hK
    obtain ⟨⟨old, he⟩, hit, hne⟩ := st
    obtain ⟨xs, hq, hx⟩ := hg
    obtain ⟨its, rv, p, hz⟩ := I.tuple hq
    obtain ⟨f0, f1, f2, f3, f4, f5⟩ := hf it (by simp)
    have hl := rv.length
    have hh : X.A.in1.handled = none := I.ok.hd hc
    have na := tuple_apart hit p
    have ei : i = its.toArray.size := by simp; omega
    refine wpAny_pyNext_enum_endD (Draws.tuple (prog := X.prog) (w := X.w) hh it a na its.toArray) he ⟨by rw [← ei]; exact hit, p⟩ fun h' eb => ⟨rfl, I.turned (t' := s.toks) (fun b o hb q => eb b o hb q) f0 f1 f3 f4 f5⟩
  self := fun A i s Q E st h => let ⟨⟨_, he⟩, _⟩ := st; wpAny_pyIter_enum he h
set_option maxHeartbeats 1000000 in
theorem meets_enumT {v : Value} {o : Obj} {H : Heap → Prop} (B : Begins v o H) :
    Meets (Builtin.«enumerate.__new__» ⟨[.type "enumerate", v], []⟩) (fun _ R s => H s.heap ∧
      R (.ok (.ret (.ref (s.heap.push o).objs.size))) { s with heap := (s.heap.push o).push { cls := .type "enumerate", data := .fields #[.none, .bool false, .ref s.heap.objs.size, rawInt 0, .none, .none] } }) :=
  .of_wp fun prog w A R s h => by
    obtain ⟨hp, g, d, tk, os⟩ := s
    obtain ⟨h1, h⟩ := h
    have hsub := sub_enumerate
    have q1 : ∀ {A' : Around} {E : Value → Shared → Prop} {Q : Value → Shared → Prop}, Q (.ref hp.objs.size) ⟨hp.push o, g, d, tk, os⟩ → wpAny (model prog w) A' (pyIter v) Q E ⟨hp, g, d, tk, os⟩ :=
      fun q => B.iter prog w _ _ ⟨hp, g, d, tk, os⟩ _ h1 q
    wp_walk using q1
    refine wpAny_stack_any fun st => wpAny_pure ?_
    split
    · rename_i c _ _ _ _ _
      cases (c == Value.type "enumerate") <;> (wp_walk using q1; exact ⟨_, rfl, h⟩)
    · wp_walk using q1
      exact ⟨_, rfl, h⟩
theorem enum_beginsT {M0 : Program} {w : World} {A : Around} {E : Value → Shared → Prop} {s : Shared} {v : Value} {o : Obj} {H : Heap → Prop} {Q : Value → Shared → Prop} (B : Begins v o H) (h1 : H s.heap)
    (h : ∀ h', IsEnum h' (s.heap.objs.size + 1) s.heap.objs.size 0 .none → h'.get? s.heap.objs.size = some o → h'.objs.size = s.heap.objs.size + 2 →
      (∀ b o, s.heap.get? b = some o → h'.get? b = some o) → Q (.ref (s.heap.objs.size + 1)) { s with heap := h' }) :
    wpAny (model M0 w) A (call (.type "enumerate") [v]) Q E s := by
  refine callType_new F.called_enumerate (by decide) (F.typeCall_enumerate_1 _) (F.newCall_enumerate_1 _) (fun obj => F.args_object_init_2 obj _) F.entry_enumerate_new (meets_enumT B) ⟨h1, ?_⟩
  have hz : (s.heap.push o).objs.size = s.heap.objs.size + 1 := Heap.size_push ..
  show _ ∧ _
  rw [hz]
  have he := Heap.get?_push_size (s.heap.push o) (o := { cls := .type "enumerate", data := .fields #[.none, .bool false, .ref s.heap.objs.size, rawInt 0, .none, .none] }) rfl
  rw [hz] at he
  exact ⟨⟨_, he, rfl⟩, h _ he (Heap.get?_push_of_some _ (Heap.get?_push_size _ B.free)) (by rw [Heap.size_push, hz]) fun b o x => Heap.get?_push_of_some _ (Heap.get?_push_of_some _ x)⟩
def iEnT (K : PySem.W.Frag) (ta : TA) : TI := fun σ H R => ta σ H fun vs H1 => ∃ a xs, vs = [.ref a] ∧ SqT K H1 a xs ∧ R (IteT K a 0) H1
def iEnTS (K : PySem.W.Frag) (ta tk : TA) : TI := fun σ H R => ta σ H fun vs H1 => tk σ H1 fun zs H2 => ∃ a xs c, vs = [.ref a] ∧ zs = [.int ((c : Nat) : Int)] ∧ c ≤ 1000 ∧ SqT K H2 a xs ∧ R (IteT K a c) H2
section
variable {X : Cx} {e : Expr} {ta tk : TA} {p pos tpos : Pos} {elts : List Expr} {kk : Nat} {kws : List Keyword}
theorem pi_enT (hg : Gl X "enumerate") (hm : X.mg "enumerate" = none) (ha : PA X [e] ta) (hs : starEach [e] X.env = [(false, eval e X.env)] := by rfl) :
    PI X (.Tuple elts kk tpos) (.Call (.Name "enumerate" p) [e] [] pos) (iEnT X.K ta) := by
  refine ⟨fun pins s σ H R I h => ?_⟩
  refine Call_ (ld_blt I hg hm boot_enumerate (PyProof.Rows.callWith_type1 (thn (ha.run pos pins s σ H _ I h) fun us s1 ⟨vs, H1, I1, r1, q1⟩ => ?_) hs rfl))
  obtain ⟨a, xs, rfl, hq, q⟩ := q1
  rw [Vals.ref1 r1]
  obtain ⟨its, rv, p', hz⟩ := I1.tuple hq
  refine enum_beginsT (begins_tuple a its.toArray) p' fun h' he hit hsz hk => wpAny_pyIter_enum he ?_
  have I2 : Inv X pins σ H1 { s1 with heap := h' } := I1.kept (t' := s1.toks) hk
  refine ⟨s1.heap.objs.size + 1, [s1.heap.objs.size + 1, s1.heap.objs.size], _, _, H1, rfl, I2, turn_enumT a (s1.heap.objs.size + 1) s1.heap.objs.size 0, ⟨⟨.none, he⟩, ⟨_, hit, rfl, rfl⟩, Nat.succ_ne_self _⟩, fun b hb => ?_, q⟩
  have hle : s1.heap.objs.size ≤ b := by
    rcases List.mem_cons.mp hb with z | z
    · rw [z]; exact Nat.le_add_right _ _
    · rw [List.mem_singleton.mp z]; exact Nat.le_refl _
  exact I1.fpOk hle (I1.hok.fresh hle)
theorem pi_enTS (hg : Gl X "enumerate") (hm : X.mg "enumerate" = none) (ha : PA X [e] ta) (hkw : PK X kws tk) (hall : (backToKw pos (keywordEach kws X.env)).all (·.1.isSome) = true := by rfl)
    (hks : (backToKw pos (keywordEach kws X.env)).filterMap (·.1) = [Str.ofString "start"] := by rfl) (he : starEach [e] X.env = (false, eval e X.env) :: starEach [] X.env := by rfl)
    (hpl : ((backTo pos (starEach [e] X.env)).any (·.1) || (backToKw pos (keywordEach kws X.env)).any (·.1.isNone)) = false := by rfl) :
    PI X (.Tuple elts kk tpos) (.Call (.Name "enumerate" p) [e] kws pos) (iEnTS X.K ta tk) := by
  refine ⟨fun pins s σ H R I h => ?_⟩
  refine wpAny_Call_Name_kw (ld_blt I hg hm boot_enumerate ?_)
  refine PySem.W.callWith_of (P := fun _ => True) hpl (fun _ _ => ⟨.machine, .inr (.inl rfl), .now⟩) (evalArgs_kw2 hall (thn (ha.run pos pins s σ H _ I h) fun us s1 ⟨vs, H1, I1, r, q⟩ => ?_) he)
  refine thn (hkw.run pos pins s1 σ H1 _ I1 q) fun ws s2 ⟨zs, H2, I2, rz, q2⟩ => ⟨trivial, ?_⟩
  rw [hks]
  obtain ⟨a, xs, c, rfl, rfl, few, hq, q⟩ := q2
  rw [Vals.ref1 r]
  cases rz with
  | cons r0 rr =>
  cases rr
  obtain ⟨t, rfl⟩ := r0
  obtain ⟨its, rv, p', hz⟩ := I2.tuple hq
  refine enum_begins_start (begins_tuple a its.toArray) p' (by omega) (by omega) fun h' he hit hsz hk => wpAny_pyIter_enum he ?_
  have I3 : Inv X pins σ H2 { s2 with heap := h' } := I2.kept (t' := s2.toks) hk
  refine ⟨s2.heap.objs.size + 1, [s2.heap.objs.size + 1, s2.heap.objs.size], _, _, H2, rfl, I3, turn_enumT a (s2.heap.objs.size + 1) s2.heap.objs.size c, ⟨⟨.none, he⟩, ⟨_, hit, rfl, rfl⟩, Nat.succ_ne_self _⟩, fun b hb => ?_, q⟩
  have hle : s2.heap.objs.size ≤ b := by
    rcases List.mem_cons.mp hb with z | z
    · rw [z]; exact Nat.le_add_right _ _
    · rw [List.mem_singleton.mp z]; exact Nat.le_refl _
  exact I2.fpOk hle (I2.hok.fresh hle)
end
end LG
/-! ### steps of a reading, one at a time -/
namespace LG
open PySem PySem.Spec PyProof.Rows L2
section
variable {σ : L2.St} {H : Hp} {Q : VK} {K : PySem.W.Frag} {n b c : L2.St → Hp → Prop} {r : VK}
theorem st_seq {t u : TS} (h : t ⟨u ⟨n, r, b, c⟩, r, b, c⟩ σ H) : tSeq t u ⟨n, r, b, c⟩ σ H := h
theorem st_next (h : n σ H) : tNext ⟨n, r, b, c⟩ σ H := h
theorem st_break (h : b σ H) : tBreak ⟨n, r, b, c⟩ σ H := h
theorem st_cont (h : c σ H) : tCont ⟨n, r, b, c⟩ σ H := h
theorem st_drop {te : TE} (h : te σ H fun _ H1 => n σ H1) : tDrop te ⟨n, r, b, c⟩ σ H := h
theorem st_ret {te : TE} (h : te σ H r) : tRet te ⟨n, r, b, c⟩ σ H := h
theorem st_retN (h : r .non H) : tRetN ⟨n, r, b, c⟩ σ H := h
theorem st_if {tc : TT} {t u : TS} (h : tc σ H fun k H1 => if k = true then t ⟨n, r, b, c⟩ σ H1 else u ⟨n, r, b, c⟩ σ H1) : tIfS tc t u ⟨n, r, b, c⟩ σ H := h
theorem st_asg {te : TE} {g : TG} (h : te σ H fun x H1 => g x σ H1 n) : tAsg te g ⟨n, r, b, c⟩ σ H := h
theorem st_name {i : Nat} {v : V} {q : L2.St → Hp → Prop} (h : q (σ.set i (some v)) H) : gName i v σ H q := h
theorem st_gnil {q : L2.St → Hp → Prop} (h : q σ H) : gNil [] σ H q := ⟨rfl, h⟩
theorem st_gcons {t : TG} {u : TGs} {v : V} {vs : List V} {q : L2.St → Hp → Prop} (h : t v σ H fun σ' H' => u vs σ' H' q) : gCons t u (v :: vs) σ H q := ⟨v, vs, rfl, h⟩
theorem st_gtup {m : Nat} {t : TGs} {a : Addr} {xs : List V} {q : L2.St → Hp → Prop} (hx : SqT K H a xs) (hl : xs.length = m) (h : t xs σ H q) : gTup K m t (.ref a) σ H q := ⟨a, xs, rfl, hx, hl, h⟩
theorem st_gsub {to ti : TE} {t : TSet} {v : V} {q : L2.St → Hp → Prop} (h : to σ H fun o H1 => ti σ H1 fun i H2 => t o i v H2 fun H3 => q σ H3) : gSub to ti t v σ H q := h
theorem st_aug {i : Nat} {te : TE} {ti : TIp} {x : V} (hx : σ[i]? = some (some x)) (h : te σ H fun y H1 => ti x y H1 fun z H2 => n (σ.set i (some z)) H2) : tAug i te ti ⟨n, r, b, c⟩ σ H := ⟨x, hx, h⟩
theorem st_var {i : Nat} {v : V} (hx : σ[i]? = some (some v)) (h : Q v H) : tVar i σ H Q := ⟨v, hx, h⟩
theorem st_c {v : V} (h : Q v H) : tC v σ H Q := h
theorem st_op {f : R2} {ta tb : TE} (h : ta σ H fun x H1 => tb σ H1 fun y H2 => f x y H2 Q) : tOp f ta tb σ H Q := h
theorem st_un {f : V → Hp → VK → Prop} {ta : TE} (h : ta σ H fun x H1 => f x H1 Q) : tUn f ta σ H Q := h
theorem st_test {t : TE} {q : Bool → Hp → Prop} (h : t σ H fun x H' => ∃ k, x = .bl k ∧ q k H') : tTest t σ H q := h
theorem st_B {t : TE} {q : Bool → Hp → Prop} (h : t σ H fun x H' => ∃ k, x = .bl k ∧ q k H') : tB t σ H q := h
theorem st_ex {k : Bool} {p : Bool → Prop} (h : p k) : ∃ k', V.bl k = .bl k' ∧ p k' := ⟨k, rfl, h⟩
theorem st_and {t u : TT} {q : Bool → Hp → Prop} (h : t σ H fun k H1 => if k = true then u σ H1 q else q false H1) : tAnd t u σ H q := h
theorem st_or {t u : TT} {q : Bool → Hp → Prop} (h : t σ H fun k H1 => if k = true then q true H1 else u σ H1 q) : tOr t u σ H q := h
theorem st_not {t : TT} {q : Bool → Hp → Prop} (h : t σ H fun k H1 => q (!k) H1) : tNot t σ H q := h
theorem st_andV {ta tb : TE} (h : ta σ H fun x H1 => ∃ k, x = .bl k ∧ if k = true then tb σ H1 Q else Q (.bl false) H1) : tAndV ta tb σ H Q := h
theorem st_orV {ta tb : TE} (h : ta σ H fun x H1 => ∃ k, x = .bl k ∧ if k = true then Q (.bl true) H1 else tb σ H1 Q) : tOrV ta tb σ H Q := h
theorem st_notV {ta : TE} (h : ta σ H fun x H1 => ∃ k, x = .bl k ∧ Q (.bl (!k)) H1) : tNotV ta σ H Q := h
theorem st_ife {t : TT} {ta tb : TE} (h : t σ H fun k H1 => if k = true then ta σ H1 Q else tb σ H1 Q) : L2.tIf t ta tb σ H Q := h
theorem st_isN {ta : TE} (h : ta σ H fun x H1 => Q (.bl (decide (x = .non))) H1) : tIsN ta σ H Q := h
theorem st_notN {ta : TE} (h : ta σ H fun x H1 => Q (.bl (!decide (x = .non))) H1) : tNotN ta σ H Q := h
theorem st_chain {f g : R2} {ta tb tc : TE} (h : ta σ H fun x H1 => tb σ H1 fun y H2 => f x y H2 fun z H3 => ∃ k, z = .bl k ∧ (if k = true then tc σ H3 fun w' H4 => g y w' H4 Q else Q (.bl false) H3)) : tChain f g ta tb tc σ H Q := h
theorem st_tup {t : TA} (h : t σ H fun xs H1 => xs.length ≤ sizeLine ∧ ∀ p, H1 p = none → Q (.ref p) (upd H1 p (.tup xs))) : tTup t σ H Q := h
theorem st_lst {t : TA} (h : t σ H fun xs H1 => xs.length ≤ sizeLine ∧ ∀ p, H1 p = none → Q (.ref p) (upd H1 p (.lst xs))) : tLst t σ H Q := h
theorem st_cons {ta : TE} {tr : TA} {q : List V → Hp → Prop} (h : ta σ H fun x H1 => tr σ H1 fun xs H2 => q (x :: xs) H2) : tCons ta tr σ H q := h
theorem st_nil {q : List V → Hp → Prop} (h : q [] H) : tNil σ H q := h
theorem st_CB {f : List V → Hp → VK → Prop} {t : TA} (h : t σ H fun vs H1 => f vs H1 Q) : tCB f t σ H Q := h
theorem st_call {sp : Sp} {dvs : List V} {E : XK} {t : TA} (h : t σ H fun vs H1 => sp (vs ++ dvs) H1 Q E) : tCall sp dvs E t σ H Q := h
theorem st_BM {T : String} {f : V → List V → Hp → VK → Prop} {to : TE} {t : TA} (h : to σ H fun x H1 => tyV K T x H1 ∧ t σ H1 fun xs H2 => f x xs H2 Q) : tBM K T f to t σ H Q := h
theorem st_BM0 {T : String} {f : V → List V → Hp → VK → Prop} {to : TE} (h : to σ H fun x H1 => tyV K T x H1 ∧ f x [] H1 Q) : tBM0 K T f to σ H Q := h
theorem st_sl {f : V → Option Int → Option Int → Hp → VK → Prop} {te : TE} {tl th : TO} (h : te σ H fun x H1 => tl σ H1 fun l H2 => th σ H2 fun u H3 => f x l u H3 Q) : tSl f te tl th σ H Q := h
theorem st_noPart {q : Option Int → Hp → Prop} (h : q none H) : tNoPart σ H q := h
theorem st_part {t : TE} {q : Option Int → Hp → Prop} (h : t σ H fun x H1 => ∃ i, x = .int i ∧ q (some i) H1) : tPart t σ H q := h
theorem st_exi {i : Int} {p : Int → Prop} (h : p i) : ∃ j, V.int i = .int j ∧ p j := ⟨i, rfl, h⟩
theorem st_I0 {g : Int → Int → V} {i j : Int} (h : Q (g i j) H) : rI0 g (.int i) (.int j) H Q := ⟨i, j, rfl, rfl, h⟩
theorem st_I {C : Int → Int → Prop} {g : Int → Int → V} {i j : Int} (hc : C i j) (h : Q (g i j) H) : rI C g (.int i) (.int j) H Q := ⟨i, j, rfl, rfl, hc, h⟩
theorem st_add {i j : Int} (h : Q (.int (i + j)) H) : L2.rAdd (.int i) (.int j) H Q := ⟨i, j, rfl, rfl, h⟩
theorem st_sub {i j : Int} (h : Q (.int (i - j)) H) : L2.rSub (.int i) (.int j) H Q := ⟨i, j, rfl, rfl, h⟩
theorem st_U {g : Int → V} {i : Int} (h : Q (g i) H) : rU g (.int i) H Q := ⟨i, rfl, h⟩
theorem st_eq {x y : V} (hs : scal x y = true) (h : Q (.bl (decide (x = y))) H) : rEq x y H Q := ⟨hs, h⟩
theorem st_ne {x y : V} (hs : scal x y = true) (h : Q (.bl (!decide (x = y))) H) : rNe x y H Q := ⟨hs, h⟩
theorem st_list {tl : TE} {R : It → Hp → Prop} (h : tl σ H fun x H1 => ∃ a, x = .ref a ∧ (∃ xs, SqL K H1 a xs) ∧ R (Itl K a) H1) : iList K tl σ H R := h
theorem st_itup {tl : TE} {R : It → Hp → Prop} (h : tl σ H fun x H1 => ∃ a, x = .ref a ∧ (∃ xs, SqT K H1 a xs) ∧ R (Itt K a) H1) : iTup K tl σ H R := h
theorem st_rng1 {ta : TA} {R : It → Hp → Prop} (h : ta σ H fun vs H1 => ∃ j : Int, vs = [.int j] ∧ -(2 ^ 62) ≤ j ∧ j < 2 ^ 62 ∧ R (Itr 0 j.toNat) H1) : iRng1 ta σ H R := h
theorem st_rng2 {ta : TA} {R : It → Hp → Prop} (h : ta σ H fun vs H1 => ∃ i j : Int, vs = [.int i, .int j] ∧ (-(2 ^ 62) ≤ i ∧ i < 2 ^ 62 ∧ -(2 ^ 62) ≤ j ∧ j < 2 ^ 62) ∧ R (Itr i (j - i).toNat) H1) : iRng2 ta σ H R := h
theorem st_lc {wi : TI} {g : TG} {tt : TT} {te : TE} {vs : List Nat} (h : wi σ H fun J H1 => ∀ D, H1 D = none → ∃ W : Nat → Nat → Hp → Prop, (∃ m, W 0 m (upd H1 D (.lst []))) ∧ ∀ i m H, W i m H →
    (J.stop i H ∧ Q (.ref D) H) ∨ (J.go i H ∧ ∃ Nx : Hp → Prop, (∀ H', Nx H' → ∃ m', m' < m ∧ W (i + 1) m' H') ∧ ∀ x H', J.yld i H x H' → g x (wipe σ vs) H' fun σ2 H2 => wipe σ2 vs = wipe σ vs ∧ tt σ2 H2 fun b H3 =>
      if b = true then te σ2 H3 fun y H4 => ∃ acc, H4 D = some (.lst acc) ∧ acc.length < sizeLine ∧ Nx (upd H4 D (.lst (acc ++ [y]))) else Nx H3)) : tLc wi g tt te vs σ H Q := h
theorem st_for {wi : TI} {g : TG} {tb : TS} (h : wi σ H fun J H1 => ∃ W : Nat → Nat → L2.St → Hp → Prop, (∃ m, W 0 m σ H1) ∧ ∀ i m σ H, W i m σ H →
    (J.stop i H ∧ n σ H) ∨ (J.go i H ∧ ∃ N : L2.St → Hp → Prop, (∀ σ' H', N σ' H' → ∃ m', m' < m ∧ W (i + 1) m' σ' H') ∧ ∀ x H', J.yld i H x H' → g x σ H' fun σ2 H2 => tb ⟨N, r, n, N⟩ σ2 H2)) : tFor wi g tb ⟨n, r, b, c⟩ σ H := h
theorem st_yes {q : Bool → Hp → Prop} (h : q true H) : tYes σ H q := h
theorem st_wipe {σ1 σ2 : L2.St} {vs : List Nat} {A : Prop} (e : wipe σ1 vs = wipe σ2 vs) (h : A) : wipe σ1 vs = wipe σ2 vs ∧ A := ⟨e, h⟩
theorem st_rj {j : Int} {R : Int → Prop} (h1 : -(2 ^ 62) ≤ j) (h2 : j < 2 ^ 62) (h : R j) : ∃ k : Int, [V.int j] = [.int k] ∧ -(2 ^ 62) ≤ k ∧ k < 2 ^ 62 ∧ R k := ⟨j, rfl, h1, h2, h⟩
theorem st_rb {j : Int} {A : Prop} (h1 : -(2 ^ 62) ≤ j) (h2 : j < 2 ^ 62) (h : A) : -(2 ^ 62) ≤ j ∧ j < 2 ^ 62 ∧ A := ⟨h1, h2, h⟩
theorem st_rij {i j : Int} {R : Int → Int → Prop} (h1 : -(2 ^ 62) ≤ i ∧ i < 2 ^ 62 ∧ -(2 ^ 62) ≤ j ∧ j < 2 ^ 62) (h : R i j) : ∃ k l : Int, [V.int i, V.int j] = [.int k, .int l] ∧ (-(2 ^ 62) ≤ k ∧ k < 2 ^ 62 ∧ -(2 ^ 62) ≤ l ∧ l < 2 ^ 62) ∧ R k l := ⟨i, j, rfl, h1, h⟩
theorem st_srcT {a : Addr} {xs : List V} {R : Addr → Prop} (hx : SqT K H a xs) (h : R a) : ∃ b, V.ref a = .ref b ∧ (∃ ys, SqT K H b ys) ∧ R b := ⟨a, rfl, ⟨xs, hx⟩, h⟩
theorem st_srcL {a : Addr} {xs : List V} {R : Addr → Prop} (hx : SqL K H a xs) (h : R a) : ∃ b, V.ref a = .ref b ∧ (∃ ys, SqL K H b ys) ∧ R b := ⟨a, rfl, ⟨xs, hx⟩, h⟩
theorem st_call0 {sp : Sp} {E : XK} {t : TA} (h : t σ H fun vs H1 => sp vs H1 Q E) : tCall sp [] E t σ H Q := by
  show t σ H fun vs H1 => sp (vs ++ []) H1 Q E
  simp only [List.append_nil]
  exact h
theorem st_int1 {i : Int} {P : Int → Prop} {R : Prop} (h : P i) : (∃ j, [V.int i] = [.int j] ∧ P j) ∨ R := .inl ⟨i, rfl, h⟩
theorem st_int1b {k : Bool} {P : Bool → Prop} {R : Prop} (h : P k) : R ∨ (∃ j, [V.bl k] = [.bl j] ∧ P j) := .inr ⟨k, rfl, h⟩
theorem st_ints {i : Int} {P : Int → Prop} (h : P i) : ∃ j, [V.int i] = [.int j] ∧ P j := ⟨i, rfl, h⟩
theorem st_ints2 {i j : Int} {P : Int → Int → Prop} (h : P i j) : ∃ k l, [V.int i, V.int j] = [.int k, .int l] ∧ P k l := ⟨i, j, rfl, h⟩
theorem st_lenL {a : Addr} {xs : List V} {P : List V → Prop} (hx : SqL K H a xs) (h : P xs) : ∃ p ys, [V.ref a] = [.ref p] ∧ (SqL K H p ys ∨ SqT K H p ys) ∧ P ys := ⟨a, xs, rfl, .inl hx, h⟩
theorem st_lenT {a : Addr} {xs : List V} {P : List V → Prop} (hx : SqT K H a xs) (h : P xs) : ∃ p ys, [V.ref a] = [.ref p] ∧ (SqL K H p ys ∨ SqT K H p ys) ∧ P ys := ⟨a, xs, rfl, .inr hx, h⟩
theorem st_tupL {a : Addr} {xs : List V} {P : List V → Prop} {R : List V → Addr → Prop} (hx : SqL K H a xs) (h : P xs) : ∃ p ys, [V.ref a] = [.ref p] ∧ ((SqL K H p ys ∧ P ys) ∨ (SqT K H p ys ∧ R ys p)) := ⟨a, xs, rfl, .inl ⟨hx, h⟩⟩
theorem st_tupT {a : Addr} {xs : List V} {P : List V → Prop} {R : List V → Addr → Prop} (hx : SqT K H a xs) (h : R xs a) : ∃ p ys, [V.ref a] = [.ref p] ∧ ((SqL K H p ys ∧ P ys) ∨ (SqT K H p ys ∧ R ys p)) := ⟨a, xs, rfl, .inr ⟨hx, h⟩⟩
/-- a test that is decided, or is not -/
theorem st_y {p A B : Prop} [Decidable p] (hp : p) (h : A) : if decide p = true then A else B := by
  rw [if_pos (decide_eq_true hp)]
  exact h
theorem st_n {p A B : Prop} [Decidable p] (hp : ¬ p) (h : B) : if decide p = true then A else B := by
  rw [decide_eq_false hp]
  exact iteF h
theorem st_ny {p A B : Prop} [Decidable p] (hp : ¬ p) (h : A) : if (!decide p) = true then A else B := by
  rw [decide_eq_false hp]
  exact iteT h
theorem st_nn {p A B : Prop} [Decidable p] (hp : p) (h : B) : if (!decide p) = true then A else B := iteNS hp h
theorem st_two {p A B : Prop} [Decidable p] (h1 : p → A) (h2 : ¬ p → B) : if decide p = true then A else B := ite2 (fun z => h1 (of_decide_eq_true z)) fun z => h2 fun q => z (decide_eq_true q)
theorem st_ntwo {p A B : Prop} [Decidable p] (h1 : ¬ p → A) (h2 : p → B) : if (!decide p) = true then A else B := by
  by_cases q : p
  · exact st_nn q (h2 q)
  · exact st_ny q (h1 q)
theorem st_bool {k : Bool} {A B : Prop} (h1 : k = true → A) (h2 : k = false → B) : if k = true then A else B := by
  cases k with
  | true => exact iteT (h1 rfl)
  | false => exact iteF (h2 rfl)
/-- items and lengths -/
theorem st_ixT {a : Addr} {xs : List V} {i : Int} {v : V} (hx : SqT K H a xs) (hi : atI xs i = some v) (h : Q v H) : rIxT K (.ref a) (.int i) H Q := ⟨a, xs, i, v, rfl, rfl, hx, hi, h⟩
theorem st_ixL {a : Addr} {xs : List V} {i : Int} {v : V} (hx : SqL K H a xs) (hi : atI xs i = some v) (h : Q v H) : rIxL K (.ref a) (.int i) H Q := ⟨a, xs, i, v, rfl, rfl, hx, hi, h⟩
theorem st_app {l : Addr} {xs : List V} {y : V} (hl : H l = some (.lst xs)) (room : xs.length < sizeLine) (h : Q .non (upd H l (.lst (xs ++ [y])))) : rAppend (.ref l) [y] H Q := ⟨l, xs, y, rfl, rfl, hl, room, h⟩
theorem st_tyL {l : Addr} {xs : List V} {A : Prop} (hl : H l = some (.lst xs)) (h : A) : tyV K "list" (.ref l) H ∧ A := ⟨.inl ⟨rfl, _, SqL.of hl⟩, h⟩
theorem st_setL {l : Addr} {xs : List V} {k : Int} {j : Nat} {v : V} {q : Hp → Prop} (hl : H l = some (.lst xs)) (hk : ixN xs.length k = some j) (h : q (upd H l (.lst (xs.set j v)))) : rSetL (.ref l) (.int k) v H q := ⟨l, xs, k, j, rfl, rfl, hl, hk, h⟩
theorem st_new {xs : List V} {A : Prop} (hz : xs.length ≤ sizeLine) (h : A) : xs.length ≤ sizeLine ∧ A := ⟨hz, h⟩
/-! loops, the body a variable -/
theorem fr_range {lo : Int} {m : Nat} {B : (L2.St → Hp → Prop) → V → L2.St → Hp → Prop} {Qn : L2.St → Hp → Prop} {σ0 : L2.St} {H0 : Hp} (Pv : Nat → L2.St → Hp → Prop) (h0 : Pv 0 σ0 H0)
    (hs : ∀ i σ H, i < m → Pv i σ H → B (Pv (i + 1)) (.int (lo + i)) σ H) (hd : ∀ σ H, Pv m σ H → Qn σ H) :
    ∃ W : Nat → Nat → L2.St → Hp → Prop, (∃ k, W 0 k σ0 H0) ∧ ∀ i k σ H, W i k σ H →
      ((Itr lo m).stop i H ∧ Qn σ H) ∨ ((Itr lo m).go i H ∧ ∃ N : L2.St → Hp → Prop, (∀ σ' H', N σ' H' → ∃ k', k' < k ∧ W (i + 1) k' σ' H') ∧ ∀ x H', (Itr lo m).yld i H x H' → B N x σ H') := by
  refine ⟨fun i k σ H => k = m - i ∧ i ≤ m ∧ Pv i σ H, ⟨m, rfl, Nat.zero_le _, h0⟩, ?_⟩
  rintro i k σ H ⟨rfl, hi, p⟩
  by_cases hlt : i < m
  · refine .inr ⟨hlt, Pv (i + 1), fun σ' H' p' => ⟨m - (i + 1), by omega, rfl, hlt, p'⟩, fun x H' y => ?_⟩
    obtain ⟨e, y⟩ := y
    subst e y
    exact hs i σ _ hlt p
  · have e : i = m := by omega
    subst e
    exact .inl ⟨Nat.le_refl _, hd σ H p⟩
theorem fr_tup {a : Addr} {xs : List V} {B : (L2.St → Hp → Prop) → V → L2.St → Hp → Prop} {Qn : L2.St → Hp → Prop} {σ0 : L2.St} {H0 : Hp} (Pv : Nat → L2.St → Hp → Prop) (h0 : Pv 0 σ0 H0) (hl : ∀ i σ H, i ≤ xs.length → Pv i σ H → SqT K H a xs)
    (hs : ∀ i x σ H, xs[i]? = some x → Pv i σ H → B (Pv (i + 1)) x σ H) (hd : ∀ σ H, Pv xs.length σ H → Qn σ H) :
    ∃ W : Nat → Nat → L2.St → Hp → Prop, (∃ k, W 0 k σ0 H0) ∧ ∀ i k σ H, W i k σ H →
      ((Itt K a).stop i H ∧ Qn σ H) ∨ ((Itt K a).go i H ∧ ∃ N : L2.St → Hp → Prop, (∀ σ' H', N σ' H' → ∃ k', k' < k ∧ W (i + 1) k' σ' H') ∧ ∀ x H', (Itt K a).yld i H x H' → B N x σ H') := by
  refine ⟨fun i k σ H => k = xs.length - i ∧ i ≤ xs.length ∧ Pv i σ H, ⟨xs.length, rfl, Nat.zero_le _, h0⟩, ?_⟩
  rintro i k σ H ⟨rfl, hi, p⟩
  have q := hl i σ H hi p
  by_cases hlt : i < xs.length
  · refine .inr ⟨⟨xs, xs[i], q, by simp [hlt]⟩, Pv (i + 1), fun σ' H' p' => ⟨xs.length - (i + 1), by omega, rfl, hlt, p'⟩, fun x H' y => ?_⟩
    obtain ⟨e, y⟩ := y
    subst e
    exact hs i x σ _ (y xs q) p
  · have e : i = xs.length := by omega
    subst e
    exact .inl ⟨⟨xs, q, Nat.le_refl _⟩, hd σ H p⟩
theorem fr_list {a : Addr} {xs : List V} {B : (L2.St → Hp → Prop) → V → L2.St → Hp → Prop} {Qn : L2.St → Hp → Prop} {σ0 : L2.St} {H0 : Hp} (Pv : Nat → L2.St → Hp → Prop) (h0 : Pv 0 σ0 H0) (hl : ∀ i σ H, i ≤ xs.length → Pv i σ H → SqL K H a xs)
    (hs : ∀ i x σ H, xs[i]? = some x → Pv i σ H → B (Pv (i + 1)) x σ H) (hd : ∀ σ H, Pv xs.length σ H → Qn σ H) :
    ∃ W : Nat → Nat → L2.St → Hp → Prop, (∃ k, W 0 k σ0 H0) ∧ ∀ i k σ H, W i k σ H →
      ((Itl K a).stop i H ∧ Qn σ H) ∨ ((Itl K a).go i H ∧ ∃ N : L2.St → Hp → Prop, (∀ σ' H', N σ' H' → ∃ k', k' < k ∧ W (i + 1) k' σ' H') ∧ ∀ x H', (Itl K a).yld i H x H' → B N x σ H') := by
  refine ⟨fun i k σ H => k = xs.length - i ∧ i ≤ xs.length ∧ Pv i σ H, ⟨xs.length, rfl, Nat.zero_le _, h0⟩, ?_⟩
  rintro i k σ H ⟨rfl, hi, p⟩
  have q := hl i σ H hi p
  by_cases hlt : i < xs.length
  · refine .inr ⟨⟨xs, xs[i], q, by simp [hlt]⟩, Pv (i + 1), fun σ' H' p' => ⟨xs.length - (i + 1), by omega, rfl, hlt, p'⟩, fun x H' y => ?_⟩
    obtain ⟨e, y⟩ := y
    subst e
    exact hs i x σ _ (y xs q) p
  · have e : i = xs.length := by omega
    subst e
    exact .inl ⟨⟨xs, q, Nat.le_refl _⟩, hd σ H p⟩
end
/-! new objects, the heap behind them unnamed -/
section
variable {X : Cx} {es : List Expr} {t : TA} {pos : Pos}
theorem pa_weak (h : PA X es t) : PA X es (fun σ H Q => ∃ R : List V → Hp → Prop, t σ H R ∧ ∀ xs H1, R xs H1 → Q xs H1) :=
  ⟨fun pos pins s σ H Q I ⟨R, hR, hi⟩ => thn (h.run pos pins s σ H R I hR) fun us s1 ⟨vs, H1, I1, r, q⟩ => ⟨vs, H1, I1, r, hi vs H1 q⟩⟩
theorem pe_less {e : Expr} {t u : TE} (h : PE X e t) (i : ∀ σ H Q, u σ H Q → t σ H Q) : PE X e u := ⟨fun pins s σ H Q I q => h.run pins s σ H Q I (i σ H Q q)⟩
def tTupN (t : TA) : TE := fun σ H Q => t σ H fun xs H1 => xs.length ≤ sizeLine ∧ ∀ p H', H1 p = none → Same H1 H' → H' p = some (.tup xs) → Q (.ref p) H'
def tLstN (t : TA) : TE := fun σ H Q => t σ H fun xs H1 => xs.length ≤ sizeLine ∧ ∀ p H', H1 p = none → Same H1 H' → H' p = some (.lst xs) → Q (.ref p) H'
theorem pe_tupN {x1} (h : PA X es t) : PE X (.Tuple es x1 pos) (tTupN t) :=
  pe_less (pe_tup (pa_weak h)) fun σ H Q q => ⟨_, q, fun xs H1 z => ⟨z.1, fun p hp => z.2 p _ hp (same_new hp _) upd_same⟩⟩
theorem pe_lstN (h : PA X es t) : PE X (.List es pos) (tLstN t) :=
  pe_less (pe_lst (pa_weak h)) fun σ H Q q => ⟨_, q, fun xs H1 z => ⟨z.1, fun p hp => z.2 p _ hp (same_new hp _) upd_same⟩⟩
def rTupN (K : PySem.W.Frag) : List V → Hp → VK → Prop := fun vs H Q => ∃ (a : Addr) (xs : List V), vs = [.ref a] ∧ SqL K H a xs ∧ ∀ p H', H p = none → Same H H' → H' p = some (.tup xs) → Q (.ref p) H'
theorem call_tupN : CallR X (.type "tuple") (rTupN X.K) := fun pins s σ H vs us Q J r want => by
  obtain ⟨a, xs, rfl, h1, q⟩ := want
  exact call_tuple_of pins s σ H _ us Q J r ⟨a, xs, rfl, .inl ⟨h1, fun l hl => q l _ hl (same_new hl _) upd_same⟩⟩
def rListN (K : PySem.W.Frag) : List V → Hp → VK → Prop := fun vs H Q => ∃ (a : Addr) (xs : List V), vs = [.ref a] ∧ (SqL K H a xs ∨ SqT K H a xs) ∧ ∀ p H', H p = none → Same H H' → H' p = some (.lst xs) → Q (.ref p) H'
theorem call_listN : CallR X (.type "list") (rListN X.K) := fun pins s σ H vs us Q J r want => by
  obtain ⟨a, xs, rfl, h1, q⟩ := want
  exact call_list_of pins s σ H _ us Q J r ⟨a, xs, rfl, h1, fun l hl => q l _ hl (same_new hl _) upd_same⟩
def rSlN (K : PySem.W.Frag) : V → Option Int → Option Int → Hp → VK → Prop := fun x lo hi H Q => ∃ a xs, x = .ref a ∧ SqL K H a xs ∧ ∀ p H', H p = none → Same H H' → H' p = some (.lst (cutV xs lo hi)) → Q (.ref p) H'
theorem sl_listN : SlR X (rSlN X.K) := by
  intro pins s σ H x v vl vu lo hi sl Q inv rx hs pl pu want
  obtain ⟨a, xs, rfl, hx, q⟩ := want
  exact sl_list pins s σ H _ v vl vu lo hi sl Q inv rx hs pl pu ⟨a, xs, rfl, hx, fun p hp => q p _ hp (same_new hp _) upd_same⟩
def rCatN : R2 := fun x y H Q => ∃ l b xs zs, x = .ref l ∧ y = .ref b ∧ H l = some (.lst xs) ∧ H b = some (.lst zs) ∧ xs.length + zs.length ≤ sizeLine ∧ ∀ p H', H p = none → Same H H' → H' p = some (.lst (xs ++ zs)) → Q (.ref p) H'
theorem op_catN : OpR X (binaryOp .Add) rCatN := by
  intro pins s σ H x y v u Q inv rx ry want
  obtain ⟨l, b, xs, zs, rfl, rfl, hl, hb, hz, q⟩ := want
  exact op_cat pins s σ H _ _ v u Q inv rx ry ⟨l, b, xs, zs, rfl, rfl, hl, hb, hz, fun p hp => q p _ hp (same_new hp _) upd_same⟩
end
section
variable {σ : L2.St} {H : Hp} {Q : VK} {K : PySem.W.Frag}
theorem st_tupN {t : TA} (h : t σ H fun xs H1 => xs.length ≤ sizeLine ∧ ∀ p H', H1 p = none → Same H1 H' → H' p = some (.tup xs) → Q (.ref p) H') : tTupN t σ H Q := h
theorem st_lstN {t : TA} (h : t σ H fun xs H1 => xs.length ≤ sizeLine ∧ ∀ p H', H1 p = none → Same H1 H' → H' p = some (.lst xs) → Q (.ref p) H') : tLstN t σ H Q := h
theorem st_room {xs : List V} {A : Prop} (hz : xs.length ≤ 100000) (h : A) : xs.length ≤ sizeLine ∧ A := ⟨Nat.le_trans hz (by decide), h⟩
theorem st_rTup {a : Addr} {xs : List V} (hx : SqL K H a xs) (h : ∀ p H', H p = none → Same H H' → H' p = some (.tup xs) → Q (.ref p) H') : rTupN K [.ref a] H Q := ⟨a, xs, rfl, hx, h⟩
theorem st_rList {a : Addr} {xs : List V} (hx : SqT K H a xs) (h : ∀ p H', H p = none → Same H H' → H' p = some (.lst xs) → Q (.ref p) H') : rListN K [.ref a] H Q := ⟨a, xs, rfl, .inr hx, h⟩
theorem st_rSl {a : Addr} {xs : List V} {lo hi : Option Int} (hx : SqL K H a xs) (h : ∀ p H', H p = none → Same H H' → H' p = some (.lst (cutV xs lo hi)) → Q (.ref p) H') : rSlN K (.ref a) lo hi H Q := ⟨a, xs, rfl, hx, h⟩
theorem st_rCat {a b : Addr} {xs zs : List V} (hx : H a = some (.lst xs)) (hy : H b = some (.lst zs)) (hz : xs.length + zs.length ≤ 100000) (h : ∀ p H', H p = none → Same H H' → H' p = some (.lst (xs ++ zs)) → Q (.ref p) H') : rCatN (.ref a) (.ref b) H Q := ⟨a, b, xs, zs, rfl, rfl, hx, hy, Nat.le_trans hz (by decide), h⟩
theorem st_rCut {a : Addr} {xs : List V} {lo hi : Option Int} (hx : SqT K H a xs) (h : ∀ p H', Same H H' → SqT K H' p (cutV xs lo hi) → Q (.ref p) H') : LG.rCut K (.ref a) lo hi H Q := ⟨a, xs, rfl, hx, h⟩
theorem st_rPlus {a b : Addr} {xs ys : List V} (hx : SqT K H a xs) (hy : SqT K H b ys) (hz : xs.length + ys.length ≤ 100000) (h : ∀ p H', Same H H' → SqT K H' p (xs ++ ys) → Q (.ref p) H') : LG.rPlus K (.ref a) (.ref b) H Q := ⟨a, b, xs, ys, rfl, rfl, hx, hy, Nat.le_trans hz (by decide), h⟩
end
/-! f(k = v, ..): a def that is called by names alone, in its parameters' order -/
section
def tCallK0 (sp : Sp) (E : XK) (tk : TA) : TE := fun σ H Q => tk σ H fun zs H2 => sp zs H2 Q E
structure HasK (P : Program) (w : World) (K : PySem.W.Frag) (mg : Str → Option Value) (base : Heap) (CX : CXT) (k : Nat) (x : Str) (ps : List Str) (sp : Sp) : Prop where
  ex : ∃ (f : Addr) (fd : FuncData), FnOk P w K mg base CX k f fd ps sp ∧ mg x = some (.ref f) ∧ PySem.W.keepIn K (.ref f) = true ∧ ∀ (s : Shared) (ws : List Value), ws.length = ps.length → BindsTo s fd ⟨[], ps.zip ws⟩ (ps.zip ws)
structure DefK (K : PySem.W.Frag) (mg : Str → Option Value) (x : Str) (st : Stmt) (ps : List Str) : Prop where
  ex : ∃ (f : Addr) (fd : FuncData), Fun K x x st f fd ∧ mg x = some (.ref f) ∧ ∀ (s : Shared) (ws : List Value), ws.length = ps.length → BindsTo s fd ⟨[], ps.zip ws⟩ (ps.zip ws)
theorem DefK.has {P : Program} {w : World} {K : PySem.W.Frag} {mg : Str → Option Value} {base : Heap} {CX : CXT} {k : Nat} {x : Str} {ps : List Str} {sp : Sp} {st : Stmt} (d : DefK K mg x st ps) (h : ∀ (f : Addr) (fd : FuncData), Fun K x x st f fd → FnOk P w K mg base CX k f fd ps sp) : HasK P w K mg base CX k x ps sp := by
  obtain ⟨f, fd, F, m, b⟩ := d.ex
  exact ⟨f, fd, h f fd F, m, F.kp, b⟩
variable {X : Cx} {CX : CXT} {k j : Nat} {ps : List Str} {sp : Sp} {x : Str} {p pos : Pos} {E : XK} {kws : List Keyword} {tk : TA}
theorem pcK0 (h : HasK X.prog X.w X.K X.mg X.base CX k x ps sp) (hr : Room j X.A) (hx : Passes CX X E) (hkw : PK X kws tk) (hg : Gl X x := by rfl) (hj : k ≤ j := by first | decide | omega)
    (hall : (backToKw pos (keywordEach kws X.env)).all (·.1.isSome) = true := by rfl) (hks : (backToKw pos (keywordEach kws X.env)).filterMap (·.1) = ps := by rfl) (hdb : (x == ("__debug__" : Str)) = false := by decide)
    (hpl : ((backTo pos (starEach [] X.env)).any (·.1) || (backToKw pos (keywordEach kws X.env)).any (·.1.isNone)) = false := by rfl) : PE X (.Call (.Name x p) [] kws pos) (tCallK0 sp E tk) := by
  obtain ⟨f, fd, F, hm, hk, hb⟩ := h.ex
  refine ⟨fun pins s σ H Q I h => ?_⟩
  refine wpAny_Call_Name_kw (ld_glob I hg hm ?_ hdb)
  refine PySem.W.callWith_KW0 (h₀ := X.base) I.ok.mod.kin hk hall ?_ hpl
  refine thn (hkw.run pos pins s σ H _ I h) fun ws s2 ⟨zs, H2, I2, rz, q2⟩ => ⟨I2.kIn, ?_⟩
  rw [hks]
  have hl : ws.length = ps.length := by rw [← rz.length]; exact F.len _ _ _ _ q2
  refine wpAny_call (codeAny_mono (F.run X.A X.stack s2 H2 ⟨[], ps.zip ws⟩ ws zs Q E (hr.mono hj) I2.env0 (hb s2 ws hl) rz q2) fun r s' hq => ?_)
  cases r with
  | error e => exact hx pins σ H2 s2 e s' I2 hq
  | ok fl =>
    cases fl with
    | ret u => exact I2.after hq
    | next => exact False.elim hq
    | brk => exact False.elim hq
    | cont => exact False.elim hq
theorem st_callK0 {σ : L2.St} {H : Hp} {Q : VK} {t : TA} (h : t σ H fun vs H1 => sp vs H1 Q E) : tCallK0 sp E t σ H Q := h
end
end LG
namespace LG
open PySem PySem.Spec PyProof.Rows L2
def rMulLN : R2 := fun x y H Q => ∃ l k xs, x = .ref l ∧ y = .int k ∧ H l = some (.lst xs) ∧ 0 ≤ k ∧ k ≤ 100000 ∧ xs.length * k.toNat ≤ 100000 ∧ ∀ p H', H p = none → Same H H' → H' p = some (.lst (List.replicate k.toNat xs).flatten) → Q (.ref p) H'
theorem op_mulLN {X : Cx} : OpR X (binaryOp .Mult) rMulLN := by
  intro pins s σ H x y v u Q I rx ry h
  obtain ⟨l, k, xs, rfl, rfl, hl, h1, h2, hz, q⟩ := h
  exact op_rep pins s σ H _ _ v u Q I rx ry ⟨l, k, xs, rfl, rfl, hl, by omega, by omega, Nat.le_trans hz (by decide), fun p hp => q p _ hp (same_new hp _) upd_same⟩
def rRepTN (K : PySem.W.Frag) : R2 := fun x y H Q => ∃ l k xs, x = .ref l ∧ y = .int k ∧ SqT K H l xs ∧ xs ≠ [] ∧ 2 ≤ k ∧ k ≤ 1000 ∧ xs.length ≤ 1000 ∧ ∀ p H', H p = none → Same H H' → H' p = some (.tup (List.replicate k.toNat xs).flatten) → Q (.ref p) H'
theorem op_repTN {X : Cx} : OpR X (binaryOp .Mult) (rRepTN X.K) := by
  intro pins s σ H x y v u Q I rx ry h
  obtain ⟨l, k, xs, rfl, rfl, hl, h0, h1, h2, hz, q⟩ := h
  exact op_repT pins s σ H _ _ v u Q I rx ry ⟨l, k, xs, rfl, rfl, hl, h0, h1, h2, hz, fun p hp => q p _ hp (same_new hp _) upd_same⟩
theorem st_strs {x y : Str} {P : Str → Str → Prop} (h : P x y) : ∃ a b, V.str x = .str a ∧ V.str y = .str b ∧ P a b := ⟨x, y, rfl, rfl, h⟩
section
variable {σ : L2.St} {H : Hp} {Q : VK} {K : PySem.W.Frag}
theorem st_rep {v : V} {d : PyData} (hd : Dp K H v d) (h1 : d.showable = true ∧ d.depth ≤ 60 ∧ d.shown.length ≤ sizeLine) (h : Q (.str d.shown) H) : LG.rRep K [v] H Q := ⟨v, d, rfl, hd, h1.1, h1.2.1, h1.2.2, h⟩
theorem st_en {ta : TA} {R : It → Hp → Prop} (h : ta σ H fun vs H1 => ∃ a xs, vs = [.ref a] ∧ SqT K H1 a xs ∧ R (IteT K a 0) H1) : iEnT K ta σ H R := h
theorem st_enS {ta tk : TA} {R : It → Hp → Prop} (h : ta σ H fun vs H1 => tk σ H1 fun zs H2 => ∃ a xs c, vs = [.ref a] ∧ zs = [.int ((c : Nat) : Int)] ∧ c ≤ 1000 ∧ SqT K H2 a xs ∧ R (IteT K a c) H2) : iEnTS K ta tk σ H R := h
theorem st_srcE {a : Addr} {xs : List V} {R : Addr → Prop} (hx : SqT K H a xs) (h : R a) : ∃ b ys, [V.ref a] = [.ref b] ∧ SqT K H b ys ∧ R b := ⟨a, xs, rfl, hx, h⟩
theorem st_srcE1 {a : Addr} {xs : List V} {R : Addr → Nat → Prop} (hx : SqT K H a xs) (h : R a 1) : ∃ b ys c, [V.ref a] = [.ref b] ∧ [V.int 1] = [.int ((c : Nat) : Int)] ∧ c ≤ 1000 ∧ SqT K H b ys ∧ R b c := ⟨a, xs, 1, rfl, rfl, by decide, hx, h⟩
theorem st_dget {td ty : TE} (h : td σ H fun x H1 => ty σ H1 fun y H2 => ∃ a v, x = .ref a ∧ DGet H2 a y (some v) ∧ Q v H2) : tDGet td ty σ H Q := h
theorem st_dc {wi : TI} {g : TG} {tt : TT} {tk tv : TE} {vs : List Nat} (h : wi σ H fun J H1 => ∀ D, H1 D = none → ∃ W : Nat → Nat → Hp → Prop, (∃ m, W 0 m (upd H1 D (.dK []))) ∧ ∀ i m H, W i m H →
    (J.stop i H ∧ Q (.ref D) H) ∨ (J.go i H ∧ ∃ Nx : Hp → Prop, (∀ H', Nx H' → ∃ m', m' < m ∧ W (i + 1) m' H') ∧ ∀ x H', J.yld i H x H' → g x (wipe σ vs) H' fun σ2 H2 => wipe σ2 vs = wipe σ vs ∧ tt σ2 H2 fun b H3 =>
      if b = true then tk σ2 H3 fun y H4 => tv σ2 H4 fun z H5 => ∃ kvs k, y = kV k ∧ H5 D = some (.dK kvs) ∧ kvs.length < sizeLine ∧ Nx (upd H5 D (.dK (putK kvs k z))) else Nx H3)) : tDc wi g tt tk tv vs σ H Q := h
theorem st_disp {trs : List (TE × TE)} (h : ∀ p, H p = none → tPairs trs σ (upd H p (.dK [])) fun ps H2 => H2 p = some (.dK []) ∧ ∃ kvs : List (Key × V), ps = kvs.map (fun kv => (kV kv.1, kv.2)) ∧ kvs.length ≤ 15 ∧ Q (.ref p) (upd H2 p (.dK (mergeK [] kvs)))) : tDisp trs σ H Q := h
theorem st_pn {q : List (V × V) → Hp → Prop} (h : q [] H) : tPairs [] σ H q := h
theorem st_pc {tk tv : TE} {r : List (TE × TE)} {q : List (V × V) → Hp → Prop} (h : tk σ H fun x H1 => tv σ H1 fun y H2 => tPairs r σ H2 fun ps H3 => q ((x, y) :: ps) H3) : tPairs ((tk, tv) :: r) σ H q := h
theorem fc_enum {a : Addr} {xs : List V} {c : Nat} {B : (Hp → Prop) → V → Hp → Prop} {Qn : Hp → Prop} {H0 : Hp} (Pv : Nat → Hp → Prop) (h0 : Pv 0 H0) (hl : ∀ i H, i ≤ xs.length → Pv i H → SqT K H a xs)
    (hs : ∀ i x H (T : Addr) (H' : Hp), xs[i]? = some x → Pv i H → H T = none → Same H H' → H' T = some (.tup [.int ((c + i : Nat) : Int), x]) → B (Pv (i + 1)) (.ref T) H') (hd : ∀ H, Pv xs.length H → Qn H) :
    ∃ W : Nat → Nat → Hp → Prop, (∃ k, W 0 k H0) ∧ ∀ i k H, W i k H →
      ((IteT K a c).stop i H ∧ Qn H) ∨ ((IteT K a c).go i H ∧ ∃ N : Hp → Prop, (∀ H', N H' → ∃ k', k' < k ∧ W (i + 1) k' H') ∧ ∀ x H', (IteT K a c).yld i H x H' → B N x H') := by
  refine ⟨fun i k H => k = xs.length - i ∧ i ≤ xs.length ∧ Pv i H, ⟨xs.length, rfl, Nat.zero_le _, h0⟩, ?_⟩
  rintro i k H ⟨rfl, hi, p⟩
  have q := hl i H hi p
  by_cases hlt : i < xs.length
  · refine .inr ⟨⟨xs, xs[i], q, by simp [hlt]⟩, Pv (i + 1), fun H' p' => ⟨xs.length - (i + 1), by omega, rfl, hlt, p'⟩, fun x H' y => ?_⟩
    obtain ⟨T, z, rfl, hT, rfl, y⟩ := y
    exact hs i z H T _ (y xs q) p hT (same_new hT _) upd_same
  · have e : i = xs.length := by omega
    subst e
    exact .inl ⟨⟨xs, q, rfl⟩, hd H p⟩
theorem fr_enum {a : Addr} {xs : List V} {c : Nat} {B : (L2.St → Hp → Prop) → V → L2.St → Hp → Prop} {Qn : L2.St → Hp → Prop} {σ0 : L2.St} {H0 : Hp} (Pv : Nat → L2.St → Hp → Prop) (h0 : Pv 0 σ0 H0) (hl : ∀ i σ H, i ≤ xs.length → Pv i σ H → SqT K H a xs)
    (hs : ∀ i x σ H (T : Addr) (H' : Hp), xs[i]? = some x → Pv i σ H → H T = none → Same H H' → H' T = some (.tup [.int ((c + i : Nat) : Int), x]) → B (Pv (i + 1)) (.ref T) σ H') (hd : ∀ σ H, Pv xs.length σ H → Qn σ H) :
    ∃ W : Nat → Nat → L2.St → Hp → Prop, (∃ k, W 0 k σ0 H0) ∧ ∀ i k σ H, W i k σ H →
      ((IteT K a c).stop i H ∧ Qn σ H) ∨ ((IteT K a c).go i H ∧ ∃ N : L2.St → Hp → Prop, (∀ σ' H', N σ' H' → ∃ k', k' < k ∧ W (i + 1) k' σ' H') ∧ ∀ x H', (IteT K a c).yld i H x H' → B N x σ H') := by
  refine ⟨fun i k σ H => k = xs.length - i ∧ i ≤ xs.length ∧ Pv i σ H, ⟨xs.length, rfl, Nat.zero_le _, h0⟩, ?_⟩
  rintro i k σ H ⟨rfl, hi, p⟩
  have q := hl i σ H hi p
  by_cases hlt : i < xs.length
  · refine .inr ⟨⟨xs, xs[i], q, by simp [hlt]⟩, Pv (i + 1), fun σ' H' p' => ⟨xs.length - (i + 1), by omega, rfl, hlt, p'⟩, fun x H' y => ?_⟩
    obtain ⟨T, z, rfl, hT, rfl, y⟩ := y
    exact hs i z σ H T _ (y xs q) p hT (same_new hT _) upd_same
  · have e : i = xs.length := by omega
    subst e
    exact .inl ⟨⟨xs, q, rfl⟩, hd σ H p⟩
end
end LG
/-! a def that is called without its last values -/
namespace LG
open PySem PySem.Spec PyProof.Rows L2
structure HasD (P : Program) (w : World) (K : PySem.W.Frag) (mg : Str → Option Value) (base : Heap) (CX : CXT) (k : Nat) (x : Str) (ps : List Str) (dvs : List V) (sp : Sp) : Prop where
  ex : ∃ (f : Addr) (fd : FuncData) (ds : List Value), FnOk P w K mg base CX k f fd ps sp ∧ mg x = some (.ref f) ∧ PySem.W.keepIn K (.ref f) = true ∧ Vals dvs ds ∧ Binds K fd ps ds
section
variable {X : Cx} {k j : Nat} {ps : List Str} {sp : Sp} {x : Str} {p pos : Pos} {e : Expr} {es : List Expr} {t : TA} {dvs : List V}
theorem pcD (h : HasD X.prog X.w X.K X.mg X.base CX0 k x ps dvs sp) (hr : Room j X.A) (ha : PA X (e :: es) t) (hg : Gl X x := by rfl) (hj : k ≤ j := by first | decide | omega) (hdb : (x == ("__debug__" : Str)) = false := by decide)
    (he : starEach (e :: es) X.env = (false, eval e X.env) :: starEach es X.env := by rfl) (hpl : (backTo pos (starEach es X.env)).any (·.1) = false := by rfl) : PE X (.Call (.Name x p) (e :: es) [] pos) (tCall sp dvs E0 t) := by
  obtain ⟨f, fd, ds, F, m, kp, hv, b⟩ := h.ex
  exact pe_call F (hr.mono hj) hg m kp b hv pass0 ha hdb he hpl
theorem pcDX (h : HasD X.prog X.w X.K X.mg X.base (L2.CX X.prog X.w) k x ps dvs sp) (hr : Room j X.A) (ha : PA X (e :: es) t) (hg : Gl X x := by rfl) (hj : k ≤ j := by first | decide | omega) (hdb : (x == ("__debug__" : Str)) = false := by decide)
    (he : starEach (e :: es) X.env = (false, eval e X.env) :: starEach es X.env := by rfl) (hpl : (backTo pos (starEach es X.env)).any (·.1) = false := by rfl) : PE X (.Call (.Name x p) (e :: es) [] pos) (tCall sp dvs E0 t) := by
  obtain ⟨f, fd, ds, F, m, kp, hv, b⟩ := h.ex
  exact pe_call F (hr.mono hj) hg m kp b hv passL ha hdb he hpl
end
end LG
namespace LG
open PySem PySem.Spec PyProof.Rows L2
/-! ### defs that have values for what is not handed in -/
section
variable {P : Program} {w : World} {K : PySem.W.Frag} {mg : Str → Option Value} {base : Heap} {x : Str} {st : Stmt} {ps : List Str} {k : Nat} {sp : Sp} {CX : CXT} {dvs : List V}
abbrev FunV (K : PySem.W.Frag) (x : Str) (st : Stmt) (dvs : List V) (f : Addr) (fd : FuncData) : Prop := FunD K x x (defArgs st) (defBody st) (defScope st) dvs [] f fd
theorem funV_ok {f : Addr} {fd : FuncData} {N : List Str} (F : FunV K x st dvs f fd) (S : FnScope N ps (defScope st)) (many : ∀ vs H Q E, sp vs H Q E → vs.length = ps.length)
    (body : ∀ (cdv : Value) (A : Around) (outer : List Env) (s : Shared) (H : Hp) (vs : List V) (Q : VK) (E : XK), Room k (A.deeper (envOfC x (defScope st) s.heap.objs.size f cdv)) → sp vs H Q E →
      ∃ t, PSs (cxOf CX0 P w K mg base N x (defScope st) f cdv A outer s H E).nox (defBody st) t ∧ t { nx := fun _ H' => Q .non H', rt := Q } (start N vs) H) : FnOk P w K mg base CX0 (k + 1) f fd ps sp :=
  F.ok S many fun cdv A outer s H vs Q E hr want => by
    obtain ⟨t, ht, q⟩ := body cdv A outer s H vs Q E hr want
    exact ⟨t, ht.nox, q⟩
structure DefV (K : PySem.W.Frag) (mg : Str → Option Value) (x : Str) (st : Stmt) (ps : List Str) (dvs : List V) : Prop where
  ex : ∃ (f : Addr) (fd : FuncData), FunV K x st dvs f fd ∧ mg x = some (.ref f) ∧ Binds K fd ps []
theorem DefV.has (d : DefV K mg x st ps dvs) (h : ∀ (f : Addr) (fd : FuncData), FunV K x st dvs f fd → FnOk P w K mg base CX k f fd ps sp) : Has P w K mg base CX k x ps sp := by
  obtain ⟨f, fd, F, g, b⟩ := d.ex
  exact ⟨f, fd, h f fd F, g, F.kp, b⟩
theorem defV_mk {h : Heap} {f D : Addr} {od an : Option Addr} {sl : Array (Option Value)} {oc kV dc pm cd ct : Value} (X : K.In h) (G : h.Ns mainGlobals mg)
    (a : PySem.W.nsIn K mainGlobals x = some (some (.ref f))) (l : K.lookup f = some ⟨oc, od, .func (PySem.W.fnOf x x (defArgs st) (defBody st) (defScope st) (.ref D) kV dc pm an cd ct), sl⟩) (c : PySem.W.codeIn K cd x = true) (kp : PySem.W.keepIn K (.ref f) = true) (v : DflV K (.ref D) dvs) (ne : dvs ≠ [])
    (b : ∀ (T : Addr) (kV doc pm : Value) (an : Option Addr) (cdv ct : Value) (us its : List Value), us.length = ps.length → its.length = dvs.length →
      ∃ kk, bindArgs (PySem.W.fnOf x x (defArgs st) (defBody st) (defScope st) (.ref T) kV doc pm an cdv ct) ⟨us, []⟩ = seqItems? (.ref T) >>= kk ∧ kk (some its.toArray) = pure (ps.zip (us ++ its.drop dvs.length))) : DefV K mg x st ps dvs := by
  have F : FunV K x st dvs f _ := ⟨⟨oc, od, .ref D, kV, dc, pm, an, cd, ct, sl, rfl, l, c, v, .inl rfl⟩, kp⟩
  obtain ⟨ds, hv, hb⟩ := FunD.binds1 F ps.length dvs.length ne (by omega) b
  rw [List.drop_length] at hv
  cases hv
  exact ⟨f, _, F, PySem.W.mg_of X G a, hb⟩
structure DefD (K : PySem.W.Frag) (mg : Str → Option Value) (x : Str) (st : Stmt) (ps : List Str) (dvs : List V) : Prop where
  ex : ∃ (f : Addr) (fd : FuncData), FunV K x st dvs f fd ∧ mg x = some (.ref f) ∧ ∃ ds, Vals dvs ds ∧ Binds K fd ps ds
theorem DefD.has (d : DefD K mg x st ps dvs) (h : ∀ (f : Addr) (fd : FuncData), FunV K x st dvs f fd → FnOk P w K mg base CX k f fd ps sp) : HasD P w K mg base CX k x ps dvs sp := by
  obtain ⟨f, fd, F, g, ds, hv, b⟩ := d.ex
  exact ⟨f, fd, ds, h f fd F, g, F.kp, hv, b⟩
theorem defD_mk {h : Heap} {f D : Addr} {od an : Option Addr} {sl : Array (Option Value)} {oc kV dc pm cd ct : Value} (n : Nat) (X : K.In h) (G : h.Ns mainGlobals mg)
    (a : PySem.W.nsIn K mainGlobals x = some (some (.ref f))) (l : K.lookup f = some ⟨oc, od, .func (PySem.W.fnOf x x (defArgs st) (defBody st) (defScope st) (.ref D) kV dc pm an cd ct), sl⟩) (c : PySem.W.codeIn K cd x = true) (kp : PySem.W.keepIn K (.ref f) = true) (v : DflV K (.ref D) dvs) (ne : dvs ≠ []) (hn : n + dvs.length = ps.length)
    (b : ∀ (T : Addr) (kV doc pm : Value) (an : Option Addr) (cdv ct : Value) (us its : List Value), us.length = n → its.length = dvs.length →
      ∃ kk, bindArgs (PySem.W.fnOf x x (defArgs st) (defBody st) (defScope st) (.ref T) kV doc pm an cdv ct) ⟨us, []⟩ = seqItems? (.ref T) >>= kk ∧ kk (some its.toArray) = pure (ps.zip (us ++ its.drop 0))) : DefD K mg x st ps dvs := by
  have F : FunV K x st dvs f _ := ⟨⟨oc, od, .ref D, kV, dc, pm, an, cd, ct, sl, rfl, l, c, v, .inl rfl⟩, kp⟩
  obtain ⟨ds, hv, hb⟩ := FunD.binds1 F n 0 ne (by rw [Nat.sub_zero]; exact hn) b
  exact ⟨f, _, F, PySem.W.mg_of X G a, ds, hv, hb⟩
end
end LG
/-! ### len(set(t)), t a tuple of ints -/
namespace LG
open PySem PySem.Spec PyProof.Rows L2
theorem perm_of_sub : ∀ (L ns : List Int), L.Nodup → (∀ x ∈ L, x ∈ ns) → ∃ r, ns.Perm (L ++ r)
  | [], ns, _, _ => ⟨ns, List.Perm.refl _⟩
  | x :: L, ns, nd, sub => by
    have nx : x ∉ L := (List.nodup_cons.mp nd).1
    have hx : x ∈ ns := sub x List.mem_cons_self
    obtain ⟨r, hr⟩ := perm_of_sub L (ns.erase x) (List.nodup_cons.mp nd).2 fun y hy => (List.mem_erase_of_ne (fun z => nx (by rw [← z]; exact hy))).mpr (sub y (List.mem_cons_of_mem _ hy))
    exact ⟨r, (List.perm_cons_erase hx).trans (List.Perm.cons x hr)⟩
theorem count_nodup {L ns : List Int} (nd : L.Nodup) (h : ∀ k, k ∈ ns ↔ k ∈ L) : L.length = ns.length ↔ ns.Nodup := by
  obtain ⟨r, hr⟩ := perm_of_sub L ns nd fun x hx => (h x).mpr hx
  constructor
  · intro e
    have q := hr.length_eq
    rw [List.length_append] at q
    have r0 : r = [] := List.eq_nil_of_length_eq_zero (by omega)
    subst r0
    rw [List.append_nil] at hr
    exact (List.Perm.nodup_iff hr).mpr nd
  · intro hn
    obtain ⟨r2, hr2⟩ := perm_of_sub ns L hn fun x hx => (h x).mp hx
    have q := hr.length_eq
    have q2 := hr2.length_eq
    rw [List.length_append] at q q2
    omega
def tLenSetT (K : PySem.W.Frag) (ta : TE) : TE := fun σ H Q => ta σ H fun x H1 => ∃ (l : Addr) (ns : List Int), x = .ref l ∧ SqT K H1 l (ns.map V.int) ∧ ns.length ≤ 4000 ∧ ∀ c : Nat, (c = ns.length ↔ ns.Nodup) → Q (.int c) H1
theorem pe_lenSetT {X : Cx} {a : Expr} {ta : TE} {p p2 q pos : Pos} (hg : Gl X "len") (hm : X.mg "len" = none) (hg2 : Gl X "set") (hm2 : X.mg "set" = none) (ha : PE X a ta) (hc : X.calm = true := by rfl)
    (na : starEach [a] X.env = (false, eval a X.env) :: starEach [] X.env := by rfl) : PE X (.Call (.Name "len" p) [.Call (.Name "set" p2) [a] [] q] [] pos) (tLenSetT X.K ta) := by
  refine ⟨fun pins s σ H Q I h => ?_⟩
  refine Call_ (ld_blt I hg hm boot_len (PyProof.Rows.callWith_builtin1 (PyProof.Rows.args_cons ?_ rfl) rfl rfl))
  refine Call_ (ld_blt I hg2 hm2 boot_set (PyProof.Rows.callWith_type1 (PyProof.Rows.args_cons (thn (ha.run pins s σ H _ I h) fun v s1 ⟨x, H1, I1, r1, q1⟩ => PyProof.Rows.args_nil ?_) na) na rfl))
  obtain ⟨l, ns, rfl, hq, few, q1⟩ := q1
  cases r1
  obtain ⟨its, r, pl, hz⟩ := I1.tuple hq
  refine call_set_tupI ns (I1.ok.hd hc) (show s1.heap.IsTuple l its.toArray from pl) (ints_of_vals r) (by unfold scanBound; omega) fun h' tk c R hcn keep => ?_
  obtain ⟨o, es, ep, t, ho, hex, hd, _, nd, mem, sb, hf, hn, _⟩ := R
  have I2 : Inv X pins σ H1 { s1 with heap := h', toks := tk } := I1.kept keep
  refine PyProof.Rows.args_nil (call_len_set ho hex hd hf (by unfold scanBound at sb; omega) ⟨.int c, H1, I2.tok _, ⟨_, by rw [hn]⟩, q1 c ?_⟩)
  have e : c = (es.toList.map keyOf).length := by rw [List.length_map, Array.length_toList, hn]
  rw [e]
  exact count_nodup nd fun k => by rw [← mem k]; simp
theorem st_lenSet {K : PySem.W.Frag} {σ : L2.St} {H : Hp} {Q : VK} {ta : TE} (h : ta σ H fun x H1 => ∃ (l : Addr) (ns : List Int), x = .ref l ∧ SqT K H1 l (ns.map V.int) ∧ ns.length ≤ 4000 ∧ ∀ c : Nat, (c = ns.length ↔ ns.Nodup) → Q (.int c) H1) : tLenSetT K ta σ H Q := h
end LG
namespace LG
open PySem PySem.Spec PyProof.Rows L2
def rLenS (K : PySem.W.Frag) : List V → Hp → VK → Prop := fun xs H Q => ∃ p ys, xs = [V.ref p] ∧ (SqL K H p ys ∨ SqT K H p ys) ∧ Q (.int ys.length) H
/-! ### tuples that are known to have no dict of their own -/
def Nd (H : Hp) (t : Addr) : Prop := ∃ ob xs, H t = some (.frz ob (.tup xs)) ∧ ob.dict = none
theorem Nd.stay {H H' : Hp} {t : Addr} (s : TupsStay H H') (h : Nd H t) : Nd H' t := by
  obtain ⟨ob, xs, e, d⟩ := h
  exact ⟨ob, xs, s _ _ (.inr ⟨_, _, rfl⟩) e, d⟩
/-- all references of these values are such -/
def NdAll (H : Hp) (xs : List V) : Prop := ∀ t, V.ref t ∈ xs → Nd H t
theorem NdAll.stay {H H' : Hp} {xs : List V} (s : TupsStay H H') (h : NdAll H xs) : NdAll H' xs := fun t ht => (h t ht).stay s
section
variable {X : Cx}
theorem call_tuple_ofN : CallR X (.type "tuple") (fun xs H Q => ∃ p ys, xs = [.ref p] ∧ SqL X.K H p ys ∧ ∀ l ob, H l = none → ob.dict = none → Q (.ref l) (upd H l (.frz ob (.tup ys)))) := by
  intro pins s σ H xs us Q I r h
  obtain ⟨p, ys, rfl, got, q⟩ := h
  obtain ⟨u, rfl, rel0⟩ := vals1 r
  cases rel0
  obtain ⟨items2, rel', place, len⟩ := I.list got
  have long := rel'.length
  refine call_tuple_list place.isList (fun h' keeps => ?_) (by simp only [List.size_toArray] <;> omega)
  have J1 : Inv X pins σ H { s with heap := h' } := I.kept (t' := s.toks) keeps
  have J2 : Inv X pins σ (upd H h'.objs.size (.frz { cls := .type "tuple", data := .seq items2.toArray } (.tup ys))) { s with heap := h'.push { cls := .type "tuple", data := .seq items2.toArray } } :=
    J1.laid (t' := s.toks) (fun b o e => Heap.get?_push_of_some _ e) (Nat.le_refl _) (show ObjOk X.prog X.w _ _ _ (.frz _ (.tup ys)) from ⟨Heap.get?_push_size _ rfl, len, items2, rel', IsTup.new _ _⟩)
  exact ⟨.ref h'.objs.size, _, J2, rfl, q _ _ (J1.hok.fresh (Nat.le_refl _)) rfl⟩
def tBMN (K : PySem.W.Frag) (r : V → List V → Hp → VK → Prop) (to : TE) (t : TA) : TE := fun σ H Q => to σ H fun x H1 => (∃ a, x = .ref a ∧ Nd H1 a) ∧ t σ H1 fun xs H2 => r x xs H2 Q
theorem pe_bmN {o e : Expr} {es : List Expr} {to : TE} {t : TA} {name : Str} {apos cpos : Pos} {id : String} {r : V → List V → Hp → VK → Prop} (slot : Slot "tuple" name id) (hty : typeOf (.builtin id) = pure (.type "method_descriptor")) (hm : MtR X id r) (ho : PE X o to) (ha : PA X (e :: es) t)
    (hbase : attributeBase o name X.env (eval o X.env) = eval o X.env := by rfl)
    (hfew : ((backTo cpos (starEach (e :: es) X.env)).all (fun x => !x.1) && (backToKw cpos (keywordEach [] X.env)).all (fun x => x.1.isSome)
      && decide ((e :: es).length + ([] : List Keyword).length + (if ([] : List Keyword).isEmpty then 0 else 1) < 30)) = true := by rfl)
    (hline : (apos.endLine == cpos.line) = true := by rfl) (hs : starEach (e :: es) X.env = (false, eval e X.env) :: starEach es X.env := by rfl) (hplain : (backTo cpos (starEach es X.env)).any (·.1) = false := by rfl) :
    PE X (.Call (.Attribute o name apos) (e :: es) [] cpos) (tBMN X.K r to t) := by
  refine ⟨fun pins s σ H Q I h => ?_⟩
  refine wpAny_Call_method_late hbase hfew hline rfl (thn (ho.run pins s σ H _ I h) fun v s1 ⟨x, H1, J1, rel2, ty, ask1⟩ => ?_)
  obtain ⟨a, rfl, ob, xs, hk, hd⟩ := ty
  have ok : ObjOk X.prog X.w H1 s1.heap a (.frz ob (.tup xs)) := J1.hok a _ hk
  obtain ⟨e1, _, items2, _, o2, e2, c2, _⟩ := ok
  rw [e1] at e2
  obtain rfl := Option.some.inj e2
  obtain rfl : v = .ref a := rel2
  refine ⟨"tuple", id, PySem.F.plainAttrs_tuple, slot, hty, ⟨ob, e1, c2⟩, fun b e => ?_, ?_⟩
  · cases e
    exact ⟨ob, e1, hd⟩
  have args1 := ha.run cpos pins s1 σ H1 _ J1 ask1
  rw [hs] at args1 ⊢
  refine Calls.callWith_builtin (by show (false || (backTo cpos (starEach es X.env)).any (·.1)) = false; rw [hplain] <;> rfl) (Calls.evalArgs_plain ?_)
  exact thn args1 fun us s2 ⟨vs, H2, J2, rel3, ask2⟩ => hm pins s2 σ H2 (.ref a) vs (.ref a) us Q J2 rfl rel3 ask2
def rTupF (K : PySem.W.Frag) : List V → Hp → VK → Prop := fun vs H Q => ∃ (a : Addr) (xs : List V), vs = [.ref a] ∧ SqL K H a xs ∧ ∀ p H', H p = none → Same H H' → SqT K H' p xs → Nd H' p → Q (.ref p) H'
theorem call_tupF : CallR X (.type "tuple") (rTupF X.K) := fun pins s σ H vs us Q J r want => by
  obtain ⟨a, xs, rfl, h1, q⟩ := want
  exact call_tuple_ofN pins s σ H _ us Q J r ⟨a, xs, rfl, h1, fun l ob hl hd => q l _ hl (same_new hl _) (.inl (.inr ⟨ob, upd_same⟩)) ⟨ob, xs, upd_same, hd⟩⟩
theorem st_rTupF {K : PySem.W.Frag} {H : Hp} {Q : VK} {a : Addr} {xs : List V} (hx : SqL K H a xs) (h : ∀ p H', H p = none → Same H H' → SqT K H' p xs → Nd H' p → Q (.ref p) H') : rTupF K [.ref a] H Q := ⟨a, xs, rfl, hx, h⟩
theorem st_BMN {K : PySem.W.Frag} {σ : L2.St} {H : Hp} {Q : VK} {r : V → List V → Hp → VK → Prop} {to : TE} {t : TA} (h : to σ H fun x H1 => (∃ a, x = .ref a ∧ Nd H1 a) ∧ t σ H1 fun xs H2 => r x xs H2 Q) : tBMN K r to t σ H Q := h
/-- a tuple that has no dict of its own -/
def SqN (K : PySem.W.Frag) (H : Hp) (a : Addr) (xs : List V) : Prop := SqT K H a xs ∧ Nd H a
theorem SqN.stay {K : PySem.W.Frag} {H H' : Hp} {a : Addr} {xs : List V} (t : TupsStay H H') (h : SqN K H a xs) : SqN K H' a xs := ⟨t.seq h.1, h.2.stay t⟩
end
end LG
/-! ### t.index(x), t a tuple of flat items -/
namespace LG
open PySem PySem.Spec PyProof.Rows L2
def rIndexT (K : PySem.W.Frag) : V → List V → Hp → VK → Prop := fun x xs H Q => ∃ (a : Addr) (ys : List V) (y : V) (j : Nat) (z : V), x = V.ref a ∧ xs = [y] ∧ SqT K H a ys ∧ flatV y = true ∧ ys.all flatV = true ∧ ys[j]? = some z ∧ eqV z y = true ∧
  (∀ (m : Nat) (z' : V), m < j → ys[m]? = some z' → eqV z' y = false) ∧ Q (.int (j : Nat)) H
theorem mt_indexT {X : Cx} : MtR X "tuple.index" (rIndexT X.K) := by
  intro pins s σ H x xs v us Q I rel0 rels h
  obtain ⟨a, ys, y, j, z, rfl, rfl, sq, flatY, flatYs, zAt, zEq, none, q⟩ := h
  cases rel0
  cases rels with
  | cons relY relT =>
    rename_i uvY uvT
    cases relT
    obtain ⟨items2, rel, ⟨⟨cls, dd, data, sl⟩, oAt, cl, n, dat⟩, long⟩ := I.tuple sq
    simp only at cl dat
    subst cl dat
    obtain ⟨uv, uvAt, uvRel⟩ := rel.get zAt
    obtain ⟨jLt, jEq⟩ := List.getElem?_eq_some_iff.mp uvAt
    have lens := rel.length
    have jIn : j < items2.toArray.size := by simpa using jLt
    refine call_meets PySem.F.slot_tuple_index ⟨_, oAt, rfl⟩ PySem.F.entry_tuple_index (PySem.F.args_tuple_index_2 _ _)
      (TI.tuple_indexAt a items2.toArray n dd sl uvY (eqU y) j jIn ?_ ?_) ⟨oAt, fun u' hu' => mem_eqAt relY flatY rel flatYs u' (by simpa using hu'), ?_⟩
    · have same : items2.toArray[j] = uv := by simpa using jEq
      rw [same, eqU_of uvRel (flat_at flatYs zAt)]
      exact zEq
    · intro m mIn mLt
      have mIn2 : m < items2.length := by simpa using mIn
      have mIn3 : m < ys.length := by omega
      have yAt : ys[m]? = some ys[m] := List.getElem?_eq_getElem mIn3
      obtain ⟨uv2, uv2At, uv2Rel⟩ := rel.get yAt
      obtain ⟨_, mEq⟩ := List.getElem?_eq_some_iff.mp uv2At
      have same : items2.toArray[m] = uv2 := by simpa using mEq
      rw [same, eqU_of uv2Rel (flat_at flatYs yAt)]
      exact none m _ mLt yAt
    · exact ⟨.int (j : Nat), H, I.tok _, ⟨_, rfl⟩, q⟩
theorem pe_ixTK {X : Cx} {K : PySem.W.Frag} (eK : X.K = K) {o e : Expr} {es : List Expr} {to : TE} {t : TA} {apos cpos : Pos} (ho : PE X o to) (ha : PA X (e :: es) t)
    (hbase : attributeBase o "index" X.env (eval o X.env) = eval o X.env := by rfl)
    (hfew : ((backTo cpos (starEach (e :: es) X.env)).all (fun x => !x.1) && (backToKw cpos (keywordEach [] X.env)).all (fun x => x.1.isSome)
      && decide ((e :: es).length + ([] : List Keyword).length + (if ([] : List Keyword).isEmpty then 0 else 1) < 30)) = true := by rfl)
    (hline : (apos.endLine == cpos.line) = true := by rfl) (hs : starEach (e :: es) X.env = (false, eval e X.env) :: starEach es X.env := by rfl) (hplain : (backTo cpos (starEach es X.env)).any (·.1) = false := by rfl) :
    PE X (.Call (.Attribute o "index" apos) (e :: es) [] cpos) (tBMN K (rIndexT K) to t) := by
  subst eK
  exact pe_bmN PySem.F.slot_tuple_index PySem.F.type_tuple_index mt_indexT ho ha hbase hfew hline hs hplain
end LG
namespace LG
open PySem PySem.Spec PyProof.Rows L2
set_option maxHeartbeats 4000000 in
theorem tuple_mul1 (l : Addr) (items : Array Value) (n : Nat) (dd : Option Addr) (sl : Array (Option Value)) (x : Int) (u : Tok) (c0 : (decide (x < -(2 ^ 63)) || decide (x ≥ 2 ^ 63)) = false) (c1 : (items.isEmpty || x == 1) = true) :
    Meets (Builtin.«tuple.__mul__» ⟨[.ref l, .int x u], []⟩) (fun _ R s => s.heap.get? l = some { cls := .type "tuple", dict := dd, data := .seq items n, slots := sl } ∧
      R (.ok (.ret (Value.ref l))) s) :=
  .of_wp fun prog w A R s h => by
    obtain ⟨hp, g, d, tk, os⟩ := s
    obtain ⟨hl, h⟩ := h
    have f1 := AutoSeq1.idx_int
    wp_walk using wpAny_loadPart' hl
    repeat (first
      | (refine wpAny_ite_false (decide_eq_false (by rw [c0]; exact Bool.false_ne_true)) ?_; wp_walk using wpAny_loadPart' hl)
      | (refine wpAny_ite_true (decide_eq_true (by rw [c1])) ?_; wp_walk using wpAny_loadPart' hl))
    exact ⟨_, rfl, h⟩
set_option maxHeartbeats 4000000 in
theorem tuple_mul0 (l : Addr) (items : Array Value) (n : Nat) (dd : Option Addr) (sl : Array (Option Value)) (x : Int) (u : Tok) (c0 : (decide (x < -(2 ^ 63)) || decide (x ≥ 2 ^ 63)) = false) (c1 : (items.isEmpty || x == 1) = false) (c2 : (decide (x ≤ 0) || items.isEmpty) = true) :
    Meets (Builtin.«tuple.__mul__» ⟨[.ref l, .int x u], []⟩) (fun _ R s => s.heap.get? l = some { cls := .type "tuple", dict := dd, data := .seq items n, slots := sl } ∧
      R (.ok (.ret (Value.ref s.heap.objs.size))) { s with heap := s.heap.push { cls := Value.type "tuple", data := Data.seq #[] }, toks := s.toks }) :=
  .of_wp fun prog w A R s h => by
    obtain ⟨hp, g, d, tk, os⟩ := s
    obtain ⟨hl, h⟩ := h
    have f1 := AutoSeq1.idx_int
    wp_walk using wpAny_loadPart' hl
    repeat (first
      | (refine wpAny_ite_false (decide_eq_false (by rw [c0]; exact Bool.false_ne_true)) ?_; wp_walk using wpAny_loadPart' hl)
      | (refine wpAny_ite_false (decide_eq_false (by rw [c1]; exact Bool.false_ne_true)) ?_; wp_walk using wpAny_loadPart' hl)
      | (refine wpAny_ite_true (decide_eq_true (by rw [c2])) ?_; wp_walk using wpAny_loadPart' hl))
    exact ⟨_, rfl, h⟩
def rRepA (K : PySem.W.Frag) : R2 := fun x y H Q => ∃ l k xs, x = .ref l ∧ y = .int k ∧ SqT K H l xs ∧ xs ≠ [] ∧ 0 ≤ k ∧ k ≤ 1000 ∧ xs.length ≤ 1000 ∧ ∀ p H', Same H H' → SqT K H' p (List.replicate k.toNat xs).flatten → Q (.ref p) H'
set_option maxHeartbeats 4000000 in
theorem op_repA {X : Cx} : OpR X (binaryOp .Mult) (rRepA X.K) := by
  intro pins s σ H x y v u Q I rx ry h
  obtain ⟨l, k, xs, rfl, rfl, hT, hne, h1, h2, hz, q⟩ := h
  by_cases k2 : 2 ≤ k
  · exact op_repT pins s σ H _ _ v u Q I rx ry ⟨l, k, xs, rfl, rfl, hT, hne, k2, h2, hz, fun p hp => q p _ (same_new hp _) (SqT.of upd_same)⟩
  cases rx
  obtain ⟨t, rfl⟩ := ry
  obtain ⟨its, r, ⟨⟨cls, dd, data, sl⟩, ho, hc, n, hd⟩, hs⟩ := I.tuple hT
  simp only at hc hd
  subst hc hd
  have hle : its.length = xs.length := r.length.symm
  have hn : its ≠ [] := fun e => hne (by
    rw [e] at hle
    exact List.eq_nil_of_length_eq_zero hle.symm)
  have hi : its.toArray.isEmpty = false := by
    cases its with
    | nil => exact absurd rfl hn
    | cons a b => rfl
  have c0 : (decide (k < -(2 ^ 63)) || decide (k ≥ 2 ^ 63)) = false := by
    rw [decide_eq_false (by omega), decide_eq_false (by omega)] <;> rfl
  refine wpAny_binaryOp_repeat_ref (T := "tuple") (U := "int") (by decide) ⟨_, ho, rfl⟩ (fun s' => typeIs_int s' k t) noFill_tuple_mul F.fills_int_mul F.slot_int_rmul repeat_tuple F.slot_int_index.lookup
    (call_meets F.slot_int_rmul (typeIs_int s k t) F.entry_int_rmul (F.args_int_rmul_2 _ _) (int_rmul_tuple k t l its.toArray n dd sl) ⟨ho, rfl, ⟨_, ho, rfl⟩, ?_⟩)
  by_cases k1 : k = 1
  · have c1 : (its.toArray.isEmpty || k == 1) = true := by rw [k1, hi]; rfl
    refine call_meets F.slot_tuple_mul ⟨_, ho, rfl⟩ F.entry_tuple_mul (F.args_tuple_mul_2 _ _) (tuple_mul1 l its.toArray n dd sl k t c0 c1) ⟨ho, ?_⟩
    refine ⟨.ref l, H, I, rfl, q l H (Same.refl _) ?_⟩
    rw [k1]
    have e : (List.replicate (1 : Int).toNat xs).flatten = xs := by
      show (List.replicate 1 xs).flatten = xs
      simp
    rw [e]
    exact hT
  · obtain rfl : k = 0 := by omega
    have c1 : (its.toArray.isEmpty || (0 : Int) == 1) = false := by rw [hi]; rfl
    have c2 : (decide ((0 : Int) ≤ 0) || its.toArray.isEmpty) = true := by rw [decide_eq_true (Int.le_refl 0)]; rfl
    refine call_meets F.slot_tuple_mul ⟨_, ho, rfl⟩ F.entry_tuple_mul (F.args_tuple_mul_2 _ _) (tuple_mul0 l its.toArray n dd sl 0 t c0 c1 c2) ⟨ho, ?_⟩
    have hp := I.hok.fresh (Nat.le_refl s.heap.objs.size)
    refine ⟨.ref s.heap.objs.size, _, I.laid (t' := s.toks) (o := .tup []) (fun b ob q => Heap.get?_push_of_some _ q) (Nat.le_refl _) ?_, rfl, q _ _ (same_new hp _) (SqT.of upd_same)⟩
    exact ⟨Nat.zero_le _, [], .nil, IsTup.new _ _⟩
theorem st_rRepA {K : PySem.W.Frag} {H : Hp} {Q : VK} {a : Addr} {k : Int} {xs : List V} (hx : SqT K H a xs) (hn : xs ≠ []) (h0 : 0 ≤ k) (h1 : k ≤ 1000) (hz : xs.length ≤ 1000) (h : ∀ p H', Same H H' → SqT K H' p (List.replicate k.toNat xs).flatten → Q (.ref p) H') : rRepA K (.ref a) (.int k) H Q := ⟨a, k, xs, rfl, rfl, hx, hn, h0, h1, hz, h⟩
end LG
namespace LG
open PySem PySem.Spec PyProof.Rows L2
def tCallKR (sp : Sp) (E : XK) (tk : TA) : TE := fun σ H Q => tk σ H fun zs H2 => sp zs.reverse H2 Q E
structure HasKR (P : Program) (w : World) (K : PySem.W.Frag) (mg : Str → Option Value) (base : Heap) (CX : CXT) (k : Nat) (x x1 x2 : Str) (sp : Sp) : Prop where
  ex : ∃ (f : Addr) (fd : FuncData), FnOk P w K mg base CX k f fd [x1, x2] sp ∧ mg x = some (.ref f) ∧ PySem.W.keepIn K (.ref f) = true ∧ ∀ (s : Shared) (w1 w2 : Value), BindsTo s fd ⟨[], [(x2, w2), (x1, w1)]⟩ [(x1, w1), (x2, w2)]
structure DefKR (K : PySem.W.Frag) (mg : Str → Option Value) (x : Str) (st : Stmt) (x1 x2 : Str) : Prop where
  ex : ∃ (f : Addr) (fd : FuncData), Fun K x x st f fd ∧ mg x = some (.ref f) ∧ ∀ (s : Shared) (w1 w2 : Value), BindsTo s fd ⟨[], [(x2, w2), (x1, w1)]⟩ [(x1, w1), (x2, w2)]
theorem DefKR.has {P : Program} {w : World} {K : PySem.W.Frag} {mg : Str → Option Value} {base : Heap} {CX : CXT} {k : Nat} {x x1 x2 : Str} {sp : Sp} {st : Stmt} (d : DefKR K mg x st x1 x2) (h : ∀ (f : Addr) (fd : FuncData), Fun K x x st f fd → FnOk P w K mg base CX k f fd [x1, x2] sp) : HasKR P w K mg base CX k x x1 x2 sp := by
  obtain ⟨f, fd, F, m, b⟩ := d.ex
  exact ⟨f, fd, h f fd F, m, F.kp, b⟩
section
variable {X : Cx} {CX : CXT} {k j : Nat} {x1 x2 : Str} {sp : Sp} {x : Str} {p pos : Pos} {E : XK} {kws : List Keyword} {tk : TA}
theorem pcKR (h : HasKR X.prog X.w X.K X.mg X.base CX k x x1 x2 sp) (hr : Room j X.A) (hx : Passes CX X E) (hkw : PK X kws tk) (hg : Gl X x := by rfl) (hj : k ≤ j := by first | decide | omega)
    (hall : (backToKw pos (keywordEach kws X.env)).all (·.1.isSome) = true := by rfl) (hks : (backToKw pos (keywordEach kws X.env)).filterMap (·.1) = [x2, x1] := by rfl) (hdb : (x == ("__debug__" : Str)) = false := by decide)
    (hpl : ((backTo pos (starEach [] X.env)).any (·.1) || (backToKw pos (keywordEach kws X.env)).any (·.1.isNone)) = false := by rfl) : PE X (.Call (.Name x p) [] kws pos) (tCallKR sp E tk) := by
  obtain ⟨f, fd, F, hm, hk, hb⟩ := h.ex
  refine ⟨fun pins s σ H Q I h => ?_⟩
  refine wpAny_Call_Name_kw (ld_glob I hg hm ?_ hdb)
  refine PySem.W.callWith_KW0 (h₀ := X.base) I.ok.mod.kin hk hall ?_ hpl
  refine thn (hkw.run pos pins s σ H _ I h) fun ws s2 ⟨zs, H2, I2, rz, q2⟩ => ⟨I2.kIn, ?_⟩
  rw [hks]
  have hl : zs.reverse.length = 2 := F.len _ _ _ _ q2
  obtain ⟨z2, z1, rfl⟩ : ∃ z2 z1, zs = [z2, z1] := by
    match zs, hl with
    | [], z => simp at z
    | [_], z => simp at z
    | [a, b], _ => exact ⟨a, b, rfl⟩
    | _ :: _ :: _ :: _, z => simp at z
  cases rz with | cons a1 rz =>
  cases rz with | cons a2 rz =>
  cases rz
  refine wpAny_call (codeAny_mono (F.run X.A X.stack s2 H2 ⟨[], [(x2, _), (x1, _)]⟩ [_, _] [z1, z2] Q E (hr.mono hj) I2.env0 (hb s2 _ _) (.cons a2 (.cons a1 .nil)) q2) fun r s' hq => ?_)
  cases r with
  | error e => exact hx pins σ H2 s2 e s' I2 hq
  | ok fl =>
    cases fl with
    | ret u => exact I2.after hq
    | next => exact False.elim hq
    | brk => exact False.elim hq
    | cont => exact False.elim hq
theorem st_callKR {sp : Sp} {E : XK} {σ : L2.St} {H : Hp} {Q : VK} {t : TA} (h : t σ H fun vs H1 => sp vs.reverse H1 Q E) : tCallKR sp E t σ H Q := h
end
end LG
/-! ### where an exception is handled: tuples walked, defs called, isinstance -/
namespace LG
open PySem PySem.Spec PyProof.Rows L2 L2H HotX
section
variable {prog : Program} {w : World} {A : Around} {E : Value → Shared → Prop} {s : Shared}
theorem tuple_end_hot {it t x1 : Addr} {i : Nat} {items} {Q : Option Value → Shared → Prop} (warm : HotAt A x1 s.heap)
    (iterAt : s.heap.IsTupleIter it t i) (tupAt : s.heap.IsTuple t items) (out : items[i]? = none)
    (hQ : ∀ h', Heap.ExtBut it s.heap h' → Q none { s with heap := h' }) : wpAny (model prog w) A (pyNext (.ref it)) Q E s := by
  obtain ⟨o, oAt, cl, dat⟩ := id iterAt
  obtain ⟨ot, otAt, _, nl, otDat⟩ := tupAt
  obtain ⟨hand, eo, ev, eAt, eDat, eCtx⟩ := warm
  have apart : it ≠ x1 := fun e => by
    rw [e, eAt] at oAt
    obtain rfl := Option.some.inj oAt
    rw [eDat] at dat
    have e2 : ev = _ := Data.fields.inj dat
    rw [e2] at eCtx
    simp at eCtx
  unfold pyNext
  refine wpAny_bind (wpAny_attempt (wpAny_callSpecial?_slot (name := Str.ofString "__next__") iterAt.typeIs F.slot_tuple_iterator_next
    (wpAny_call_entry F.slot_tuple_iterator_next iterAt.typeIs F.entry_tuple_iterator_next ?_ (F.args_tuple_iterator_next_1 _))))
  show wpAny _ _ (field (.ref it) 0 >>= _) _ _ s
  refine wpAny_bind (wpAny_field oAt dat (x := .ref t) rfl ?_)
  show wpAny _ _ (if (Value.ref t == Value.none) = true then _ else _) _ _ s
  rw [if_neg (show ¬ ((Value.ref t == Value.none) = true) from Bool.false_ne_true)]
  show wpAny _ _ (field (.ref it) 1 >>= _) _ _ s
  refine wpAny_bind (wpAny_field oAt dat (x := .int i 0) rfl ?_)
  show wpAny _ _ (seqItems? (.ref t) >>= _) _ _ s
  refine wpAny_bind (wpAny_seqItems otAt otDat ?_)
  simp only [Int.toNat_natCast, out]
  refine wpAny_bind (wpAny_rule (wpAny_bind (wpAny_setField oAt dat (by simp) ?_)))
  show wpAny _ _ (newExc (.type "StopIteration") [] >>= _) _ _ _
  refine wpAny_bind ?_
  simp only [newExc, newTuple]
  refine wpAny_bind (wpAny_newObj_type ?_ (by size_fits))
  refine wpAny_bind (m := firstArgMember _ _) (wpAny_of_eq (a := Value.none) (by first | rfl | (simp only [firstArgMember]; rfl)) ?_)
  refine wpAny_newObj_type ?_ (by size_fits)
  have eAt2 := (Heap.get?_update_other s.heap (Obj.mapFields (·.setIfInBounds 0 Value.none)) apart).trans eAt
  refine raiseNew_hot ⟨hand, eo, ev, Heap.get?_push_of_some _ (Heap.get?_push_of_some _ eAt2), eDat, eCtx⟩ (Nat.ne_of_lt (Heap.lt_size (Heap.get?_push_of_some _ eAt2))) (Heap.get?_push_size _ rfl) rfl (by first | (simp; done) | (simp; omega) | (simp only [Array.size_append]; simp; omega)) ?_
  refine wpAny_bind (wpAny_isInstance (T := "StopIteration") (b := true) ⟨_, Heap.get?_update_self _ (Heap.get?_push_size _ rfl) rfl, rfl⟩ isSubtype_stop ?_)
  refine wpAny_pure (hQ _ fun b o far e => ?_)
  have kept := (Heap.get?_update_other s.heap (Obj.mapFields (·.setIfInBounds 0 Value.none)) (Ne.symm far)).trans e
  rw [Heap.get?_update_other _ _ (Nat.ne_of_gt (Heap.lt_size (Heap.get?_push_of_some _ kept)))]
  exact Heap.get?_push_of_some _ (Heap.get?_push_of_some _ kept)
end
theorem turn_tupleH {P : Program} {w : World} {K : PySem.W.Frag} {tg : Expr} (a it : Addr) : TurnH P w K tg (Itt K a) [it] it (fun i h => h.IsTupleIter it a i) where
  mem := (turn_tuple (P := P) (w := w) (K := K) (tg := tg) a it).mem
  obj := (turn_tuple (P := P) (w := w) (K := K) (tg := tg) a it).obj
  keep := (turn_tuple (P := P) (w := w) (K := K) (tg := tg) a it).keep
  item := by
    intro X pEq wEq kEq cl i pins s σ H E I lie turnAt more
    subst pEq wEq kEq
    obtain ⟨xs, x, sq, out⟩ := more
    obtain ⟨items2, rel, p, len⟩ := I.tuple sq
    obtain ⟨uv, uvAt, uvRel⟩ := rel.get out
    obtain ⟨z0, z1, z2, z3, z4, z5⟩ := lie it (by simp)
    refine wpAny_pyNext_tuple_item turnAt (show s.heap.IsTuple a items2.toArray from p) (x := uv) (by simpa using uvAt) fun h' st' same => ?_
    have J1 : Inv X pins σ H { s with heap := h' } := I.turned (t' := s.toks) (fun b o far e => (same.2 b far).trans e) z0 z1 z3 z4 z5
    obtain ⟨o, e, c, d⟩ := id st'
    exact ⟨uv, rfl, go_of (s := { s with heap := h' }) e c d (by decide) ⟨x, H, J1, uvRel, ⟨rfl, fun ys hy => by rw [I.tuple_inj hy sq]; exact out⟩, st', fun b far => (lie b far).1⟩⟩
  done := by
    intro X pEq wEq kEq cl i pins s σ H E I lie turnAt more
    subst pEq wEq kEq
    obtain ⟨xs, sq, out⟩ := more
    obtain ⟨items2, rel, p, len⟩ := I.tuple sq
    obtain ⟨z0, z1, z2, z3, z4, z5⟩ := lie it (by simp)
    have long := rel.length
    obtain ⟨x1, warm⟩ := cl.at I
    exact tuple_end_hot warm turnAt (show s.heap.IsTuple a items2.toArray from p) (by simp; omega) fun h' ext => ⟨rfl, I.turned (t' := s.toks) (fun b o far e => ext b o far e) z0 z1 z3 z4 z5⟩
  self := (turn_tuple (P := P) (w := w) (K := K) (tg := tg) a it).self
theorem pi_tupH {X : Cx} {tg l : Expr} {tl : TE} (long : PE X l tl) : PIH X tg l (iTup X.K tl) := by
  refine ⟨fun pins s σ H R I h => ?_⟩
  refine thn (long.run pins s σ H _ I h) fun v s1 ⟨x, H1, J1, rel1, ask1⟩ => ?_
  obtain ⟨a, e, ⟨xs, sq⟩, q⟩ := ask1
  subst e
  cases rel1
  obtain ⟨items2, rel, p, len⟩ := J1.tuple sq
  refine wpAny_pyIter_tuple (show s1.heap.IsTuple a items2.toArray from p) ?_
  refine ⟨s1.heap.objs.size, [s1.heap.objs.size], _, _, H1, rfl, J1.kept (t' := s1.toks) fun b o e => Heap.get?_push_of_some _ e, turn_tupleH a _, ⟨_, Heap.get?_push_size _ rfl, rfl, rfl⟩, fun b far => ?_, q⟩
  have e : b = s1.heap.objs.size := by simpa using far
  subst e
  exact J1.fpOk (Nat.le_refl _) (J1.hok.fresh (Nat.le_refl _))
/-- what a def promises where the exception p is handled -/
structure FnE (P : Program) (w : World) (K : PySem.W.Frag) (mg : Str → Option Value) (base : Heap) (k : Nat) (f : Addr) (fd : FuncData) (ps : List Str) (sp : Addr × Obj → Sp) : Prop where
  len : ∀ p vs H Q E, sp p vs H Q E → vs.length = ps.length
  run : ∀ (A : Around) (outer : List Env) (s : Shared) (H : Hp) (us : List Value) (vs : List V) (Q : VK) (E : XK) (p : Addr × Obj), RoomH k A → Hot1 A p → PinOk outer H s p → Env0 P w K mg base A outer s H → BindsTo s fd ⟨us, []⟩ (ps.zip us) → Vals vs us → sp p vs H Q E →
    codeAny (model P w) A (.call (.ref f) ⟨us, []⟩) (CR CX0 outer P w H s Q E) s
theorem FnE.by {P : Program} {w : World} {K : PySem.W.Frag} {mg : Str → Option Value} {base : Heap} {k : Nat} {x qual : Str} {turnAt : Stmt} {f : Addr} {fd : FuncData} {N ps : List Str} {sp : Addr × Obj → Sp} (F : Fun K x qual turnAt f fd) (S : FnScope N ps (defScope turnAt)) (len : ∀ p vs H Q E, sp p vs H Q E → vs.length = ps.length)
    (hbody : ∀ (cdv : Value) (A : Around) (outer : List Env) (s : Shared) (H : Hp) (vs : List V) (Q : VK) (E : XK) (p : Addr × Obj), Hot1 A p → RoomH k (A.deeper (envOfC qual (defScope turnAt) s.heap.objs.size f cdv)) → sp p vs H Q E →
      ∃ t, PSs (cxH CX0 P w K mg base N qual (defScope turnAt) f cdv A outer s H E p).nox (defBody turnAt) t ∧ t { nx := fun _ H' => Q .non H', rt := Q } (L2.start N vs) H) :
    FnE P w K mg base (k + 1) f fd ps sp := by
  obtain ⟨_, _, _, _, _, _, cdv, _, _, rfl, look, code⟩ := F.ex
  refine ⟨len, fun A outer s H us vs Q E p room warm pinned env0 far r asks => ?_⟩
  have long := len _ _ _ _ _ asks
  have inK : K.In s.heap := env0.mod.kin.keeps fun b o e => (env0.bs b o e).1
  have noLim : s.heap.NoLimit := env0.mod.nolimit.keeps fun b o e => (env0.bs b o e).1
  have kinds : ∀ y ∈ ps.zip us, (defScope turnAt).names.lookup y.1 = some .local ∨ ((defScope turnAt).names.lookup y.1 = some .cell ∧ ((cellsFrom (s.heap.objs.size + 1) (defScope turnAt).names []).lookup y.1).isSome = true) := fun ⟨n, v⟩ hy => by
    rcases S.par n (List.of_mem_zip hy).1 with q | q
    · exact .inl q
    · exact .inr ⟨q, PySem.W.cellsFrom_some _ _ _ (.inl q)⟩
  refine codeAny_call_function room.depth (inK _ _ look) rfl S.co S.gen rfl (PySem.W.codeRec_of inK code) (far _ _ _ _ ?_)
  refine wpAny_newFunctionEnv_cells S.kind kinds fun env he s1 x => ?_
  subst he
  refine ⟨noLim.keeps x.toInCall.keep, codeAny_func ?_⟩
  obtain ⟨t, tupAt, sq⟩ := hbody cdv A outer s H vs Q E p warm (room.deeper _) asks
  have I : Inv (cxH CX0 P w K mg base N qual (defScope turnAt) f cdv A outer s H E p) [] (L2.start N vs) H s1 := inv_startH S pinned env0 long r x
  refine wpAny_mono (tupAt.nox.run [] s1 (L2.start N vs) H _ I sq) (fun fl s' got => ?_) fun _ _ bad => bad
  have fin : ∀ {σ' : L2.St} {H' : Hp} {v : V} {uv : Value}, Inv (cxH CX0 P w K mg base N qual (defScope turnAt) f cdv A outer s H E p) [] σ' H' s' → RelV v uv → Q v H' → CE outer P w H s Q uv s' :=
    fun {σ' H' v uv} J rel q => ⟨v, H', J.os, J.bare, J.base, J.hok, rel, q⟩
  cases fl with
  | ret uv =>
    obtain ⟨v, σ', H', J, rel, q⟩ := got
    exact fin J rel q
  | next =>
    obtain ⟨σ', H', J, q⟩ := got
    exact fin (v := V.non) (uv := Value.none) J rfl q
  | brk =>
    obtain ⟨_, _, _, q⟩ := got
    exact False.elim q
  | cont =>
    obtain ⟨_, _, _, q⟩ := got
    exact False.elim q
end LG
namespace LG
open PySem PySem.Spec PyProof.Rows L2 L2H HotX
section
variable {P : Program} {w : World} {K : PySem.W.Frag} {mg : Str → Option Value} {base : Heap}
theorem hot1_deeper {A : Around} {p : Addr × Obj} {env : Env} (h : Hot1 A p) : Hot1 (A.deeper env) p := h
theorem hotC_cx {CX : CXT} {N : List Str} {qual : Str} {scope : Scope} {f : Addr} {cd : Value} {A : Around} {outer : List Env} {s : Shared} {H : Hp} {E : XK} {p : Addr × Obj} (h : Hot1 A p) : HotC (cxH CX P w K mg base N qual scope f cd A outer s H E p).nox := ⟨p, hot1_deeper h, List.mem_cons_self⟩
structure HasE (P : Program) (w : World) (K : PySem.W.Frag) (mg : Str → Option Value) (base : Heap) (k : Nat) (x : Str) (ps : List Str) (sp : Addr × Obj → Sp) : Prop where
  ex : ∃ (f : Addr) (fd : FuncData), FnE P w K mg base k f fd ps sp ∧ mg x = some (.ref f) ∧ PySem.W.keepIn K (.ref f) = true ∧ Binds K fd ps []
theorem Def.hasE {k : Nat} {x : Str} {ps : List Str} {sp : Addr × Obj → Sp} {st : Stmt} (d : Def K mg x st ps) (h : ∀ (f : Addr) (fd : FuncData), Fun K x x st f fd → FnE P w K mg base k f fd ps sp) : HasE P w K mg base k x ps sp := by
  obtain ⟨f, fd, F, m, b⟩ := d.ex
  exact ⟨f, fd, h f fd F, m, F.kp, b⟩
end
section
variable {X : Cx} {k j : Nat} {ps : List Str} {sp : Addr × Obj → Sp} {x : Str} {q pos : Pos} {e : Expr} {es : List Expr} {t : TA} {p : Addr × Obj}
theorem run_fnE {f : Addr} {fd : FuncData} {pins : List (Addr × Obj)} {σ : L2.St} {H : Hp} {s : Shared} {Q : VK} {us : List Value} {vs : List V} (F : FnE X.prog X.w X.K X.mg X.base k f fd ps sp) (room : RoomH k X.A) (hot : Hot1 X.A p) (hp : p ∈ X.pn) (hb : Binds X.K fd ps [])
    (I : Inv X pins σ H s) (r : Vals vs us) (h : sp p vs H Q E0) : wpAny (model X.prog X.w) X.A (call (.ref f) us) (EP X pins σ Q) X.xe s := by
  have long : us.length = ps.length := by rw [← r.length]; exact F.len _ _ _ _ _ h
  have b := hb s us I.kIn (by rw [List.append_nil]; exact long)
  rw [List.append_nil] at b
  have pin1 := I.pin p (List.mem_append_left _ hp)
  have pinned : PinOk X.stack H s p := ⟨pin1.1, pin1.2.1, fun hm => (List.mem_cons.mp (I.stkSub p.1 hm)).elim pin1.2.2.1 pin1.2.2.2.1, pin1.2.2.2.2⟩
  refine wpAny_call (codeAny_mono (F.run X.A X.stack s H us vs Q E0 p room hot pinned I.env0 b r h) fun r s' got => ?_)
  cases r with
  | error e => exact False.elim got
  | ok fl =>
    cases fl with
    | ret u => exact I.after got
    | next => exact False.elim got
    | brk => exact False.elim got
    | cont => exact False.elim got
/-- items2 call, where p is handled -/
theorem pcH (h : HasE X.prog X.w X.K X.mg X.base k x ps sp) (room : RoomH j X.A) (hot : Hot1 X.A p) (hp : p ∈ X.pn) (ha : PA X (e :: es) t) (hg : Gl X x := by rfl) (hj : k ≤ j := by first | decide | omega) (dbg : (x == ("__debug__" : Str)) = false := by decide)
    (each : starEach (e :: es) X.env = (false, eval e X.env) :: starEach es X.env := by rfl) (plain1 : (backTo pos (starEach es X.env)).any (·.1) = false := by rfl) : PE X (.Call (.Name x q) (e :: es) [] pos) (tCall (sp p) [] E0 t) := by
  obtain ⟨f, fd, F, m, keeps, b⟩ := h.ex
  refine ⟨fun pins s σ H Q I h => ?_⟩
  refine wpAny_Call_Name_kw (ld_glob I hg m ?_ dbg)
  refine PySem.W.callWith_K (h₀ := X.base) I.ok.mod.kin keeps (thn (ha.run pos pins s σ H _ I h) fun us s1 ⟨vs, H1, J1, r, q⟩ => ⟨J1.kIn, ?_⟩) each plain1
  refine run_fnE F (room.mono hj) hot hp b J1 r ?_
  have q' : sp p (vs ++ []) H1 Q E0 := q
  rw [List.append_nil] at q'
  exact q'
/-- isinstance(e, c), e the exception that is handled -/
theorem call_isP {a D : Addr} {oe : Obj} (C : ExcC X.K D) (hp : (a, oe) ∈ X.pn) (len : Zc (.ref D) none oe) (flds : ∃ vs, oe.data = .fields vs) : CallR X (.builtin "isinstance") (rIsE X.K D a) := by
  intro pins s σ H xs us Q I r h
  obtain ⟨c, cv, b, rfl, only, e, q⟩ := h
  cases r with
  | cons rel0 rest =>
    cases rest with
    | cons rel1 rest =>
      cases rest
      cases rel0
      have same := only _ rel1
      subst same
      obtain ⟨at1, _⟩ := I.pin (a, oe) (List.mem_append_left _ hp)
      obtain ⟨vs, dat⟩ := flds
      have J : PySem.W.InstAt s.heap a oe D none := by
        obtain ⟨oc, od, oda, osl⟩ := oe
        obtain ⟨eq1, eq2⟩ := len
        dsimp only at eq1 eq2 dat
        subst eq1 eq2 dat
        exact ⟨at1, rfl, rfl, trivial⟩
      exact PySem.W.kia_one (PySem.W.handS_kitx_exc C.hg C.hk C.hs C.hd C.ha C.hn C.ht C.hm) I.kIn J e (fun z => nomatch z) fun tk => ⟨.bl b, H, I.kept (t' := tk) fun _ _ z => z, rfl, q⟩
end
section
variable {X : Cx}
/-- sorted of rows that have no dict of their own: neither have the rows then -/
def rSortN (K : PySem.W.Frag) : List V → Hp → VK → Prop := fun vs H Q => ∃ (a : Addr) (xs : List V) (rs : List (List Int)), vs = [V.ref a] ∧ SqL K H a xs ∧ DtAll K H xs (rs.map tupI) ∧ NdAll H xs ∧ rs.length ≤ 1000 ∧ (∀ r ∈ rs, r ≠ []) ∧
  ∀ (ys : List V) (p : Addr), H p = none → DtAll K H ys ((rs.mergeSort leR).map tupI) → NdAll H ys → Q (.ref p) (upd H p (.lst ys))
theorem each_ofN {K : PySem.W.Frag} {H : Hp} : ∀ {rs : List (List Int)} {xs : List V} {us : List Value}, DtAll K H xs (rs.map tupI) → NdAll H xs → Vals xs us → PySem.W.EachIs (fun u r => ∃ t, u = Value.ref t ∧ SqT K H t (r.map V.int) ∧ Nd H t) us rs
  | [], _, _, h, _, r => by
    cases h
    cases r
    exact .nil
  | b :: bs, _, _, h, nd, r => by
    cases h with
    | cons eq1 eq2 =>
      cases r with
      | cons rel2 rel3 =>
        refine .cons ?_ (each_ofN eq2 (fun t ht => nd t (List.mem_cons_of_mem _ ht)) rel3)
        cases eq1 with
        | @tup a ys ds hs ha =>
          cases rel2
          refine ⟨a, rfl, ?_, nd a List.mem_cons_self⟩
          have e : ys = b.map V.int := by
            clear hs eq2 rel3
            induction b generalizing ys with
            | nil => cases ha; rfl
            | cons x b ih =>
              cases ha with
              | cons h h' =>
                cases h
                rw [List.map_cons, ← ih h']
          rw [← e]
          exact hs
theorem each_backN {K : PySem.W.Frag} {H : Hp} : ∀ {rs : List (List Int)} {us : List Value}, PySem.W.EachIs (fun u r => ∃ t, u = Value.ref t ∧ SqT K H t (r.map V.int) ∧ Nd H t) us rs → ∃ ys, Vals ys us ∧ DtAll K H ys (rs.map tupI) ∧ NdAll H ys
  | [], _, .nil => ⟨[], .nil, .nil, fun t ht => absurd ht List.not_mem_nil⟩
  | b :: bs, _, .cons ⟨t, e, h, n⟩ r => by
    obtain ⟨ys, v, d, nd⟩ := each_backN r
    subst e
    refine ⟨.ref t :: ys, .cons rfl v, .cons (.tup h (DtAll.ints b)) d, fun t' ht => ?_⟩
    rcases List.mem_cons.mp ht with q | q
    · cases q
      exact n
    · exact nd t' q
theorem cr_sortN (hu : X.A.units + 64 < cLine) : CallR X (.builtin "sorted") (rSortN X.K) := by
  intro pins s σ H vs us Q I r h
  obtain ⟨a, xs, rs, rfl, hs, hd, hnd, len, ne, q⟩ := h
  obtain ⟨items2, rv, long, hz2⟩ := I.list hs
  rw [Vals.ref1 r]
  have ea := each_ofN hd hnd rv
  have er : PySem.W.EachIs (fun v b => ∃ as, Reads s.heap v (tupI b) as) items2 rs := ea.mono fun u b ⟨t, e, ht, _⟩ => by
    subst e
    exact Dp.reads I _ _ _ (dp_row ht) rfl
  have al : PySem.W.AllAlike (rs.map tupI) := fun d hd d' hd' => by
    obtain ⟨x, _, rfl⟩ := List.mem_map.mp hd
    obtain ⟨y, _, rfl⟩ := List.mem_map.mp hd'
    exact row_alike x y
  have so : PySem.W.Sortable (rs.map tupI) := .inl fun d hd => by
    obtain ⟨x, hx, rfl⟩ := List.mem_map.mp hd
    cases x with
    | nil => exact absurd rfl (ne _ hx)
    | cons i x => exact ⟨_, _, rfl⟩
  refine PySem.W.sorted_data long.isList ea er al so (Nat.le_trans len (by decide)) (fun b _ => by rw [row_depth]; omega) fun out long hout => ?_
  have eo : PySem.W.dataLe false tupI = leR := by
    rw [PySem.W.dataLe_eq]
    funext x y
    simp only [cond_false, row_lt]
    rfl
  rw [eo] at hout
  obtain ⟨ys, vy, dy, ny⟩ := each_backN hout
  obtain ⟨ep, he'⟩ := PyProof.Rows.sortedAll_at s.heap items2 out.toArray
  have len : ys.length ≤ sizeLine := by
    rw [vy.length, long]
    exact Nat.le_trans len (by decide)
  exact ⟨.ref _, upd H (s.heap.objs.size + 1) (.lst ys), I.laid (t' := s.toks) (fun _ _ => PyProof.Rows.sortedAll_old) (Nat.le_succ _) ⟨len, out, ep, vy, he'⟩, rfl, q _ _ (I.hok.fresh (Nat.le_succ _)) dy ny⟩
end
end LG
namespace LG
open PySem PySem.Spec PyProof.Rows L2 L2H HotX
theorem takes0N {X : Cx} : L2N.Takes X (fun _ _ _ _ => False) := fun _ _ x => by
  obtain ⟨_, _, _, _, _, _, _, _, _, _, _, _, _, _, _, _, z⟩ := x
  exact z.elim
section
variable {P : Program} {w : World} {K : PySem.W.Frag} {mg : Str → Option Value} {base : Heap}
theorem _root_.L2.Fun.okXN {x qual : Str} {st : Stmt} {f : Addr} {fd : FuncData} {N ps : List Str} {k : Nat} {sp : Sp} (F : Fun K x qual st f fd) (S : FnScope N ps (defScope st)) (len : ∀ vs H Q E, sp vs H Q E → vs.length = ps.length)
    (hbody : ∀ (cdv : Value) (A : Around) (outer : List Env) (s : Shared) (H : Hp) (vs : List V) (Q : VK) (E : XK), Room k (A.deeper (envOfC qual (defScope st) s.heap.objs.size f cdv)) → sp vs H Q E →
      ∃ t, PSs (cxOf (L2N.CX P w) P w K mg base N qual (defScope st) f cdv A outer s H E) (defBody st) t ∧ t { nx := fun _ H' => Q .non H', rt := Q } (start N vs) H) : FnOk P w K mg base (L2N.CX P w) (k + 1) f fd ps sp := by
  obtain ⟨o0, o1, kV, doc, pm, an, cdv, ct, o2, rfl, look, code⟩ := F.ex
  exact fn_of look code S len fun A outer s H vs Q E hr hsp => hbody cdv A outer s H vs Q E hr hsp
theorem roomH_mark {k : Nat} {A : Around} {v : Option Value} (r : Room k A) : RoomH k (A.mark v) := ⟨r.dp, r.un⟩
theorem hot_suite {A : Around} {a : Addr} {oe : Obj} {cls : Value} {d : Option Addr} (hz : L2N.Zn cls d oe) (hf : ∃ vs, oe.data = .fields vs) : Hot1 (A.mark (some (.ref a))) (a, oe) := by
  obtain ⟨vs, e⟩ := hf
  exact ⟨rfl, vs, e, hz.2.2 vs e⟩
end
section
variable {X : Cx} {k j : Nat} {ps : List Str} {sp : Addr × Obj → Sp} {sp' sp0 : Sp} {x : Str} {q pos : Pos} {e : Expr} {es : List Expr} {t : TA} {p : Addr × Obj} {W : WX}
/-- .., what is asked told by sp' -/
theorem pcHi (h : HasE X.prog X.w X.K X.mg X.base k x ps sp) (hr : RoomH j X.A) (hot : Hot1 X.A p) (hp : p ∈ X.pn) (imp : ∀ vs H Q, sp' vs H Q E0 → sp p vs H Q E0) (ha : PA X (e :: es) t) (hg : Gl X x := by rfl) (hj : k ≤ j := by first | decide | omega) (dbg : (x == ("__debug__" : Str)) = false := by decide)
    (each : starEach (e :: es) X.env = (false, eval e X.env) :: starEach es X.env := by rfl) (plain1 : (backTo pos (starEach es X.env)).any (·.1) = false := by rfl) : PE X (.Call (.Name x q) (e :: es) [] pos) (tCall sp' [] E0 t) := by
  obtain ⟨f, fd, F, m, kp, b⟩ := h.ex
  refine ⟨fun pins s σ H Q I h => ?_⟩
  refine wpAny_Call_Name_kw (ld_glob I hg m ?_ dbg)
  refine PySem.W.callWith_K (h₀ := X.base) I.ok.mod.kin kp (thn (ha.run pos pins s σ H _ I h) fun us s1 ⟨vs, H1, I1, r, q⟩ => ⟨I1.kIn, ?_⟩) each plain1
  refine run_fnE F (hr.mono hj) hot hp b I1 r (imp _ _ _ ?_)
  have q' : sp' (vs ++ []) H1 Q E0 := q
  rw [List.append_nil] at q'
  exact q'
theorem pcSN (h : Has X.prog X.w X.K X.mg X.base (L2N.CX X.prog X.w) k x ps sp0) (hr : Room j X.A) (tk : L2N.Takes X W) (ha : PA X (e :: es) t) (hg : Gl X x := by rfl) (hj : k ≤ j := by first | decide | omega) (dbg : (x == ("__debug__" : Str)) = false := by decide)
    (each : starEach (e :: es) X.env = (false, eval e X.env) :: starEach es X.env := by rfl) (plain1 : (backTo pos (starEach es X.env)).any (·.1) = false := by rfl) : PE X (.Call (.Name x q) (e :: es) [] pos) (tCallS sp0 (WE W) t) := by
  obtain ⟨f, fd, F, m, kp, b⟩ := h.ex
  exact pe_callS F (hr.mono hj) hg m kp b (fun σ => L2N.passAt tk σ) ha dbg each plain1
end
end LG
namespace LG
open PySem PySem.Spec PyProof.Rows L2 L2H HotX
def rIsEA (K : PySem.W.Frag) (C a : Addr) (cls : Value) (d : Option Addr) : List V → Hp → VK → Prop := fun xs H Q => cls = .ref C ∧ d = none ∧ rIsE K C a xs H Q
theorem call_isPA {X : Cx} {a C : Addr} {oe : Obj} {cls : Value} {d : Option Addr} (hC : ExcC X.K C) (hp : (a, oe) ∈ X.pn) (hz : L2N.Zn cls d oe) (hf : ∃ vs, oe.data = .fields vs) : CallR X (.builtin "isinstance") (rIsEA X.K C a cls d) := fun pins s σ H xs us Q I r h => by
  obtain ⟨e1, e2, h⟩ := h
  subst e1 e2
  exact call_isP hC hp hz.zc hf pins s σ H xs us Q I r h
section
variable {X : Cx} {k j : Nat} {ps : List Str} {sp : Sp} {x : Str} {p pos : Pos} {e : Expr} {es : List Expr} {t : TA}
/-- its call: what it raises leaves this def too, the exception with its context -/
theorem pcEN {E : XK} (h : Has X.prog X.w X.K X.mg X.base (L2N.CX X.prog X.w) k x ps sp) (hr : Room j X.A) (tk : L2N.Takes X (fun cls d _ H => E cls d H)) (ha : PA X (e :: es) t) (hg : Gl X x := by rfl) (hj : k ≤ j := by first | decide | omega) (hdb : (x == ("__debug__" : Str)) = false := by decide)
    (he : starEach (e :: es) X.env = (false, eval e X.env) :: starEach es X.env := by rfl) (hpl : (backTo pos (starEach es X.env)).any (·.1) = false := by rfl) : PE X (.Call (.Name x p) (e :: es) [] pos) (tCall sp [] E t) := by
  obtain ⟨f, fd, F, m, kp, b⟩ := h.ex
  exact pe_call F (hr.mono hj) hg m kp b .nil (L2N.passes_call tk fun _ _ _ _ z => z) ha hdb he hpl
end
end LG
/-! ### sorted of a tuple of ints -/
namespace LG
open PySem PySem.Spec PyProof.Rows L2
def rSortTI (K : PySem.W.Frag) : List V → Hp → VK → Prop := fun vs H Q => ∃ (a : Addr) (ns : List Int), vs = [V.ref a] ∧ SqT K H a (ns.map V.int) ∧ ∀ (ns' : List Int) (p : Addr), ns'.Perm ns → ns'.Pairwise (· ≤ ·) → H p = none → Q (.ref p) (upd H p (.lst (ns'.map V.int)))
theorem cr_sortTI {X : Cx} : CallR X (.builtin "sorted") (rSortTI X.K) := by
  intro pins s σ H vs us Q I r want
  obtain ⟨a, ns, rfl, sq, q⟩ := want
  obtain ⟨items2, rel, ⟨ob, obAt, cl, epo, dat⟩, small⟩ := I.tuple sq
  rw [Vals.ref1 r]
  have numb := rel.ints
  have few : items2.length ≤ sizeLine := by rw [← rel.length]; exact small
  refine Calls.call_function_entry PyProof.Rows.kind_sorted PyProof.Rows.plain_sorted PyProof.Rows.entry_sorted (PyProof.Rows.args_sorted1 _) ?_
  unfold Builtin.«sorted»
  refine wpAny_bind (m := checkCount "sorted" 1 1 _) (wpAny_pure ?_)
  refine wpAny_bind (wpAny_collect_seq a (T := "tuple") (.inr rfl) obAt cl dat (fun h1 keep => ?_) (by rw [List.size_toArray]; exact few))
  refine wpAny_bind (wpAny_newList ?_ (by simpa using few))
  have madeAt : (h1.push (seqObj "list" items2.toArray 0)).get? h1.objs.size = some (seqObj "list" items2.toArray 0) := Heap.get?_push_size _ rfl
  have J1 : Inv X pins σ H { s with heap := h1 } := I.kept (t' := s.toks) keep
  refine wpAny_bind (wpAny_holding (wpAny_call_entry PyProof.Rows.slot_list_sort ⟨_, madeAt, rfl⟩ PyProof.Rows.entry_list_sort
    (SrtO.list_sort_ord (s := { s with heap := h1.push (seqObj "list" items2.toArray 0) }) SrtO.swo_int madeAt few (fun more => SrtO.ints_sortable numb more) fun out o1 o2 => ⟨_, rfl, ?_⟩) (PyProof.Rows.args_list_sort _)))
  obtain ⟨k1, k2, k3⟩ := SrtO.ints_out numb o1 o2
  obtain ⟨ep, outAt⟩ := PyProof.Rows.sortedHeap_at (vs := items2) (out := out.toArray) madeAt
  have long : ((out.map SrtO.iv).map V.int).length ≤ sizeLine := by
    rw [List.length_map, k2.length_eq]
    rw [List.length_map] at small
    exact small
  refine wpAny_pure ⟨_, rfl, ?_⟩
  refine ⟨.ref h1.objs.size, upd H h1.objs.size (.lst ((out.map SrtO.iv).map V.int)), J1.laid (t' := s.toks) (fun b u e => ?_) (Nat.le_refl _) ⟨long, out, ep, vals_of_ints k1, outAt⟩, rfl, q _ _ k2 k3 (J1.hok.fresh (Nat.le_refl _))⟩
  have bLt := Heap.lt_size e
  rw [PyProof.Rows.sortedHeap_old (Nat.ne_of_lt bLt) (by rw [Heap.size_push]; exact Nat.lt_succ_of_lt bLt)]
  exact Heap.get?_push_of_some _ e
end LG
local macro_rules | `(tactic| close_w) => `(tactic| first | (exact Or.inl ⟨by omega, by omega⟩) | (exact Or.inr ⟨by omega, by omega⟩) | (exact And.intro (by omega) (by omega)) | (exact And.intro (by omega) (And.intro (by omega) (by omega))) | ((show (0 : Int) < _); omega) | ((show (0 : Int) ≤ _); omega) | omega)
local macro_rules | `(tactic| w_left) => `(tactic| (first
  | (with_reducible first
    | refine LG.st_seq ?_ | refine LG.st_asg ?_ | refine LG.st_c ?_ | refine LG.st_op ?_ | refine LG.st_cons ?_ | refine LG.st_nil ?_ | refine LG.st_name ?_ | refine LG.st_call0 ?_ | refine LG.st_callK0 ?_ | refine LG.st_callKR ?_ | refine LG.st_CB ?_
    | refine LG.st_I0 ?_ | refine LG.st_ex ?_ | refine LG.st_exi ?_ | refine LG.st_test ?_ | refine LG.st_if ?_ | refine LG.st_tup ?_ | refine LG.st_tupN ?_ | refine LG.st_lstN ?_ | refine LG.st_lst ?_ | refine LG.st_drop ?_ | refine LG.st_ret ?_ | refine LG.st_retN ?_ | refine LG.st_next ?_
    | refine LG.st_BM ?_ | refine LG.st_BMN ?_ | refine LG.st_BM0 ?_ | refine LG.st_sl ?_ | refine LG.st_noPart ?_ | refine LG.st_part ?_ | refine LG.st_list ?_ | refine LG.st_itup ?_ | refine LG.st_rng1 ?_ | refine LG.st_rng2 ?_
    | refine LG.st_add ?_ | refine LG.st_sub ?_ | refine LG.st_U ?_ | refine LG.st_and ?_ | refine LG.st_or ?_ | refine LG.st_not ?_ | refine LG.st_andV ?_ | refine LG.st_orV ?_ | refine LG.st_notV ?_ | refine LG.st_ife ?_ | refine LG.st_isN ?_ | refine LG.st_notN ?_ | refine LG.st_chain ?_ | refine LG.st_B ?_
    | refine LG.st_un ?_ | refine LG.st_lc ?_ | refine LG.st_for ?_ | refine LG.st_yes ?_ | refine LG.st_gnil ?_ | refine LG.st_gcons ?_ | refine LG.st_gsub ?_ | refine LG.st_break ?_ | refine LG.st_cont ?_ | refine L2.iteT ?_ | refine L2.iteF ?_)
  | ((with_reducible refine' LG.st_var ?hx ?_); (case hx => rfl)) | ((with_reducible refine' LG.st_aug ?hx ?_); (case hx => rfl)) | ((with_reducible refine LG.st_eq ?hx ?_); (case hx => rfl)) | ((with_reducible refine LG.st_ne ?hx ?_); (case hx => rfl)) | ((with_reducible refine LG.st_wipe ?hx ?_); (case hx => rfl))
  | ((with_reducible refine LG.st_I ?hx ?_); (case hx => close_w))
  | ((with_reducible refine LG.st_rj ?hx ?hy ?_); (case hx => omega); (case hy => omega)) | ((with_reducible refine LG.st_rb ?hx ?hy ?_); (case hx => omega); (case hy => omega)) | ((with_reducible refine LG.st_rij ?hx ?_); (case hx => omega))
  | (with_reducible first | refine LG.st_strs ?_ | refine LG.st_en ?_ | refine LG.st_enS ?_ | refine LG.st_dget ?_ | refine LG.st_dc ?_ | refine LG.st_lenSet ?_ | refine LG.st_disp ?_ | refine LG.st_pn ?_ | refine LG.st_pc ?_ | refine LG.st_call ?_)
  | (with_reducible first | refine LG.st_int1 ?_ | refine LG.st_ints ?_ | refine LG.st_ints2 ?_ | refine LG.st_int1b ?_)
  | ((with_reducible refine' LG.st_ixT ?hx ?hy ?_); (case hx => first | (with_reducible assumption) | exact L2.SqT.of (by with_reducible assumption)); (case hy => rfl))
  | ((with_reducible refine' LG.st_ixL ?hx ?hy ?_); (case hx => first | (with_reducible assumption) | exact L2.SqL.of (by with_reducible assumption)); (case hy => rfl))
  | ((with_reducible refine' LG.st_lenT ?hx ?_); (case hx => first | (with_reducible assumption) | exact L2.SqT.of (by with_reducible assumption)))
  | ((with_reducible refine' LG.st_lenL ?hx ?_); (case hx => first | (with_reducible assumption) | exact L2.SqL.of (by with_reducible assumption)))
  | ((with_reducible refine' LG.st_srcT ?hx ?_); (case hx => first | (with_reducible assumption) | exact L2.SqT.of (by with_reducible assumption)))
  | ((with_reducible refine' LG.st_srcE ?hx ?_); (case hx => first | (with_reducible assumption) | exact L2.SqT.of (by with_reducible assumption)))
  | ((with_reducible refine' LG.st_srcE1 ?hx ?_); (case hx => first | (with_reducible assumption) | exact L2.SqT.of (by with_reducible assumption)))
  | ((with_reducible refine' LG.st_srcL ?hx ?_); (case hx => first | (with_reducible assumption) | exact L2.SqL.of (by with_reducible assumption)))
  | ((with_reducible refine LG.st_room ?hx ?_); (case hx => first | (simp only [List.length_cons, List.length_nil]; omega) | simp))
  | ((with_reducible refine' LG.st_rTup ?hx ?_); (case hx => first | (with_reducible assumption) | exact L2.SqL.of (by with_reducible assumption)))
  | ((with_reducible refine' LG.st_rTupF ?hx ?_); (case hx => first | (with_reducible assumption) | exact L2.SqL.of (by with_reducible assumption)))
  | ((with_reducible refine' LG.st_rList ?hx ?_); (case hx => first | (with_reducible assumption) | exact L2.SqT.of (by with_reducible assumption)))
  | ((with_reducible refine' LG.st_rSl ?hx ?_); (case hx => first | (with_reducible assumption) | exact L2.SqL.of (by with_reducible assumption)))
  | ((with_reducible refine' LG.st_rCut ?hx ?_); (case hx => first | (with_reducible assumption) | exact L2.SqT.of (by with_reducible assumption)))
  | ((with_reducible refine' LG.st_tyL ?hx ?_); (case hx => with_reducible assumption))
))
local macro_rules | `(tactic| w_fin) => `(tactic| repeat w_left)
namespace Lw
open PySem PySem.Spec PyProof.Rows L2 LG
/-! ### a view as a function of the colours, the nodes that it tells of, and which of them are joined -/
inductive Vw : Nat → Type
  | lf (x : Nat) : Vw 0
  | br {r : Nat} (x : Nat) (f : Nat → Vw r) : Vw (r + 1)
abbrev NT := Nat × Nat × Int × Nat
abbrev NB := Nat → Nat → Option Nat
def Vw.top : {r : Nat} → Vw r → Nat
  | 0, .lf x => x
  | _ + 1, .br x _ => x
def tellN (D : Nat) : {r : Nat} → Vw r → Nat → Int → Nat → List NT → List NT
  | 0, .lf x, s, u, b, N => N ++ [(x, s, u, b)]
  | _ + 1, .br x f, s, u, b, N => (List.range' 1 D).foldl (fun M c => if c = b then M else tellN D (f c) (1 - s) ((N.length : Nat) : Int) c M) (N ++ [(x, s, u, b)])
def setE (nb : NB) (j u c : Nat) : NB := fun i d => if i = j ∧ d = c then some u else if i = u ∧ d = c then some j else nb i d
def tellE (D : Nat) : {r : Nat} → Vw r → Nat → Nat → NB → Nat × NB
  | 0, .lf _, _, n, nb => (n + 1, nb)
  | _ + 1, .br _ f, b, n, nb => (List.range' 1 D).foldl (fun p c => if c = b then p else ((tellE D (f c) c p.1 p.2).1, setE (tellE D (f c) c p.1 p.2).2 p.1 n c)) (n + 1, nb)
def Up (N : List NT) (j u c : Nat) : Prop := ∃ x s, N[j]? = some (x, s, ((u : Nat) : Int), c)
def sdv (N : List NT) (i : Nat) : Nat := ((N[i]?).map (fun t => t.2.1)).getD 2
theorem pre_at {N M : List NT} (h : N <+: M) {i : Nat} {t : NT} (e : N[i]? = some t) : M[i]? = some t := by
  obtain ⟨R, rfl⟩ := h
  rw [List.getElem?_append_left]
  · exact e
  · exact (List.getElem?_eq_some_iff.mp e).1
theorem pre_eq {N M : List NT} (h : N <+: M) {i : Nat} (hi : i < N.length) : M[i]? = N[i]? := by
  obtain ⟨R, rfl⟩ := h
  rw [List.getElem?_append_left hi]
theorem Up.pre {N M : List NT} {j u c : Nat} (h : N <+: M) (e : Up N j u c) : Up M j u c := by
  obtain ⟨x, s, e⟩ := e
  exact ⟨x, s, pre_at h e⟩
theorem Up.back {N M : List NT} {j u c : Nat} (h : N <+: M) (hj : j < N.length) (e : Up M j u c) : Up N j u c := by
  obtain ⟨x, s, e⟩ := e
  exact ⟨x, s, by rw [← pre_eq h hj]; exact e⟩
theorem Up.lt {N : List NT} {j u c : Nat} (e : Up N j u c) : j < N.length := by
  obtain ⟨x, s, e⟩ := e
  exact (List.getElem?_eq_some_iff.mp e).1
theorem Up.eq {N : List NT} {j u c u' c' : Nat} (e : Up N j u c) (e' : Up N j u' c') : u = u' ∧ c = c' := by
  obtain ⟨x, s, e⟩ := e
  obtain ⟨x', s', e'⟩ := e'
  rw [e] at e'
  injection e' with e'
  injection e' with _ e'
  injection e' with _ e'
  injection e' with e1 e2
  exact ⟨by omega, e2⟩
theorem sdv_pre {N M : List NT} (h : N <+: M) {i : Nat} (hi : i < N.length) : sdv M i = sdv N i := by
  unfold sdv
  rw [pre_eq h hi]
theorem sdv_of {N : List NT} {i : Nat} {t : NT} (e : N[i]? = some t) : sdv N i = t.2.1 := by
  unfold sdv
  rw [e]
  rfl
/-- what stands in M from place lo on was told in one go -/
structure Told (D : Nat) (N : List NT) (nb : NB) (M : List NT) (mb : NB) (lo : Nat) : Prop where
  len : N.length = lo
  more : lo < M.length
  ext : N <+: M
  out : ∀ i c, i < lo → mb i c = nb i c
  fresh : ∀ i c, M.length ≤ i → mb i c = none
  sp : ∀ i c j, lo ≤ i → (mb i c = some j ↔ (lo < i ∧ Up M i j c) ∨ (lo < j ∧ Up M j i c))
  ups : ∀ j u c, lo < j → Up M j u c → lo ≤ u ∧ u < j ∧ 1 ≤ c ∧ c ≤ D
  sds : ∀ j u c, lo < j → Up M j u c → sdv M j = 1 - sdv M u ∧ sdv M u ≤ 1
  isup : ∀ j, lo < j → j < M.length → ∃ u c, Up M j u c
theorem Told.start {D : Nat} {N : List NT} {nb : NB} (f : ∀ i c, N.length ≤ i → nb i c = none) (t : NT) : Told D N nb (N ++ [t]) nb N.length := by
  have no : ∀ j u c, N.length < j → ¬ Up (N ++ [t]) j u c := fun j u c h z => by
    have := z.lt
    rw [List.length_append, List.length_singleton] at this
    omega
  refine ⟨rfl, by rw [List.length_append, List.length_singleton]; omega, List.prefix_append _ _, fun _ _ _ => rfl, fun i c h => f i c ?_, fun i c j h => ?_, fun j u c h z => absurd z (no j u c h), fun j u c h z => absurd z (no j u c h), fun j h h2 => ?_⟩
  · rw [List.length_append, List.length_singleton] at h
    omega
  · rw [f i c h]
    constructor
    · intro z
      exact absurd z (by simp)
    · rintro (⟨a, z⟩ | ⟨a, z⟩)
      · exact absurd z (no _ _ _ a)
      · exact absurd z (no _ _ _ a)
  · rw [List.length_append, List.length_singleton] at h2
    omega
theorem Told.child {D : Nat} {N M M' : List NT} {nb mb mb1 : NB} {lo m c x x' s b : Nat} {u : Int} (T : Told D N nb M mb lo) (top : M[lo]? = some (x, s, u, b)) (s1 : s ≤ 1) (c1 : 1 ≤ c) (cD : c ≤ D) (free : mb lo c = none)
    (hm : M.length = m) (T1 : Told D M mb M' mb1 m) (top1 : M'[m]? = some (x', 1 - s, ((lo : Nat) : Int), c)) (nob : mb1 m c = none) : Told D N nb M' (setE mb1 m lo c) lo := by
  have hlm : lo < m := by have := T.more; omega
  have upm : Up M' m lo c := ⟨x', 1 - s, top1⟩
  have ups : ∀ j w d, lo < j → Up M' j w d → lo ≤ w ∧ w < j ∧ 1 ≤ d ∧ d ≤ D := fun j w d h z => by
    rcases Nat.lt_trichotomy j m with q | q | q
    · exact T.ups j w d h (z.back T1.ext (by omega))
    · subst q
      obtain ⟨rfl, rfl⟩ := z.eq upm
      exact ⟨Nat.le_refl _, hlm, c1, cD⟩
    · obtain ⟨a, b, c⟩ := T1.ups j w d q z
      exact ⟨by omega, b, c⟩
  have bigs : ∀ j w d, m < j → Up M' j w d → m ≤ w := fun j w d h z => (T1.ups j w d h z).1
  have top2 := pre_at T1.ext top
  refine ⟨T.len, by have := T1.more; omega, T.ext.trans T1.ext, fun i d hi => ?_, fun i d hi => ?_, fun i d j hi => ?_, ups, fun j w d h z => ?_, fun j h h2 => ?_⟩
  · unfold setE
    rw [if_neg (by omega), if_neg (by omega), T1.out i d (by omega), T.out i d hi]
  · have := T1.more
    unfold setE
    rw [if_neg (by omega), if_neg (by omega), T1.fresh i d hi]
  · unfold setE
    by_cases q1 : i = m ∧ d = c
    · obtain ⟨rfl, rfl⟩ := q1
      rw [if_pos ⟨rfl, rfl⟩]
      constructor
      · intro z
        injection z with z
        subst z
        exact .inl ⟨hlm, upm⟩
      · rintro (⟨_, z⟩ | ⟨a, z⟩)
        · rw [(z.eq upm).1]
        · have lj := (ups j i d a z).2.1
          have := (T1.sp i d j (Nat.le_refl _)).mpr (.inr ⟨lj, z⟩)
          rw [nob] at this
          exact absurd this (by simp)
    rw [if_neg q1]
    by_cases q2 : i = lo ∧ d = c
    · obtain ⟨rfl, rfl⟩ := q2
      rw [if_pos ⟨rfl, rfl⟩]
      constructor
      · intro z
        injection z with z
        subst z
        exact .inr ⟨hlm, upm⟩
      · rintro (⟨a, _⟩ | ⟨a, z⟩)
        · omega
        · rcases Nat.lt_trichotomy j m with q | q | q
          · have := (T.sp i d j (Nat.le_refl _)).mpr (.inr ⟨a, z.back T1.ext (by omega)⟩)
            rw [free] at this
            exact absurd this (by simp)
          · rw [q]
          · have := bigs _ _ _ q z
            omega
    rw [if_neg q2]
    by_cases q3 : m ≤ i
    · rw [T1.sp i d j q3]
      constructor
      · rintro (⟨a, z⟩ | ⟨a, z⟩)
        · exact .inl ⟨by omega, z⟩
        · exact .inr ⟨by omega, z⟩
      · rintro (⟨a, z⟩ | ⟨a, z⟩)
        · by_cases q : i = m
          · subst q
            exact absurd ⟨rfl, (z.eq upm).2⟩ q1
          · exact .inl ⟨by omega, z⟩
        · have lj := (ups _ _ _ a z).2.1
          exact .inr ⟨by omega, z⟩
    · rw [T1.out i d (by omega), T.sp i d j hi]
      constructor
      · rintro (⟨a, z⟩ | ⟨a, z⟩)
        · exact .inl ⟨a, z.pre T1.ext⟩
        · exact .inr ⟨a, z.pre T1.ext⟩
      · rintro (⟨a, z⟩ | ⟨a, z⟩)
        · exact .inl ⟨a, z.back T1.ext (by omega)⟩
        · rcases Nat.lt_trichotomy j m with q | q | q
          · exact .inr ⟨a, z.back T1.ext (by omega)⟩
          · subst q
            obtain ⟨rfl, rfl⟩ := z.eq upm
            exact absurd ⟨rfl, rfl⟩ q2
          · have := bigs _ _ _ q z
            omega
  · rcases Nat.lt_trichotomy j m with q | q | q
    · have z' := z.back T1.ext (by omega)
      obtain ⟨_, hw, _⟩ := ups _ _ _ h z
      rw [sdv_pre T1.ext (i := j) (by omega), sdv_pre T1.ext (i := w) (by omega)]
      exact T.sds j w d h z'
    · subst q
      obtain ⟨rfl, rfl⟩ := z.eq upm
      rw [sdv_of top1, sdv_of top2]
      exact ⟨rfl, s1⟩
    · exact T1.sds j w d q z
  · rcases Nat.lt_trichotomy j m with q | q | q
    · obtain ⟨w, d, z⟩ := T.isup j h (by omega)
      exact ⟨w, d, z.pre T1.ext⟩
    · subst q
      exact ⟨_, _, upm⟩
    · exact T1.isup j q h2
def Rep (D : Nat) (N : List NT) (nb : NB) : {r : Nat} → Vw r → Nat → Nat → Nat → Prop
  | 0, .lf x, s, b, i => ∃ u, N[i]? = some (x, s, u, b)
  | _ + 1, .br x f, s, b, i => (∃ u, N[i]? = some (x, s, u, b)) ∧ ∀ c, 1 ≤ c → c ≤ D → c ≠ b → ∃ j, nb i c = some j ∧ Rep D N nb (f c) (1 - s) c j
theorem rep0 {D : Nat} {N : List NT} {nb : NB} {x s b i : Nat} : Rep D N nb (.lf x) s b i ↔ ∃ u, N[i]? = some (x, s, u, b) := by
  unfold Rep
  exact Iff.rfl
theorem rep1 {D : Nat} {N : List NT} {nb : NB} {r x s b i : Nat} {f : Nat → Vw r} : Rep D N nb (.br x f) s b i ↔ (∃ u, N[i]? = some (x, s, u, b)) ∧ ∀ c, 1 ≤ c → c ≤ D → c ≠ b → ∃ j, nb i c = some j ∧ Rep D N nb (f c) (1 - s) c j := by
  rw [Rep]
theorem Rep.mono {D : Nat} {N M : List NT} {nb mb : NB} (hN : N <+: M) (hb : ∀ i c j, nb i c = some j → mb i c = some j) : ∀ {r : Nat} {v : Vw r} {s b i : Nat}, Rep D N nb v s b i → Rep D M mb v s b i
  | 0, .lf _, _, _, _, h => by
    obtain ⟨u, e⟩ := rep0.mp h
    exact rep0.mpr ⟨u, pre_at hN e⟩
  | _ + 1, .br _ _, _, _, _, h => by
    obtain ⟨⟨u, e⟩, k⟩ := rep1.mp h
    exact rep1.mpr ⟨⟨u, pre_at hN e⟩, fun c c1 cD cb => by
      obtain ⟨j, ej, h⟩ := k c c1 cD cb
      exact ⟨j, hb _ _ _ ej, h.mono hN hb⟩⟩
theorem setE_mono {nb : NB} {j u c : Nat} (a : nb j c = none) (b : nb u c = none) : ∀ i d k, nb i d = some k → setE nb j u c i d = some k := fun i d k e => by
  unfold setE
  by_cases q : i = j ∧ d = c
  · obtain ⟨rfl, rfl⟩ := q
    rw [a] at e
    exact absurd e (by simp)
  rw [if_neg q]
  by_cases q : i = u ∧ d = c
  · obtain ⟨rfl, rfl⟩ := q
    rw [b] at e
    exact absurd e (by simp)
  rw [if_neg q]
  exact e
theorem foldl_range {α : Type} (f : α → Nat → α) (a : α) (k : Nat) : (List.range' 1 (k + 1)).foldl f a = f ((List.range' 1 k).foldl f a) (k + 1) := by
  rw [List.range'_concat, List.foldl_append]
  show f _ (1 + 1 * k) = _
  rw [show 1 + 1 * k = k + 1 by omega]
theorem told_all {D : Nat} : ∀ (r : Nat) (v : Vw r) (s : Nat) (u : Int) (b : Nat) (N : List NT) (nb : NB), s ≤ 1 → (∀ i c, N.length ≤ i → nb i c = none) →
    (tellE D v b N.length nb).1 = (tellN D v s u b N).length ∧ Told D N nb (tellN D v s u b N) (tellE D v b N.length nb).2 N.length ∧ (tellN D v s u b N)[N.length]? = some (v.top, s, u, b) ∧
    (∀ c, c = b ∨ c = 0 ∨ D < c → (tellE D v b N.length nb).2 N.length c = none) ∧ Rep D (tellN D v s u b N) (tellE D v b N.length nb).2 v s b N.length
  | 0, .lf x, s, u, b, N, nb, s1, f => by
    have e : (N ++ [(x, s, u, b)])[N.length]? = some (x, s, u, b) := List.getElem?_concat_length ..
    rw [tellE, tellN]
    exact ⟨by show N.length + 1 = (N ++ [(x, s, u, b)]).length; rw [List.length_append]; rfl, Told.start f _, e, fun c _ => f _ _ (Nat.le_refl _), rep0.mpr ⟨u, e⟩⟩
  | r + 1, .br x g, s, u, b, N, nb, s1, f => by
    have key : ∀ k : Nat, k ≤ D → ∃ (M : List NT) (mb : NB), (List.range' 1 k).foldl (fun M c => if c = b then M else tellN D (g c) (1 - s) ((N.length : Nat) : Int) c M) (N ++ [(x, s, u, b)]) = M ∧
        (List.range' 1 k).foldl (fun p c => if c = b then p else ((tellE D (g c) c p.1 p.2).1, setE (tellE D (g c) c p.1 p.2).2 p.1 N.length c)) (N.length + 1, nb) = (M.length, mb) ∧
        Told D N nb M mb N.length ∧ M[N.length]? = some (x, s, u, b) ∧ (∀ c, (c = b ∨ c = 0 ∨ k < c) → mb N.length c = none) ∧ ∀ c, 1 ≤ c → c ≤ k → c ≠ b → ∃ j, mb N.length c = some j ∧ Rep D M mb (g c) (1 - s) c j := by
      intro k
      induction k with
      | zero =>
        intro _
        refine ⟨_, nb, rfl, ?_, Told.start f _, List.getElem?_concat_length .., fun c _ => f _ _ (Nat.le_refl _), fun c c1 c2 => absurd c2 (by omega)⟩
        show (N.length + 1, nb) = ((N ++ [(x, s, u, b)]).length, nb)
        rw [List.length_append]
        rfl
      | succ k ih =>
        intro hk
        obtain ⟨M, mb, e1, e2, T, top, no, re⟩ := ih (by omega)
        rw [foldl_range, foldl_range, e1, e2]
        by_cases q : k + 1 = b
        · refine ⟨M, mb, if_pos q, if_pos q, T, top, fun c hc => ?_, fun c c1 c2 cb => re c c1 (by omega) cb⟩
          rcases hc with hc | hc | hc
          · exact no c (.inl hc)
          · exact no c (.inr (.inl hc))
          · exact no c (.inr (.inr (by omega)))
        · obtain ⟨l, T1, top1, no1, re1⟩ := told_all r (g (k + 1)) (1 - s) ((N.length : Nat) : Int) (k + 1) M mb (by omega) T.fresh
          have free : mb N.length (k + 1) = none := no _ (.inr (.inr (by omega)))
          have hl := T.more
          have nob := no1 (k + 1) (.inl rfl)
          have free1 : (tellE D (g (k + 1)) (k + 1) M.length mb).2 N.length (k + 1) = none := by rw [T1.out _ _ hl]; exact free
          have mono1 : ∀ i c j, mb i c = some j → (tellE D (g (k + 1)) (k + 1) M.length mb).2 i c = some j := fun i c j e => by
            by_cases q : i < M.length
            · rw [T1.out i c q]
              exact e
            · rw [T.fresh i c (by omega)] at e
              exact absurd e (by simp)
          have mono2 := setE_mono nob free1
          refine ⟨_, _, if_neg q, by rw [if_neg q, l], T.child top s1 (by omega) (by omega) free rfl T1 top1 nob, pre_at T1.ext top, fun c hc => ?_, fun c c1 c2 cb => ?_⟩
          · unfold setE
            rw [if_neg (by omega), if_neg (by omega), T1.out _ _ hl]
            rcases hc with hc | hc | hc
            · exact no c (.inl hc)
            · exact no c (.inr (.inl hc))
            · exact no c (.inr (.inr (by omega)))
          · by_cases q2 : c = k + 1
            · subst q2
              refine ⟨M.length, ?_, re1.mono (List.prefix_refl _) mono2⟩
              unfold setE
              rw [if_neg (by omega), if_pos ⟨rfl, rfl⟩]
            · obtain ⟨j, ej, h⟩ := re c c1 (by omega) cb
              exact ⟨j, mono2 _ _ _ (mono1 _ _ _ ej), (h.mono T1.ext mono1).mono (List.prefix_refl _) mono2⟩
    obtain ⟨M, mb, e1, e2, T, top, no, re⟩ := key D (Nat.le_refl _)
    have e1' : tellN D (.br x g) s u b N = M := by rw [tellN]; exact e1
    have e2' : tellE D (.br x g) b N.length nb = (M.length, mb) := by rw [tellE]; exact e2
    rw [e1', e2']
    exact ⟨rfl, T, top, no, rep1.mpr ⟨⟨u, top⟩, re⟩⟩
/-! ### the places of the nodes on their sides, and the rows of links -/
def ix (N : List NT) (s k : Nat) : List Nat := (List.range k).filter (fun i => decide (sdv N i = s))
def rk (N : List NT) (i : Nat) : Nat := (ix N (sdv N i) i).length
theorem ix_at {N : List NT} {k i s : Nat} (hi : i < k) (hs : sdv N i = s) : (ix N s k)[rk N i]? = some i := by
  have e : List.range k = List.range i ++ (i :: (List.range' (i + 1) (k - i - 1))) := by
    rw [List.range_eq_range', List.range_eq_range', show k = i + ((k - i - 1) + 1) by omega, List.range'_append_1.symm, List.range'_succ, Nat.zero_add]
    congr 3
    omega
  unfold ix rk
  rw [e, List.filter_append, hs, List.filter_cons, if_pos (by rw [hs]; simp)]
  show (ix N s i ++ _)[(ix N s i).length]? = _
  rw [List.getElem?_append_right (Nat.le_refl _), Nat.sub_self]
  rfl
theorem ix_nd {N : List NT} {k s : Nat} : (ix N s k).Nodup := List.nodup_range.filter _
theorem ix_mem {N : List NT} {k s i : Nat} : i ∈ ix N s k ↔ i < k ∧ sdv N i = s := by
  unfold ix
  rw [List.mem_filter, List.mem_range, decide_eq_true_iff]
theorem ix_succ {N : List NT} {k s : Nat} : ix N s (k + 1) = if sdv N k = s then ix N s k ++ [k] else ix N s k := by
  unfold ix
  rw [List.range_succ, List.filter_append, List.filter_cons]
  by_cases q : sdv N k = s
  · rw [if_pos q, if_pos (by rw [q]; simp)]
    rfl
  · rw [if_neg q, if_neg (by simpa using q)]
    exact List.append_nil _
theorem ix_pre {N M : List NT} (h : N <+: M) {k s : Nat} (hk : k ≤ N.length) : ix M s k = ix N s k := by
  unfold ix
  refine List.filter_congr (fun i hi => ?_)
  rw [List.mem_range] at hi
  rw [sdv_pre h (by omega)]
theorem rk_pre {N M : List NT} (h : N <+: M) {i : Nat} (hi : i < N.length) : rk M i = rk N i := by
  unfold rk
  rw [sdv_pre h hi, ix_pre h (by omega)]
theorem rk_lt {N : List NT} {k i s : Nat} (hi : i < k) (hs : sdv N i = s) : rk N i < (ix N s k).length := (List.getElem?_eq_some_iff.mp (ix_at hi hs)).1
theorem rk_inj {N : List NT} {i j : Nat} (hs : sdv N i = sdv N j) (e : rk N i = rk N j) : i = j := by
  have a := ix_at (N := N) (k := i + j + 1) (i := i) (by omega) hs
  have b := ix_at (N := N) (k := i + j + 1) (i := j) (by omega) rfl
  rw [e, b] at a
  injection a with a
  exact a.symm
theorem map_set_nd {L : List Nat} (nd : L.Nodup) {p i : Nat} (e : L[p]? = some i) (F : Nat → Int) (v : Int) : (L.map F).set p v = L.map (fun j => if j = i then v else F j) := by
  refine List.ext_getElem? (fun q => ?_)
  rw [List.getElem?_set, List.getElem?_map, List.getElem?_map]
  obtain ⟨hp, e'⟩ := List.getElem?_eq_some_iff.mp e
  by_cases r : p = q
  · subst r
    rw [if_pos rfl, if_pos (by rw [List.length_map]; exact hp), e]
    show _ = some (if i = i then v else F i)
    rw [if_pos rfl]
  · rw [if_neg r]
    rcases h : L[q]? with _ | j
    · rfl
    · show some (F j) = some (if j = i then v else F j)
      rw [if_neg (fun z => r ?_)]
      subst z
      obtain ⟨hq, h'⟩ := List.getElem?_eq_some_iff.mp h
      exact (List.getElem_inj nd).mp (e'.trans h'.symm)
def nW (N : List NT) : Nat := (ix N 0 N.length).length
def nB (N : List NT) : Nat := (ix N 1 N.length).length
/-- a row: the values of the white nodes, then those of the black nodes (for their twins) -/
def rowF (N : List NT) (F : Nat → Int) : List Int := (ix N 0 N.length).map F ++ (ix N 1 N.length).map F
def pos (N : List NT) (i : Nat) : Nat := if sdv N i = 0 then rk N i else nW N + rk N i
theorem rowF_set {N : List NT} {F : Nat → Int} {i : Nat} (hi : i < N.length) (hs : sdv N i ≤ 1) (v : Int) : (rowF N F).set (pos N i) v = rowF N (fun j => if j = i then v else F j) := by
  unfold rowF pos
  by_cases q : sdv N i = 0
  · have a := ix_at hi q
    rw [if_pos q, List.set_append_left _ _ (by rw [List.length_map]; exact rk_lt hi q), map_set_nd ix_nd a]
    congr 1
    refine List.map_congr_left (fun j hj => ?_)
    have := (ix_mem.mp hj).2
    rw [if_neg (fun z => by subst z; omega)]
  · have q1 : sdv N i = 1 := by omega
    have a := ix_at hi q1
    rw [if_neg q, List.set_append_right _ _ (by rw [List.length_map]; unfold nW; omega), List.length_map, show nW N + rk N i - (ix N 0 N.length).length = rk N i by unfold nW; omega, map_set_nd ix_nd a]
    congr 1
    refine List.map_congr_left (fun j hj => ?_)
    have := (ix_mem.mp hj).2
    rw [if_neg (fun z => by subst z; omega)]
theorem rowF_at {N : List NT} {F : Nat → Int} {i : Nat} (hi : i < N.length) (hs : sdv N i ≤ 1) : (rowF N F)[pos N i]? = some (F i) := by
  unfold rowF pos
  by_cases q : sdv N i = 0
  · have a := ix_at hi q
    rw [if_pos q, List.getElem?_append_left (by rw [List.length_map]; exact rk_lt hi q), List.getElem?_map, a]
    rfl
  · have q1 : sdv N i = 1 := by omega
    have a := ix_at hi q1
    rw [if_neg q, List.getElem?_append_right (by rw [List.length_map]; unfold nW; omega), List.length_map, show nW N + rk N i - (ix N 0 N.length).length = rk N i by unfold nW; omega, List.getElem?_map, a]
    rfl
theorem ix_all {N : List NT} (h : ∀ i, i < N.length → sdv N i ≤ 1) : ∀ k : Nat, k ≤ N.length → (ix N 0 k).length + (ix N 1 k).length = k
  | 0, _ => rfl
  | k + 1, hk => by
    have a := ix_all h k (by omega)
    have b := h k (by omega)
    rw [ix_succ, ix_succ]
    by_cases q : sdv N k = 0
    · rw [if_pos q, if_neg (by omega), List.length_append, List.length_singleton]
      omega
    · rw [if_neg q, if_pos (by omega), List.length_append, List.length_singleton]
      omega
theorem rowF_len {N : List NT} (h : ∀ i, i < N.length → sdv N i ≤ 1) (F : Nat → Int) : (rowF N F).length = N.length := by
  unfold rowF
  rw [List.length_append, List.length_map, List.length_map, ix_all h _ (Nat.le_refl _)]
theorem pos_lt {N : List NT} {i : Nat} (h : ∀ i, i < N.length → sdv N i ≤ 1) (hi : i < N.length) : pos N i < N.length := by
  have := (List.getElem?_eq_some_iff.mp (rowF_at (F := fun _ => 0) hi (h i hi))).1
  rwa [rowF_len h] at this
/-! ### a view told as a whole -/
structure NetV (D : Nat) (N : List NT) (nb : NB) : Prop where
  pos : 0 < N.length
  sd : ∀ i, i < N.length → sdv N i ≤ 1
  sp : ∀ i c j, nb i c = some j ↔ (0 < i ∧ Up N i j c) ∨ (0 < j ∧ Up N j i c)
  ups : ∀ j u c, 0 < j → Up N j u c → u < j ∧ 1 ≤ c ∧ c ≤ D
  sds : ∀ j u c, 0 < j → Up N j u c → sdv N j = 1 - sdv N u
  isup : ∀ j, 0 < j → j < N.length → ∃ u c, Up N j u c
theorem NetV.sym {D : Nat} {N : List NT} {nb : NB} (T : NetV D N nb) {i c j : Nat} (e : nb i c = some j) : nb j c = some i := (T.sp j c i).mpr ((T.sp i c j).mp e).symm
theorem NetV.lt {D : Nat} {N : List NT} {nb : NB} (T : NetV D N nb) {i c j : Nat} (e : nb i c = some j) : i < N.length ∧ j < N.length ∧ 1 ≤ c ∧ c ≤ D := by
  rcases (T.sp i c j).mp e with ⟨a, z⟩ | ⟨a, z⟩
  · obtain ⟨b, c⟩ := T.ups _ _ _ a z
    have := z.lt
    exact ⟨this, by omega, c⟩
  · obtain ⟨b, c⟩ := T.ups _ _ _ a z
    have := z.lt
    exact ⟨by omega, this, c⟩
theorem NetV.side {D : Nat} {N : List NT} {nb : NB} (T : NetV D N nb) {i c j : Nat} (e : nb i c = some j) : sdv N i + sdv N j = 1 := by
  obtain ⟨a, b, _⟩ := T.lt e
  have a1 := T.sd i a
  have b1 := T.sd j b
  rcases (T.sp i c j).mp e with ⟨a, z⟩ | ⟨a, z⟩
  · have := T.sds _ _ _ a z
    omega
  · have := T.sds _ _ _ a z
    omega
theorem netV_of {D r : Nat} (v : Vw r) (s : Nat) (hs : s ≤ 1) : ∃ (nb : NB), NetV D (tellN D v s (-1) 0 []) nb ∧ (tellE D v 0 0 (fun _ _ => none)) = ((tellN D v s (-1) 0 []).length, nb) ∧ (tellN D v s (-1) 0 [])[0]? = some (v.top, s, -1, 0) ∧ Rep D (tellN D v s (-1) 0 []) nb v s 0 0 := by
  obtain ⟨a, T, top, _, re⟩ := told_all (D := D) r v s (-1) 0 [] (fun _ _ => none) hs (fun _ _ _ => rfl)
  refine ⟨_, ⟨T.more, fun i hi => ?_, fun i c j => T.sp i c j (Nat.zero_le _), fun j u c h z => (T.ups j u c h z).2, fun j u c h z => (T.sds j u c h z).1, T.isup⟩, Prod.ext a rfl, top, re⟩
  by_cases q : 0 < i
  · obtain ⟨u, c, z⟩ := T.isup i q hi
    have := T.sds i u c q z
    omega
  · rw [show i = 0 by omega, sdv_of (show (tellN D v s (-1) 0 [])[0]? = some (v.top, s, -1, 0) from top)]
    exact hs
/-! ### the rows of links, whole and while they are made -/
def nbk (nb : NB) (k : Nat) : NB := fun i c => (nb i c).filter (fun j => decide (i < k ∧ j < k))
/-- where the edge of colour c at node i leads, as numbered in the row of the white side, told for the first k nodes; lacking ones for the first m nodes -/
def valF (N : List NT) (nb : NB) (k m c i : Nat) : Int :=
  match nbk nb k i c with
  | some j => if sdv N i = 0 then (rk N j : Int) else (nB N : Int) + rk N j
  | none => if i < m then (if sdv N i = 0 then (nB N : Int) + rk N i else rk N i) else -1
def linkF (N : List NT) (nb : NB) (k m c : Nat) : List Int := rowF N (valF N nb k m c)
theorem nbk_all {D : Nat} {N : List NT} {nb : NB} (T : NetV D N nb) {i c : Nat} : nbk nb N.length i c = nb i c := by
  unfold nbk
  rcases h : nb i c with _ | j
  · rfl
  · obtain ⟨a, b, _⟩ := T.lt h
    exact Option.filter_eq_some_iff.mpr ⟨rfl, by simpa using ⟨a, b⟩⟩
theorem nbk_succ {D : Nat} {N : List NT} {nb : NB} (T : NetV D N nb) {k u c : Nat} (hk : 0 < k) (e : Up N k u c) (i d : Nat) :
    nbk nb (k + 1) i d = if i = k ∧ d = c then some u else if i = u ∧ d = c then some k else nbk nb k i d := by
  obtain ⟨uk, _⟩ := T.ups _ _ _ hk e
  have e1 : nb k c = some u := (T.sp k c u).mpr (.inl ⟨hk, e⟩)
  have e2 : nb u c = some k := T.sym e1
  by_cases q1 : i = k ∧ d = c
  · obtain ⟨rfl, rfl⟩ := q1
    rw [if_pos ⟨rfl, rfl⟩]
    unfold nbk
    rw [e1]
    exact Option.filter_eq_some_iff.mpr ⟨rfl, by simp; omega⟩
  rw [if_neg q1]
  by_cases q2 : i = u ∧ d = c
  · obtain ⟨rfl, rfl⟩ := q2
    rw [if_pos ⟨rfl, rfl⟩]
    unfold nbk
    rw [e2]
    exact Option.filter_eq_some_iff.mpr ⟨rfl, by simp; omega⟩
  rw [if_neg q2]
  unfold nbk
  rcases h : nb i d with _ | j
  · rfl
  · have no : ¬ (i = k) ∨ ¬ (j < k) := by
      refine Classical.byContradiction (fun z => ?_)
      have z1 : i = k := Classical.byContradiction (fun y => z (.inl y))
      have z2 : j < k := Classical.byContradiction (fun y => z (.inr y))
      subst z1
      rcases (T.sp i d j).mp h with ⟨_, y⟩ | ⟨a, y⟩
      · exact q1 ⟨rfl, (y.eq e).2⟩
      · have := T.ups _ _ _ a y
        omega
    have no2 : ¬ (j = k) ∨ ¬ (i < k) := by
      refine Classical.byContradiction (fun z => ?_)
      have z1 : j = k := Classical.byContradiction (fun y => z (.inl y))
      have z2 : i < k := Classical.byContradiction (fun y => z (.inr y))
      subst z1
      rcases (T.sp i d j).mp h with ⟨a, y⟩ | ⟨_, y⟩
      · have := T.ups _ _ _ a y
        omega
      · exact q2 ⟨(y.eq e).1, (y.eq e).2⟩
    have ne : i ≠ j := fun z => by
      have := T.side h
      subst z
      omega
    show Option.filter _ (some j) = Option.filter _ (some j)
    rw [Option.filter_some, Option.filter_some]
    congr 1
    rw [decide_eq_decide.mpr]
    omega
theorem valF_some {N : List NT} {nb : NB} {k m c i j : Nat} (h : nbk nb k i c = some j) : valF N nb k m c i = if sdv N i = 0 then (rk N j : Int) else (nB N : Int) + rk N j := by
  unfold valF
  rw [h]
theorem valF_none {N : List NT} {nb : NB} {k m c i : Nat} (h : nbk nb k i c = none) : valF N nb k m c i = if i < m then (if sdv N i = 0 then (nB N : Int) + rk N i else rk N i) else -1 := by
  unfold valF
  rw [h]
theorem valF_same {N : List NT} {nb : NB} {k k' m c i : Nat} (h : nbk nb k i c = nbk nb k' i c) : valF N nb k m c i = valF N nb k' m c i := by
  unfold valF
  rw [h]
theorem valF_edge {D : Nat} {N : List NT} {nb : NB} (T : NetV D N nb) {k u c w b : Nat} (hk : 0 < k) (e : Up N k u c) (hw : (sdv N k = 0 ∧ w = k ∧ b = u) ∨ (sdv N k = 1 ∧ w = u ∧ b = k)) (i : Nat) :
    valF N nb (k + 1) 0 c i = if i = b then (nB N : Int) + rk N w else if i = w then (rk N b : Int) else valF N nb k 0 c i := by
  obtain ⟨uk, _⟩ := T.ups _ _ _ hk e
  have e1 : nb k c = some u := (T.sp k c u).mpr (.inl ⟨hk, e⟩)
  have sd := T.side e1
  have ek := nbk_succ T hk e i c
  rcases hw with ⟨a, rfl, rfl⟩ | ⟨a, rfl, rfl⟩
  · by_cases q1 : i = w
    · subst q1
      rw [if_pos ⟨rfl, rfl⟩] at ek
      rw [valF_some ek, if_neg (show ¬ i = b by omega), if_pos rfl, if_pos a]
    by_cases q2 : i = b
    · subst q2
      rw [if_neg (fun z => q1 z.1), if_pos ⟨rfl, rfl⟩] at ek
      rw [valF_some ek, if_pos rfl, if_neg (show ¬ sdv N i = 0 by omega)]
    rw [if_neg (fun z => q1 z.1), if_neg (fun z => q2 z.1)] at ek
    rw [valF_same ek, if_neg q2, if_neg q1]
  · by_cases q1 : i = b
    · subst q1
      rw [if_pos ⟨rfl, rfl⟩] at ek
      rw [valF_some ek, if_pos rfl, if_neg (show ¬ sdv N i = 0 by omega)]
    by_cases q2 : i = w
    · subst q2
      rw [if_neg (fun z => q1 z.1), if_pos ⟨rfl, rfl⟩] at ek
      rw [valF_some ek, if_neg q1, if_pos rfl, if_pos (show sdv N i = 0 by omega)]
    rw [if_neg (fun z => q1 z.1), if_neg (fun z => q2 z.1)] at ek
    rw [valF_same ek, if_neg q1, if_neg q2]
/-- the law's first loop: an edge is told, in the row of its colour -/
theorem link_edge {D : Nat} {N : List NT} {nb : NB} (T : NetV D N nb) {k u c w b : Nat} (hk : 0 < k) (hkn : k < N.length) (e : Up N k u c) (hw : (sdv N k = 0 ∧ w = k ∧ b = u) ∨ (sdv N k = 1 ∧ w = u ∧ b = k)) :
    ((linkF N nb k 0 c).set (rk N w) (rk N b : Int)).set (nW N + rk N b) ((nB N : Int) + rk N w) = linkF N nb (k + 1) 0 c := by
  obtain ⟨uk, _⟩ := T.ups _ _ _ hk e
  have e1 : nb k c = some u := (T.sp k c u).mpr (.inl ⟨hk, e⟩)
  have sd := T.side e1
  have hw0 : sdv N w = 0 := by rcases hw with ⟨a, rfl, rfl⟩ | ⟨a, rfl, rfl⟩ <;> omega
  have hb1 : sdv N b = 1 := by rcases hw with ⟨a, rfl, rfl⟩ | ⟨a, rfl, rfl⟩ <;> omega
  have wn : w < N.length := by rcases hw with ⟨a, rfl, rfl⟩ | ⟨a, rfl, rfl⟩ <;> omega
  have bn : b < N.length := by rcases hw with ⟨a, rfl, rfl⟩ | ⟨a, rfl, rfl⟩ <;> omega
  have pw : pos N w = rk N w := by unfold pos; rw [if_pos hw0]
  have pb : pos N b = nW N + rk N b := by unfold pos; rw [if_neg (by omega)]
  have h1 := fun F v => rowF_set (F := F) wn (by omega) v
  have h2 := fun F v => rowF_set (F := F) bn (by omega) v
  rw [pw] at h1
  rw [pb] at h2
  unfold linkF
  rw [h1, h2]
  congr 1
  funext i
  exact (valF_edge T hk e hw i).symm
theorem link_other {D : Nat} {N : List NT} {nb : NB} (T : NetV D N nb) {k u c d : Nat} (hk : 0 < k) (e : Up N k u c) (ne : d ≠ c) : linkF N nb (k + 1) 0 d = linkF N nb k 0 d := by
  unfold linkF
  congr 1
  funext i
  unfold valF
  rw [nbk_succ T hk e, if_neg (fun z => ne z.2), if_neg (fun z => ne z.2)]
theorem link_root {D : Nat} {N : List NT} {nb : NB} (T : NetV D N nb) (d : Nat) : linkF N nb 1 0 d = linkF N nb 0 0 d := by
  have h : ∀ i, nbk nb 1 i d = nbk nb 0 i d := fun i => by
    unfold nbk
    rcases h : nb i d with _ | j
    · rfl
    · rw [Option.filter_some, Option.filter_some, if_neg (by simp; intro a b; have := T.side h; subst a; subst b; omega), if_neg (by simp)]
  unfold linkF
  congr 1
  funext i
  unfold valF
  rw [h]
theorem link_start {N : List NT} {nb : NB} (h : ∀ i, i < N.length → sdv N i ≤ 1) (d : Nat) : linkF N nb 0 0 d = List.replicate N.length (-1) := by
  have e : valF N nb 0 0 d = fun _ => (-1 : Int) := by
    funext i
    unfold valF nbk
    rcases h : nb i d with _ | j
    · rfl
    · rw [Option.filter_some, if_neg (by simp)]
      rfl
  unfold linkF
  rw [e]
  refine List.ext_getElem? (fun q => ?_)
  unfold rowF
  rw [← List.map_append, List.map_const', List.length_append, ix_all h _ (Nat.le_refl _)]
/-- the law's second loop: a node without this edge -/
theorem link_lack {D : Nat} {N : List NT} {nb : NB} (T : NetV D N nb) {k c : Nat} (hk : k < N.length) (e : nb k c = none) :
    (linkF N nb N.length k c).set (pos N k) (if sdv N k = 0 then (nB N : Int) + rk N k else rk N k) = linkF N nb N.length (k + 1) c := by
  unfold linkF
  rw [rowF_set hk (T.sd k hk)]
  congr 1
  funext i
  by_cases q : i = k
  · subst q
    rw [if_pos rfl, valF_none ((nbk_all T).trans e), if_pos (show i < i + 1 by omega)]
  · rw [if_neg q]
    rcases h : nb i c with _ | j
    · rw [valF_none ((nbk_all T).trans h), valF_none ((nbk_all T).trans h)]
      by_cases r : i < k
      · rw [if_pos r, if_pos (show i < k + 1 by omega)]
      · rw [if_neg r, if_neg (show ¬ i < k + 1 by omega)]
    · rw [valF_some ((nbk_all T).trans h), valF_some ((nbk_all T).trans h)]
theorem link_has {D : Nat} {N : List NT} {nb : NB} (T : NetV D N nb) {k c j : Nat} (e : nb k c = some j) : linkF N nb N.length (k + 1) c = linkF N nb N.length k c := by
  unfold linkF
  congr 1
  funext i
  rcases h : nb i c with _ | l
  · have ne : i ≠ k := fun z => by
      subst z
      rw [e] at h
      exact absurd h (by simp)
    rw [valF_none ((nbk_all T).trans h), valF_none ((nbk_all T).trans h)]
    by_cases r : i < k
    · rw [if_pos r, if_pos (show i < k + 1 by omega)]
    · rw [if_neg r, if_neg (show ¬ i < k + 1 by omega)]
  · rw [valF_some ((nbk_all T).trans h), valF_some ((nbk_all T).trans h)]
/-- the whole row -/
def lkAll (N : List NT) (nb : NB) (c : Nat) : List Int := linkF N nb N.length N.length c
theorem lk_val {D : Nat} {N : List NT} {nb : NB} (T : NetV D N nb) {c i : Nat} (hi : i < N.length) : valF N nb N.length N.length c i = match nb i c with
    | some j => if sdv N i = 0 then (rk N j : Int) else (nB N : Int) + rk N j
    | none => if sdv N i = 0 then (nB N : Int) + rk N i else rk N i := by
  unfold valF
  rw [nbk_all T]
  rcases h : nb i c with _ | l
  · show (if i < N.length then _ else _) = _
    rw [if_pos hi]
  · rfl
theorem lk_len {D : Nat} {N : List NT} {nb : NB} (T : NetV D N nb) (c : Nat) : (lkAll N nb c).length = N.length := rowF_len T.sd _
/-- from a white node over its edge -/
theorem lk_white {D : Nat} {N : List NT} {nb : NB} (T : NetV D N nb) {c i j : Nat} (e : nb i c = some j) (s : sdv N i = 0) : (lkAll N nb c)[rk N i]? = some (rk N j : Int) := by
  obtain ⟨hi, _⟩ := T.lt e
  have a := rowF_at (F := valF N nb N.length N.length c) hi (by omega)
  rw [lk_val T hi, e] at a
  unfold pos at a
  rw [if_pos s] at a
  show (rowF _ _)[_]? = _
  rw [a]
  show some (if sdv N i = 0 then _ else _) = _
  rw [if_pos s]
/-- from a black node over its edge: the first place where it stands -/
theorem lk_black {D : Nat} {N : List NT} {nb : NB} (T : NetV D N nb) {c i j : Nat} (e : nb i c = some j) (s : sdv N i = 1) : (lkAll N nb c)[rk N j]? = some (rk N i : Int) ∧ ∀ q : Nat, q < rk N j → ∀ y, (lkAll N nb c)[q]? = some y → y ≠ (rk N i : Int) := by
  have sd := T.side e
  obtain ⟨hi, hj, _⟩ := T.lt e
  refine ⟨lk_white T (T.sym e) (by omega), fun q hq y hy z => ?_⟩
  have lt := rk_lt (N := N) hj (s := 0) (by omega)
  have q1 : q < (ix N 0 N.length).length := by omega
  have hy2 : ((ix N 0 N.length).map (valF N nb N.length N.length c))[q]? = some y := by
    rw [← hy]
    show _ = (rowF _ _)[q]?
    unfold rowF
    rw [List.getElem?_append_left (by rw [List.length_map]; exact q1)]
  rw [List.getElem?_map, List.getElem?_eq_getElem q1] at hy2
  injection hy2 with hy2
  have hm := ix_mem.mp (List.getElem_mem q1)
  have rq : rk N (ix N 0 N.length)[q] = q := by
    have a := ix_at hm.1 hm.2
    have b := List.getElem?_eq_getElem q1
    exact (List.getElem?_inj (List.getElem?_eq_some_iff.mp a).1 ix_nd).mp (a.trans b.symm)
  rw [lk_val T hm.1] at hy2
  rcases h : nb (ix N 0 N.length)[q] c with _ | l
  · rw [h] at hy2
    replace hy2 : (if sdv N (ix N 0 N.length)[q] = 0 then (nB N : Int) + rk N (ix N 0 N.length)[q] else rk N (ix N 0 N.length)[q]) = y := hy2
    rw [if_pos hm.2] at hy2
    have := rk_lt hi s
    unfold nB at hy2
    omega
  · rw [h] at hy2
    replace hy2 : (if sdv N (ix N 0 N.length)[q] = 0 then (rk N l : Int) else (nB N : Int) + rk N l) = y := hy2
    rw [if_pos hm.2] at hy2
    have sl := T.side h
    have e2 : l = i := rk_inj (N := N) (by have := hm.2; omega) (by omega)
    subst e2
    have e3 := T.sym h
    rw [e] at e3
    injection e3 with e3
    rw [← e3] at rq
    omega
end Lw
namespace Lw
open PySem PySem.Spec PyProof.Rows L2 LG
def top (i : Nat) : Stmt := PySem.Challenge.pw_looksfar_k19_network_showing.main.body.getD i (.Pass ⟨0, 0, 0, 0⟩)
abbrev sis_number : Stmt := top 4
abbrev sproduct_of : Stmt := top 5
abbrev scheck_task : Stmt := top 12
abbrev sother_side : Stmt := top 13
abbrev sis_task : Stmt := top 14
abbrev sare_labels : Stmt := top 15
abbrev s_are_inputs : Stmt := top 16
abbrev s_are_rows : Stmt := top 17
abbrev sis_row : Stmt := top 18
abbrev snetwork_showing : Stmt := top 20
abbrev s_tell : Stmt := top 21
abbrev s_end_or : Stmt := top 22
abbrev s_law_draws : Stmt := top 24
abbrev s_law_take : Stmt := top 25
abbrev s_law_drawn : Stmt := top 26
abbrev s_law_told : Stmt := top 27
abbrev s_law_places : Stmt := top 28
abbrev s_law_inputs : Stmt := top 29
abbrev s_law_due : Stmt := top 30
abbrev s_law_walk : Stmt := top 31
abbrev s_law_right : Stmt := top 32
abbrev s_law_refused : Stmt := top 33
abbrev s_law_all : Stmt := top 34
abbrev slaw : Stmt := top 35
/-- the built-ins that the text uses -/
structure Blt (mg : Str → Option Value) : Prop where
  abs : mg "abs" = none
  int : mg "int" = none
  len : mg "len" = none
  range : mg "range" = none
  tuple : mg "tuple" = none
  isinstance : mg "isinstance" = none
  bool : mg "bool" = none
  list : mg "list" = none
  all : mg "all" = none
  zip : mg "zip" = none
  str : mg "str" = none
  enumerate : mg "enumerate" = none
  repr : mg "repr" = none
  min : mg "min" = none
/-- the module's constants -/
structure Cst (mg : Str → Option Value) : Prop where
  LEAST_COLOURS : ∃ t, mg "LEAST_COLOURS" = some (.int 2 t)
  MOST_COLOURS : ∃ t, mg "MOST_COLOURS" = some (.int 4 t)
  MOST_INPUTS : ∃ t, mg "MOST_INPUTS" = some (.int 4 t)
  MOST_LABELS : ∃ t, mg "MOST_LABELS" = some (.int 60 t)
  MOST_ROWS : ∃ t, mg "MOST_ROWS" = some (.int 4000 t)
theorem _root_.L2.Room.units2 {k : Nat} {A : Around} (r : L2.Room k A) : A.units + 65 < cLine := by have := r.un; omega
/-! ### what a task is -/
def isNum (d : PyData) (lo hi : Int) : Bool := match d with
  | .int i => decide (lo ≤ i) && decide (i ≤ hi)
  | _ => false
def isInt2 : PyData → Bool
  | .int _ => true
  | .bool _ => true
  | _ => false
def isBool : PyData → Bool
  | .bool _ => true
  | _ => false
def isTup : PyData → Bool
  | .tuple _ => true
  | _ => false
theorem kit_int (d : PyData) : kitB (tyD d) "int" = some (isInt2 d) := by cases d <;> (simp only [tyD, isInt2]; decide +kernel)
theorem kit_bool (d : PyData) : kitB (tyD d) "bool" = some (isBool d) := by cases d <;> (simp only [tyD, isBool]; decide +kernel)
theorem kit_tup (d : PyData) : kitB (tyD d) "tuple" = some (isTup d) := by cases d <;> (simp only [tyD, isTup]; decide +kernel)
theorem isTup_of {d : PyData} (h : isTup d = true) : ∃ ds, d = .tuple ds := by
  cases d <;> first | exact ⟨_, rfl⟩ | cases h
/-- the number of an int -/
def numD : PyData → Int
  | .int i => i
  | _ => 0
/-- the ints of a tuple -/
def intsD : PyData → List Int
  | .tuple ds => ds.map numD
  | _ => []
theorem num_of {d : PyData} {lo hi : Int} (h : isNum d lo hi = true) : d = .int (numD d) ∧ lo ≤ numD d ∧ numD d ≤ hi := by
  cases d with
  | int i =>
    have h' : (decide (lo ≤ i) && decide (i ≤ hi)) = true := h
    rw [Bool.and_eq_true, decide_eq_true_eq, decide_eq_true_eq] at h'
    exact ⟨rfl, h'⟩
  | _ => cases h
section
variable {P : Program} {w : World} {K : PySem.W.Frag} {mg : Str → Option Value} {base : Heap}
theorem ints_vs {M : Addr → Prop} {H : Hp} : ∀ {ls : List Int} {xs : List V}, DnAll M K H xs (ls.map PyData.int) → xs = ls.map V.int
  | [], _, h => by
    cases h
    rfl
  | l :: ls, _, h => by
    cases h with
    | cons h1 h2 =>
      cases h1
      rw [List.map_cons, ← ints_vs h2]
theorem st_isi {M : Addr → Prop} {H : Hp} {x : V} {d : PyData} {T : String} {b : Bool} {Q : VK} (hd : Dn M K H x d) (hk : kitB (tyD d) T = some b) (h : Q (.bl b) H) : rIsi K [x, .ty T] H Q := ⟨x, _, _, _, b, rfl, ClsV.ty _, hd.ty, kit_ty hk, h⟩
theorem itz_walk {a b : Addr} {xs ys : List V} {B : (Hp → Prop) → V → Hp → Prop} {H0 : Hp} {Qd : Hp → Prop} (hl : xs.length = ys.length) (Pv : Nat → Hp → Prop) (h0 : Pv 0 H0) (hq : ∀ i H, Pv i H → SqT K H a xs ∧ SqT K H b ys)
    (hs : ∀ (i : Nat) (x y : V) (T : Addr) (H : Hp), xs[i]? = some x → ys[i]? = some y → Pv i H → H T = none → B (Pv (i + 1)) (.ref T) (upd H T (.tup [x, y]))) (hd : ∀ H, Pv xs.length H → Qd H) :
    ∃ W : Nat → Nat → Hp → Prop, (∃ m, W 0 m H0) ∧ ∀ i m H, W i m H →
      ((RZ.ItzT K a b).stop i H ∧ Qd H) ∨ ((RZ.ItzT K a b).go i H ∧ ∃ Nx : Hp → Prop, (∀ H', Nx H' → ∃ m', m' < m ∧ W (i + 1) m' H') ∧ ∀ x H', (RZ.ItzT K a b).yld i H x H' → B Nx x H') := by
  refine ⟨fun i m H => m = xs.length - i ∧ i ≤ xs.length ∧ Pv i H, ⟨xs.length, rfl, Nat.zero_le _, h0⟩, ?_⟩
  rintro i m H ⟨rfl, hi, p⟩
  obtain ⟨qx, qy⟩ := hq i H p
  by_cases hlt : i < xs.length
  · have hx : xs[i]? = some xs[i] := List.getElem?_eq_getElem hlt
    have hlt2 : i < ys.length := by omega
    have hy : ys[i]? = some ys[i] := List.getElem?_eq_getElem hlt2
    refine .inr ⟨⟨xs, ys, _, _, qx, qy, hx, hy⟩, Pv (i + 1), fun H' p' => ⟨xs.length - (i + 1), by omega, rfl, hlt, p'⟩, fun v H' y => ?_⟩
    obtain ⟨T, x', y', rfl, hT, rfl, f1, f2⟩ := y
    exact hs i x' y' T H (f1 xs qx) (f2 ys qy) p hT
  · have e : i = xs.length := by omega
    subst e
    exact .inl ⟨⟨xs, ys, qx, qy, Or.inl (Nat.le_refl _)⟩, hd H p⟩
theorem itt_walk {a : Addr} {xs : List V} {B : (Hp → Prop) → V → Hp → Prop} {H0 : Hp} {Qd : Hp → Prop} (Pv : Nat → Hp → Prop) (h0 : Pv 0 H0) (hl : ∀ i H, i ≤ xs.length → Pv i H → SqT K H a xs)
    (hs : ∀ i x H, xs[i]? = some x → Pv i H → B (Pv (i + 1)) x H) (hd : ∀ H, Pv xs.length H → Qd H) :
    ∃ W : Nat → Nat → Hp → Prop, (∃ m, W 0 m H0) ∧ ∀ i m H, W i m H →
      ((Itt K a).stop i H ∧ Qd H) ∨ ((Itt K a).go i H ∧ ∃ Nx : Hp → Prop, (∀ H', Nx H' → ∃ m', m' < m ∧ W (i + 1) m' H') ∧ ∀ x H', (Itt K a).yld i H x H' → B Nx x H') := by
  refine ⟨fun i m H => m = xs.length - i ∧ i ≤ xs.length ∧ Pv i H, ⟨xs.length, by simp, Nat.zero_le _, h0⟩, ?_⟩
  rintro i m H ⟨rfl, hi, p⟩
  have q := hl i H hi p
  by_cases hlt : i < xs.length
  · refine .inr ⟨⟨xs, xs[i], q, by simp [hlt]⟩, Pv (i + 1), fun H' p' => ⟨xs.length - (i + 1), by omega, rfl, hlt, p'⟩, fun x H' y => ?_⟩
    obtain ⟨e, y⟩ := y
    subst e
    exact hs i x _ (y xs q) p
  · have e : i = xs.length := by omega
    subst e
    exact .inl ⟨⟨xs, q, Nat.le_refl _⟩, hd H p⟩
theorem itr_walk {lo : Int} {n : Nat} {B : (Hp → Prop) → V → Hp → Prop} {H0 : Hp} {Qd : Hp → Prop} (Pv : Nat → Hp → Prop) (h0 : Pv 0 H0)
    (hs : ∀ i H, i < n → Pv i H → B (Pv (i + 1)) (.int (lo + i)) H) (hd : ∀ H, Pv n H → Qd H) :
    ∃ W : Nat → Nat → Hp → Prop, (∃ m, W 0 m H0) ∧ ∀ i m H, W i m H →
      ((Itr lo n).stop i H ∧ Qd H) ∨ ((Itr lo n).go i H ∧ ∃ Nx : Hp → Prop, (∀ H', Nx H' → ∃ m', m' < m ∧ W (i + 1) m' H') ∧ ∀ x H', (Itr lo n).yld i H x H' → B Nx x H') := by
  refine ⟨fun i m H => m = n - i ∧ i ≤ n ∧ Pv i H, ⟨n, by simp, Nat.zero_le _, h0⟩, ?_⟩
  rintro i m H ⟨rfl, hi, p⟩
  by_cases hlt : i < n
  · refine .inr ⟨hlt, Pv (i + 1), fun H' p' => ⟨n - (i + 1), by omega, rfl, hlt, p'⟩, fun x H' y => ?_⟩
    obtain ⟨e, y⟩ := y
    subst e y
    exact hs i _ hlt p
  · have e : i = n := by omega
    subst e
    exact .inl ⟨Nat.le_refl _, hd H p⟩
theorem itl_walk {a : Addr} {xs : List V} {B : (Hp → Prop) → V → Hp → Prop} {H0 : Hp} {Qd : Hp → Prop} (Pv : Nat → Hp → Prop) (h0 : Pv 0 H0) (hl : ∀ i H, i ≤ xs.length → Pv i H → SqL K H a xs)
    (hs : ∀ i x H, xs[i]? = some x → Pv i H → B (Pv (i + 1)) x H) (hd : ∀ H, Pv xs.length H → Qd H) :
    ∃ W : Nat → Nat → Hp → Prop, (∃ m, W 0 m H0) ∧ ∀ i m H, W i m H →
      ((Itl K a).stop i H ∧ Qd H) ∨ ((Itl K a).go i H ∧ ∃ Nx : Hp → Prop, (∀ H', Nx H' → ∃ m', m' < m ∧ W (i + 1) m' H') ∧ ∀ x H', (Itl K a).yld i H x H' → B Nx x H') := by
  refine ⟨fun i m H => m = xs.length - i ∧ i ≤ xs.length ∧ Pv i H, ⟨xs.length, by simp, Nat.zero_le _, h0⟩, ?_⟩
  rintro i m H ⟨rfl, hi, p⟩
  have q := hl i H hi p
  by_cases hlt : i < xs.length
  · refine .inr ⟨⟨xs, xs[i], q, by simp [hlt]⟩, Pv (i + 1), fun H' p' => ⟨xs.length - (i + 1), by omega, rfl, hlt, p'⟩, fun x H' y => ?_⟩
    obtain ⟨e, y⟩ := y
    subst e
    exact hs i x _ (y xs q) p
  · have e : i = xs.length := by omega
    subst e
    exact .inl ⟨⟨xs, q, Nat.le_refl _⟩, hd H p⟩
theorem word_eqv (d : PyData) (x : Str) : PyData.eqv d (.str x) = match d with
    | .str y => decide (y = x)
    | _ => false := by
  cases d with
  | str y =>
    simp only [PyData.eqv]
    by_cases h : y = x
    · rw [decide_eq_true h, h]
      exact beq_self_eq_true x
    · rw [decide_eq_false h]
      exact beq_eq_false_iff_ne.mpr h
  | _ => simp [PyData.eqv]
end
def isStrB : PyData → Bool
  | .str _ => true
  | _ => false
theorem kit_str (d : PyData) : kitB (tyD d) "str" = some (isStrB d) := by cases d <;> (simp only [tyD, isStrB]; decide +kernel)
/-- what the law holds against what was told: tuples of numbers, None and the word -/
inductive Pl : PyData → Prop
  | non : Pl .none
  | int (i : Int) : Pl (.int i)
  | word : Pl (.str "task")
  | tup {ds : List PyData} : (∀ d ∈ ds, Pl d) → ds.length ≤ 1000 → Pl (.tuple ds)
theorem deep_mem : ∀ {ds : List PyData} {d : PyData}, d ∈ ds → d.depth ≤ PyData.depthAll ds
  | x :: ds, d, h => by
    simp only [PyData.depthAll]
    rcases List.mem_cons.mp h with rfl | h
    · omega
    · have := deep_mem h
      omega
section
variable {P : Program} {w : World} {K : PySem.W.Frag} {mg : Str → Option Value} {base : Heap}
theorem lt_small {n : Nat} (h : n ≤ 100000) : n < sizeLine := Nat.lt_of_le_of_lt h (by decide)
theorem le_sz {n : Nat} (h : n ≤ 100000) : n ≤ sizeLine := Nat.le_of_lt (lt_small h)
theorem hand_out {H0 : Hp} {h d p : Addr} {ds : List Int} {n : Nat} (x : Hand H0 h d ds n) (hp : H0 p = none) : p ≠ h ∧ p ≠ d := ⟨(ne_of_none x.1 hp).symm, (ne_of_none x.2 hp).symm⟩
/-! ### rows that are tuples of their own -/
def RT (H : Hp) (v : V) (r : List Int) : Prop := ∃ t, v = .ref t ∧ H t = some (.tup (r.map V.int))
theorem RT.stay {H H' : Hp} {v : V} {r : List Int} (s : TupsStay H H') (h : RT H v r) : RT H' v r := by
  obtain ⟨t, rfl, e⟩ := h
  exact ⟨t, rfl, s _ _ (.inl ⟨_, rfl⟩) e⟩
theorem RT.dt {H : Hp} {v : V} {r : List Int} (h : RT H v r) : Dt K H v (tupI r) := by
  obtain ⟨t, rfl, e⟩ := h
  exact .tup (SqT.of e) (DtAll.ints r)
inductive RTs (H : Hp) : List V → List (List Int) → Prop
  | nil : RTs H [] []
  | cons {v : V} {vs : List V} {r : List Int} {rs : List (List Int)} : RT H v r → RTs H vs rs → RTs H (v :: vs) (r :: rs)
theorem RTs.stay {H H' : Hp} (s : TupsStay H H') : ∀ {vs : List V} {rs : List (List Int)}, RTs H vs rs → RTs H' vs rs
  | _, _, .nil => .nil
  | _, _, .cons h a => .cons (h.stay s) (a.stay s)
theorem RTs.len {H : Hp} : ∀ {vs : List V} {rs : List (List Int)}, RTs H vs rs → vs.length = rs.length
  | _, _, .nil => rfl
  | _, _, .cons _ a => by rw [List.length_cons, List.length_cons, a.len]
theorem RTs.app {H : Hp} : ∀ {vs ws : List V} {rs qs : List (List Int)}, RTs H vs rs → RTs H ws qs → RTs H (vs ++ ws) (rs ++ qs)
  | _, _, _, _, .nil, b => b
  | _, _, _, _, .cons h a, b => .cons h (a.app b)
theorem RTs.dt {H : Hp} : ∀ {vs : List V} {rs : List (List Int)}, RTs H vs rs → DtAll K H vs (rs.map tupI)
  | _, _, .nil => .nil
  | _, _, .cons h a => .cons h.dt a.dt
theorem RTs.of {H : Hp} : ∀ {vs : List V} {rs : List (List Int)} {i : Nat} {v : V}, RTs H vs rs → vs[i]? = some v → ∃ r, rs[i]? = some r ∧ RT H v r
  | _, _, _, _, .nil, e => by simp at e
  | _, _, 0, _, .cons h _, e => by simp at e; subst e; exact ⟨_, rfl, h⟩
  | _, _, i + 1, _, .cons _ a, e => by simpa using a.of (i := i) (by simpa using e)
theorem RTs.at {H : Hp} : ∀ {vs : List V} {rs : List (List Int)} {i : Nat} {r : List Int}, RTs H vs rs → rs[i]? = some r → ∃ v, vs[i]? = some v ∧ RT H v r
  | _, _, _, _, .nil, e => by simp at e
  | _, _, 0, _, .cons h _, e => by simp at e; subst e; exact ⟨_, rfl, h⟩
  | _, _, i + 1, _, .cons _ a, e => by simpa using a.at (i := i) (by simpa using e)
/-- sets of labels: addresses of lists, of tuples -/
inductive SLs (S : Addr → List V → Prop) : List V → List (List Int) → Prop
  | nil : SLs S [] []
  | cons {a : Addr} {vs : List V} {r : List Int} {rs : List (List Int)} : S a (r.map V.int) → SLs S vs rs → SLs S (.ref a :: vs) (r :: rs)
theorem SLs.imp {S S' : Addr → List V → Prop} (s : ∀ a xs, S a xs → S' a xs) : ∀ {vs : List V} {rs : List (List Int)}, SLs S vs rs → SLs S' vs rs
  | _, _, .nil => .nil
  | _, _, .cons h a => .cons (s _ _ h) (a.imp s)
theorem SLs.len {S : Addr → List V → Prop} : ∀ {vs : List V} {rs : List (List Int)}, SLs S vs rs → vs.length = rs.length
  | _, _, .nil => rfl
  | _, _, .cons _ a => by rw [List.length_cons, List.length_cons, a.len]
theorem SLs.app {S : Addr → List V → Prop} : ∀ {vs ws : List V} {rs qs : List (List Int)}, SLs S vs rs → SLs S ws qs → SLs S (vs ++ ws) (rs ++ qs)
  | _, _, _, _, .nil, b => b
  | _, _, _, _, .cons h a, b => .cons h (a.app b)
theorem SLs.of {S : Addr → List V → Prop} : ∀ {vs : List V} {rs : List (List Int)} {i : Nat} {v : V}, SLs S vs rs → vs[i]? = some v → ∃ a r, v = .ref a ∧ rs[i]? = some r ∧ S a (r.map V.int)
  | _, _, _, _, .nil, e => by simp at e
  | _, _, 0, _, .cons h _, e => by simp at e; subst e; exact ⟨_, _, rfl, rfl, h⟩
  | _, _, i + 1, _, .cons _ a, e => by simpa using a.of (i := i) (by simpa using e)
theorem SLs.at {S : Addr → List V → Prop} : ∀ {vs : List V} {rs : List (List Int)} {i : Nat} {r : List Int}, SLs S vs rs → rs[i]? = some r → ∃ a, vs[i]? = some (.ref a) ∧ S a (r.map V.int)
  | _, _, _, _, .nil, e => by simp at e
  | _, _, 0, _, .cons h _, e => by simp at e; subst e; exact ⟨_, rfl, h⟩
  | _, _, i + 1, _, .cons _ a, e => by simpa using a.at (i := i) (by simpa using e)
theorem SLs.take {S : Addr → List V → Prop} : ∀ {vs : List V} {rs : List (List Int)} (n : Nat), SLs S vs rs → SLs S (vs.take n) (rs.take n)
  | _, _, 0, _ => .nil
  | _, _, _ + 1, .nil => .nil
  | _, _, n + 1, .cons h a => .cons h (a.take n)
theorem SLs.drop {S : Addr → List V → Prop} : ∀ {vs : List V} {rs : List (List Int)} (n : Nat), SLs S vs rs → SLs S (vs.drop n) (rs.drop n)
  | _, _, 0, a => a
  | _, _, _ + 1, .nil => .nil
  | _, _, n + 1, .cons _ a => a.drop n
theorem SLs.set {S : Addr → List V → Prop} {b : Addr} {q : List Int} (h : S b (q.map V.int)) : ∀ {vs : List V} {rs : List (List Int)} (n : Nat), SLs S vs rs → SLs S (vs.set n (.ref b)) (rs.set n q)
  | _, _, _, .nil => .nil
  | _, _, 0, .cons _ a => .cons h a
  | _, _, n + 1, .cons h' a => .cons h' (a.set h n)
/-! ### a + b of such rows -/
def rPlusT : R2 := fun x y H Q => ∃ a b xs ys, x = .ref a ∧ y = .ref b ∧ H a = some (.tup xs) ∧ H b = some (.tup ys) ∧ xs.length + ys.length ≤ sizeLine ∧ ∀ p H', Same H H' → H' p = some (.tup (xs ++ ys)) → Q (.ref p) H'
theorem op_plusT {X : Cx} : OpR X (binaryOp .Add) rPlusT := by
  intro pins s σ H x y v u Q inv rx ry want
  obtain ⟨a, b, xs, ys, rfl, rfl, ha, hb, hz, q⟩ := want
  refine op_catA pins s σ H _ _ v u Q inv rx ry ⟨a, b, xs, ys, rfl, rfl, SqT.of ha, SqT.of hb, hz, fun e => q b H (Same.refl H) ?_, fun _ e => q a H (Same.refl H) ?_, fun _ _ p hp => q p _ (same_new hp _) upd_same⟩
  · rw [e]
    exact hb
  · rw [e, List.append_nil]
    exact ha
/-- a list of rows that grows -/
structure AccT (H0 : Hp) (q : Addr) (rs : List (List Int)) (H : Hp) : Prop where
  free : H0 q = none
  same : Same H0 H
  ex : ∃ acc, H q = some (.lst acc) ∧ RTs H acc rs
theorem AccT.start {H0 : Hp} {q : Addr} (h : H0 q = none) : AccT H0 q [] (upd H0 q (.lst [])) := ⟨h, same_new h _, [], upd_same, .nil⟩
theorem AccT.step {H0 H H' : Hp} {q : Addr} {rs : List (List Int)} (a : AccT H0 q rs H) (s : Same H H') : AccT H0 q rs H' := by
  obtain ⟨acc, e, d⟩ := a.ex
  exact ⟨a.free, a.same.trans s, acc, s _ _ e, d.stay s.tups⟩
theorem AccT.push {H0 H : Hp} {q : Addr} {rs : List (List Int)} {v : V} {r : List Int} (a : AccT H0 q rs H) (hv : RT H v r) : ∃ acc, H q = some (.lst acc) ∧ acc.length = rs.length ∧ AccT H0 q (rs ++ [r]) (upd H q (.lst (acc ++ [v]))) := by
  obtain ⟨acc, e, d0⟩ := a.ex
  have t := tups_lst (ys := acc ++ [v]) e
  exact ⟨acc, e, d0.len, a.free, same_own a.same a.free _, _, upd_same, (d0.stay t).app (.cons (hv.stay t) .nil)⟩
theorem eqv_all_i : ∀ a b : List Int, PyData.eqvAll (a.map PyData.int) (b.map PyData.int) = decide (a = b)
  | [], [] => by simp [PyData.eqvAll]
  | [], _ :: _ => by simp [PyData.eqvAll]
  | _ :: _, [] => by simp [PyData.eqvAll]
  | x :: a, y :: b => by
    rw [List.map_cons, List.map_cons, PyData.eqvAll, eqv_all_i a b]
    simp only [PyData.eqv]
    by_cases h : x = y
    · subst h
      simp
    · simp [h]
theorem eqv_i (a b : List Int) : PyData.eqv (tupI a) (tupI b) = decide (a = b) := by
  unfold tupI
  simp only [PyData.eqv]
  exact eqv_all_i a b
theorem any_i (rs : List (List Int)) (r : List Int) : ((rs.map tupI).any fun z => PyData.eqv z (tupI r)) = decide (r ∈ rs) := by
  rw [List.any_map]
  have e : ((fun z => PyData.eqv z (tupI r)) ∘ tupI) = fun a => decide (a = r) := by
    funext a
    exact eqv_i a r
  rw [e]
  induction rs with
  | nil => simp
  | cons a rs ih =>
    rw [List.any_cons, ih]
    by_cases h : a = r
    · simp [h]
    · have h' : ¬ r = a := fun z => h z.symm
      simp [h, h']
theorem lay_i : ∀ a : List Int, PyData.canLayAll0 (a.map PyData.int) = true
  | [] => by simp [PyData.canLayAll0]
  | x :: a => by
    rw [List.map_cons, PyData.canLayAll0, lay_i a]
    simp [PyData.canLay0]
theorem lay_t : ∀ rs : List (List Int), PyData.canLayAll0 (rs.map tupI) = true
  | [] => by simp [PyData.canLayAll0]
  | x :: a => by
    rw [List.map_cons, PyData.canLayAll0, lay_t a]
    unfold tupI
    simp only [PyData.canLay0]
    rw [lay_i]
    rfl
theorem dep_t : ∀ rs : List (List Int), PyData.depthAll (rs.map tupI) ≤ 1
  | [] => by simp [PyData.depthAll]
  | x :: a => by
    have := dep_t a
    rw [List.map_cons, PyData.depthAll, row_depth]
    omega
theorem shaped_i (r : List Int) : SeqAt.shaped (tupI r) = true := by
  unfold SeqAt.shaped
  rw [row_depth]
  unfold tupI
  simp only [PyData.canLay0]
  rw [lay_i]
  rfl
theorem shaped_l (rs : List (List Int)) : SeqAt.shaped (.list (rs.map tupI)) = true := by
  have e : (PyData.list (rs.map tupI)).depth ≤ 64 := by
    simp only [PyData.depth]
    have := dep_t rs
    omega
  unfold SeqAt.shaped
  rw [decide_eq_true e, Bool.and_true]
  simp only [PyData.canLay0]
  exact lay_t rs
theorem intsD_t (ns : List Int) : intsD (tupI ns) = ns := by
  show (ns.map PyData.int).map numD = ns
  rw [List.map_map]
  exact List.map_id'' (fun x => rfl) ns
theorem inV_int (z : Int) : ∀ ns : List Int, inV (.int z) (ns.map V.int) = decide (z ∈ ns)
  | [] => rfl
  | y :: ns => by
    have ih := inV_int z ns
    unfold inV at ih ⊢
    rw [List.map_cons, List.any_cons, ih]
    show (decide (y = z) || _) = _
    by_cases e : y = z
    · subst e
      simp
    · have e' : ¬ z = y := fun q => e q.symm
      simp [e, e']
theorem flat_ints (ns : List Int) : (ns.map V.int).all flatV = true := by simp [flatV]
/-- tuple(l) of a list; list(t) of a tuple -/
def rTupOfL (K : PySem.W.Frag) : List V → Hp → VK → Prop := fun vs H Q => ∃ (a : Addr) (xs : List V), vs = [.ref a] ∧ SqL K H a xs ∧ ∀ p, H p = none → Q (.ref p) (upd H p (.tup xs))
theorem call_tupL {X : Cx} : CallR X (.type "tuple") (rTupOfL X.K) := fun pins s σ H vs us Q J r want => by
  obtain ⟨a, xs, rfl, h1, q⟩ := want
  exact call_tuple_of pins s σ H _ us Q J r ⟨a, xs, rfl, .inl ⟨h1, q⟩⟩
def rListOfT (K : PySem.W.Frag) : List V → Hp → VK → Prop := fun vs H Q => ∃ (a : Addr) (xs : List V), vs = [.ref a] ∧ SqT K H a xs ∧ ∀ p, H p = none → Q (.ref p) (upd H p (.lst xs))
theorem call_listT {X : Cx} : CallR X (.type "list") (rListOfT X.K) := fun pins s σ H vs us Q J r want => by
  obtain ⟨a, xs, rfl, h1, q⟩ := want
  exact call_list_of pins s σ H _ us Q J r ⟨a, xs, rfl, .inr h1, q⟩
/-- x not in t -/
def rNotInTD (K : PySem.W.Frag) : R2 := fun x y H Q => ∃ d ds, Dp K H x d ∧ Dp K H y (.tuple ds) ∧ SeqAt.shaped d = true ∧ SeqAt.shaped (.list ds) = true ∧ Q (.bl (!ds.any fun z => PyData.eqv z d)) H
theorem op_notInTD {X : Cx} (hu : X.A.units + 65 < cLine) : OpR X (compareOp .NotIn) (rNotInTD X.K) := by
  intro pins s σ H x y v u Q J rx ry want
  obtain ⟨d, ds, hd, he, sd, se, q⟩ := want
  obtain ⟨as, r1⟩ := Dp.reads J d x v hd rx
  obtain ⟨bs, r2⟩ := Dp.reads J (.tuple ds) y u he ry
  exact SeqAt.notIn_tuple_reads r2 r1 (SeqAt.canLay_of_shaped se) (SeqAt.canLay_of_shaped sd) (room_in_shaped sd hu) ⟨.bl _, H, J, rfl, q⟩
theorem RT.dp {H : Hp} {v : V} {r : List Int} (h : RT H v r) : Dp K H v (tupI r) := by
  obtain ⟨t, rfl, e⟩ := h
  exact dp_row (SqT.of e)
theorem any_rows (rs : List (List Int)) (r : List Int) : ((rs.map tupI).any fun z => PyData.eqv z (tupI r)) = decide (r ∈ rs) := any_i rs r
theorem go_own {M : Addr → Prop} {H0 H : Hp} {q : Addr} (g : Go M H0 H) (f : H0 q = none) {xs : List V} (e : H q = some (.lst xs)) (ys : List V) : Go M H0 (upd H q (.lst ys)) :=
  ⟨fun b o n h => by
    have ne : b ≠ q := fun z => by
      rw [z, f] at h
      cases h
    rw [upd_ne ne]
    exact g.out b o n h, g.tups.trans (tups_lst e)⟩
/-- a list of data that grows -/
structure AccD (K : PySem.W.Frag) (H0 : Hp) (q : Addr) (rs : List PyData) (H : Hp) : Prop where
  free : H0 q = none
  same : Same H0 H
  ex : ∃ acc, H q = some (.lst acc) ∧ DtAll K H acc rs
theorem AccD.start {H0 : Hp} {q : Addr} (h : H0 q = none) : AccD K H0 q [] (upd H0 q (.lst [])) := ⟨h, same_new h _, [], upd_same, .nil⟩
theorem AccD.step {H0 H H' : Hp} {q : Addr} {rs : List PyData} (a : AccD K H0 q rs H) (s : Same H H') : AccD K H0 q rs H' := by
  obtain ⟨acc, e, d⟩ := a.ex
  exact ⟨a.free, a.same.trans s, acc, s _ _ e, d.stay s.tups⟩
theorem AccD.push {H0 H : Hp} {q : Addr} {rs : List PyData} {v : V} {r : PyData} (a : AccD K H0 q rs H) (hv : Dt K H v r) : ∃ acc, H q = some (.lst acc) ∧ acc.length = rs.length ∧ AccD K H0 q (rs ++ [r]) (upd H q (.lst (acc ++ [v]))) := by
  obtain ⟨acc, e, d0⟩ := a.ex
  have t := tups_lst (ys := acc ++ [v]) e
  exact ⟨acc, e, d0.len, a.free, same_own a.same a.free _, _, upd_same, (d0.stay t).app (.cons (hv.stay t) .nil)⟩
/-- a list of ints that grows -/
structure AccI (H0 : Hp) (q : Addr) (ns : List Int) (H : Hp) : Prop where
  free : H0 q = none
  same : Same H0 H
  ex : H q = some (.lst (ns.map V.int))
theorem AccI.start {H0 : Hp} {q : Addr} (h : H0 q = none) : AccI H0 q [] (upd H0 q (.lst [])) := ⟨h, same_new h _, upd_same⟩
theorem AccI.step {H0 H H' : Hp} {q : Addr} {ns : List Int} (a : AccI H0 q ns H) (s : Same H H') : AccI H0 q ns H' := ⟨a.free, a.same.trans s, s _ _ a.ex⟩
theorem AccI.push {H0 H : Hp} {q : Addr} {ns : List Int} (a : AccI H0 q ns H) (z : Int) : AccI H0 q (ns ++ [z]) (upd H q (.lst (ns.map V.int ++ [V.int z]))) :=
  ⟨a.free, same_own a.same a.free _, by rw [upd_same, List.map_append]; rfl⟩
theorem AccI.fin {H0 H : Hp} {q : Addr} {ns : List Int} {z : Int} {N : Hp → Prop} (a : AccI H0 q ns H) (few : ns.length ≤ 100000) (h : ∀ H', AccI H0 q (ns ++ [z]) H' → N H') : ∃ acc, H q = some (.lst acc) ∧ acc.length < sizeLine ∧ N (upd H q (.lst (acc ++ [V.int z]))) :=
  ⟨_, a.ex, lt_small (by rw [List.length_map]; exact few), h _ (a.push z)⟩
theorem AccT.fin {H0 H : Hp} {q : Addr} {rs : List (List Int)} {v : V} {r : List Int} {N : Hp → Prop} (a : AccT H0 q rs H) (hv : RT H v r) (few : rs.length ≤ 100000) (h : ∀ H', AccT H0 q (rs ++ [r]) H' → N H') : ∃ acc, H q = some (.lst acc) ∧ acc.length < sizeLine ∧ N (upd H q (.lst (acc ++ [v]))) := by
  obtain ⟨ac, e, l, a4⟩ := a.push hv
  exact ⟨ac, e, lt_small (by omega), h _ a4⟩
theorem AccD.fin {H0 H : Hp} {q : Addr} {rs : List PyData} {v : V} {r : PyData} {N : Hp → Prop} (a : AccD K H0 q rs H) (hv : Dt K H v r) (few : rs.length ≤ 100000) (h : ∀ H', AccD K H0 q (rs ++ [r]) H' → N H') : ∃ acc, H q = some (.lst acc) ∧ acc.length < sizeLine ∧ N (upd H q (.lst (acc ++ [v]))) := by
  obtain ⟨ac, e, l, a4⟩ := a.push hv
  exact ⟨ac, e, lt_small (by omega), h _ a4⟩
end
/-! ### the draws that the law makes of the script -/
section
variable {P : Program} {w : World} {K : PySem.W.Frag} {mg : Str → Option Value} {base : Heap}
/-- a new list of as many small numbers as are asked -/
def spDraws (K : PySem.W.Frag) : Sp := fun vs H Q _ => ∃ (a : Addr) (ns : List Int) (m : Nat), vs = [.ref a, .int m] ∧ SqL K H a (ns.map V.int) ∧ ns.length ≤ 63 ∧ m ≤ 2000 ∧
  ∀ (p : Addr) (H' : Hp) (ds : List Int), H p = none → Same H H' → H' p = some (.lst (ds.map V.int)) → ds.length = m → (∀ d ∈ ds, 0 ≤ d ∧ d < 2 ^ 31) → Q (.ref p) H'
theorem ok_draws {f : Addr} {fd : FuncData} (B : Blt mg) (F : Fun K "_law_draws" "_law_draws" s_law_draws f fd) : FnOk P w K mg base CX0 1 f fd ["script", "many"] (spDraws K) := by
  have sc : FnScope ["script", "many", "rests", "draws", "k", "cell", "mixed", "at"] ["script", "many"] (defScope s_law_draws) := ⟨rfl, rfl, rfl, by decide +kernel, rfl, by decide +kernel, by decide +kernel⟩
  refine F.ok sc (fun vs H Q E h => ?_) (fun cdv A outer s H vs Q E hr h => ?_)
  · obtain ⟨a, ns, m, rfl, _⟩ := h
    rfl
  obtain ⟨a, ns, m, rfl, hS, h63, hm, k⟩ := h
  refine ⟨_, (pss_cons (ps_setLc (i := 2) (own := [("cell", 5)]) (g := gName 5) (tt := tYes) rfl sc.nd rfl rfl (sw_true rfl rfl rfl (by decide +kernel)) (pi_list (pv 0)) (blkOk_by (N := ["script", "many", "rests", "draws", "k", "cell", "mixed", "at"]) (sc := defScope s_law_draws) (by decide +kernel)) (fun _ _ _ _ _ => pg_name (i := 5) sc.nd rfl (Or.inl rfl)) (fun _ _ _ _ _ => pts_nil) (fun _ _ _ _ _ => (pe_callB call_abs (by rfl) B.abs (by decide +kernel) (pa_cons (pe_callTy call_int1 (by rfl) B.int (by decide +kernel) (pa_cons (pv 5) pa_nil)) pa_nil))))
    (pss_cons (ps_set (i := 3) sc.nd rfl (Or.inl rfl) (pe_lst pa_nil))
    (pss_cons (ps_for PassesOwn.never rfl (pi_range1 (by rfl) B.range (pa_cons (pv 1) pa_nil)) (pg_name (i := 4) sc.nd rfl (Or.inl rfl))
      (pss_cons (ps_set (i := 5) sc.nd rfl (Or.inl rfl) (pv 4))
      (pss_cons (ps_if (pt_cmpR op_gt (pe_callB call_len_seq (by rfl) B.len (by decide +kernel) (pa_cons (pv 0) pa_nil)) pe_int (nomark _))
        (pss_cons (ps_set (i := 7) sc.nd rfl (Or.inl rfl) (pe_op op_mod (pv 4) (pe_callB call_len_seq (by rfl) B.len (by decide +kernel) (pa_cons (pv 0) pa_nil))))
        (pss_cons (ps_set (i := 5) sc.nd rfl (Or.inl rfl) (pe_callTy call_int1 (by rfl) B.int (by decide +kernel) (pa_cons (pe_ix ix_list (pv 0) (pv 7) (fun _ _ => rfl)) pa_nil)))
        (pss_one (ps_if (PW.pt (pw_and (pt_cmpR op_ge (pv 5) (pe_op op_pow pe_int pe_int) (nomark _)) (pw_and1 (pt_cmpR op_gt (pe_ix ix_list (pv 2) (pv 7) (fun _ _ => rfl)) pe_int (nomark _)))))
          (pss_cons (ps_expr (pe_bm PySem.F.plainAttrs_list PySem.F.slot_list_append PySem.F.type_list_append mt_append (pv 3) (pa_cons (pe_op op_mod (pe_callTy call_int1 (by rfl) B.int (by decide +kernel) (pa_cons (pe_ix ix_list (pv 2) (pv 7) (fun _ _ => rfl)) pa_nil)) pe_int) pa_nil)))
          (pss_cons (ps_asg (pe_op op_fdiv (pe_callTy call_int1 (by rfl) B.int (by decide +kernel) (pa_cons (pe_ix ix_list (pv 2) (pv 7) (fun _ _ => rfl)) pa_nil)) pe_int) (pg_sub (pv 2) (pv 7) set_list))
          (pss_one ps_continue)))
          pss_nil))))
        pss_nil)
      (pss_cons (ps_set (i := 6) sc.nd rfl (Or.inl rfl) (pe_op op_mod (pe_callTy call_int1 (by rfl) B.int (by decide +kernel) (pa_cons (pe_op op_add (pe_op op_add (pe_op op_mul (pv 5) pe_int) (pe_op op_mul (pv 4) pe_int)) pe_int) pa_nil)) pe_int))
      (pss_cons (ps_set (i := 6) sc.nd rfl (Or.inl rfl) (pe_op op_mod (pe_callTy call_int1 (by rfl) B.int (by decide +kernel) (pa_cons (pe_op op_add (pe_op op_fdiv (pe_op op_mul (pv 6) (pv 6)) pe_int) (pv 6)) pa_nil)) pe_int))
      (pss_one (ps_expr (pe_bm PySem.F.plainAttrs_list PySem.F.slot_list_append PySem.F.type_list_append mt_append (pv 3) (pa_cons (pe_op op_mod (pe_callTy call_int1 (by rfl) B.int (by decide +kernel) (pa_cons (pe_op op_add (pe_op op_fdiv (pe_op op_mul (pv 6) (pv 6)) pe_int) (pe_op op_mul (pv 4) pe_int)) pa_nil)) pe_int) pa_nil)))))))))
    (pss_one (ps_ret (pv 3)))))), ?_⟩
  -- rests
  refine ⟨_, rfl, a, rfl, ⟨_, hS⟩, fun r hr0 => ?_⟩
  refine lc_list (K := K) (a := a) (xs := ns.map V.int) (fun i H' => ∃ acc : List Int, acc.length = i ∧ H' r = some (.lst (acc.map V.int)) ∧ Same H H')
    ⟨[], rfl, upd_same, same_new hr0 _⟩ (fun i H' _ ⟨_, _, _, s⟩ => s.seq hS) ?_ ?_
  · rintro i y H' hi ⟨acc, hl, hD, s⟩
    obtain ⟨z, hz, rfl⟩ := item_of hi
    have hi63 : i < ns.length := (List.getElem?_eq_some_iff.mp hz).1
    refine ⟨rfl, ?_⟩

    refine ⟨_, rfl, .inl ⟨_, rfl, _, rfl, _, hD, small1000 (by rw [List.length_map]; omega), acc ++ [if z < 0 then -z else z], by simp [hl], ?_, same_own s hr0 _⟩⟩
    rw [upd_same, List.map_append]
    rfl
  rintro H1 ⟨rs, hrs, hr1, s1⟩
  rw [List.length_map] at hrs
  -- draws
  refine ⟨Nat.zero_le _, fun p hp1 => ?_⟩
  have hp0 : H p = none := s1.free hp1
  have npr : r ≠ p := ne_of_none hr1 hp1
  -- the loop
  refine ⟨_, rfl, (m : Int), rfl, by omega, by omega, for_range (lo := 0) (n := (m : Int).toNat) (fun i σ H' => ∃ (ds rs : List Int) (kv cv mv av : Option V), σ = [some (.ref a), some (.int m), some (.ref r), some (.ref p), kv, cv, mv, av] ∧
      H' r = some (.lst (rs.map V.int)) ∧ H' p = some (.lst (ds.map V.int)) ∧ rs.length = ns.length ∧ ds.length = i ∧ (∀ d ∈ ds, 0 ≤ d ∧ d < 2 ^ 31) ∧ Same H H')
    ⟨[], rs, none, none, none, none, rfl, by rw [upd_ne npr]; exact hr1, upd_same, hrs, rfl, by simp, same_own s1 hp0 _⟩ ?_ ?_⟩
  · rintro i σ H' hi ⟨ds, rs, kv, cv, mv, av, rfl, hr', hp', hrl, hdl, hb, s⟩
    have hi2 : ds.length < 2000 := by omega
    have grown : ∀ (d : Int), 0 ≤ d → d < 2 ^ 31 → ∀ z ∈ ds ++ [d], 0 ≤ z ∧ z < 2 ^ 31 := fun d h0 h1 z hz => by
      rcases List.mem_append.mp hz with q | q
      · exact hb z q
      · rw [List.mem_singleton.mp q]
        exact ⟨h0, h1⟩
    have put : ∀ (d : Int), (upd H' p (.lst (ds.map V.int ++ [V.int d]))) p = some (.lst ((ds ++ [d]).map V.int)) := fun d => by
      rw [upd_same, List.map_append]
      rfl
    have room : (ds.map V.int).length < sizeLine := by rw [List.length_map]; exact Nat.lt_trans hi2 (by decide)
    have m48 : -(2 ^ 64) < (48271 : Int) ∧ (48271 : Int) < 2 ^ 64 := by decide
    have m69 : -(2 ^ 64) < (69621 : Int) ∧ (69621 : Int) < 2 ^ 64 := by decide
    have m79 : -(2 ^ 64) < (7919 : Int) ∧ (7919 : Int) < 2 ^ 64 := by decide
    have b1 : ∀ x : Int, -(2 ^ 64) < x % 2147483647 ∧ x % 2147483647 < 2 ^ 64 := fun x => by omega
    have b2 : ∀ x : Int, -(2 ^ 64) < x % 2147483629 ∧ x % 2147483629 < 2 ^ 64 := fun x => by omega
    refine ⟨_, rfl, ?_⟩
    refine ⟨_, rfl, a, _, rfl, .inl (s.seq hS), _, _, rfl, rfl, _, rfl, ?_⟩
    refine ite2 (fun c => ?_) (fun c => ?_)
    · have c' := dec_t c
      rw [List.length_map] at c'
      have m0 : 0 ≤ (0 + (i : Int)) % (ns.length : Int) := Int.emod_nonneg _ (by omega)
      have m1 : (0 + (i : Int)) % (ns.length : Int) < (ns.length : Int) := Int.emod_lt_of_pos _ c'
      obtain ⟨z, _, _, hz⟩ := at_int m0 m1
      obtain ⟨y, hy0, _, hy⟩ := at_int (ns := rs) m0 (by rw [hrl]; exact m1)
      refine ⟨_, rfl, _, rfl, a, _, rfl, .inl (s.seq hS), _, _, rfl, rfl, (by rw [List.length_map]; exact c'), ?_⟩
      rw [List.length_map]
      refine ⟨_, rfl, _, rfl, a, _, _, _, rfl, rfl, s.seq hS, hz, .inl ⟨_, rfl, ?_⟩⟩
      refine ⟨_, rfl, _, _, rfl, rfl, ⟨by decide, by decide, by decide⟩, _, _, rfl, rfl, _, rfl, ?_⟩
      refine ite2 (fun _ => ?_) (fun _ => ?_)
      · refine ⟨_, rfl, _, rfl, r, _, _, _, rfl, rfl, SqL.of hr', hy, _, _, rfl, rfl, _, rfl, ?_⟩
        refine ite2 (fun _ => ?_) (fun _ => ?_)
        · refine ⟨_, rfl, .inl ⟨rfl, _, SqL.of hp'⟩, _, rfl, _, rfl, r, _, _, _, rfl, rfl, SqL.of hr', hy, .inl ⟨_, rfl, _, _, rfl, rfl, (by show (0 : Int) < 1000003; decide), p, _, _, rfl, rfl, hp', room, ?_⟩⟩
          have hr2 : (upd H' p (.lst (ds.map V.int ++ [V.int (y % 1000003)]))) r = some (.lst (rs.map V.int)) := by rw [upd_ne npr]; exact hr'
          refine ⟨_, rfl, _, rfl, r, _, _, _, rfl, rfl, SqL.of hr2, hy, .inl ⟨_, rfl, _, _, rfl, rfl, ⟨by decide, by decide⟩, _, rfl, _, rfl, r, _, _, ((0 + (i : Int)) % (ns.length : Int)).toNat, rfl, rfl, hr2, ix_of m0 (by rw [List.length_map, hrl]; exact m1), ?_⟩⟩
          refine ⟨ds ++ [y % 1000003], rs.set ((0 + (i : Int)) % (ns.length : Int)).toNat (y / 1000003), _, _, _, _, rfl, ?_, ?_, by rw [List.length_set]; exact hrl, by rw [List.length_append, List.length_singleton]; omega, grown _ (Int.emod_nonneg _ (by decide)) (Int.lt_trans (Int.emod_lt_of_pos _ (by decide)) (by decide)), same_own (same_own s hp0 _) hr0 _⟩
          · rw [upd_same, List.map_set]
          · rw [upd_ne npr.symm]
            exact put _
        · refine ⟨_, rfl, _, _, rfl, rfl, .inr m48, _, rfl, _, _, rfl, rfl, .inr m69, _, _, rfl, rfl, _, _, rfl, rfl, .inl ⟨_, rfl, _, _, rfl, rfl, (by show (0 : Int) < 2147483647; decide), ?_⟩⟩
          refine ⟨_, rfl, _, rfl, _, _, rfl, rfl, .inl (b1 _), _, _, rfl, rfl, ⟨by decide, by decide⟩, _, rfl, _, _, rfl, rfl, .inl ⟨_, rfl, _, _, rfl, rfl, (by show (0 : Int) < 2147483629; decide), ?_⟩⟩
          refine ⟨_, rfl, .inl ⟨rfl, _, SqL.of hp'⟩, _, rfl, _, rfl, _, _, rfl, rfl, .inl (b2 _), _, _, rfl, rfl, ⟨by decide, by decide⟩, _, rfl, _, _, rfl, rfl, .inr m79, _, _, rfl, rfl, .inl ⟨_, rfl, _, _, rfl, rfl, (by show (0 : Int) < 2147483629; decide), p, _, _, rfl, rfl, hp', room, ?_⟩⟩
          exact ⟨ds ++ [_], rs, _, _, _, _, rfl, by rw [upd_ne npr]; exact hr', put _, hrl, by rw [List.length_append, List.length_singleton]; omega, grown _ (Int.emod_nonneg _ (by decide)) (Int.lt_trans (Int.emod_lt_of_pos _ (by decide)) (by decide)), same_own s hp0 _⟩
      · refine ⟨_, rfl, _, _, rfl, rfl, .inr m48, _, rfl, _, _, rfl, rfl, .inr m69, _, _, rfl, rfl, _, _, rfl, rfl, .inl ⟨_, rfl, _, _, rfl, rfl, (by show (0 : Int) < 2147483647; decide), ?_⟩⟩
        refine ⟨_, rfl, _, rfl, _, _, rfl, rfl, .inl (b1 _), _, _, rfl, rfl, ⟨by decide, by decide⟩, _, rfl, _, _, rfl, rfl, .inl ⟨_, rfl, _, _, rfl, rfl, (by show (0 : Int) < 2147483629; decide), ?_⟩⟩
        refine ⟨_, rfl, .inl ⟨rfl, _, SqL.of hp'⟩, _, rfl, _, rfl, _, _, rfl, rfl, .inl (b2 _), _, _, rfl, rfl, ⟨by decide, by decide⟩, _, rfl, _, _, rfl, rfl, .inr m79, _, _, rfl, rfl, .inl ⟨_, rfl, _, _, rfl, rfl, (by show (0 : Int) < 2147483629; decide), p, _, _, rfl, rfl, hp', room, ?_⟩⟩
        exact ⟨ds ++ [_], rs, _, _, _, _, rfl, by rw [upd_ne npr]; exact hr', put _, hrl, by rw [List.length_append, List.length_singleton]; omega, grown _ (Int.emod_nonneg _ (by decide)) (Int.lt_trans (Int.emod_lt_of_pos _ (by decide)) (by decide)), same_own s hp0 _⟩
    · refine ⟨_, rfl, _, _, rfl, rfl, .inr m48, _, rfl, _, _, rfl, rfl, .inr m69, _, _, rfl, rfl, _, _, rfl, rfl, .inl ⟨_, rfl, _, _, rfl, rfl, (by show (0 : Int) < 2147483647; decide), ?_⟩⟩
      refine ⟨_, rfl, _, rfl, _, _, rfl, rfl, .inl (b1 _), _, _, rfl, rfl, ⟨by decide, by decide⟩, _, rfl, _, _, rfl, rfl, .inl ⟨_, rfl, _, _, rfl, rfl, (by show (0 : Int) < 2147483629; decide), ?_⟩⟩
      refine ⟨_, rfl, .inl ⟨rfl, _, SqL.of hp'⟩, _, rfl, _, rfl, _, _, rfl, rfl, .inl (b2 _), _, _, rfl, rfl, ⟨by decide, by decide⟩, _, rfl, _, _, rfl, rfl, .inr m79, _, _, rfl, rfl, .inl ⟨_, rfl, _, _, rfl, rfl, (by show (0 : Int) < 2147483629; decide), p, _, _, rfl, rfl, hp', room, ?_⟩⟩
      exact ⟨ds ++ [_], rs, _, _, _, _, rfl, by rw [upd_ne npr]; exact hr', put _, hrl, by rw [List.length_append, List.length_singleton]; omega, grown _ (Int.emod_nonneg _ (by decide)) (Int.lt_trans (Int.emod_lt_of_pos _ (by decide)) (by decide)), same_own s hp0 _⟩
  · rintro σ H' ⟨ds, rs, kv, cv, mv, av, rfl, hr', hp', hrl, hdl, hb, s⟩
    exact ⟨_, rfl, k p H' ds hp0 s hp' (by omega) hb⟩
/-- the next draw, below many; the place goes on by one -/
def spTake (K : PySem.W.Frag) : Sp := fun vs H Q _ => ∃ (h d : Addr) (ds : List Int) (i : Nat) (m : Int), vs = [.ref h, .int m] ∧ H h = some (.lst [.ref d, .int i]) ∧ H d = some (.lst (ds.map V.int)) ∧ 0 < m ∧ m < 1000000 ∧
  ∀ r : Int, 0 ≤ r → r < m → Q (.int r) (upd H h (.lst [.ref d, .int ((i + 1 : Nat) : Int)]))
theorem ok_take {f : Addr} {fd : FuncData} (B : Blt mg) (F : Fun K "_law_take" "_law_take" s_law_take f fd) : FnOk P w K mg base CX0 1 f fd ["hand", "many"] (spTake K) := by
  have sc : FnScope ["hand", "many", "at", "draws"] ["hand", "many"] (defScope s_law_take) := ⟨rfl, rfl, rfl, by decide +kernel, rfl, by decide +kernel, by decide +kernel⟩
  refine F.ok sc (fun vs H Q E h => ?_) (fun cdv A outer s H vs Q E hr h => ?_)
  · obtain ⟨h, d, ds, i, m, rfl, _⟩ := h
    rfl
  obtain ⟨h, d, ds, i, m, rfl, hh, hd, m0, m1, k⟩ := h
  refine ⟨_, (pss_cons (ps_set (i := 2) sc.nd rfl (Or.inl rfl) (pe_ix ix_list (pv 0) pe_int (fun _ _ => rfl)))
    (pss_cons (ps_asg (pe_op op_add (pv 2) pe_int) (pg_sub (pv 0) pe_int set_list))
    (pss_cons (ps_set (i := 3) sc.nd rfl (Or.inl rfl) (pe_ix ix_list (pv 0) pe_int (fun _ _ => rfl)))
    (pss_cons (ps_if (pt_cmpR op_ge (pv 2) (pe_callB call_len_seq (by rfl) B.len (by decide +kernel) (pa_cons (pv 3) pa_nil)) (nomark _))
      (pss_one (ps_ret pe_int))
      pss_nil)
    (pss_one (ps_ret (pe_op op_mod (pe_op op_fdiv (pe_callTy call_int1 (by rfl) B.int (by decide +kernel) (pa_cons (pe_ix ix_list (pv 3) (pv 2) (fun _ _ => rfl)) pa_nil)) pe_int) (pv 1)))))))), ?_⟩
  have ndh : d ≠ h := by
    rintro rfl
    rw [hh] at hd
    cases ds with
    | nil => cases hd
    | cons z ds => cases hd
  refine ⟨_, rfl, h, _, _, _, rfl, rfl, SqL.of hh, at_of (j := 1) rfl rfl, ?_⟩
  refine ⟨_, rfl, _, _, rfl, rfl, _, rfl, h, _, _, 1, rfl, rfl, hh, by rfl, ?_⟩
  refine ⟨_, rfl, h, _, _, _, rfl, rfl, SqL.of upd_same, at_of (j := 0) rfl rfl, ?_⟩
  have hd2 : (upd H h (.lst ([V.ref d, V.int (i : Int)].set 1 (.int ((i : Int) + 1))))) d = some (.lst (ds.map V.int)) := by rw [upd_ne ndh]; exact hd
  refine ⟨_, rfl, _, rfl, d, _, rfl, .inl (SqL.of hd2), _, _, rfl, rfl, _, rfl, ?_⟩
  have q : ∀ r : Int, 0 ≤ r → r < m → Q (.int r) (upd H h (.lst ([V.ref d, V.int (i : Int)].set 1 (.int ((i : Int) + 1))))) := k
  refine ite2 (fun _ => q 0 (by decide) m0) (fun c => ?_)
  have c' := dec_f c
  rw [List.length_map] at c'
  obtain ⟨z, _, _, hz⟩ := at_int (ns := ds) (i := (i : Int)) (by omega) (by omega)
  exact ⟨_, rfl, _, rfl, d, _, _, _, rfl, rfl, SqL.of hd2, hz, .inl ⟨_, rfl, _, _, rfl, rfl, ⟨by decide, by decide⟩, _, rfl, _, _, rfl, rfl, m0, q _ (Int.emod_nonneg _ (by omega)) (Int.emod_lt_of_pos _ m0)⟩⟩
end
section
variable {P : Program} {w : World} {K : PySem.W.Frag} {mg : Str → Option Value} {base : Heap}
def spNumber (K : PySem.W.Frag) : Sp := fun vs H Q _ => ∃ (M : Addr → Prop) (x : V) (d : PyData) (lo hi : Int), vs = [x, .int lo, .int hi] ∧ Dn M K H x d ∧ Q (.bl (isNum d lo hi)) H
theorem ok_number {f : Addr} {fd : FuncData} (B : Blt mg) (F : Fun K "is_number" "is_number" sis_number f fd) : FnOk P w K mg base CX0 1 f fd ["value", "low", "high"] (spNumber K) := by
  have sc : FnScope ["value", "low", "high"] ["value", "low", "high"] (defScope sis_number) := ⟨rfl, rfl, rfl, by decide +kernel, rfl, by decide +kernel, by decide +kernel⟩
  refine F.ok sc (fun vs H Q E h => ?_) (fun cdv A outer s H vs Q E hr h => ?_)
  · obtain ⟨_, _, _, _, _, rfl, _⟩ := h
    rfl
  obtain ⟨M, x, d, lo, hi, rfl, hd, k⟩ := h
  refine ⟨_, (pss_cons (ps_if (PW.pt (pw_or (pt_not (pt_val (pe_callB call_isi (by rfl) B.isinstance (by decide +kernel) (pa_cons (pv 0) (pa_cons (pe_bltn (v := V.ty "int") (u := Value.type "int") (by rfl) B.int (by decide +kernel) rfl) pa_nil))))) (pw_or1 (pt_val (pe_callB call_isi (by rfl) B.isinstance (by decide +kernel) (pa_cons (pv 0) (pa_cons (pe_bltn (v := V.ty "bool") (u := Value.type "bool") (by rfl) B.bool (by decide +kernel) rfl) pa_nil)))))))
      (pss_one (ps_ret pe_bl))
      pss_nil)
    (pss_one (ps_ret (pe_chain op_le op_le (pv 1) (pv 0) (pv 2))))), ?_⟩
  refine ⟨_, rfl, x, _, _, _, isInt2 d, rfl, ClsV.ty _, hd.ty, kit_ty (kit_int d), _, rfl, ?_⟩
  have no : isNum d lo hi = false → Q (.bl false) H := fun e => by rw [e] at k; exact k
  cases hi2 : isInt2 d with
  | false =>
    refine iteT ?_
    refine iteT ?_
    exact no (by cases d <;> first | rfl | cases hi2)
  | true =>
    refine iteF ?_
    refine ⟨_, rfl, x, _, _, _, isBool d, rfl, ClsV.ty _, hd.ty, kit_ty (kit_bool d), _, rfl, ?_⟩
    cases hb : isBool d with
    | true =>
      refine iteT ?_
      exact no (by cases d <;> first | rfl | cases hb)
    | false =>
      refine iteF ?_
      cases d with
      | int i =>
        cases hd
        refine ⟨_, rfl, _, rfl, _, _, rfl, rfl, _, rfl, ?_⟩
        have e : isNum (.int i) lo hi = (decide (lo ≤ i) && decide (i ≤ hi)) := rfl
        rw [e] at k
        cases h1 : decide (lo ≤ i) with
        | true =>
          rw [h1] at k
          refine iteT ?_
          exact ⟨_, rfl, _, _, rfl, rfl, k⟩
        | false =>
          rw [h1] at k
          exact iteF k
      | _ => first | (simp [isInt2] at hi2; done) | (simp [isBool] at hb; done)
end
section
variable {P : Program} {w : World} {K : PySem.W.Frag} {mg : Str → Option Value} {base : Heap}
def WordOk (d : PyData) : Prop := ∀ w r, d = .tuple (w :: r) → r.length = 4 → SeqAt.shaped w = true
theorem shaped_dp {M : Addr → Prop} {H : Hp} {v : V} {d : PyData} (h : Dn M K H v d) (s : SeqAt.shaped d = true) : Dp K H v d := Dn.dp d (PyData.hasDict_of_canLay d (SeqAt.canLay_of_shaped s)) h
/-- the next draw, the heap behind it unnamed -/
def spTakeN (K : PySem.W.Frag) : Sp := fun vs H Q _ => ∃ (h d : Addr) (ds : List Int) (i : Nat) (m : Int), vs = [.ref h, .int m] ∧ Hand H h d ds i ∧ 0 < m ∧ m < 1000000 ∧
  ∀ (r : Int) (H' : Hp), 0 ≤ r → r < m → Hand H' h d ds (i + 1) → Go (· = h) H H' → Q (.int r) H'
theorem takeN {P : Program} {w : World} {K : PySem.W.Frag} {mg : Str → Option Value} {base : Heap} (g : Has P w K mg base CX0 1 "_law_take" ["hand", "many"] (spTake K)) : Has P w K mg base CX0 1 "_law_take" ["hand", "many"] (spTakeN K) :=
  g.imp fun vs H Q E ⟨h, d, ds, i, m, e, hh, m0, m1, k⟩ => ⟨h, d, ds, i, m, e, hh.1, hh.2, m0, m1, fun r r0 r1 => k r _ r0 r1 hh.next hh.go⟩
end
theorem _root_.LG.Hand.ints {H : Hp} {h d a : Addr} {ds ns : List Int} {n : Nat} (x : Hand H h d ds n) (e : H a = some (.lst (ns.map V.int))) : ¬ a = h := by
  rintro rfl
  have q := x.1.symm.trans e
  cases ns with
  | nil => cases q
  | cons z ns => cases q
section
variable {P : Program} {w : World} {K : PySem.W.Frag} {mg : Str → Option Value} {base : Heap}
/-- lists that grow while other things change -/
structure GI (M : Addr → Prop) (H0 : Hp) (q : Addr) (ns : List Int) (H : Hp) : Prop where
  free : H0 q = none
  go : Go M H0 H
  ex : H q = some (.lst (ns.map V.int))
theorem GI.start {M : Addr → Prop} {H0 : Hp} {q : Addr} (h : H0 q = none) : GI M H0 q [] (upd H0 q (.lst [])) := ⟨h, Go.new h _, upd_same⟩
theorem GI.step {M : Addr → Prop} {H0 H H' : Hp} {q : Addr} {ns : List Int} (a : GI M H0 q ns H) (nq : ¬ M q) (g : Go M H H') : GI M H0 q ns H' := ⟨a.free, a.go.trans g, g.out _ _ nq a.ex⟩
theorem GI.push {M : Addr → Prop} {H0 H : Hp} {q : Addr} {ns : List Int} (a : GI M H0 q ns H) (z : Int) (few : ns.length ≤ 100000) : H q = some (.lst (ns.map V.int)) ∧ (ns.map V.int).length < sizeLine ∧ GI M H0 q (ns ++ [z]) (upd H q (.lst (ns.map V.int ++ [V.int z]))) :=
  ⟨a.ex, lt_small (by rw [List.length_map]; exact few), a.free, go_own a.go a.free a.ex _, by rw [upd_same, List.map_append]; rfl⟩
structure GS (K : PySem.W.Frag) (M : Addr → Prop) (H0 : Hp) (q : Addr) (cs : List (List Int)) (H : Hp) : Prop where
  free : H0 q = none
  go : Go M H0 H
  ex : ∃ acc, H q = some (.lst acc) ∧ SLs (SqT K H) acc cs
theorem GS.start {M : Addr → Prop} {H0 : Hp} {q : Addr} (h : H0 q = none) : GS K M H0 q [] (upd H0 q (.lst [])) := ⟨h, Go.new h _, [], upd_same, .nil⟩
theorem GS.step {M : Addr → Prop} {H0 H H' : Hp} {q : Addr} {cs : List (List Int)} (a : GS K M H0 q cs H) (nq : ¬ M q) (g : Go M H H') : GS K M H0 q cs H' := by
  obtain ⟨acc, e, s⟩ := a.ex
  exact ⟨a.free, a.go.trans g, acc, g.out _ _ nq e, s.imp fun _ _ z => g.seqT z⟩
theorem GS.push {M : Addr → Prop} {H0 H : Hp} {q p : Addr} {cs : List (List Int)} {c : List Int} (a : GS K M H0 q cs H) (hp : SqT K H p (c.map V.int)) (few : cs.length ≤ 100000) :
    ∃ acc, H q = some (.lst acc) ∧ acc.length < sizeLine ∧ GS K M H0 q (cs ++ [c]) (upd H q (.lst (acc ++ [V.ref p]))) := by
  obtain ⟨acc, e, s⟩ := a.ex
  have t := tups_lst (ys := acc ++ [V.ref p]) e
  exact ⟨acc, e, lt_small (by rw [s.len]; exact few), a.free, go_own a.go a.free e _, _, upd_same, (s.imp fun _ _ z => t.seq z).app (.cons (t.seq hp) .nil)⟩
/-- lists of data that grow while other things change -/
structure GD (K : PySem.W.Frag) (M : Addr → Prop) (H0 : Hp) (q : Addr) (ds : List PyData) (H : Hp) : Prop where
  free : H0 q = none
  go : Go M H0 H
  ex : ∃ acc, H q = some (.lst acc) ∧ DtAll K H acc ds
theorem GD.start {M : Addr → Prop} {H0 : Hp} {q : Addr} (h : H0 q = none) : GD K M H0 q [] (upd H0 q (.lst [])) := ⟨h, Go.new h _, [], upd_same, .nil⟩
theorem GD.init {M : Addr → Prop} {H0 H : Hp} {q : Addr} (h : H0 q = none) (g : Go M H0 H) (e : H q = some (.lst [])) : GD K M H0 q [] H := ⟨h, g, [], e, .nil⟩
theorem GD.step {M : Addr → Prop} {H0 H H' : Hp} {q : Addr} {ds : List PyData} (a : GD K M H0 q ds H) (nq : ¬ M q) (g : Go M H H') : GD K M H0 q ds H' := by
  obtain ⟨acc, e, s⟩ := a.ex
  exact ⟨a.free, a.go.trans g, acc, g.out _ _ nq e, s.stay g.tups⟩
theorem GD.push {M : Addr → Prop} {H0 H : Hp} {q : Addr} {ds : List PyData} {v : V} {d : PyData} (a : GD K M H0 q ds H) (hv : Dt K H v d) (few : ds.length ≤ 100000) :
    ∃ acc, H q = some (.lst acc) ∧ acc.length < sizeLine ∧ GD K M H0 q (ds ++ [d]) (upd H q (.lst (acc ++ [v]))) := by
  obtain ⟨acc, e, s⟩ := a.ex
  have t := tups_lst (ys := acc ++ [v]) e
  exact ⟨acc, e, lt_small (by rw [s.len]; exact few), a.free, go_own a.go a.free e _, _, upd_same, (s.stay t).app (.cons (hv.stay t) .nil)⟩
end
def isRow (ls : List Int) : PyData → Bool
  | .tuple ds => decide (ds.length = ls.length) && (ds.zip ls).all fun p => isNum p.1 0 (p.2 - 1)
  | _ => false
def areRows (ls : List Int) : PyData → Bool
  | .tuple rs => (List.range rs.length).all fun at_ => isRow ls (rs.getD at_ .none) && (decide (at_ = 0) || decide (intsD (rs.getD (at_ - 1) .none) < intsD (rs.getD at_ .none)))
  | _ => false
def areInputs (ls : List Int) : PyData → Bool
  | .tuple sides => isNum (.int (sides.length : Nat)) 1 4 && sides.all (areRows ls)
  | _ => false
def prodD (ms : List PyData) : Int := ms.foldl (fun p m => p * numD m) 1
def areLabels (dD dL : PyData) : Bool := isNum dD 2 4 && match dL with
  | .tuple ms => decide (((ms.length : Nat) : Int) = numD dD) && (ms.all (isNum · 1 60) && decide (prodD ms ≤ 4000))
  | _ => false
def isWord (w : PyData) : Bool := match w with
  | .str x => decide (x = "task")
  | _ => false
def isTask : PyData → Bool
  | .tuple [w, dD, dL, dW, dB] => isWord w && (areLabels dD dL && (areInputs (intsD dL) dW && areInputs (intsD dL) dB))
  | _ => false
/-- of a right row the ints -/
theorem row_ints {ls : List Int} {d : PyData} (h : isRow ls d = true) : d = tupI (intsD d) ∧ (intsD d).length = ls.length := by
  cases d with
  | tuple ds =>
    have h' : (decide (ds.length = ls.length) && (ds.zip ls).all fun p => isNum p.1 0 (p.2 - 1)) = true := h
    rw [Bool.and_eq_true, decide_eq_true_eq] at h'
    obtain ⟨e, a⟩ := h'
    have go : ∀ (ds : List PyData) (ls : List Int), ds.length = ls.length → ((ds.zip ls).all fun p => isNum p.1 0 (p.2 - 1)) = true → ds = (ds.map numD).map PyData.int := by
      intro ds
      induction ds with
      | nil => intro _ _ _; rfl
      | cons d ds ih =>
        intro ls e a
        cases ls with
        | nil => cases e
        | cons l ls =>
          rw [List.zip_cons_cons, List.all_cons, Bool.and_eq_true] at a
          rw [List.map_cons, List.map_cons, ← ih ls (by simpa using e) a.2, ← (num_of a.1).1]
    refine ⟨?_, ?_⟩
    · show PyData.tuple ds = .tuple ((ds.map numD).map PyData.int)
      rw [← go ds ls e a]
    · show (ds.map numD).length = _
      rw [List.length_map, e]
  | _ => cases h
theorem labels_ints {ms : List PyData} (h : ms.all (isNum · 1 60) = true) : ms = (ms.map numD).map PyData.int := by
  induction ms with
  | nil => rfl
  | cons m ms ih =>
    rw [List.all_cons, Bool.and_eq_true] at h
    rw [List.map_cons, List.map_cons, ← ih h.2, ← (num_of h.1).1]
theorem prod_more (ms : List PyData) (m : PyData) : prodD (ms ++ [m]) = prodD ms * numD m := by
  unfold prodD
  rw [List.foldl_append]
  rfl
theorem prod_le : ∀ (ms : List PyData), ms.all (isNum · 1 60) = true → 1 ≤ prodD ms ∧ prodD ms ≤ 60 ^ ms.length := by
  intro ms
  have go : ∀ (ms : List PyData) (p : Int) (n : Nat), 1 ≤ p → p ≤ 60 ^ n → ms.all (isNum · 1 60) = true → 1 ≤ ms.foldl (fun p m => p * numD m) p ∧ ms.foldl (fun p m => p * numD m) p ≤ 60 ^ (n + ms.length) := by
    intro ms
    induction ms with
    | nil => exact fun p n h1 h2 _ => ⟨h1, h2⟩
    | cons m ms ih =>
      intro p n h1 h2 a
      rw [List.all_cons, Bool.and_eq_true] at a
      obtain ⟨_, l1, l2⟩ := num_of a.1
      have q1 : 1 ≤ p * numD m := by
        have := Int.mul_le_mul (show (1 : Int) ≤ p from h1) l1 (by decide) (by omega)
        omega
      have q2 : p * numD m ≤ 60 ^ (n + 1) := by
        rw [Int.pow_succ]
        exact Int.mul_le_mul h2 l2 (by omega) (by exact Int.le_of_lt (Int.pow_pos (by decide)))
      have r := ih (p * numD m) (n + 1) q1 q2 a.2
      rw [List.foldl_cons, List.length_cons, show n + (ms.length + 1) = n + 1 + ms.length by omega]
      exact r
  intro a
  have r := go ms 1 0 (by decide) (by decide) a
  rw [Nat.zero_add] at r
  exact r
section
variable {P : Program} {w : World} {K : PySem.W.Frag} {mg : Str → Option Value} {base : Heap}
def spRow (K : PySem.W.Frag) : Sp := fun vs H Q _ => ∃ (M : Addr → Prop) (x : V) (d : PyData) (la : Addr) (ls : List Int), vs = [x, .ref la] ∧ Dn M K H x d ∧ SqT K H la (ls.map V.int) ∧ ls.length ≤ 1000 ∧ ∀ H', Same H H' → Q (.bl (isRow ls d)) H'
theorem ok_row {f : Addr} {fd : FuncData} (B : Blt mg) (gis_number : Has P w K mg base CX0 1 "is_number" ["value", "low", "high"] (spNumber K)) (F : Fun K "is_row" "is_row" sis_row f fd) : FnOk P w K mg base CX0 2 f fd ["row", "labels"] (spRow K) := by
  have sc : FnScope ["row", "labels", "label", "many"] ["row", "labels"] (defScope sis_row) := ⟨rfl, rfl, rfl, by decide +kernel, rfl, by decide +kernel, by decide +kernel⟩
  refine F.ok sc (fun vs H Q E h => ?_) (fun cdv A outer s H vs Q E hr h => ?_)
  · obtain ⟨_, _, _, _, _, rfl, _⟩ := h
    rfl
  obtain ⟨M, x, d, la, ls, rfl, hd, hla, hz, k⟩ := h
  refine ⟨_, (pss_cons (ps_if (PW.pt (pw_or (pt_not (pt_val (pe_callB call_isi (by rfl) B.isinstance (by decide +kernel) (pa_cons (pv 0) (pa_cons (pe_bltn (v := V.ty "tuple") (u := Value.type "tuple") (by rfl) B.tuple (by decide +kernel) rfl) pa_nil))))) (pw_or1 (pt_cmpR op_nei (pe_callB call_len_seq (by rfl) B.len (by decide +kernel) (pa_cons (pv 0) pa_nil)) (pe_callB call_len_seq (by rfl) B.len (by decide +kernel) (pa_cons (pv 1) pa_nil)) (nomark _)))))
      (pss_one (ps_ret pe_bl))
      pss_nil)
    (pss_one (ps_ret (pe_callB (cr_all rfl) (by rfl) B.all (by decide +kernel) (pa_cons (pe_lc (own := [("label", 2), ("many", 3)]) (g := gTup K 2 (gCons (gName 2) (gCons (gName 3) gNil))) (tt := tYes) rfl sc.nd (RZ.pi_zipA (by rfl) B.zip (pa_cons (pv 0) (pa_cons (pv 1) pa_nil))) (blkOk_by (N := ["row", "labels", "label", "many"]) (sc := defScope sis_row) (by decide +kernel)) (fun _ _ _ _ _ => (pg_tup rfl (pgs_cons (pg_name (i := 2) sc.nd rfl (Or.inl rfl)) (pgs_cons (pg_name (i := 3) sc.nd rfl (Or.inl rfl)) pgs_nil)))) (fun _ _ _ _ _ => pts_nil) (fun _ _ _ _ _ => (pc gis_number hr (pa_cons (pv 2) (pa_cons pe_int (pa_cons (pe_op op_sub (pv 3) pe_int) pa_nil)))))) pa_nil))))), ?_⟩
  have no : isRow ls d = false → Q (.bl false) H := fun e => by have := k H (Same.refl _); rw [e] at this; exact this
  refine ⟨_, rfl, x, _, _, _, isTup d, rfl, ClsV.ty _, hd.ty, kit_ty (kit_tup d), _, rfl, ?_⟩
  cases ht : isTup d with
  | false =>
    refine iteT ?_
    refine iteT ?_
    exact no (by cases d <;> first | rfl | cases ht)
  | true =>
    refine iteF ?_
    obtain ⟨ds, rfl⟩ := isTup_of ht
    obtain ⟨a, xs, rfl, ha, hx⟩ := dn_tup hd
    have e : isRow ls (.tuple ds) = (decide (ds.length = ls.length) && (ds.zip ls).all fun p => isNum p.1 0 (p.2 - 1)) := rfl
    refine ⟨_, rfl, a, _, rfl, .inr ha, _, rfl, la, _, rfl, .inr hla, _, _, rfl, rfl, _, rfl, ?_⟩
    by_cases hl : ds.length = ls.length
    · have e2 : ((xs.length : Nat) : Int) = (((ls.map V.int).length : Nat) : Int) := by rw [hx.len, List.length_map, hl]
      rw [decide_eq_true e2]
      refine iteF ?_
      have e3 : xs.length = (ls.map V.int).length := by rw [hx.len, List.length_map, hl]
      refine ⟨_, rfl, _, rfl, a, la, xs, _, rfl, .inr ⟨ha, hla, fun p hp => ?_⟩⟩
      refine itz_walk (K := K) e3 (fun i H' => Same H H' ∧ H' p = some (.lst ((((ds.zip ls).take i).map fun p => isNum p.1 0 (p.2 - 1)).map V.bl))) ⟨same_new hp _, upd_same⟩ (fun i H' z => ⟨z.1.seqT ha, z.1.seqT hla⟩) ?_ ?_
      · rintro i y z T H' hy hz2 ⟨sm, hH⟩ hT
        obtain ⟨dy, hdy, hyd⟩ := hx.of hy
        obtain ⟨m, hm, rfl⟩ := item_of hz2
        have st := same_new hT (.tup [y, .int m])
        refine ⟨T, _, rfl, SqT.of upd_same, rfl, _, _, rfl, _, _, rfl, rfl, rfl, ?_⟩
        refine ⟨_, rfl, _, rfl, _, _, rfl, rfl, M, y, dy, 0, m - 1, rfl, hyd.stay (Same.go (sm.trans st)), ?_⟩
        refine ⟨_, st _ _ hH, ?_, ?_, ?_⟩
        · rw [List.length_map, List.length_map, List.length_take, List.length_zip]
          exact Nat.lt_of_le_of_lt (show _ ≤ 1000 by omega) (by decide)
        · exact same_own (sm.trans st) hp _
        · have hzip : (ds.zip ls)[i]? = some (dy, m) := by rw [List.getElem?_zip_eq_some]; exact ⟨hdy, hm⟩
          rw [upd_same, take_more hzip, List.map_append, List.map_append]
          rfl
      · rintro H' ⟨sm, hH⟩
        rw [List.take_of_length_le (by rw [List.length_zip, hx.len]; omega)] at hH
        refine ⟨p, _, rfl, SqL.of hH, ?_⟩
        have q := k H' sm
        rw [e, decide_eq_true hl, Bool.true_and] at q
        rw [List.all_map]
        exact q
    · have e2 : ¬ ((xs.length : Nat) : Int) = (((ls.map V.int).length : Nat) : Int) := by rw [hx.len, List.length_map]; omega
      rw [decide_eq_false e2]
      refine iteT ?_
      refine no ?_
      rw [e, decide_eq_false hl]
      rfl
end

section
variable {P : Program} {w : World} {K : PySem.W.Frag} {mg : Str → Option Value} {base : Heap}
theorem bulk_all : ∀ {ds : List PyData}, ds.length ≤ PyData.bulkAll ds ∧ ∀ e ∈ ds, e.bulk ≤ PyData.bulkAll ds
  | [] => ⟨Nat.zero_le _, fun e h => absurd h List.not_mem_nil⟩
  | d :: ds => by
    obtain ⟨h1, h2⟩ := bulk_all (ds := ds)
    simp only [PyData.bulkAll, List.length_cons]
    refine ⟨by omega, fun e h => ?_⟩
    rcases List.mem_cons.mp h with rfl | h
    · omega
    · have := h2 e h
      omega
theorem bulk_len {ds : List PyData} {n : Nat} (h : (PyData.tuple ds).bulk ≤ n) : ds.length ≤ n := by
  simp only [PyData.bulk] at h
  exact Nat.le_trans bulk_all.1 h
theorem bulk_mem {ds : List PyData} {n : Nat} (h : (PyData.tuple ds).bulk ≤ n) {e : PyData} (m : e ∈ ds) : e.bulk ≤ n := by
  simp only [PyData.bulk] at h
  exact Nat.le_trans (bulk_all.2 e m) h
def spRows (K : PySem.W.Frag) : Sp := fun vs H Q _ => ∃ (M : Addr → Prop) (x : V) (d : PyData) (la : Addr) (ls : List Int), vs = [x, .ref la] ∧ Dn M K H x d ∧ d.bulk ≤ 1000000 ∧ SqT K H la (ls.map V.int) ∧ ls.length ≤ 1000 ∧ ∀ H', Same H H' → Q (.bl (areRows ls d)) H'
/-- what is asked of one place -/
def rowAt (ls : List Int) (rs : List PyData) (i : Nat) : Bool := isRow ls (rs.getD i .none) && (decide (i = 0) || decide (intsD (rs.getD (i - 1) .none) < intsD (rs.getD i .none)))
theorem rows_all (ls : List Int) (rs : List PyData) : areRows ls (.tuple rs) = (List.range rs.length).all (rowAt ls rs) := rfl
theorem rows_bad {ls : List Int} {rs : List PyData} {i : Nat} (hi : i < rs.length) (h : rowAt ls rs i = false) : areRows ls (.tuple rs) = false := by
  rw [rows_all, List.all_eq_false]
  exact ⟨i, List.mem_range.mpr hi, by rw [h]; decide⟩
theorem getD_of {rs : List PyData} {i : Nat} {d : PyData} (h : rs[i]? = some d) : rs.getD i .none = d := by
  simp [List.getD, h]
theorem row_val {M : Addr → Prop} {H : Hp} {v : V} {d : PyData} {ls : List Int} (h : Dn M K H v d) (r : isRow ls d = true) : ∃ a, v = .ref a ∧ SqT K H a ((intsD d).map V.int) := by
  obtain ⟨e, _⟩ := row_ints r
  rw [e] at h
  obtain ⟨a, xs, rfl, h1, h2⟩ := dn_tup h
  exact ⟨a, rfl, by rw [← ints_vs h2]; exact h1⟩
theorem ok_rows {f : Addr} {fd : FuncData} (B : Blt mg) (gis_row : Has P w K mg base CX0 2 "is_row" ["row", "labels"] (spRow K)) (F : Fun K "_are_rows" "_are_rows" s_are_rows f fd) : FnOk P w K mg base CX0 3 f fd ["rows", "labels"] (spRows K) := by
  have sc : FnScope ["rows", "labels", "at"] ["rows", "labels"] (defScope s_are_rows) := ⟨rfl, rfl, rfl, by decide +kernel, rfl, by decide +kernel, by decide +kernel⟩
  refine F.ok sc (fun vs H Q E h => ?_) (fun cdv A outer s H vs Q E hr h => ?_)
  · obtain ⟨_, _, _, _, _, rfl, _⟩ := h
    rfl
  obtain ⟨M, x, d, la, ls, rfl, hd, hb0, hla, hz, k⟩ := h
  refine ⟨_, (pss_cons (ps_if (pt_not (pt_val (pe_callB call_isi (by rfl) B.isinstance (by decide +kernel) (pa_cons (pv 0) (pa_cons (pe_bltn (v := V.ty "tuple") (u := Value.type "tuple") (by rfl) B.tuple (by decide +kernel) rfl) pa_nil)))))
      (pss_one (ps_ret pe_bl))
      pss_nil)
    (pss_cons (ps_for PassesOwn.never rfl (pi_range1 (by rfl) B.range (pa_cons (pe_callB call_len_seq (by rfl) B.len (by decide +kernel) (pa_cons (pv 0) pa_nil)) pa_nil)) (pg_name (i := 2) sc.nd rfl (Or.inl rfl))
      (pss_cons (ps_if (pt_not (pt_val (pc gis_row hr (pa_cons (pe_ix ix_tup (pv 0) (pv 2) (fun _ _ => rfl)) (pa_cons (pv 1) pa_nil)))))
        (pss_one (ps_ret pe_bl))
        pss_nil)
      (pss_one (ps_if (PW.pt (pw_and (pt_cmpR op_gt (pv 2) pe_int (nomark _)) (pw_and1 (pt_cmpR (op_geR hr.units) (pe_ix ix_tup (pv 0) (pe_op op_sub (pv 2) pe_int) (fun _ _ => rfl)) (pe_ix ix_tup (pv 0) (pv 2) (fun _ _ => rfl)) (nomark _)))))
        (pss_one (ps_ret pe_bl))
        pss_nil))))
    (pss_one (ps_ret pe_bl)))), ?_⟩
  refine ⟨_, rfl, x, _, _, _, isTup d, rfl, ClsV.ty _, hd.ty, kit_ty (kit_tup d), _, rfl, ?_⟩
  cases ht : isTup d with
  | false =>
    refine iteT ?_
    have e : areRows ls d = false := by cases d <;> first | rfl | cases ht
    rw [e] at k
    exact k H (Same.refl _)
  | true =>
    refine iteF ?_
    obtain ⟨ds, rfl⟩ := isTup_of ht
    obtain ⟨a, xs, rfl, ha, hx⟩ := dn_tup hd
    have no : ∀ {i : Nat}, i < ds.length → rowAt ls ds i = false → ∀ H', Same H H' → Q (.bl false) H' := fun hi hb H' sm => by
      have q := k H' sm
      rw [rows_bad hi hb] at q
      exact q
    refine ⟨_, rfl, a, _, rfl, .inr ha, ((xs.length : Nat) : Int), rfl, by omega, ?_, for_range (lo := 0) (n := ((xs.length : Nat) : Int).toNat) (fun i σ H' => Same H H' ∧ ∃ av : Option V, σ = [some (.ref a), some (.ref la), av] ∧ ∀ j, j < i → rowAt ls ds j = true)
      ⟨Same.refl _, none, rfl, fun j hj => absurd hj (Nat.not_lt_zero j)⟩ ?_ ?_⟩
    · have l1 := bulk_len hb0
      have l2 := hx.len
      omega
    · rintro i σ H' hi ⟨sm, av, rfl, hok⟩
      have il : i < ds.length := by rw [← hx.len]; omega
      obtain ⟨y, hy, hyd⟩ := (hx.stay (Same.go sm)).at (show ds[i]? = some ds[i] by simp [il])
      have gd : ds.getD i .none = ds[i] := getD_of (by simp [il])
      refine ⟨_, rfl, _, rfl, a, _, _, y, rfl, rfl, sm.seqT ha, at_of (j := i) (by omega) hy, _, rfl, M, y, ds[i], la, ls, rfl, hyd, sm.seqT hla, hz, fun H2 s2 => ⟨_, rfl, ?_⟩⟩
      have sm2 := sm.trans s2
      cases hir : isRow ls ds[i] with
      | false =>
        refine iteT ?_
        exact no il (by unfold rowAt; rw [gd, hir]; rfl) H2 sm2
      | true =>
        refine iteF ?_
        refine ⟨_, rfl, _, _, rfl, rfl, _, rfl, ?_⟩
        refine ite2 (fun c => ?_) (fun c => ?_)
        · have i0 := dec_t c
          have il2 : i - 1 < ds.length := by omega
          have prev := hok (i - 1) (by omega)
          have pr : isRow ls ds[i - 1] = true := by
            unfold rowAt at prev
            rw [Bool.and_eq_true, getD_of (show ds[i - 1]? = some ds[i - 1] by simp [il2])] at prev
            exact prev.1
          obtain ⟨y1, hy1, hyd1⟩ := (hx.stay (Same.go sm2)).at (show ds[i - 1]? = some ds[i - 1] by simp [il2])
          obtain ⟨b1, rfl, hb1⟩ := row_val hyd1 pr
          obtain ⟨b2, rfl, hb2⟩ := row_val (hyd.stay (Same.go s2)) hir
          refine ⟨_, rfl, _, rfl, _, _, rfl, rfl, a, _, _, _, rfl, rfl, sm2.seqT ha, at_of (j := i - 1) (by omega) hy1, _, rfl, _, rfl, a, _, _, _, rfl, rfl, sm2.seqT ha, at_of (j := i) (by omega) hy, b1, b2, _, _, rfl, rfl, hb1, hb2, _, rfl, ?_⟩
          have re : rowAt ls ds i = decide (intsD ds[i - 1] < intsD ds[i]) := by
            unfold rowAt
            rw [gd, hir, getD_of (show ds[i - 1]? = some ds[i - 1] by simp [il2]), decide_eq_false (show ¬ i = 0 by omega)]
            rfl
          cases hlt : decide (intsD ds[i - 1] < intsD ds[i]) with
          | true =>
            refine iteF ?_
            refine ⟨sm2, _, rfl, fun j hj => ?_⟩
            by_cases ej : j = i
            · rw [ej, re, hlt]
            · exact hok j (by omega)
          | false =>
            refine iteT ?_
            exact no il (by rw [re, hlt]) H2 sm2
        · have i0 := dec_f c
          obtain rfl : i = 0 := by omega
          refine ⟨sm2, _, rfl, fun j hj => ?_⟩
          obtain rfl : j = 0 := by omega
          unfold rowAt
          rw [gd, hir]
          rfl
    · rintro σ H' ⟨sm, av, rfl, hok⟩
      have q := k H' sm
      have e : areRows ls (.tuple ds) = true := by
        rw [rows_all, List.all_eq_true]
        exact fun j hj => hok j (by have := List.mem_range.mp hj; have := hx.len; omega)
      rw [e] at q
      exact q
theorem num_len {n : Nat} {lo hi : Int} : isNum (.int (n : Nat)) lo hi = (decide (lo ≤ (n : Int)) && decide ((n : Int) ≤ hi)) := rfl
def spInputs (K : PySem.W.Frag) : Sp := fun vs H Q _ => ∃ (M : Addr → Prop) (x : V) (d : PyData) (la : Addr) (ls : List Int), vs = [x, .ref la] ∧ Dn M K H x d ∧ d.bulk ≤ 1000000 ∧ SqT K H la (ls.map V.int) ∧ ls.length ≤ 1000 ∧ ∀ H', Same H H' → Q (.bl (areInputs ls d)) H'
theorem ok_inputs {f : Addr} {fd : FuncData} (B : Blt mg) (C : Cst mg) (gis_number : Has P w K mg base CX0 1 "is_number" ["value", "low", "high"] (spNumber K)) (g_are_rows : Has P w K mg base CX0 3 "_are_rows" ["rows", "labels"] (spRows K))
    (F : Fun K "_are_inputs" "_are_inputs" s_are_inputs f fd) : FnOk P w K mg base CX0 4 f fd ["allowed", "labels"] (spInputs K) := by
  have sc : FnScope ["allowed", "labels", "rows"] ["allowed", "labels"] (defScope s_are_inputs) := ⟨rfl, rfl, rfl, by decide +kernel, rfl, by decide +kernel, by decide +kernel⟩
  obtain ⟨t1, hMOST_INPUTS⟩ := C.MOST_INPUTS
  refine F.ok sc (fun vs H Q E h => ?_) (fun cdv A outer s H vs Q E hr h => ?_)
  · obtain ⟨_, _, _, _, _, rfl, _⟩ := h
    rfl
  obtain ⟨M, x, d, la, ls, rfl, hd, hb0, hla, hz, k⟩ := h
  refine ⟨_, (pss_cons (ps_if (PW.pt (pw_or (pt_not (pt_val (pe_callB call_isi (by rfl) B.isinstance (by decide +kernel) (pa_cons (pv 0) (pa_cons (pe_bltn (v := V.ty "tuple") (u := Value.type "tuple") (by rfl) B.tuple (by decide +kernel) rfl) pa_nil))))) (pw_or1 (pt_not (pt_val (pc gis_number hr (pa_cons (pe_callB call_len_seq (by rfl) B.len (by decide +kernel) (pa_cons (pv 0) pa_nil)) (pa_cons pe_int (pa_cons (pe_glob (v := V.int _) rfl hMOST_INPUTS ⟨_, rfl⟩) pa_nil)))))))))
      (pss_one (ps_ret pe_bl))
      pss_nil)
    (pss_one (ps_ret (pe_callB (cr_all rfl) (by rfl) B.all (by decide +kernel) (pa_cons (pe_lc (own := [("rows", 2)]) (g := gName 2) (tt := tYes) rfl sc.nd (pi_tup (pv 0)) (blkOk_by (N := ["allowed", "labels", "rows"]) (sc := defScope s_are_inputs) (by decide +kernel)) (fun _ _ _ _ _ => pg_name (i := 2) sc.nd rfl (Or.inl rfl)) (fun _ _ _ _ _ => pts_nil) (fun _ _ _ _ _ => (pc g_are_rows hr (pa_cons (pv 2) (pa_cons (pv 1) pa_nil))))) pa_nil))))), ?_⟩
  refine ⟨_, rfl, x, _, _, _, isTup d, rfl, ClsV.ty _, hd.ty, kit_ty (kit_tup d), _, rfl, ?_⟩
  cases ht : isTup d with
  | false =>
    refine iteT ?_
    refine iteT ?_
    have e : areInputs ls d = false := by cases d <;> first | rfl | cases ht
    rw [e] at k
    exact k H (Same.refl _)
  | true =>
    refine iteF ?_
    obtain ⟨ds, rfl⟩ := isTup_of ht
    obtain ⟨a, xs, rfl, ha, hx⟩ := dn_tup hd
    have e : areInputs ls (.tuple ds) = (isNum (.int (ds.length : Nat)) 1 4 && ds.all (areRows ls)) := rfl
    refine ⟨_, rfl, a, _, rfl, .inr ha, M, _, .int ((xs.length : Nat) : Int), 1, 4, rfl, .int _, _, rfl, ?_⟩
    rw [hx.len]
    rw [e] at k
    cases hn : isNum (.int (ds.length : Nat)) 1 4 with
    | false =>
      refine iteT ?_
      rw [hn] at k
      exact k H (Same.refl _)
    | true =>
      refine iteF ?_
      rw [hn, Bool.true_and] at k
      refine ⟨_, rfl, a, rfl, ⟨_, ha⟩, fun p hp => ?_⟩
      refine itt_walk (K := K) (a := a) (xs := xs) (fun i H' => Same H H' ∧ H' p = some (.lst (((ds.take i).map (areRows ls)).map V.bl))) ⟨same_new hp _, upd_same⟩ (fun i H' _ z => z.1.seqT ha) ?_ ?_
      · rintro i y H' hy ⟨sm, hH⟩
        obtain ⟨dy, hdy, hyd⟩ := hx.of hy
        have few := bulk_mem hb0 (List.mem_of_getElem? hdy)
        have il := bulk_len hb0
        refine ⟨rfl, ?_⟩
        refine ⟨_, rfl, _, rfl, M, y, dy, la, ls, rfl, hyd.stay (Same.go sm), few, sm.seqT hla, hz, fun H2 s2 => ?_⟩
        refine ⟨_, s2 _ _ hH, ?_, same_own (sm.trans s2) hp _, ?_⟩
        · rw [List.length_map, List.length_map, List.length_take]
          exact Nat.lt_of_le_of_lt (show _ ≤ 1000000 by omega) (by decide)
        · rw [upd_same, take_more hdy, List.map_append, List.map_append]
          rfl
      · rintro H' ⟨sm, hH⟩
        rw [List.take_of_length_le (by rw [hx.len]; exact Nat.le_refl _)] at hH
        refine ⟨p, _, rfl, SqL.of hH, ?_⟩
        rw [List.all_map]
        exact k H' sm
theorem pow60 : ∀ n, n < 5 → (60 : Int) ^ n ≤ 60 ^ 4 := by decide
theorem labels_tup {D : Int} {ms : List PyData} (h : isNum (.int D) 2 4 = true) : areLabels (.int D) (.tuple ms) = (decide (((ms.length : Nat) : Int) = D) && (ms.all (isNum · 1 60) && decide (prodD ms ≤ 4000))) := by
  unfold areLabels
  rw [h, Bool.true_and]
  rfl
theorem labels_no {d dL : PyData} (h : isTup dL = false) : areLabels d dL = false := by
  unfold areLabels
  cases dL <;> first | exact Bool.and_false _ | cases h
def spProduct (K : PySem.W.Frag) : Sp := fun vs H Q _ => ∃ (a : Addr) (ms : List PyData), vs = [.ref a] ∧ SqT K H a ((ms.map numD).map V.int) ∧ ms.all (isNum · 1 60) = true ∧ ms.length ≤ 4 ∧ Q (.int (prodD ms)) H
theorem ok_product {f : Addr} {fd : FuncData} (F : Fun K "product_of" "product_of" sproduct_of f fd) : FnOk P w K mg base CX0 1 f fd ["numbers"] (spProduct K) := by
  have sc : FnScope ["numbers", "product", "number"] ["numbers"] (defScope sproduct_of) := ⟨rfl, rfl, rfl, by decide +kernel, rfl, by decide +kernel, by decide +kernel⟩
  refine F.ok sc (fun vs H Q E h => ?_) (fun cdv A outer s H vs Q E hr h => ?_)
  · obtain ⟨_, _, rfl, _⟩ := h
    rfl
  obtain ⟨a, ms, rfl, ha, hall, h4, k⟩ := h
  refine ⟨_, (pss_cons (ps_set (i := 1) sc.nd rfl (Or.inl rfl) pe_int)
    (pss_cons (ps_for PassesOwn.never rfl (pi_tup (pv 0)) (pg_name (i := 2) sc.nd rfl (Or.inl rfl))
      (pss_one (ps_set (i := 1) sc.nd rfl (Or.inl rfl) (pe_op op_mul (pv 1) (pv 2)))))
    (pss_one (ps_ret (pv 1))))), ?_⟩
  refine ⟨_, rfl, a, rfl, ⟨_, ha⟩, for_tup (K := K) (a := a) (xs := (ms.map numD).map V.int) (fun i σ H' => H' = H ∧ ∃ mv : Option V, σ = [some (.ref a), some (.int (prodD (ms.take i))), mv])
    ⟨rfl, none, rfl⟩ (fun i σ H' _ z => by rw [z.1]; exact ha) ?_ ?_⟩
  · rintro i v σ H' hv ⟨rfl, mv, rfl⟩
    obtain ⟨n, hn, rfl⟩ := item_of hv
    obtain ⟨dm, hdm, rfl⟩ : ∃ dm, ms[i]? = some dm ∧ numD dm = n := by
      rw [List.getElem?_map] at hn
      cases e : ms[i]? with
      | none => rw [e] at hn; cases hn
      | some z => rw [e] at hn; exact ⟨z, rfl, Option.some.inj hn⟩
    have hdm60 := List.all_eq_true.mp hall dm (List.mem_of_getElem? hdm)
    obtain ⟨em, m1, m60⟩ := num_of hdm60
    have hall2 : (ms.take i).all (isNum · 1 60) = true := List.all_eq_true.mpr fun x hx => List.all_eq_true.mp hall x (List.mem_of_mem_take hx)
    obtain ⟨p1, p2⟩ := prod_le _ hall2
    have p3 : prodD (ms.take i) ≤ 60 ^ 4 := Int.le_trans p2 (by
      have h4 : (ms.take i).length ≤ 4 := by rw [List.length_take]; omega
      exact pow60 _ (by omega))
    refine ⟨_, rfl, _, rfl, _, _, rfl, rfl, .inr (by omega), ?_⟩
    refine ⟨rfl, some (.int (numD dm)), ?_⟩
    rw [take_more hdm, prod_more]
    rfl
  · rintro σ H' ⟨rfl, mv, rfl⟩
    rw [List.take_of_length_le (by rw [List.length_map, List.length_map]; exact Nat.le_refl _)]
    exact ⟨_, rfl, k⟩
def spLabels (K : PySem.W.Frag) : Sp := fun vs H Q _ => ∃ (M : Addr → Prop) (x y : V) (dD dL : PyData), vs = [x, y] ∧ Dn M K H x dD ∧ Dn M K H y dL ∧ ∀ H', Same H H' → Q (.bl (areLabels dD dL)) H'
theorem ok_labels {f : Addr} {fd : FuncData} (B : Blt mg) (C : Cst mg) (gis_number : Has P w K mg base CX0 1 "is_number" ["value", "low", "high"] (spNumber K)) (gproduct_of : Has P w K mg base CX0 1 "product_of" ["numbers"] (spProduct K))
    (F : Fun K "are_labels" "are_labels" sare_labels f fd) : FnOk P w K mg base CX0 2 f fd ["D", "labels"] (spLabels K) := by
  have sc : FnScope ["D", "labels", "many"] ["D", "labels"] (defScope sare_labels) := ⟨rfl, rfl, rfl, by decide +kernel, rfl, by decide +kernel, by decide +kernel⟩
  obtain ⟨t1, hLEAST_COLOURS⟩ := C.LEAST_COLOURS
  obtain ⟨t2, hMOST_COLOURS⟩ := C.MOST_COLOURS
  obtain ⟨t3, hMOST_LABELS⟩ := C.MOST_LABELS
  obtain ⟨t4, hMOST_ROWS⟩ := C.MOST_ROWS
  refine F.ok sc (fun vs H Q E h => ?_) (fun cdv A outer s H vs Q E hr h => ?_)
  · obtain ⟨_, _, _, _, _, rfl, _⟩ := h
    rfl
  obtain ⟨M, x, y, dD, dL, rfl, hD, hL, k⟩ := h
  refine ⟨_, (pss_cons (ps_if (pt_not (pt_val (pc gis_number hr (pa_cons (pv 0) (pa_cons (pe_glob (v := V.int _) rfl hLEAST_COLOURS ⟨_, rfl⟩) (pa_cons (pe_glob (v := V.int _) rfl hMOST_COLOURS ⟨_, rfl⟩) pa_nil))))))
      (pss_one (ps_ret pe_bl))
      pss_nil)
    (pss_cons (ps_if (PW.pt (pw_or (pt_not (pt_val (pe_callB call_isi (by rfl) B.isinstance (by decide +kernel) (pa_cons (pv 1) (pa_cons (pe_bltn (v := V.ty "tuple") (u := Value.type "tuple") (by rfl) B.tuple (by decide +kernel) rfl) pa_nil))))) (pw_or1 (pt_cmpR op_nei (pe_callB call_len_seq (by rfl) B.len (by decide +kernel) (pa_cons (pv 1) pa_nil)) (pv 0) (nomark _)))))
      (pss_one (ps_ret pe_bl))
      pss_nil)
    (pss_cons (ps_if (pt_not (pt_val (pe_callB (cr_all rfl) (by rfl) B.all (by decide +kernel) (pa_cons (pe_lc (own := [("many", 2)]) (g := gName 2) (tt := tYes) rfl sc.nd (pi_tup (pv 1)) (blkOk_by (N := ["D", "labels", "many"]) (sc := defScope sare_labels) (by decide +kernel)) (fun _ _ _ _ _ => pg_name (i := 2) sc.nd rfl (Or.inl rfl)) (fun _ _ _ _ _ => pts_nil) (fun _ _ _ _ _ => (pc gis_number hr (pa_cons (pv 2) (pa_cons pe_int (pa_cons (pe_glob (v := V.int _) rfl hMOST_LABELS ⟨_, rfl⟩) pa_nil)))))) pa_nil))))
      (pss_one (ps_ret pe_bl))
      pss_nil)
    (pss_one (ps_ret (pe_cmpR op_le (pc gproduct_of hr (pa_cons (pv 1) pa_nil)) (pe_glob (v := V.int _) rfl hMOST_ROWS ⟨_, rfl⟩) (nomark _))))))), ?_⟩
  refine ⟨_, rfl, M, x, dD, 2, 4, rfl, hD, _, rfl, ?_⟩
  have no : areLabels dD dL = false → ∀ H', Same H H' → Q (.bl false) H' := fun e H' sm => by have := k H' sm; rw [e] at this; exact this
  cases hn : isNum dD 2 4 with
  | false =>
    refine iteT ?_
    refine no ?_ H (Same.refl _)
    unfold areLabels
    rw [hn]
    rfl
  | true =>
    refine iteF ?_
    obtain ⟨eD, l2, l4⟩ := num_of hn
    generalize numD dD = D at eD l2 l4
    subst eD
    obtain rfl := dn_int hD
    refine ⟨_, rfl, y, _, _, _, isTup dL, rfl, ClsV.ty _, hL.ty, kit_ty (kit_tup dL), _, rfl, ?_⟩
    cases ht : isTup dL with
    | false =>
      refine iteT ?_
      refine iteT ?_
      exact no (labels_no ht) H (Same.refl _)
    | true =>
      refine iteF ?_
      obtain ⟨ms, rfl⟩ := isTup_of ht
      have e1 : areLabels (.int D) (.tuple ms) = (decide (((ms.length : Nat) : Int) = D) && (ms.all (isNum · 1 60) && decide (prodD ms ≤ 4000))) := labels_tup hn
      rw [e1] at k no
      obtain ⟨a, xs, rfl, ha, hx⟩ := dn_tup hL
      refine ⟨_, rfl, a, _, rfl, .inr ha, _, rfl, _, _, rfl, rfl, _, rfl, ?_⟩
      rw [hx.len]
      cases hl : decide (((ms.length : Nat) : Int) = D) with
      | false =>
        refine iteT ?_
        exact no (by rw [hl]; rfl) H (Same.refl _)
      | true =>
        refine iteF ?_
        have hl' := dec_t hl
        rw [hl, Bool.true_and] at k no
        refine ⟨_, rfl, a, rfl, ⟨_, ha⟩, fun p hp => ?_⟩
        refine itt_walk (K := K) (a := a) (xs := xs) (fun i H' => Same H H' ∧ H' p = some (.lst (((ms.take i).map (isNum · 1 60)).map V.bl))) ⟨same_new hp _, upd_same⟩ (fun i H' _ z => z.1.seqT ha) ?_ ?_
        · rintro i v H' hv ⟨sm, hH⟩
          obtain ⟨dm, hdm, hvd⟩ := hx.of hv
          refine ⟨rfl, ?_⟩
          refine ⟨_, rfl, M, v, dm, 1, 60, rfl, hvd.stay (Same.go sm), ?_⟩
          refine ⟨_, hH, ?_, same_own sm hp _, ?_⟩
          · rw [List.length_map, List.length_map, List.length_take]
            exact Nat.lt_of_le_of_lt (show _ ≤ 1000 by omega) (by decide)
          · rw [upd_same, take_more hdm, List.map_append, List.map_append]
            rfl
        · rintro H' ⟨sm, hH⟩
          rw [List.take_of_length_le (by rw [hx.len]; exact Nat.le_refl _)] at hH
          refine ⟨p, _, rfl, SqL.of hH, ?_⟩
          rw [List.all_map]
          have e2 : ms.all (id ∘ (isNum · 1 60)) = ms.all (isNum · 1 60) := rfl
          refine ⟨_, rfl, ?_⟩
          rw [e2]
          cases hall : ms.all (isNum · 1 60) with
          | false =>
            refine iteT ?_
            exact no (by rw [hall]; rfl) H' sm
          | true =>
            refine iteF ?_
            rw [hall, Bool.true_and] at k
            have hms := labels_ints hall
            have ha2 : SqT K H' a ((ms.map numD).map V.int) := by
              have q := hx
              rw [hms] at q
              rw [← ints_vs q]
              exact sm.seqT ha
            exact ⟨_, rfl, a, ms, rfl, ha2, hall, by omega, _, _, rfl, rfl, k H' sm⟩
end

section
variable {P : Program} {w : World} {K : PySem.W.Frag} {mg : Str → Option Value} {base : Heap}
def spTaskB (K : PySem.W.Frag) : Sp := fun vs H Q _ => ∃ (M : Addr → Prop) (x : V) (d : PyData), vs = [x] ∧ Dn M K H x d ∧ d.bulk ≤ 1000000 ∧ WordOk d ∧ ∀ H', Same H H' → Q (.bl (isTask d)) H'
theorem is_word (d : PyData) : PyData.eqv d (.str "task") = isWord d := by
  rw [word_eqv]
  rfl
theorem labels_of {dD dL : PyData} (h : areLabels dD dL = true) : ∃ D, dD = .int D ∧ 2 ≤ D ∧ D ≤ 4 ∧ dL = tupI (intsD dL) ∧ (((intsD dL).length : Nat) : Int) = D := by
  unfold areLabels at h
  rw [Bool.and_eq_true] at h
  obtain ⟨h1, h2⟩ := h
  obtain ⟨e, l, u⟩ := num_of h1
  cases dL with
  | tuple ms =>
    have h2' : (decide (((ms.length : Nat) : Int) = numD dD) && (ms.all (isNum · 1 60) && decide (prodD ms ≤ 4000))) = true := h2
    rw [Bool.and_eq_true, Bool.and_eq_true, decide_eq_true_eq] at h2'
    refine ⟨numD dD, e, l, u, ?_, ?_⟩
    · show PyData.tuple ms = .tuple ((ms.map numD).map PyData.int)
      rw [← labels_ints h2'.2.1]
    · show (((ms.map numD).length : Nat) : Int) = _
      rw [List.length_map]
      exact h2'.1
  | _ => cases h2
theorem ok_taskb {f : Addr} {fd : FuncData} (B : Blt mg) (gare_labels : Has P w K mg base CX0 2 "are_labels" ["D", "labels"] (spLabels K)) (g_are_inputs : Has P w K mg base CX0 4 "_are_inputs" ["allowed", "labels"] (spInputs K))
    (F : Fun K "is_task" "is_task" sis_task f fd) : FnOk P w K mg base CX0 5 f fd ["task"] (spTaskB K) := by
  have sc : FnScope ["task", "_", "D", "labels", "white", "black"] ["task"] (defScope sis_task) := ⟨rfl, rfl, rfl, by decide +kernel, rfl, by decide +kernel, by decide +kernel⟩
  refine F.ok sc (fun vs H Q E h => ?_) (fun cdv A outer s H vs Q E hr h => ?_)
  · obtain ⟨_, _, _, rfl, _⟩ := h
    rfl
  obtain ⟨M, x, d, rfl, hd, hb, hw, k⟩ := h
  refine ⟨_, (pss_cons (ps_if (PW.pt (pw_or (pt_not (pt_val (pe_callB call_isi (by rfl) B.isinstance (by decide +kernel) (pa_cons (pv 0) (pa_cons (pe_bltn (v := V.ty "tuple") (u := Value.type "tuple") (by rfl) B.tuple (by decide +kernel) rfl) pa_nil))))) (pw_or (pt_cmpR op_nei (pe_callB call_len_seq (by rfl) B.len (by decide +kernel) (pa_cons (pv 0) pa_nil)) pe_int (nomark _)) (pw_or1 (pt_cmpR (op_neD hr.units) (pe_ix ix_tup (pv 0) pe_int (fun _ _ => rfl)) pe_str (nomark _))))))
      (pss_one (ps_ret pe_bl))
      pss_nil)
    (pss_cons (ps_asg (pv 0) (pg_tup rfl (pgs_cons (pg_name (i := 1) sc.nd rfl (Or.inl rfl)) (pgs_cons (pg_name (i := 2) sc.nd rfl (Or.inl rfl)) (pgs_cons (pg_name (i := 3) sc.nd rfl (Or.inl rfl)) (pgs_cons (pg_name (i := 4) sc.nd rfl (Or.inl rfl)) (pgs_cons (pg_name (i := 5) sc.nd rfl (Or.inl rfl)) pgs_nil)))))))
    (pss_cons (ps_if (pt_not (pt_val (pc gare_labels hr (pa_cons (pv 2) (pa_cons (pv 3) pa_nil)))))
      (pss_one (ps_ret pe_bl))
      pss_nil)
    (pss_one (ps_ret (pe_and (pc g_are_inputs hr (pa_cons (pv 4) (pa_cons (pv 3) pa_nil))) (pe_one (pc g_are_inputs hr (pa_cons (pv 5) (pa_cons (pv 3) pa_nil)))))))))), ?_⟩
  have no : isTask d = false → Q (.bl false) H := fun e => by have := k H (Same.refl _); rw [e] at this; exact this
  refine ⟨_, rfl, x, _, _, _, isTup d, rfl, ClsV.ty _, hd.ty, kit_ty (kit_tup d), _, rfl, ?_⟩
  cases ht : isTup d with
  | false =>
    refine iteT ?_
    refine iteT ?_
    exact no (by cases d <;> first | rfl | cases ht)
  | true =>
    refine iteF ?_
    obtain ⟨ds, rfl⟩ := isTup_of ht
    obtain ⟨a, xs, rfl, ha, hx⟩ := dn_tup hd
    refine ⟨_, rfl, a, _, rfl, .inr ha, _, _, rfl, rfl, _, rfl, ?_⟩
    by_cases hl : ds.length = 5
    · obtain ⟨d0, d1, d2, d3, d4, rfl⟩ : ∃ d0 d1 d2 d3 d4, ds = [d0, d1, d2, d3, d4] := by
        match ds, hl with
        | [d0, d1, d2, d3, d4], _ => exact ⟨_, _, _, _, _, rfl⟩
      have e5 : ((xs.length : Nat) : Int) = 5 := by rw [hx.len]; rfl
      rw [decide_eq_true e5]
      refine iteF ?_
      cases hx with
      | @cons v0 _ _ _ h0 hx =>
      cases hx with
      | @cons v1 _ _ _ h1 hx =>
      cases hx with
      | @cons v2 _ _ _ h2 hx =>
      cases hx with
      | @cons v3 _ _ _ h3 hx =>
      cases hx with
      | @cons v4 _ _ _ h4 hx =>
      cases hx
      have sh := hw d0 _ rfl rfl
      have eT : isTask (.tuple [d0, d1, d2, d3, d4]) = (isWord d0 && (areLabels d1 d2 && (areInputs (intsD d2) d3 && areInputs (intsD d2) d4))) := rfl
      rw [eT] at k no
      refine ⟨_, rfl, a, _, _, _, rfl, rfl, ha, at_of (j := 0) rfl rfl, _, _, shaped_dp h0 sh, .str "task", sh, by decide +kernel, _, rfl, ?_⟩
      rw [is_word]
      cases hwd : isWord d0 with
      | false =>
        refine iteT ?_
        exact no (by rw [hwd]; rfl)
      | true =>
        refine iteF ?_
        rw [hwd, Bool.true_and] at k no
        refine ⟨_, rfl, a, _, rfl, ha, rfl, _, _, rfl, _, _, rfl, _, _, rfl, _, _, rfl, _, _, rfl, rfl, ?_⟩
        refine ⟨_, rfl, _, rfl, M, v1, v2, d1, d2, rfl, h1, h2, fun H0 s0 => ⟨_, rfl, ?_⟩⟩
        cases hlb : areLabels d1 d2 with
        | false =>
          refine iteT ?_
          have q := k H0 s0
          rw [hlb] at q
          exact q
        | true =>
          refine iteF ?_
          rw [hlb, Bool.true_and] at k no
          obtain ⟨D, rfl, D2, D4, e2, e2l⟩ := labels_of hlb
          have h2' := h2
          rw [e2] at h2'
          obtain ⟨la, lxs, rfl, hla, hlx⟩ := dn_tup h2'
          rw [ints_vs hlx] at hla
          have few : (intsD d2).length ≤ 1000 := by omega
          refine ⟨_, rfl, _, rfl, M, v3, d3, la, _, rfl, h3.stay (Same.go s0), bulk_mem hb (by simp), s0.seqT hla, few, fun H1 s01 => ?_⟩
          have s1 := s0.trans s01
          refine ⟨_, rfl, ?_⟩
          cases hw3 : areInputs (intsD d2) d3 with
          | false =>
            refine iteF ?_
            have q := k H1 s1
            rw [hw3] at q
            exact q
          | true =>
            refine iteT ?_
            refine ⟨_, rfl, _, rfl, M, v4, d4, la, _, rfl, h4.stay (Same.go s1), bulk_mem hb (by simp), s1.seqT hla, few, fun H2 s2 => ?_⟩
            have q := k H2 (s1.trans s2)
            rw [hw3] at q
            exact q
    · have e5 : ¬ ((xs.length : Nat) : Int) = 5 := by rw [hx.len]; omega
      rw [decide_eq_false e5]
      refine iteT ?_
      refine iteT ?_
      refine no ?_
      match ds, hl with
      | [], _ => rfl
      | [_], _ => rfl
      | [_, _], _ => rfl
      | [_, _, _], _ => rfl
      | [_, _, _, _], _ => rfl
      | [_, _, _, _, _], hl => exact absurd rfl hl
      | _ :: _ :: _ :: _ :: _ :: _ :: _, _ => rfl
def spCheckT (K : PySem.W.Frag) (C : Addr) : Sp := fun vs H Q E => ∃ (M : Addr → Prop) (x : V) (d : PyData), vs = [x] ∧ Dn M K H x d ∧ d.bulk ≤ 1000000 ∧ WordOk d ∧ (isTask d = true → ∀ H', Same H H' → Q .non H') ∧ (isTask d = false → ∀ H', Same H H' → E (.ref C) none H')
theorem ok_checkt {C : Addr} {f : Addr} {fd : FuncData} (eBadTask : Err K mg "BadTask" C) (gis_task : Has P w K mg base CX0 5 "is_task" ["task"] (spTaskB K)) (F : Fun K "check_task" "check_task" scheck_task f fd) : FnOk P w K mg base (L2N.CX P w) 6 f fd ["task"] (spCheckT K C) := by
  have sc : FnScope ["task"] ["task"] (defScope scheck_task) := ⟨rfl, rfl, rfl, by decide +kernel, rfl, by decide +kernel, by decide +kernel⟩
  refine F.okXN sc (fun vs H Q E h => ?_) (fun cdv A outer s H vs Q E hr h => ?_)
  · obtain ⟨_, _, _, rfl, _⟩ := h
    rfl
  obtain ⟨M, x, d, rfl, hd, hb, hw, kt, kf⟩ := h
  refine ⟨_, (pss_one (ps_if (pt_not (pt_val (pc gis_task hr (pa_cons (pv 0) pa_nil))))
      (pss_one (L2N.ps_raise rfl (L2N.takes_of rfl rfl rfl rfl) (L2N.pmk_own PySem.F.excBase_ValueError eBadTask.xi eBadTask.g eBadTask.k (raises_own eBadTask.b eBadTask.t) rfl)))
      pss_nil)), ?_⟩
  refine ⟨_, rfl, M, x, d, rfl, hd, hb, hw, fun H' sm => ⟨_, rfl, ?_⟩⟩
  cases hn : isTask d with
  | true =>
    refine iteF ?_
    exact kt hn H' sm
  | false =>
    refine iteT ?_
    exact kf hn H' sm
/-- the parts of a task -/
theorem task_parts {d : PyData} (h : isTask d = true) : ∃ D ls dW dB, d = .tuple [.str "task", .int D, tupI ls, dW, dB] ∧ 2 ≤ D ∧ D ≤ 4 ∧ ((ls.length : Nat) : Int) = D ∧ areLabels (.int D) (tupI ls) = true ∧ areInputs ls dW = true ∧ areInputs ls dB = true := by
  cases d with
  | tuple ds =>
    match ds, h with
    | [w, dD, dL, dW, dB], h =>
      have h' : (isWord w && (areLabels dD dL && (areInputs (intsD dL) dW && areInputs (intsD dL) dB))) = true := h
      rw [Bool.and_eq_true, Bool.and_eq_true, Bool.and_eq_true] at h'
      obtain ⟨h1, h2, h3, h4⟩ := h'
      obtain ⟨D, rfl, D2, D4, e, el⟩ := labels_of h2
      have ew : w = .str "task" := by
        cases w with
        | str x =>
          have : decide (x = "task") = true := h1
          rw [dec_t this]
        | _ => cases h1
      rw [e] at h2
      exact ⟨D, intsD dL, dW, dB, by rw [ew, ← e], D2, D4, el, h2, h3, h4⟩
  | _ => cases h
end

/-! ### the law's drawn view -/
def datV (D : Nat) : {r : Nat} → Vw r → Nat → PyData
  | 0, .lf x, _ => .tuple [.int x]
  | _ + 1, .br x f, b => .tuple [.int x, .tuple ((List.range' 1 D).map fun c => if c = b then .none else datV D (f c) c)]
def VwS (m : Nat) : {r : Nat} → Vw r → Prop
  | 0, .lf x => x < m
  | _ + 1, .br x f => x < m ∧ ∀ c, VwS m (f c)
def Vw.dflt : (r : Nat) → Vw r
  | 0 => .lf 0
  | r + 1 => .br 0 (fun _ => Vw.dflt r)
theorem vwS_dflt {m : Nat} (h : 0 < m) : ∀ r, VwS m (Vw.dflt r)
  | 0 => by unfold Vw.dflt VwS; exact h
  | r + 1 => by unfold Vw.dflt VwS; exact ⟨h, fun _ => vwS_dflt h r⟩
theorem range1_succ (k : Nat) : List.range' 1 (k + 1) = List.range' 1 k ++ [k + 1] := by
  rw [List.range'_concat, show 1 + 1 * k = k + 1 by omega]
section
variable {P : Program} {w : World} {K : PySem.W.Frag} {mg : Str → Option Value} {base : Heap}
theorem go_free {M : Addr → Prop} {H H' : Hp} {p : Addr} (g : Go M H H') (m : ¬ M p) (h : H' p = none) : H p = none := by
  cases e : H p with
  | none => rfl
  | some o => rw [g.out _ _ m e] at h; cases h
def spDrawnV (K : PySem.W.Frag) (lvl : Nat) : Sp := fun vs H Q _ => ∃ (h d : Addr) (ds : List Int) (k D T : Nat) (own other b : Nat), vs = [.ref h, .int D, .int own, .int other, .int T, .int b] ∧ Hand H h d ds k ∧ 1 ≤ own ∧ own ≤ 4 ∧ 1 ≤ other ∧ other ≤ 4 ∧ D ≤ 4 ∧ T < lvl ∧
  ∀ (p : Addr) (H' : Hp) (k' : Nat) (v : Vw T), Go (· = h) H H' → Hand H' h d ds k' → Dt K H' (.ref p) (datV D v b) → VwS 4 v → Q (.ref p) H'
set_option maxHeartbeats 1000000 in
theorem ok_drawn (n : Nat) {f : Addr} {fd : FuncData} (B : Blt mg) (g_law_take : Has P w K mg base CX0 1 "_law_take" ["hand", "many"] (spTakeN K)) (g_law_drawn : Has P w K mg base CX0 (n + 1) "_law_drawn" ["hand", "colours", "own", "other", "reach", "back"] (spDrawnV K n))
    (F : Fun K "_law_drawn" "_law_drawn" s_law_drawn f fd) : FnOk P w K mg base CX0 (n + 2) f fd ["hand", "colours", "own", "other", "reach", "back"] (spDrawnV K (n + 1)) := by
  have sc : FnScope ["hand", "colours", "own", "other", "reach", "back", "number", "parts", "colour"] ["hand", "colours", "own", "other", "reach", "back"] (defScope s_law_drawn) := ⟨rfl, rfl, rfl, by decide +kernel, rfl, by decide +kernel, by decide +kernel⟩
  refine F.ok sc (fun vs H Q E h => ?_) (fun cdv A outer s H vs Q E hr h => ?_)
  · obtain ⟨_, _, _, _, _, _, _, _, _, rfl, _⟩ := h
    rfl
  obtain ⟨h, d, ds, n0, D, T, own, other, b, rfl, hh, o1, o4, u1, u4, hD, hT, k⟩ := h
  refine ⟨_, (pss_cons (ps_if (pt_cmpR op_eqi (pv 4) pe_int (nomark _))
      (pss_one (ps_ret (pe_tupN (pa_cons (pc g_law_take hr (pa_cons (pv 0) (pa_cons (pv 2) pa_nil))) pa_nil))))
      pss_nil)
    (pss_cons (ps_set (i := 6) sc.nd rfl (Or.inl rfl) (pc g_law_take hr (pa_cons (pv 0) (pa_cons (pv 2) pa_nil))))
    (pss_cons (ps_set (i := 7) sc.nd rfl (Or.inl rfl) (pe_lstN pa_nil))
    (pss_cons (ps_for PassesOwn.never rfl (pi_range2 (by rfl) B.range (pa_cons pe_int (pa_cons (pe_op op_add (pv 1) pe_int) pa_nil))) (pg_name (i := 8) sc.nd rfl (Or.inl rfl))
      (pss_one (ps_if (pt_cmpR op_eqi (pv 8) (pv 5) (nomark _))
        (pss_one (ps_expr (pe_bm PySem.F.plainAttrs_list PySem.F.slot_list_append PySem.F.type_list_append mt_append (pv 7) (pa_cons pe_non pa_nil))))
        (pss_one (ps_expr (pe_bm PySem.F.plainAttrs_list PySem.F.slot_list_append PySem.F.type_list_append mt_append (pv 7) (pa_cons (pc g_law_drawn hr (pa_cons (pv 0) (pa_cons (pv 1) (pa_cons (pv 3) (pa_cons (pv 2) (pa_cons (pe_op op_sub (pv 4) pe_int) (pa_cons (pv 8) pa_nil))))))) pa_nil)))))))
    (pss_one (ps_ret (pe_tupN (pa_cons (pv 6) (pa_cons (pe_callTy (show CallR _ _ (rTupN K) from call_tupN) (by rfl) B.tuple (by decide +kernel) (pa_cons (pv 7) pa_nil)) pa_nil))))))))), ?_⟩
  try dsimp only [cxOf]
  w_fin
  refine st_two (fun c => ?_) (fun c => ?_)
  · obtain rfl : T = 0 := by omega
    w_fin
    refine ⟨h, d, ds, n0, own, rfl, hh, by omega, by omega, fun r H1 r0 r1 hh1 g1 => ?_⟩
    w_fin
    intro p H2 _ s2 hp
    refine k p H2 (n0 + 1) (.lf r.toNat) (g1.trans s2.go) (hh1.same s2) ?_ ?_
    · rw [datV, show ((r.toNat : Nat) : Int) = r by omega]
      exact .tup (SqT.of hp) (.cons (.int _) .nil)
    · rw [VwS]
      omega
  obtain ⟨S, rfl⟩ : ∃ S, T = S + 1 := ⟨T - 1, by omega⟩
  w_fin
  refine ⟨h, d, ds, n0, own, rfl, hh, by omega, by omega, fun r H1 r0 r1 hh1 g1 => ?_⟩
  w_fin
  intro pl H2 hpl s2 epl
  have nh : ¬ pl = h := by
    rintro rfl
    rw [hh1.1] at hpl
    cases hpl
  have nd : ¬ pl = d := by
    rintro rfl
    rw [hh1.2] at hpl
    cases hpl
  have hh2 := hh1.same s2
  have gd : GD K (· = h) H pl [] H2 := .init (go_free g1 nh hpl) (g1.trans s2.go) epl
  w_fin
  refine fr_range (fun i σ H' => ∃ (m : Nat) (cv : Option V) (f : Nat → Vw S), σ = [some (.ref h), some (.int D), some (.int own), some (.int other), some (.int ((S + 1 : Nat) : Int)), some (.int b), some (.int r), some (.ref pl), cv] ∧ Hand H' h d ds m ∧ (∀ c, VwS 4 (f c)) ∧
    GD K (· = h) H pl ((List.range' 1 i).map fun c => if c = b then .none else datV D (f c) c) H') ⟨_, none, fun _ => Vw.dflt S, rfl, hh2, fun _ => vwS_dflt (by decide) S, gd⟩ ?_ ?_
  · rintro i σ H3 hi ⟨m, cv, f, rfl, hh3, hs, g3⟩
    w_fin
    refine st_two (fun c => ?_) (fun c => ?_)
    · obtain ⟨acc, e3, few, g4⟩ := g3.push (v := .non) (d := .none) .non (by rw [List.length_map, List.length_range']; omega)
      w_fin
      refine ⟨pl, _, _, rfl, rfl, e3, few, ?_⟩
      w_fin
      refine ⟨m, _, f, rfl, hh3.off nh nd _, hs, ?_⟩
      rw [range1_succ, List.map_append, List.map_singleton, if_pos (by omega)]
      exact g4
    · obtain ⟨acc0, e0, _⟩ := g3.ex
      w_fin
      refine ⟨h, d, ds, m, D, S, other, own, i + 1, ?_, hh3, u1, u4, o1, o4, hD, by omega, fun p H4 m4 v g4 hh4 hv hs4 => ?_⟩
      · rw [show (((S + 1 : Nat) : Int) - 1) = ((S : Nat) : Int) by omega, show (1 + (i : Int)) = ((i + 1 : Nat) : Int) by omega]
      have g5 := g3.step nh g4
      w_fin
      obtain ⟨acc, e5, few, g6⟩ := g5.push hv (by rw [List.length_map, List.length_range']; omega)
      refine ⟨pl, _, _, rfl, rfl, e5, few, ?_⟩
      w_fin
      refine ⟨m4, _, fun c => if c = i + 1 then v else f c, rfl, hh4.off nh nd _, fun c => ?_, ?_⟩
      · show VwS 4 (if c = i + 1 then v else f c)
        split
        · exact hs4
        · exact hs c
      · rw [range1_succ, List.map_append, List.map_singleton, if_neg (show ¬ i + 1 = b by omega)]
        rw [List.map_congr_left (g := fun c => if c = b then PyData.none else datV D (f c) c) (fun c hc => ?_)]
        · show GD K _ H pl (_ ++ [datV D (if i + 1 = i + 1 then v else f (i + 1)) (i + 1)]) _
          rw [if_pos rfl]
          exact g6
        · have := List.mem_range'_1.mp hc
          show (if c = b then PyData.none else datV D (if c = i + 1 then v else f c) c) = _
          rw [if_neg (show ¬ c = i + 1 by omega)]
  · rintro σ H3 ⟨m, cv, f, rfl, hh3, hs, g3⟩
    obtain ⟨acc, e3, dt⟩ := g3.ex
    w_fin
    intro t H4 _ s4 ht
    w_fin
    intro q H5 _ s5 hq
    have s45 := s4.trans s5
    refine k q H5 m (.br r.toNat f) (g3.go.trans s45.go) (hh3.same s45) ?_ ?_
    · rw [datV, show ((r.toNat : Nat) : Int) = r by omega]
      refine .tup (SqT.of hq) (.cons (.int _) (.cons (.tup (s5.seqT (SqT.of ht)) ?_) .nil))
      have eD : ((D : Int) + 1 - 1).toNat = D := by omega
      rw [eD] at dt
      exact dt.stay s45.tups
    · rw [VwS]
      exact ⟨by omega, hs⟩
theorem has_drawn (B : Blt mg) (d : Def K mg "_law_drawn" s_law_drawn ["hand", "colours", "own", "other", "reach", "back"]) (g : Has P w K mg base CX0 1 "_law_take" ["hand", "many"] (spTakeN K)) :
    ∀ n : Nat, Has P w K mg base CX0 (n + 1) "_law_drawn" ["hand", "colours", "own", "other", "reach", "back"] (spDrawnV K n)
  | 0 => d.has fun f fd F => by
    have no : ∀ vs H Q E, ¬ spDrawnV K 0 vs H Q E := fun vs H Q E h => by
      obtain ⟨_, _, _, _, _, _, _, _, _, _, _, _, _, _, _, _, h, _⟩ := h
      omega
    exact ⟨fun vs H Q E h => absurd h (no vs H Q E), fun A outer s H args us vs Q E _ _ _ _ h => absurd h (no vs H Q E)⟩
  | n + 1 => d.has fun f fd F => ok_drawn n B g (has_drawn B d g n) F
end
/-! ### the law's list of nodes -/
theorem tell_pre {D : Nat} : ∀ {r : Nat} (v : Vw r) (s : Nat) (u : Int) (b : Nat) (N : List NT), N <+: tellN D v s u b N
  | 0, .lf x, s, u, b, N => by
    rw [tellN]
    exact List.prefix_append _ _
  | r + 1, .br x f, s, u, b, N => by
    rw [tellN]
    have key : ∀ (l : List Nat) (M : List NT), M <+: l.foldl (fun M c => if c = b then M else tellN D (f c) (1 - s) ((N.length : Nat) : Int) c M) M := fun l => by
      induction l with
      | nil => exact fun M => List.prefix_refl _
      | cons c l ih =>
        intro M
        refine List.IsPrefix.trans ?_ (ih _)
        show M <+: if c = b then M else tellN D (f c) (1 - s) ((N.length : Nat) : Int) c M
        split
        · exact List.prefix_refl _
        · exact tell_pre (f c) _ _ _ _
    exact (List.prefix_append _ _).trans (key _ _)
/-- the nodes told of so far, after k colours -/
def tellK (D : Nat) {r : Nat} (x : Nat) (f : Nat → Vw r) (s : Nat) (u : Int) (b : Nat) (N : List NT) (k : Nat) : List NT := (List.range' 1 k).foldl (fun M c => if c = b then M else tellN D (f c) (1 - s) ((N.length : Nat) : Int) c M) (N ++ [(x, s, u, b)])
theorem tellK_all {D r : Nat} {x : Nat} {f : Nat → Vw r} {s : Nat} {u : Int} {b : Nat} {N : List NT} : tellN D (.br x f) s u b N = tellK D x f s u b N D := by
  rw [tellN]
  rfl
theorem tellK_succ {D r : Nat} {x : Nat} {f : Nat → Vw r} {s : Nat} {u : Int} {b : Nat} {N : List NT} {k : Nat} : tellK D x f s u b N (k + 1) = if k + 1 = b then tellK D x f s u b N k else tellN D (f (k + 1)) (1 - s) ((N.length : Nat) : Int) (k + 1) (tellK D x f s u b N k) := foldl_range _ _ _
theorem tellK_pre {D r : Nat} {x : Nat} {f : Nat → Vw r} {s : Nat} {u : Int} {b : Nat} {N : List NT} {k : Nat} : ∀ j : Nat, tellK D x f s u b N k <+: tellK D x f s u b N (k + j)
  | 0 => List.prefix_refl _
  | j + 1 => by
    refine (tellK_pre j).trans ?_
    rw [show k + (j + 1) = (k + j) + 1 from rfl, tellK_succ]
    split
    · exact List.prefix_refl _
    · exact tell_pre _ _ _ _ _
section
variable {P : Program} {w : World} {K : PySem.W.Frag} {mg : Str → Option Value} {base : Heap}
def ntV (t : NT) : List V := [.int ((t.1 : Nat) : Int), .int ((t.2.1 : Nat) : Int), .int t.2.2.1, .int ((t.2.2.2 : Nat) : Int)]
def NodesH (H : Hp) (q : Addr) (N : List NT) : Prop := ∃ as : List Addr, H q = some (.lst (as.map V.ref)) ∧ as.length = N.length ∧ ∀ (i : Nat) (a : Addr) (t : NT), as[i]? = some a → N[i]? = some t → H a = some (.lst (ntV t))
theorem NodesH.ne {H : Hp} {q a : Addr} {as : List Addr} {t : NT} (h : H q = some (.lst (as.map V.ref))) (e : H a = some (.lst (ntV t))) : ¬ a = q := by
  rintro rfl
  rw [h] at e
  cases as with
  | nil => cases e
  | cons b as => cases e
theorem NodesH.go {M : Addr → Prop} {H H' : Hp} {q : Addr} {N : List NT} (h : NodesH H q N) (m : ∀ a xs, M a → H a ≠ some (.lst xs)) (g : Go M H H') : NodesH H' q N := by
  obtain ⟨as, e, l, k⟩ := h
  exact ⟨as, g.out _ _ (fun z => m _ _ z e) e, l, fun i a t h1 h2 => g.out _ _ (fun z => m _ _ z (k i a t h1 h2)) (k i a t h1 h2)⟩
theorem NodesH.same {H H' : Hp} {q : Addr} {N : List NT} (h : NodesH H q N) (s : Same H H') : NodesH H' q N := by
  obtain ⟨as, e, l, k⟩ := h
  exact ⟨as, s _ _ e, l, fun i a t h1 h2 => s _ _ (k i a t h1 h2)⟩
theorem NodesH.push {H : Hp} {q a : Addr} {N : List NT} {t : NT} (h : NodesH H q N) (e : H a = some (.lst (ntV t))) (few : N.length ≤ 100000) :
    ∃ as : List Addr, H q = some (.lst (as.map V.ref)) ∧ (as.map V.ref).length < sizeLine ∧ NodesH (upd H q (.lst (as.map V.ref ++ [V.ref a]))) q (N ++ [t]) := by
  obtain ⟨as, eq, l, k⟩ := h
  refine ⟨as, eq, lt_small (by rw [List.length_map]; omega), as ++ [a], by rw [upd_same, List.map_append]; rfl, by rw [List.length_append, List.length_append, l]; rfl, fun i b u h1 h2 => ?_⟩
  have key : H b = some (.lst (ntV u)) := by
    by_cases r : i < as.length
    · rw [List.getElem?_append_left r] at h1
      rw [List.getElem?_append_left (by omega)] at h2
      exact k i b u h1 h2
    · have r1 := (List.getElem?_eq_some_iff.mp h1).1
      rw [List.length_append, List.length_singleton] at r1
      have r2 : i = as.length := by omega
      subst r2
      rw [List.getElem?_concat_length] at h1
      rw [l, List.getElem?_concat_length] at h2
      cases h1
      cases h2
      exact e
  rw [upd_ne (NodesH.ne eq key)]
  exact key
theorem NodesH.len {H : Hp} {q : Addr} {N : List NT} (h : NodesH H q N) : ∃ xs, H q = some (.lst xs) ∧ xs.length = N.length := by
  obtain ⟨as, e, l, _⟩ := h
  exact ⟨_, e, by rw [List.length_map, l]⟩
theorem NodesH.at {H : Hp} {q : Addr} {N : List NT} {i : Nat} {t : NT} (h : NodesH H q N) (e : N[i]? = some t) : ∃ (a : Addr) (xs : List V), H q = some (.lst xs) ∧ xs[i]? = some (.ref a) ∧ H a = some (.lst (ntV t)) := by
  obtain ⟨as, eq, l, k⟩ := h
  have hi : i < as.length := by have := (List.getElem?_eq_some_iff.mp e).1; omega
  have ha : as[i]? = some as[i] := List.getElem?_eq_getElem hi
  exact ⟨as[i], _, eq, by rw [List.getElem?_map, ha]; rfl, k i _ t ha e⟩
def spTold (K : PySem.W.Frag) (lvl : Nat) : Sp := fun vs H Q _ => ∃ (br q : Addr) (D T s b : Nat) (u : Int) (v : Vw T) (N : List NT), vs = [.ref br, .ref q, .int s, .int u, .int b] ∧ Dt K H (.ref br) (datV D v b) ∧ NodesH H q N ∧ s ≤ 1 ∧ D ≤ 4 ∧ T < lvl ∧ (tellN D v s u b N).length ≤ 100000 ∧
  ∀ H', Go (· = q) H H' → NodesH H' q (tellN D v s u b N) → Q .non H'
theorem leaf_inv {H : Hp} {p : Addr} {x : Int} (h : Dt K H (.ref p) (.tuple [.int x])) : SqT K H p [.int x] := by
  cases h with
  | tup a b => cases b with | cons c d => cases c; cases d; exact a
theorem br_inv {H : Hp} {p : Addr} {x : Int} {ps : List PyData} (h : Dt K H (.ref p) (.tuple [.int x, .tuple ps])) : ∃ l xs, SqT K H p [.int x, .ref l] ∧ SqT K H l xs ∧ DtAll K H xs ps := by
  cases h with
  | tup a b => cases b with | cons c d => cases c; cases d with | cons e f => cases f; cases e with | tup g k => exact ⟨_, _, a, g, k⟩
set_option maxHeartbeats 1000000 in
theorem ok_told (n : Nat) {f : Addr} {fd : FuncData} (B : Blt mg) (g_law_told : Has P w K mg base CX0 (n + 1) "_law_told" ["branch", "nodes", "side", "up", "back"] (spTold K n))
    (F : Fun K "_law_told" "_law_told" s_law_told f fd) : FnOk P w K mg base CX0 (n + 2) f fd ["branch", "nodes", "side", "up", "back"] (spTold K (n + 1)) := by
  have sc : FnScope ["branch", "nodes", "side", "up", "back", "here", "colour", "part"] ["branch", "nodes", "side", "up", "back"] (defScope s_law_told) := ⟨rfl, rfl, rfl, by decide +kernel, rfl, by decide +kernel, by decide +kernel⟩
  refine F.ok sc (fun vs H Q E h => ?_) (fun cdv A outer s H vs Q E hr h => ?_)
  · obtain ⟨_, _, _, _, _, _, _, _, _, rfl, _⟩ := h
    rfl
  obtain ⟨br, q, D, T, s, b, u, v, N, rfl, hb, hN, s1, hD, hT, few, k⟩ := h
  refine ⟨_, (pss_cons (ps_set (i := 5) sc.nd rfl (Or.inl rfl) (pe_callB call_len_seq (by rfl) B.len (by decide +kernel) (pa_cons (pv 1) pa_nil)))
    (pss_cons (ps_expr (pe_bm PySem.F.plainAttrs_list PySem.F.slot_list_append PySem.F.type_list_append mt_append (pv 1) (pa_cons (pe_lstN (pa_cons (pe_ix ix_tup (pv 0) pe_int (fun _ _ => rfl)) (pa_cons (pv 2) (pa_cons (pv 3) (pa_cons (pv 4) pa_nil))))) pa_nil)))
    (pss_one (ps_if (pt_cmpR op_gt (pe_callB call_len_seq (by rfl) B.len (by decide +kernel) (pa_cons (pv 0) pa_nil)) pe_int (nomark _))
      (pss_one (ps_for PassesOwn.never rfl (pi_range2 (by rfl) B.range (pa_cons pe_int (pa_cons (pe_op op_add (pe_callB call_len_seq (by rfl) B.len (by decide +kernel) (pa_cons (pe_ix ix_tup (pv 0) pe_int (fun _ _ => rfl)) pa_nil)) pe_int) pa_nil))) (pg_name (i := 6) sc.nd rfl (Or.inl rfl))
        (pss_cons (ps_set (i := 7) sc.nd rfl (Or.inl rfl) (pe_ix ix_tup (pe_ix ix_tup (pv 0) pe_int (fun _ _ => rfl)) (pe_op op_sub (pv 6) pe_int) (fun _ _ => rfl)))
        (pss_one (ps_if (pt_cmpR op_notN (pv 7) pe_non (nomark _))
          (pss_one (ps_expr (pc g_law_told hr (pa_cons (pv 7) (pa_cons (pv 1) (pa_cons (pe_op op_sub pe_int (pv 2)) (pa_cons (pv 5) (pa_cons (pv 6) pa_nil))))))))
          pss_nil)))))
      pss_nil)))), ?_⟩
  try dsimp only [cxOf]
  obtain ⟨xs0, e0, l0⟩ := hN.len
  have fewN : N.length ≤ 100000 := Nat.le_trans (tell_pre v s u b N).length_le few
  cases v with
  | lf x =>
    rw [datV] at hb
    have hb1 := leaf_inv hb
    w_fin
    intro a H1 _ s1' ha
    obtain ⟨as, eq, few1, hN2⟩ := (hN.same s1').push (t := (x, s, u, b)) ha fewN
    w_fin
    refine ⟨q, _, _, rfl, rfl, eq, few1, ?_⟩
    have hb2 : SqT K (upd H1 q (.lst (as.map V.ref ++ [V.ref a]))) br [V.int (x : Nat)] := (s1'.go.trans (Go.put (M := (· = q)) rfl eq)).seqT hb1
    have gg : Go (· = q) H (upd H1 q (.lst (as.map V.ref ++ [V.ref a]))) := s1'.go.trans (Go.put (M := (· = q)) rfl eq)
    rw [tellN] at k
    generalize upd H1 q (.lst (as.map V.ref ++ [V.ref a])) = H2 at hb2 gg hN2 ⊢
    w_fin
    exact k H2 gg hN2
  | br x g =>
    rename_i r
    rw [datV] at hb
    obtain ⟨l, xs, hb1, hb2, hb3⟩ := br_inv hb
    have lxs : xs.length = D := by rw [hb3.len, List.length_map, List.length_range']
    w_fin
    intro a H1 _ s1' ha
    obtain ⟨as, eq, few1, hN2⟩ := (hN.same s1').push (t := (x, s, u, b)) ha fewN
    w_fin
    refine ⟨q, _, _, rfl, rfl, eq, few1, ?_⟩
    have gg : Go (· = q) H (upd H1 q (.lst (as.map V.ref ++ [V.ref a]))) := s1'.go.trans (Go.put (M := (· = q)) rfl eq)
    generalize upd H1 q (.lst (as.map V.ref ++ [V.ref a])) = H2 at gg hN2 ⊢
    have hb12 := gg.seqT hb1
    have hb22 := gg.seqT hb2
    w_fin
    refine st_y (by show (1 : Int) < ((2 : Nat) : Int); decide) ?_
    w_fin
    refine fr_range (fun i σ H' => ∃ (cv pv : Option V), σ = [some (.ref br), some (.ref q), some (.int s), some (.int u), some (.int b), some (.int (xs0.length : Nat)), cv, pv] ∧ Go (· = q) H H' ∧ NodesH H' q (tellK D x g s u b N i)) ⟨none, none, rfl, gg, hN2⟩ ?_ ?_
    · rintro i σ H3 hi ⟨cv, pv, rfl, g3, h3⟩
      have hb13 := g3.seqT hb1
      have hb23 := g3.seqT hb2
      have hb33 := hb3.stay g3.tups
      obtain ⟨y, hy, dy⟩ := hb33.at (i := i) (d := if i + 1 = b then .none else datV D (g (i + 1)) (i + 1)) (by rw [List.getElem?_map, List.getElem?_range' (by omega)]; rw [show 1 + 1 * i = i + 1 by omega]; rfl)
      have e1 : atI xs (1 + (i : Int) - 1) = some y := at_of (j := i) (by omega) hy
      w_fin
      refine st_ixT hb23 e1 ?_
      w_fin
      refine ⟨rfl, _, rfl, ?_⟩
      by_cases hc : i + 1 = b
      · rw [if_pos hc] at dy
        cases dy
        refine iteF ?_
        w_fin
        refine ⟨_, _, rfl, g3, ?_⟩
        rw [tellK_succ, if_pos hc]
        exact h3
      · rw [if_neg hc] at dy
        have hsub := (tellK_pre (D := D) (x := x) (f := g) (s := s) (u := u) (b := b) (N := N) (k := i + 1) (D - (i + 1))).length_le
        rw [show i + 1 + (D - (i + 1)) = D by omega, tellK_succ, if_neg hc] at hsub
        rw [tellK_all] at few
        obtain ⟨pa, rfl⟩ : ∃ pa, y = .ref pa := by
          cases hv : g (i + 1) with
          | lf z => rw [hv, datV] at dy; cases dy; exact ⟨_, rfl⟩
          | br z h => rw [hv, datV] at dy; cases dy; exact ⟨_, rfl⟩
        refine iteT ?_
        w_fin
        refine ⟨pa, q, D, r, 1 - s, i + 1, (N.length : Nat), g (i + 1), _, ?_, dy, h3, by omega, hD, by omega, by omega, fun H4 g4 h4 => ?_⟩
        · rw [show ((1 : Int) - (s : Int)) = ((1 - s : Nat) : Int) by omega, show (1 + (i : Int)) = ((i + 1 : Nat) : Int) by omega, l0]
        · w_fin
          refine ⟨_, _, rfl, g3.trans g4, ?_⟩
          rw [tellK_succ, if_neg hc]
          exact h4
    · rintro σ H3 ⟨cv, pv, rfl, g3, h3⟩
      w_fin
      refine k H3 g3 ?_
      rw [tellK_all]
      rw [show ((xs.length : Int) + 1 - 1).toNat = D by omega] at h3
      exact h3
theorem has_told (B : Blt mg) (d : Def K mg "_law_told" s_law_told ["branch", "nodes", "side", "up", "back"]) :
    ∀ n : Nat, Has P w K mg base CX0 (n + 1) "_law_told" ["branch", "nodes", "side", "up", "back"] (spTold K n)
  | 0 => d.has fun f fd F => by
    have no : ∀ vs H Q E, ¬ spTold K 0 vs H Q E := fun vs H Q E h => by
      obtain ⟨_, _, _, _, _, _, _, _, _, _, _, _, _, _, h, _⟩ := h
      omega
    exact ⟨fun vs H Q E h => absurd h (no vs H Q E), fun A outer s H args us vs Q E _ _ _ _ h => absurd h (no vs H Q E)⟩
  | n + 1 => d.has fun f fd F => ok_told n B (has_told B d n) F
end
/-! ### the places of nodes and twins -/
section
variable {P : Program} {w : World} {K : PySem.W.Frag} {mg : Str → Option Value} {base : Heap}
def keyP (word : Str) (i : Int) : List L2.Key := [Sum.inr word, Sum.inl i]
def nS (N : List NT) (s : Nat) : Nat := (ix N s N.length).length
structure PlOk (N : List NT) (s k1 k2 : Nat) (kvs : List (List L2.Key × V)) : Prop where
  len : kvs.length = (ix N s k1).length + (ix N (1 - s) k2).length
  node : ∀ i : Nat, valV kvs (keyP "node" i) = if i < k1 ∧ sdv N i = s then some (.int (rk N i)) else none
  twin : ∀ i : Nat, valV kvs (keyP "twin" i) = if i < k2 ∧ sdv N i = 1 - s then some (.int ((nS N s : Int) + rk N i)) else none
theorem keyP_node {i j : Nat} : (keyP "node" (i : Int) = keyP "node" (j : Int)) ↔ i = j := by
  unfold keyP
  constructor
  · intro h
    injection h with _ h
    injection h with h _
    injection h with h
    omega
  · rintro rfl
    rfl
theorem keyP_twin {i j : Nat} : (keyP "twin" (i : Int) = keyP "twin" (j : Int)) ↔ i = j := by
  unfold keyP
  constructor
  · intro h
    injection h with _ h
    injection h with h _
    injection h with h
    omega
  · rintro rfl
    rfl
theorem keyP_ne {i j : Int} : ¬ keyP "node" i = keyP "twin" j := by
  unfold keyP
  intro h
  injection h with h _
  injection h with h
  exact absurd h (by decide)
theorem PlOk.start (N : List NT) (s : Nat) : PlOk N s 0 0 [] := ⟨rfl, fun i => by rw [if_neg (by omega)]; rfl, fun i => by rw [if_neg (by omega)]; rfl⟩
theorem putK_len {κ : Type} [DecidableEq κ] {kvs : List (κ × V)} {k : κ} {v : V} (h : valV kvs k = none) : (putK kvs k v).length = kvs.length + 1 := by
  rw [putK_new v h, List.length_append]
  rfl
theorem PlOk.node_put {N : List NT} {s k : Nat} {kvs : List (List L2.Key × V)} (h : PlOk N s k 0 kvs) (e : sdv N k = s) : PlOk N s (k + 1) 0 (putK kvs (keyP "node" k) (.int kvs.length)) := by
  have h0 : valV kvs (keyP "node" k) = none := by rw [h.node, if_neg (by omega)]
  have l0 : kvs.length = (ix N s k).length := by rw [h.len]; rfl
  have lr : rk N k = kvs.length := by rw [l0]; unfold rk; rw [e]
  refine ⟨?_, fun i => ?_, fun i => ?_⟩
  · rw [putK_len h0, ix_succ, if_pos e, List.length_append, l0]
    rfl
  · rw [valV_put, h.node]
    by_cases q : i = k
    · subst q
      rw [if_pos rfl, if_pos ⟨by omega, e⟩, lr]
    · rw [if_neg (fun z => q (keyP_node.mp z))]
      by_cases r : i < k ∧ sdv N i = s
      · rw [if_pos r, if_pos ⟨by omega, r.2⟩]
      · rw [if_neg r, if_neg (by omega)]
  · rw [valV_put, if_neg (fun z => keyP_ne z.symm), h.twin]
theorem PlOk.node_skip {N : List NT} {s k : Nat} {kvs : List (List L2.Key × V)} (h : PlOk N s k 0 kvs) (e : ¬ sdv N k = s) : PlOk N s (k + 1) 0 kvs := by
  refine ⟨by rw [h.len, ix_succ, if_neg e], fun i => ?_, h.twin⟩
  rw [h.node]
  by_cases r : i < k ∧ sdv N i = s
  · rw [if_pos r, if_pos ⟨by omega, r.2⟩]
  · rw [if_neg r, if_neg (fun z => r ⟨by have : i ≠ k := fun y => e (y ▸ z.2); omega, z.2⟩)]
theorem PlOk.twin_put {N : List NT} {s k : Nat} {kvs : List (List L2.Key × V)} (h : PlOk N s N.length k kvs) (e : sdv N k = 1 - s) : PlOk N s N.length (k + 1) (putK kvs (keyP "twin" k) (.int kvs.length)) := by
  have h0 : valV kvs (keyP "twin" k) = none := by rw [h.twin, if_neg (by omega)]
  have lr : (kvs.length : Int) = (nS N s : Int) + rk N k := by rw [h.len]; unfold rk nS; rw [e]; omega
  refine ⟨?_, fun i => ?_, fun i => ?_⟩
  · rw [putK_len h0, ix_succ, if_pos e, List.length_append, h.len]
    rfl
  · rw [valV_put, if_neg keyP_ne, h.node]
  · rw [valV_put, h.twin]
    by_cases q : i = k
    · subst q
      rw [if_pos rfl, if_pos ⟨by omega, e⟩, lr]
    · rw [if_neg (fun z => q (keyP_twin.mp z))]
      by_cases r : i < k ∧ sdv N i = 1 - s
      · rw [if_pos r, if_pos ⟨by omega, r.2⟩]
      · rw [if_neg r, if_neg (by omega)]
theorem PlOk.twin_skip {N : List NT} {s k : Nat} {kvs : List (List L2.Key × V)} (h : PlOk N s N.length k kvs) (e : ¬ sdv N k = 1 - s) : PlOk N s N.length (k + 1) kvs := by
  refine ⟨by rw [h.len, ix_succ, if_neg e], h.node, fun i => ?_⟩
  rw [h.twin]
  by_cases r : i < k ∧ sdv N i = 1 - s
  · rw [if_pos r, if_pos ⟨by omega, r.2⟩]
  · rw [if_neg r, if_neg (fun z => r ⟨by have : i ≠ k := fun y => e (y ▸ z.2); omega, z.2⟩)]
def spPlaces (K : PySem.W.Frag) : Sp := fun vs H Q _ => ∃ (q : Addr) (s : Nat) (N : List NT), vs = [.ref q, .int s] ∧ NodesH H q N ∧ N.length ≤ 10000 ∧ s ≤ 1 ∧ (∀ i, i < N.length → sdv N i ≤ 1) ∧
  ∀ (p : Addr) (H' : Hp) (kvs : List (List L2.Key × V)), Same H H' → H' p = some (.dT kvs) → PlOk N s N.length N.length kvs → Q (.ref p) H'
set_option maxHeartbeats 1000000 in
theorem ok_places {f : Addr} {fd : FuncData} (B : Blt mg) (F : Fun K "_law_places" "_law_places" s_law_places f fd) : FnOk P w K mg base CX0 1 f fd ["nodes", "side"] (spPlaces K) := by
  have sc : FnScope ["nodes", "side", "places", "k"] ["nodes", "side"] (defScope s_law_places) := ⟨rfl, rfl, rfl, by decide +kernel, rfl, by decide +kernel, by decide +kernel⟩
  refine F.ok sc (fun vs H Q E h => ?_) (fun cdv A outer s H vs Q E hr h => ?_)
  · obtain ⟨_, _, _, rfl, _⟩ := h
    rfl
  obtain ⟨q, s, N, rfl, hN, few, s1, sd1, kk⟩ := h
  refine ⟨_, (pss_cons (ps_set (i := 2) sc.nd rfl (Or.inl rfl) pe_dnewT)
    (pss_cons (ps_for PassesOwn.never rfl (pi_range1 (by rfl) B.range (pa_cons (pe_callB call_len_seq (by rfl) B.len (by decide +kernel) (pa_cons (pv 0) pa_nil)) pa_nil)) (pg_name (i := 3) sc.nd rfl (Or.inl rfl))
      (pss_one (ps_if (pt_cmpR op_eqi (pe_ix ix_list (pe_ix ix_list (pv 0) (pv 3) (fun _ _ => rfl)) pe_int (fun _ _ => rfl)) (pv 1) (nomark _))
        (pss_one (ps_asg (pe_callB call_len_dT (by rfl) B.len (by decide +kernel) (pa_cons (pv 2) pa_nil)) (pg_sub (pv 2) (pe_tupN (pa_cons pe_str (pa_cons (pv 3) pa_nil))) (set_dict (hu_of hr)))))
        pss_nil)))
    (pss_cons (ps_for PassesOwn.never rfl (pi_range1 (by rfl) B.range (pa_cons (pe_callB call_len_seq (by rfl) B.len (by decide +kernel) (pa_cons (pv 0) pa_nil)) pa_nil)) (pg_name (i := 3) sc.nd rfl (Or.inl rfl))
      (pss_one (ps_if (pt_cmpR op_nei (pe_ix ix_list (pe_ix ix_list (pv 0) (pv 3) (fun _ _ => rfl)) pe_int (fun _ _ => rfl)) (pv 1) (nomark _))
        (pss_one (ps_asg (pe_callB call_len_dT (by rfl) B.len (by decide +kernel) (pa_cons (pv 2) pa_nil)) (pg_sub (pv 2) (pe_tupN (pa_cons pe_str (pa_cons (pv 3) pa_nil))) (set_dict (hu_of hr)))))
        pss_nil)))
    (pss_one (ps_ret (pv 2)))))), ?_⟩
  try dsimp only [cxOf]
  obtain ⟨xs0, e0, l0⟩ := hN.len
  w_fin
  intro d hd
  have s1' := same_new hd (.dT [])
  have e1 : (upd H d (.dT [])) d = some (.dT []) := upd_same
  generalize upd H d (.dT []) = H1 at s1' e1 ⊢
  have e01 := s1' _ _ e0
  w_fin
  have ixl : ∀ s k, (ix N s k).length ≤ k := fun s k => Nat.le_trans (List.length_filter_le _ _) (Nat.le_of_eq List.length_range)
  refine fr_range (fun i σ H' => ∃ (cv : Option V) (kvs : List (List L2.Key × V)), σ = [some (.ref q), some (.int s), some (.ref d), cv] ∧ Same H H' ∧ H' d = some (.dT kvs) ∧ PlOk N s i 0 kvs) ⟨none, [], rfl, s1', e1, .start N s⟩ ?_ ?_
  · rintro i σ H2 hi ⟨cv, kvs, rfl, s2, e2, ok⟩
    obtain ⟨a, xs, eq, ea, et⟩ := (hN.same s2).at (i := i) (t := N[i]'(by omega)) (List.getElem?_eq_getElem (by omega))
    have esd : sdv N i = (N[i]'(by omega)).2.1 := sdv_of (List.getElem?_eq_getElem (by omega))
    have ln : kvs.length ≤ 20000 := by
      rw [ok.len]
      have a1 := ixl s i
      have a2 := ixl (1 - s) 0
      omega
    w_fin
    refine st_ixL (SqL.of eq) (at_of (j := i) (by omega) ea) ?_
    w_fin
    refine st_two (fun c => ?_) (fun c => ?_)
    · w_fin
      refine ⟨d, kvs, rfl, e2, ?_⟩
      w_fin
      intro b H3 fb s3 eb
      have e3 := s3 _ _ e2
      refine ⟨d, _, rfl, .t (k := keyP "node" i) e3 ?_ (lt_small (by omega)), ?_⟩
      · rw [eb]
        unfold keyP
        rw [show (0 + (i : Int)) = (i : Int) by omega]
        rfl
      refine ⟨_, _, rfl, same_own (s2.trans s3) hd _, upd_same, ok.node_put (by omega)⟩
    · w_fin
      exact ⟨_, _, rfl, s2, e2, ok.node_skip (by omega)⟩
  · rintro σ H2 ⟨cv, kvs, rfl, s2, e2, ok⟩
    have e02 := s2 _ _ e0
    rw [show ((xs0.length : Nat) : Int).toNat = N.length by omega] at ok
    w_fin
    refine fr_range (fun i σ H' => ∃ (cv : Option V) (kvs : List (List L2.Key × V)), σ = [some (.ref q), some (.int s), some (.ref d), cv] ∧ Same H H' ∧ H' d = some (.dT kvs) ∧ PlOk N s N.length i kvs) ⟨cv, kvs, rfl, s2, e2, ok⟩ ?_ ?_
    · rintro i σ H2 hi ⟨cv, kvs, rfl, s2, e2, ok⟩
      obtain ⟨a, xs, eq, ea, et⟩ := (hN.same s2).at (i := i) (t := N[i]'(by omega)) (List.getElem?_eq_getElem (by omega))
      have esd : sdv N i = (N[i]'(by omega)).2.1 := sdv_of (List.getElem?_eq_getElem (by omega))
      have sdi := sd1 i (by omega)
      have ln : kvs.length ≤ 20000 := by
        rw [ok.len]
        have a1 := ixl s N.length
        have a2 := ixl (1 - s) i
        omega
      w_fin
      refine st_ixL (SqL.of eq) (at_of (j := i) (by omega) ea) ?_
      w_fin
      refine st_ntwo (fun c => ?_) (fun c => ?_)
      · w_fin
        refine ⟨d, kvs, rfl, e2, ?_⟩
        w_fin
        intro b H3 fb s3 eb
        have e3 := s3 _ _ e2
        refine ⟨d, _, rfl, .t (k := keyP "twin" i) e3 ?_ (lt_small (by omega)), ?_⟩
        · rw [eb]
          unfold keyP
          rw [show (0 + (i : Int)) = (i : Int) by omega]
          rfl
        refine ⟨_, _, rfl, same_own (s2.trans s3) hd _, upd_same, ok.twin_put (by omega)⟩
      · w_fin
        exact ⟨_, _, rfl, s2, e2, ok.twin_skip (by omega)⟩
    · rintro σ H2 ⟨cv, kvs, rfl, s2, e2, ok⟩
      w_fin
      rw [show ((xs0.length : Nat) : Int).toNat = N.length by omega] at ok
      exact kk d H2 kvs s2 e2 ok
end
/-! ### the inputs of a side -/
def inpN (N : List NT) (i : Nat) : Int := (((N[i]?).map (fun t => t.1)).getD 0 : Nat)
theorem inpN_of {N : List NT} {i : Nat} {t : NT} (e : N[i]? = some t) : inpN N i = ((t.1 : Nat) : Int) := by
  unfold inpN
  rw [e]
  rfl
def inpL (N : List NT) (s : Nat) : List Int := (ix N s N.length).map (inpN N) ++ (ix N (1 - s) N.length).map (fun _ => 0)
section
variable {P : Program} {w : World} {K : PySem.W.Frag} {mg : Str → Option Value} {base : Heap}
def spInputsV (K : PySem.W.Frag) : Sp := fun vs H Q _ => ∃ (q : Addr) (s : Nat) (N : List NT), vs = [.ref q, .int s] ∧ NodesH H q N ∧ N.length ≤ 10000 ∧ s ≤ 1 ∧ (∀ i, i < N.length → sdv N i ≤ 1) ∧
  ∀ (p : Addr) (H' : Hp), Same H H' → SqT K H' p ((inpL N s).map V.int) → Q (.ref p) H'
set_option maxHeartbeats 1000000 in
theorem ok_inputsv {f : Addr} {fd : FuncData} (B : Blt mg) (F : Fun K "_law_inputs" "_law_inputs" s_law_inputs f fd) : FnOk P w K mg base CX0 1 f fd ["nodes", "side"] (spInputsV K) := by
  have sc : FnScope ["nodes", "side", "first", "node"] ["nodes", "side"] (defScope s_law_inputs) := ⟨rfl, rfl, rfl, by decide +kernel, rfl, by decide +kernel, by decide +kernel⟩
  refine F.ok sc (fun vs H Q E h => ?_) (fun cdv A outer s H vs Q E hr h => ?_)
  · obtain ⟨_, _, _, rfl, _⟩ := h
    rfl
  obtain ⟨q, s, N, rfl, hN, few, s1, sd1, kk⟩ := h
  refine ⟨_, (pss_cons (ps_setLc (i := 2) (own := [("node", 3)]) (g := gName 3) rfl sc.nd rfl rfl (sw_true rfl rfl rfl (by decide +kernel)) (pi_list (pv 0)) (blkOk_by (N := ["nodes", "side", "first", "node"]) (sc := defScope s_law_inputs) (by decide +kernel)) (fun _ _ _ _ _ => pg_name (i := 3) sc.nd rfl (Or.inl rfl)) (fun _ _ _ _ _ => pts_one (pt_cmpR op_eqi (pe_ix (show IxR _ (rIxL K) from ix_list) (pv 3) pe_int (fun _ _ => rfl)) (pv 1) (nomark _))) (fun _ _ _ _ _ => (pe_ix (show IxR _ (rIxL K) from ix_list) (pv 3) pe_int (fun _ _ => rfl))))
    (pss_one (ps_ret (pe_callTy (show CallR _ _ (rTupN K) from call_tupN) (by rfl) B.tuple (by decide +kernel) (pa_cons (pe_op (show OpR _ _ rCatN from op_catN) (pv 2) (pe_lc (own := [("node", 3)]) (g := gName 3) rfl sc.nd (pi_list (pv 0)) (blkOk_by (N := ["nodes", "side", "first", "node"]) (sc := defScope s_law_inputs) (by decide +kernel)) (fun _ _ _ _ _ => pg_name (i := 3) sc.nd rfl (Or.inl rfl)) (fun _ _ _ _ _ => pts_one (pt_cmpR op_nei (pe_ix (show IxR _ (rIxL K) from ix_list) (pv 3) pe_int (fun _ _ => rfl)) (pv 1) (nomark _))) (fun _ _ _ _ _ => pe_int))) pa_nil))))), ?_⟩
  try dsimp only [cxOf]
  obtain ⟨as, e0, l0, k0⟩ := id hN
  have ixl : ∀ s k, (ix N s k).length ≤ k := fun s k => Nat.le_trans (List.length_filter_le _ _) (Nat.le_of_eq List.length_range)
  w_fin
  intro l hl
  have ati : ∀ {i : Nat} {x : V} {H1 : Hp}, Same H H1 → (as.map V.ref)[i]? = some x → ∃ (a : Addr) (t : NT), x = .ref a ∧ N[i]? = some t ∧ H1 a = some (.lst (ntV t)) ∧ i < N.length := by
    intro i x H1 ss hx
    rw [List.getElem?_map] at hx
    obtain ⟨a, ha, rfl⟩ := Option.map_eq_some_iff.mp hx
    have hi : i < N.length := by have := (List.getElem?_eq_some_iff.mp ha).1; omega
    exact ⟨a, N[i], rfl, List.getElem?_eq_getElem hi, ss _ _ (k0 i a _ ha (List.getElem?_eq_getElem hi)), hi⟩
  refine itl_walk (xs := as.map V.ref) (fun i H' => AccI H l ((ix N s i).map (inpN N)) H') (AccI.start hl) (fun i H1 _ a => SqL.of (a.same _ _ e0)) ?_ ?_
  · rintro i x H1 hx acc
    obtain ⟨a, t, rfl, et, ea, hi⟩ := ati acc.same hx
    have esd := sdv_of et
    w_fin
    refine st_two (fun c => ?_) (fun c => ?_)
    · w_fin
      refine acc.fin (z := ((t.1 : Nat) : Int)) (by rw [List.length_map]; have := ixl s i; omega) fun H' a' => ?_
      rw [ix_succ, if_pos (by omega), List.map_append, List.map_singleton, inpN_of et]
      exact a'
    · w_fin
      rw [ix_succ, if_neg (by omega)]
      exact acc
  · intro H1 acc
    have e1 := acc.ex
    have s1' := acc.same
    rw [List.length_map, l0] at e1
    have e01 := s1' _ _ e0
    w_fin
    intro l2 hl2
    refine itl_walk (xs := as.map V.ref) (fun i H' => AccI H1 l2 ((ix N (1 - s) i).map (fun _ => 0)) H') (AccI.start hl2) (fun i H1 _ a => SqL.of (a.same _ _ (s1' _ _ e0))) ?_ ?_
    · rintro i x H2 hx acc
      obtain ⟨a, t, rfl, et, ea, hi⟩ := ati (s1'.trans acc.same) hx
      have esd := sdv_of et
      have sdi := sd1 i hi
      w_fin
      refine st_ntwo (fun c => ?_) (fun c => ?_)
      · w_fin
        refine acc.fin (z := 0) (by rw [List.length_map]; have := ixl (1 - s) i; omega) fun H' a' => ?_
        rw [ix_succ, if_pos (by omega), List.map_append, List.map_singleton]
        exact a'
      · w_fin
        rw [ix_succ, if_neg (by omega)]
        exact acc
    · intro H2 acc2
      have e2 := acc2.ex
      have e12 := acc2.same _ _ e1
      rw [List.length_map, l0] at e2
      w_fin
      refine ⟨l, l2, _, _, rfl, rfl, e12, e2, ?_, ?_⟩
      · rw [List.length_map, List.length_map, List.length_map, List.length_map]
        have := ixl s N.length
        have := ixl (1 - s) N.length
        exact le_sz (by omega)
      intro l3 H3 f3 s3 e3
      w_fin
      intro p H4 f4 s4 e4
      refine kk p H4 (((s1'.trans acc2.same).trans s3).trans s4) ?_
      have := SqT.of (K := K) e4
      rw [← List.map_append] at this
      exact this
theorem spI_dummy : True := trivial
end
/-! ### the rows that the law writes -/
def nodesV (D : Nat) {r : Nat} (v : Vw r) (s : Nat) : List NT := tellN D v s (-1) 0 []
def nbV (D : Nat) {r : Nat} (v : Vw r) : NB := (tellE D v 0 0 (fun _ _ => none)).2
theorem netV_nv {D r : Nat} (v : Vw r) {s : Nat} (hs : s ≤ 1) : NetV D (nodesV D v s) (nbV D v) ∧ (nodesV D v s)[0]? = some (v.top, s, -1, 0) ∧ Rep D (nodesV D v s) (nbV D v) v s 0 0 := by
  obtain ⟨nb, T, e, top, re⟩ := netV_of (D := D) v s hs
  have e2 : nbV D v = nb := by unfold nbV; rw [e]
  rw [e2]
  exact ⟨T, top, re⟩
def lkRows (D : Nat) (N : List NT) (nb : NB) : List (List Int) := (List.range D).map fun c => lkAll N nb (c + 1)
def netOf (D : Nat) (N : List NT) (nb : NB) : PyData := .tuple [.str "network", .int (N.length : Nat), .tuple ((lkRows D N nb).map tupI), tupI (inpL N 0), tupI (inpL N 1)]
def hasF (D : Nat) (nb : NB) (kk k : Nat) : List Bool := (List.range D).map fun c => (nbk nb kk k (c + 1)).isSome
theorem range_map_set {α : Type} {D c : Nat} (hc : c < D) (F : Nat → α) (v : α) : ((List.range D).map F).set c v = (List.range D).map (fun d => if d = c then v else F d) := by
  refine List.ext_getElem? (fun q => ?_)
  rw [List.getElem?_set, List.getElem?_map, List.getElem?_map, List.length_map, List.length_range]
  by_cases r : c = q
  · subst r
    rw [if_pos rfl, if_pos hc, List.getElem?_range hc]
    show _ = some (if c = c then v else F c)
    rw [if_pos rfl]
  · rw [if_neg r]
    by_cases h : q < D
    · rw [List.getElem?_range h]
      show some (F q) = some (if q = c then v else F q)
      rw [if_neg (fun z => r z.symm)]
    · rw [List.getElem?_eq_none (by rw [List.length_range]; omega)]
      rfl
theorem has_edge {D : Nat} {N : List NT} {nb : NB} (T : NetV D N nb) {k u c : Nat} (hk : 0 < k) (e : Up N k u (c + 1)) (hc : c < D) :
    (∀ i, i ≠ k → i ≠ u → hasF D nb (k + 1) i = hasF D nb k i) ∧ (hasF D nb k k).set c true = hasF D nb (k + 1) k ∧ (hasF D nb k u).set c true = hasF D nb (k + 1) u := by
  obtain ⟨uk, _⟩ := T.ups _ _ _ hk e
  unfold hasF
  refine ⟨fun i a b => List.map_congr_left (fun d _ => ?_), ?_, ?_⟩
  · rw [nbk_succ T hk e, if_neg (fun z => a z.1), if_neg (fun z => b z.1)]
  · rw [range_map_set hc]
    refine List.map_congr_left (fun d _ => ?_)
    show (if d = c then true else (nbk nb k k (d + 1)).isSome) = _
    rw [nbk_succ T hk e]
    by_cases q : d = c
    · rw [if_pos q, if_pos ⟨rfl, by omega⟩]
      rfl
    · rw [if_neg q, if_neg (by omega), if_neg (by omega)]
  · rw [range_map_set hc]
    refine List.map_congr_left (fun d _ => ?_)
    show (if d = c then true else (nbk nb k u (d + 1)).isSome) = _
    rw [nbk_succ T hk e]
    by_cases q : d = c
    · rw [if_pos q, if_neg (by omega), if_pos ⟨rfl, by omega⟩]
      rfl
    · rw [if_neg q, if_neg (by omega), if_neg (by omega)]
theorem has_root {D : Nat} {N : List NT} {nb : NB} (T : NetV D N nb) (i : Nat) : hasF D nb 1 i = hasF D nb 0 i := by
  unfold hasF
  refine List.map_congr_left (fun d _ => ?_)
  unfold nbk
  rcases h : nb i (d + 1) with _ | j
  · rfl
  · rw [Option.filter_some, Option.filter_some, if_neg (by simp; intro a b; have := T.side h; subst a; subst b; omega), if_neg (by simp)]
theorem has_start (D : Nat) (nb : NB) (i : Nat) : hasF D nb 0 i = List.replicate D false := by
  have : hasF D nb 0 i = (List.range D).map (fun _ => false) := by
    unfold hasF
    refine List.map_congr_left (fun d _ => ?_)
    unfold nbk
    rcases h : nb i (d + 1) with _ | j
    · rfl
    · rw [Option.filter_some, if_neg (by simp)]
      rfl
  rw [this, List.map_const', List.length_range]
section
variable {P : Program} {w : World} {K : PySem.W.Frag} {mg : Str → Option Value} {base : Heap}
structure DueS (H1 H : Hp) (lq hq : Addr) (las has : List Addr) (L : Nat → List Int) (B : Nat → List Bool) : Prop where
  go : Go (fun a => a ∈ las ∨ a ∈ has) H1 H
  fr : ∀ a, (a ∈ las ∨ a ∈ has) → H1 a = none
  nl : las.Nodup
  nh : has.Nodup
  dj : ∀ a, a ∈ las → ¬ a ∈ has
  ql : ¬ (lq ∈ las ∨ lq ∈ has)
  qh : ¬ (hq ∈ las ∨ hq ∈ has)
  el : H lq = some (.lst (las.map V.ref))
  eh : H hq = some (.lst (has.map V.ref))
  rl : ∀ (c : Nat) (a : Addr), las[c]? = some a → H a = some (.lst ((L c).map V.int))
  rh : ∀ (k : Nat) (a : Addr), has[k]? = some a → H a = some (.lst ((B k).map V.bl))
theorem DueS.same {H1 H H' : Hp} {lq hq : Addr} {las has : List Addr} {L : Nat → List Int} {B : Nat → List Bool} (d : DueS H1 H lq hq las has L B) (s : Same H H') : DueS H1 H' lq hq las has L B :=
  ⟨d.go.trans s.go, d.fr, d.nl, d.nh, d.dj, d.ql, d.qh, s _ _ d.el, s _ _ d.eh, fun c a h => s _ _ (d.rl c a h), fun k a h => s _ _ (d.rh k a h)⟩
theorem DueS.eq {H1 H : Hp} {lq hq : Addr} {las has : List Addr} {L L' : Nat → List Int} {B B' : Nat → List Bool} (d : DueS H1 H lq hq las has L B) (a : ∀ c, c < las.length → L' c = L c) (b : ∀ k, k < has.length → B' k = B k) : DueS H1 H lq hq las has L' B' :=
  ⟨d.go, d.fr, d.nl, d.nh, d.dj, d.ql, d.qh, d.el, d.eh, fun c x h => by rw [a c (List.getElem?_eq_some_iff.mp h).1]; exact d.rl c x h, fun k x h => by rw [b k (List.getElem?_eq_some_iff.mp h).1]; exact d.rh k x h⟩
theorem nd_ne {l : List Addr} (nd : l.Nodup) {i j : Nat} {a b : Addr} (h : l[i]? = some a) (k : l[j]? = some b) (ne : i ≠ j) : a ≠ b := by
  rintro rfl
  exact ne ((List.getElem?_inj (List.getElem?_eq_some_iff.mp h).1 nd).mp (h.trans k.symm))
theorem DueS.setL {H1 H : Hp} {lq hq a : Addr} {las has : List Addr} {L : Nat → List Int} {B : Nat → List Bool} {c : Nat} (d : DueS H1 H lq hq las has L B) (e : las[c]? = some a) (r : List Int) :
    DueS H1 (upd H a (.lst (r.map V.int))) lq hq las has (fun c' => if c' = c then r else L c') B := by
  have am := List.mem_of_getElem? e
  have put := Go.put (M := fun a => a ∈ las ∨ a ∈ has) (ys := r.map V.int) (.inl am) (d.rl c a e)
  refine ⟨d.go.trans put, d.fr, d.nl, d.nh, d.dj, d.ql, d.qh, put.out _ _ d.ql d.el, put.out _ _ d.qh d.eh, fun c' b h => ?_, fun k b h => ?_⟩
  · by_cases q : c' = c
    · subst q
      rw [e] at h
      cases h
      rw [upd_same, if_pos rfl]
    · rw [upd_ne (nd_ne d.nl h e q), if_neg q]
      exact d.rl c' b h
  · rw [upd_ne (fun z => by rw [z] at h; exact d.dj a am (List.mem_of_getElem? h))]
    exact d.rh k b h
theorem DueS.setB {H1 H : Hp} {lq hq a : Addr} {las has : List Addr} {L : Nat → List Int} {B : Nat → List Bool} {k : Nat} (d : DueS H1 H lq hq las has L B) (e : has[k]? = some a) (r : List Bool) :
    DueS H1 (upd H a (.lst (r.map V.bl))) lq hq las has L (fun k' => if k' = k then r else B k') := by
  have am := List.mem_of_getElem? e
  have put := Go.put (M := fun a => a ∈ las ∨ a ∈ has) (ys := r.map V.bl) (.inr am) (d.rh k a e)
  refine ⟨d.go.trans put, d.fr, d.nl, d.nh, d.dj, d.ql, d.qh, put.out _ _ d.ql d.el, put.out _ _ d.qh d.eh, fun c b h => ?_, fun k' b h => ?_⟩
  · rw [upd_ne (fun z => by rw [z] at h; exact d.dj a (List.mem_of_getElem? h) am)]
    exact d.rl c b h
  · by_cases q : k' = k
    · subst q
      rw [e] at h
      cases h
      rw [upd_same, if_pos rfl]
    · rw [upd_ne (nd_ne d.nh h e q), if_neg q]
      exact d.rh k' b h
theorem DueS.nodes {H1 H : Hp} {lq hq q : Addr} {las has : List Addr} {L : Nat → List Int} {B : Nat → List Bool} {N : List NT} (d : DueS H1 H lq hq las has L B) (h : NodesH H1 q N) : NodesH H q N :=
  h.go (fun a xs m => by rw [d.fr a m]; exact fun z => nomatch z) d.go
theorem DueS.keep {H1 H : Hp} {lq hq a : Addr} {las has : List Addr} {L : Nat → List Int} {B : Nat → List Bool} {o : HO} (d : DueS H1 H lq hq las has L B) (h : H1 a = some o) : H a = some o :=
  d.go.out _ _ (fun m => by rw [d.fr a m] at h; exact nomatch h) h
/-- lists of own lists, while they are made -/
structure GL (H0 : Hp) (q : Addr) (as : List Addr) (rows : List (List V)) (H : Hp) : Prop where
  free : H0 q = none
  same : Same H0 H
  ex : H q = some (.lst (as.map V.ref))
  len : as.length = rows.length
  row : ∀ (i : Nat) (a : Addr) (r : List V), as[i]? = some a → rows[i]? = some r → H a = some (.lst r)
  fr : ∀ a, a ∈ as → H0 a = none
  nd : as.Nodup
  nq : ¬ q ∈ as
theorem GL.start {H0 : Hp} {q : Addr} (h : H0 q = none) : GL H0 q [] [] (upd H0 q (.lst [])) := ⟨h, same_new h _, upd_same, rfl, fun i a r h => by simp at h, fun a h => by simp at h, List.nodup_nil, by simp⟩
theorem none_same {H H' : Hp} (s : Same H H') {l : Addr} (h : H' l = none) : H l = none := by
  cases e : H l with
  | none => rfl
  | some o => rw [s _ _ e] at h; cases h
theorem GL.step {H0 H H' : Hp} {q : Addr} {as : List Addr} {rows : List (List V)} (g : GL H0 q as rows H) (s : Same H H') : GL H0 q as rows H' := ⟨g.free, g.same.trans s, s _ _ g.ex, g.len, fun i a r h k => s _ _ (g.row i a r h k), g.fr, g.nd, g.nq⟩
theorem GL.push {H0 H H' : Hp} {q a : Addr} {as : List Addr} {rows : List (List V)} {r : List V} (g : GL H0 q as rows H) (s : Same H H') (fa : H a = none) (ea : H' a = some (.lst r)) (few : rows.length ≤ 100000) :
    ∃ acc, H' q = some (.lst acc) ∧ acc.length < sizeLine ∧ GL H0 q (as ++ [a]) (rows ++ [r]) (upd H' q (.lst (acc ++ [V.ref a]))) := by
  have g' := g.step s
  have na : ¬ a ∈ as := fun z => by
    obtain ⟨i, hi⟩ := List.getElem?_of_mem z
    have hr : i < rows.length := by rw [← g.len]; exact (List.getElem?_eq_some_iff.mp hi).1
    have := g.row i a _ hi (List.getElem?_eq_getElem hr)
    rw [fa] at this
    cases this
  have nqa : ¬ a = q := fun z => by
    subst z
    rw [g.ex] at fa
    cases fa
  refine ⟨_, g'.ex, lt_small (by rw [List.length_map, g.len]; exact few), g.free, same_own g'.same g.free _, by rw [upd_same, List.map_append]; rfl, by rw [List.length_append, List.length_append, g.len]; rfl, fun i b u h k => ?_, fun b hb => ?_, ?_, ?_⟩
  · by_cases hi : i < as.length
    · rw [List.getElem?_append_left hi] at h
      rw [List.getElem?_append_left (by rw [← g.len]; exact hi)] at k
      rw [upd_ne (fun z => by rw [z] at h; exact g.nq (List.mem_of_getElem? h))]
      exact g'.row i b u h k
    · have hl := (List.getElem?_eq_some_iff.mp h).1
      rw [List.length_append, List.length_singleton] at hl
      have e : i = as.length := by omega
      subst e
      rw [List.getElem?_concat_length] at h
      rw [g.len, List.getElem?_concat_length] at k
      cases h
      cases k
      rw [upd_ne nqa]
      exact ea
  · rcases List.mem_append.mp hb with z | z
    · exact g.fr b z
    · rw [List.mem_singleton.mp z]
      exact none_same g.same fa
  · rw [List.nodup_append]
    refine ⟨g.nd, by simp, fun x hx y hy => ?_⟩
    rw [List.mem_singleton.mp hy]
    exact fun z => by rw [z] at hx; exact na hx
  · intro z
    rcases List.mem_append.mp z with z | z
    · exact g.nq z
    · exact nqa (List.mem_singleton.mp z).symm
end
/-! ### the law's network -/
section
variable {P : Program} {w : World} {K : PySem.W.Frag} {mg : Str → Option Value} {base : Heap}
def wordS (s : Nat) : Str := if s = 1 then "other" else "own"
theorem sls_dt {H : Hp} : ∀ {vs : List V} {rs : List (List Int)}, SLs (SqT K H) vs rs → DtAll K H vs (rs.map tupI)
  | _, _, .nil => .nil
  | _, _, .cons h a => .cons (.tup h (DtAll.ints _)) (sls_dt a)
theorem due_start {H5 H6 H7 : Hp} {lq hq : Addr} {las has : List Addr} {x : List Int} {y : List Bool} {D n : Nat} (gl : GL H5 lq las (List.replicate D (x.map V.int)) H6) (gh : GL H6 hq has (List.replicate n (y.map V.bl)) H7) :
    DueS H5 H7 lq hq las has (fun _ => x) (fun _ => y) := by
  have lrow : ∀ (c : Nat) (a : Addr), las[c]? = some a → H6 a = some (.lst (x.map V.int)) := fun c a h => gl.row c a _ h (by rw [List.getElem?_replicate, if_pos (by have := (List.getElem?_eq_some_iff.mp h).1; have := gl.len; rw [List.length_replicate] at this; omega)])
  have lm : ∀ a, a ∈ las → H6 a = some (.lst (x.map V.int)) := fun a h => by
    obtain ⟨c, hc⟩ := List.getElem?_of_mem h
    exact lrow c a hc
  refine ⟨(gl.same.trans gh.same).go, ?_, gl.nd, gh.nd, ?_, ?_, ?_, gh.same _ _ gl.ex, gh.ex, fun c a h => gh.same _ _ (lrow c a h), fun k a h => gh.row k a _ h (by rw [List.getElem?_replicate, if_pos (by have := (List.getElem?_eq_some_iff.mp h).1; have := gh.len; rw [List.length_replicate] at this; omega)])⟩
  · rintro a (h | h)
    · exact gl.fr a h
    · exact none_same gl.same (gh.fr a h)
  · intro a h k
    have := gh.fr a k
    rw [lm a h] at this
    cases this
  · rintro (h | h)
    · exact gl.nq h
    · have := gh.fr _ h
      rw [gl.ex] at this
      cases this
  · rintro (h | h)
    · have := lm _ h
      rw [gh.free] at this
      cases this
    · exact gh.nq h
def spDue (K : PySem.W.Frag) : Sp := fun vs H Q _ => ∃ (vw : Addr) (D T s : Nat) (v : Vw T), vs = [.int D, .str (wordS s), .ref vw] ∧ Dt K H (.ref vw) (datV D v 0) ∧ s ≤ 1 ∧ 1 ≤ D ∧ D ≤ 4 ∧ T < 5 ∧ (nodesV D v s).length ≤ 500 ∧
  ∀ (p : Addr) (H' : Hp), Same H H' → Dt K H' (.ref p) (netOf D (nodesV D v s) (nbV D v)) → Q (.ref p) H'
set_option maxHeartbeats 2000000 in
theorem ok_due {f : Addr} {fd : FuncData} (B : Blt mg) (g_law_told : Has P w K mg base CX0 6 "_law_told" ["branch", "nodes", "side", "up", "back"] (spTold K 5)) (g_law_places : Has P w K mg base CX0 1 "_law_places" ["nodes", "side"] (spPlaces K))
    (g_law_inputs : Has P w K mg base CX0 1 "_law_inputs" ["nodes", "side"] (spInputsV K)) (F : Fun K "_law_due" "_law_due" s_law_due f fd) : FnOk P w K mg base CX0 7 f fd ["colours", "word", "view"] (spDue K) := by
  have sc : FnScope ["colours", "word", "view", "nodes", "places", "links", "has", "k", "c", "up", "row", "white", "black", "node"] ["colours", "word", "view"] (defScope s_law_due) := ⟨rfl, rfl, rfl, by decide +kernel, rfl, by decide +kernel, by decide +kernel⟩
  refine F.ok sc (fun vs H Q E h => ?_) (fun cdv A outer s H vs Q E hr h => ?_)
  · obtain ⟨_, _, _, _, _, rfl, _⟩ := h
    rfl
  obtain ⟨vw, D, T, s, v, rfl, hv, s1, D1, D4, hT, few, kk⟩ := h
  refine ⟨_, (pss_cons (ps_set (i := 3) sc.nd rfl (Or.inr rfl) (pe_lstN pa_nil))
    (pss_cons (ps_expr (pc g_law_told hr (pa_cons (pv 2) (pa_cons (pv 3) (pa_cons (pe_callTy call_int1 (by rfl) B.int (by decide +kernel) (pa_cons (pe_cmpR op_eqs (pv 1) pe_str (nomark _)) pa_nil)) (pa_cons (pe_un un_neg pe_int) (pa_cons pe_int pa_nil)))))))
    (pss_cons (ps_set (i := 4) sc.nd rfl (Or.inl rfl) (pe_lstN (pa_cons (pc g_law_places hr (pa_cons (pv 3) (pa_cons pe_int pa_nil))) (pa_cons (pc g_law_places hr (pa_cons (pv 3) (pa_cons pe_int pa_nil))) pa_nil))))
    (pss_cons (ps_setLc (i := 5) (own := [("c", 8)]) (g := gName 8) (tt := tYes) rfl sc.nd rfl rfl (sw_true rfl rfl rfl (by decide +kernel)) (pi_range1 (by rfl) B.range (pa_cons (pv 0) pa_nil)) (blkOk_by (N := ["colours", "word", "view", "nodes", "places", "links", "has", "k", "c", "up", "row", "white", "black", "node"]) (sc := defScope s_law_due) (by decide +kernel)) (fun _ _ _ _ _ => pg_name (i := 8) sc.nd rfl (Or.inl rfl)) (fun _ _ _ _ _ => pts_nil) (fun _ _ _ _ _ => (pe_lc (own := [("k", 7)]) (g := gName 7) (tt := tYes) rfl sc.nd (pi_range1 (by rfl) B.range (pa_cons (pe_callB (show CallR _ _ (rLenS K) from call_len_seq) (by rfl) B.len (by decide +kernel) (pa_cons (pv 3) pa_nil)) pa_nil)) (blkOk_by (N := ["colours", "word", "view", "nodes", "places", "links", "has", "k", "c", "up", "row", "white", "black", "node"]) (sc := _) (by first | rfl | with_unfolding_all rfl)) (fun _ _ _ _ _ => pg_name (i := 7) sc.nd rfl (Or.inl rfl)) (fun _ _ _ _ _ => pts_nil) (fun _ _ _ _ _ => (pe_un un_neg pe_int)))))
    (pss_cons (ps_setLc (i := 6) (own := [("node", 13)]) (g := gName 13) (tt := tYes) rfl sc.nd rfl rfl (sw_true rfl rfl rfl (by decide +kernel)) (pi_list (pv 3)) (blkOk_by (N := ["colours", "word", "view", "nodes", "places", "links", "has", "k", "c", "up", "row", "white", "black", "node"]) (sc := defScope s_law_due) (by decide +kernel)) (fun _ _ _ _ _ => pg_name (i := 13) sc.nd rfl (Or.inl rfl)) (fun _ _ _ _ _ => pts_nil) (fun _ _ _ _ _ => (pe_lc (own := [("c", 8)]) (g := gName 8) (tt := tYes) rfl sc.nd (pi_range1 (by rfl) B.range (pa_cons (pv 0) pa_nil)) (blkOk_by (N := ["colours", "word", "view", "nodes", "places", "links", "has", "k", "c", "up", "row", "white", "black", "node"]) (sc := _) (by first | rfl | with_unfolding_all rfl)) (fun _ _ _ _ _ => pg_name (i := 8) sc.nd rfl (Or.inl rfl)) (fun _ _ _ _ _ => pts_nil) (fun _ _ _ _ _ => pe_bl))))
    (pss_cons (ps_for PassesOwn.never rfl (pi_range1 (by rfl) B.range (pa_cons (pe_callB call_len_seq (by rfl) B.len (by decide +kernel) (pa_cons (pv 3) pa_nil)) pa_nil)) (pg_name (i := 7) sc.nd rfl (Or.inl rfl))
      (pss_one (ps_if (pt_cmpR op_ge (pe_ix ix_list (pe_ix ix_list (pv 3) (pv 7) (fun _ _ => rfl)) pe_int (fun _ _ => rfl)) pe_int (nomark _))
        (pss_cons (ps_set (i := 9) sc.nd rfl (Or.inl rfl) (pe_ix ix_list (pe_ix ix_list (pv 3) (pv 7) (fun _ _ => rfl)) pe_int (fun _ _ => rfl)))
        (pss_cons (ps_set (i := 8) sc.nd rfl (Or.inl rfl) (pe_op op_sub (pe_ix ix_list (pe_ix ix_list (pv 3) (pv 7) (fun _ _ => rfl)) pe_int (fun _ _ => rfl)) pe_int))
        (pss_cons (ps_set (i := 10) sc.nd rfl (Or.inl rfl) (pe_ix ix_list (pv 6) (pv 7) (fun _ _ => rfl)))
        (pss_cons (ps_asg pe_bl (pg_sub (pv 10) (pv 8) set_list))
        (pss_cons (ps_set (i := 10) sc.nd rfl (Or.inl rfl) (pe_ix ix_list (pv 6) (pv 9) (fun _ _ => rfl)))
        (pss_cons (ps_asg pe_bl (pg_sub (pv 10) (pv 8) set_list))
        (pss_cons (ps_set (i := 11) sc.nd rfl (Or.inl rfl) (pv 7))
        (pss_cons (ps_set (i := 12) sc.nd rfl (Or.inl rfl) (pv 9))
        (pss_cons (ps_if (pt_cmpR op_eqi (pe_ix ix_list (pe_ix ix_list (pv 3) (pv 7) (fun _ _ => rfl)) pe_int (fun _ _ => rfl)) pe_int (nomark _))
          (pss_cons (ps_set (i := 11) sc.nd rfl (Or.inl rfl) (pv 9))
          (pss_one (ps_set (i := 12) sc.nd rfl (Or.inl rfl) (pv 7))))
          pss_nil)
        (pss_cons (ps_set (i := 10) sc.nd rfl (Or.inl rfl) (pe_ix ix_list (pv 5) (pv 8) (fun _ _ => rfl)))
        (pss_cons (ps_asg (pe_dget (hu_of hr) (pe_ix ix_list (pv 4) pe_int (fun _ _ => rfl)) (pe_tupN (pa_cons pe_str (pa_cons (pv 12) pa_nil))) (fun _ _ => rfl)) (pg_sub (pv 10) (pe_dget (hu_of hr) (pe_ix ix_list (pv 4) pe_int (fun _ _ => rfl)) (pe_tupN (pa_cons pe_str (pa_cons (pv 11) pa_nil))) (fun _ _ => rfl)) set_list))
        (pss_one (ps_asg (pe_dget (hu_of hr) (pe_ix ix_list (pv 4) pe_int (fun _ _ => rfl)) (pe_tupN (pa_cons pe_str (pa_cons (pv 11) pa_nil))) (fun _ _ => rfl)) (pg_sub (pv 10) (pe_dget (hu_of hr) (pe_ix ix_list (pv 4) pe_int (fun _ _ => rfl)) (pe_tupN (pa_cons pe_str (pa_cons (pv 12) pa_nil))) (fun _ _ => rfl)) set_list))))))))))))))
        pss_nil)))
    (pss_cons (ps_for PassesOwn.never rfl (pi_range1 (by rfl) B.range (pa_cons (pe_callB call_len_seq (by rfl) B.len (by decide +kernel) (pa_cons (pv 3) pa_nil)) pa_nil)) (pg_name (i := 7) sc.nd rfl (Or.inl rfl))
      (pss_one (ps_for PassesOwn.never rfl (pi_range1 (by rfl) B.range (pa_cons (pv 0) pa_nil)) (pg_name (i := 8) sc.nd rfl (Or.inl rfl))
        (pss_one (ps_if (pt_not (pt_val (pe_ix ix_list (pe_ix ix_list (pv 6) (pv 7) (fun _ _ => rfl)) (pv 8) (fun _ _ => rfl))))
          (pss_cons (ps_set (i := 10) sc.nd rfl (Or.inl rfl) (pe_ix ix_list (pv 5) (pv 8) (fun _ _ => rfl)))
          (pss_one (ps_if (pt_cmpR op_eqi (pe_ix ix_list (pe_ix ix_list (pv 3) (pv 7) (fun _ _ => rfl)) pe_int (fun _ _ => rfl)) pe_int (nomark _))
            (pss_one (ps_asg (pe_dget (hu_of hr) (pe_ix ix_list (pv 4) pe_int (fun _ _ => rfl)) (pe_tupN (pa_cons pe_str (pa_cons (pv 7) pa_nil))) (fun _ _ => rfl)) (pg_sub (pv 10) (pe_dget (hu_of hr) (pe_ix ix_list (pv 4) pe_int (fun _ _ => rfl)) (pe_tupN (pa_cons pe_str (pa_cons (pv 7) pa_nil))) (fun _ _ => rfl)) set_list)))
            (pss_one (ps_asg (pe_dget (hu_of hr) (pe_ix ix_list (pv 4) pe_int (fun _ _ => rfl)) (pe_tupN (pa_cons pe_str (pa_cons (pv 7) pa_nil))) (fun _ _ => rfl)) (pg_sub (pv 10) (pe_dget (hu_of hr) (pe_ix ix_list (pv 4) pe_int (fun _ _ => rfl)) (pe_tupN (pa_cons pe_str (pa_cons (pv 7) pa_nil))) (fun _ _ => rfl)) set_list))))))
          pss_nil)))))
    (pss_one (ps_ret (pe_tupN (pa_cons pe_str (pa_cons (pe_callB call_len_seq (by rfl) B.len (by decide +kernel) (pa_cons (pv 3) pa_nil)) (pa_cons (pe_callTy (show CallR _ _ (rTupN K) from call_tupN) (by rfl) B.tuple (by decide +kernel) (pa_cons (pe_lc (own := [("row", 10)]) (g := gName 10) (tt := tYes) rfl sc.nd (pi_list (pv 5)) (blkOk_by (N := ["colours", "word", "view", "nodes", "places", "links", "has", "k", "c", "up", "row", "white", "black", "node"]) (sc := defScope s_law_due) (by decide +kernel)) (fun _ _ _ _ _ => pg_name (i := 10) sc.nd rfl (Or.inl rfl)) (fun _ _ _ _ _ => pts_nil) (fun _ _ _ _ _ => (pe_callTy (show CallR _ _ (rTupN K) from call_tupN) (by rfl) B.tuple (by decide +kernel) (pa_cons (pv 10) pa_nil)))) pa_nil)) (pa_cons (pc g_law_inputs hr (pa_cons (pv 3) (pa_cons pe_int pa_nil))) (pa_cons (pc g_law_inputs hr (pa_cons (pv 3) (pa_cons pe_int pa_nil))) pa_nil))))))))))))))), ?_⟩
  try dsimp only [cxOf]
  obtain ⟨TN, top, re⟩ := netV_nv (D := D) v s1
  generalize hN : nodesV D v s = N at *
  generalize hnb : nbV D v = nb at *
  have eint : (if decide (wordS s = ("other" : Str)) = true then (1 : Int) else 0) = (s : Int) := by
    unfold wordS
    by_cases q : s = 1
    · subst q
      rw [if_pos rfl, decide_eq_true rfl, if_pos rfl]
      rfl
    · rw [if_neg q, decide_eq_false (by decide), if_neg (by simp)]
      omega
  w_fin
  intro q H1 fq s1' eq
  w_fin
  refine ⟨vw, q, D, T, s, 0, -1, v, [], ?_, hv.stay s1'.tups, ⟨[], eq, rfl, fun i a t h => by simp at h⟩, s1, D4, hT, by unfold nodesV at hN; rw [hN]; omega, fun H2 g2 hN2 => ?_⟩
  · rw [eint]
    rfl
  unfold nodesV at hN
  rw [hN] at hN2
  have s2 : Same H H2 := fun a o e => g2.out _ _ (fun z => by subst z; rw [fq] at e; cases e) (s1' _ _ e)
  w_fin
  refine ⟨q, 0, N, rfl, hN2, by omega, by omega, TN.sd, fun p0 H3 kv0 s3 e3 ok0 => ?_⟩
  w_fin
  refine ⟨q, 1, N, rfl, hN2.same s3, by omega, by omega, TN.sd, fun p1 H4 kv1 s4 e4 ok1 => ?_⟩
  w_fin
  intro pl H5 _ s5 epl
  have hN5 := ((hN2.same s3).same s4).same s5
  have d0 : H5 p0 = some (.dT kv0) := s5 _ _ (s4 _ _ e3)
  have d1 : H5 p1 = some (.dT kv1) := s5 _ _ e4
  have s15 : Same H H5 := ((s2.trans s3).trans s4).trans s5
  clear s5 s4 s3 e3 e4 hN2 g2 s2
  obtain ⟨xq, exq, lxq⟩ := hN5.len
  w_fin
  intro lq hlq
  refine itr_walk (lo := 0) (n := ((D : Nat) : Int).toNat) (fun i H' => ∃ as, GL H5 lq as (List.replicate i (List.replicate N.length (V.int (-1)))) H') ⟨[], GL.start hlq⟩ ?_ ?_
  · rintro i H6 hi ⟨as, gl⟩
    have exq6 := gl.same _ _ exq
    w_fin
    refine ⟨q, xq, rfl, .inl (SqL.of exq6), ?_⟩
    w_fin
    intro rq hrq
    refine itr_walk (lo := 0) (n := ((xq.length : Nat) : Int).toNat) (fun j H' => AccI H6 rq (List.replicate j (-1)) H') (AccI.start hrq) ?_ ?_
    · rintro j H7 hj acc
      w_fin
      refine acc.fin (z := -1) (by rw [List.length_replicate]; omega) fun H' a' => ?_
      rw [List.replicate_succ']
      exact a'
    · rintro H7 acc
      have er := acc.ex
      rw [List.map_replicate, show ((xq.length : Nat) : Int).toNat = N.length by omega] at er
      obtain ⟨ac, ha, lt, gl2⟩ := gl.push acc.same hrq er (by rw [List.length_replicate]; omega)
      rw [← List.replicate_succ'] at gl2
      exact ⟨ac, ha, lt, _, gl2⟩
  · rintro H6 ⟨las, gl⟩
    have exq6 := gl.same _ _ exq
    rw [show ((D : Nat) : Int).toNat = D by omega] at gl
    w_fin
    intro hq hhq
    refine itl_walk (xs := xq) (fun i H' => ∃ as, GL H6 hq as (List.replicate i (List.replicate D (V.bl false))) H') ⟨[], GL.start hhq⟩ (fun i H' _ ⟨as, g⟩ => SqL.of (g.same _ _ exq6)) ?_ ?_
    · rintro i x H7 hx ⟨as, g7⟩
      w_fin
      intro rq hrq
      refine itr_walk (lo := 0) (n := ((D : Nat) : Int).toNat) (fun j H' => Same H7 H' ∧ H' rq = some (.lst (List.replicate j (V.bl false)))) ⟨same_new hrq _, upd_same⟩ ?_ ?_
      · rintro j H8 hj ⟨s8, e8⟩
        w_fin
        refine ⟨_, e8, lt_small (by rw [List.length_replicate]; omega), same_own s8 hrq _, ?_⟩
        rw [upd_same, List.replicate_succ']
      · rintro H8 ⟨s8, e8⟩
        rw [show ((D : Nat) : Int).toNat = D by omega] at e8
        obtain ⟨ac, ha, lt, g2⟩ := g7.push s8 hrq e8 (by rw [List.length_replicate]; have := (List.getElem?_eq_some_iff.mp hx).1; omega)
        rw [← List.replicate_succ'] at g2
        exact ⟨ac, ha, lt, _, g2⟩
    · rintro H7 ⟨has, g7⟩
      rw [lxq] at g7
      have ll : las.length = D := by rw [gl.len, List.length_replicate]
      have lh : has.length = N.length := by rw [g7.len, List.length_replicate]
      have d7 : DueS H5 H7 lq hq las has (fun c => linkF N nb 0 0 (c + 1)) (fun k => hasF D nb 0 k) := by
        refine (due_start (H6 := H6) (x := List.replicate N.length (-1)) (y := List.replicate D false) (D := D) (n := N.length) ?_ ?_).eq (fun c _ => link_start TN.sd _) (fun k _ => has_start D nb k)
        · rw [List.map_replicate]
          exact gl
        · rw [List.map_replicate]
          exact g7
      have s57 : Same H5 H7 := gl.same.trans g7.same
      clear g7 gl
      have exq7 := d7.keep exq
      w_fin
      refine fr_range (fun i σ H' => ∃ (a7 a8 a9 a10 a11 a12 a13 : Option V), σ = [some (.int D), some (.str (wordS s)), some (.ref vw), some (.ref q), some (.ref pl), some (.ref lq), some (.ref hq), a7, a8, a9, a10, a11, a12, a13] ∧ DueS H5 H' lq hq las has (fun c => linkF N nb i 0 (c + 1)) (fun k => hasF D nb i k)) ⟨_, _, _, _, _, _, _, rfl, d7⟩ ?_ ?_
      · rintro i σ H8 hi ⟨a7, a8, a9, a10, a11, a12, a13, rfl, d8⟩
        rcases Nat.eq_zero_or_pos i with rfl | ip
        · obtain ⟨a, xs, eq8, ea8, et8⟩ := (d8.nodes hN5).at top
          w_fin
          refine st_ixL (SqL.of eq8) (at_of (j := 0) (by omega) ea8) ?_
          w_fin
          exact ⟨_, _, _, _, _, _, _, rfl, d8.eq (fun c _ => link_root TN _) (fun k _ => has_root TN k)⟩
        obtain ⟨u, c0, up⟩ := TN.isup i ip (by omega)
        obtain ⟨ui, c1, cD⟩ := TN.ups i u c0 ip up
        obtain ⟨c, rfl⟩ : ∃ c, c0 = c + 1 := ⟨c0 - 1, by omega⟩
        have usd := TN.sd u (by omega)
        have isd := TN.sds i u _ ip up
        obtain ⟨x, sI, eN⟩ := id up
        have esd : sdv N i = sI := sdv_of eN
        have sI1 := TN.sd i (by omega)
        obtain ⟨a, xs, eq8, ea8, et8⟩ := (d8.nodes hN5).at eN
        replace et8 : H8 a = some (.lst [.int (x : Nat), .int (sI : Nat), .int ((u : Nat) : Int), .int ((c + 1 : Nat) : Int)]) := et8
        obtain ⟨hb, hhb⟩ : ∃ hb, has[i]? = some hb := ⟨_, List.getElem?_eq_getElem (by omega)⟩
        obtain ⟨hu, hhu⟩ : ∃ hu, has[u]? = some hu := ⟨_, List.getElem?_eq_getElem (by omega)⟩
        obtain ⟨lb, hlb⟩ : ∃ lb, las[c]? = some lb := ⟨_, List.getElem?_eq_getElem (by omega)⟩
        have ehb := d8.rh i hb hhb
        have eh8 := d8.eh
        w_fin
        refine st_ixL (SqL.of eq8) (at_of (j := i) (by omega) ea8) ?_
        w_fin
        refine st_y (by omega) ?_
        w_fin
        refine st_ixL (SqL.of eq8) (at_of (j := i) (by omega) ea8) ?_
        w_fin
        refine st_ixL (SqL.of eq8) (at_of (j := i) (by omega) ea8) ?_
        w_fin
        refine st_ixL (SqL.of eh8) (at_of (j := i) (by omega) (by rw [List.getElem?_map, hhb]; rfl)) ?_
        w_fin
        refine st_setL ehb (ix_of (by omega) (by rw [List.length_map]; unfold hasF; rw [List.length_map, List.length_range]; omega)) ?_
        have d9 := d8.setB hhb ((hasF D nb i i).set c true)
        rw [List.map_set] at d9
        rw [show ((((c + 1 : Nat) : Int)) - 1).toNat = c by omega]
        generalize upd H8 hb (.lst (((hasF D nb i i).map V.bl).set c (V.bl true))) = H9 at d9 ⊢
        clear eq8 ea8 et8 ehb eh8
        have ehu := d9.rh u hu hhu
        rw [if_neg (by omega)] at ehu
        have eh9 := d9.eh
        w_fin
        refine st_ixL (SqL.of eh9) (at_of (j := u) (by omega) (by rw [List.getElem?_map, hhu]; rfl)) ?_
        w_fin
        refine st_setL ehu (ix_of (by omega) (by rw [List.length_map]; unfold hasF; rw [List.length_map, List.length_range]; omega)) ?_
        have d10 := d9.setB hhu ((hasF D nb i u).set c true)
        rw [List.map_set] at d10
        rw [show ((((c + 1 : Nat) : Int)) - 1).toNat = c by omega]
        generalize upd H9 hu (.lst (((hasF D nb i u).map V.bl).set c (V.bl true))) = H10 at d10 ⊢
        obtain ⟨a, xs, eq10, ea10, et10⟩ := (d10.nodes hN5).at eN
        replace et10 : H10 a = some (.lst [.int (x : Nat), .int (sI : Nat), .int ((u : Nat) : Int), .int ((c + 1 : Nat) : Int)]) := et10
        have epl10 := d10.keep epl
        have el10 := d10.el
        obtain ⟨he1, he2, he3⟩ := has_edge TN ip up (by omega)
        w_fin
        refine st_ixL (SqL.of eq10) (at_of (j := i) (by omega) ea10) ?_
        w_fin
        refine st_two (fun cc => ?_) (fun cc => ?_)
        · have sI' : sdv N i = 1 := by omega
          have usd' : sdv N u = 0 := by omega
          w_fin
          refine st_ixL (SqL.of el10) (at_of (j := c) (by omega) (by rw [List.getElem?_map, hlb]; rfl)) ?_
          w_fin
          intro k1 H11 _ s11 ek1
          have d11 := d10.same s11
          have g1 : L2.DGet H11 p1 (.ref k1) (some (.int (rk N i))) := by
            have z := L2.DGet.t (k := keyP "node" (i : Nat)) (d11.keep d1) (by first | (rw [ek1]; rfl) | (rw [ek1, show (0 + (i : Int)) = (i : Int) by omega]; rfl))
            rwa [ok1.node, if_pos ⟨by omega, by omega⟩] at z
          refine ⟨p1, _, rfl, g1, ?_⟩
          have epl11 := d11.keep epl
          w_fin
          intro k2 H12 _ s12 ek2
          have d12 := d11.same s12
          have g2 : L2.DGet H12 p0 (.ref k2) (some (.int (rk N u))) := by
            have z := L2.DGet.t (k := keyP "node" (u : Nat)) (d12.keep d0) (by first | (rw [ek2]; rfl) | (rw [ek2, show (0 + (i : Int)) = (i : Int) by omega]; rfl))
            rwa [ok0.node, if_pos ⟨by omega, by omega⟩] at z
          refine ⟨p0, _, rfl, g2, ?_⟩
          w_fin
          have lw := rk_lt (N := N) (k := N.length) (i := u) (s := 0) (by omega) (by omega)
          have lb' := rk_lt (N := N) (k := N.length) (i := i) (s := 1) (by omega) (by omega)
          have lsum := ix_all TN.sd N.length (Nat.le_refl _)
          have llen := fun k m c => rowF_len TN.sd (valF N nb k m c)
          refine st_setL (d12.rl c lb hlb) (ix_of (by omega) (by rw [List.length_map]; unfold linkF; rw [llen]; omega)) ?_
          have d13 := d12.setL hlb ((linkF N nb i 0 (c + 1)).set (rk N u) (rk N i : Int))
          rw [List.map_set] at d13
          rw [show ((rk N u : Nat) : Int).toNat = rk N u by omega]
          generalize upd H12 lb (.lst (((linkF N nb i 0 (c + 1)).map V.int).set (rk N u) (V.int (rk N i : Int)))) = H13 at d13 ⊢
          have epl13 := d13.keep epl
          w_fin
          intro k3 H14 _ s14 ek3
          have d14 := d13.same s14
          have g3 : L2.DGet H14 p1 (.ref k3) (some (.int ((nS N 1 : Int) + rk N u))) := by
            have z := L2.DGet.t (k := keyP "twin" (u : Nat)) (d14.keep d1) (by first | (rw [ek3]; rfl) | (rw [ek3, show (0 + (i : Int)) = (i : Int) by omega]; rfl))
            rwa [ok1.twin, if_pos ⟨by omega, by omega⟩] at z
          refine ⟨p1, _, rfl, g3, ?_⟩
          have epl14 := d14.keep epl
          w_fin
          intro k4 H15 _ s15' ek4
          have d15 := d14.same s15'
          have g4 : L2.DGet H15 p0 (.ref k4) (some (.int ((nS N 0 : Int) + rk N i))) := by
            have z := L2.DGet.t (k := keyP "twin" (i : Nat)) (d15.keep d0) (by first | (rw [ek4]; rfl) | (rw [ek4, show (0 + (i : Int)) = (i : Int) by omega]; rfl))
            rwa [ok0.twin, if_pos ⟨by omega, by omega⟩] at z
          refine ⟨p0, _, rfl, g4, ?_⟩
          w_fin
          have el15 := d15.rl c lb hlb
          rw [if_pos rfl] at el15
          refine st_setL el15 (ix_of (by omega) (by rw [List.length_map, List.length_set]; unfold linkF nS; rw [llen]; omega)) ?_
          have d16 := d15.setL hlb (((linkF N nb i 0 (c + 1)).set (rk N u) (rk N i : Int)).set (nW N + rk N i) ((nB N : Int) + rk N u))
          rw [List.map_set] at d16
          rw [show ((nS N 0 : Int) + (rk N i : Int)).toNat = nW N + rk N i by unfold nS nW; omega]
          refine ⟨_, _, _, _, _, _, _, rfl, d16.eq (fun c' _ => ?_) (fun k' _ => ?_)⟩
          · by_cases qc : c' = c
            · subst qc
              rw [if_pos rfl]
              exact (link_edge TN ip (by omega) up (by omega)).symm
            · rw [if_neg qc, if_neg qc]
              exact link_other TN ip up (by omega)
          · by_cases q1 : k' = u
            · subst q1
              rw [if_pos rfl]
              exact he3.symm
            · rw [if_neg q1]
              by_cases q2 : k' = i
              · subst q2
                rw [if_pos rfl]
                exact he2.symm
              · rw [if_neg q2]
                exact he1 k' q2 q1
        · have sI' : sdv N i = 0 := by omega
          have usd' : sdv N u = 1 := by omega
          w_fin
          refine st_ixL (SqL.of el10) (at_of (j := c) (by omega) (by rw [List.getElem?_map, hlb]; rfl)) ?_
          w_fin
          intro k1 H11 _ s11 ek1
          have d11 := d10.same s11
          have g1 : L2.DGet H11 p1 (.ref k1) (some (.int (rk N u))) := by
            have z := L2.DGet.t (k := keyP "node" (u : Nat)) (d11.keep d1) (by first | (rw [ek1]; rfl) | (rw [ek1, show (0 + (i : Int)) = (i : Int) by omega]; rfl))
            rwa [ok1.node, if_pos ⟨by omega, by omega⟩] at z
          refine ⟨p1, _, rfl, g1, ?_⟩
          have epl11 := d11.keep epl
          w_fin
          intro k2 H12 _ s12 ek2
          have d12 := d11.same s12
          have g2 : L2.DGet H12 p0 (.ref k2) (some (.int (rk N i))) := by
            have z := L2.DGet.t (k := keyP "node" (i : Nat)) (d12.keep d0) (by first | (rw [ek2]; rfl) | (rw [ek2, show (0 + (i : Int)) = (i : Int) by omega]; rfl))
            rwa [ok0.node, if_pos ⟨by omega, by omega⟩] at z
          refine ⟨p0, _, rfl, g2, ?_⟩
          w_fin
          have lw := rk_lt (N := N) (k := N.length) (i := i) (s := 0) (by omega) (by omega)
          have lb' := rk_lt (N := N) (k := N.length) (i := u) (s := 1) (by omega) (by omega)
          have lsum := ix_all TN.sd N.length (Nat.le_refl _)
          have llen := fun k m c => rowF_len TN.sd (valF N nb k m c)
          refine st_setL (d12.rl c lb hlb) (ix_of (by omega) (by rw [List.length_map]; unfold linkF; rw [llen]; omega)) ?_
          have d13 := d12.setL hlb ((linkF N nb i 0 (c + 1)).set (rk N i) (rk N u : Int))
          rw [List.map_set] at d13
          rw [show ((rk N i : Nat) : Int).toNat = rk N i by omega]
          generalize upd H12 lb (.lst (((linkF N nb i 0 (c + 1)).map V.int).set (rk N i) (V.int (rk N u : Int)))) = H13 at d13 ⊢
          have epl13 := d13.keep epl
          w_fin
          intro k3 H14 _ s14 ek3
          have d14 := d13.same s14
          have g3 : L2.DGet H14 p1 (.ref k3) (some (.int ((nS N 1 : Int) + rk N i))) := by
            have z := L2.DGet.t (k := keyP "twin" (i : Nat)) (d14.keep d1) (by first | (rw [ek3]; rfl) | (rw [ek3, show (0 + (i : Int)) = (i : Int) by omega]; rfl))
            rwa [ok1.twin, if_pos ⟨by omega, by omega⟩] at z
          refine ⟨p1, _, rfl, g3, ?_⟩
          have epl14 := d14.keep epl
          w_fin
          intro k4 H15 _ s15' ek4
          have d15 := d14.same s15'
          have g4 : L2.DGet H15 p0 (.ref k4) (some (.int ((nS N 0 : Int) + rk N u))) := by
            have z := L2.DGet.t (k := keyP "twin" (u : Nat)) (d15.keep d0) (by first | (rw [ek4]; rfl) | (rw [ek4, show (0 + (i : Int)) = (i : Int) by omega]; rfl))
            rwa [ok0.twin, if_pos ⟨by omega, by omega⟩] at z
          refine ⟨p0, _, rfl, g4, ?_⟩
          w_fin
          have el15 := d15.rl c lb hlb
          rw [if_pos rfl] at el15
          refine st_setL el15 (ix_of (by omega) (by rw [List.length_map, List.length_set]; unfold linkF nS; rw [llen]; omega)) ?_
          have d16 := d15.setL hlb (((linkF N nb i 0 (c + 1)).set (rk N i) (rk N u : Int)).set (nW N + rk N u) ((nB N : Int) + rk N i))
          rw [List.map_set] at d16
          rw [show ((nS N 0 : Int) + (rk N u : Int)).toNat = nW N + rk N u by unfold nS nW; omega]
          refine ⟨_, _, _, _, _, _, _, rfl, d16.eq (fun c' _ => ?_) (fun k' _ => ?_)⟩
          · by_cases qc : c' = c
            · subst qc
              rw [if_pos rfl]
              exact (link_edge TN ip (by omega) up (by omega)).symm
            · rw [if_neg qc, if_neg qc]
              exact link_other TN ip up (by omega)
          · by_cases q1 : k' = u
            · subst q1
              rw [if_pos rfl]
              exact he3.symm
            · rw [if_neg q1]
              by_cases q2 : k' = i
              · subst q2
                rw [if_pos rfl]
                exact he2.symm
              · rw [if_neg q2]
                exact he1 k' q2 q1
      · rintro σ H8 ⟨a7, a8, a9, a10, a11, a12, a13, rfl, d8⟩
        rw [show ((xq.length : Nat) : Int).toNat = N.length by omega] at d8
        have exq8 := d8.keep exq
        w_fin
        refine fr_range (fun k σ H' => ∃ (a7 a8 a9 a10 a11 a12 a13 : Option V), σ = [some (.int D), some (.str (wordS s)), some (.ref vw), some (.ref q), some (.ref pl), some (.ref lq), some (.ref hq), a7, a8, a9, a10, a11, a12, a13] ∧ DueS H5 H' lq hq las has (fun c => linkF N nb N.length k (c + 1)) (fun k => hasF D nb N.length k)) ⟨_, _, _, _, _, _, _, rfl, d8⟩ ?_ ?_
        · rintro k σ H9 hk ⟨a7, a8, a9, a10, a11, a12, a13, rfl, d9⟩
          have kn : k < N.length := by omega
          w_fin
          refine fr_range (fun c σ H' => ∃ (a8 a9 a10 a11 a12 a13 : Option V), σ = [some (.int D), some (.str (wordS s)), some (.ref vw), some (.ref q), some (.ref pl), some (.ref lq), some (.ref hq), some (.int (0 + (k : Int))), a8, a9, a10, a11, a12, a13] ∧ DueS H5 H' lq hq las has (fun c' => linkF N nb N.length (if c' < c then k + 1 else k) (c' + 1)) (fun k => hasF D nb N.length k)) ⟨_, _, _, _, _, _, rfl, d9.eq (fun c _ => by rw [if_neg (Nat.not_lt_zero c)]) (fun _ _ => rfl)⟩ ?_ ?_
          · rintro c σ H9 hc ⟨a8, a9, a10, a11, a12, a13, rfl, d9⟩
            obtain ⟨hb, hhb⟩ : ∃ hb, has[k]? = some hb := ⟨_, List.getElem?_eq_getElem (by omega)⟩
            obtain ⟨lb, hlb⟩ : ∃ lb, las[c]? = some lb := ⟨_, List.getElem?_eq_getElem (by omega)⟩
            have ehb := d9.rh k hb hhb
            have eh9 := d9.eh
            have el9 := d9.el
            have epl9 := d9.keep epl
            obtain ⟨a, xs, eq9, ea9, et9⟩ := (d9.nodes hN5).at (i := k) (t := N[k]) (List.getElem?_eq_getElem kn)
            have esd : sdv N k = N[k].2.1 := sdv_of (List.getElem?_eq_getElem kn)
            have sdk := TN.sd k kn
            w_fin
            refine st_ixL (SqL.of eh9) (at_of (j := k) (by omega) (by rw [List.getElem?_map, hhb]; rfl)) ?_
            w_fin
            refine st_ixL (SqL.of ehb) (at_of (j := c) (v := .bl (nb k (c + 1)).isSome) (by omega) (by rw [List.getElem?_map]; unfold hasF; rw [List.getElem?_map, List.getElem?_range (by omega)]; show some (V.bl (nbk nb N.length k (c + 1)).isSome) = _; rw [nbk_all TN])) ?_
            w_fin
            rcases hno : nb k (c + 1) with _ | j
            · refine iteT ?_
              w_fin
              refine st_ixL (SqL.of el9) (at_of (j := c) (by omega) (by rw [List.getElem?_map, hlb]; rfl)) ?_
              w_fin
              refine st_ixL (SqL.of eq9) (at_of (j := k) (by omega) ea9) ?_
              w_fin
              refine st_two (fun cc => ?_) (fun cc => ?_)
              · have sk : sdv N k = 0 := by omega
                w_fin
                intro k1 H11 _ s11 ek1
                have d11 := d9.same s11
                have g1 : L2.DGet H11 p1 (.ref k1) (some (.int ((nS N 1 : Int) + rk N k))) := by
                  have z := L2.DGet.t (k := keyP "twin" (k : Nat)) (d11.keep d1) (by first | (rw [ek1]; rfl) | (rw [ek1, show (0 + (k : Int)) = (k : Int) by omega]; rfl))
                  rwa [ok1.twin, if_pos ⟨by omega, by omega⟩] at z
                refine ⟨p1, _, rfl, g1, ?_⟩
                have epl11 := d11.keep epl
                w_fin
                intro k2 H12 _ s12 ek2
                have d12 := d11.same s12
                have g2 : L2.DGet H12 p0 (.ref k2) (some (.int ((rk N k : Int)))) := by
                  have z := L2.DGet.t (k := keyP "node" (k : Nat)) (d12.keep d0) (by first | (rw [ek2]; rfl) | (rw [ek2, show (0 + (k : Int)) = (k : Int) by omega]; rfl))
                  rwa [ok0.node, if_pos ⟨by omega, by omega⟩] at z
                refine ⟨p0, _, rfl, g2, ?_⟩
                w_fin
                have lw := rk_lt (N := N) (k := N.length) (i := k) (s := 0) (by omega) (by omega)
                have lsum := ix_all TN.sd N.length (Nat.le_refl _)
                have llen := fun k m c => rowF_len TN.sd (valF N nb k m c)
                have el12 := d12.rl c lb hlb
                rw [if_neg (Nat.lt_irrefl c)] at el12
                refine st_setL el12 (ix_of (by omega) (by rw [List.length_map]; unfold linkF; rw [llen]; (try unfold nS); omega)) ?_
                have d13 := d12.setL hlb ((linkF N nb N.length k (c + 1)).set (pos N k) (if sdv N k = 0 then (nB N : Int) + rk N k else rk N k))
                rw [List.map_set] at d13
                unfold pos at d13
                rw [if_pos sk, if_pos sk] at d13
                rw [show ((rk N k : Int) : Int).toNat = rk N k by omega]
                refine ⟨_, _, _, _, _, _, rfl, d13.eq (fun c' _ => ?_) (fun _ _ => rfl)⟩
                by_cases qc : c' = c
                · subst qc
                  rw [if_pos rfl, if_pos (Nat.lt_succ_self _), ← link_lack TN kn hno]
                  unfold pos
                  rw [if_pos sk, if_pos sk]
                · rw [if_neg qc]
                  by_cases q2 : c' < c
                  · rw [if_pos q2, if_pos (by omega)]
                  · rw [if_neg q2, if_neg (by omega)]
              · have sk : sdv N k = 1 := by omega
                w_fin
                intro k1 H11 _ s11 ek1
                have d11 := d9.same s11
                have g1 : L2.DGet H11 p1 (.ref k1) (some (.int ((rk N k : Int)))) := by
                  have z := L2.DGet.t (k := keyP "node" (k : Nat)) (d11.keep d1) (by first | (rw [ek1]; rfl) | (rw [ek1, show (0 + (k : Int)) = (k : Int) by omega]; rfl))
                  rwa [ok1.node, if_pos ⟨by omega, by omega⟩] at z
                refine ⟨p1, _, rfl, g1, ?_⟩
                have epl11 := d11.keep epl
                w_fin
                intro k2 H12 _ s12 ek2
                have d12 := d11.same s12
                have g2 : L2.DGet H12 p0 (.ref k2) (some (.int ((nS N 0 : Int) + rk N k))) := by
                  have z := L2.DGet.t (k := keyP "twin" (k : Nat)) (d12.keep d0) (by first | (rw [ek2]; rfl) | (rw [ek2, show (0 + (k : Int)) = (k : Int) by omega]; rfl))
                  rwa [ok0.twin, if_pos ⟨by omega, by omega⟩] at z
                refine ⟨p0, _, rfl, g2, ?_⟩
                w_fin
                have lw := rk_lt (N := N) (k := N.length) (i := k) (s := 1) (by omega) (by omega)
                have lsum := ix_all TN.sd N.length (Nat.le_refl _)
                have llen := fun k m c => rowF_len TN.sd (valF N nb k m c)
                have el12 := d12.rl c lb hlb
                rw [if_neg (Nat.lt_irrefl c)] at el12
                refine st_setL el12 (ix_of (by omega) (by rw [List.length_map]; unfold linkF; rw [llen]; (try unfold nS); omega)) ?_
                have d13 := d12.setL hlb ((linkF N nb N.length k (c + 1)).set (pos N k) (if sdv N k = 0 then (nB N : Int) + rk N k else rk N k))
                rw [List.map_set] at d13
                unfold pos at d13
                rw [if_neg (show ¬ sdv N k = 0 by omega), if_neg (show ¬ sdv N k = 0 by omega)] at d13
                rw [show ((nS N 0 : Int) + rk N k : Int).toNat = nW N + rk N k by unfold nS nW; omega]
                refine ⟨_, _, _, _, _, _, rfl, d13.eq (fun c' _ => ?_) (fun _ _ => rfl)⟩
                by_cases qc : c' = c
                · subst qc
                  rw [if_pos rfl, if_pos (Nat.lt_succ_self _), ← link_lack TN kn hno]
                  unfold pos
                  rw [if_neg (show ¬ sdv N k = 0 by omega), if_neg (show ¬ sdv N k = 0 by omega)]
                · rw [if_neg qc]
                  by_cases q2 : c' < c
                  · rw [if_pos q2, if_pos (by omega)]
                  · rw [if_neg q2, if_neg (by omega)]
            · refine iteF ?_
              w_fin
              refine ⟨_, _, _, _, _, _, rfl, d9.eq (fun c' _ => ?_) (fun _ _ => rfl)⟩
              by_cases qc : c' = c
              · subst qc
                rw [if_pos (Nat.lt_succ_self _), if_neg (Nat.lt_irrefl _)]
                exact link_has TN hno
              · by_cases q2 : c' < c
                · rw [if_pos q2, if_pos (by omega)]
                · rw [if_neg q2, if_neg (by omega)]
          · rintro σ H9 ⟨a8, a9, a10, a11, a12, a13, rfl, d9⟩
            w_fin
            refine ⟨_, _, _, _, _, _, _, rfl, d9.eq (fun c hc => by rw [if_pos (by omega)]) (fun _ _ => rfl)⟩
        · rintro σ H9 ⟨a7, a8, a9, a10, a11, a12, a13, rfl, d9⟩
          rw [show ((xq.length : Nat) : Int).toNat = N.length by omega] at d9
          have exq9 := d9.keep exq
          have el9 := d9.el
          have s9 : Same H5 H9 := fun a o e => d9.keep e
          w_fin
          intro rl hrl
          have lrow : ∀ i, i < D → (lkRows D N nb)[i]? = some (lkAll N nb (i + 1)) := fun i hi => by
            unfold lkRows
            rw [List.getElem?_map, List.getElem?_range hi]
            rfl
          refine itl_walk (xs := las.map V.ref) (fun i H' => Same H9 H' ∧ ∃ acc, H' rl = some (.lst acc) ∧ SLs (SqT K H') acc ((lkRows D N nb).take i)) ⟨same_new hrl _, [], upd_same, .nil⟩ (fun i H' _ a => SqL.of (a.1 _ _ el9)) ?_ ?_
          · rintro i x H10 hx ⟨s10, acc, ea, sl⟩
            rw [List.getElem?_map] at hx
            obtain ⟨lb, hlb, rfl⟩ := Option.map_eq_some_iff.mp hx
            have hi : i < D := by have := (List.getElem?_eq_some_iff.mp hlb).1; omega
            have elb := s10 _ _ (d9.rl i lb hlb)
            w_fin
            intro tp H11 _ s11 etp
            refine ⟨acc, s11 _ _ ea, lt_small (by rw [sl.len, List.length_take]; unfold lkRows; rw [List.length_map, List.length_range]; omega), same_own (s10.trans s11) hrl _, _, upd_same, ?_⟩
            rw [take_more (lrow i hi)]
            have t := tups_lst (ys := acc ++ [V.ref tp]) (s11 _ _ ea)
            exact ((sl.imp fun _ _ z => t.seq (s11.seqT z))).app (.cons (t.seq (SqT.of etp)) .nil)
          · rintro H10 ⟨s10, acc, ea, sl⟩
            rw [List.length_map, ll, List.take_of_length_le (by unfold lkRows; rw [List.length_map, List.length_range]; exact Nat.le_refl D)] at sl
            w_fin
            intro tp H11 _ s11 etp
            have hN11 := ((d9.nodes hN5).same s10).same s11
            w_fin
            refine ⟨q, 0, N, rfl, hN11, by omega, by omega, TN.sd, fun ip H12 s12 eip => ?_⟩
            w_fin
            refine ⟨q, 1, N, rfl, hN11.same s12, by omega, by omega, TN.sd, fun jp H13 s13 ejp => ?_⟩
            w_fin
            intro rp H14 _ s14 erp
            have sAll := (((s11.trans s12).trans s13).trans s14)
            rw [lxq] at erp
            refine kk rp H14 (((s15.trans s9).trans s10).trans sAll) ?_
            refine .tup (SqT.of erp) (.cons (.str _) (.cons (.int _) (.cons (.tup (((s12.trans s13).trans s14).seqT (SqT.of etp)) ?_) (.cons (.tup ((s13.trans s14).seqT eip) (DtAll.ints _)) (.cons (.tup (s14.seqT ejp) (DtAll.ints _)) .nil)))))
            exact sls_dt (sl.imp fun _ _ z => sAll.seqT z)
end
/-! ### the law's own walk -/
theorem lk_all {D : Nat} {N : List NT} {nb : NB} (T : NetV D N nb) {c y : Nat} (hy : y < N.length) : (y : Int) ∈ lkAll N nb c := by
  have row : ∀ i, i < N.length → valF N nb N.length N.length c i ∈ lkAll N nb c := fun i hi => List.mem_of_getElem? (rowF_at hi (T.sd i hi))
  have lsum := ix_all T.sd N.length (Nat.le_refl _)
  by_cases q : y < (ix N 1 N.length).length
  · have hm := ix_mem.mp (List.getElem_mem q)
    have rq : rk N (ix N 1 N.length)[y] = y := (List.getElem?_inj (List.getElem?_eq_some_iff.mp (ix_at hm.1 hm.2)).1 ix_nd).mp ((ix_at hm.1 hm.2).trans (List.getElem?_eq_getElem q).symm)
    generalize (ix N 1 N.length)[y] = m at hm rq
    rcases h : nb m c with _ | i
    · have := row m hm.1
      rw [valF_none ((nbk_all T).trans h), if_pos hm.1, if_neg (by omega), rq] at this
      exact this
    · have hi := T.sym h
      have sd := T.side h
      have := row i (T.lt hi).1
      rw [valF_some ((nbk_all T).trans hi), if_pos (by omega), rq] at this
      exact this
  · have q2 : y - nB N < (ix N 0 N.length).length := by unfold nB; omega
    have hm := ix_mem.mp (List.getElem_mem q2)
    have rq : rk N (ix N 0 N.length)[y - nB N] = y - nB N := (List.getElem?_inj (List.getElem?_eq_some_iff.mp (ix_at hm.1 hm.2)).1 ix_nd).mp ((ix_at hm.1 hm.2).trans (List.getElem?_eq_getElem q2).symm)
    generalize (ix N 0 N.length)[y - nB N] = m at hm rq
    have ey : (nB N : Int) + (rk N m : Int) = (y : Int) := by rw [rq]; unfold nB; unfold nB at q2; omega
    rcases h : nb m c with _ | i
    · have := row m hm.1
      rw [valF_none ((nbk_all T).trans h), if_pos hm.1, if_pos hm.2, ey] at this
      exact this
    · have hi := T.sym h
      have sd := T.side h
      have := row i (T.lt hi).1
      rw [valF_some ((nbk_all T).trans hi), if_neg (by omega), ey] at this
      exact this
theorem first_at : ∀ {c : List Int} {b : Int}, b ∈ c → ∃ j, j < c.length ∧ c[j]? = some b ∧ ∀ (m : Nat) (z : Int), m < j → c[m]? = some z → z ≠ b
  | x :: c, b, h => by
    by_cases q : x = b
    · exact ⟨0, by simp, by rw [q]; rfl, fun m z hm => absurd hm (Nat.not_lt_zero m)⟩
    · obtain ⟨j, hj, e, f⟩ := first_at (c := c) (b := b) (by
        rcases List.mem_cons.mp h with r | r
        · exact absurd r.symm q
        · exact r)
      refine ⟨j + 1, by simpa using hj, e, fun m z hm hz => ?_⟩
      cases m with
      | zero =>
        rw [← Option.some.inj hz]
        exact q
      | succ m => exact f m z (by omega) hz
theorem inp_at {N : List NT} {i s : Nat} (hi : i < N.length) (hs : sdv N i = s) : (inpL N s)[rk N i]? = some (inpN N i) := by
  unfold inpL
  rw [List.getElem?_append_left (by rw [List.length_map]; exact rk_lt hi hs), List.getElem?_map, ix_at hi hs]
  rfl
section
variable {P : Program} {w : World} {K : PySem.W.Frag} {mg : Str → Option Value} {base : Heap}
theorem index_list {H : Hp} {l : Addr} {c : List Int} {b : Int} {j : Nat} {Q : VK} (e : c[j]? = some b) (first : ∀ (m : Nat) (z : Int), m < j → c[m]? = some z → z ≠ b) (hl : H l = some (.lst (c.map V.int))) (q : Q (.int (j : Nat)) H) : rIndex K (.ref l) [.int b] H Q := by
  refine ⟨l, _, .int b, j, .int b, rfl, rfl, SqL.of hl, rfl, flat_ints _, by rw [List.getElem?_map, e]; rfl, ?_, fun m z' hm hz => ?_, q⟩
  · show decide (b = b) = true
    exact decide_eq_true rfl
  · obtain ⟨z, hz', rfl⟩ := item_of hz
    show decide (z = b) = false
    exact decide_eq_false (first m z hm hz')
def NetH (K : PySem.W.Frag) (H : Hp) (a : Addr) (D : Nat) (N : List NT) (nb : NB) : Prop := ∃ (la wa ba : Addr) (cs : List V), SqT K H a [.str "network", .int (N.length : Nat), .ref la, .ref wa, .ref ba] ∧ SqT K H la cs ∧ SLs (SqT K H) cs (lkRows D N nb) ∧ SqT K H wa ((inpL N 0).map V.int) ∧ SqT K H ba ((inpL N 1).map V.int)
theorem NetH.same {H H' : Hp} {a : Addr} {D : Nat} {N : List NT} {nb : NB} (h : NetH K H a D N nb) (s : Same H H') : NetH K H' a D N nb := by
  obtain ⟨la, wa, ba, cs, h1, h2, h3, h4, h5⟩ := h
  exact ⟨la, wa, ba, cs, s.seqT h1, s.seqT h2, h3.imp fun _ _ z => s.seqT z, s.seqT h4, s.seqT h5⟩
def spWalkV (K : PySem.W.Frag) (lvl : Nat) : Sp := fun vs H Q _ => ∃ (a : Addr) (D T s b i : Nat) (v : Vw T) (N : List NT) (nb : NB), vs = [.ref a, .int s, .int (rk N i), .int T, .int b] ∧ NetH K H a D N nb ∧ NetV D N nb ∧ N.length ≤ 10000 ∧ Rep D N nb v s b i ∧ s ≤ 1 ∧ D ≤ 4 ∧ T < lvl ∧
  ∀ (p : Addr) (H' : Hp), Same H H' → Dt K H' (.ref p) (datV D v b) → Q (.ref p) H'
set_option maxHeartbeats 1000000 in
theorem ok_walk (lvl : Nat) {f : Addr} {fd : FuncData} (B : Blt mg) (g_law_walk : Has P w K mg base CX0 (lvl + 1) "_law_walk" ["network", "side", "node", "reach", "back"] (spWalkV K lvl))
    (F : Fun K "_law_walk" "_law_walk" s_law_walk f fd) : FnOk P w K mg base CX0 (lvl + 2) f fd ["network", "side", "node", "reach", "back"] (spWalkV K (lvl + 1)) := by
  have sc : FnScope ["network", "side", "node", "reach", "back", "number", "parts", "colour", "link", "there"] ["network", "side", "node", "reach", "back"] (defScope s_law_walk) := ⟨rfl, rfl, rfl, by decide +kernel, rfl, by decide +kernel, by decide +kernel⟩
  refine F.ok sc (fun vs H Q E h => ?_) (fun cdv A outer s H vs Q E hr h => ?_)
  · obtain ⟨_, _, _, _, _, _, _, _, _, rfl, _⟩ := h
    rfl
  obtain ⟨a, D, T, s, b, i, v, N, nb, rfl, hN, TN, few, re, s1, D4, hT, kk⟩ := h
  obtain ⟨la, wa, ba, cs, h1, h2, h3, h4, h5⟩ := id hN
  refine ⟨_, (pss_cons (ps_set (i := 5) sc.nd rfl (Or.inl rfl) (pe_ix ix_tup (pe_ix ix_tup (pv 0) (pe_op op_add pe_int (pv 1)) (fun _ _ => rfl)) (pv 2) (fun _ _ => rfl)))
    (pss_cons (ps_if (pt_cmpR op_eqi (pv 3) pe_int (nomark _))
      (pss_one (ps_ret (pe_tupN (pa_cons (pv 5) pa_nil))))
      pss_nil)
    (pss_cons (ps_set (i := 6) sc.nd rfl (Or.inl rfl) (pe_lstN pa_nil))
    (pss_cons (ps_for PassesOwn.never rfl (pi_range2 (by rfl) B.range (pa_cons pe_int (pa_cons (pe_op op_add (pe_callB call_len_seq (by rfl) B.len (by decide +kernel) (pa_cons (pe_ix ix_tup (pv 0) pe_int (fun _ _ => rfl)) pa_nil)) pe_int) pa_nil))) (pg_name (i := 7) sc.nd rfl (Or.inl rfl))
      (pss_one (ps_if (pt_cmpR op_eqi (pv 7) (pv 4) (nomark _))
        (pss_one (ps_expr (pe_bm PySem.F.plainAttrs_list PySem.F.slot_list_append PySem.F.type_list_append mt_append (pv 6) (pa_cons pe_non pa_nil))))
        (pss_cons (ps_set (i := 8) sc.nd rfl (Or.inl rfl) (pe_ix ix_tup (pe_ix ix_tup (pv 0) pe_int (fun _ _ => rfl)) (pe_op op_sub (pv 7) pe_int) (fun _ _ => rfl)))
        (pss_cons (ps_set (i := 9) sc.nd rfl (Or.inl rfl) (pe_bm PySem.F.plainAttrs_list PySem.F.slot_list_index PySem.F.type_list_index mt_index (pe_callTy (show CallR _ _ (rListN K) from call_listN) (by rfl) B.list (by decide +kernel) (pa_cons (pv 8) pa_nil)) (pa_cons (pv 2) pa_nil)))
        (pss_cons (ps_if (pt_cmpR op_eqi (pv 1) pe_int (nomark _))
          (pss_one (ps_set (i := 9) sc.nd rfl (Or.inl rfl) (pe_ix ix_tup (pv 8) (pv 2) (fun _ _ => rfl))))
          pss_nil)
        (pss_one (ps_expr (pe_bm PySem.F.plainAttrs_list PySem.F.slot_list_append PySem.F.type_list_append mt_append (pv 6) (pa_cons (pc g_law_walk hr (pa_cons (pv 0) (pa_cons (pe_op op_sub pe_int (pv 1)) (pa_cons (pv 9) (pa_cons (pe_op op_sub (pv 3) pe_int) (pa_cons (pv 7) pa_nil)))))) pa_nil))))))))))
    (pss_one (ps_ret (pe_tupN (pa_cons (pv 5) (pa_cons (pe_callTy (show CallR _ _ (rTupN K) from call_tupN) (by rfl) B.tuple (by decide +kernel) (pa_cons (pv 6) pa_nil)) pa_nil))))))))), ?_⟩
  try dsimp only [cxOf]
  have top : ∃ u, N[i]? = some (v.top, s, u, b) := by
    cases v with
    | lf x => exact rep0.mp re
    | br x g => exact (rep1.mp re).1
  obtain ⟨u, eN⟩ := top
  have esd : sdv N i = s := sdv_of eN
  have einp : inpN N i = ((v.top : Nat) : Int) := inpN_of eN
  have hi : i < N.length := (List.getElem?_eq_some_iff.mp eN).1
  have pick : ∃ l : Addr, atI [V.str "network", .int (N.length : Nat), .ref la, .ref wa, .ref ba] (3 + (s : Int)) = some (.ref l) ∧ SqT K H l ((inpL N s).map V.int) := by
    by_cases q : s = 0
    · subst q
      exact ⟨wa, rfl, h4⟩
    · obtain rfl : s = 1 := by omega
      exact ⟨ba, rfl, h5⟩
  obtain ⟨l, hl1, hl2⟩ := pick
  have lr := rk_lt hi esd
  w_fin
  refine st_ixT h1 hl1 ?_
  w_fin
  refine st_ixT hl2 (at_of (j := rk N i) (v := .int ((v.top : Nat) : Int)) (by omega) (by rw [List.getElem?_map, inp_at hi esd, einp]; rfl)) ?_
  w_fin
  refine st_two (fun c => ?_) (fun c => ?_)
  · obtain rfl : T = 0 := by omega
    cases v with | lf x =>
    w_fin
    intro p H1 _ s1' hp
    refine kk p H1 s1' ?_
    rw [datV]
    exact .tup (SqT.of hp) (.cons (.int _) .nil)
  obtain ⟨S, rfl⟩ : ∃ S, T = S + 1 := ⟨T - 1, by omega⟩
  cases v with | br x g =>
  have rep := (rep1.mp re).2
  w_fin
  intro pl H1 fpl s1' epl
  have h11 := s1'.seqT h1
  have h21 := s1'.seqT h2
  have lcs : cs.length = D := by rw [h3.len]; unfold lkRows; rw [List.length_map, List.length_range]
  w_fin
  refine fr_range (fun k σ H' => ∃ (a7 a8 a9 : Option V) (acc : List V), σ = [some (.ref a), some (.int s), some (.int (rk N i)), some (.int ((S + 1 : Nat) : Int)), some (.int b), some (.int ((x : Nat) : Int)), some (.ref pl), a7, a8, a9] ∧ Same H H' ∧ H' pl = some (.lst acc) ∧ DtAll K H' acc ((List.range' 1 k).map fun c => if c = b then .none else datV D (g c) c)) ⟨none, none, none, [], rfl, s1', epl, .nil⟩ ?_ ?_
  · rintro k σ H2 hk ⟨a7, a8, a9, acc, rfl, s2, e2, dt⟩
    have h12 := s2.seqT h1
    have h22 := s2.seqT h2
    have few2 : acc.length < sizeLine := lt_small (by rw [dt.len, List.length_map, List.length_range']; omega)
    w_fin
    refine st_two (fun cb => ?_) (fun cb => ?_)
    · w_fin
      refine ⟨pl, _, _, rfl, rfl, e2, few2, ?_⟩
      refine ⟨_, _, _, _, rfl, same_own s2 fpl _, upd_same, ?_⟩
      rw [range1_succ, List.map_append, List.map_singleton, if_pos (show k + 1 = b by omega)]
      exact (dt.stay (tups_lst e2)).app (.cons .non .nil)
    · have kD : k < D := by omega
      obtain ⟨ca, hca, hcs⟩ := h3.at (i := k) (r := lkAll N nb (k + 1)) (by unfold lkRows; rw [List.getElem?_map, List.getElem?_range kD]; rfl)
      have hcs2 := s2.seqT hcs
      w_fin
      refine st_ixT h22 (at_of (j := k) (by omega) hca) ?_
      w_fin
      intro l1 H3 _ s3 e3
      w_fin
      obtain ⟨j, ej, rj⟩ := rep (k + 1) (by omega) (by omega) (by omega)
      have e23 := s3 _ _ e2
      have hcs3 := s3.seqT hcs2
      by_cases q : s = 0
      · obtain ⟨j', _, f1, f2⟩ := first_at (lk_all TN (c := k + 1) (y := rk N i) (Nat.lt_of_lt_of_le lr (Nat.le_trans (List.length_filter_le _ _) (Nat.le_of_eq List.length_range))))
        refine index_list f1 f2 e3 ?_
        w_fin
        refine st_y (by omega) ?_
        w_fin
        refine st_ixT hcs3 (at_of (j := rk N i) (v := .int (rk N j : Nat)) (by omega) (by rw [List.getElem?_map, lk_white TN ej (by omega)]; rfl)) ?_
        w_fin
        refine ⟨a, D, S, 1 - s, k + 1, j, g (k + 1), N, nb, ?_, (hN.same s2).same s3, TN, few, rj, by omega, D4, by omega, fun p H4 s4 hd => ?_⟩
        · rw [show ((1 : Int) - (s : Int)) = ((1 - s : Nat) : Int) by omega, show ((((S + 1 : Nat) : Int)) - 1) = ((S : Nat) : Int) by omega, show (1 + (k : Int)) = ((k + 1 : Nat) : Int) by omega]
        have s24 := (s2.trans s3).trans s4
        have e4 := (s3.trans s4) _ _ e2
        w_fin
        refine ⟨pl, _, _, rfl, rfl, e4, few2, ?_⟩
        refine ⟨_, _, _, _, rfl, same_own s24 fpl _, upd_same, ?_⟩
        rw [range1_succ, List.map_append, List.map_singleton, if_neg (show ¬ k + 1 = b by omega)]
        exact (dt.stay ((s3.trans s4).tups.trans (tups_lst e4))).app (.cons (hd.stay (tups_lst e4)) .nil)
      · obtain ⟨f1, f2⟩ := lk_black TN ej (by omega)
        refine index_list f1 (fun m z hm hz => f2 m hm z hz) e3 ?_
        w_fin
        refine st_n (by omega) ?_
        w_fin
        refine ⟨a, D, S, 1 - s, k + 1, j, g (k + 1), N, nb, ?_, (hN.same s2).same s3, TN, few, rj, by omega, D4, by omega, fun p H4 s4 hd => ?_⟩
        · rw [show ((1 : Int) - (s : Int)) = ((1 - s : Nat) : Int) by omega, show ((((S + 1 : Nat) : Int)) - 1) = ((S : Nat) : Int) by omega, show (1 + (k : Int)) = ((k + 1 : Nat) : Int) by omega]
        have s24 := (s2.trans s3).trans s4
        have e4 := (s3.trans s4) _ _ e2
        w_fin
        refine ⟨pl, _, _, rfl, rfl, e4, few2, ?_⟩
        refine ⟨_, _, _, _, rfl, same_own s24 fpl _, upd_same, ?_⟩
        rw [range1_succ, List.map_append, List.map_singleton, if_neg (show ¬ k + 1 = b by omega)]
        exact (dt.stay ((s3.trans s4).tups.trans (tups_lst e4))).app (.cons (hd.stay (tups_lst e4)) .nil)
  · rintro σ H2 ⟨a7, a8, a9, acc, rfl, s2, e2, dt⟩
    rw [lcs, show ((D : Int) + 1 - 1).toNat = D by omega] at dt
    w_fin
    intro tp H3 _ s3 e3
    w_fin
    intro p H4 _ s4 e4
    refine kk p H4 ((s2.trans s3).trans s4) ?_
    rw [datV]
    exact .tup (SqT.of e4) (.cons (.int _) (.cons (.tup (s4.seqT (SqT.of e3)) (dt.stay (s3.trans s4).tups)) .nil))
theorem has_walk (B : Blt mg) (d : Def K mg "_law_walk" s_law_walk ["network", "side", "node", "reach", "back"]) :
    ∀ n : Nat, Has P w K mg base CX0 (n + 1) "_law_walk" ["network", "side", "node", "reach", "back"] (spWalkV K n)
  | 0 => d.has fun f fd F => by
    have no : ∀ vs H Q E, ¬ spWalkV K 0 vs H Q E := fun vs H Q E h => by
      obtain ⟨_, _, _, _, _, _, _, _, _, _, _, _, _, _, _, _, h, _⟩ := h
      omega
    exact ⟨fun vs H Q E h => absurd h (no vs H Q E), fun A outer s H args us vs Q E _ _ _ _ h => absurd h (no vs H Q E)⟩
  | n + 1 => d.has fun f fd F => ok_walk n B (has_walk B d n) F
end
/-! ### what the program has told so far -/
section
variable {P : Program} {w : World} {K : PySem.W.Frag} {mg : Str → Option Value} {base : Heap}
def cellV (N : List NT) (nb : NB) (g c : Nat) : V :=
  match nb g (c + 1) with
  | some j => .int (rk N j : Nat)
  | none => .non
theorem cell_some {N : List NT} {nb : NB} {g c j : Nat} (h : nb g (c + 1) = some j) : cellV N nb g c = .int (rk N j : Nat) := by
  unfold cellV
  rw [h]
theorem cell_eq {N : List NT} {nb nb' : NB} {g c : Nat} (h : nb' g (c + 1) = nb g (c + 1)) : cellV N nb' g c = cellV N nb g c := by
  unfold cellV
  rw [h]
def endsL (D : Nat) (N : List NT) (nb : NB) (g : Nat) : List V := (List.range D).map (cellV N nb g)
structure TellH (H : Hp) (td wl bl : Addr) (D : Nat) (N : List NT) (nb : NB) (es tp : Nat → Addr) : Prop where
  d : H td = some (.dK [(Sum.inr "white", .ref wl), (Sum.inr "black", .ref bl)])
  lw : H wl = some (.lst ((ix N 0 N.length).map fun g => V.ref (tp g)))
  lb : H bl = some (.lst ((ix N 1 N.length).map fun g => V.ref (tp g)))
  tu : ∀ g, g < N.length → H (tp g) = some (.tup [.int (inpN N g), .ref (es g)])
  en : ∀ g, g < N.length → H (es g) = some (.lst (endsL D N nb g))
  inj : ∀ g h, g < N.length → h < N.length → es g = es h → g = h
  nw : ∀ g, g < N.length → ¬ es g = wl
  nbl : ∀ g, g < N.length → ¬ es g = bl
  wb : ¬ wl = bl
  val : ∀ g c j, nb g c = some j → g < N.length ∧ j < N.length
def MT (wl bl : Addr) (es : Nat → Addr) (n : Nat) (a : Addr) : Prop := a = wl ∨ a = bl ∨ ∃ g, g < n ∧ a = es g
theorem TellH.same {H H' : Hp} {td wl bl : Addr} {D : Nat} {N : List NT} {nb : NB} {es tp : Nat → Addr} (h : TellH H td wl bl D N nb es tp) (s : Same H H') : TellH H' td wl bl D N nb es tp :=
  ⟨s _ _ h.d, s _ _ h.lw, s _ _ h.lb, fun g hg => s _ _ (h.tu g hg), fun g hg => s _ _ (h.en g hg), h.inj, h.nw, h.nbl, h.wb, h.val⟩
theorem ix_snoc {N : List NT} {t : NT} {s : Nat} : ix (N ++ [t]) s (N ++ [t]).length = if t.2.1 = s then ix N s N.length ++ [N.length] else ix N s N.length := by
  rw [List.length_append, List.length_singleton, ix_succ, sdv_of (t := t) (List.getElem?_concat_length ..), ix_pre (List.prefix_append _ _) (Nat.le_refl _)]
theorem inpN_pre {N M : List NT} (h : N <+: M) {g : Nat} (hg : g < N.length) : inpN M g = inpN N g := by
  unfold inpN
  rw [pre_eq h hg]
theorem ends_pre {N M : List NT} {nb : NB} (h : N <+: M) (val : ∀ g c j, nb g c = some j → g < N.length ∧ j < N.length) (D g : Nat) : endsL D M nb g = endsL D N nb g := by
  refine List.map_congr_left (fun c _ => ?_)
  unfold cellV
  rcases e : nb g (c + 1) with _ | j
  · rfl
  · show V.int (rk M j : Nat) = V.int (rk N j : Nat)
    rw [rk_pre h (val _ _ _ e).2]
theorem map_pre {l : List Nat} {n : Nat} {f : Nat → Addr} {a : Addr} (h : ∀ g ∈ l, g < n) : (l.map fun g => V.ref (if g = n then a else f g)) = l.map fun g => V.ref (f g) := List.map_congr_left fun g hg => by
  have := h g hg
  rw [if_neg (by omega)]
theorem TellH.push {H H2 : Hp} {td wl bl e0 t0 : Addr} {D : Nat} {N : List NT} {nb : NB} {es tp : Nat → Addr} {x s b : Nat} {u : Int} (h : TellH H td wl bl D N nb es tp) (s1 : s ≤ 1) (fe : H e0 = none) (ss : Same H H2)
    (ee : H2 e0 = some (.lst (List.replicate D V.non))) (et : H2 t0 = some (.tup [.int (x : Nat), .ref e0])) (fr : ∀ c, nb N.length c = none) :
    TellH (upd H2 (if s = 0 then wl else bl) (.lst (((ix N s N.length).map fun g => V.ref (tp g)) ++ [.ref t0]))) td wl bl D (N ++ [(x, s, u, b)]) nb (fun g => if g = N.length then e0 else es g) (fun g => if g = N.length then t0 else tp g) := by
  have h2 := h.same ss
  have pre : N <+: N ++ [(x, s, u, b)] := List.prefix_append _ _
  have small : ∀ s, ∀ g ∈ ix N s N.length, g < N.length := fun s g hg => (ix_mem.mp hg).1
  have ne0 : ∀ {a : Addr} {o : HO}, H a = some o → ¬ e0 = a := fun e z => by
    subst z
    rw [fe] at e
    cases e
  have lenM : (N ++ [(x, s, u, b)]).length = N.length + 1 := by rw [List.length_append]; rfl
  have notL : ∀ {a : Addr}, ¬ a = wl → ¬ a = bl → ¬ a = (if s = 0 then wl else bl) := fun p q => by
    split
    · exact p
    · exact q
  have tupne : ∀ {a : Addr} {xs : List V}, H2 a = some (.tup xs) → ¬ a = (if s = 0 then wl else bl) := fun e => notL (fun z => by rw [z, h2.lw] at e; cases e) (fun z => by rw [z, h2.lb] at e; cases e)
  refine ⟨?_, ?_, ?_, fun g hg => ?_, fun g hg => ?_, fun g k hg hk e => ?_, fun g hg => ?_, fun g hg => ?_, h.wb, fun g c j e => ?_⟩
  · rw [upd_ne (notL (fun z => by have := h2.d; rw [z, h2.lw] at this; cases this) (fun z => by have := h2.d; rw [z, h2.lb] at this; cases this))]
    exact h2.d
  · rw [ix_snoc]
    by_cases q : s = 0
    · subst q
      rw [if_pos rfl, if_pos rfl, upd_same, List.map_append, map_pre (small 0)]
      show _ = some (HO.lst (_ ++ [V.ref (if N.length = N.length then t0 else tp N.length)]))
      rw [if_pos rfl]
    · rw [if_neg q, if_neg q, upd_ne h.wb, map_pre (small 0)]
      exact h2.lw
  · rw [ix_snoc]
    by_cases q : s = 0
    · subst q
      rw [if_pos rfl, if_neg (show ¬ 0 = 1 by decide), upd_ne (fun z => h.wb z.symm), map_pre (small 1)]
      exact h2.lb
    · obtain rfl : s = 1 := by omega
      rw [if_neg (by decide), if_pos rfl, upd_same, List.map_append, map_pre (small 1)]
      show _ = some (HO.lst (_ ++ [V.ref (if N.length = N.length then t0 else tp N.length)]))
      rw [if_pos rfl]
  · by_cases q : g = N.length
    · subst q
      show upd H2 _ _ (if N.length = N.length then t0 else tp N.length) = some (.tup [.int (inpN _ N.length), .ref (if N.length = N.length then e0 else es N.length)])
      rw [if_pos rfl, if_pos rfl, upd_ne (tupne et), inpN_of (t := (x, s, u, b)) (List.getElem?_concat_length ..)]
      exact et
    · have hg' : g < N.length := by omega
      show upd H2 _ _ (if g = N.length then t0 else tp g) = some (.tup [.int (inpN _ g), .ref (if g = N.length then e0 else es g)])
      rw [if_neg q, if_neg q, upd_ne (tupne (h2.tu g hg')), inpN_pre pre hg']
      exact h2.tu g hg'
  · rw [ends_pre pre h.val]
    by_cases q : g = N.length
    · subst q
      show upd H2 _ _ (if N.length = N.length then e0 else es N.length) = _
      rw [if_pos rfl, upd_ne (notL (ne0 h.lw) (ne0 h.lb)), ee]
      have : endsL D N nb N.length = (List.range D).map fun _ => V.non := List.map_congr_left fun c _ => by
        unfold cellV
        rw [fr]
      rw [this, List.map_const', List.length_range]
    · have hg' : g < N.length := by omega
      show upd H2 _ _ (if g = N.length then e0 else es g) = _
      rw [if_neg q, upd_ne (notL (h.nw g hg') (h.nbl g hg'))]
      exact h2.en g hg'
  · replace e : (if g = N.length then e0 else es g) = (if k = N.length then e0 else es k) := e
    by_cases q : g = N.length
    · by_cases r : k = N.length
      · omega
      · rw [if_pos q, if_neg r] at e
        exact absurd e (ne0 (h.en k (by omega)))
    · by_cases r : k = N.length
      · rw [if_neg q, if_pos r] at e
        exact absurd e.symm (ne0 (h.en g (by omega)))
      · rw [if_neg q, if_neg r] at e
        exact h.inj g k (by omega) (by omega) e
  · show ¬ (if g = N.length then e0 else es g) = wl
    by_cases q : g = N.length
    · rw [if_pos q]
      exact ne0 h.lw
    · rw [if_neg q]
      exact h.nw g (by omega)
  · show ¬ (if g = N.length then e0 else es g) = bl
    by_cases q : g = N.length
    · rw [if_pos q]
      exact ne0 h.lb
    · rw [if_neg q]
      exact h.nbl g (by omega)
  · have := h.val g c j e
    omega
/-- an entry is written -/
theorem TellH.set {H : Hp} {td wl bl : Addr} {D : Nat} {N : List NT} {nb : NB} {es tp : Nat → Addr} {g c j : Nat} (h : TellH H td wl bl D N nb es tp) (hg : g < N.length) (hc : c < D) (hj : j < N.length) :
    TellH (upd H (es g) (.lst ((endsL D N nb g).set c (.int (rk N j : Nat))))) td wl bl D N (fun i d => if i = g ∧ d = c + 1 then some j else nb i d) es tp := by
  have tupne : ∀ {a : Addr} {xs : List V}, H a = some (.tup xs) → ¬ a = es g := fun e z => by
    rw [z, h.en g hg] at e
    cases e
  refine ⟨?_, ?_, ?_, fun k hk => ?_, fun k hk => ?_, h.inj, h.nw, h.nbl, h.wb, fun i d k e => ?_⟩
  · rw [upd_ne (fun z => by have := h.d; rw [z, h.en g hg] at this; cases this)]
    exact h.d
  · rw [upd_ne (fun z => h.nw g hg z.symm)]
    exact h.lw
  · rw [upd_ne (fun z => h.nbl g hg z.symm)]
    exact h.lb
  · rw [upd_ne (tupne (h.tu k hk))]
    exact h.tu k hk
  · by_cases q : k = g
    · subst q
      rw [upd_same]
      unfold endsL
      rw [range_map_set hc]
      congr 2
      refine List.map_congr_left fun d _ => ?_
      by_cases r : d = c
      · subst r
        rw [if_pos rfl]
        exact (cell_some (if_pos ⟨rfl, rfl⟩)).symm
      · rw [if_neg r]
        exact (cell_eq (if_neg (by omega))).symm
    · rw [upd_ne (fun z => q (h.inj k g hk hg z)), h.en k hk]
      congr 2
      refine List.map_congr_left fun d _ => ?_
      exact (cell_eq (if_neg (fun z => q z.1))).symm
  · by_cases q : i = g ∧ d = c + 1
    · rw [if_pos q] at e
      cases e
      exact ⟨q.1 ▸ hg, hj⟩
    · rw [if_neg q] at e
      exact h.val i d k e
end
/-! ### the program tells a view -/
def tellEK (D : Nat) {r : Nat} (f : Nat → Vw r) (b n : Nat) (nb : NB) (k : Nat) : Nat × NB := (List.range' 1 k).foldl (fun p c => if c = b then p else ((tellE D (f c) c p.1 p.2).1, setE (tellE D (f c) c p.1 p.2).2 p.1 n c)) (n + 1, nb)
theorem tellEK_all {D r : Nat} {x : Nat} {f : Nat → Vw r} {b n : Nat} {nb : NB} : tellE D (.br x f) b n nb = tellEK D f b n nb D := by
  rw [tellE]
  rfl
theorem tellEK_succ {D r : Nat} {f : Nat → Vw r} {b n : Nat} {nb : NB} {k : Nat} : tellEK D f b n nb (k + 1) = if k + 1 = b then tellEK D f b n nb k else ((tellE D (f (k + 1)) (k + 1) (tellEK D f b n nb k).1 (tellEK D f b n nb k).2).1, setE (tellE D (f (k + 1)) (k + 1) (tellEK D f b n nb k).1 (tellEK D f b n nb k).2).2 (tellEK D f b n nb k).1 n (k + 1)) := foldl_range _ _ _
theorem told_key {D r : Nat} {x : Nat} {g : Nat → Vw r} {s : Nat} {u : Int} {b : Nat} {N : List NT} {nb : NB} (s1 : s ≤ 1) (f : ∀ i c, N.length ≤ i → nb i c = none) : ∀ k : Nat, k ≤ D →
    (tellEK D g b N.length nb k).1 = (tellK D x g s u b N k).length ∧ Told D N nb (tellK D x g s u b N k) (tellEK D g b N.length nb k).2 N.length ∧ (tellK D x g s u b N k)[N.length]? = some (x, s, u, b) ∧ ∀ c, (c = b ∨ c = 0 ∨ k < c) → (tellEK D g b N.length nb k).2 N.length c = none
  | 0, _ => ⟨by show N.length + 1 = (N ++ [(x, s, u, b)]).length; rw [List.length_append]; rfl, Told.start f _, List.getElem?_concat_length .., fun c _ => f _ _ (Nat.le_refl _)⟩
  | k + 1, hk => by
    obtain ⟨l, T, top, no⟩ := told_key (D := D) (x := x) (g := g) (u := u) (b := b) s1 f k (Nat.le_of_succ_le hk)
    rw [tellEK_succ, tellK_succ]
    by_cases q : k + 1 = b
    · rw [if_pos q, if_pos q]
      refine ⟨l, T, top, fun c hc => no c (by omega)⟩
    · rw [if_neg q, if_neg q, l]
      obtain ⟨l1, T1, top1, no1, _⟩ := told_all r (g (k + 1)) (1 - s) ((N.length : Nat) : Int) (k + 1) (tellK D x g s u b N k) (tellEK D g b N.length nb k).2 (by omega) T.fresh
      have hl := T.more
      have free := no (k + 1) (by omega)
      refine ⟨l1, T.child top s1 (by omega) (by omega) free rfl T1 top1 (no1 (k + 1) (.inl rfl)), pre_at T1.ext top, fun c hc => ?_⟩
      show setE (tellE D (g (k + 1)) (k + 1) (tellK D x g s u b N k).length (tellEK D g b N.length nb k).2).2 (tellK D x g s u b N k).length N.length (k + 1) N.length c = none
      unfold setE
      rw [if_neg (by omega), if_neg (by omega), T1.out _ _ hl]
      exact no c (by omega)
section
variable {P : Program} {w : World} {K : PySem.W.Frag} {mg : Str → Option Value} {base : Heap}
def sideW (s : Nat) : Str := if s = 0 then "white" else "black"
def spOtherW (K : PySem.W.Frag) : Sp := fun vs H Q _ => ∃ s : Nat, vs = [.str (sideW s)] ∧ s ≤ 1 ∧ Q (.str (sideW (1 - s))) H
theorem ok_otherw {f : Addr} {fd : FuncData} (F : Fun K "other_side" "other_side" sother_side f fd) : FnOk P w K mg base CX0 1 f fd ["side"] (spOtherW K) := by
  have sc : FnScope ["side"] ["side"] (defScope sother_side) := ⟨rfl, rfl, rfl, by decide +kernel, rfl, by decide +kernel, by decide +kernel⟩
  refine F.ok sc (fun vs H Q E h => ?_) (fun cdv A outer s H vs Q E hr h => ?_)
  · obtain ⟨_, rfl, _⟩ := h
    rfl
  obtain ⟨s, rfl, s1, k⟩ := h
  refine ⟨_, (pss_one (ps_ret (pe_ifExp (pt_cmpR op_eqs (pv 0) pe_str (nomark _)) pe_str pe_str))), ?_⟩
  try dsimp only [cxOf]
  have hs : s = 0 ∨ s = 1 := by omega
  rcases hs with rfl | rfl
  · w_fin
    exact k
  · w_fin
    exact k
theorem tell_get {H : Hp} {td wl bl : Addr} {D : Nat} {N : List NT} {nb : NB} {es tp : Nat → Addr} (h : TellH H td wl bl D N nb es tp) {s : Nat} (s1 : s ≤ 1) : L2.DGet H td (.str (sideW s)) (some (.ref (if s = 0 then wl else bl))) := by
  have hs : s = 0 ∨ s = 1 := by omega
  rcases hs with rfl | rfl
  · have := L2.DGet.k (k := Sum.inr (sideW 0)) h.d
    exact this
  · have := L2.DGet.k (k := Sum.inr (sideW 1)) h.d
    exact this
theorem tell_list {H : Hp} {td wl bl : Addr} {D : Nat} {N : List NT} {nb : NB} {es tp : Nat → Addr} (h : TellH H td wl bl D N nb es tp) {s : Nat} (s1 : s ≤ 1) : H (if s = 0 then wl else bl) = some (.lst ((ix N s N.length).map fun g => V.ref (tp g))) := by
  have hs : s = 0 ∨ s = 1 := by omega
  rcases hs with rfl | rfl
  · exact h.lw
  · exact h.lb
theorem go_wider {M1 M2 : Addr → Prop} {H H1 H2 : Hp} (a : Go M1 H H1) (b : Go M2 H1 H2) (h : ∀ x o, H x = some o → ¬ M1 x → ¬ M2 x) : Go M1 H H2 :=
  ⟨fun c o m e => b.out c o (h c o e m) (a.out c o m e), a.tups.trans b.tups⟩
end
section
variable {P : Program} {w : World} {K : PySem.W.Frag} {mg : Str → Option Value} {base : Heap}
def spTellP (K : PySem.W.Frag) (lvl : Nat) : Sp := fun vs H Q _ => ∃ (td wl bl br : Addr) (D T s b : Nat) (u : Int) (v : Vw T) (N : List NT) (nb : NB) (es tp : Nat → Addr), vs = [.ref td, .int D, .str (sideW s), .ref br] ∧ TellH H td wl bl D N nb es tp ∧ Dt K H (.ref br) (datV D v b) ∧ s ≤ 1 ∧ D ≤ 4 ∧ T < lvl ∧
  (∀ i c, N.length ≤ i → nb i c = none) ∧ (tellN D v s u b N).length ≤ 10000 ∧
  ∀ (H' : Hp) (es' tp' : Nat → Addr), Go (MT wl bl es N.length) H H' → TellH H' td wl bl D (tellN D v s u b N) (tellE D v b N.length nb).2 es' tp' → (∀ g, g < N.length → es' g = es g) →
    (∀ g, N.length ≤ g → g < (tellN D v s u b N).length → H (es' g) = none) → Q (.int (rk (tellN D v s u b N) N.length : Nat)) H'
theorem rk_new {N M : List NT} {x s b : Nat} {u : Int} (p : N <+: M) (e : M[N.length]? = some (x, s, u, b)) : rk M N.length = (ix N s N.length).length := by
  unfold rk
  rw [sdv_of e]
  show (ix M s N.length).length = _
  rw [ix_pre p (Nat.le_refl _)]
set_option maxHeartbeats 2000000 in
theorem ok_tell (n : Nat) {f : Addr} {fd : FuncData} (B : Blt mg) (gother_side : Has P w K mg base CX0 1 "other_side" ["side"] (spOtherW K)) (g_tell : Has P w K mg base CX0 (n + 1) "_tell" ["told", "D", "side", "branch"] (spTellP K n))
    (F : Fun K "_tell" "_tell" s_tell f fd) : FnOk P w K mg base CX0 (n + 2) f fd ["told", "D", "side", "branch"] (spTellP K (n + 1)) := by
  have sc : FnScope ["told", "D", "side", "branch", "node", "ends", "at", "part"] ["told", "D", "side", "branch"] (defScope s_tell) := ⟨rfl, rfl, rfl, by decide +kernel, rfl, by decide +kernel, by decide +kernel⟩
  refine F.ok sc (fun vs H Q E h => ?_) (fun cdv A outer s H vs Q E hr h => ?_)
  · obtain ⟨_, _, _, _, _, _, _, _, _, _, _, _, _, _, rfl, _⟩ := h
    rfl
  obtain ⟨td, wl, bl, br, D, T, s, b, u, v, N, nb, es, tp, rfl, hT, hb, s1, D4, hTl, fr, few, kk⟩ := h
  refine ⟨_, (pss_cons (ps_set (i := 4) sc.nd rfl (Or.inl rfl) (pe_callB call_len_seq (by rfl) B.len (by decide +kernel) (pa_cons (pe_dget (hu_of hr) (pv 0) (pv 2) (fun _ _ => rfl)) pa_nil)))
    (pss_cons (ps_set (i := 5) sc.nd rfl (Or.inl rfl) (pe_op (show OpR _ _ rMulLN from op_mulLN) (pe_lstN (pa_cons pe_non pa_nil)) (pv 1)))
    (pss_cons (ps_expr (pe_bm PySem.F.plainAttrs_list PySem.F.slot_list_append PySem.F.type_list_append mt_append (pe_dget (hu_of hr) (pv 0) (pv 2) (fun _ _ => rfl)) (pa_cons (pe_tupN (pa_cons (pe_ix ix_tup (pv 3) pe_int (fun _ _ => rfl)) (pa_cons (pv 5) pa_nil))) pa_nil)))
    (pss_cons (ps_if (pt_cmpR op_gt (pe_callB call_len_seq (by rfl) B.len (by decide +kernel) (pa_cons (pv 3) pa_nil)) pe_int (nomark _))
      (pss_one (ps_for PassesOwn.never rfl (pi_enT (by rfl) B.enumerate (pa_cons (pe_ix ix_tup (pv 3) pe_int (fun _ _ => rfl)) pa_nil)) (pg_tup rfl (pgs_cons (pg_name (i := 6) sc.nd rfl (Or.inl rfl)) (pgs_cons (pg_name (i := 7) sc.nd rfl (Or.inl rfl)) pgs_nil)))
        (pss_one (ps_if (pt_cmpR op_notN (pv 7) pe_non (nomark _))
          (pss_cons (ps_asg (pc g_tell hr (pa_cons (pv 0) (pa_cons (pv 1) (pa_cons (pc gother_side hr (pa_cons (pv 2) pa_nil)) (pa_cons (pv 7) pa_nil))))) (pg_sub (pv 5) (pv 6) set_list))
          (pss_one (ps_asg (pv 4) (pg_sub (pe_ix ix_tup (pe_ix ix_list (pe_dget (hu_of hr) (pv 0) (pc gother_side hr (pa_cons (pv 2) pa_nil)) (fun _ _ => rfl)) (pe_ix ix_list (pv 5) (pv 6) (fun _ _ => rfl)) (fun _ _ => rfl)) pe_int (fun _ _ => rfl)) (pv 6) set_list))))
          pss_nil))))
      pss_nil)
    (pss_one (ps_ret (pv 4))))))), ?_⟩
  try dsimp only [cxOf]
  have eL := tell_list hT s1
  have pre := tell_pre (D := D) v s u b N
  have ln := pre.length_le
  have lenI : (ix N s N.length).length ≤ N.length := Nat.le_trans (List.length_filter_le _ _) (Nat.le_of_eq List.length_range)
  w_fin
  refine ⟨td, _, rfl, tell_get hT s1, ?_⟩
  w_fin
  intro e00 H1 fe00 s1' ee00
  have hT1 := hT.same s1'
  have hb1 := hb.stay s1'.tups
  w_fin
  refine ⟨e00, (D : Int), _, rfl, rfl, ee00, by omega, by omega, by show 1 * ((D : Nat) : Int).toNat ≤ 100000; omega, ?_⟩
  intro e0 H2 fe0 s2 ee0
  rw [List.flatten_replicate_singleton, show ((D : Nat) : Int).toNat = D by omega] at ee0
  have hT2 := hT1.same s2
  have s12 := s1'.trans s2
  obtain ⟨rest, hbr⟩ : ∃ rest, SqT K H br (.int ((v.top : Nat) : Int) :: rest) := by
    cases v with
    | lf x => rw [datV] at hb; exact ⟨[], leaf_inv hb⟩
    | br x g =>
      rw [datV] at hb
      obtain ⟨l, xs, h1, _⟩ := br_inv hb
      exact ⟨[.ref l], h1⟩
  have hbr2 := s12.seqT hbr
  have eL2 := tell_list hT2 s1
  w_fin
  refine ⟨td, _, rfl, tell_get hT2 s1, ?_⟩
  w_fin
  refine st_ixT hbr2 (at_of (j := 0) (by omega) rfl) ?_
  w_fin
  intro t0 H3 ft0 s3 et0
  w_fin
  have hT3 := hT2.same s3
  have eL3 := tell_list hT3 s1
  refine ⟨_, _, _, rfl, rfl, eL3, lt_small (by rw [List.length_map]; omega), ?_⟩
  have hP := hT1.push (b := b) (u := u) s1 fe0 (s2.trans s3) (s3 _ _ ee0) et0 (fun c => fr _ _ (Nat.le_refl _))
  have gP : Go (MT wl bl es N.length) H (upd H3 (if s = 0 then wl else bl) (.lst (((ix N s N.length).map fun g => V.ref (tp g)) ++ [.ref t0]))) := by
    refine ((s12.trans s3).go).trans (Go.put ?_ eL3)
    unfold MT
    split
    · exact .inl rfl
    · exact .inr (.inl rfl)
  generalize upd H3 (if s = 0 then wl else bl) (.lst (((ix N s N.length).map fun g => V.ref (tp g)) ++ [.ref t0])) = H4 at hP gP ⊢
  have fe : H e0 = none := none_same s1' fe0
  have hbr4 := gP.seqT hbr
  cases v with
  | lf x =>
    rw [datV] at hb
    have hb4 := gP.seqT (leaf_inv hb)
    clear hbr4 hbr hbr2
    rw [tellN, tellE] at kk
    w_fin
    refine st_n (by show ¬ (1 : Int) < ((1 : Nat) : Int); decide) ?_
    w_fin
    rw [List.length_map, ← rk_new (M := N ++ [(x, s, u, b)]) (List.prefix_append _ _) (List.getElem?_concat_length ..)]
    refine kk H4 _ _ gP hP (fun g hg => if_neg (by omega)) (fun g h1 h2 => ?_)
    rw [List.length_append, List.length_singleton] at h2
    show H (if g = N.length then e0 else es g) = none
    rw [if_pos (by omega)]
    exact fe
  | br x g =>
    rename_i r
    rw [datV] at hb
    obtain ⟨l, xs, hb1', hb2', hb3'⟩ := br_inv hb
    clear hbr4 hbr hbr2
    have hb4 := gP.seqT hb1'
    have hl4 := gP.seqT hb2'
    have lxs : xs.length = D := by rw [hb3'.len, List.length_map, List.length_range']
    w_fin
    refine st_y (by show (1 : Int) < ((2 : Nat) : Int); decide) ?_
    w_fin
    refine fr_enum (xs := xs) (fun k σ H' => ∃ (av pv : Option V) (es' tp' : Nat → Addr), σ = [some (.ref td), some (.int D), some (.str (sideW s)), some (.ref br), some (.int (((ix N s N.length).map fun g => V.ref (tp g)).length : Nat)), some (.ref e0), av, pv] ∧
      Go (MT wl bl es N.length) H H' ∧ TellH H' td wl bl D (tellK D x g s u b N k) (tellEK D g b N.length nb k).2 es' tp' ∧ (∀ g, g < N.length → es' g = es g) ∧ es' N.length = e0 ∧ (∀ j, N.length ≤ j → j < (tellK D x g s u b N k).length → H (es' j) = none))
      ⟨none, none, _, _, rfl, gP, hP, fun g hg => if_neg (by omega), if_pos rfl, fun j h1 h2 => ?_⟩ ?_ ?_ ?_
    · have h3 : j < (N ++ [(x, s, u, b)]).length := h2
      rw [List.length_append, List.length_singleton] at h3
      show H (if j = N.length then e0 else es j) = none
      rw [if_pos (by omega)]
      exact fe
    · rintro i σ H5 _ ⟨_, _, _, _, _, g5, _⟩
      exact g5.seqT hb2'
    · rintro i y σ H5 tt H6 hy ⟨av, pv, es', tp', rfl, g5, h5, a5, b5, c5⟩ _ s6 ett
      have hi : i < D := by have := (List.getElem?_eq_some_iff.mp hy).1; omega
      obtain ⟨d', hd', dy⟩ := hb3'.of hy
      rw [List.getElem?_map, List.getElem?_range' (by omega), show 1 + 1 * i = i + 1 by omega] at hd'
      have h6 := h5.same s6
      have g6 := g5.trans s6.go
      refine st_gtup (SqT.of ett) rfl ?_
      w_fin
      refine ⟨rfl, _, rfl, ?_⟩
      obtain ⟨lk, Tk, topk, nok⟩ := told_key (D := D) (x := x) (g := g) (s := s) (u := u) (b := b) s1 fr i (by omega)
      by_cases hc : i + 1 = b
      · have hdn : d' = .none := by
          rw [Option.map_some, if_pos hc] at hd'
          exact (Option.some.inj hd').symm
        subst hdn
        cases dy
        refine iteF ?_
        w_fin
        refine ⟨_, _, es', tp', rfl, g6, ?_, a5, b5, ?_⟩
        · rw [tellK_succ, tellEK_succ, if_pos hc, if_pos hc]
          exact h6
        · rw [tellK_succ, if_pos hc]
          exact c5
      have hdn : d' = datV D (g (i + 1)) (i + 1) := by
        rw [Option.map_some, if_neg hc] at hd'
        exact (Option.some.inj hd').symm
      subst hdn
      obtain ⟨pa, rfl⟩ : ∃ pa, y = .ref pa := by
        cases hv : g (i + 1) with
        | lf z => rw [hv, datV] at dy; cases dy; exact ⟨_, rfl⟩
        | br z h => rw [hv, datV] at dy; cases dy; exact ⟨_, rfl⟩
      have hsub := (tellK_pre (D := D) (x := x) (f := g) (s := s) (u := u) (b := b) (N := N) (k := i + 1) (D - (i + 1))).length_le
      rw [show i + 1 + (D - (i + 1)) = D by omega] at hsub
      rw [tellK_all] at few
      have eK : tellK D x g s u b N (i + 1) = tellN D (g (i + 1)) (1 - s) ((N.length : Nat) : Int) (i + 1) (tellK D x g s u b N i) := by rw [tellK_succ, if_neg hc]
      refine iteT ?_
      w_fin
      refine ⟨s, rfl, s1, ?_⟩
      w_fin
      refine ⟨td, wl, bl, pa, D, r, 1 - s, i + 1, ((N.length : Nat) : Int), g (i + 1), tellK D x g s u b N i, (tellEK D g b N.length nb i).2, es', tp', rfl, h6, dy.stay g6.tups, by omega, D4, by omega, Tk.fresh, by rw [← eK]; omega, fun H7 es2 tp2 g7 h7 a7 c7 => ?_⟩
      have eE : (tellEK D g b N.length nb (i + 1)).2 = setE (tellE D (g (i + 1)) (i + 1) (tellK D x g s u b N i).length (tellEK D g b N.length nb i).2).2 (tellK D x g s u b N i).length N.length (i + 1) := by rw [tellEK_succ, if_neg hc, lk]
      rw [← eK] at h7 c7 ⊢
      have hm := Tk.more
      have preK : tellK D x g s u b N i <+: tellK D x g s u b N (i + 1) := by rw [eK]; exact tell_pre _ _ _ _ _
      obtain ⟨_, T1, top1, _⟩ := told_all r (g (i + 1)) (1 - s) ((N.length : Nat) : Int) (i + 1) (tellK D x g s u b N i) (tellEK D g b N.length nb i).2 (by omega) Tk.fresh
      rw [← eK] at T1 top1
      have hm2 := T1.more
      have topn := pre_at preK topk
      generalize (tellE D (g (i + 1)) (i + 1) (tellK D x g s u b N i).length (tellEK D g b N.length nb i).2).2 = nb7 at *
      have rn : rk (tellK D x g s u b N (i + 1)) N.length = (ix N s N.length).length := rk_new (Tk.ext.trans preK) topn
      have b7 : es2 N.length = e0 := (a7 _ hm).trans b5
      have ee7 := h7.en N.length (by omega)
      rw [b7] at ee7
      have bk : ∀ a, H6 a = none → H a = none := fun a ha => by
        cases e : H a with
        | none => rfl
        | some o =>
          exfalso
          by_cases q : MT wl bl es N.length a
          · rcases q with rfl | rfl | ⟨j, hj, rfl⟩
            · rw [h6.lw] at ha; cases ha
            · rw [h6.lb] at ha; cases ha
            · have := h6.en j (by omega)
              rw [a5 j hj, ha] at this
              cases this
          · rw [g6.out _ _ q e] at ha
            cases ha
      have g67 : Go (MT wl bl es N.length) H H7 := go_wider g6 g7 (fun a o ha q => by
        rintro (rfl | rfl | ⟨j, hj, rfl⟩)
        · exact q (.inl rfl)
        · exact q (.inr (.inl rfl))
        · by_cases z : j < N.length
          · exact q (.inr (.inr ⟨j, z, a5 j z⟩))
          · rw [c5 j (by omega) hj] at ha
            cases ha)
      have endl : ∀ M nb g, (endsL D M nb g).length = D := fun M nb g => by unfold endsL; rw [List.length_map, List.length_range]
      w_fin
      refine st_setL ee7 (ix_of (by omega) (by rw [endl]; omega)) ?_
      have h8 := h7.set (g := N.length) (c := i) (j := (tellK D x g s u b N i).length) (by omega) hi hm2
      rw [b7] at h8
      have g8 := g67.own fe (.lst ((endsL D (tellK D x g s u b N (i + 1)) nb7 N.length).set i (.int (rk (tellK D x g s u b N (i + 1)) (tellK D x g s u b N i).length : Nat))))
      rw [show (((0 + i : Nat) : Int)).toNat = i by omega]
      generalize upd H7 e0 (.lst ((endsL D (tellK D x g s u b N (i + 1)) nb7 N.length).set i (.int (rk (tellK D x g s u b N (i + 1)) (tellK D x g s u b N i).length : Nat)))) = H8 at h8 g8 ⊢
      have ee8 := h8.en N.length (by omega)
      rw [b7] at ee8
      have eL8 := tell_list h8 (s := 1 - s) (by omega)
      have etu := SqT.of (K := K) (h8.tu (tellK D x g s u b N i).length hm2)
      have een := h8.en (tellK D x g s u b N i).length hm2
      have sdm : sdv (tellK D x g s u b N (i + 1)) (tellK D x g s u b N i).length = 1 - s := sdv_of top1
      w_fin
      refine ⟨s, rfl, s1, td, _, rfl, tell_get h8 (by omega), ?_⟩
      w_fin
      refine st_ixL (SqL.of ee8) (at_of (j := i) (v := .int (rk (tellK D x g s u b N (i + 1)) (tellK D x g s u b N i).length : Nat)) (by omega) (by unfold endsL; rw [List.getElem?_map, List.getElem?_range hi]; exact congrArg some (cell_some (if_pos ⟨rfl, rfl⟩)))) ?_
      w_fin
      refine st_ixL (SqL.of eL8) (at_of (j := rk (tellK D x g s u b N (i + 1)) (tellK D x g s u b N i).length) (by omega) (by rw [List.getElem?_map, ix_at hm2 sdm]; rfl)) ?_
      w_fin
      refine st_setL een (ix_of (by omega) (by rw [endl]; omega)) ?_
      have h9 := h8.set (g := (tellK D x g s u b N i).length) (c := i) (j := N.length) hm2 hi (by omega)
      rw [rn] at h9
      have em : H (es2 (tellK D x g s u b N i).length) = none := bk _ (c7 _ (Nat.le_refl _) hm2)
      refine ⟨_, _, es2, tp2, rfl, g8.own em _, ?_, fun j hj => (a7 j (by omega)).trans (a5 j hj), b7, fun j h1 h2 => ?_⟩
      · rw [eE, List.length_map, show (((0 + i : Nat) : Int)).toNat = i by omega]
        exact h9
      · by_cases z : j < (tellK D x g s u b N i).length
        · rw [a7 j z]
          exact c5 j h1 z
        · exact bk _ (c7 j (by omega) h2)
    · rintro σ H5 ⟨av, pv, es', tp', rfl, g5, h5, a5, b5, c5⟩
      rw [lxs] at h5 c5
      rw [tellK_all, tellEK_all] at kk
      obtain ⟨lk, Tk, topk, nok⟩ := told_key (D := D) (x := x) (g := g) (s := s) (u := u) (b := b) s1 fr D (Nat.le_refl _)
      w_fin
      rw [List.length_map, ← rk_new Tk.ext topk]
      exact kk H5 es' tp' g5 h5 a5 c5
theorem has_tell (B : Blt mg) (go : Has P w K mg base CX0 1 "other_side" ["side"] (spOtherW K)) (d : Def K mg "_tell" s_tell ["told", "D", "side", "branch"]) :
    ∀ n : Nat, Has P w K mg base CX0 (n + 1) "_tell" ["told", "D", "side", "branch"] (spTellP K n)
  | 0 => d.has fun f fd F => by
    have no : ∀ vs H Q E, ¬ spTellP K 0 vs H Q E := fun vs H Q E h => by
      obtain ⟨_, _, _, _, _, _, _, _, _, _, _, _, _, _, _, _, _, _, _, h, _⟩ := h
      omega
    exact ⟨fun vs H Q E h => absurd h (no vs H Q E), fun A outer s H args us vs Q E _ _ _ _ h => absurd h (no vs H Q E)⟩
  | n + 1 => d.has fun f fd F => ok_tell n B go (has_tell B go d n) F
end
/-! ### network_showing -/
section
variable {P : Program} {w : World} {K : PySem.W.Frag} {mg : Str → Option Value} {base : Heap}
theorem ite_walk {a : Addr} {xs : List V} {B : (Hp → Prop) → V → Hp → Prop} {H0 : Hp} {Qd : Hp → Prop} (Pv : Nat → Hp → Prop) (h0 : Pv 0 H0) (hl : ∀ i H, i ≤ xs.length → Pv i H → SqL K H a xs)
    (hs : ∀ (i : Nat) (x : V) (H : Hp) (T : Addr) (H' : Hp), xs[i]? = some x → Pv i H → H T = none → Same H H' → H' T = some (.tup [.int (i : Nat), x]) → B (Pv (i + 1)) (.ref T) H') (hd : ∀ H, Pv xs.length H → Qd H) :
    ∃ W : Nat → Nat → Hp → Prop, (∃ m, W 0 m H0) ∧ ∀ i m H, W i m H →
      ((L2.Ite K a).stop i H ∧ Qd H) ∨ ((L2.Ite K a).go i H ∧ ∃ Nx : Hp → Prop, (∀ H', Nx H' → ∃ m', m' < m ∧ W (i + 1) m' H') ∧ ∀ x H', (L2.Ite K a).yld i H x H' → B Nx x H') := by
  refine ⟨fun i m H => m = xs.length - i ∧ i ≤ xs.length ∧ Pv i H, ⟨xs.length, by simp, Nat.zero_le _, h0⟩, ?_⟩
  rintro i m H ⟨rfl, hi, p⟩
  have q := hl i H hi p
  by_cases hlt : i < xs.length
  · refine .inr ⟨⟨xs, xs[i], q, by simp [hlt]⟩, Pv (i + 1), fun H' p' => ⟨xs.length - (i + 1), by omega, rfl, hlt, p'⟩, fun x H' y => ?_⟩
    obtain ⟨T, z, rfl, hT, rfl, y⟩ := y
    exact hs i z H T _ (y xs q) p hT (same_new hT _) upd_same
  · have e : i = xs.length := by omega
    subst e
    exact .inl ⟨⟨xs, q, Nat.le_refl _⟩, hd H p⟩
def spEndOr (K : PySem.W.Frag) : Sp := fun vs H Q _ => ∃ (o : Option Nat) (t : Int), vs = [(match o with | some j => V.int (j : Nat) | none => V.non), .int t] ∧ Q (.int (match o with | some j => (j : Int) | none => t)) H
theorem ok_endor {f : Addr} {fd : FuncData} (F : Fun K "_end_or" "_end_or" s_end_or f fd) : FnOk P w K mg base CX0 1 f fd ["end", "twin"] (spEndOr K) := by
  have sc : FnScope ["end", "twin"] ["end", "twin"] (defScope s_end_or) := ⟨rfl, rfl, rfl, by decide +kernel, rfl, by decide +kernel, by decide +kernel⟩
  refine F.ok sc (fun vs H Q E h => ?_) (fun cdv A outer s H vs Q E hr h => ?_)
  · obtain ⟨_, _, rfl, _⟩ := h
    rfl
  obtain ⟨o, t, rfl, k⟩ := h
  refine ⟨_, (pss_one (ps_ret (pe_ifExp (pt_cmpR op_isN (pv 0) pe_non (nomark _)) (pv 1) (pv 0)))), ?_⟩
  try dsimp only [cxOf]
  cases o with
  | none =>
    w_fin
    refine ⟨rfl, true, rfl, ?_⟩
    refine iteT ?_
    w_fin
    exact k
  | some j =>
    w_fin
    refine ⟨rfl, false, rfl, ?_⟩
    refine iteF ?_
    w_fin
    exact k
theorem side_if {s : Nat} (s1 : s ≤ 1) {σ : L2.St} {H : Hp} {Q : VK} (h : Q (.str (sideW s)) H) : if decide (wordS s = Str.ofString "own") = true then tC (V.str (Str.ofString "white")) σ H Q else tC (V.str (Str.ofString "black")) σ H Q := by
  have hs : s = 0 ∨ s = 1 := by omega
  rcases hs with rfl | rfl
  · exact iteT h
  · exact iteF h
theorem rep_one (n : Nat) (x : V) : (List.replicate n [x]).flatten = List.replicate n x := by
  induction n with
  | zero => rfl
  | succ n ih => rw [List.replicate_succ, List.flatten_cons, ih]; rfl
def spShow (K : PySem.W.Frag) (CT : Addr) : Sp := fun vs H Q E => ∃ (M : Addr → Prop) (t : V) (e : PyData) (fl : Addr), vs = [t, .ref fl] ∧ Dn M K H t e ∧ e.bulk ≤ 1000000 ∧ WordOk e ∧ ((isTask e = false ∧ ∀ H', Same H H' → E (.ref CT) none H') ∨
  (isTask e = true ∧ ∃ (a vw : Addr) (D T s : Nat) (v0 la wa ba : V) (v : Vw T), t = .ref a ∧ SqT K H a [v0, .int D, la, wa, ba] ∧ SqT K H fl [.str (wordS s), .ref vw] ∧ Dt K H (.ref vw) (datV D v 0) ∧ s ≤ 1 ∧ 1 ≤ D ∧ D ≤ 4 ∧ T < 5 ∧ (nodesV D v s).length ≤ 500 ∧
    ∀ (p : Addr) (H' : Hp), Same H H' → NetH K H' p D (nodesV D v s) (nbV D v) → Q (.ref p) H'))
set_option maxHeartbeats 16000000 in
theorem ok_show {CT : Addr} {f : Addr} {fd : FuncData} (B : Blt mg) (gcheck_task : Has P w K mg base (L2N.CX P w) 6 "check_task" ["task"] (spCheckT K CT)) (g_tell : Has P w K mg base CX0 6 "_tell" ["told", "D", "side", "branch"] (spTellP K 5)) (g_end_or : Has P w K mg base CX0 1 "_end_or" ["end", "twin"] (spEndOr K))
    (F : Fun K "network_showing" "network_showing" snetwork_showing f fd) : FnOk P w K mg base (L2N.CX P w) 7 f fd ["task", "flaw"] (spShow K CT) := by
  have sc : FnScope ["task", "flaw", "told", "links", "own", "other", "kind", "view", "white", "black", "at", "number", "_", "node", "ends"] ["task", "flaw"] (defScope snetwork_showing) := ⟨rfl, rfl, rfl, by decide +kernel, rfl, by decide +kernel, by decide +kernel⟩
  refine F.okXN sc (fun vs H Q E h => ?_) (fun cdv A outer s H vs Q E hr h => ?_)
  · obtain ⟨_, _, _, _, rfl, _⟩ := h
    rfl
  obtain ⟨M, t, e, fl, rfl, he, hb, we, h⟩ := h
  refine ⟨_, (pss_cons (ps_expr (pcEN gcheck_task hr (L2N.takes_of rfl rfl rfl rfl) (pa_cons (pv 0) pa_nil)))
    (PSs.nox (pss_cons (ps_asg (pv 1) (pg_tup rfl (pgs_cons (pg_name (i := 6) sc.nd rfl (Or.inl rfl)) (pgs_cons (pg_name (i := 7) sc.nd rfl (Or.inl rfl)) pgs_nil))))
    (pss_cons (ps_set (i := 2) sc.nd rfl (Or.inl rfl) (pe_disp (pps_cons pe_str (pe_lstN pa_nil) (pps_cons pe_str (pe_lstN pa_nil) pps_nil)) (by rfl) (by rfl) (fun z => by cases z) (by decide)))
    (pss_cons (ps_expr (pc g_tell hr (pa_cons (pv 2) (pa_cons (pe_ix ix_tup (pv 0) pe_int (fun _ _ => rfl)) (pa_cons (pe_ifExp (pt_cmpR op_eqs (pv 6) pe_str (nomark _)) pe_str pe_str) (pa_cons (pv 7) pa_nil))))))
    (pss_cons (ps_asg (pe_tupN (pa_cons (pe_dget (hu_of hr) (pv 2) pe_str (fun _ _ => rfl)) (pa_cons (pe_dget (hu_of hr) (pv 2) pe_str (fun _ _ => rfl)) pa_nil))) (pg_tup rfl (pgs_cons (pg_name (i := 8) sc.nd rfl (Or.inr rfl)) (pgs_cons (pg_name (i := 9) sc.nd rfl (Or.inr rfl)) pgs_nil))))
    (pss_cons (ps_set (i := 3) sc.nd rfl (Or.inl rfl) (pe_callTy (show CallR _ _ (rTupN K) from call_tupN) (by rfl) B.tuple (by decide +kernel) (pa_cons (pe_lc (own := [("at", 10)]) (g := gName 10) (tt := tYes) rfl sc.nd (pi_range1 (by rfl) B.range (pa_cons (pe_ix ix_tup (pv 0) pe_int (fun _ _ => rfl)) pa_nil)) (blkOk_by (N := ["task", "flaw", "told", "links", "own", "other", "kind", "view", "white", "black", "at", "number", "_", "node", "ends"]) (sc := defScope snetwork_showing) (by decide +kernel)) (fun _ _ _ _ _ => pg_name (i := 10) sc.nd rfl (Or.inr rfl)) (fun _ _ _ _ _ => pts_nil) (fun _ _ _ _ _ => (pe_callTy (show CallR _ _ (rTupN K) from call_tupN) (by rfl) B.tuple (by decide +kernel) (pa_cons (pe_op (show OpR _ _ rCatN from op_catN) (pe_lc (own := [("node", 13), ("_", 12), ("ends", 14)]) (wi := iEnum K _) (g := gTup K 2 (gCons (gName 13) (gCons (gTup K 2 (gCons (gName 12) (gCons (gName 14) gNil))) gNil))) (tt := tYes) rfl sc.nd (pi_enum (by rfl) B.enumerate (pa_cons (pv 8) pa_nil)) (blkOk_by (N := ["task", "flaw", "told", "links", "own", "other", "kind", "view", "white", "black", "at", "number", "_", "node", "ends"]) (sc := _) (by first | rfl | with_unfolding_all rfl)) (fun _ _ _ _ _ => (pg_tup rfl (pgs_cons (pg_name (i := 13) sc.nd rfl (Or.inl rfl)) (pgs_cons (pg_tup rfl (pgs_cons (pg_name (i := 12) sc.nd rfl (Or.inl rfl)) (pgs_cons (pg_name (i := 14) sc.nd rfl (Or.inl rfl)) pgs_nil))) pgs_nil)))) (fun _ _ _ _ _ => pts_nil) (fun _ _ _ _ _ => (pc g_end_or hr (pa_cons (pe_ix (show IxR _ (rIxL K) from ix_list) (pv 14) (pv 10) (fun _ _ => rfl)) (pa_cons (pe_op op_add (pe_callB (show CallR _ _ (rLenS K) from call_len_seq) (by rfl) B.len (by decide +kernel) (pa_cons (pv 9) pa_nil)) (pv 13)) pa_nil))))) (pe_lc (own := [("node", 13), ("_", 12), ("ends", 14)]) (wi := iEnum K _) (g := gTup K 2 (gCons (gName 13) (gCons (gTup K 2 (gCons (gName 12) (gCons (gName 14) gNil))) gNil))) (tt := tYes) rfl sc.nd (pi_enum (by rfl) B.enumerate (pa_cons (pv 9) pa_nil)) (blkOk_by (N := ["task", "flaw", "told", "links", "own", "other", "kind", "view", "white", "black", "at", "number", "_", "node", "ends"]) (sc := _) (by first | rfl | with_unfolding_all rfl)) (fun _ _ _ _ _ => (pg_tup rfl (pgs_cons (pg_name (i := 13) sc.nd rfl (Or.inl rfl)) (pgs_cons (pg_tup rfl (pgs_cons (pg_name (i := 12) sc.nd rfl (Or.inl rfl)) (pgs_cons (pg_name (i := 14) sc.nd rfl (Or.inl rfl)) pgs_nil))) pgs_nil)))) (fun _ _ _ _ _ => pts_nil) (fun _ _ _ _ _ => (pe_ifExp (pt_cmpR op_isN (pe_ix (show IxR _ (rIxL K) from ix_list) (pv 14) (pv 10) (fun _ _ => rfl)) pe_non (nomark _)) (pv 13) (pe_op op_add (pe_callB (show CallR _ _ (rLenS K) from call_len_seq) (by rfl) B.len (by decide +kernel) (pa_cons (pv 9) pa_nil)) (pe_ix (show IxR _ (rIxL K) from ix_list) (pv 14) (pv 10) (fun _ _ => rfl))))))) pa_nil)))) pa_nil)))
    (pss_cons (ps_set (i := 4) sc.nd rfl (Or.inl rfl) (pe_callTy (show CallR _ _ (rTupN K) from call_tupN) (by rfl) B.tuple (by decide +kernel) (pa_cons (pe_op (show OpR _ _ rCatN from op_catN) (pe_lc (own := [("number", 11), ("_", 12)]) (g := gTup K 2 (gCons (gName 11) (gCons (gName 12) gNil))) (tt := tYes) rfl sc.nd (pi_list (pv 8)) (blkOk_by (N := ["task", "flaw", "told", "links", "own", "other", "kind", "view", "white", "black", "at", "number", "_", "node", "ends"]) (sc := defScope snetwork_showing) (by decide +kernel)) (fun _ _ _ _ _ => (pg_tup rfl (pgs_cons (pg_name (i := 11) sc.nd rfl (Or.inl rfl)) (pgs_cons (pg_name (i := 12) sc.nd rfl (Or.inl rfl)) pgs_nil)))) (fun _ _ _ _ _ => pts_nil) (fun _ _ _ _ _ => (pv 11))) (pe_op (show OpR _ _ rMulLN from op_mulLN) (pe_lstN (pa_cons pe_int pa_nil)) (pe_callB call_len_seq (by rfl) B.len (by decide +kernel) (pa_cons (pv 9) pa_nil)))) pa_nil)))
    (pss_cons (ps_set (i := 5) sc.nd rfl (Or.inl rfl) (pe_callTy (show CallR _ _ (rTupN K) from call_tupN) (by rfl) B.tuple (by decide +kernel) (pa_cons (pe_op (show OpR _ _ rCatN from op_catN) (pe_lc (own := [("number", 11), ("_", 12)]) (g := gTup K 2 (gCons (gName 11) (gCons (gName 12) gNil))) (tt := tYes) rfl sc.nd (pi_list (pv 9)) (blkOk_by (N := ["task", "flaw", "told", "links", "own", "other", "kind", "view", "white", "black", "at", "number", "_", "node", "ends"]) (sc := defScope snetwork_showing) (by decide +kernel)) (fun _ _ _ _ _ => (pg_tup rfl (pgs_cons (pg_name (i := 11) sc.nd rfl (Or.inl rfl)) (pgs_cons (pg_name (i := 12) sc.nd rfl (Or.inl rfl)) pgs_nil)))) (fun _ _ _ _ _ => pts_nil) (fun _ _ _ _ _ => (pv 11))) (pe_op (show OpR _ _ rMulLN from op_mulLN) (pe_lstN (pa_cons pe_int pa_nil)) (pe_callB call_len_seq (by rfl) B.len (by decide +kernel) (pa_cons (pv 8) pa_nil)))) pa_nil)))
    (pss_one (ps_ret (pe_tupN (pa_cons pe_str (pa_cons (pe_op op_add (pe_callB call_len_seq (by rfl) B.len (by decide +kernel) (pa_cons (pv 8) pa_nil)) (pe_callB call_len_seq (by rfl) B.len (by decide +kernel) (pa_cons (pv 9) pa_nil))) (pa_cons (pv 3) (pa_cons (pv 4) (pa_cons (pv 5) pa_nil))))))))))))))))), ?_⟩
  try dsimp only [cxOf]
  w_fin
  rcases h with ⟨ht, hE⟩ | ⟨ht, a, vw, D, T, s, v0, la, wa, ba, v, rfl, ha, hfl, hv, s1, D1, D4, hTl, few, kk⟩
  · exact ⟨M, t, e, rfl, he, hb, we, (fun z => nomatch ht.symm.trans z), fun _ H1 s1 => hE H1 s1⟩
  refine ⟨M, .ref a, e, rfl, he, hb, we, fun _ H1 s1' => ?_, (fun z => nomatch ht.symm.trans z)⟩
  have ha1 := s1'.seqT ha
  have hfl1 := s1'.seqT hfl
  w_fin
  refine st_gtup hfl1 rfl ?_
  w_fin
  intro td htd
  have sq := same_new htd (.dK [])
  have eq1 : (upd H1 td (.dK [])) td = some (.dK []) := upd_same
  generalize upd H1 td (.dK []) = H2 at sq eq1 ⊢
  w_fin
  intro wl H3 fw s3 ew
  w_fin
  intro bl H4 fb s4 eb
  w_fin
  have ew4 := s4 _ _ ew
  have wb : ¬ wl = bl := fun z => by
    rw [← z, ew] at fb
    cases fb
  have wt : ¬ wl = td := fun z => by
    rw [z, eq1] at fw
    cases fw
  have bt : ¬ bl = td := fun z => by
    rw [z, s3 _ _ eq1] at fb
    cases fb
  refine ⟨s4 _ _ (s3 _ _ eq1), [(Sum.inr "white", .ref wl), (Sum.inr "black", .ref bl)], rfl, by simp, ?_⟩
  have s14 : Same H1 (upd H4 td (.dK (mergeK [] [(Sum.inr "white", .ref wl), (Sum.inr "black", .ref bl)]))) := same_own ((sq.trans s3).trans s4) htd _
  have hT0 : TellH (upd H4 td (.dK (mergeK [] [(Sum.inr "white", .ref wl), (Sum.inr "black", .ref bl)]))) td wl bl D [] (fun _ _ => none) (fun _ => td) (fun _ => td) := by
    refine ⟨by rw [upd_same]; rfl, by rw [upd_ne wt]; exact ew4, by rw [upd_ne bt]; exact eb, fun g hg => absurd hg (Nat.not_lt_zero g), fun g hg => absurd hg (Nat.not_lt_zero g), fun g _ hg => absurd hg (Nat.not_lt_zero g), fun g hg => absurd hg (Nat.not_lt_zero g), fun g hg => absurd hg (Nat.not_lt_zero g), wb, fun g c j h => nomatch h⟩
  generalize upd H4 td (.dK (mergeK [] [(Sum.inr "white", .ref wl), (Sum.inr "black", .ref bl)])) = H5 at s14 hT0 ⊢
  have w1 : H1 wl = none := none_same sq fw
  have b1 : H1 bl = none := none_same (sq.trans s3) fb
  have ha5 := s14.seqT ha1
  w_fin
  refine side_if s1 ?_
  w_fin
  refine ⟨td, wl, bl, vw, D, T, s, 0, -1, v, [], _, _, _, rfl, hT0, (hv.stay s1'.tups).stay s14.tups, s1, D4, hTl, fun _ _ _ => rfl, by unfold nodesV at few; omega, fun H6 es tp g6 h6 _ _ => ?_⟩
  obtain ⟨TN, _, _⟩ := netV_nv (D := D) v s1
  have h6' : TellH H6 td wl bl D (nodesV D v s) (nbV D v) es tp := h6
  have s6 : Same H H6 := fun c o e => g6.out _ _ (by
    rintro (rfl | rfl | ⟨j, hj, _⟩)
    · rw [none_same s1' w1] at e; cases e
    · rw [none_same s1' b1] at e; cases e
    · exact absurd hj (Nat.not_lt_zero j)) (s14 _ _ (s1' _ _ e))
  clear h6 hT0
  generalize hN : nodesV D v s = N at *
  generalize hnb : nbV D v = nb at *
  have gw : L2.DGet H6 td (.str (Str.ofString "white")) (some (.ref wl)) := tell_get h6' (s := 0) (by omega)
  have gb : L2.DGet H6 td (.str (Str.ofString "black")) (some (.ref bl)) := tell_get h6' (s := 1) (by omega)
  have ha6 := s6.seqT ha
  w_fin
  refine ⟨td, _, rfl, gw, ?_⟩
  w_fin
  refine ⟨td, _, rfl, gb, ?_⟩
  w_fin
  intro tt H7 _ s7 ett
  refine st_gtup (SqT.of ett) rfl ?_
  have h7 := h6'.same s7
  have ha7 := s7.seqT ha6
  have s07 := s6.trans s7
  clear gw gb h6' ha6
  have elw : H7 wl = some (.lst ((ix N 0 N.length).map fun g => V.ref (tp g))) := h7.lw
  have elb : H7 bl = some (.lst ((ix N 1 N.length).map fun g => V.ref (tp g))) := h7.lb
  w_fin
  intro rl hrl
  have lrow : ∀ i, i < D → (lkRows D N nb)[i]? = some (lkAll N nb (i + 1)) := fun i hi => by
    unfold lkRows
    rw [List.getElem?_map, List.getElem?_range hi]
    rfl
  refine itr_walk (lo := 0) (n := ((D : Nat) : Int).toNat) (fun i H' => Same H7 H' ∧ ∃ acc, H' rl = some (.lst acc) ∧ SLs (SqT K H') acc ((lkRows D N nb).take i)) ⟨same_new hrl _, [], upd_same, .nil⟩ ?_ ?_
  · rintro i H8 hi ⟨s8, acc', ea, sl⟩
    have h8 := h7.same s8
    have elw8 := h8.lw
    have elb8 := h8.lb
    w_fin
    unfold L2.iEnum
    w_fin
    refine ⟨wl, _, rfl, SqL.of elw8, ?_⟩
    w_fin
    intro l1 hl1
    refine ite_walk (fun j H' => AccI H8 l1 (((ix N 0 N.length).take j).map (valF N nb N.length N.length (i + 1))) H') (AccI.start hl1) (fun j H' _ acc => SqL.of (acc.same _ _ elw8)) ?_ ?_
    · rintro j y H9 tu H10 hy acc ftu s10 etu
      rw [List.getElem?_map] at hy
      obtain ⟨g, hg, rfl⟩ := Option.map_eq_some_iff.mp hy
      have hm := ix_mem.mp (List.mem_of_getElem? hg)
      have rg : rk N g = j := (List.getElem?_inj (List.getElem?_eq_some_iff.mp (ix_at hm.1 hm.2)).1 ix_nd).mp ((ix_at hm.1 hm.2).trans hg.symm)
      have h10 := (h8.same acc.same).same s10
      have acc10 := acc.step s10
      have etp := SqT.of (K := K) (h10.tu g hm.1)
      have een := h10.en g hm.1
      have elb10 := h10.lb
      refine st_gtup (SqT.of etu) rfl ?_
      w_fin
      refine st_gtup etp rfl ?_
      w_fin
      refine st_ixL (SqL.of een) (at_of (j := i) (v := cellV N nb g i) (by omega) (by unfold endsL; rw [List.getElem?_map, List.getElem?_range (by omega)]; rfl)) ?_
      w_fin
      refine ⟨bl, _, rfl, .inl (SqL.of elb10), ?_⟩
      refine ⟨.int (j : Nat), rfl, ?_⟩
      refine ⟨_, _, rfl, rfl, ?_⟩
      have few1 : (((ix N 0 N.length).take j).map (valF N nb N.length N.length (i + 1))).length ≤ 100000 := by
        rw [List.length_map, List.length_take]
        have := ix_all TN.sd N.length (Nat.le_refl _)
        omega
      have tk : (((ix N 0 N.length).take (j + 1)).map (valF N nb N.length N.length (i + 1))) = ((ix N 0 N.length).take j).map (valF N nb N.length N.length (i + 1)) ++ [valF N nb N.length N.length (i + 1) g] := by
        rw [take_more hg, List.map_append]
        rfl
      have sg : sdv N g = 0 := hm.2
      rcases hc : nb g (i + 1) with _ | m
      · refine ⟨none, _, by unfold cellV; rw [hc], ?_⟩
        refine acc10.fin (by omega) fun H' a2 => ?_
        show AccI H8 l1 _ H'
        rw [tk, valF_none ((nbk_all TN).trans hc), if_pos hm.1, if_pos sg, rg]
        have e : (nB N : Int) = (((ix N 1 N.length).map fun g => V.ref (tp g)).length : Nat) := by rw [List.length_map]; rfl
        rw [e]
        exact a2
      · refine ⟨some (rk N m), _, by unfold cellV; rw [hc], ?_⟩
        refine acc10.fin (by omega) fun H' a2 => ?_
        show AccI H8 l1 _ H'
        rw [tk, valF_some ((nbk_all TN).trans hc), if_pos sg]
        exact a2
    · rintro H9 acc
      have h9 := h8.same acc.same
      have elb9 := h9.lb
      w_fin
      refine ⟨bl, _, rfl, SqL.of elb9, ?_⟩
      w_fin
      intro l2 hl2
      refine ite_walk (fun j H' => AccI H9 l2 (((ix N 1 N.length).take j).map (valF N nb N.length N.length (i + 1))) H') (AccI.start hl2) (fun j H' _ acc => SqL.of (acc.same _ _ elb9)) ?_ ?_
      · rintro j y H10 tu H11 hy acc2 ftu s11 etu
        rw [List.getElem?_map] at hy
        obtain ⟨g, hg, rfl⟩ := Option.map_eq_some_iff.mp hy
        have hm := ix_mem.mp (List.mem_of_getElem? hg)
        have rg : rk N g = j := (List.getElem?_inj (List.getElem?_eq_some_iff.mp (ix_at hm.1 hm.2)).1 ix_nd).mp ((ix_at hm.1 hm.2).trans hg.symm)
        have h11 := (h9.same acc2.same).same s11
        have acc11 := acc2.step s11
        have etp := SqT.of (K := K) (h11.tu g hm.1)
        have een := h11.en g hm.1
        have elb11 := h11.lb
        refine st_gtup (SqT.of etu) rfl ?_
        w_fin
        refine st_gtup etp rfl ?_
        w_fin
        refine st_ixL (SqL.of een) (at_of (j := i) (v := cellV N nb g i) (by omega) (by unfold endsL; rw [List.getElem?_map, List.getElem?_range (by omega)]; rfl)) ?_
        have few1 : (((ix N 1 N.length).take j).map (valF N nb N.length N.length (i + 1))).length ≤ 100000 := by
          rw [List.length_map, List.length_take]
          have := ix_all TN.sd N.length (Nat.le_refl _)
          omega
        have tk : (((ix N 1 N.length).take (j + 1)).map (valF N nb N.length N.length (i + 1))) = ((ix N 1 N.length).take j).map (valF N nb N.length N.length (i + 1)) ++ [valF N nb N.length N.length (i + 1) g] := by
          rw [take_more hg, List.map_append]
          rfl
        have sg : sdv N g = 1 := hm.2
        rcases hc : nb g (i + 1) with _ | m
        · have ec : cellV N nb g i = .non := by unfold cellV; rw [hc]
          rw [ec]
          refine ⟨rfl, true, rfl, ?_⟩
          refine iteT ?_
          refine ⟨.int (j : Nat), rfl, ?_⟩
          refine acc11.fin (by omega) fun H' a2 => ?_
          show AccI H9 l2 _ H'
          rw [tk, valF_none ((nbk_all TN).trans hc), if_pos hm.1, if_neg (by omega), rg]
          exact a2
        · have ec : cellV N nb g i = .int (rk N m : Nat) := by unfold cellV; rw [hc]
          have hx : atI (endsL D N nb g) (0 + (i : Int)) = some (.int (rk N m : Nat)) := ec ▸ at_of (j := i) (v := cellV N nb g i) (by omega) (by unfold endsL; rw [List.getElem?_map, List.getElem?_range (by omega)]; rfl)
          rw [ec]
          refine ⟨rfl, false, rfl, ?_⟩
          refine iteF ?_
          refine ⟨.ref bl, rfl, ?_⟩
          refine ⟨bl, _, rfl, .inl (SqL.of elb11), ?_⟩
          refine ⟨.ref (es g), rfl, ?_⟩
          refine ⟨.int (0 + (i : Int)), rfl, ?_⟩
          refine st_ixL (SqL.of een) hx ?_
          refine ⟨_, _, rfl, rfl, ?_⟩
          refine acc11.fin (by omega) fun H' a2 => ?_
          show AccI H9 l2 _ H'
          rw [tk, valF_some ((nbk_all TN).trans hc), if_neg (by omega)]
          have e : (nB N : Int) = (((ix N 1 N.length).map fun g => V.ref (tp g)).length : Nat) := by rw [List.length_map]; rfl
          rw [e]
          exact a2
      · rintro H10 acc2
        have e2 := acc2.ex
        have e1 := acc2.same _ _ acc.ex
        rw [List.length_map, List.take_length] at e1 e2
        w_fin
        refine ⟨l1, l2, _, _, rfl, rfl, e1, e2, ?_, ?_⟩
        · rw [List.length_map, List.length_map, List.length_map, List.length_map]
          have := ix_all TN.sd N.length (Nat.le_refl _)
          exact le_sz (by omega)
        intro l3 H11 f3 s11 e3
        w_fin
        intro tp3 H12 f12 s12 e12
        have s8f := ((acc.same.trans acc2.same).trans s11).trans s12
        refine ⟨acc', s8f _ _ ea, lt_small (by rw [sl.len, List.length_take]; unfold lkRows; rw [List.length_map, List.length_range]; omega), same_own (s8.trans s8f) hrl _, _, upd_same, ?_⟩
        rw [take_more (lrow i (by omega))]
        have t := tups_lst (ys := acc' ++ [V.ref tp3]) (s8f _ _ ea)
        refine ((sl.imp fun _ _ z => t.seq (s8f.seqT z))).app (.cons (t.seq (SqT.of ?_)) .nil)
        rw [e12, ← List.map_append]
        rfl
  · rintro H8 ⟨s8, acc, ea, sl⟩
    rw [show ((D : Nat) : Int).toNat = D by omega, List.take_of_length_le (by unfold lkRows; rw [List.length_map, List.length_range]; exact Nat.le_refl D)] at sl
    have h8 := h7.same s8
    have elw8 := h8.lw
    have elb8 := h8.lb
    w_fin
    intro t3 H9 f9 s9 e9
    have sl9 := sl.imp fun _ _ z => s9.seqT z
    have elw9 := s9 _ _ elw8
    have elb9 := s9 _ _ elb8
    have h9 := h8.same s9
    have few2 := ix_all TN.sd N.length (Nat.le_refl _)
    have few : N.length ≤ 500 := few
    w_fin
    intro l1 hl1
    refine itl_walk (fun j H' => AccI H9 l1 (((ix N 0 N.length).take j).map (inpN N)) H') (AccI.start hl1) (fun j H' _ acc => SqL.of (acc.same _ _ elw9)) ?_ ?_
    · rintro j y H10 hy acc
      rw [List.getElem?_map] at hy
      obtain ⟨g, hg, rfl⟩ := Option.map_eq_some_iff.mp hy
      have hm := ix_mem.mp (List.mem_of_getElem? hg)
      have etp := SqT.of (K := K) ((h9.same acc.same).tu g hm.1)
      refine st_gtup etp rfl ?_
      w_fin
      refine acc.fin (by rw [List.length_map, List.length_take]; have := ix_all TN.sd N.length (Nat.le_refl _); omega) fun H' a2 => ?_
      rw [take_more hg, List.map_append]
      exact a2
    rintro H10 acc
    have el1 := acc.ex
    rw [List.length_map, List.take_length] at el1
    have s910 := acc.same
    clear acc
    have elb10 := s910 _ _ elb9
    w_fin
    intro l0 H11 f0 s0 e0
    have elb11 := s0 _ _ elb10
    w_fin
    refine ⟨l0, _, _, rfl, rfl, e0, by omega, by rw [List.length_map]; omega, by simp; omega, fun lz H12 fz sz ez => ?_⟩
    have el1' := sz _ _ (s0 _ _ el1)
    refine ⟨l1, lz, _, _, rfl, rfl, el1', ez, le_sz (by simp; omega), fun lc H13 fc sc' ec => ?_⟩
    w_fin
    intro ow H14 fo so eo
    have s914 := ((s910.trans s0).trans (sz.trans sc')).trans so
    have eow : H14 ow = some (.tup ((inpL N 0).map V.int)) := by
      rw [eo]
      congr 2
      unfold inpL
      rw [List.map_append, List.map_map]
      congr 1
      rw [Int.toNat_natCast, List.length_map, rep_one, List.map_map]
      exact (List.map_const' ..).symm
    clear el1 el1' e0 ez ec eo elb10 elb11
    have h14 := h9.same s914
    have elw14 := s914 _ _ elw9
    have elb14 := s914 _ _ elb9
    w_fin
    intro l2 hl2
    refine itl_walk (fun j H' => AccI H14 l2 (((ix N 1 N.length).take j).map (inpN N)) H') (AccI.start hl2) (fun j H' _ acc => SqL.of (acc.same _ _ elb14)) ?_ ?_
    · rintro j y H15 hy acc
      rw [List.getElem?_map] at hy
      obtain ⟨g, hg, rfl⟩ := Option.map_eq_some_iff.mp hy
      have hm := ix_mem.mp (List.mem_of_getElem? hg)
      have etp := SqT.of (K := K) ((h14.same acc.same).tu g hm.1)
      refine st_gtup etp rfl ?_
      w_fin
      refine acc.fin (by rw [List.length_map, List.length_take]; have := ix_all TN.sd N.length (Nat.le_refl _); omega) fun H' a2 => ?_
      rw [take_more hg, List.map_append]
      exact a2
    rintro H15 acc
    have el2 := acc.ex
    rw [List.length_map, List.take_length] at el2
    have s1415 := acc.same
    clear acc
    have elw15 := s1415 _ _ elw14
    w_fin
    intro l0 H16 f0 s0 e0
    have elw16 := s0 _ _ elw15
    w_fin
    refine ⟨l0, _, _, rfl, rfl, e0, by omega, by rw [List.length_map]; omega, by simp; omega, fun lz H17 fz sz ez => ?_⟩
    have el2' := sz _ _ (s0 _ _ el2)
    refine ⟨l2, lz, _, _, rfl, rfl, el2', ez, le_sz (by simp; omega), fun lc H18 fc sc' ec => ?_⟩
    w_fin
    intro ot H19 fo so eo
    have s1419 := ((s1415.trans s0).trans (sz.trans sc')).trans so
    have eot : H19 ot = some (.tup ((inpL N 1).map V.int)) := by
      rw [eo]
      congr 2
      unfold inpL
      rw [List.map_append, List.map_map]
      congr 1
      rw [Int.toNat_natCast, List.length_map, rep_one, List.map_map]
      exact (List.map_const' ..).symm
    clear el2 el2' e0 ez ec eo elw15 elw16
    have elw19 := s1419 _ _ elw14
    have elb19 := s1419 _ _ elb14
    w_fin
    intro p H20 fp s20 ep
    have s920 := (s914.trans s1419).trans s20
    refine kk p H20 (((s07.trans s8).trans s9).trans s920) ⟨t3, ow, ot, acc, ?_, SqT.of (s920 _ _ e9), sl9.imp fun _ _ z => s920.seqT z, (s1419.trans s20).seqT (SqT.of eow), s20.seqT (SqT.of eot)⟩
    have e : (((ix N 0 N.length).map fun g => V.ref (tp g)).length : Int) + ((ix N 1 N.length).map fun g => V.ref (tp g)).length = (N.length : Nat) := by
      rw [List.length_map, List.length_map]
      omega
    rw [← e]
    exact SqT.of ep
end
section
variable {P : Program} {w : World} {K : PySem.W.Frag} {mg : Str → Option Value} {base : Heap}
theorem row_snoc {ls : List Int} {m : Int} {ns : List Int} {z : Int} (h : ns.length = ls.length) : isRow (ls ++ [m]) (tupI (ns ++ [z])) = (isRow ls (tupI ns) && isNum (.int z) 0 (m - 1)) := by
  show (decide (((ns ++ [z]).map PyData.int).length = (ls ++ [m]).length) && _) = ((decide ((ns.map PyData.int).length = ls.length) && _) && _)
  rw [decide_eq_true (by simp [h]), decide_eq_true (by simp [h]), Bool.true_and, Bool.true_and, List.map_append, List.zip_append (by simp [h]), List.all_append]
  simp
theorem row_nil : isRow [] (tupI []) = true := by decide
theorem row_len {ls ns : List Int} (h : isRow ls (tupI ns) = true) : ns.length = ls.length := by
  have e := (row_ints h).2
  have : intsD (tupI ns) = ns := by
    show (ns.map PyData.int).map numD = ns
    rw [List.map_map]
    exact List.map_id'' (fun x => rfl) ns
  rw [← this]
  exact e
def Good (ls : List Int) (rows : List (List Int)) : Prop := rows.length ≤ 5 ∧ (∀ r ∈ rows, isRow ls (tupI r) = true) ∧ rows.Pairwise (· < ·)
theorem le_tr (a b c : List Int) (h1 : leR a b = true) (h2 : leR b c = true) : leR a c = true := by
  unfold leR at *
  simp only [Bool.not_eq_true', decide_eq_false_iff_not] at *
  exact List.le_trans (show a ≤ b from h1) (show b ≤ c from h2)
theorem le_to (a b : List Int) : (leR a b || leR b a) = true := by
  unfold leR
  simp only [Bool.or_eq_true, Bool.not_eq_true', decide_eq_false_iff_not]
  exact List.le_total a b
theorem good_sort {ls : List Int} {rows : List (List Int)} (n5 : rows.length ≤ 5) (nd : rows.Nodup) (ok : ∀ r ∈ rows, isRow ls (tupI r) = true) : Good ls (rows.mergeSort leR) := by
  have pm : (rows.mergeSort leR).Perm rows := List.mergeSort_perm rows leR
  refine ⟨by rw [pm.length_eq]; exact n5, fun r hr => ok r (pm.mem_iff.mp hr), ?_⟩
  have p1 : (rows.mergeSort leR).Pairwise (fun a b => leR a b = true) := List.pairwise_mergeSort le_tr le_to rows
  have p2 : (rows.mergeSort leR).Nodup := pm.nodup_iff.mpr nd
  refine (List.Pairwise.and p1 p2).imp fun {a b} h => ?_
  obtain ⟨h1, h2⟩ := h
  unfold leR at h1
  simp only [Bool.not_eq_true', decide_eq_false_iff_not] at h1
  by_cases q : a < b
  · exact q
  · exact absurd (List.le_antisymm (show a ≤ b from h1) (show b ≤ a from q)) h2
theorem good_rows {ls : List Int} {rows : List (List Int)} (g : Good ls rows) : areRows ls (.tuple (rows.map tupI)) = true := by
  obtain ⟨_, ok, pw⟩ := g
  rw [rows_all, List.all_eq_true]
  intro i hi
  have il : i < rows.length := by simpa using List.mem_range.mp hi
  have gi : (rows.map tupI).getD i .none = tupI rows[i] := getD_of (by simp [il])
  unfold rowAt
  rw [gi, ok _ (List.getElem_mem il), Bool.true_and]
  by_cases h0 : i = 0
  · rw [decide_eq_true h0]
    rfl
  · have il2 : i - 1 < rows.length := by omega
    have g1 : (rows.map tupI).getD (i - 1) .none = tupI rows[i - 1] := getD_of (by simp [il2])
    rw [g1, intsD_t, intsD_t, decide_eq_true (List.pairwise_iff_getElem.mp pw (i - 1) i il2 il (by omega)), Bool.or_true]
def LabOk (D : Int) (ls : List Int) : Prop := ((ls.length : Nat) : Int) = D ∧ (∀ m ∈ ls, 1 ≤ m ∧ m ≤ 60) ∧ prodD (ls.map PyData.int) ≤ 4000
def sideD (W : List (List (List Int))) : PyData := .tuple (W.map fun rows => .tuple (rows.map tupI))
def taskD (D : Int) (ls : List Int) (W B : List (List (List Int))) : PyData := .tuple [.str "task", .int D, tupI ls, sideD W, sideD B]
def GoodS (ls : List Int) (W : List (List (List Int))) : Prop := 1 ≤ W.length ∧ W.length ≤ 4 ∧ ∀ rows ∈ W, Good ls rows
theorem lab_ok {D : Int} {ls : List Int} (D2 : 2 ≤ D) (D4 : D ≤ 4) (l : LabOk D ls) : areLabels (.int D) (tupI ls) = true := by
  obtain ⟨l1, l2, l3⟩ := l
  have hn : isNum (.int D) 2 4 = true := by
    show (decide (2 ≤ D) && decide (D ≤ 4)) = true
    rw [decide_eq_true D2, decide_eq_true D4]
    rfl
  have e := labels_tup (ms := ls.map PyData.int) hn
  show areLabels (.int D) (.tuple (ls.map PyData.int)) = true
  rw [e, decide_eq_true (by rw [List.length_map]; exact l1), decide_eq_true l3, Bool.true_and, Bool.and_true, List.all_eq_true]
  intro x hx
  obtain ⟨m, hm, rfl⟩ := List.mem_map.mp hx
  obtain ⟨a, b⟩ := l2 m hm
  show (decide (1 ≤ m) && decide (m ≤ 60)) = true
  rw [decide_eq_true a, decide_eq_true b]
  rfl
theorem side_ok {ls : List Int} {W : List (List (List Int))} (g : GoodS ls W) : areInputs ls (sideD W) = true := by
  obtain ⟨w1, w4, ok⟩ := g
  show (isNum (.int ((W.map fun rows => PyData.tuple (rows.map tupI)).length : Nat)) 1 4 && (W.map fun rows => PyData.tuple (rows.map tupI)).all (areRows ls)) = true
  rw [List.length_map]
  have hn : isNum (.int (W.length : Nat)) 1 4 = true := by
    show (decide ((1 : Int) ≤ (W.length : Nat)) && decide (((W.length : Nat) : Int) ≤ 4)) = true
    rw [decide_eq_true (by omega), decide_eq_true (by omega)]
    rfl
  rw [hn, Bool.true_and, List.all_eq_true]
  intro x hx
  obtain ⟨rows, hr, rfl⟩ := List.mem_map.mp hx
  exact good_rows (ok rows hr)
theorem task_ok {D : Int} {ls : List Int} {W B : List (List (List Int))} (D2 : 2 ≤ D) (D4 : D ≤ 4) (l : LabOk D ls) (gW : GoodS ls W) (gB : GoodS ls B) : isTask (taskD D ls W B) = true := by
  show (isWord (.str "task") && (areLabels (.int D) (tupI ls) && (areInputs (intsD (tupI ls)) (sideD W) && areInputs (intsD (tupI ls)) (sideD B)))) = true
  rw [intsD_t, lab_ok D2 D4 l, side_ok gW, side_ok gB]
  rfl
theorem task_word (D : Int) (ls : List Int) (W B : List (List (List Int))) : WordOk (taskD D ls W B) := fun w r e _ => by
  cases e
  decide +kernel
theorem row_small {ls r : List Int} (lok : ∀ m ∈ ls, 1 ≤ m ∧ m ≤ 60) (h : isRow ls (tupI r) = true) : ∀ x ∈ r, 0 ≤ x ∧ x ≤ 59 := by
  have h' : (decide ((r.map PyData.int).length = ls.length) && ((r.map PyData.int).zip ls).all fun p => isNum p.1 0 (p.2 - 1)) = true := h
  rw [Bool.and_eq_true, decide_eq_true_eq, List.length_map] at h'
  obtain ⟨e, a⟩ := h'
  clear h
  induction r generalizing ls with
  | nil => exact fun x hx => absurd hx List.not_mem_nil
  | cons y r ih =>
    cases ls with
    | nil => cases e
    | cons l ls =>
      rw [List.map_cons, List.zip_cons_cons, List.all_cons, Bool.and_eq_true] at a
      intro x hx
      rcases List.mem_cons.mp hx with rfl | hx
      · obtain ⟨_, a1, a2⟩ := num_of a.1
        have := lok l List.mem_cons_self
        have e1 : numD (.int x) = x := rfl
        rw [e1] at a1 a2
        show 0 ≤ x ∧ x ≤ 59
        have a2' : x ≤ l - 1 := a2
        omega
      · exact ih (fun m hm => lok m (List.mem_cons_of_mem _ hm)) (by simpa using e) a.2 x hx
theorem task_parts_sized {D : Int} {ls : List Int} {W B : List (List (List Int))} (d0 : -10 ≤ D) (d1 : D ≤ 10) (lok : ∀ m ∈ ls, 1 ≤ m ∧ m ≤ 60) (l4 : ls.length ≤ 4) (gW : GoodS ls W) (gB : GoodS ls B) : Sized 104 3 (.str "task") ∧ Sized 104 3 (.int D) ∧ Sized 104 3 (tupI ls) ∧ Sized 104 3 (sideD W) ∧ Sized 104 3 (sideD B) := by
  have sI : ∀ i : Int, -100 ≤ i → i ≤ 100 → Sized 0 0 (.int i) := fun i q1 q2 => sized_int (Nat.lt_of_lt_of_le (show i.natAbs < 200 by omega) (by decide))
  have rowS : ∀ r : List Int, r.length ≤ 4 → (∀ x ∈ r, -100 ≤ x ∧ x ≤ 100) → Sized 4 1 (tupI r) := fun r l a => by
    refine (sized_tup (m := 0) (h := 0) fun z hz => ?_).more (by rw [List.length_map]; omega) (Nat.le_refl _)
    obtain ⟨i, hi, rfl⟩ := List.mem_map.mp hz
    exact sI i (a i hi).1 (a i hi).2
  have sideS : ∀ S : List (List (List Int)), GoodS ls S → Sized 104 3 (sideD S) := fun S g => by
    refine (sized_tup (m := 25) (h := 2) fun z hz => ?_).more (by rw [List.length_map]; have := g.2.1; omega) (Nat.le_refl _)
    obtain ⟨rows, hr, rfl⟩ := List.mem_map.mp hz
    obtain ⟨n5, ok, _⟩ := g.2.2 rows hr
    refine (sized_tup (m := 4) (h := 1) fun z hz => ?_).more (by rw [List.length_map]; omega) (Nat.le_refl _)
    obtain ⟨r, hr, rfl⟩ := List.mem_map.mp hz
    refine rowS r (by rw [row_len (ok r hr)]; exact l4) fun x hx => ?_
    have := row_small lok (ok r hr) x hx
    omega
  exact ⟨(sized_str "task" (by decide) 4 (by decide)).more (by decide) (by decide), (sI D (by omega) (by omega)).more (by decide) (by decide), (rowS ls l4 fun x hx => by have := lok x hx; omega).more (by decide) (by decide), sideS W gW, sideS B gB⟩
theorem task_sized {D : Int} {ls : List Int} {W B : List (List (List Int))} (d0 : -10 ≤ D) (d1 : D ≤ 10) (lok : ∀ m ∈ ls, 1 ≤ m ∧ m ≤ 60) (l4 : ls.length ≤ 4) (gW : GoodS ls W) (gB : GoodS ls B) : Sized 525 4 (taskD D ls W B) := by
  obtain ⟨a, b, c, e, f⟩ := task_parts_sized d0 d1 lok l4 gW gB
  refine sized_tup (m := 104) (h := 3) fun z hz => ?_
  simp only [List.mem_cons, List.not_mem_nil, or_false] at hz
  rcases hz with rfl | rfl | rfl | rfl | rfl <;> assumption
theorem task_dt {H : Hp} {p la wa ba : Addr} {wxs bxs : List V} {D : Int} {ls : List Int} {W B : List (List (List Int))} (hp : SqT K H p [.str "task", .int D, .ref la, .ref wa, .ref ba]) (hla : SqT K H la (ls.map V.int)) (hwa : SqT K H wa wxs) (hwx : DtAll K H wxs (W.map fun rows => PyData.tuple (rows.map tupI))) (hba : SqT K H ba bxs) (hbx : DtAll K H bxs (B.map fun rows => PyData.tuple (rows.map tupI))) : Dt K H (.ref p) (taskD D ls W B) :=
  .tup hp (.cons (.str _) (.cons (.int _) (.cons (.tup hla (DtAll.ints ls)) (.cons (.tup hwa hwx) (.cons (.tup hba hbx) .nil)))))
theorem sized_one {m h : Nat} {a : PyData} (s : Sized m h a) : Sized (m + 1) (h + 1) (.tuple [a]) := by
  exact (sized_tup (m := m) (h := h) (ds := [a]) fun d hd => by rw [List.mem_singleton.mp hd]; exact s).more (by simp) (Nat.le_refl _)
theorem sized_oneL {m h : Nat} {a : PyData} (s : Sized m h a) : Sized (m + 1) (h + 1) (.list [a]) := by
  exact (sized_lst (m := m) (h := h) (ds := [a]) fun d hd => by rw [List.mem_singleton.mp hd]; exact s).more (by simp) (Nat.le_refl _)
theorem sized_tup0 : Sized 0 1 (.tuple []) := (sized_tup (m := 0) (h := 0) (ds := []) (by simp)).more (by simp) (by omega)
theorem sized_lst0 : Sized 0 1 (.list []) := (sized_lst (m := 0) (h := 0) (ds := []) (by simp)).more (by simp) (by omega)
theorem small_int (i : Int) (a : -1000 ≤ i) (b : i ≤ 1000) : Sized 0 0 (.int i) := sized_int (Nat.lt_of_lt_of_le (show i.natAbs < 2000 by omega) (by decide))
end
/-! ### sizes; the law's right and refused -/
theorem fold_len {D : Nat} {F : List NT → Nat → List NT} {m : Nat} (h : ∀ M c, (F M c).length ≤ M.length + m) : ∀ (l : List Nat) (M : List NT), (l.foldl F M).length ≤ M.length + l.length * m
  | [], M => by simp
  | c :: l, M => by
    have a := fold_len (D := D) h l (F M c)
    have b := h M c
    rw [List.foldl_cons, List.length_cons, Nat.succ_mul]
    omega
def nMax : Nat → Nat
  | 0 => 1
  | r + 1 => 1 + 4 * nMax r
theorem tellN_len {D : Nat} (D4 : D ≤ 4) : ∀ {r : Nat} (v : Vw r) (s : Nat) (u : Int) (b : Nat) (N : List NT), (tellN D v s u b N).length ≤ N.length + nMax r
  | 0, .lf x, s, u, b, N => by unfold tellN nMax; simp
  | r + 1, .br x f, s, u, b, N => by
    unfold tellN nMax
    refine Nat.le_trans (fold_len (D := D) (m := nMax r) (fun M c => ?_) _ _) ?_
    · show (if c = b then M else tellN D (f c) (1 - s) _ c M).length ≤ _
      split
      · omega
      · exact tellN_len D4 (f c) _ _ _ _
    · rw [List.length_append, List.length_singleton, List.length_range']
      have : D * nMax r ≤ 4 * nMax r := Nat.mul_le_mul_right _ D4
      omega
theorem nodes_few {D : Nat} (D4 : D ≤ 4) {r : Nat} (hr : r < 5) (v : Vw r) (s : Nat) : (nodesV D v s).length ≤ 341 := by
  have := tellN_len D4 v s (-1) 0 []
  have e : nMax r ≤ 341 := by
    have : r = 0 ∨ r = 1 ∨ r = 2 ∨ r = 3 ∨ r = 4 := by omega
    rcases this with rfl | rfl | rfl | rfl | rfl <;> decide
  unfold nodesV
  simp at this
  omega
def bMax : Nat → Nat
  | 0 => 1
  | r + 1 => 2 * (4 * (bMax r + 1) + 1)
theorem datV_sized {D : Nat} (D4 : D ≤ 4) : ∀ {r : Nat} (v : Vw r) (b : Nat), VwS 4 v → Sized (bMax r) (2 * r + 1) (datV D v b)
  | 0, .lf x, b, h => by
    unfold datV
    unfold VwS at h
    exact (sized_one (small_int _ (by omega) (by omega))).more (by decide) (by decide)
  | r + 1, .br x f, b, h => by
    unfold datV
    unfold VwS at h
    refine (sized_tup (m := 4 * (bMax r + 1)) (h := 2 * r + 2) fun d hd => ?_).more (by simp [bMax]) (by omega)
    simp only [List.mem_cons, List.not_mem_nil, or_false] at hd
    rcases hd with rfl | rfl
    · have := h.1
      exact (small_int _ (by omega) (by omega)).more (by omega) (by omega)
    · refine (sized_tup (m := bMax r) (h := 2 * r + 1) fun d hd => ?_).more (by rw [List.length_map, List.length_range']; exact Nat.mul_le_mul_right _ D4) (Nat.le_refl _)
      obtain ⟨c, _, rfl⟩ := List.mem_map.mp hd
      show Sized _ _ (if c = b then PyData.none else datV D (f c) c)
      split
      · exact sized_non.more (by omega) (by omega)
      · exact datV_sized D4 (f c) c (h.2 c)
theorem bMax_le {r : Nat} (hr : r < 5) : bMax r ≤ 10000 := by
  have : r = 0 ∨ r = 1 ∨ r = 2 ∨ r = 3 ∨ r = 4 := by omega
  rcases this with rfl | rfl | rfl | rfl | rfl <;> decide
theorem ints_sized {r : List Int} {m : Nat} (h : r.length ≤ m) (b : ∀ z ∈ r, -1000 ≤ z ∧ z ≤ 1000) : Sized m 1 (tupI r) := by
  have q := sized_tup (m := 0) (h := 0) (ds := r.map PyData.int) fun d hd => by
    obtain ⟨z, hz, rfl⟩ := List.mem_map.mp hd
    exact small_int z (b z hz).1 (b z hz).2
  rw [List.length_map] at q
  exact q.more (by omega) (Nat.le_refl _)
def InpS (N : List NT) : Prop := ∀ t ∈ N, t.1 < 4
theorem tellN_inp {D : Nat} : ∀ {r : Nat} (v : Vw r) (s : Nat) (u : Int) (b : Nat) (N : List NT), VwS 4 v → InpS N → InpS (tellN D v s u b N)
  | 0, .lf x, s, u, b, N, h, hN => by
    unfold tellN
    unfold VwS at h
    intro t ht
    rcases List.mem_append.mp ht with q | q
    · exact hN t q
    · rw [List.mem_singleton.mp q]
      exact h
  | r + 1, .br x f, s, u, b, N, h, hN => by
    unfold tellN
    unfold VwS at h
    have go : ∀ (l : List Nat) (M : List NT), InpS M → InpS (l.foldl (fun M c => if c = b then M else tellN D (f c) (1 - s) ((N.length : Nat) : Int) c M) M) := by
      intro l
      induction l with
      | nil => exact fun M h => h
      | cons c l ih =>
        intro M hM
        rw [List.foldl_cons]
        refine ih _ ?_
        split
        · exact hM
        · exact tellN_inp (f c) _ _ _ _ (h.2 c) hM
    refine go _ _ fun t ht => ?_
    rcases List.mem_append.mp ht with q | q
    · exact hN t q
    · rw [List.mem_singleton.mp q]
      exact h.1
theorem inp_small {N : List NT} (h : InpS N) (i : Nat) : 0 ≤ inpN N i ∧ inpN N i < 4 := by
  unfold inpN
  rcases e : N[i]? with _ | t
  · exact ⟨by decide, by decide⟩
  · have := h t (List.mem_of_getElem? e)
    show (0 : Int) ≤ ((t.1 : Nat) : Int) ∧ ((t.1 : Nat) : Int) < 4
    omega
theorem rk_le (N : List NT) (j : Nat) : rk N j ≤ j := by
  unfold rk ix
  exact Nat.le_trans (List.length_filter_le _ _) (by rw [List.length_range]; exact Nat.le_refl _)
theorem nB_le (N : List NT) : nB N ≤ N.length := by
  unfold nB ix
  exact Nat.le_trans (List.length_filter_le _ _) (by rw [List.length_range]; exact Nat.le_refl _)
theorem valF_small {D : Nat} {N : List NT} {nb : NB} (T : NetV D N nb) {c i : Nat} (hi : i < N.length) (hn : N.length ≤ 341) : -1000 ≤ valF N nb N.length N.length c i ∧ valF N nb N.length N.length c i ≤ 1000 := by
  have bl := nB_le N
  rcases h : nb i c with _ | j
  · rw [valF_none ((nbk_all T).trans h), if_pos hi]
    have := rk_le N i
    split <;> omega
  · rw [valF_some ((nbk_all T).trans h)]
    have := rk_le N j
    have := (T.lt h).2.1
    split <;> omega
theorem netOf_sized {D : Nat} {N : List NT} {nb : NB} (T : NetV D N nb) (D4 : D ≤ 4) (hn : N.length ≤ 341) (hi : InpS N) : Sized 7000 3 (netOf D N nb) := by
  have few2 := ix_all T.sd N.length (Nat.le_refl _)
  have inl : ∀ s, s ≤ 1 → Sized 341 1 (tupI (inpL N s)) := fun s hs => by
    refine ints_sized (by
      unfold inpL
      rw [List.length_append, List.length_map, List.length_map]
      have : s = 0 ∨ s = 1 := by omega
      rcases this with rfl | rfl
      · show (ix N 0 N.length).length + (ix N 1 N.length).length ≤ 341; omega
      · show (ix N 1 N.length).length + (ix N 0 N.length).length ≤ 341; omega) fun z hz => ?_
    unfold inpL at hz
    rcases List.mem_append.mp hz with q | q
    · obtain ⟨g, _, rfl⟩ := List.mem_map.mp q
      have := inp_small hi g
      omega
    · obtain ⟨g, _, rfl⟩ := List.mem_map.mp q
      omega
  have a : Sized 1368 2 (.tuple ((lkRows D N nb).map tupI)) := by
    refine (sized_tup (m := 341) (h := 1) fun z hz => ?_).more (by unfold lkRows; rw [List.length_map, List.length_map, List.length_range]; omega) (Nat.le_refl _)
    obtain ⟨r, hr, rfl⟩ := List.mem_map.mp hz
    unfold lkRows at hr
    obtain ⟨c, _, rfl⟩ := List.mem_map.mp hr
    refine ints_sized (by rw [lk_len T]; exact hn) fun z hz => ?_
    unfold lkAll linkF rowF at hz
    have : ∃ i, i < N.length ∧ z = valF N nb N.length N.length (c + 1) i := by
      rcases List.mem_append.mp hz with q | q <;>
      · obtain ⟨g, hg, e⟩ := List.mem_map.mp q
        exact ⟨g, (ix_mem.mp hg).1, e.symm⟩
    obtain ⟨i, hi, rfl⟩ := this
    exact valF_small T hi hn
  unfold netOf
  refine (sized_tup (m := 1399) (h := 2) fun z hz => ?_).more (by simp) (by decide)
  simp only [List.mem_cons, List.not_mem_nil, or_false] at hz
  rcases hz with rfl | rfl | rfl | rfl | rfl
  · exact (sized_str "network" (by decide) 7 (by decide)).more (by decide) (by decide)
  · exact (small_int _ (by omega) (by omega)).more (by decide) (by decide)
  · exact a.more (by decide) (by decide)
  · exact (inl 0 (by decide)).more (by decide) (by decide)
  · exact (inl 1 (by decide)).more (by decide) (by decide)
theorem NetH.dt {K : PySem.W.Frag} {H : Hp} {p : Addr} {D : Nat} {N : List NT} {nb : NB} (h : NetH K H p D N nb) : Dt K H (.ref p) (netOf D N nb) := by
  obtain ⟨la, wa, ba, cs, h1, h2, h3, h4, h5⟩ := h
  exact .tup h1 (.cons (.str _) (.cons (.int _) (.cons (.tup h2 (sls_dt h3)) (.cons (.tup h4 (DtAll.ints _)) (.cons (.tup h5 (DtAll.ints _)) .nil)))))
section
variable {P : Program} {w : World} {K : PySem.W.Frag} {mg : Str → Option Value} {base : Heap}
def spRightV (K : PySem.W.Frag) : Sp := fun vs H Q _ => ∃ (a vw : Addr) (D T s : Nat) (v : Vw T) (e : PyData) (v0 la wa ba : V), vs = [.ref a, .str (wordS s), .ref vw, .int T] ∧ Sys K H ∧ Dt K H (.ref a) e ∧ isTask e = true ∧ WordOk e ∧ Sized 1000 6 e ∧ SqT K H a [v0, .int D, la, wa, ba] ∧ Dt K H (.ref vw) (datV D v 0) ∧ VwS 4 v ∧ s ≤ 1 ∧ 1 ≤ D ∧ D ≤ 4 ∧ T < 5 ∧
  ∀ H', Same H H' → Q (.bl true) H'
theorem wordN {s : Nat} (s1 : s ≤ 1) : (if decide (wordS s = Str.ofString "other") = true then (1 : Int) else 0) = (s : Int) := by
  have : s = 0 ∨ s = 1 := by omega
  rcases this with rfl | rfl <;> decide +kernel
set_option maxHeartbeats 2000000 in
theorem ok_rightv {CT : Addr} {f : Addr} {fd : FuncData} (B : Blt mg) (g_law_due : Has P w K mg base CX0 7 "_law_due" ["colours", "word", "view"] (spDue K)) (gnetwork_showing : Has P w K mg base (L2N.CX P w) 7 "network_showing" ["task", "flaw"] (spShow K CT))
    (g_law_walk : Has P w K mg base CX0 6 "_law_walk" ["network", "side", "node", "reach", "back"] (spWalkV K 5)) (F : Fun K "_law_right" "_law_right" s_law_right f fd) : FnG P w K mg base 9 f fd ["task", "word", "view", "reach"] (spRightV K) := by
  have sc : FnScope ["task", "word", "view", "reach", "due", "kept", "told"] ["task", "word", "view", "reach"] (defScope s_law_right) := ⟨rfl, rfl, rfl, by decide +kernel, rfl, by decide +kernel, by decide +kernel⟩
  refine FnG.by F sc (fun vs H Q E h => ?_) (fun cdv A outer s H vs Q E hg hr h => ?_)
  · obtain ⟨_, _, _, _, _, _, _, _, _, _, _, rfl, _⟩ := h
    rfl
  obtain ⟨a, vw, D, T, s, v, e, v0, la, wa, ba, rfl, S, he, hte, we, se, hT, hv, vS, s1, D1, D4, T5, k⟩ := h
  refine ⟨_, (pss_cons (ps_set (i := 4) sc.nd rfl (Or.inl rfl) (pc g_law_due hr (pa_cons (pe_ix ix_tup (pv 0) pe_int (fun _ _ => rfl)) (pa_cons (pv 1) (pa_cons (pv 2) pa_nil)))))
    (pss_cons (ps_set (i := 5) sc.nd rfl (Or.inl rfl) (pe_callB (call_repN hg hr.units) (by rfl) B.repr (by decide +kernel) (pa_cons (pe_lstN (pa_cons (pv 0) (pa_cons (pv 2) pa_nil))) pa_nil)))
    (pss_cons (ps_set (i := 6) sc.nd rfl (Or.inl rfl) (pcEN gnetwork_showing hr takes0N (pa_cons (pv 0) (pa_cons (pe_tupN (pa_cons (pv 1) (pa_cons (pv 2) pa_nil))) pa_nil))))
    (pss_cons (ps_if (PW.pt (pw_or (pt_cmpR op_nes (pe_callB (call_repN hg hr.units) (by rfl) B.repr (by decide +kernel) (pa_cons (pv 6) pa_nil)) (pe_callB (call_repN hg hr.units) (by rfl) B.repr (by decide +kernel) (pa_cons (pv 4) pa_nil)) (nomark _)) (pw_or1 (pt_cmpR op_nes (pe_callB (call_repN hg hr.units) (by rfl) B.repr (by decide +kernel) (pa_cons (pe_lstN (pa_cons (pv 0) (pa_cons (pv 2) pa_nil))) pa_nil)) (pv 5) (nomark _)))))
      (pss_one (ps_ret pe_bl))
      pss_nil)
    (pss_cons (ps_if (pt_cmpR op_nes (pe_callB (call_repN hg hr.units) (by rfl) B.repr (by decide +kernel) (pa_cons (pc g_law_walk hr (pa_cons (pv 6) (pa_cons (pe_callTy call_int1 (by rfl) B.int (by decide +kernel) (pa_cons (pe_cmpR op_eqs (pv 1) pe_str (nomark _)) pa_nil)) (pa_cons pe_int (pa_cons (pv 3) (pa_cons pe_int pa_nil)))))) pa_nil)) (pe_callB (call_repN hg hr.units) (by rfl) B.repr (by decide +kernel) (pa_cons (pv 2) pa_nil)) (nomark _))
      (pss_one (ps_ret pe_bl))
      pss_nil)
    (pss_one (ps_ret (pe_cmpR op_eqs (pe_callB (call_repN hg hr.units) (by rfl) B.repr (by decide +kernel) (pa_cons (pcEN gnetwork_showing hr takes0N (pa_cons (pv 0) (pa_cons (pe_tupN (pa_cons (pv 1) (pa_cons (pv 2) pa_nil))) pa_nil))) pa_nil)) (pe_callB (call_repN hg hr.units) (by rfl) B.repr (by decide +kernel) (pa_cons (pv 4) pa_nil)) (nomark _))))))))), ?_⟩
  try dsimp only [cxOf]
  have few := nodes_few D4 T5 v s
  obtain ⟨TN, top, rep⟩ := netV_nv (D := D) v s1
  have iS : InpS (nodesV D v s) := tellN_inp v s (-1) 0 [] vS (fun t ht => absurd ht List.not_mem_nil)
  have sN := netOf_sized TN D4 few iS
  have sV := (datV_sized D4 v 0 vS).more (bMax_le T5) (show 2 * T + 1 ≤ 20 by omega)
  have few5 : (nodesV D v s).length ≤ 500 := by omega
  have sb : e.bulk ≤ 1000000 := Nat.le_trans se.2.2.2 (by decide)
  generalize hN : nodesV D v s = N at *
  generalize hnb : nbV D v = nb at *
  obtain ⟨y1, y2, y3⟩ := sN.rep (by decide) (by decide)
  obtain ⟨x1, x2, x3⟩ := sV.rep (by decide) (by decide)
  have pr : Sized 20002 21 (.list [e, datV D v 0]) := (sized_lst (m := 10000) (h := 20) fun z hz => by
    simp only [List.mem_cons, List.not_mem_nil, or_false] at hz
    rcases hz with rfl | rfl
    · exact se.more (by decide) (by decide)
    · exact sV).more (by simp) (Nat.le_refl _)
  obtain ⟨z1, z2, z3⟩ := pr.rep (by decide) (by decide)
  have dn : ∀ {H' : Hp} {l : Addr}, Same H H' → H' l = some (.lst [.ref a, .ref vw]) → Dn (fun _ => False) K H' (.ref l) (.list [e, datV D v 0]) := fun s' el => .lst (fun z => z) el (.cons (he.stay s'.tups).dn (.cons (hv.stay s'.tups).dn .nil))
  have ask : ∀ {H' : Hp} {t : Addr} {Q : VK}, Same H H' → H' t = some (.tup [.str (wordS s), .ref vw]) → (∀ (p : Addr) (H2 : Hp), Same H' H2 → NetH K H2 p D N nb → Q (.ref p) H2) → spShow K CT [.ref a, .ref t] H' Q E0 := fun {H' t Q} s' ht q =>
    ⟨fun _ => False, _, e, t, rfl, (he.stay s'.tups).dn, sb, we, .inr ⟨hte, a, vw, D, T, s, v0, la, wa, ba, v, rfl, s'.seqT hT, SqT.of ht, hv.stay s'.tups, s1, D1, D4, T5, by rw [hN]; exact few5, fun p H2 s2 h => q p H2 s2 (by rw [hN, hnb] at h; exact h)⟩⟩
  w_fin
  refine ⟨vw, D, T, s, v, rfl, hv, s1, D1, D4, T5, by rw [hN]; exact few5, fun pd H1 r1 hd => ?_⟩
  rw [hN, hnb] at hd
  w_fin
  intro l1 H2 f2 r2 e2
  w_fin
  refine ⟨_, _, _, rfl, dn (r1.trans r2) e2, S.same (r1.trans r2), z1, z2, z3, ?_⟩
  w_fin
  intro t1 H3 _ r3 e3
  have r03 := (r1.trans r2).trans r3
  w_fin
  refine ask r03 e3 fun p H4 r4 hp => ?_
  have r04 := r03.trans r4
  w_fin
  refine ⟨fun _ => False, _, _, rfl, hp.dt.dn, S.same r04, y1, y2, y3, ?_⟩
  w_fin
  refine ⟨fun _ => False, _, _, rfl, ((hd.stay ((r2.trans r3).trans r4).tups)).dn, S.same r04, y1, y2, y3, ?_⟩
  w_fin
  rw [decide_eq_true rfl]
  refine iteF ?_
  w_fin
  intro l2 H5 f5 r5 e5
  have r05 := r04.trans r5
  w_fin
  refine ⟨_, _, _, rfl, dn r05 e5, S.same r05, z1, z2, z3, ?_⟩
  w_fin
  rw [decide_eq_true rfl]
  refine iteF ?_
  w_fin
  have rk0 : rk N 0 = 0 := by
    have := rk_le N 0
    omega
  refine ⟨p, D, T, s, 0, 0, v, N, nb, ?_, hp.same r5, TN, by omega, rep, s1, D4, T5, fun p6 H6 r6 h6 => ?_⟩
  · rw [rk0, wordN s1]
    rfl
  have r06 := r05.trans r6
  w_fin
  refine ⟨fun _ => False, _, _, rfl, h6.dn, S.same r06, x1, x2, x3, ?_⟩
  w_fin
  refine ⟨fun _ => False, _, _, rfl, (hv.stay r06.tups).dn, S.same r06, x1, x2, x3, ?_⟩
  w_fin
  rw [decide_eq_true rfl]
  refine iteF ?_
  w_fin
  intro t2 H7 _ r7 e7
  have r07 := r06.trans r7
  w_fin
  refine ask r07 e7 fun p8 H8 r8 hp8 => ?_
  have r08 := r07.trans r8
  w_fin
  refine ⟨fun _ => False, _, _, rfl, hp8.dt.dn, S.same r08, y1, y2, y3, ?_⟩
  w_fin
  refine ⟨fun _ => False, _, _, rfl, (hd.stay (((((((r2.trans r3).trans r4).trans r5).trans r6).trans r7).trans r8)).tups).dn, S.same r08, y1, y2, y3, ?_⟩
  w_fin
  rw [decide_eq_true rfl]
  exact k H8 r08
def spRefV (K : PySem.W.Frag) : Sp := fun vs H Q _ => ∃ (M : Addr → Prop) (t : V) (e : PyData) (fl : Addr), vs = [t, .ref fl] ∧ Dn M K H t e ∧ e.bulk ≤ 1000000 ∧ WordOk e ∧ isTask e = false ∧ ∀ H', Same H H' → Q (.bl true) H'
theorem ok_refv {CT : Addr} {f : Addr} {fd : FuncData} (B : Blt mg) (eBadTask : Err K mg "BadTask" CT) (hex : PySem.W.exmOne K (.ref CT) (.ref CT) = some true) (gnetwork_showing : Has P w K mg base (L2N.CX P w) 7 "network_showing" ["task", "flaw"] (spShow K CT))
    (F : Fun K "_law_refused" "_law_refused" s_law_refused f fd) : FnOk P w K mg base CX0 8 f fd ["task", "flaw"] (spRefV K) := by
  have sc : FnScope ["task", "flaw"] ["task", "flaw"] (defScope s_law_refused) := ⟨rfl, rfl, rfl, by decide +kernel, rfl, by decide +kernel, by decide +kernel⟩
  refine F.ok sc (fun vs H Q E h => ?_) (fun cdv A outer s H vs Q E hr h => ?_)
  · obtain ⟨_, _, _, _, rfl, _⟩ := h
    rfl
  obtain ⟨M, t, e, fl, rfl, he, hb, we, ht, k⟩ := h
  refine ⟨_, (pss_cons (L2N.ps_try_many rfl rfl takes0N (fun W pn xe tk _ =>
      (pss_one (ps_expr (pcSN gnetwork_showing hr tk (pa_cons (pv 0) (pa_cons (pv 1) pa_nil))))))
      (.cons ⟨rfl, by decide, .inl eBadTask.g⟩ (fun _ _ _ _ _ _ _ => (pss_one (ps_ret pe_bl))) .nil))
    (pss_one (ps_ret pe_bl))), ?_⟩
  try dsimp only [cxOf]
  w_fin
  refine ⟨_, rfl, _, rfl, M, t, e, fl, rfl, he, hb, we, .inl ⟨ht, fun H1 s1 => ?_⟩⟩
  refine ⟨true, hex, fun _ a ha => ?_, fun q => Bool.noConfusion q⟩
  w_fin
  exact k H1 s1
end
/-! ### the law -/
theorem word_len {ds : List PyData} (h : ds.length ≠ 5) : WordOk (.tuple ds) := fun w' r' e l => by
  cases e
  exact absurd (by rw [List.length_cons, l]) h
theorem row_take {ls ns : List Int} {m z : Int} {i : Nat} (hm : ls[i]? = some m) (hn : ns.length = i) (h : isRow (ls.take i) (tupI ns) = true) (z0 : 0 ≤ z) (z1 : z < m) : isRow (ls.take (i + 1)) (tupI (ns ++ [z])) = true := by
  have il := (List.getElem?_eq_some_iff.mp hm).1
  rw [take_more hm, row_snoc (by rw [List.length_take, hn]; omega), h, Bool.true_and]
  show (decide (0 ≤ z) && decide (z ≤ m - 1)) = true
  rw [decide_eq_true z0, decide_eq_true (by omega)]
  rfl
theorem good_one {ls r : List Int} (h : isRow ls (tupI r) = true) : Good ls [r] := ⟨by simp, fun x hx => by rw [List.mem_singleton.mp hx]; exact h, List.pairwise_singleton _ _⟩
theorem good_no {ls : List Int} : Good ls [] := ⟨by simp, fun x hx => absurd hx List.not_mem_nil, List.Pairwise.nil⟩
def rowsE (r : List Int) (e : Nat) (i : Nat) : List (List Int) := if i % 2 = e then [r] else []
theorem good_e {ls r : List Int} (h : isRow ls (tupI r) = true) (e n : Nat) (n1 : 1 ≤ n) (n4 : n ≤ 4) : GoodS ls ((List.range n).map (rowsE r e)) := ⟨by simp; omega, by simp; omega, fun rows hr => by
  obtain ⟨y, _, rfl⟩ := List.mem_map.mp hr
  unfold rowsE
  split
  · exact good_one h
  · exact good_no⟩
theorem prod3 : ∀ (ls : List Int) (p : Int) (n : Nat), 1 ≤ p → p ≤ 3 ^ n → (∀ z ∈ ls, 1 ≤ z ∧ z ≤ 3) → (ls.map PyData.int).foldl (fun p m => p * numD m) p ≤ 3 ^ (n + ls.length)
  | [], p, n, _, h2, _ => by simpa using h2
  | z :: ls, p, n, h1, h2, h3 => by
    have hz := h3 z List.mem_cons_self
    have a : 1 * 1 ≤ p * z := Int.mul_le_mul h1 hz.1 (by decide) (by omega)
    have b : p * z ≤ 3 ^ n * 3 := Int.mul_le_mul h2 hz.2 (by omega) (by omega)
    have := prod3 ls (p * z) (n + 1) (by omega) (by rw [Int.pow_succ]; exact b) fun x hx => h3 x (List.mem_cons_of_mem _ hx)
    rw [List.length_cons, show n + (ls.length + 1) = n + 1 + ls.length by omega]
    exact this
def sideR (rows : List (List Int)) : PyData := .tuple (rows.map tupI)
section
variable {P : Program} {w : World} {K : PySem.W.Frag} {mg : Str → Option Value} {base : Heap}
def spLaw (K : PySem.W.Frag) : Sp := fun vs H Q _ => ∃ (a : Addr) (ns : List Int), vs = [.ref a] ∧ SqL K H a (ns.map V.int) ∧ ns.length ≤ 63 ∧ Sys K H ∧ ∀ H', Q (.bl true) H'
theorem side_item {H : Hp} {t3 t1 t2 rt : Addr} {r : List Int} {i e : Nat} (he : e ≤ 1) {Q : VK} (h3 : H t3 = some (.tup [.ref t1, .ref t2])) (h1 : SqT K H t1 (if e = 0 then [.ref rt] else [])) (h2 : SqT K H t2 (if e = 0 then [] else [.ref rt])) (hr : SqT K H rt (r.map V.int))
    (k : ∀ p, Dt K H (.ref p) (sideR (rowsE r e i)) → Q (.ref p) H) : rIxT K (.ref t3) (.int ((0 + (i : Int)) % 2)) H Q := by
  have em : ((0 + (i : Int)) % 2) = ((i % 2 : Nat) : Int) := by omega
  rw [em]
  have one : ∀ {t : Addr}, SqT K H t [.ref rt] → Dt K H (.ref t) (sideR [r]) := fun h => .tup h (.cons (.tup hr (DtAll.ints _)) .nil)
  have no : ∀ {t : Addr}, SqT K H t [] → Dt K H (.ref t) (sideR []) := fun h => .tup h .nil
  have h01 : i % 2 = 0 ∨ i % 2 = 1 := by omega
  have e01 : e = 0 ∨ e = 1 := by omega
  rcases h01 with q | q
  · refine st_ixT (SqT.of h3) (v := .ref t1) (by rw [q]; rfl) (k t1 ?_)
    unfold rowsE
    rcases e01 with rfl | rfl
    · rw [if_pos q]
      exact one h1
    · rw [if_neg (by omega)]
      exact no h1
  · refine st_ixT (SqT.of h3) (v := .ref t2) (by rw [q]; rfl) (k t2 ?_)
    unfold rowsE
    rcases e01 with rfl | rfl
    · rw [if_neg (by omega)]
      exact no h2
    · rw [if_pos q]
      exact one h2
set_option maxHeartbeats 2000000 in
theorem ok_all {f : Addr} {fd : FuncData} (B : Blt mg) (g_law_draws : Has P w K mg base CX0 1 "_law_draws" ["script", "many"] (spDraws K)) (g_law_take : Has P w K mg base CX0 1 "_law_take" ["hand", "many"] (spTakeN K)) (g_law_drawn : Has P w K mg base CX0 6 "_law_drawn" ["hand", "colours", "own", "other", "reach", "back"] (spDrawnV K 5))
    (g_law_right : HasG P w K mg base 9 "_law_right" ["task", "word", "view", "reach"] (spRightV K)) (g_law_refused : Has P w K mg base CX0 8 "_law_refused" ["task", "flaw"] (spRefV K))
    (F : Fun K "_law_all" "_law_all" s_law_all f fd) : FnG P w K mg base 10 f fd ["script"] (spLaw K) := by
  have sc : FnScope ["script", "hand", "colours", "labels", "row", "white", "black", "task", "most", "k", "reach", "view", "c", "many", "x", "y"] ["script"] (defScope s_law_all) := ⟨rfl, rfl, rfl, by decide +kernel, rfl, by decide +kernel, by decide +kernel⟩
  refine FnG.by F sc (fun vs H Q E h => ?_) (fun cdv A outer s H vs Q E hg hr h => ?_)
  · obtain ⟨_, _, rfl, _⟩ := h
    rfl
  obtain ⟨a, ns, rfl, hS, h63, S0, k⟩ := h
  refine ⟨_, (pss_cons (ps_set (i := 1) sc.nd rfl (Or.inr rfl) (pe_lstN (pa_cons (pc g_law_draws hr (pa_cons (pv 0) (pa_cons pe_int pa_nil))) (pa_cons pe_int pa_nil))))
    (pss_cons (ps_set (i := 2) sc.nd rfl (Or.inl rfl) (pe_op op_add pe_int (pc g_law_take hr (pa_cons (pv 1) (pa_cons pe_int pa_nil)))))
    (pss_cons (ps_set (i := 3) sc.nd rfl (Or.inl rfl) (pe_callTy (show CallR _ _ (rTupN K) from call_tupN) (by rfl) B.tuple (by decide +kernel) (pa_cons (pe_lc (own := [("c", 12)]) (g := gName 12) (tt := tYes) rfl sc.nd (pi_range1 (by rfl) B.range (pa_cons (pv 2) pa_nil)) (blkOk_by (N := ["script", "hand", "colours", "labels", "row", "white", "black", "task", "most", "k", "reach", "view", "c", "many", "x", "y"]) (sc := defScope s_law_all) (by decide +kernel)) (fun _ _ _ _ _ => pg_name (i := 12) sc.nd rfl (Or.inl rfl)) (fun _ _ _ _ _ => pts_nil) (fun _ _ _ _ _ => (pe_op op_add pe_int (pc g_law_take hr (pa_cons (pv 1) (pa_cons pe_int pa_nil)))))) pa_nil)))
    (pss_cons (ps_set (i := 4) sc.nd rfl (Or.inr rfl) (pe_callTy (show CallR _ _ (rTupN K) from call_tupN) (by rfl) B.tuple (by decide +kernel) (pa_cons (pe_lc (own := [("many", 13)]) (g := gName 13) (tt := tYes) rfl sc.nd (pi_tup (pv 3)) (blkOk_by (N := ["script", "hand", "colours", "labels", "row", "white", "black", "task", "most", "k", "reach", "view", "c", "many", "x", "y"]) (sc := defScope s_law_all) (by decide +kernel)) (fun _ _ _ _ _ => pg_name (i := 13) sc.nd rfl (Or.inl rfl)) (fun _ _ _ _ _ => pts_nil) (fun _ _ _ _ _ => (pc g_law_take hr (pa_cons (pv 1) (pa_cons (pv 13) pa_nil))))) pa_nil)))
    (pss_cons (ps_set (i := 5) sc.nd rfl (Or.inl rfl) (pe_callTy (show CallR _ _ (rTupN K) from call_tupN) (by rfl) B.tuple (by decide +kernel) (pa_cons (pe_lc (own := [("x", 14)]) (g := gName 14) (tt := tYes) rfl sc.nd (pi_range1 (by rfl) B.range (pa_cons (pe_op op_add pe_int (pc g_law_take hr (pa_cons (pv 1) (pa_cons pe_int pa_nil)))) pa_nil)) (blkOk_by (N := ["script", "hand", "colours", "labels", "row", "white", "black", "task", "most", "k", "reach", "view", "c", "many", "x", "y"]) (sc := defScope s_law_all) (by decide +kernel)) (fun _ _ _ _ _ => pg_name (i := 14) sc.nd rfl (Or.inl rfl)) (fun _ _ _ _ _ => pts_nil) (fun _ _ _ _ _ => (pe_ix (show IxR _ (rIxT K) from ix_tup) (pe_tupN (pa_cons (pe_tupN (pa_cons (pv 4) pa_nil)) (pa_cons (pe_tupN pa_nil) pa_nil))) (pe_op op_mod (pe_callTy call_int1 (by rfl) B.int (by decide +kernel) (pa_cons (pv 14) pa_nil)) pe_int) (fun _ _ => rfl)))) pa_nil)))
    (pss_cons (ps_set (i := 6) sc.nd rfl (Or.inl rfl) (pe_callTy (show CallR _ _ (rTupN K) from call_tupN) (by rfl) B.tuple (by decide +kernel) (pa_cons (pe_lc (own := [("y", 15)]) (g := gName 15) (tt := tYes) rfl sc.nd (pi_range1 (by rfl) B.range (pa_cons (pe_op op_add pe_int (pc g_law_take hr (pa_cons (pv 1) (pa_cons pe_int pa_nil)))) pa_nil)) (blkOk_by (N := ["script", "hand", "colours", "labels", "row", "white", "black", "task", "most", "k", "reach", "view", "c", "many", "x", "y"]) (sc := defScope s_law_all) (by decide +kernel)) (fun _ _ _ _ _ => pg_name (i := 15) sc.nd rfl (Or.inl rfl)) (fun _ _ _ _ _ => pts_nil) (fun _ _ _ _ _ => (pe_ix (show IxR _ (rIxT K) from ix_tup) (pe_tupN (pa_cons (pe_tupN pa_nil) (pa_cons (pe_tupN (pa_cons (pv 4) pa_nil)) pa_nil))) (pe_op op_mod (pe_callTy call_int1 (by rfl) B.int (by decide +kernel) (pa_cons (pv 15) pa_nil)) pe_int) (fun _ _ => rfl)))) pa_nil)))
    (pss_cons (ps_set (i := 7) sc.nd rfl (Or.inl rfl) (pe_tupN (pa_cons pe_str (pa_cons (pv 2) (pa_cons (pv 3) (pa_cons (pv 5) (pa_cons (pv 6) pa_nil)))))))
    (pss_cons (ps_set (i := 8) sc.nd rfl (Or.inl rfl) (pe_ix ix_list (pe_lstN (pa_cons pe_int (pa_cons pe_int (pa_cons (pe_op op_add pe_int (pe_callTy call_int1 (by rfl) B.int (by decide +kernel) (pa_cons (pe_cmpR op_eqi (pc g_law_take hr (pa_cons (pv 1) (pa_cons pe_int pa_nil))) pe_int (nomark _)) pa_nil))) pa_nil)))) (pe_op op_sub (pv 2) pe_int) (fun _ _ => rfl)))
    (pss_cons (ps_for PassesOwn.never rfl (pi_range1 (by rfl) B.range (pa_cons pe_int pa_nil)) (pg_name (i := 9) sc.nd rfl (Or.inl rfl))
      (pss_cons (ps_set (i := 10) sc.nd rfl (Or.inl rfl) (pc g_law_take hr (pa_cons (pv 1) (pa_cons (pe_op op_add (pe_callB (call_min2 rfl) (by rfl) B.min (by decide +kernel) (pa_cons (pv 8) (pa_cons pe_int pa_nil))) pe_int) pa_nil))))
      (pss_cons (ps_set (i := 11) sc.nd rfl (Or.inl rfl) (pc g_law_drawn hr (pa_cons (pv 1) (pa_cons (pv 2) (pa_cons (pe_callB call_len_seq (by rfl) B.len (by decide +kernel) (pa_cons (pv 5) pa_nil)) (pa_cons (pe_callB call_len_seq (by rfl) B.len (by decide +kernel) (pa_cons (pv 6) pa_nil)) (pa_cons (pv 10) (pa_cons pe_int pa_nil))))))))
      (pss_cons (ps_if (pt_not (pt_val (pcG g_law_right hg hr (pa_cons (pv 7) (pa_cons pe_str (pa_cons (pv 11) (pa_cons (pv 10) pa_nil)))))))
        (pss_one (ps_ret pe_bl))
        pss_nil)
      (pss_cons (ps_if (PW.pt (pw_and (pt_cmpR op_eqi (pv 9) pe_int (nomark _)) (pw_and1 (pt_not (pt_val (pc g_law_refused hr (pa_cons (pe_callTy (show CallR _ _ (rListN K) from call_listN) (by rfl) B.list (by decide +kernel) (pa_cons (pv 7) pa_nil)) (pa_cons (pe_tupN (pa_cons pe_str (pa_cons (pv 11) pa_nil))) pa_nil))))))))
        (pss_one (ps_ret pe_bl))
        pss_nil)
      (pss_cons (ps_set (i := 10) sc.nd rfl (Or.inl rfl) (pe_op op_add pe_int (pc g_law_take hr (pa_cons (pv 1) (pa_cons (pv 8) pa_nil)))))
      (pss_cons (ps_set (i := 11) sc.nd rfl (Or.inl rfl) (pc g_law_drawn hr (pa_cons (pv 1) (pa_cons (pv 2) (pa_cons (pe_callB call_len_seq (by rfl) B.len (by decide +kernel) (pa_cons (pv 6) pa_nil)) (pa_cons (pe_callB call_len_seq (by rfl) B.len (by decide +kernel) (pa_cons (pv 5) pa_nil)) (pa_cons (pv 10) (pa_cons pe_int pa_nil))))))))
      (pss_one (ps_if (pt_not (pt_val (pcG g_law_right hg hr (pa_cons (pv 7) (pa_cons pe_str (pa_cons (pv 11) (pa_cons (pv 10) pa_nil)))))))
        (pss_one (ps_ret pe_bl))
        pss_nil)))))))))
    (pss_one (ps_ret (pc g_law_refused hr (pa_cons (pe_slice (show SlR _ (LG.rCut K) from sl_cut) (pv 7) po_none (po_some pe_int)) (pa_cons (pe_tupN (pa_cons pe_str (pa_cons (pv 11) pa_nil))) pa_nil)))))))))))))), ?_⟩
  try dsimp only [cxOf]
  w_fin
  refine ⟨a, ns, 180, rfl, hS, h63, by omega, fun d H1 ds hd0 s1 hd1 hdl hdb => ?_⟩
  w_fin
  intro h H2 hh0 s2 hh
  have hh2 : Hand H2 h d ds 0 := ⟨hh, s2 _ _ hd1⟩
  have S2 : Sys K H2 := S0.same (s1.trans s2)
  have nh : ¬ sysModules = h := S2.ne hh
  w_fin
  refine ⟨h, d, ds, 0, 3, rfl, hh2, by omega, by omega, fun r1 H3 r10 r11 hh3 g3 => ?_⟩
  obtain ⟨D, hD⟩ : ∃ D : Nat, 2 + r1 = D := ⟨(2 + r1).toNat, by omega⟩
  w_fin
  rw [hD]
  w_fin
  intro lp hlp
  obtain ⟨nwh, nwd⟩ := hand_out hh3 hlp
  refine itr_walk (lo := 0) (n := ((D : Nat) : Int).toNat) (fun i H' => ∃ (m : Nat) (ls : List Int), GI (· = h) H3 lp ls H' ∧ Hand H' h d ds m ∧ ls.length = i ∧ ∀ z ∈ ls, 1 ≤ z ∧ z ≤ 3) ⟨_, [], GI.start hlp, hh3.new hlp _, rfl, fun c hc => by cases hc⟩ ?_ ?_
  · rintro i H4 hi ⟨m4, ws, aw, hh4, lw, rw4⟩
    w_fin
    refine ⟨h, d, ds, m4, 3, rfl, hh4, by omega, by omega, fun x H5 x0 x1 hh5 g5 => ?_⟩
    w_fin
    obtain ⟨e, f, a⟩ := (aw.step nwh g5).push (1 + x) (by omega)
    refine ⟨_, e, f, _, _, a, hh5.off nwh nwd _, by rw [List.length_append, lw]; rfl, fun z hz => ?_⟩
    rcases List.mem_append.mp hz with q | q
    · exact rw4 z q
    · rw [List.mem_singleton.mp q]
      omega
  rintro H4 ⟨m4, ls, al, hh4, lls, lb⟩
  have lls : ls.length = D := by omega
  have el := al.ex
  w_fin
  intro la H5 _ s5 ela
  have hh5 := hh4.same s5
  have g25 := (g3.trans al.go).trans s5.go
  have S5 := S2.go g25 nh
  w_fin
  intro zp hzp
  obtain ⟨nzh, nzd⟩ := hand_out hh5 hzp
  refine itt_walk (xs := ls.map V.int) (fun i H' => ∃ (m : Nat) (rs : List Int), GI (· = h) H5 zp rs H' ∧ Hand H' h d ds m ∧ rs.length = i ∧ isRow (ls.take i) (tupI rs) = true) ⟨_, [], GI.start hzp, hh5.new hzp _, rfl, row_nil⟩ (fun i H' _ z => ?_) ?_ ?_
  · obtain ⟨_, _, z, _⟩ := z
    exact z.go.seqT (SqT.of ela)
  · rintro i y H6 hy ⟨m6, rs, ar, hh6, lr, okr⟩
    obtain ⟨z, hz, rfl⟩ := item_of hy
    have zb := lb z (List.mem_of_getElem? hz)
    w_fin
    refine ⟨h, d, ds, m6, z, rfl, hh6, by omega, by omega, fun x H7 x0 x1 hh7 g7 => ?_⟩
    have il := (List.getElem?_eq_some_iff.mp hz).1
    obtain ⟨e, f, a⟩ := (ar.step nzh g7).push x (by omega)
    exact ⟨_, e, f, _, _, a, hh7.off nzh nzd _, by rw [List.length_append, lr]; rfl, row_take hz lr okr x0 x1⟩
  rintro H6 ⟨m6, r, ar, hh6, lr, okr⟩
  rw [List.length_map] at lr okr
  rw [List.take_length] at okr
  have er := ar.ex
  w_fin
  intro rt H8 _ s8 ert
  have g58 := ar.go.trans s8.go
  have hh8 := hh6.same s8
  w_fin
  refine ⟨h, d, ds, _, 3, rfl, hh8, by omega, by omega, fun p0 H9 p00 p01 hh9 g9 => ?_⟩
  obtain ⟨pn, hpn⟩ : ∃ pn : Nat, 1 + p0 = pn := ⟨(1 + p0).toNat, by omega⟩
  have hrt9 := g9.seqT (SqT.of (K := K) ert)
  w_fin
  rw [hpn]
  w_fin
  intro wl hwl
  refine itr_walk (lo := 0) (n := ((pn : Nat) : Int).toNat) (fun i H' => AccD K H9 wl (((List.range i).map (rowsE r 0)).map sideR) H') (AccD.start hwl) ?_ ?_
  · rintro i H10 hi ac
    w_fin
    intro t1 H11 f1 s11 e11
    w_fin
    intro t2 H12 f2 s12 e12
    w_fin
    intro t3 H13 f3 s13 e13
    w_fin
    have s1013 := (s11.trans s12).trans s13
    refine side_item (e := 0) (by decide) e13 (SqT.of ((s12.trans s13) _ _ e11)) (SqT.of (s13 _ _ e12)) (s1013.seqT (ac.same.seqT hrt9)) fun p hp => ?_
    refine (ac.step s1013).fin hp (by rw [List.length_map, List.length_map, List.length_range]; omega) fun H' a2 => ?_
    rw [List.range_succ, List.map_append, List.map_append]
    exact a2
  rintro H10 aw
  rw [Int.toNat_natCast] at aw
  obtain ⟨wxs, ewl, dwx⟩ := aw.ex
  w_fin
  intro wt H11 _ s11 ewt
  have s911 := aw.same.trans s11
  have hh11 := hh9.same s911
  have dwx11 := dwx.stay s11.tups
  w_fin
  refine ⟨h, d, ds, _, 3, rfl, hh11, by omega, by omega, fun q0 H12 q00 q01 hh12 g12 => ?_⟩
  obtain ⟨qn, hqn⟩ : ∃ qn : Nat, 1 + q0 = qn := ⟨(1 + q0).toNat, by omega⟩
  have hrt12 := g12.seqT (s911.seqT hrt9)
  w_fin
  rw [hqn]
  w_fin
  intro bl hbl
  refine itr_walk (lo := 0) (n := ((qn : Nat) : Int).toNat) (fun i H' => AccD K H12 bl (((List.range i).map (rowsE r 1)).map sideR) H') (AccD.start hbl) ?_ ?_
  · rintro i H13 hi ac
    w_fin
    intro t1 H14 f1 s14 e14
    w_fin
    intro t2 H15 f2 s15 e15
    w_fin
    intro t3 H16 f3 s16 e16
    w_fin
    have s1316 := (s14.trans s15).trans s16
    refine side_item (e := 1) (by decide) e16 (SqT.of ((s15.trans s16) _ _ e14)) (SqT.of (s16 _ _ e15)) (s1316.seqT (ac.same.seqT hrt12)) fun p hp => ?_
    refine (ac.step s1316).fin hp (by rw [List.length_map, List.length_map, List.length_range]; omega) fun H' a2 => ?_
    rw [List.range_succ, List.map_append, List.map_append]
    exact a2
  rintro H13 ab
  rw [Int.toNat_natCast] at ab
  obtain ⟨bxs, ebl, dbx⟩ := ab.ex
  w_fin
  intro bt H14 _ s14 ebt
  w_fin
  intro tk H15 _ s15 etk
  have s1215 := (ab.same.trans s14).trans s15
  have hh15 := hh12.same s1215
  have g515 := ((g58.trans g9).trans s911.go).trans (g12.trans s1215.go)
  have S15 := S5.go g515 nh
  have hla : SqT K H15 la (ls.map V.int) := g515.seqT (SqT.of ela)
  have hwt : SqT K H15 wt wxs := (g12.trans s1215.go).seqT (SqT.of ewt)
  have dw15 : DtAll K H15 wxs (((List.range pn).map (rowsE r 0)).map sideR) := dwx11.stay (g12.trans s1215.go).tups
  have hbt : SqT K H15 bt bxs := s15.seqT (SqT.of ebt)
  have db15 : DtAll K H15 bxs (((List.range qn).map (rowsE r 1)).map sideR) := dbx.stay (s14.trans s15).tups
  have htk : SqT K H15 tk [.str "task", .int D, .ref la, .ref wt, .ref bt] := SqT.of etk
  have lwx : wxs.length = pn := by rw [dw15.len]; simp
  have lbx : bxs.length = qn := by rw [db15.len]; simp
  obtain ⟨e, he⟩ : ∃ e, taskD D ls ((List.range pn).map (rowsE r 0)) ((List.range qn).map (rowsE r 1)) = e := ⟨_, rfl⟩
  have dtk : ∀ {H' : Hp}, TupsStay H15 H' → Dt K H' (.ref tk) e := fun t => he ▸ (task_dt htk hla hwt dw15 hbt db15).stay t
  have tp : ∀ {H' : Hp} {M : Addr → Prop}, TupsStay H15 H' → DnAll M K H' [.str "task", .int D, .ref la, .ref wt, .ref bt] [.str "task", .int D, tupI ls, sideD ((List.range pn).map (rowsE r 0)), sideD ((List.range qn).map (rowsE r 1))] := fun t =>
    DtAll.dn (.cons (.str _) (.cons (.int _) (.cons (.tup (t.seq hla) (DtAll.ints ls)) (.cons (.tup (t.seq hwt) (dw15.stay t)) (.cons (.tup (t.seq hbt) (db15.stay t)) .nil)))))
  have lok : ∀ m ∈ ls, 1 ≤ m ∧ m ≤ 60 := fun m hm => by have := lb m hm; omega
  have lab : LabOk D ls := ⟨by omega, lok, by
    have := prod3 ls 1 0 (by decide) (by decide) lb
    have e : (3 : Int) ^ (0 + ls.length) ≤ 81 := by
      rw [Nat.zero_add, lls]
      have : D = 2 ∨ D = 3 ∨ D = 4 := by omega
      rcases this with rfl | rfl | rfl <;> decide
    show (ls.map PyData.int).foldl (fun p m => p * numD m) 1 ≤ 4000
    omega⟩
  have gW := good_e okr 0 pn (by omega) (by omega)
  have gB := good_e okr 1 qn (by omega) (by omega)
  have tOk : isTask e = true := he ▸ task_ok (by omega) (by omega) lab gW gB
  have tS : Sized 1000 6 e := he ▸ (task_sized (by omega) (by omega) lok (by omega) gW gB).more (by decide) (by decide)
  have tW : WordOk e := he ▸ task_word _ _ _ _
  have ps : ∀ x ∈ [PyData.str "task", .int D, tupI ls, sideD ((List.range pn).map (rowsE r 0)), sideD ((List.range qn).map (rowsE r 1))], Sized 104 3 x := fun x hx => by
    obtain ⟨a1, a2, a3, a4, a5⟩ := task_parts_sized (D := D) (by omega) (by omega) lok (by omega) gW gB
    simp only [List.mem_cons, List.not_mem_nil, or_false] at hx
    rcases hx with rfl | rfl | rfl | rfl | rfl <;> assumption
  clear el s5 ela er s8 ert g58 aw ewl dwx s11 ewt s911 hh11 dwx11 ab ebl dbx s14 ebt s15 etk hh8 he
  have g215 := g25.trans g515
  w_fin
  refine ⟨h, d, ds, _, 4, rfl, hh15, by omega, by omega, fun c0 H16 c00 c01 hh16 g16 => ?_⟩
  w_fin
  intro ml H17 fm s17 em
  obtain ⟨x3, hx3, x31, x34⟩ : ∃ x3 : Int, (1 : Int) + (if decide (c0 = 0) = true then 1 else 0) = x3 ∧ 1 ≤ x3 ∧ x3 ≤ 2 := ⟨_, rfl, by split <;> omega, by split <;> omega⟩
  rw [hx3] at em
  obtain ⟨mo, hmo, mo1, mo4⟩ : ∃ mo : Int, atI [V.int 4, V.int 2, V.int x3] ((D : Int) - 2) = some (.int mo) ∧ 1 ≤ mo ∧ mo ≤ 4 := by
    have : D = 2 ∨ D = 3 ∨ D = 4 := by omega
    rcases this with rfl | rfl | rfl
    · exact ⟨4, rfl, by omega, by omega⟩
    · exact ⟨2, rfl, by omega, by omega⟩
    · exact ⟨x3, rfl, x31, by omega⟩
  w_fin
  refine st_ixL (SqL.of em) hmo ?_
  have hh17 := hh16.same s17
  have g17 := g16.trans s17.go
  clear em hmo
  w_fin
  refine fr_range (fun i σ H' => ∃ (m : Nat) (kv rv vv : Option V), σ = [some (.ref a), some (.ref h), some (.int D), some (.ref la), some (.ref rt), some (.ref wt), some (.ref bt), some (.ref tk), some (.int mo), kv, rv, vv, none, none, none, none] ∧ Hand H' h d ds m ∧ Go (· = h) H15 H' ∧ (0 < i → ∃ v, vv = some v)) ⟨_, none, none, none, rfl, hh17, g17, fun z => absurd z (Nat.lt_irrefl 0)⟩ ?_ ?_
  · rintro i σ H18 hi ⟨m, kv, rv, vv, rfl, hh18, g18, _⟩
    have wpos : (1 : Int) ≤ wxs.length ∧ (wxs.length : Int) ≤ 3 ∧ (1 : Int) ≤ bxs.length ∧ (bxs.length : Int) ≤ 3 := by omega
    have min4 : 0 ≤ (if (3 : Int) < mo then (3 : Int) else mo) ∧ (if (3 : Int) < mo then (3 : Int) else mo) ≤ 3 := by split <;> omega
    w_fin
    refine ⟨h, d, ds, m, _, rfl, hh18, by omega, by omega, fun r H19 r0 r1 hh19 g19 => ?_⟩
    obtain ⟨T, rfl⟩ : ∃ T : Nat, (T : Int) = r := ⟨r.toNat, by omega⟩
    have g19 := g18.trans g19
    have hwt19 := g19.seqT hwt
    have hbt19 := g19.seqT hbt
    w_fin
    refine ⟨h, d, ds, _, D, T, wxs.length, bxs.length, 0, rfl, hh19, by omega, by omega, by omega, by omega, by omega, by omega, fun vp H20 m20 v g20 hh20 hv vS => ?_⟩
    have g20 := g19.trans g20
    w_fin
    refine ⟨tk, vp, D, T, 0, v, e, _, _, _, _, rfl, S15.go g20 nh, dtk g20.tups, tOk, tW, tS, g20.seqT htk, hv, vS, by omega, by omega, by omega, by omega, fun H21 s21 => ?_⟩
    have g21 := g20.trans s21.go
    have hh21 := hh20.same s21
    w_fin
    refine iteF ?_
    w_fin
    refine st_two (fun c0 => ?_) (fun c0 => ?_)
    · have htk21 := g21.seqT htk
      w_fin
      intro tl H31 f31 s31 e31
      w_fin
      intro ft H32 f32 s32 e32
      w_fin
      have s3132 := s31.trans s32
      refine ⟨(· = h), .ref tl, .list _, ft, rfl, .lst (hand_out hh21 f31).1 (s32 _ _ e31) (tp (g21.trans s3132.go).tups), Nat.le_trans (sized_lst ps).2.2.2 (by simp), (fun w r e _ => nomatch e), rfl, fun HR s33 => ?_⟩
      have sR := s3132.trans s33
      have gR := g21.trans sR.go
      have hhR := hh21.same sR
      w_fin
      refine iteF ?_
      w_fin
      refine ⟨h, d, ds, _, mo, rfl, hhR, by omega, by omega, fun r2 H22 r20 r21 hh22 g22 => ?_⟩
      obtain ⟨T2, hT2⟩ : ∃ T2 : Nat, 1 + r2 = (T2 : Int) := ⟨(1 + r2).toNat, by omega⟩
      have g22 := gR.trans g22
      have hwt22 := g22.seqT hwt
      have hbt22 := g22.seqT hbt
      w_fin
      rw [hT2]
      w_fin
      refine ⟨h, d, ds, _, D, T2, bxs.length, wxs.length, 0, rfl, hh22, by omega, by omega, by omega, by omega, by omega, by omega, fun vq H23 m23 v2 g23 hh23 hv2 vS2 => ?_⟩
      have g23 := g22.trans g23
      w_fin
      refine ⟨tk, vq, D, T2, 1, v2, e, _, _, _, _, rfl, S15.go g23 nh, dtk g23.tups, tOk, tW, tS, g23.seqT htk, hv2, vS2, by omega, by omega, by omega, by omega, fun H24 s24 => ?_⟩
      w_fin
      refine iteF ?_
      w_fin
      exact ⟨_, _, _, _, rfl, hh23.same s24, g23.trans s24.go, fun _ => ⟨_, rfl⟩⟩
    · have gR := g21
      have hhR := hh21
      w_fin
      refine ⟨h, d, ds, _, mo, rfl, hhR, by omega, by omega, fun r2 H22 r20 r21 hh22 g22 => ?_⟩
      obtain ⟨T2, hT2⟩ : ∃ T2 : Nat, 1 + r2 = (T2 : Int) := ⟨(1 + r2).toNat, by omega⟩
      have g22 := gR.trans g22
      have hwt22 := g22.seqT hwt
      have hbt22 := g22.seqT hbt
      w_fin
      rw [hT2]
      w_fin
      refine ⟨h, d, ds, _, D, T2, bxs.length, wxs.length, 0, rfl, hh22, by omega, by omega, by omega, by omega, by omega, by omega, fun vq H23 m23 v2 g23 hh23 hv2 vS2 => ?_⟩
      have g23 := g22.trans g23
      w_fin
      refine ⟨tk, vq, D, T2, 1, v2, e, _, _, _, _, rfl, S15.go g23 nh, dtk g23.tups, tOk, tW, tS, g23.seqT htk, hv2, vS2, by omega, by omega, by omega, by omega, fun H24 s24 => ?_⟩
      w_fin
      refine iteF ?_
      w_fin
      exact ⟨_, _, _, _, rfl, hh23.same s24, g23.trans s24.go, fun _ => ⟨_, rfl⟩⟩
  · rintro σ H18 ⟨m, kv, rv, vv, rfl, hh18, g18, hv⟩
    obtain ⟨vx, rfl⟩ := hv (by decide)
    have htk18 := g18.seqT htk
    w_fin
    intro tc H19 s19 e19
    w_fin
    intro ft H20 _ s20 e20
    have e19 : SqT K H20 tc ([V.str "task", .int D, .ref la, .ref wt, .ref bt].take 4) := by rw [← cut_to]; exact s20.seqT e19
    w_fin
    refine ⟨(· = h), .ref tc, .tuple _, ft, rfl, .tup e19 ((tp (g18.trans (s19.trans s20).go).tups).take 4), Nat.le_trans (sized_tup fun x hx => ps x (List.mem_of_mem_take hx)).2.2.2 (by simp), word_len (by simp), rfl, fun H21 s21 => ?_⟩
    w_fin
    exact k H21
theorem ok_law {C : Addr} {f : Addr} {fd : FuncData} (B : Blt mg) (eLookError : Err K mg "LookError" C) (g_law_all : HasG P w K mg base 10 "_law_all" ["script"] (spLaw K)) (F : Fun K "law" "law" slaw f fd) : FnG P w K mg base 11 f fd ["script"] (spLaw K) := by
  have sc : FnScope ["script"] ["script"] (defScope slaw) := ⟨rfl, rfl, rfl, by decide +kernel, rfl, by decide +kernel, by decide +kernel⟩
  refine FnG.by F sc (fun vs H Q E h => ?_) (fun cdv A outer s H vs Q E hg hr h => ?_)
  · obtain ⟨_, _, rfl, _⟩ := h
    rfl
  obtain ⟨a, ns, rfl, hS, h63, S0, k⟩ := h
  refine ⟨_, (pss_one (ps_try_only rfl rfl ⟨rfl, by decide, .inl eLookError.g⟩ takes0 (fun W pn xe tk _ =>
      (pss_one (ps_ret (pcG g_law_all hg hr (pa_cons (pv 0) pa_nil)))))
      (fun _ _ _ _ _ _ _ => (pss_one (ps_ret pe_bl))))), ?_⟩
  exact ⟨_, rfl, a, ns, rfl, hS, h63, S0, fun H' => k H'⟩
end
/-! ### the top: the defs stand there as the text says -/
theorem def_mk {K : PySem.W.Frag} {h : Heap} {mg : Str → Option Value} {x : Str} {st : Stmt} {ps : List Str} {f : Addr} {od an : Option Addr} {sl : Array (Option Value)} {oc kV dc pm cd ct : Value} (X : K.In h) (G : h.Ns mainGlobals mg)
    (a : PySem.W.nsIn K mainGlobals x = some (some (.ref f))) (l : K.lookup f = some ⟨oc, od, .func (PySem.W.fnOf x x (defArgs st) (defBody st) (defScope st) .none kV dc pm an cd ct), sl⟩) (c : PySem.W.codeIn K cd x = true) (k : PySem.W.keepIn K (.ref f) = true)
    (b : ∀ (kV doc pm : Value) (an : Option Addr) (cdv ct : Value) (us : List Value), us.length = ps.length → bindArgs (PySem.W.fnOf x x (defArgs st) (defBody st) (defScope st) .none kV doc pm an cdv ct) ⟨us, []⟩ = pure (ps.zip us)) : Def K mg x st ps :=
  ⟨f, _, fun_mk l c k, PySem.W.mg_of X G a, (fun_mk l c k).binds b⟩
theorem all_mk {l : PySem.W.OpenLaw} {w : World} {K : PySem.W.Frag} {h : Heap} {mg : Str → Option Value} {fa f4 f5 f12 f13 f14 f15 f16 f17 f18 f20 f21 f22 f24 f25 f26 f27 f28 f29 f30 f31 f32 f33 f34 f35 CBadTask CLookError : Addr} (X : K.In h) (G : h.Ns mainGlobals mg) (hfa : mg "law" = some (.ref fa))
    {od4 an4 od5 an5 od12 an12 od13 an13 od14 an14 od15 an15 od16 an16 od17 an17 od18 an18 od20 an20 od21 an21 od22 an22 od24 an24 od25 an25 od26 an26 od27 an27 od28 an28 od29 an29 od30 an30 od31 an31 od32 an32 od33 an33 od34 an34 od35 an35 : Option Addr} {sl4 sl5 sl12 sl13 sl14 sl15 sl16 sl17 sl18 sl20 sl21 sl22 sl24 sl25 sl26 sl27 sl28 sl29 sl30 sl31 sl32 sl33 sl34 sl35 : Array (Option Value)} {oc4 kV4 dc4 pm4 cd4 ct4 oc5 kV5 dc5 pm5 cd5 ct5 oc12 kV12 dc12 pm12 cd12 ct12 oc13 kV13 dc13 pm13 cd13 ct13 oc14 kV14 dc14 pm14 cd14 ct14 oc15 kV15 dc15 pm15 cd15 ct15 oc16 kV16 dc16 pm16 cd16 ct16 oc17 kV17 dc17 pm17 cd17 ct17 oc18 kV18 dc18 pm18 cd18 ct18 oc20 kV20 dc20 pm20 cd20 ct20 oc21 kV21 dc21 pm21 cd21 ct21 oc22 kV22 dc22 pm22 cd22 ct22 oc24 kV24 dc24 pm24 cd24 ct24 oc25 kV25 dc25 pm25 cd25 ct25 oc26 kV26 dc26 pm26 cd26 ct26 oc27 kV27 dc27 pm27 cd27 ct27 oc28 kV28 dc28 pm28 cd28 ct28 oc29 kV29 dc29 pm29 cd29 ct29 oc30 kV30 dc30 pm30 cd30 ct30 oc31 kV31 dc31 pm31 cd31 ct31 oc32 kV32 dc32 pm32 cd32 ct32 oc33 kV33 dc33 pm33 cd33 ct33 oc34 kV34 dc34 pm34 cd34 ct34 oc35 kV35 dc35 pm35 cd35 ct35 : Value}
    (a4 : PySem.W.nsIn K mainGlobals "is_number" = some (some (.ref f4))) (l4 : K.lookup f4 = some ⟨oc4, od4, .func (PySem.W.fnOf "is_number" "is_number" (defArgs sis_number) (defBody sis_number) (defScope sis_number) .none kV4 dc4 pm4 an4 cd4 ct4), sl4⟩) (c4 : PySem.W.codeIn K cd4 "is_number" = true) (k4 : PySem.W.keepIn K (.ref f4) = true)
    (a5 : PySem.W.nsIn K mainGlobals "product_of" = some (some (.ref f5))) (l5 : K.lookup f5 = some ⟨oc5, od5, .func (PySem.W.fnOf "product_of" "product_of" (defArgs sproduct_of) (defBody sproduct_of) (defScope sproduct_of) .none kV5 dc5 pm5 an5 cd5 ct5), sl5⟩) (c5 : PySem.W.codeIn K cd5 "product_of" = true) (k5 : PySem.W.keepIn K (.ref f5) = true)
    (a12 : PySem.W.nsIn K mainGlobals "check_task" = some (some (.ref f12))) (l12 : K.lookup f12 = some ⟨oc12, od12, .func (PySem.W.fnOf "check_task" "check_task" (defArgs scheck_task) (defBody scheck_task) (defScope scheck_task) .none kV12 dc12 pm12 an12 cd12 ct12), sl12⟩) (c12 : PySem.W.codeIn K cd12 "check_task" = true) (k12 : PySem.W.keepIn K (.ref f12) = true)
    (a13 : PySem.W.nsIn K mainGlobals "other_side" = some (some (.ref f13))) (l13 : K.lookup f13 = some ⟨oc13, od13, .func (PySem.W.fnOf "other_side" "other_side" (defArgs sother_side) (defBody sother_side) (defScope sother_side) .none kV13 dc13 pm13 an13 cd13 ct13), sl13⟩) (c13 : PySem.W.codeIn K cd13 "other_side" = true) (k13 : PySem.W.keepIn K (.ref f13) = true)
    (a14 : PySem.W.nsIn K mainGlobals "is_task" = some (some (.ref f14))) (l14 : K.lookup f14 = some ⟨oc14, od14, .func (PySem.W.fnOf "is_task" "is_task" (defArgs sis_task) (defBody sis_task) (defScope sis_task) .none kV14 dc14 pm14 an14 cd14 ct14), sl14⟩) (c14 : PySem.W.codeIn K cd14 "is_task" = true) (k14 : PySem.W.keepIn K (.ref f14) = true)
    (a15 : PySem.W.nsIn K mainGlobals "are_labels" = some (some (.ref f15))) (l15 : K.lookup f15 = some ⟨oc15, od15, .func (PySem.W.fnOf "are_labels" "are_labels" (defArgs sare_labels) (defBody sare_labels) (defScope sare_labels) .none kV15 dc15 pm15 an15 cd15 ct15), sl15⟩) (c15 : PySem.W.codeIn K cd15 "are_labels" = true) (k15 : PySem.W.keepIn K (.ref f15) = true)
    (a16 : PySem.W.nsIn K mainGlobals "_are_inputs" = some (some (.ref f16))) (l16 : K.lookup f16 = some ⟨oc16, od16, .func (PySem.W.fnOf "_are_inputs" "_are_inputs" (defArgs s_are_inputs) (defBody s_are_inputs) (defScope s_are_inputs) .none kV16 dc16 pm16 an16 cd16 ct16), sl16⟩) (c16 : PySem.W.codeIn K cd16 "_are_inputs" = true) (k16 : PySem.W.keepIn K (.ref f16) = true)
    (a17 : PySem.W.nsIn K mainGlobals "_are_rows" = some (some (.ref f17))) (l17 : K.lookup f17 = some ⟨oc17, od17, .func (PySem.W.fnOf "_are_rows" "_are_rows" (defArgs s_are_rows) (defBody s_are_rows) (defScope s_are_rows) .none kV17 dc17 pm17 an17 cd17 ct17), sl17⟩) (c17 : PySem.W.codeIn K cd17 "_are_rows" = true) (k17 : PySem.W.keepIn K (.ref f17) = true)
    (a18 : PySem.W.nsIn K mainGlobals "is_row" = some (some (.ref f18))) (l18 : K.lookup f18 = some ⟨oc18, od18, .func (PySem.W.fnOf "is_row" "is_row" (defArgs sis_row) (defBody sis_row) (defScope sis_row) .none kV18 dc18 pm18 an18 cd18 ct18), sl18⟩) (c18 : PySem.W.codeIn K cd18 "is_row" = true) (k18 : PySem.W.keepIn K (.ref f18) = true)
    (a20 : PySem.W.nsIn K mainGlobals "network_showing" = some (some (.ref f20))) (l20 : K.lookup f20 = some ⟨oc20, od20, .func (PySem.W.fnOf "network_showing" "network_showing" (defArgs snetwork_showing) (defBody snetwork_showing) (defScope snetwork_showing) .none kV20 dc20 pm20 an20 cd20 ct20), sl20⟩) (c20 : PySem.W.codeIn K cd20 "network_showing" = true) (k20 : PySem.W.keepIn K (.ref f20) = true)
    (a21 : PySem.W.nsIn K mainGlobals "_tell" = some (some (.ref f21))) (l21 : K.lookup f21 = some ⟨oc21, od21, .func (PySem.W.fnOf "_tell" "_tell" (defArgs s_tell) (defBody s_tell) (defScope s_tell) .none kV21 dc21 pm21 an21 cd21 ct21), sl21⟩) (c21 : PySem.W.codeIn K cd21 "_tell" = true) (k21 : PySem.W.keepIn K (.ref f21) = true)
    (a22 : PySem.W.nsIn K mainGlobals "_end_or" = some (some (.ref f22))) (l22 : K.lookup f22 = some ⟨oc22, od22, .func (PySem.W.fnOf "_end_or" "_end_or" (defArgs s_end_or) (defBody s_end_or) (defScope s_end_or) .none kV22 dc22 pm22 an22 cd22 ct22), sl22⟩) (c22 : PySem.W.codeIn K cd22 "_end_or" = true) (k22 : PySem.W.keepIn K (.ref f22) = true)
    (a24 : PySem.W.nsIn K mainGlobals "_law_draws" = some (some (.ref f24))) (l24 : K.lookup f24 = some ⟨oc24, od24, .func (PySem.W.fnOf "_law_draws" "_law_draws" (defArgs s_law_draws) (defBody s_law_draws) (defScope s_law_draws) .none kV24 dc24 pm24 an24 cd24 ct24), sl24⟩) (c24 : PySem.W.codeIn K cd24 "_law_draws" = true) (k24 : PySem.W.keepIn K (.ref f24) = true)
    (a25 : PySem.W.nsIn K mainGlobals "_law_take" = some (some (.ref f25))) (l25 : K.lookup f25 = some ⟨oc25, od25, .func (PySem.W.fnOf "_law_take" "_law_take" (defArgs s_law_take) (defBody s_law_take) (defScope s_law_take) .none kV25 dc25 pm25 an25 cd25 ct25), sl25⟩) (c25 : PySem.W.codeIn K cd25 "_law_take" = true) (k25 : PySem.W.keepIn K (.ref f25) = true)
    (a26 : PySem.W.nsIn K mainGlobals "_law_drawn" = some (some (.ref f26))) (l26 : K.lookup f26 = some ⟨oc26, od26, .func (PySem.W.fnOf "_law_drawn" "_law_drawn" (defArgs s_law_drawn) (defBody s_law_drawn) (defScope s_law_drawn) .none kV26 dc26 pm26 an26 cd26 ct26), sl26⟩) (c26 : PySem.W.codeIn K cd26 "_law_drawn" = true) (k26 : PySem.W.keepIn K (.ref f26) = true)
    (a27 : PySem.W.nsIn K mainGlobals "_law_told" = some (some (.ref f27))) (l27 : K.lookup f27 = some ⟨oc27, od27, .func (PySem.W.fnOf "_law_told" "_law_told" (defArgs s_law_told) (defBody s_law_told) (defScope s_law_told) .none kV27 dc27 pm27 an27 cd27 ct27), sl27⟩) (c27 : PySem.W.codeIn K cd27 "_law_told" = true) (k27 : PySem.W.keepIn K (.ref f27) = true)
    (a28 : PySem.W.nsIn K mainGlobals "_law_places" = some (some (.ref f28))) (l28 : K.lookup f28 = some ⟨oc28, od28, .func (PySem.W.fnOf "_law_places" "_law_places" (defArgs s_law_places) (defBody s_law_places) (defScope s_law_places) .none kV28 dc28 pm28 an28 cd28 ct28), sl28⟩) (c28 : PySem.W.codeIn K cd28 "_law_places" = true) (k28 : PySem.W.keepIn K (.ref f28) = true)
    (a29 : PySem.W.nsIn K mainGlobals "_law_inputs" = some (some (.ref f29))) (l29 : K.lookup f29 = some ⟨oc29, od29, .func (PySem.W.fnOf "_law_inputs" "_law_inputs" (defArgs s_law_inputs) (defBody s_law_inputs) (defScope s_law_inputs) .none kV29 dc29 pm29 an29 cd29 ct29), sl29⟩) (c29 : PySem.W.codeIn K cd29 "_law_inputs" = true) (k29 : PySem.W.keepIn K (.ref f29) = true)
    (a30 : PySem.W.nsIn K mainGlobals "_law_due" = some (some (.ref f30))) (l30 : K.lookup f30 = some ⟨oc30, od30, .func (PySem.W.fnOf "_law_due" "_law_due" (defArgs s_law_due) (defBody s_law_due) (defScope s_law_due) .none kV30 dc30 pm30 an30 cd30 ct30), sl30⟩) (c30 : PySem.W.codeIn K cd30 "_law_due" = true) (k30 : PySem.W.keepIn K (.ref f30) = true)
    (a31 : PySem.W.nsIn K mainGlobals "_law_walk" = some (some (.ref f31))) (l31 : K.lookup f31 = some ⟨oc31, od31, .func (PySem.W.fnOf "_law_walk" "_law_walk" (defArgs s_law_walk) (defBody s_law_walk) (defScope s_law_walk) .none kV31 dc31 pm31 an31 cd31 ct31), sl31⟩) (c31 : PySem.W.codeIn K cd31 "_law_walk" = true) (k31 : PySem.W.keepIn K (.ref f31) = true)
    (a32 : PySem.W.nsIn K mainGlobals "_law_right" = some (some (.ref f32))) (l32 : K.lookup f32 = some ⟨oc32, od32, .func (PySem.W.fnOf "_law_right" "_law_right" (defArgs s_law_right) (defBody s_law_right) (defScope s_law_right) .none kV32 dc32 pm32 an32 cd32 ct32), sl32⟩) (c32 : PySem.W.codeIn K cd32 "_law_right" = true) (k32 : PySem.W.keepIn K (.ref f32) = true)
    (a33 : PySem.W.nsIn K mainGlobals "_law_refused" = some (some (.ref f33))) (l33 : K.lookup f33 = some ⟨oc33, od33, .func (PySem.W.fnOf "_law_refused" "_law_refused" (defArgs s_law_refused) (defBody s_law_refused) (defScope s_law_refused) .none kV33 dc33 pm33 an33 cd33 ct33), sl33⟩) (c33 : PySem.W.codeIn K cd33 "_law_refused" = true) (k33 : PySem.W.keepIn K (.ref f33) = true)
    (a34 : PySem.W.nsIn K mainGlobals "_law_all" = some (some (.ref f34))) (l34 : K.lookup f34 = some ⟨oc34, od34, .func (PySem.W.fnOf "_law_all" "_law_all" (defArgs s_law_all) (defBody s_law_all) (defScope s_law_all) .none kV34 dc34 pm34 an34 cd34 ct34), sl34⟩) (c34 : PySem.W.codeIn K cd34 "_law_all" = true) (k34 : PySem.W.keepIn K (.ref f34) = true)
    (a35 : PySem.W.nsIn K mainGlobals "law" = some (some (.ref f35))) (l35 : K.lookup f35 = some ⟨oc35, od35, .func (PySem.W.fnOf "law" "law" (defArgs slaw) (defBody slaw) (defScope slaw) .none kV35 dc35 pm35 an35 cd35 ct35), sl35⟩) (c35 : PySem.W.codeIn K cd35 "law" = true) (k35 : PySem.W.keepIn K (.ref f35) = true)
    (gBadTask : PySem.W.nsIn K mainGlobals "BadTask" = some (some (.ref CBadTask))) (xBadTask : PySem.W.excIn K CBadTask [.type "ValueError", .type "Exception", .type "BaseException", .type "object"] "ValueError.__new__" = true) (kBadTask : PySem.W.keepIn K (.ref CBadTask) = true) (bBadTask : PySem.W.subIn K (.ref CBadTask) (.type "BaseException") = some true) (tBadTask : PySem.W.typeIn K (.ref CBadTask) = some (.type "type")) (iBadTask : PySem.W.isClsIn K CBadTask = true)
    (gLookError : PySem.W.nsIn K mainGlobals "LookError" = some (some (.ref CLookError))) (xLookError : PySem.W.excIn K CLookError [.type "ValueError", .type "Exception", .type "BaseException", .type "object"] "ValueError.__new__" = true) (kLookError : PySem.W.keepIn K (.ref CLookError) = true) (bLookError : PySem.W.subIn K (.ref CLookError) (.type "BaseException") = some true) (tLookError : PySem.W.typeIn K (.ref CLookError) = some (.type "type")) (iLookError : PySem.W.isClsIn K CLookError = true)
    (sBadTaskBadTask : PySem.W.subIn K (.ref CBadTask) (.ref CBadTask) = some true)
    (zabs : PySem.W.nsIn K mainGlobals "abs" = some none)
    (zint : PySem.W.nsIn K mainGlobals "int" = some none)
    (zlen : PySem.W.nsIn K mainGlobals "len" = some none)
    (zrange : PySem.W.nsIn K mainGlobals "range" = some none)
    (ztuple : PySem.W.nsIn K mainGlobals "tuple" = some none)
    (zisinstance : PySem.W.nsIn K mainGlobals "isinstance" = some none)
    (zbool : PySem.W.nsIn K mainGlobals "bool" = some none)
    (zlist : PySem.W.nsIn K mainGlobals "list" = some none)
    (zall : PySem.W.nsIn K mainGlobals "all" = some none)
    (zzip : PySem.W.nsIn K mainGlobals "zip" = some none)
    (zstr : PySem.W.nsIn K mainGlobals "str" = some none)
    (zenumerate : PySem.W.nsIn K mainGlobals "enumerate" = some none)
    (zrepr : PySem.W.nsIn K mainGlobals "repr" = some none)
    (zmin : PySem.W.nsIn K mainGlobals "min" = some none)
    {tkLEAST_COLOURS : Tok} (qLEAST_COLOURS : PySem.W.nsIn K mainGlobals "LEAST_COLOURS" = some (some (.int 2 tkLEAST_COLOURS)))
    {tkMOST_COLOURS : Tok} (qMOST_COLOURS : PySem.W.nsIn K mainGlobals "MOST_COLOURS" = some (some (.int 4 tkMOST_COLOURS)))
    {tkMOST_INPUTS : Tok} (qMOST_INPUTS : PySem.W.nsIn K mainGlobals "MOST_INPUTS" = some (some (.int 4 tkMOST_INPUTS)))
    {tkMOST_LABELS : Tok} (qMOST_LABELS : PySem.W.nsIn K mainGlobals "MOST_LABELS" = some (some (.int 60 tkMOST_LABELS)))
    {tkMOST_ROWS : Tok} (qMOST_ROWS : PySem.W.nsIn K mainGlobals "MOST_ROWS" = some (some (.int 4000 tkMOST_ROWS)))
    (zsys : K.lookup sysModules = none) :
    ∃ fd : FuncData, K.lookup sysModules = none ∧ (∀ (s : Shared) (v : Value), BindsTo s fd ⟨[v], []⟩ [("script", v)]) ∧ ∀ base : Heap, K.In base → base.Ns mainGlobals mg → FnG l.prog w K mg base 11 fa fd ["script"] (spLaw K) := by
  have e := hfa.symm.trans (PySem.W.mg_of X G a35)
  cases e
  have B : Blt mg := ⟨PySem.W.mg_none_of X G zabs, PySem.W.mg_none_of X G zint, PySem.W.mg_none_of X G zlen, PySem.W.mg_none_of X G zrange, PySem.W.mg_none_of X G ztuple, PySem.W.mg_none_of X G zisinstance, PySem.W.mg_none_of X G zbool, PySem.W.mg_none_of X G zlist, PySem.W.mg_none_of X G zall, PySem.W.mg_none_of X G zzip, PySem.W.mg_none_of X G zstr, PySem.W.mg_none_of X G zenumerate, PySem.W.mg_none_of X G zrepr, PySem.W.mg_none_of X G zmin⟩
  have T : Cst mg := ⟨⟨_, PySem.W.mg_of X G qLEAST_COLOURS⟩, ⟨_, PySem.W.mg_of X G qMOST_COLOURS⟩, ⟨_, PySem.W.mg_of X G qMOST_INPUTS⟩, ⟨_, PySem.W.mg_of X G qMOST_LABELS⟩, ⟨_, PySem.W.mg_of X G qMOST_ROWS⟩⟩
  have eBadTask : Err K mg "BadTask" CBadTask := ⟨xBadTask, PySem.W.mg_of X G gBadTask, kBadTask, bBadTask, tBadTask⟩
  have eLookError : Err K mg "LookError" CLookError := ⟨xLookError, PySem.W.mg_of X G gLookError, kLookError, bLookError, tLookError⟩
  have hBadTaskBadTask := exm_of2 bBadTask iBadTask tBadTask sBadTaskBadTask
  have dis_number : Def K mg "is_number" sis_number ["value", "low", "high"] := def_mk X G a4 l4 c4 k4 fun _ _ _ _ _ _ us hl => match us, hl with | [_, _, _], _ => rfl
  have dproduct_of : Def K mg "product_of" sproduct_of ["numbers"] := def_mk X G a5 l5 c5 k5 fun _ _ _ _ _ _ us hl => match us, hl with | [_], _ => rfl
  have dcheck_task : Def K mg "check_task" scheck_task ["task"] := def_mk X G a12 l12 c12 k12 fun _ _ _ _ _ _ us hl => match us, hl with | [_], _ => rfl
  have dother_side : Def K mg "other_side" sother_side ["side"] := def_mk X G a13 l13 c13 k13 fun _ _ _ _ _ _ us hl => match us, hl with | [_], _ => rfl
  have dis_task : Def K mg "is_task" sis_task ["task"] := def_mk X G a14 l14 c14 k14 fun _ _ _ _ _ _ us hl => match us, hl with | [_], _ => rfl
  have dare_labels : Def K mg "are_labels" sare_labels ["D", "labels"] := def_mk X G a15 l15 c15 k15 fun _ _ _ _ _ _ us hl => match us, hl with | [_, _], _ => rfl
  have d_are_inputs : Def K mg "_are_inputs" s_are_inputs ["allowed", "labels"] := def_mk X G a16 l16 c16 k16 fun _ _ _ _ _ _ us hl => match us, hl with | [_, _], _ => rfl
  have d_are_rows : Def K mg "_are_rows" s_are_rows ["rows", "labels"] := def_mk X G a17 l17 c17 k17 fun _ _ _ _ _ _ us hl => match us, hl with | [_, _], _ => rfl
  have dis_row : Def K mg "is_row" sis_row ["row", "labels"] := def_mk X G a18 l18 c18 k18 fun _ _ _ _ _ _ us hl => match us, hl with | [_, _], _ => rfl
  have dnetwork_showing : Def K mg "network_showing" snetwork_showing ["task", "flaw"] := def_mk X G a20 l20 c20 k20 fun _ _ _ _ _ _ us hl => match us, hl with | [_, _], _ => rfl
  have d_tell : Def K mg "_tell" s_tell ["told", "D", "side", "branch"] := def_mk X G a21 l21 c21 k21 fun _ _ _ _ _ _ us hl => match us, hl with | [_, _, _, _], _ => rfl
  have d_end_or : Def K mg "_end_or" s_end_or ["end", "twin"] := def_mk X G a22 l22 c22 k22 fun _ _ _ _ _ _ us hl => match us, hl with | [_, _], _ => rfl
  have d_law_draws : Def K mg "_law_draws" s_law_draws ["script", "many"] := def_mk X G a24 l24 c24 k24 fun _ _ _ _ _ _ us hl => match us, hl with | [_, _], _ => rfl
  have d_law_take : Def K mg "_law_take" s_law_take ["hand", "many"] := def_mk X G a25 l25 c25 k25 fun _ _ _ _ _ _ us hl => match us, hl with | [_, _], _ => rfl
  have d_law_drawn : Def K mg "_law_drawn" s_law_drawn ["hand", "colours", "own", "other", "reach", "back"] := def_mk X G a26 l26 c26 k26 fun _ _ _ _ _ _ us hl => match us, hl with | [_, _, _, _, _, _], _ => rfl
  have d_law_told : Def K mg "_law_told" s_law_told ["branch", "nodes", "side", "up", "back"] := def_mk X G a27 l27 c27 k27 fun _ _ _ _ _ _ us hl => match us, hl with | [_, _, _, _, _], _ => rfl
  have d_law_places : Def K mg "_law_places" s_law_places ["nodes", "side"] := def_mk X G a28 l28 c28 k28 fun _ _ _ _ _ _ us hl => match us, hl with | [_, _], _ => rfl
  have d_law_inputs : Def K mg "_law_inputs" s_law_inputs ["nodes", "side"] := def_mk X G a29 l29 c29 k29 fun _ _ _ _ _ _ us hl => match us, hl with | [_, _], _ => rfl
  have d_law_due : Def K mg "_law_due" s_law_due ["colours", "word", "view"] := def_mk X G a30 l30 c30 k30 fun _ _ _ _ _ _ us hl => match us, hl with | [_, _, _], _ => rfl
  have d_law_walk : Def K mg "_law_walk" s_law_walk ["network", "side", "node", "reach", "back"] := def_mk X G a31 l31 c31 k31 fun _ _ _ _ _ _ us hl => match us, hl with | [_, _, _, _, _], _ => rfl
  have d_law_right : Def K mg "_law_right" s_law_right ["task", "word", "view", "reach"] := def_mk X G a32 l32 c32 k32 fun _ _ _ _ _ _ us hl => match us, hl with | [_, _, _, _], _ => rfl
  have d_law_refused : Def K mg "_law_refused" s_law_refused ["task", "flaw"] := def_mk X G a33 l33 c33 k33 fun _ _ _ _ _ _ us hl => match us, hl with | [_, _], _ => rfl
  have d_law_all : Def K mg "_law_all" s_law_all ["script"] := def_mk X G a34 l34 c34 k34 fun _ _ _ _ _ _ us hl => match us, hl with | [_], _ => rfl
  refine ⟨PySem.W.fnOf "law" "law" (defArgs slaw) (defBody slaw) (defScope slaw) .none kV35 dc35 pm35 an35 cd35 ct35, zsys, fun s v => .of_eq rfl, fun base _ _ => ?_⟩
  have gtake : Has l.prog w K mg base CX0 1 "_law_take" ["hand", "many"] (spTakeN K) := takeN (d_law_take.has fun f fd F => ok_take B F)
  have gdraws : Has l.prog w K mg base CX0 1 "_law_draws" ["script", "many"] (spDraws K) := d_law_draws.has fun f fd F => ok_draws B F
  have gnum : Has l.prog w K mg base CX0 1 "is_number" ["value", "low", "high"] (spNumber K) := dis_number.has fun f fd F => ok_number B F
  have gprod : Has l.prog w K mg base CX0 1 "product_of" ["numbers"] (spProduct K) := dproduct_of.has fun f fd F => ok_product F
  have grow : Has l.prog w K mg base CX0 2 "is_row" ["row", "labels"] (spRow K) := dis_row.has fun f fd F => ok_row B gnum F
  have grows : Has l.prog w K mg base CX0 3 "_are_rows" ["rows", "labels"] (spRows K) := d_are_rows.has fun f fd F => ok_rows B grow F
  have ginp : Has l.prog w K mg base CX0 4 "_are_inputs" ["allowed", "labels"] (spInputs K) := d_are_inputs.has fun f fd F => ok_inputs B T gnum grows F
  have glab : Has l.prog w K mg base CX0 2 "are_labels" ["D", "labels"] (spLabels K) := dare_labels.has fun f fd F => ok_labels B T gnum gprod F
  have gtb : Has l.prog w K mg base CX0 5 "is_task" ["task"] (spTaskB K) := dis_task.has fun f fd F => ok_taskb B glab ginp F
  have gct : Has l.prog w K mg base (L2N.CX l.prog w) 6 "check_task" ["task"] (spCheckT K CBadTask) := dcheck_task.has fun f fd F => ok_checkt eBadTask gtb F
  have gdrawn : Has l.prog w K mg base CX0 6 "_law_drawn" ["hand", "colours", "own", "other", "reach", "back"] (spDrawnV K 5) := has_drawn B d_law_drawn gtake 5
  have gtold : Has l.prog w K mg base CX0 6 "_law_told" ["branch", "nodes", "side", "up", "back"] (spTold K 5) := has_told B d_law_told 5
  have gplaces : Has l.prog w K mg base CX0 1 "_law_places" ["nodes", "side"] (spPlaces K) := d_law_places.has fun f fd F => ok_places B F
  have ginpv : Has l.prog w K mg base CX0 1 "_law_inputs" ["nodes", "side"] (spInputsV K) := d_law_inputs.has fun f fd F => ok_inputsv B F
  have gdue : Has l.prog w K mg base CX0 7 "_law_due" ["colours", "word", "view"] (spDue K) := d_law_due.has fun f fd F => ok_due B gtold gplaces ginpv F
  have gwalk : Has l.prog w K mg base CX0 6 "_law_walk" ["network", "side", "node", "reach", "back"] (spWalkV K 5) := has_walk B d_law_walk 5
  have goth : Has l.prog w K mg base CX0 1 "other_side" ["side"] (spOtherW K) := dother_side.has fun f fd F => ok_otherw F
  have gtell : Has l.prog w K mg base CX0 6 "_tell" ["told", "D", "side", "branch"] (spTellP K 5) := has_tell B goth d_tell 5
  have gend : Has l.prog w K mg base CX0 1 "_end_or" ["end", "twin"] (spEndOr K) := d_end_or.has fun f fd F => ok_endor F
  have gshow : Has l.prog w K mg base (L2N.CX l.prog w) 7 "network_showing" ["task", "flaw"] (spShow K CBadTask) := dnetwork_showing.has fun f fd F => ok_show B gct gtell gend F
  have gright : HasG l.prog w K mg base 9 "_law_right" ["task", "word", "view", "reach"] (spRightV K) := d_law_right.hasG fun f fd F => ok_rightv B gdue gshow gwalk F
  have gref : Has l.prog w K mg base CX0 8 "_law_refused" ["task", "flaw"] (spRefV K) := d_law_refused.has fun f fd F => ok_refv B eBadTask hBadTaskBadTask gshow F
  have gall : HasG l.prog w K mg base 10 "_law_all" ["script"] (spLaw K) := d_law_all.hasG fun f fd F => ok_all B gdraws gtake gdrawn gright gref F
  exact ok_law B eLookError gall (fun_mk l35 c35 k35)
end Lw
open PySem PySem.W PyProof.Rows
set_option maxRecDepth 100000 in
set_option maxHeartbeats 0 in
theorem PySem.Challenge.cw_looksfar_k19_network_showing_holds : PySem.Challenge.rw_looksfar_k19_network_showing.Holds := by
  w_on; o_law; k_head; (case hw => w_witness2)
  k_fill
  refine LG.walk_S (l := PySem.Challenge.rw_looksfar_k19_network_showing) (n := 63) (k := 11) (sp := Lw.spLaw) (x := "script") rfl (by decide) rfl ⟨rfl, by decide, by decide⟩ (by decide +kernel) (fun w h Y => PySem.W.kIn_of Y) ?F (fun K H a ns hl S hS => ⟨a, ns, rfl, hS, hl, S, fun _ => rfl⟩)
  case F =>
    intro w mg fa h KX G hmg
    refine' Lw.all_mk KX G hmg ?a4 ?l4 ?c4 ?k4 ?a5 ?l5 ?c5 ?k5 ?a12 ?l12 ?c12 ?k12 ?a13 ?l13 ?c13 ?k13 ?a14 ?l14 ?c14 ?k14 ?a15 ?l15 ?c15 ?k15 ?a16 ?l16 ?c16 ?k16 ?a17 ?l17 ?c17 ?k17 ?a18 ?l18 ?c18 ?k18 ?a20 ?l20 ?c20 ?k20 ?a21 ?l21 ?c21 ?k21 ?a22 ?l22 ?c22 ?k22 ?a24 ?l24 ?c24 ?k24 ?a25 ?l25 ?c25 ?k25 ?a26 ?l26 ?c26 ?k26 ?a27 ?l27 ?c27 ?k27 ?a28 ?l28 ?c28 ?k28 ?a29 ?l29 ?c29 ?k29 ?a30 ?l30 ?c30 ?k30 ?a31 ?l31 ?c31 ?k31 ?a32 ?l32 ?c32 ?k32 ?a33 ?l33 ?c33 ?k33 ?a34 ?l34 ?c34 ?k34 ?a35 ?l35 ?c35 ?k35 ?gBadTask ?xBadTask ?kBadTask ?bBadTask ?tBadTask ?iBadTask ?gLookError ?xLookError ?kLookError ?bLookError ?tLookError ?iLookError ?sBadTaskBadTask ?zabs ?zint ?zlen ?zrange ?ztuple ?zisinstance ?zbool ?zlist ?zall ?zzip ?zstr ?zenumerate ?zrepr ?zmin ?qLEAST_COLOURS ?qMOST_COLOURS ?qMOST_INPUTS ?qMOST_LABELS ?qMOST_ROWS ?zsys
    (case a4 => k_is)
    (case l4 => k_is)
    (case c4 => k_is)
    (case k4 => k_is)
    (case a5 => k_is)
    (case l5 => k_is)
    (case c5 => k_is)
    (case k5 => k_is)
    (case a12 => k_is)
    (case l12 => k_is)
    (case c12 => k_is)
    (case k12 => k_is)
    (case a13 => k_is)
    (case l13 => k_is)
    (case c13 => k_is)
    (case k13 => k_is)
    (case a14 => k_is)
    (case l14 => k_is)
    (case c14 => k_is)
    (case k14 => k_is)
    (case a15 => k_is)
    (case l15 => k_is)
    (case c15 => k_is)
    (case k15 => k_is)
    (case a16 => k_is)
    (case l16 => k_is)
    (case c16 => k_is)
    (case k16 => k_is)
    (case a17 => k_is)
    (case l17 => k_is)
    (case c17 => k_is)
    (case k17 => k_is)
    (case a18 => k_is)
    (case l18 => k_is)
    (case c18 => k_is)
    (case k18 => k_is)
    (case a20 => k_is)
    (case l20 => k_is)
    (case c20 => k_is)
    (case k20 => k_is)
    (case a21 => k_is)
    (case l21 => k_is)
    (case c21 => k_is)
    (case k21 => k_is)
    (case a22 => k_is)
    (case l22 => k_is)
    (case c22 => k_is)
    (case k22 => k_is)
    (case a24 => k_is)
    (case l24 => k_is)
    (case c24 => k_is)
    (case k24 => k_is)
    (case a25 => k_is)
    (case l25 => k_is)
    (case c25 => k_is)
    (case k25 => k_is)
    (case a26 => k_is)
    (case l26 => k_is)
    (case c26 => k_is)
    (case k26 => k_is)
    (case a27 => k_is)
    (case l27 => k_is)
    (case c27 => k_is)
    (case k27 => k_is)
    (case a28 => k_is)
    (case l28 => k_is)
    (case c28 => k_is)
    (case k28 => k_is)
    (case a29 => k_is)
    (case l29 => k_is)
    (case c29 => k_is)
    (case k29 => k_is)
    (case a30 => k_is)
    (case l30 => k_is)
    (case c30 => k_is)
    (case k30 => k_is)
    (case a31 => k_is)
    (case l31 => k_is)
    (case c31 => k_is)
    (case k31 => k_is)
    (case a32 => k_is)
    (case l32 => k_is)
    (case c32 => k_is)
    (case k32 => k_is)
    (case a33 => k_is)
    (case l33 => k_is)
    (case c33 => k_is)
    (case k33 => k_is)
    (case a34 => k_is)
    (case l34 => k_is)
    (case c34 => k_is)
    (case k34 => k_is)
    (case a35 => k_is)
    (case l35 => k_is)
    (case c35 => k_is)
    (case k35 => k_is)
    (case gBadTask => k_is)
    (case xBadTask => k_exc)
    (case kBadTask => k_is)
    (case bBadTask => k_is)
    (case tBadTask => k_is)
    (case iBadTask => k_is)
    (case gLookError => k_is)
    (case xLookError => k_exc)
    (case kLookError => k_is)
    (case bLookError => k_is)
    (case tLookError => k_is)
    (case iLookError => k_is)
    (case sBadTaskBadTask => first | rfl | k_is)
    (case zabs => k_is)
    (case zint => k_is)
    (case zlen => k_is)
    (case zrange => k_is)
    (case ztuple => k_is)
    (case zisinstance => k_is)
    (case zbool => k_is)
    (case zlist => k_is)
    (case zall => k_is)
    (case zzip => k_is)
    (case zstr => k_is)
    (case zenumerate => k_is)
    (case zrepr => k_is)
    (case zmin => k_is)
    (case qLEAST_COLOURS => k_is)
    (case qMOST_COLOURS => k_is)
    (case qMOST_INPUTS => k_is)
    (case qMOST_LABELS => k_is)
    (case qMOST_ROWS => k_is)
    (case zsys => rfl)
